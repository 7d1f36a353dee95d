/-
  The program's header of layer 3 (as landed in 3f6d5d6e).
-/
import Derived.Test.YtnmhkjgcfhcmpaaDoorFrmPh
import Derived.Test.YtnmhkjgcfhcmpaaDoorNumPs
namespace Go.Proofs.YtnmhkjgcfhcmpaaDoor
open Go.RowKit
namespace Frm
open Num

/-- what is told of bytes' header -/
def HdrOk (b : List UInt8) (k h n : Int) : Prop :=
  (k = 0 ∧ h = 0 ∧ n = 0 ∧ nextY b = (0, [], 0)) ∨ (k = 2 ∧ h = 0 ∧ n = 0 ∧ b ≠ [] ∧ nextY b = (2, [], junkN b)) ∨
  (k = 1 ∧ ∃ p m : Nat, h = p ∧ n = m ∧ m ≠ 0 ∧ m ≤ 8000 ∧ p ≤ 17 ∧ p ≤ b.length ∧ p = 12 + (showL (m : Int)).length + 1 ∧ b ≠ [] ∧
    nextY b = (if b.length < p + m + 7 then (0, [], 0) else if putE ((b.drop p).take m) = 0 ∧ putB ((b.drop p).take m) = b.take (p + m + 7) then (1, (b.drop p).take m, p + m + 7) else (2, [], junkN b)))

theorem strip_prefix (s p : List UInt8) : Lib.hasPrefix s p = p.isPrefixOf s := rfl
theorem pre_str : (⟨#[56, 61, 70, 73, 88, 46, 52, 46, 52, 1, 57, 61]⟩ : ByteArray).data.toList = pre := rfl
theorem good_tests {t : List UInt8} : goodT t ↔ (parseE t != 0) = false ∧ decide (parseV t < 1) = false ∧ decide (8000 < parseV t) = false := by
  unfold goodT
  rw [bne_eq_false_iff_eq, decide_eq_false_iff_not, decide_eq_false_iff_not]
  omega

set_option maxRecDepth 100000 in
set_option maxHeartbeats 2000000 in
/-- too few bytes for the beginning -/
theorem header_short (a : Option Addr) (cap : Nat) (b : List UInt8) (w : World) (hby : BytesAt w a cap b) (h12 : b.length < 12) :
    Calls Tryd.prog 20 #[.slice a b.length cap] w fun e w' => ∃ k h n, e = .returned (.tuple #[.int .i64 k, .int .i64 h, .int .i64 n]) ∧ HdrOk b k h n ∧ Below w.heap.size w w' := by
  have HF := Lib.hid hby
  clear hby
  have kc := fun (w : World) (C : Array Value) (n c : Nat) => Lib.run_convert_bytes_const (P := Tryd.prog) w 22 5 C n c Tryd.underlying22 Tryd.underlying5
  have HC := Lib.hid (fun a2 c2 W => by_CutPrefix_short a a2 b.length cap 12 c2 h12 (by decide) W)
  have hnp : pre.isPrefixOf b = false := by
    cases h : pre.isPrefixOf b
    · rfl
    · have := (List.isPrefixOf_iff_prefix.1 h).length_le
      have e : pre.length = 12 := rfl
      omega
  have HS := Lib.hid (fun W => Tryd.strings_HasPrefix ⟨#[56, 61, 70, 73, 88, 46, 52, 46, 52, 1, 57, 61]⟩ ⟨b.toArray⟩ W)
  have hdl : decide ((b.length : Int) < 12) = true := decide_eq_true (by omega)
  have cv : ∀ o, (convert 22 9 (.slice a b.length cap)).run Tryd.prog (w.alloc o) = .ok (.string ⟨b.toArray⟩) (w.alloc o) := fun o =>
    string_of (P := Tryd.prog) Tryd.underlying22 Tryd.underlying5 Tryd.underlying9 (HF.out.later ((Below.refl _ w).alloc (Nat.le_refl _) o)) _ rfl
  cases hp : b.isPrefixOf pre
  · have HN := Lib.hid (next_off hnp (fun _ => hp))
    have HQ : Hid (Lib.hasPrefix (⟨#[56, 61, 70, 73, 88, 46, 52, 46, 52, 1, 57, 61]⟩ : ByteArray).data.toList (⟨b.toArray⟩ : ByteArray).data.toList = false) := Lib.hid hp
    rw [HQ.out] at HS
    clear hp hnp HQ
    go_enter Tryd.func20, Tryd.ntmps20
    go_wp2_with fail
    refine (HC.out _ _ _).mono ?_
    rintro e w1 ⟨rfl, rfl⟩
    go_wp2_with fail
    refine (HS.out _).mono ?_
    rintro e w1 ⟨rfl, rfl⟩
    go_wp2_with fail
    go_ret3
    exact ⟨_, _, _, rfl, .inr (.inl ⟨rfl, rfl, rfl, HN.out⟩), (Below.refl _ _).alloc (Nat.le_refl _) _⟩
  · have HN := Lib.hid (next_need h12 hp)
    have HQ : Hid (Lib.hasPrefix (⟨#[56, 61, 70, 73, 88, 46, 52, 46, 52, 1, 57, 61]⟩ : ByteArray).data.toList (⟨b.toArray⟩ : ByteArray).data.toList = true) := Lib.hid hp
    rw [HQ.out] at HS
    clear hp hnp HQ
    go_enter Tryd.func20, Tryd.ntmps20
    go_wp2_with fail
    refine (HC.out _ _ _).mono ?_
    rintro e w1 ⟨rfl, rfl⟩
    go_wp2_with fail
    refine (HS.out _).mono ?_
    rintro e w1 ⟨rfl, rfl⟩
    go_wp2_with fail
    go_ret3
    exact ⟨_, _, _, rfl, .inl ⟨rfl, rfl, rfl, HN.out⟩, (Below.refl _ _).alloc (Nat.le_refl _) _⟩

set_option maxRecDepth 100000 in
set_option maxHeartbeats 2000000 in
/-- bytes that don't begin with it -/
theorem header_off (a : Option Addr) (cap : Nat) (b : List UInt8) (w : World) (hby : BytesAt w a cap b) (h12 : 12 ≤ b.length) (hp : pre.isPrefixOf b = false) :
    Calls Tryd.prog 20 #[.slice a b.length cap] w fun e w' => ∃ k h n, e = .returned (.tuple #[.int .i64 k, .int .i64 h, .int .i64 n]) ∧ HdrOk b k h n ∧ Below w.heap.size w w' := by
  have HF := Lib.hid hby
  obtain ⟨bb, off, rfl, _⟩ := hby.at (by omega)
  clear hby
  have kc := fun (w : World) (C : Array Value) (n c : Nat) => Lib.run_convert_bytes_const (P := Tryd.prog) w 22 5 C n c Tryd.underlying22 Tryd.underlying5
  have HC := Lib.hid (fun b2 o2 c2 W h1 h2 => by_CutPrefix_miss bb off cap b2 o2 c2 b pre b.length 12 rfl rfl W h1 h2 hp)
  have HN := Lib.hid (next_off hp (fun h => absurd h (by omega)))
  have hdl : decide ((b.length : Int) < 12) = false := decide_eq_false (by omega)
  clear hp
  go_enter Tryd.func20, Tryd.ntmps20
  go_wp2_with fail
  refine (HC.out _ _ _ _ (HF.out.later ((Below.refl _ w).alloc (Nat.le_refl _) _)) (pre_new w _ _ (by rfl))).mono ?_
  rintro e w1 ⟨rfl, rfl⟩
  go_wp2_with fail
  go_ret3
  exact ⟨_, _, _, rfl, .inr (.inl ⟨rfl, rfl, rfl, HN.out⟩), (Below.refl _ _).alloc (Nat.le_refl _) _⟩

theorem textT_len (r : List UInt8) (h : endT r = true) : (textT r).length = ahead 1 (r.take 5) := by
  have := (end_iff r).1 h
  unfold textT
  rw [List.length_take]
  omega

set_option maxRecDepth 100000 in
set_option maxHeartbeats 4000000 in
/-- bytes that begin with it -/
theorem header_on (a : Option Addr) (cap : Nat) (b : List UInt8) (w : World) (hby : BytesAt w a cap b) (hlen : b.length ≤ 1000000) (hl : Laid w) (hp : pre.isPrefixOf b = true) :
    Calls Tryd.prog 20 #[.slice a b.length cap] w fun e w' => ∃ k h n, e = .returned (.tuple #[.int .i64 k, .int .i64 h, .int .i64 n]) ∧ HdrOk b k h n ∧ Below w.heap.size w w' := by
  have HF := Lib.hid hby
  have HL := Lib.hid hl
  have h12 : 12 ≤ b.length := (List.isPrefixOf_iff_prefix.1 hp).length_le
  have hbr := is_pre hp
  obtain ⟨bb, off, rfl, _⟩ := hby.at (by omega)
  clear hby hl
  have kc := fun (w : World) (C : Array Value) (n c : Nat) => Lib.run_convert_bytes_const (P := Tryd.prog) w 22 5 C n c Tryd.underlying22 Tryd.underlying5
  have HC := Lib.hid (fun b2 o2 c2 W h1 h2 => by_CutPrefix_hit bb off cap b2 o2 c2 b pre b.length 12 rfl rfl W h1 h2 (by omega) hp)
  have hrl : (b.drop 12).length = b.length - 12 := List.length_drop ..
  obtain ⟨r, hr⟩ : ∃ r, b.drop 12 = r := ⟨_, rfl⟩
  rw [hr] at HC hbr hrl
  have HBR := Lib.hid hbr
  clear hp hbr hr
  go_enter Tryd.func20, Tryd.ntmps20
  go_wp2_with fail
  refine (HC.out _ _ _ _ (HF.out.later ((Below.refl _ w).alloc (Nat.le_refl _) _)) (pre_new w _ _ (by rfl))).mono ?_
  rintro e w1 ⟨o', c', rfl, hrest, hb1⟩
  have HB1 := Lib.hid (((Below.refl _ w).alloc (Nat.le_refl _) _).trans (hb1.mono (by simp)))
  have HR1 := Lib.hid (hrest _ (HF.out.later HB1.out))
  have hrc := HR1.out.cap
  clear hrest hb1 HC
  have hrn : b.length - 12 = r.length := hrl.symm
  rw [hrn]
  obtain ⟨q, hq⟩ : ∃ q : Nat, min r.length 5 = q := ⟨_, rfl⟩
  have hq5 : q ≤ 5 := by omega
  have hqr : q ≤ r.length := by omega
  have hqi : min (r.length : Int) 5 = (q : Int) := by omega
  have HRN := Lib.hid hrn
  have HQ := Lib.hid hq
  have HTL : Hid ((r.take 5).length = q) := Lib.hid (by rw [List.length_take, Nat.min_comm]; exact hq)
  clear hrn hrl hq
  go_wp2_with fail
  have HA : Hid (BytesAt (w1.alloc (.cells #[.int .u8 1] 5)) (some ⟨bb, o', none⟩) c' (r.take 5)) := Lib.hid ((HR1.out.later ((Below.refl _ _).alloc (Nat.le_refl _) _)).take 5)
  have HON : Hid (BytesAt (w1.alloc (.cells #[.int .u8 1] 5)) (some ⟨w1.heap.size, 0, none⟩) 1 [1]) := Lib.hid (one_byte w1 _ 1 1 rfl)
  have HB2 := Lib.hid (HB1.out.alloc HB1.out.size (.cells #[.int .u8 1] 5))
  by_cases hq0 : q = 0
  · subst hq0
    have HN : Hid (nextY b = (0, [], 0)) := Lib.hid (next_nil (by
      have h := HBR.out
      have : r = [] := List.length_eq_zero_iff.1 (by have := HQ.out; omega)
      rwa [this] at h))
    refine (by_Cut_none bb o' c' 1 _ _ _ HON.out).mono ?_
    rintro e w3 ⟨rfl, rfl⟩
    go_wp2_with fail
    go_ret3
    exact ⟨_, _, _, rfl, .inl ⟨rfl, rfl, rfl, HN.out⟩, HB2.out⟩
  have HRNE : Hid (r ≠ []) := Lib.hid (fun e => by rw [e] at hqr; simp at hqr; omega)
  have HCH := Lib.hid (bytes_Cut_hit 1 _ c' (r.take 5) _ 1 _ HA.out HON.out (by rw [HTL.out]; omega) (by rw [HTL.out]; omega))
  have HCM := Lib.hid (bytes_Cut_miss 1 _ c' (r.take 5) _ 1 _ HA.out HON.out (by rw [HTL.out]; omega))
  unfold CutHit at HCH
  rw [HTL.out] at HCH HCM
  cases hend : endT r
  · have HEND := Lib.hid hend
    have hah : ¬ ahead 1 (r.take 5) < q := by rw [← HTL.out, ← end_iff, hend]; simp
    have HTN : Hid ((textT r).length = q) := Lib.hid (by rw [(text_open hend).1]; exact HTL.out)
    have HT : Hid (BytesAt (w1.alloc (.cells #[.int .u8 1] 5)) (some ⟨bb, o', none⟩) c' (textT r)) := Lib.hid (by rw [(text_open hend).1]; exact HA.out)
    have HB3 := HB2
    clear hend
    refine (HCM.out hah).mono ?_
    rintro e w3 ⟨rfl, rfl⟩
    have dq : ((q : Int) == 0) = false := beq_eq_false_iff_ne.2 (by omega)
    clear HCH HCM hah
    go_wp2_with (with_reducible refine wpList_string_of rfl 22 9 5 (.tmp 48) rfl Tryd.underlying22 Tryd.underlying9 Tryd.underlying5 _ _ _ _ rfl HT.out HTN.out ?_)
    refine (parse_any ⟨(textT r).toArray⟩ (by show (textT r).length ≤ _; have := HTN.out; omega) _ (HL.out.below HB3.out)).mono ?_
    obtain ⟨pe, hpe⟩ : ∃ pe, parseE (⟨(textT r).toArray⟩ : ByteArray).data.toList = pe := ⟨_, rfl⟩
    obtain ⟨pv, hpv⟩ : ∃ pv, parseV (⟨(textT r).toArray⟩ : ByteArray).data.toList = pv := ⟨_, rfl⟩
    rw [hpe, hpv]
    have hpe' : parseE (textT r) = pe := hpe
    have hpv' : parseV (textT r) = pv := hpv
    have HG := Lib.hid (good_tests (t := textT r))
    rw [hpe', hpv'] at HG
    have HPV := Lib.hid hpv'
    clear hpe hpv hpe' hpv'
    rintro e w4 ⟨rfl, hb4⟩
    have HB4 := Lib.hid (HB3.out.trans (hb4.mono HB3.out.size))
    clear hb4
    cases d1 : (pe != 0)
    · cases d2 : decide (pv < 1)
      · cases d3 : decide (8000 < pv)
        · have HGOOD := Lib.hid (HG.out.2 ⟨d1, d2, d3⟩)
          have hv8 : pv ≤ 8000 := by have := of_decide_eq_false d3; omega
          have hv1 : 1 ≤ pv := by have := of_decide_eq_false d2; omega
          clear HG
          have HN := Lib.hid (next_more HBR.out HGOOD.out HEND.out)
          go_wp2_with fail
          go_ret3
          exact ⟨_, _, _, rfl, .inl ⟨rfl, rfl, rfl, HN.out⟩, HB4.out⟩
        · have HN : Hid (b ≠ [] ∧ nextY b = (2, [], junkN b)) := Lib.hid ⟨(next_pre HBR.out).1, next_bad HBR.out HRNE.out (fun h => by have := HG.out.1 h; rw [d3] at this; cases this.2.2)⟩
          clear HG
          go_wp2_with fail
          go_ret3
          exact ⟨_, _, _, rfl, .inr (.inl ⟨rfl, rfl, rfl, HN.out⟩), HB4.out⟩
      · have HN : Hid (b ≠ [] ∧ nextY b = (2, [], junkN b)) := Lib.hid ⟨(next_pre HBR.out).1, next_bad HBR.out HRNE.out (fun h => by have := HG.out.1 h; rw [d2] at this; cases this.2.1)⟩
        clear HG
        go_wp2_with fail
        go_ret3
        exact ⟨_, _, _, rfl, .inr (.inl ⟨rfl, rfl, rfl, HN.out⟩), HB4.out⟩
    · have HN : Hid (b ≠ [] ∧ nextY b = (2, [], junkN b)) := Lib.hid ⟨(next_pre HBR.out).1, next_bad HBR.out HRNE.out (fun h => by have := HG.out.1 h; rw [d1] at this; cases this.1)⟩
      clear HG
      go_wp2_with fail
      go_ret3
      exact ⟨_, _, _, rfl, .inr (.inl ⟨rfl, rfl, rfl, HN.out⟩), HB4.out⟩
  · have HEND := Lib.hid hend
    have hah : ahead 1 (r.take 5) < q := by rw [← HTL.out]; exact (end_iff r).1 hend
    have HCH2 := Lib.hid (HCH.out hah)
    have hta := textT_len r hend
    have HTT : Hid (textT r = (r.take 5).take (ahead 1 (r.take 5))) := Lib.hid rfl
    obtain ⟨m1, hm1⟩ : ∃ m1, ahead 1 (r.take 5) = m1 := ⟨_, rfl⟩
    rw [hm1] at HCH2 hta hah HTT
    have HTN := Lib.hid hta
    clear hend hta hm1 HCH HCM
    refine HCH2.out.mono ?_
    rintro e w3 ⟨a3, c3, rfl, _, hb3⟩
    have HB3 := Lib.hid (HB2.out.trans (hb3.mono HB2.out.size))
    have HT : Hid (BytesAt w3 (some ⟨bb, o', none⟩) c' (textT r)) := Lib.hid (by rw [HTT.out]; exact (HA.out.later hb3).take m1)
    clear hb3 HCH2 HTT
    cases dq : ((m1 : Int) == 0)
    · go_wp2_with (with_reducible refine wpList_string_of rfl 22 9 5 (.tmp 48) rfl Tryd.underlying22 Tryd.underlying9 Tryd.underlying5 _ _ _ _ rfl HT.out HTN.out ?_)
      refine (parse_any ⟨(textT r).toArray⟩ (by show (textT r).length ≤ _; have := HTN.out; omega) _ (HL.out.below HB3.out)).mono ?_
      obtain ⟨pe, hpe⟩ : ∃ pe, parseE (⟨(textT r).toArray⟩ : ByteArray).data.toList = pe := ⟨_, rfl⟩
      obtain ⟨pv, hpv⟩ : ∃ pv, parseV (⟨(textT r).toArray⟩ : ByteArray).data.toList = pv := ⟨_, rfl⟩
      rw [hpe, hpv]
      have hpe' : parseE (textT r) = pe := hpe
      have hpv' : parseV (textT r) = pv := hpv
      have HG := Lib.hid (good_tests (t := textT r))
      rw [hpe', hpv'] at HG
      have HPV := Lib.hid hpv'
      clear hpe hpv hpe' hpv'
      rintro e w4 ⟨rfl, hb4⟩
      have HB4 := Lib.hid (HB3.out.trans (hb4.mono HB3.out.size))
      clear hb4
      cases d1 : (pe != 0)
      · cases d2 : decide (pv < 1)
        · cases d3 : decide (8000 < pv)
          · have HGOOD := Lib.hid (HG.out.2 ⟨d1, d2, d3⟩)
            have hv8 : pv ≤ 8000 := by have := of_decide_eq_false d3; omega
            have hv1 : 1 ≤ pv := by have := of_decide_eq_false d2; omega
            clear HG
            have HT2 := Lib.hid (next_there HBR.out HGOOD.out HEND.out)
            go_wp2_with fail
            go_ret3
            refine ⟨_, _, _, rfl, .inr (.inr ⟨rfl, ?_⟩), HB4.out⟩
            obtain ⟨m, p, m0, m8, hm, hp, h4, hpb, hs, hn⟩ := HT2.out
            have htn := HTN.out
            refine ⟨p, m, ?_, by rw [← hm, HPV.out], m0, m8, by omega, hpb, by rw [hs]; exact hp, (next_pre HBR.out).1, hn⟩
            rw [hp, htn]
            omega
          · have HN : Hid (b ≠ [] ∧ nextY b = (2, [], junkN b)) := Lib.hid ⟨(next_pre HBR.out).1, next_bad HBR.out HRNE.out (fun h => by have := HG.out.1 h; rw [d3] at this; cases this.2.2)⟩
            clear HG
            go_wp2_with fail
            go_ret3
            exact ⟨_, _, _, rfl, .inr (.inl ⟨rfl, rfl, rfl, HN.out⟩), HB4.out⟩
        · have HN : Hid (b ≠ [] ∧ nextY b = (2, [], junkN b)) := Lib.hid ⟨(next_pre HBR.out).1, next_bad HBR.out HRNE.out (fun h => by have := HG.out.1 h; rw [d2] at this; cases this.2.1)⟩
          clear HG
          go_wp2_with fail
          go_ret3
          exact ⟨_, _, _, rfl, .inr (.inl ⟨rfl, rfl, rfl, HN.out⟩), HB4.out⟩
      · have HN : Hid (b ≠ [] ∧ nextY b = (2, [], junkN b)) := Lib.hid ⟨(next_pre HBR.out).1, next_bad HBR.out HRNE.out (fun h => by have := HG.out.1 h; rw [d1] at this; cases this.1)⟩
        clear HG
        go_wp2_with fail
        go_ret3
        exact ⟨_, _, _, rfl, .inr (.inl ⟨rfl, rfl, rfl, HN.out⟩), HB4.out⟩
    · go_wp2_with (with_reducible refine wpList_string_of rfl 22 9 5 (.tmp 48) rfl Tryd.underlying22 Tryd.underlying9 Tryd.underlying5 _ _ _ _ rfl HT.out HTN.out ?_)
      refine (parse_any ⟨(textT r).toArray⟩ (by show (textT r).length ≤ _; have := HTN.out; omega) _ (HL.out.below HB3.out)).mono ?_
      obtain ⟨pe, hpe⟩ : ∃ pe, parseE (⟨(textT r).toArray⟩ : ByteArray).data.toList = pe := ⟨_, rfl⟩
      obtain ⟨pv, hpv⟩ : ∃ pv, parseV (⟨(textT r).toArray⟩ : ByteArray).data.toList = pv := ⟨_, rfl⟩
      rw [hpe, hpv]
      have hpe' : parseE (textT r) = pe := hpe
      have hpv' : parseV (textT r) = pv := hpv
      have HG := Lib.hid (good_tests (t := textT r))
      rw [hpe', hpv'] at HG
      have HPV := Lib.hid hpv'
      clear hpe hpv hpe' hpv'
      rintro e w4 ⟨rfl, hb4⟩
      have HB4 := Lib.hid (HB3.out.trans (hb4.mono HB3.out.size))
      clear hb4
      cases d1 : (pe != 0)
      · cases d2 : decide (pv < 1)
        · cases d3 : decide (8000 < pv)
          · have HGOOD := Lib.hid (HG.out.2 ⟨d1, d2, d3⟩)
            have hv8 : pv ≤ 8000 := by have := of_decide_eq_false d3; omega
            have hv1 : 1 ≤ pv := by have := of_decide_eq_false d2; omega
            clear HG
            have HT2 := Lib.hid (next_there HBR.out HGOOD.out HEND.out)
            go_wp2_with fail
            go_ret3
            refine ⟨_, _, _, rfl, .inr (.inr ⟨rfl, ?_⟩), HB4.out⟩
            obtain ⟨m, p, m0, m8, hm, hp, h4, hpb, hs, hn⟩ := HT2.out
            have htn := HTN.out
            refine ⟨p, m, ?_, by rw [← hm, HPV.out], m0, m8, by omega, hpb, by rw [hs]; exact hp, (next_pre HBR.out).1, hn⟩
            rw [hp, htn]
            omega
          · have HN : Hid (b ≠ [] ∧ nextY b = (2, [], junkN b)) := Lib.hid ⟨(next_pre HBR.out).1, next_bad HBR.out HRNE.out (fun h => by have := HG.out.1 h; rw [d3] at this; cases this.2.2)⟩
            clear HG
            go_wp2_with fail
            go_ret3
            exact ⟨_, _, _, rfl, .inr (.inl ⟨rfl, rfl, rfl, HN.out⟩), HB4.out⟩
        · have HN : Hid (b ≠ [] ∧ nextY b = (2, [], junkN b)) := Lib.hid ⟨(next_pre HBR.out).1, next_bad HBR.out HRNE.out (fun h => by have := HG.out.1 h; rw [d2] at this; cases this.2.1)⟩
          clear HG
          go_wp2_with fail
          go_ret3
          exact ⟨_, _, _, rfl, .inr (.inl ⟨rfl, rfl, rfl, HN.out⟩), HB4.out⟩
      · have HN : Hid (b ≠ [] ∧ nextY b = (2, [], junkN b)) := Lib.hid ⟨(next_pre HBR.out).1, next_bad HBR.out HRNE.out (fun h => by have := HG.out.1 h; rw [d1] at this; cases this.1)⟩
        clear HG
        go_wp2_with fail
        go_ret3
        exact ⟨_, _, _, rfl, .inr (.inl ⟨rfl, rfl, rfl, HN.out⟩), HB4.out⟩

theorem header_any (a : Option Addr) (cap : Nat) (b : List UInt8) (w : World) (hby : BytesAt w a cap b) (hlen : b.length ≤ 1000000) (hl : Laid w) :
    Calls Tryd.prog 20 #[.slice a b.length cap] w fun e w' => ∃ k h n, e = .returned (.tuple #[.int .i64 k, .int .i64 h, .int .i64 n]) ∧ HdrOk b k h n ∧ Below w.heap.size w w' := by
  by_cases h12 : b.length < 12
  · exact header_short a cap b w hby h12
  · cases hp : pre.isPrefixOf b
    · exact header_off a cap b w hby (by omega) hp
    · exact header_on a cap b w hby hlen hl hp

end Frm
end Go.Proofs.YtnmhkjgcfhcmpaaDoor
