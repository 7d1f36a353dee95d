/-
  The walk of layer 4's law FeedCounts.
-/
import Derived.Test.YtnmhkjgcfhcmpaaDoorFedL
namespace Go.Proofs.YtnmhkjgcfhcmpaaDoor
open Go.RowKit
namespace Frm
open Num

theorem frames_step {ys : List (List UInt8)} {k : Nat} {y : List UInt8} (h : ys[k]? = some y) : framesLen (ys.take (k + 1)) = framesLen (ys.take k) + (putB y).length := by
  unfold framesLen
  rw [List.take_add_one, h, List.map_append, List.sum_append]
  simp
theorem in_small {x y : List UInt8} (hx : x.length < 16384) (hy : y.length ≤ 65536) : inY x y = feedY (x ++ y) ∧ inE x y = 0 := by
  have h : ¬ (16384 ≤ x.length ∨ 65536 < y.length) := by omega
  exact ⟨by unfold inY; rw [if_neg h], by unfold inE; rw [if_neg h]⟩

set_option maxRecDepth 100000 in
set_option maxHeartbeats 1000000 in
theorem law_FeedCounts (a0 : Option Addr) (len0 cap0 : Nat) (z0 : List Int) (a1 : Option Addr) (len1 cap1 : Nat) (z1 : List Int) (w : World) (h0 : IsRow .u8 w a0 len0 cap0 z0) (h1 : IsRow .u8 w a1 len1 cap1 z1) (hl : Laid w) :
    Calls Tryd.prog 5 #[.slice a0 len0 cap0, .slice a1 len1 cap1] w fun e w' => e = .returned (.bool true) ∧ Below w.heap.size w w' := by
  obtain ⟨x, rfl, hm0, hx⟩ := h0.bytes
  obtain ⟨y, rfl, hm1, hy⟩ := h1.bytes
  unfold maxLen at hm0 hm1
  have HX := Lib.hid hx
  have HY := Lib.hid hy
  have HL := Lib.hid hl
  clear hx hy h0 h1 hl
  go_enter Tryd.func5, Tryd.ntmps5
  go_wp2_with fail
  refine (awake4_any _ HL.out).mono ?_
  rintro e w1 ⟨rfl, hb1⟩
  have HB1 := Lib.hid hb1
  clear hb1
  by_cases hx9 : 3000 < x.length
  · go_wp2_with fail
    go_ret
    exact ⟨rfl, HB1.out⟩
  have dx : decide ((3000 : Int) < (x.length : Int)) = false := decide_eq_false (by omega)
  by_cases hy9 : 3000 < y.length
  · go_wp2_with fail
    go_ret
    exact ⟨rfl, HB1.out⟩
  have dy : decide ((3000 : Int) < (y.length : Int)) = false := decide_eq_false (by omega)
  have ⟨hi1, hi2⟩ := in_small (x := x) (y := y) (by omega) (by omega)
  obtain ⟨ys, j, r, hr⟩ : ∃ ys j r, feedY (x ++ y) = (ys, j, r) := ⟨_, _, _, rfl⟩
  have ⟨hc1, hc2⟩ := feed_count (x ++ y).length (x ++ y) (Nat.le_refl _)
  have hkp := feed_kept (x ++ y).length (x ++ y) (Nat.le_refl _)
  rw [hr] at hi1 hc1 hc2 hkp
  simp only at hc1 hc2 hkp
  rw [List.length_append] at hc2
  have hyl := in_len x y
  rw [hi1] at hyl
  simp only at hyl
  have HI1 := Lib.hid hi1
  have HI2 := Lib.hid hi2
  have HC1 := Lib.hid hc1
  have HKP := Lib.hid hkp
  have HJ : Hid (inY r [] = ([], 0, r) ∧ inE r [] = 0) := Lib.hid (by
    have h := in_small (x := r) (y := []) (by omega) (Nat.zero_le _)
    rw [List.append_nil, hkp] at h
    exact h)
  clear hi1 hi2 hc1 hkp hr
  have hfl : ∀ k, framesLen (ys.take k) ≤ framesLen ys := fun k => by
    have e : framesLen ys = framesLen (ys.take k) + framesLen (ys.drop k) := by
      unfold framesLen
      rw [← List.sum_append, ← List.map_append, List.take_append_drop]
    omega
  have HFL := Lib.hid hfl
  clear hfl
  obtain ⟨fl, hflv⟩ : ∃ n, framesLen ys = n := ⟨_, rfl⟩
  rw [hflv] at hc2 HFL
  have HFV := Lib.hid hflv
  clear hflv
  go_wp2_with fail
  refine (in_is _ _ x _ rfl _ _ y _ rfl _ (HX.out.later HB1.out) (HY.out.later HB1.out) (by omega) (by omega) (HL.out.below HB1.out) _ _ HI1.out HI2.out).mono ?_
  rintro e w2 ⟨ka, kc, la, lc, ts, rfl, hk, hrow, hmat, _, hbel⟩
  have HB2 := Lib.hid (HB1.out.trans (hbel.mono HB1.out.size))
  have HK := Lib.hid hk
  have HBO : Hid (Bodies w2 la lc ys) := Lib.hid ⟨ts, hrow, hmat⟩
  clear hk hrow hmat hbel
  go_wp2_with fail
  go_loopw [9, 10] (fun s_ i_ wr => ∃ k n : Nat, k ≤ ys.length ∧ i_ = .int .i64 k ∧ s_ = .int .i64 n ∧ n = j + r.length + framesLen (ys.take k) ∧ n ≤ 6000 ∧ Below w2.heap.size w2 wr) (fun _ i_ _ => ys.length - (intOf i_).toNat)
  case atStart => exact ⟨0, j + r.length, Nat.zero_le _, rfl, congrArg (Value.int .i64) (by omega), by simp [framesLen], by omega, Below.refl _ _⟩
  case round =>
    obtain ⟨k, n, hk, rfl, rfl, hn, hn6, hbel⟩ := hrel
    have HB := Lib.hid hbel
    have HN := Lib.hid hn
    clear hbel hn
    by_cases hlt : k < ys.length
    · obtain ⟨g1, o1, rfl, hcell⟩ := (HBO.out.later HB.out).at (by omega)
      obtain ⟨z, hz⟩ : ∃ z, ys[k]? = some z := ⟨_, List.getElem?_eq_getElem hlt⟩
      obtain ⟨x1, c1, e1, b1⟩ := hcell k z hz
      have HZ := Lib.hid b1
      have hp0 := HC1.out z (List.mem_of_getElem? hz)
      have hz8 := (putE_ok hp0).2.1
      have HP0 := Lib.hid hp0
      have hst := frames_step hz
      have hle := HFL.out (k + 1)
      obtain ⟨F, hF⟩ : ∃ F, putB z = F := ⟨_, rfl⟩
      rw [hF] at hst
      have HF := Lib.hid hF
      have HST : Hid (n + F.length = j + r.length + framesLen (ys.take (k + 1))) := Lib.hid (by rw [HN.out, hst]; omega)
      have hnf : n + F.length ≤ 6000 := by rw [HST.out]; omega
      clear hcell hz b1 hp0 hst hle hF
      go_wp2_with fail
      refine (put_is _ _ z _ rfl _ HZ.out (by omega) (HL.out.below (HB2.out.trans (HB.out.mono HB2.out.size))) _ _ HF.out HP0.out).mono ?_
      intro e w4 hg
      obtain ⟨⟨a3, c3, rfl, _⟩, hbel⟩ := hg.bytes
      have HB4 := Lib.hid (HB.out.trans (hbel.mono HB.out.size))
      clear hbel hg
      go_wp2_with fail
      go_roundw
      case rel => exact ⟨k + 1, n + F.length, by omega, by go_num, congrArg (Value.int .i64) (by omega), HST.out, hnf, HB4.out⟩
      case measure => simp [intOf]; omega
    · obtain rfl : k = ys.length := by omega
      have hnn : n = x.length + y.length := by have h := HN.out; rw [List.take_length, HFV.out] at h; omega
      have HW := Lib.hid (HB2.out.trans (HB.out.mono HB2.out.size))
      have HKW := Lib.hid (HK.out.later HB.out)
      have dn : ((n : Int) == (x.length : Int) + (y.length : Int)) = true := beq_iff_eq.2 (by omega)
      clear HN hnn
      go_wp2_with fail
      refine (in_is _ _ r _ rfl none 0 [] 0 rfl _ HKW.out (.inl ⟨rfl, rfl, rfl⟩) (by omega) (by decide) (HL.out.below HW.out) _ _ HJ.out.1 HJ.out.2).mono ?_
      rintro e w5 ⟨ka2, kc2, la2, lc2, ts2, rfl, hk5, _, _, _, hbel⟩
      have HW5 := Lib.hid (HW.out.trans (hbel.mono HW.out.size))
      have cv := string_of (P := Tryd.prog) Tryd.underlying22 Tryd.underlying5 Tryd.underlying9 hk5 _ rfl
      have cw := string_of (P := Tryd.prog) Tryd.underlying22 Tryd.underlying5 Tryd.underlying9 (HKW.out.later hbel) _ rfl
      clear hk5 hbel
      go_wp2_with fail
      go_ret
      exact ⟨rfl, HW5.out⟩

end Frm
end Go.Proofs.YtnmhkjgcfhcmpaaDoor
