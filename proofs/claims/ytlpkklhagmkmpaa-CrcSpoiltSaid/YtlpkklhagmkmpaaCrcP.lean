/-
  The program's layer 8: All; the names.
-/
import Derived.Test.YtlpkklhagmkmpaaCrcPe
namespace Go.Proofs.Ytlpkklhagmkmpaa
open Go.RowKit
namespace Crc
open Num

theorem own_safe {e : TypeId} {w : World} {base n cap b : Nat} {a : Option Addr} {l : List UInt8} (h : OwnG e w base (.slice a n cap) l) : Safe e b w a := by
  rcases h with ⟨h, _⟩ | ⟨g, cap', cur, fz, hv, _, hg, _⟩
  · injection h with h1
    subst h1
    exact Safe.nil _ _ _
  · injection hv with h1
    subst h1
    intro x hx
    obtain rfl := Option.some.inj hx
    exact .inr ⟨cur, fz, hg⟩
/-- all headers are safe -/
def SafeAll (b : Nat) (w : World) (ts : List Hdr) : Prop := ∀ t ∈ ts, Safe 5 b w t.1
theorem SafeAll.nil (b : Nat) (w : World) : SafeAll b w [] := fun _ ht => nomatch ht
theorem SafeAll.mono {b b' : Nat} {w : World} {ts : List Hdr} (h : SafeAll b w ts) (hb : b ≤ b') : SafeAll b' w ts := fun t ht => (h t ht).mono hb
theorem SafeAll.later {b : Nat} {w w' : World} {ts : List Hdr} (h : SafeAll b w ts) (hb : Below w.heap.size w w') : SafeAll b w' ts := fun t ht => (h t ht).later hb
theorem SafeAll.kept {b : Nat} {e : TypeId} {w w' : World} {ts : List Hdr} (h : SafeAll b w ts) (hk : Kept e w w') (hn : 5 ≠ e) : SafeAll b w' ts := fun t ht => (h t ht).kept hk hn
theorem SafeAll.append {b : Nat} {w : World} {ts us : List Hdr} (h : SafeAll b w ts) (k : SafeAll b w us) : SafeAll b w (ts ++ us) := fun t ht => (List.mem_append.1 ht).elim (h t) (k t)
theorem match_safe {e : TypeId} {b : Nat} {w w' : World} (hb : Below b w w') (hk : Kept e w w') (hn : 5 ≠ e) : ∀ {ts : List Hdr} {ys : List (List UInt8)}, Match w ts ys → SafeAll b w ts → Match w' ts ys
  | [], [], _, _ => trivial
  | t :: _, _ :: _, h, hs => ⟨⟨h.1.1, h.1.2.safe (hs t (by simp)) hb hk hn⟩, match_safe hb hk hn h.2 fun u hu => hs u (by simp [hu])⟩
  | [], _ :: _, h, _ => h.elim
  | _ :: _, [], h, _ => h.elim


/-- what stands behind a place, by whatever address -/
theorem drop_opt {w : World} {a : Option Addr} {cap : Nat} {l : List UInt8} (h : BytesAt w a cap l) (n : Nat) (hn : n ≤ l.length) : BytesAt w (if cap = n then a else a.map (·.add n)) (cap - n) (l.drop n) := by
  have hcap := h.cap
  by_cases hc : cap = n
  · rw [if_pos hc]
    have h0 : l.drop n = [] := List.drop_eq_nil_of_le (by omega)
    rw [h0]
    rcases h with ⟨h3, h4, h5⟩ | ⟨x, h3, h4⟩
    · exact .inl ⟨h3, rfl, by omega⟩
    · exact .inr ⟨x, h3, Nat.zero_le _, fun i hi => absurd hi (Nat.not_lt_zero i)⟩
  · rw [if_neg hc]
    rcases h with ⟨h3, h4, h5⟩ | ⟨x, rfl, h4⟩
    · subst h4
      have : n = 0 := by simpa using hn
      omega
    · exact BytesAt.drop (.inr ⟨x, rfl, h4⟩) n hn
/-- what the program's Next tells -/
def GotN8 (w : World) (r : List UInt8 × Nat × Int) (e : Ending) (w' : World) : Prop :=
  ∃ a cap, e = .returned (.tuple #[.slice a r.1.length cap, .int .i64 r.2.1, .int .i64 r.2.2]) ∧ BytesAt w' a cap r.1 ∧ Below w.heap.size w w'
/-- what the program's All tells -/
def GotA8 (w : World) (r : List (List UInt8) × Nat) (e : Ending) (w' : World) : Prop :=
  ∃ la lc, e = .returned (.tuple #[.slice la r.1.length lc, .int .i64 r.2]) ∧ Bodies w' la lc r.1 ∧ Below w.heap.size w w'
theorem next_any (a : Option Addr) (cap : Nat) (b : List UInt8) (q : Nat) (hq : b.length = q) (w : World) (hby : BytesAt w a cap b) (hlen : q ≤ 1000000) (hl : Laid w) :
    Calls Try.prog 10 #[.slice a q cap] w (GotN8 w (nextC b)) := by
  refine (next_own a cap b q hq w hby hlen hl).mono ?_
  rintro e w' ⟨v, rfl, ho, hb⟩
  obtain ⟨a', c', rfl, h⟩ := ho.bytes
  exact ⟨a', c', rfl, h, hb⟩
theorem next_is9 (a : Option Addr) (cap : Nat) (b : List UInt8) (q : Nat) (hq : b.length = q) (w : World) (hby : BytesAt w a cap b) (hlen : q ≤ 1000000) (hl : Laid w) (r : List UInt8 × Nat × Int) (hn : nextC b = r) :
    Calls Try.prog 10 #[.slice a q cap] w (GotN9 w r) := by
  subst hn
  exact next_own a cap b q hq w hby hlen hl

set_option maxRecDepth 100000 in
set_option maxHeartbeats 4000000 in
theorem all_any (a : Option Addr) (cap : Nat) (b : List UInt8) (q : Nat) (hq : b.length = q) (w : World) (hby : BytesAt w a cap b) (hlen : q ≤ 1000000) (hl : Laid w) :
    Calls Try.prog 12 #[.slice a q cap] w (GotA8 w (allC b)) := by
  have HF := Lib.hid hby
  have HQ := Lib.hid hq
  have HLW := Lib.hid hl
  have hcap := hby.cap
  rw [hq] at hcap
  clear hby hq hl
  obtain ⟨j0, hi0, hz0, hz1, hz2⟩ := info_parts infoSl
  have HJ0 := Lib.hid hi0
  have HY0 := Lib.hid hz0
  have HY1 := Lib.hid hz1
  have HY2 := Lib.hid hz2
  clear hi0 hz0 hz1 hz2
  go_enter Try.func12, Try.ntmps12
  go_wp2_with fail
  go_loopw [4, 5] (fun o_ at_ wr => ∃ (p : Nat) (ts : List Hdr) (ys : List (List UInt8)), at_ = .int .i64 p ∧ p ≤ q ∧ ts.length ≤ p ∧ ts.length = ys.length ∧ allC b = (ys ++ (allC (b.drop p)).1, p + (allC (b.drop p)).2) ∧
    OwnE encS 22 wr w.heap.size o_ ts ∧ Match wr ts ys ∧ SafeAll 0 wr ts ∧ Below w.heap.size w wr) (fun _ at_ _ => q - (intOf at_).toNat)
  case atStart => exact ⟨0, [], [], rfl, Nat.zero_le _, Nat.le_refl _, rfl, by simp, OwnE.nil _ _ _ _, trivial, SafeAll.nil _ _, Below.refl _ _⟩
  case round =>
    obtain ⟨p, ts, ys, rfl, hpq, htp, hty, hall, hown, hmat, hsaf, hbel⟩ := hrel
    have HA := Lib.hid hall
    have HO := Lib.hid hown
    have HM := Lib.hid hmat
    have HS := Lib.hid hsaf
    have HB := Lib.hid hbel
    have HTY := Lib.hid hty
    clear hall hown hmat hsaf hbel hty
    obtain ⟨oa, oc, rfl, _⟩ := HO.out.row
    have HDL : Hid ((b.drop p).length = q - p) := Lib.hid (by rw [List.length_drop, HQ.out])
    obtain ⟨r, n, k, hn⟩ : ∃ r n k, nextC (b.drop p) = (r, n, k) := ⟨_, _, _, rfl⟩
    have HN := Lib.hid hn
    clear hn
    have hp1 : (p : Int) ≤ (q : Int) := by omega
    have hp2 : (q : Int) ≤ (cap : Int) := by omega
    by_cases hk : k = 0
    · subst hk
      have HA2 := Lib.hid (all_on HA.out HN.out)
      have ht := nextC_takes (b := b.drop p) (by rw [HN.out])
      rw [HN.out, HDL.out] at ht
      simp only at ht
      have hcp : ¬ cap = p := by omega
      have HNX := Lib.hid (next_is9 (a.map (·.add p)) (cap - p) (b.drop p) (q - p) HDL.out wr (by have h := drop_opt (HF.out.later HB.out) p (by rw [HQ.out]; omega); rwa [if_neg hcp] at h) (by omega) (HLW.out.below HB.out) _ HN.out)
      go_wp2_with fail
      refine HNX.out.mono ?_
      rintro e w7 ⟨v7, rfl, ho7, hbel⟩
      obtain ⟨a2, c2, rfl, hy⟩ := ho7.bytes
      have HB7 := Lib.hid (HB.out.trans (hbel.mono HB.out.size))
      have HO7 := Lib.hid (HO.out.kept hbel)
      have HMS : Hid (Match w7 (ts ++ [(a2, r.length, c2)]) (ys ++ [r]) ∧ SafeAll 0 w7 (ts ++ [(a2, r.length, c2)])) := Lib.hid
        ⟨(HM.out.later hbel).append ⟨⟨rfl, hy⟩, trivial⟩, (HS.out.later hbel).append fun t ht => by
          obtain rfl := List.mem_singleton.1 ht
          exact own_safe ho7⟩
      have HROW : Hid (RowAt encS (w7.alloc (.cells #[.slice a2 r.length c2] 22)) (some ⟨w7.heap.size, 0, none⟩) 1 [(a2, r.length, c2)]) := Lib.hid (one_row encS w7 _ (a2, r.length, c2) _ rfl)
      have HMA := Lib.hid fun o => (Below.refl w7.heap.size w7).alloc (Nat.le_refl _) o
      clear hbel HO HM HS HA ho7 hy HNX hp1 hp2
      go_wp2_with (at_builtin; refine wpList_append_hdr rfl (.tmp 21) (.tmp 23) _ rfl w.heap.size 22 j0 _ Try.underlying33 HJ0.out HY0.out HY1.out HY2.out (by rfl) _ ts rfl (HO7.out.kept (HMA.out _)) _ _ _ [(a2, r.length, c2)] rfl (by rfl) HROW.out (by simp only [List.length_cons, List.length_nil]; omega) ((HB7.out.alloc HB7.out.size _).size) ?_; intro v8 w8 hown8 hb8 hk8
                   have HB8 := Lib.hid ((HB7.out.alloc HB7.out.size _).trans hb8)
                   have HMS8 := Lib.hid (match_safe (b := w.heap.size) hb8 hk8 (by decide) (HMS.out.1.later (HMA.out _)) ((HMS.out.2.later (HMA.out _)).mono (Nat.zero_le _)))
                   have HSF8 := Lib.hid ((HMS.out.2.later (HMA.out _)).kept hk8 (by decide))
                   have HO8 := Lib.hid hown8; clear hb8 hown8 hk8)
      go_roundw
      case rel => exact ⟨p + n, ts ++ [(a2, r.length, c2)], ys ++ [r], congrArg (Value.int .i64) (by omega), by omega, by rw [List.length_append]; simp only [List.length_cons, List.length_nil]; omega, by rw [List.length_append, List.length_append, HTY.out]; rfl, HA2.out, HO8.out, HMS8.out, HSF8.out, HB8.out⟩
      case measure => simp [intOf]; omega
    · have HA2 := Lib.hid (all_here HA.out (by rw [HN.out]; exact hk))
      have dk : (k != 0) = true := bne_iff_ne.2 hk
      obtain ⟨ad, had⟩ : ∃ ad, (if cap = p then a else a.map (·.add p)) = ad := ⟨_, rfl⟩
      have HBY : Hid (BytesAt wr ad (cap - p) (b.drop p)) := Lib.hid (by rw [← had]; exact drop_opt (HF.out.later HB.out) p (by rw [HQ.out]; omega))
      have HNX := Lib.hid (next_is9 ad (cap - p) (b.drop p) (q - p) HDL.out wr HBY.out (by omega) (HLW.out.below HB.out) _ HN.out)
      go_wp2_with fail
      refine HNX.out.mono ?_
      rintro e w7 ⟨v7, rfl, _, hbel⟩
      have HB7 := Lib.hid (HB.out.trans (hbel.mono HB.out.size))
      have HO7 := Lib.hid (HO.out.kept hbel)
      have HM7 := Lib.hid (HM.out.later hbel)
      clear hbel HO HM HS HA HNX hp1 hp2 had
      go_wp2_with fail
      go_ret2
      rw [HA2.out]
      exact ⟨oa, oc, by rw [← HTY.out]; rfl, ⟨ts, HO7.out.read, HM7.out⟩, HB7.out⟩

end Crc
end Go.Proofs.Ytlpkklhagmkmpaa
