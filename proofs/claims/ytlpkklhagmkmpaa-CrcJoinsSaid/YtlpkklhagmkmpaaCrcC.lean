/-
  The reference's Next of layer 8.
-/
import Derived.Test.YtlpkklhagmkmpaaCrcB
import Derived.Deep.QuietTactic
import Derived.Lib.Strings
namespace Go.Proofs.Ytlpkklhagmkmpaa
open Go.RowKit
namespace Crc
open Num

theorem drew_below {B : Nat} {a w : World} (h : Below B a w) (n : Nat) : Below B a (w.drewN n) := h.trans ⟨rfl, rfl, rfl, Nat.le_refl _, fun _ _ => rfl⟩
/-- what Next tells: a part of what came in -/
def GotNx (w : World) (a0 : Option Addr) (c0 : Nat) (b : List UInt8) (r : List UInt8 × Nat × Int) (e : Ending) (w' : World) : Prop :=
  ∃ a cap, e = .returned (.tuple #[.slice a r.1.length cap, .int .i64 r.2.1, .int .i64 r.2.2]) ∧ (∀ W, BytesAt W a0 c0 b → BytesAt W a cap r.1) ∧ Below w.heap.size w w'
theorem GotNx.nil {w w' : World} {a0 : Option Addr} {c0 : Nat} {b : List UInt8} (h : Below w.heap.size w w') (k : Int) : GotNx w a0 c0 b ([], 0, k) (.returned (.tuple #[.slice none 0 0, .int .i64 0, .int .i64 k])) w' := ⟨Option.none, 0, rfl, fun _ _ => .inl ⟨rfl, rfl, rfl⟩, h⟩
theorem nx_short {b : List UInt8} {q : Nat} (hq : b.length = q) (h : q < 6) : nextC b = ([], 0, 2) := by unfold nextC; rw [hq, if_pos h]
theorem nx_form {b : List UInt8} {q n : Nat} (hq : b.length = q) (hn : lenC b = n) (h : ¬ q < 6) (h1 : n = 0 ∨ 4096 < n) : nextC b = ([], 0, 3) := by unfold nextC; rw [hq, if_neg h, hn, if_pos h1]
theorem nx_end {b : List UInt8} {q n : Nat} (hq : b.length = q) (hn : lenC b = n) (h : ¬ q < 6) (h1 : n ≠ 0) (h2 : ¬ 4096 < n) (h3 : q < 6 + n) : nextC b = ([], 0, 2) := by unfold nextC; rw [hq, if_neg h, hn, if_neg (fun c => c.elim h1 h2), if_pos h3]
theorem nx_sum {b : List UInt8} {q n : Nat} (hq : b.length = q) (hn : lenC b = n) (h : ¬ q < 6) (h1 : n ≠ 0) (h2 : ¬ 4096 < n) (h3 : ¬ q < 6 + n) (h4 : recB ((b.drop 6).take n) ≠ b.take (6 + n)) : nextC b = ([], 0, 11) := by unfold nextC; rw [hq, if_neg h, hn, if_neg (fun c => c.elim h1 h2), if_neg h3, if_neg h4]
theorem nx_good {b : List UInt8} {q n : Nat} (hq : b.length = q) (hn : lenC b = n) (h : ¬ q < 6) (h1 : n ≠ 0) (h2 : ¬ 4096 < n) (h3 : ¬ q < 6 + n) (h4 : recB ((b.drop 6).take n) = b.take (6 + n)) : nextC b = ((b.drop 6).take n, 6 + n, 0) := by unfold nextC; rw [hq, if_neg h, hn, if_neg (fun c => c.elim h1 h2), if_neg h3, if_pos h4]
theorem lenC_at {b : List UInt8} {q : Nat} (hq : b.length = q) (h : ¬ q < 6) : lenC b = (b[0]'(by omega)).toNat * 256 + (b[1]'(by omega)).toNat := by
  unfold lenC
  rw [List.getD_eq_getElem?_getD, List.getD_eq_getElem?_getD, List.getElem?_eq_getElem (by omega), List.getElem?_eq_getElem (by omega)]
  rfl

set_option maxRecDepth 100000 in
set_option maxHeartbeats 4000000 in
theorem rnext_any (a : Option Addr) (cap : Nat) (b : List UInt8) (q : Nat) (hq : b.length = q) (w : World) (hby : BytesAt w a cap b) (hlen : q ≤ 4611686018427387904) :
    Calls Try.prog 11 #[.slice a q cap] w (GotNx w a cap b (nextC b)) := by
  by_cases h6 : q < 6
  · rw [nx_short hq h6]
    go_enter Try.func11, Try.ntmps11
    go_wp2_with fail
    go_ret3
    exact GotNx.nil (Below.refl _ _) 2
  have hla := lenC_at hq h6
  obtain ⟨bb, off, rfl, hcc⟩ := hby.at (by omega)
  have hc0 := hcc 0 (by omega)
  have hc1 := hcc 1 (by omega)
  obtain ⟨x, hx⟩ : ∃ x, b[0]'(by omega) = x := ⟨_, rfl⟩
  obtain ⟨y, hy⟩ : ∃ y, b[1]'(by omega) = y := ⟨_, rfl⟩
  rw [hx] at hc0 hla
  rw [hy] at hc1 hla
  have hx8 := x.toNat_lt
  have hy8 := y.toNat_lt
  obtain ⟨n, hn⟩ : ∃ n, x.toNat * 256 + y.toNat = n := ⟨_, rfl⟩
  rw [hn] at hla
  have hnz : (x.toNat : Int) * 256 + (y.toNat : Int) = (n : Int) := by omega
  have HF := Lib.hid hby
  have HQ := Lib.hid hq
  have HLA := Lib.hid hla
  have hcap := hby.cap
  rw [hq] at hcap
  clear hcc hx hy hby hq hla
  have hn64 : n < 65536 := by omega
  rw [Nat.add_zero] at hc0
  have hi0 : (0 : Int) < (q : Int) := by omega
  have hi1 : (1 : Int) < (q : Int) := by omega
  have hj0 : 0 < q := by omega
  have hj1 : 1 < q := by omega
  go_enter Try.func11, Try.ntmps11
  go_wp2_with fail
  go_quiet (fail)
  have hb1 := drew_below (Below.refl w.heap.size w) nq
  generalize w.drewN nq = w1 at hb1 ⊢
  have HB1 := Lib.hid hb1
  clear hb1 hc0 hc1 hnz hn hx8 hy8
  by_cases h0 : n = 0
  · have HP : Hid (nextC b = ([], 0, 3)) := Lib.hid (nx_form HQ.out HLA.out h6 (.inl h0))
    subst h0
    go_wp2_with fail
    go_ret3
    rw [HP.out]
    exact GotNx.nil HB1.out 3
  by_cases hbig : 4096 < n
  · have HP : Hid (nextC b = ([], 0, 3)) := Lib.hid (nx_form HQ.out HLA.out h6 (.inr hbig))
    go_wp2_with fail
    go_ret3
    rw [HP.out]
    exact GotNx.nil HB1.out 3
  have e0 : ((n : Int) == 0) = false := by simp only [beq_eq_false_iff_ne]; omega
  have e1 : decide (4096 < (n : Int)) = false := by simp only [decide_eq_false_iff_not]; omega
  by_cases hfew : q < 6 + n
  · have HP : Hid (nextC b = ([], 0, 2)) := Lib.hid (nx_end HQ.out HLA.out h6 h0 hbig hfew)
    go_wp2_with fail
    go_ret3
    rw [HP.out]
    exact GotNx.nil HB1.out 2
  have HPART : Hid (∀ W, BytesAt W (some ⟨bb, off, none⟩) cap b → BytesAt W (some ⟨bb, off + 6, none⟩) (cap - 6) ((b.drop 6).take n)) := Lib.hid fun W hW => by
    have h := (hW.drop 6 (by rw [HQ.out]; omega)).take n
    rwa [add_none] at h
  have HSUB : Hid (∀ W, Below w.heap.size w W → BytesAt W (some ⟨bb, off + 6, none⟩) (cap - 6) ((b.drop 6).take n)) := Lib.hid fun W hW => by
    have h := ((HF.out.later hW).drop 6 (by rw [HQ.out]; omega)).take n
    rwa [add_none] at h
  have HALL : Hid (∀ W, Below w.heap.size w W → BytesAt W (some ⟨bb, off, none⟩) cap (b.take (6 + n))) := Lib.hid fun W h => (HF.out.later h).take _
  have HAL : Hid ((b.take (6 + n)).length = 6 + n) := Lib.hid (by rw [List.length_take, HQ.out]; omega)
  have HNG : Hid (recB ((b.drop 6).take n) = b.take (6 + n) → nextC b = ((b.drop 6).take n, 6 + n, 0)) := Lib.hid (nx_good HQ.out HLA.out h6 h0 hbig hfew)
  have HNS : Hid (recB ((b.drop 6).take n) ≠ b.take (6 + n) → nextC b = ([], 0, 11)) := Lib.hid (nx_sum HQ.out HLA.out h6 h0 hbig hfew)
  have HYL : Hid (((b.drop 6).take n).length = n) := Lib.hid (by rw [List.length_take, List.length_drop, HQ.out]; omega)
  obtain ⟨Y, hY⟩ : ∃ Y, (b.drop 6).take n = Y := ⟨_, rfl⟩
  obtain ⟨B, hB⟩ : ∃ B, b.take (6 + n) = B := ⟨_, rfl⟩
  rw [hY] at HPART HSUB HNG HNS HYL
  rw [hB] at HALL HAL HNG HNS
  clear hY hB
  have HPUT := Lib.hid (rput_own (some ⟨bb, off + 6, none⟩) (cap - 6) Y n HYL.out w1 (HSUB.out w1 HB1.out) (by omega))
  rw [put_good HYL.out h0 hbig] at HPUT
  go_wp2_with fail
  refine HPUT.out.mono ?_
  rintro e w2 ⟨⟨v2, rfl, hown2⟩, hbel⟩
  obtain ⟨a2, c2, rfl, hb2⟩ := hown2.bytes
  have HB2 := Lib.hid (HB1.out.trans (hbel.mono HB1.out.size))
  have HW := Lib.hid hb2
  have HRL : Hid ((recB Y).length = 6 + n) := Lib.hid (by rw [recB_len, HYL.out])
  clear hbel hb2 hown2
  obtain ⟨S, hS⟩ : ∃ S : ByteArray, (⟨(recB Y).toArray⟩ : ByteArray) = S := ⟨_, rfl⟩
  obtain ⟨T, hT⟩ : ∃ T : ByteArray, (⟨B.toArray⟩ : ByteArray) = T := ⟨_, rfl⟩
  have cv := fun k => string_of (P := Try.prog) Try.underlying22 Try.underlying5 Try.underlying9 (HW.out.later (drew_below (Below.refl _ w2) k)) _ HRL.out
  have cw := fun k => string_of (P := Try.prog) Try.underlying22 Try.underlying5 Try.underlying9 (HALL.out _ (drew_below HB2.out k)) _ HAL.out
  rw [hS] at cv
  rw [hT] at cw
  have HST : Hid (S = T ↔ recB Y = B) := Lib.hid (by
    rw [← hS, ← hT]
    constructor
    · intro h
      have h1 := congrArg (fun z : ByteArray => z.data.toList) h
      exact h1
    · intro h; rw [h])
  clear hS hT
  rw [HRL.out]
  have hs6 : (6 : Int) + (n : Int) ≤ (q : Int) := by omega
  go_wp2_with fail
  go_quiet (fail)
  have hb3 := drew_below HB2.out nq
  generalize w2.drewN nq = w3 at hb3 ⊢
  have HB3 := Lib.hid hb3
  clear hb3 cv cw
  by_cases hst : S = T
  · have HP := Lib.hid (HNG.out (HST.out.1 hst))
    clear HST HNS HNG
    subst hst
    go_wp2_with fail
    · exfalso
      have h : (!(S.toList == S.toList)) = true := by assumption
      simp at h
    · go_ret3
      rw [HP.out]
      refine ⟨some ⟨bb, off + 6, none⟩, cap - 6, ?_, HPART.out, HB3.out⟩
      show _ = Ending.returned (.tuple #[.slice (some ⟨bb, off + 6, none⟩) Y.length (cap - 6), .int .i64 ((6 + n : Nat) : Int), .int .i64 0])
      have e : Y.length = 6 + n - 6 := by rw [HYL.out]; omega
      rw [e, Int.natCast_add]
      rfl
  · have dst : (S.toList == T.toList) = false := by
      rw [Lib.toList_data, Lib.toList_data]
      exact beq_eq_false_iff_ne.2 fun h => hst (ByteArray.ext (Array.toList_inj.1 h))
    have HP := Lib.hid (HNS.out (fun h => hst (HST.out.2 h)))
    clear HST HNS HNG
    go_wp2_with fail
    · go_ret3
      rw [HP.out]
      exact GotNx.nil HB3.out 11
    · exfalso
      have h : (!(S.toList == T.toList)) = false := by assumption
      rw [dst] at h
      cases h

end Crc
end Go.Proofs.Ytlpkklhagmkmpaa
