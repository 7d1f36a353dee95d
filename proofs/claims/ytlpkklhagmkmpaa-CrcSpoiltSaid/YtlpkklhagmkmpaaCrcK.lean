/-
  The walk of layer 8's law CrcSpoilt.
-/
import Derived.Test.YtlpkklhagmkmpaaCrcJ
namespace Go.Proofs.Ytlpkklhagmkmpaa
open Go.RowKit
namespace Crc
open Num

set_option maxRecDepth 100000 in
set_option maxHeartbeats 4000000 in
theorem law_CrcSpoilt (a0 : Option Addr) (len0 cap0 : Nat) (z0 : List Int) (at_ : Int) (by_ : Int) (w : World)
    (h0 : IsRow .u8 w a0 len0 cap0 z0) (hat : (Lit.int .u16 at_).wf = true) (hby : (Lit.int .u8 by_).wf = true) (hl : Laid w) :
    Calls Try.prog 5 #[.slice a0 len0 cap0, .int .u16 at_, .int .u8 by_] w fun e w' => e = .returned (.bool true) ∧ Below w.heap.size w w' := by
  obtain ⟨s, hsl, hm0, hx⟩ := h0.bytes
  have ⟨ha0, ha1⟩ : 0 ≤ at_ ∧ at_ ≤ 65535 := bounds_u16 hat
  have ⟨hb0, hb1⟩ : 0 ≤ by_ ∧ by_ ≤ 255 := bounds_u8 hby
  unfold maxLen at hm0
  have HQ := Lib.hid hsl
  have HS := Lib.hid hx
  have HL := Lib.hid hl
  clear hx h0 hat hby hl hsl
  by_cases hlo : len0 < 1
  · go_enter Try.func5, Try.ntmps5
    go_wp2_with fail
    refine (awake_any _ HL.out).mono ?_
    rintro e w1 ⟨rfl, hb1⟩
    have e1 : decide ((len0 : Int) < 1) = true := decide_eq_true (by omega)
    go_wp2_with fail
    go_ret
    exact ⟨rfl, hb1⟩
  by_cases hhi : 100 < len0
  · go_enter Try.func5, Try.ntmps5
    go_wp2_with fail
    refine (awake_any _ HL.out).mono ?_
    rintro e w1 ⟨rfl, hb1⟩
    have e1 : decide ((len0 : Int) < 1) = false := decide_eq_false (by omega)
    have e2 : decide ((100 : Int) < (len0 : Int)) = true := decide_eq_true (by omega)
    go_wp2_with fail
    go_ret
    exact ⟨rfl, hb1⟩
  have e1 : decide ((len0 : Int) < 1) = false := decide_eq_false (by omega)
  have e2 : decide ((100 : Int) < (len0 : Int)) = false := decide_eq_false (by omega)
  go_enter Try.func5, Try.ntmps5
  go_wp2_with fail
  refine (awake_any _ HL.out).mono ?_
  rintro e w1 ⟨rfl, hb1⟩
  have HB1 := Lib.hid hb1
  clear hb1
  go_wp2_with fail
  have HPL := Lib.hid (recB_len s)
  have HP := Lib.hid (put_good HQ.out (show len0 ≠ 0 by omega) (show ¬ 4096 < len0 by omega))
  have HSP : Hid (∀ k c d, 2 ≤ k → (recB s)[k]? = some c → c ≠ d → nextC ((recB s).set k d) = ([], 0, 11)) := Lib.hid fun k c d hk hc hne => next_spoilt (by rw [HQ.out]; omega) (by rw [HQ.out]; omega) hk hc hne
  rw [HQ.out] at HPL
  obtain ⟨F, hF⟩ : ∃ F, recB s = F := ⟨_, rfl⟩
  rw [hF] at HPL HP HSP
  clear hF
  obtain ⟨q, hq⟩ : ∃ q, 6 + len0 = q := ⟨_, rfl⟩
  rw [hq] at HPL
  refine (put_is _ _ s len0 HQ.out _ (HS.out.later HB1.out) (by omega) (HL.out.below HB1.out) F 0 HP.out).mono ?_
  rintro e w3 ⟨⟨v, rfl, hown3⟩, hbel⟩
  have HB3 := Lib.hid (HB1.out.trans (hbel.mono HB1.out.size))
  obtain ⟨r, hr, hrl⟩ : ∃ r : Nat, at_ % ((q : Int) - 2) = (r : Int) ∧ r + 2 < q :=
    ⟨(at_ % ((q : Int) - 2)).toNat, by rw [Int.toNat_of_nonneg]; exact Int.emod_nonneg _ (by omega), by have := Int.emod_lt_of_pos at_ (b := (q : Int) - 2) (by omega); have := Int.emod_nonneg at_ (b := (q : Int) - 2) (by omega); omega⟩
  have hrA : 2 + r < F.length := by rw [HPL.out]; omega
  obtain ⟨sa, sc, rfl, _⟩ := hown3.bytes
  rw [HPL.out] at hown3 ⊢
  obtain ⟨g, rfl, hbg, hgl⟩ := hown3.block (by rw [HPL.out]; omega)
  have ⟨hcell, hfro⟩ := hown3.slot hrA
  have HBY3 := Lib.hid (hown3.read)
  obtain ⟨c, hc⟩ : ∃ c, F[2 + r] = c := ⟨_, rfl⟩
  obtain ⟨k, hk8, hk⟩ : ∃ k : Nat, k < 8 ∧ by_ % 8 = (k : Int) := ⟨(by_ % 8).toNat, by omega, by omega⟩
  have hbit := bit_of k hk8
  obtain ⟨d, hd, hcd⟩ := turned c (2 ^ k) hbit.1 hbit.2
  have HCR : Hid (F[2 + r]? = some c) := Lib.hid (by rw [List.getElem?_eq_getElem hrA, hc])
  rw [hc] at hcell
  have HNX := Lib.hid (HSP.out (2 + r) c d (by omega) HCR.out hcd)
  clear hc hown3 hbel HSP
  have hc8 := c.toNat_lt
  go_wp2_with fail
  rw [turn_is c d k hk8 hd]
  have HSET := Lib.hid (HBY3.out.set hrA d)
  rw [Nat.zero_add] at HSET
  have HW4 := Lib.hid (HB3.out.setCell (p := ⟨g, 2 + r, none⟩) (Nat.le_trans HB1.out.size hbg) (.int .u8 (d.toNat : Int)))
  refine (next_is _ _ (F.set (2 + r) d) q (by rw [List.length_set, HPL.out]) _ HSET.out (by omega) (HL.out.below HW4.out) _ HNX.out).mono ?_
  rintro e w5 ⟨a5, c5, rfl, _, hbel⟩
  have HW5 := Lib.hid (HW4.out.trans (hbel.mono HW4.out.size))
  clear hbel
  go_wp2_with fail
  go_ret
  exact ⟨rfl, HW5.out⟩

end Crc
end Go.Proofs.Ytlpkklhagmkmpaa
