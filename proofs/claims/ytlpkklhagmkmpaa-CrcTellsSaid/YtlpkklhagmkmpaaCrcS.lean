/-
  The reference's Same at lists of bodies that are the same (layer 4's Same, for layer 8).
-/
import Derived.Test.YtlpkklhagmkmpaaCrcD
namespace Go.Proofs.Ytlpkklhagmkmpaa
open Go.RowKit
namespace Crc
open Num

set_option maxRecDepth 100000 in
set_option maxHeartbeats 1000000 in
theorem rsame_true (a : Option Addr) (cap : Nat) (b : Option Addr) (cap2 : Nat) (ys : List (List UInt8)) (w : World) (ha : Bodies w a cap ys) (hb : Bodies w b cap2 ys) (hlen : ys.length ≤ 1000000) :
    Calls Try.prog 16 #[.slice a ys.length cap, .slice b ys.length cap2] w fun e w' => e = .returned (.bool true) ∧ Below w.heap.size w w' := by
  have HA := Lib.hid ha
  have HB := Lib.hid hb
  clear ha hb
  go_enter Try.func16, Try.ntmps16
  go_wp2_with fail
  go_loopw [5] (fun i_ wr => ∃ k : Nat, k ≤ ys.length ∧ i_ = .int .i64 k ∧ Below w.heap.size w wr) (fun i_ _ => ys.length - (intOf i_).toNat)
  case atStart => exact ⟨0, Nat.zero_le _, rfl, Below.refl _ _⟩
  case round =>
    obtain ⟨k, hk, rfl, hbel⟩ := hrel
    have HW := Lib.hid hbel
    clear hbel
    by_cases hlt : k < ys.length
    · obtain ⟨g1, o1, rfl, hc1⟩ := (HA.out.later HW.out).at (by omega)
      obtain ⟨g2, o2, rfl, hc2⟩ := (HB.out.later HW.out).at (by omega)
      obtain ⟨y, hy⟩ : ∃ y, ys[k]? = some y := ⟨_, List.getElem?_eq_getElem hlt⟩
      obtain ⟨x1, c1, e1, b1⟩ := hc1 k y hy
      obtain ⟨x2, c2, e2, b2⟩ := hc2 k y hy
      obtain ⟨S, hS⟩ : ∃ S : ByteArray, (⟨y.toArray⟩ : ByteArray) = S := ⟨_, rfl⟩
      have cv := fun q => string_of (P := Try.prog) Try.underlying22 Try.underlying5 Try.underlying9 (b1.later (drew_below (Below.refl _ wr) q)) _ rfl
      have cw := fun q => string_of (P := Try.prog) Try.underlying22 Try.underlying5 Try.underlying9 (b2.later (drew_below (Below.refl _ wr) q)) _ rfl
      rw [hS] at cv cw
      clear hc1 hc2 hy b1 b2 hS
      go_wp2_with fail
      go_quiet (fail)
      go_wp2_with fail
      refine ⟨⟨k + 1, by omega, congrArg (Value.int .i64) (by omega), drew_below HW.out _⟩, by simp [intOf]; omega⟩
    · obtain rfl : k = ys.length := by omega
      go_wp2_with fail
      go_ret
      exact ⟨rfl, HW.out⟩

theorem rsame_is (a : Option Addr) (cap : Nat) (b : Option Addr) (cap2 : Nat) (ys : List (List UInt8)) (n : Nat) (hn : n = ys.length) (m : Nat) (hm : m = ys.length) (w : World) (ha : Bodies w a cap ys) (hb : Bodies w b cap2 ys) (hlen : ys.length ≤ 1000000) :
    Calls Try.prog 16 #[.slice a n cap, .slice b m cap2] w fun e w' => e = .returned (.bool true) ∧ Below w.heap.size w w' := by
  subst hn hm
  exact rsame_true a cap b cap2 ys w ha hb hlen

end Crc
end Go.Proofs.Ytlpkklhagmkmpaa
