/-
  The contract of the reference's Right (layer 3).
-/
import Derived.Test.YtddblaiahgjbaaaDoorFrmA
import Derived.Test.YtddblaiahgjbaaaDoorFldC
namespace Go.Proofs.YtddblaiahgjbaaaDoor
open Go.RowKit
namespace Frm
open Num
open Fld (parseL F)

theorem parse_len (b : List UInt8) : (parseL b).1.length ≤ 100 := by
  by_cases h : (parseL b).2 = 0
  · have hp := (Fld.parse_back (b := b) (l := (parseL b).1) (by rw [← h])).1
    have := (Fld.putE_ok hp).1
    exact this
  · rw [Fld.parse_err h]; decide
theorem right_len {b : List UInt8} (h : b.length = 0 ∨ 8000 < b.length) : rightY b = false := by
  unfold rightY
  rcases h with h | h
  · rw [h]; rfl
  · rw [decide_eq_false (show ¬ b.length ≤ 8000 by omega)]; simp
theorem right_tag {b : List UInt8} {k : Nat} {f : F} (hk : (parseL b).1[k]? = some f) (h : freeF f = false) : rightY b = false := by
  unfold rightY
  have : (parseL b).1.all freeF = false := by
    rw [List.all_eq_false]
    exact ⟨f, List.mem_of_getElem? hk, by simp [h]⟩
  rw [this, Bool.and_false]
theorem right_all {b : List UInt8} (h0 : b.length ≠ 0) (h1 : b.length ≤ 8000) (h : ((parseL b).1.take (parseL b).1.length).all freeF = true) : rightY b = decide ((parseL b).2 = 0) := by
  rw [List.take_length] at h
  unfold rightY
  rw [h, decide_eq_true h0, decide_eq_true h1]
  simp
theorem free_step {l : List F} {k : Nat} {f : F} (hk : l[k]? = some f) (h : (l.take k).all freeF = true) (hf : freeF f = true) : (l.take (k + 1)).all freeF = true := by
  rw [List.take_add_one, hk, List.all_append, h]
  simp [hf]
theorem free_is (t : Int) (v : ByteArray) : freeF ⟨t, v⟩ = (!(t == 8) && !(t == 9) && !(t == 10)) := rfl

end Frm
end Go.Proofs.YtddblaiahgjbaaaDoor
