/-
  The contracts of the reference's Sum and begins (layer 3).
-/
import Derived.Test.YtddblaiahgjbaaaDoorPlFound
import Derived.Test.YtddblaiahgjbaaaDoorMemS
import Derived.Test.YtddblaiahgjbaaaDoorProg
import Derived.WalkSpells
import Derived.WalkLawsBesides
import Derived.BigQuiet
namespace Go.Proofs.YtddblaiahgjbaaaDoor
open Go.RowKit
namespace Frm
open Num

theorem below_drew {B : Nat} {a w : World} (h : Below B a w) (n : Nat) : Below B a (w.drewN n) := h.trans ⟨rfl, rfl, rfl, Nat.le_refl _, fun _ _ => rfl⟩

/-- so many bytes are the beginning's -/
def BegAt (s : List UInt8) (k : Nat) : Prop := k ≤ 12 ∧ k ≤ s.length ∧ s.take k = pre.take k
theorem BegAt.zero (s : List UInt8) : BegAt s 0 := ⟨by omega, by omega, by simp⟩
theorem BegAt.step {s : List UInt8} {k : Nat} (h : BegAt s k) (hk : k < s.length) (h12 : k < 12) (hc : s[k] = pre[k]'h12) : BegAt s (k + 1) := by
  refine ⟨by omega, by omega, ?_⟩
  have hp : k < pre.length := h12
  rw [List.take_succ_eq_append_getElem hk, List.take_succ_eq_append_getElem hp, h.2.2, hc]
  rfl
theorem BegAt.yes {s : List UInt8} {k : Nat} (h : BegAt s k) (hk : k = 12 ∨ k = s.length) : begB s = true := by
  obtain ⟨h1, h2, h3⟩ := h
  unfold begB
  rw [beq_iff_eq]
  rcases hk with rfl | rfl
  · rw [h3, List.take_of_length_le (by exact Nat.le_refl 12), List.take_of_length_le (show pre.length ≤ s.length from h2)]
  · rw [List.take_of_length_le h1, ← h3, List.take_length]
theorem BegAt.no {s : List UInt8} {k : Nat} (hk : k < s.length) (h12 : k < 12) (hc : s[k] ≠ pre[k]'h12) : begB s = false := by
  unfold begB
  rw [beq_eq_false_iff_ne]
  intro e
  have hp : k < pre.length := h12
  have h1 : (s.take 12)[k]? = (pre.take s.length)[k]? := by rw [e]
  rw [List.getElem?_take_of_lt h12, List.getElem?_take_of_lt hk, List.getElem?_eq_getElem hk, List.getElem?_eq_getElem hp] at h1
  exact hc (Option.some.inj h1)

end Frm
end Go.Proofs.YtddblaiahgjbaaaDoor
