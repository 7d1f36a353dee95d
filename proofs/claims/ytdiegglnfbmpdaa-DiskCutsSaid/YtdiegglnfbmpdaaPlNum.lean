/-
  PLAIN: what layer 1 (num) comes to, as Lean functions on integers and lists. No program in sight.
-/
import Derived.WalkKit
namespace Go.Proofs.Ytdiegglnfbmpdaa
namespace Num

/-- is it a number? -/
def rightB (n : Int) : Bool := decide (-4611686018427387904 ≤ n) && decide (n ≤ 4611686018427387904)
theorem right_iff (n : Int) : rightB n = true ↔ -4611686018427387904 ≤ n ∧ n ≤ 4611686018427387904 := by
  unfold rightB; simp
theorem right_no (n : Int) : rightB n = false ↔ ¬ (-4611686018427387904 ≤ n ∧ n ≤ 4611686018427387904) := by
  rw [← right_iff]; cases rightB n <;> simp

/-- the number, if it is one, else 0 -/
def cutV (n : Int) : Int := if rightB n = true then n else 0
def addO (a b : Int) : Bool := rightB a && rightB b && rightB (a + b)
def addV (a b : Int) : Int := if addO a b = true then a + b else 0
def mulO (a b : Int) : Bool := rightB a && rightB b && rightB (a * b)
def mulV (a b : Int) : Int := if mulO a b = true then a * b else 0

/-- the sum of a list, if all are numbers and it is one -/
def sumO (l : List Int) : Bool := l.all rightB && rightB l.sum
def sumV (l : List Int) : Int := if sumO l = true then l.sum else 0
theorem sumV_of {l : List Int} (h : sumO l = true) : sumV l = l.sum := by simp [sumV, h]
theorem sumV_no {l : List Int} (h : sumO l = false) : sumV l = 0 := by simp [sumV, h]

theorem sum_take_succ (l : List Int) (k : Nat) (h : k < l.length) : (l.take (k + 1)).sum = (l.take k).sum + l.getD k 0 := by
  rw [List.take_succ_eq_append_getElem h, List.sum_append]
  simp [List.getD_eq_getElem?_getD, h]
theorem all_take_succ (l : List Int) (k : Nat) (h : k < l.length) (ha : (l.take k).all rightB = true) (hr : rightB (l.getD k 0) = true) : (l.take (k + 1)).all rightB = true := by
  rw [List.take_succ_eq_append_getElem h, List.all_append, ha]
  simpa [List.getD_eq_getElem?_getD, h] using hr
theorem sumO_bad (l : List Int) (k : Nat) (h : k < l.length) (hr : rightB (l.getD k 0) = false) : sumO l = false := by
  have : l.all rightB = false := by
    rw [List.all_eq_false]
    refine ⟨l[k], List.getElem_mem h, ?_⟩
    simpa [List.getD_eq_getElem?_getD, h] using hr
  simp [sumO, this]
theorem sum_bound : ∀ (l : List Int), l.all rightB = true → -(4611686018427387904 * (l.length : Int)) ≤ l.sum ∧ l.sum ≤ 4611686018427387904 * (l.length : Int)
  | [], _ => by simp
  | x :: r, h => by
    simp only [List.all_cons, Bool.and_eq_true] at h
    have h1 := sum_bound r h.2
    have h2 := (right_iff x).1 h.1
    simp only [List.sum_cons, List.length_cons]
    omega

end Num
end Go.Proofs.Ytdiegglnfbmpdaa
