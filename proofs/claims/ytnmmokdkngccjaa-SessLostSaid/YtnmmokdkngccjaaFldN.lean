/-
  PLAIN: what a tag's number is.
-/
import Derived.Test.YtnmmokdkngccjaaPlField
namespace Go.Proofs.Ytnmmokdkngccjaa
namespace Fld
open Num

/-- the first field of a tag -/
def getF (l : List F) (tag : Int) : Option ByteArray := (l.find? fun f => f.tag == tag).map F.val
def getV (l : List F) (tag : Int) : ByteArray := (getF l tag).getD ⟨#[]⟩
def getO (l : List F) (tag : Int) : Bool := (getF l tag).isSome
/-- its number -/
def numO (l : List F) (tag : Int) : Bool := getO l tag && decide (parseE (getV l tag).data.toList = 0)
def numV (l : List F) (tag : Int) : Int := if numO l tag = true then parseV (getV l tag).data.toList else 0
theorem num_none {l : List F} {tag : Int} (h : getO l tag = false) : getV l tag = ⟨#[]⟩ := by
  unfold getO at h
  unfold getV
  cases hg : getF l tag with
  | none => rfl
  | some v => rw [hg] at h; cases h
theorem parse_empty : parseE [] = 3 ∧ parseV [] = 0 := by decide
theorem num_is {l : List F} {tag : Int} : numV l tag = parseV (getV l tag).data.toList ∧ numO l tag = decide (parseE (getV l tag).data.toList = 0) := by
  have hv : parseE (getV l tag).data.toList ≠ 0 → parseV (getV l tag).data.toList = 0 := fun h => by unfold parseV; rw [if_neg h]
  cases ho : getO l tag
  · have e := num_none ho
    have o : numO l tag = false := by unfold numO; rw [ho]; rfl
    unfold numV
    rw [o, e]
    exact ⟨parse_empty.2.symm, by rw [show (⟨#[]⟩ : ByteArray).data.toList = [] from rfl, parse_empty.1]; rfl⟩
  · have o : numO l tag = decide (parseE (getV l tag).data.toList = 0) := by unfold numO; rw [ho]; rfl
    refine ⟨?_, o⟩
    unfold numV
    rw [o]
    by_cases h : parseE (getV l tag).data.toList = 0
    · rw [if_pos (decide_eq_true h)]
    · rw [if_neg (by simpa using h), hv h]

theorem num_cases (l : List F) (tag : Int) : (numO l tag = true ∧ getO l tag = true ∧ parseE (getV l tag).data.toList = 0 ∧ numV l tag = parseV (getV l tag).data.toList) ∨
    (numO l tag = false ∧ numV l tag = 0 ∧ getO l tag = false ∧ parseV (getV l tag).data.toList = 0) ∨
    (numO l tag = false ∧ numV l tag = 0 ∧ getO l tag = true ∧ parseV (getV l tag).data.toList = 0 ∧ (parseE (getV l tag).data.toList == 0) = false) := by
  have hp := (num_is (l := l) (tag := tag)).1
  cases ho : numO l tag
  · right
    have hv : numV l tag = 0 := by unfold numV; rw [ho]; rfl
    cases hg : getO l tag
    · exact .inl ⟨rfl, hv, rfl, by rw [← hp, hv]⟩
    · refine .inr ⟨rfl, hv, rfl, by rw [← hp, hv], ?_⟩
      unfold numO at ho
      rw [hg, Bool.true_and] at ho
      exact beq_eq_false_iff_ne.2 (of_decide_eq_false ho)
  · left
    have hv : numV l tag = parseV (getV l tag).data.toList := by unfold numV; rw [if_pos ho]
    unfold numO at ho
    rw [Bool.and_eq_true, decide_eq_true_eq] at ho
    exact ⟨rfl, ho.1, ho.2, hv⟩

end Fld
end Go.Proofs.Ytnmmokdkngccjaa
