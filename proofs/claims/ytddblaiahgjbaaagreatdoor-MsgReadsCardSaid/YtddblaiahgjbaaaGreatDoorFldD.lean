/-
  The contracts of the reference's Get, Short and Same (layer 2).
-/
import Derived.Test.YtddblaiahgjbaaaGreatDoorFldA
import Derived.Test.YtddblaiahgjbaaaGreatDoorRow
import Derived.Test.YtddblaiahgjbaaaGreatDoorFldEq
import Derived.Test.YtddblaiahgjbaaaGreatDoorFldN
import Derived.Deep.QuietTactic
import Derived.BigQuiet
import Derived.WalkSmall
namespace Go.Proofs.YtddblaiahgjbaaaGreatDoor
open Go.RowKit
namespace Fld

/-- fields that aren't too much for a look -/
def shortB (l : List F) : Bool := decide (l.length ≤ 110) && l.all fun f => decide (f.val.size ≤ 300)

theorem get_none {l : List F} {tag : Int} {k : Nat} (hk : l.length ≤ k) (h : ∀ f ∈ l.take k, f.tag ≠ tag) : getV l tag = ⟨#[]⟩ ∧ getO l tag = false := by
  rw [List.take_of_length_le hk] at h
  have e : l.find? (fun f => f.tag == tag) = none := by
    rw [List.find?_eq_none]
    intro f hf
    simpa using h f hf
  unfold getV getO getF
  rw [e]
  exact ⟨rfl, rfl⟩
theorem get_some {l : List F} {tag : Int} {k : Nat} {f : F} (hf : l[k]? = some f) (h : ∀ f ∈ l.take k, f.tag ≠ tag) (ht : f.tag = tag) : getV l tag = f.val ∧ getO l tag = true := by
  have hk : k < l.length := by
    rcases Nat.lt_or_ge k l.length with h | h
    · exact h
    · rw [List.getElem?_eq_none h] at hf; cases hf
  rw [List.getElem?_eq_getElem hk] at hf
  have e : l.find? (fun f => f.tag == tag) = some f := by
    have e1 : l = l.take k ++ f :: l.drop (k + 1) := by
      rw [← Option.some.inj hf, ← List.drop_eq_getElem_cons hk, List.take_append_drop]
    rw [e1, List.find?_append]
    have e2 : (l.take k).find? (fun f => f.tag == tag) = none := by
      rw [List.find?_eq_none]
      intro g hg
      simpa using h g hg
    rw [e2, List.find?_cons_of_pos (by simpa using ht)]
    rfl
  unfold getV getO getF
  rw [e]
  exact ⟨rfl, rfl⟩
theorem no_step {l : List F} {tag : Int} {k : Nat} {f : F} (hf : l[k]? = some f) (h : ∀ f ∈ l.take k, f.tag ≠ tag) (ht : f.tag ≠ tag) : ∀ f ∈ l.take (k + 1), f.tag ≠ tag := by
  intro g hg
  rw [List.take_add_one, List.mem_append, hf] at hg
  rcases hg with hg | hg
  · exact h g hg
  · simp at hg; rw [hg]; exact ht

theorem short_long {l : List F} (h : 110 < l.length) : shortB l = false := by unfold shortB; rw [decide_eq_false (by omega)]; rfl
theorem short_bad {l : List F} {k : Nat} {f : F} (hf : l[k]? = some f) (h : 300 < f.val.size) : shortB l = false := by
  unfold shortB
  have : (l.all fun f => decide (f.val.size ≤ 300)) = false := by
    rw [List.all_eq_false]
    exact ⟨f, List.mem_of_getElem? hf, by simp; exact h⟩
  rw [this, Bool.and_false]
theorem short_end {l : List F} (h : l.length ≤ 110) (ha : ∀ f ∈ l.take l.length, f.val.size ≤ 300) : shortB l = true := by
  rw [List.take_length] at ha
  unfold shortB
  rw [decide_eq_true h, Bool.true_and, List.all_eq_true]
  intro f hf
  exact decide_eq_true (ha f hf)
theorem short_step {l : List F} {k : Nat} {f : F} (hf : l[k]? = some f) (h : ∀ f ∈ l.take k, f.val.size ≤ 300) (ht : f.val.size ≤ 300) : ∀ f ∈ l.take (k + 1), f.val.size ≤ 300 := by
  intro g hg
  rw [List.take_add_one, List.mem_append, hf] at hg
  rcases hg with hg | hg
  · exact h g hg
  · simp at hg; rw [hg]; exact ht
theorem short_is {l : List F} (h : shortB l = true) : l.length ≤ 110 ∧ ∀ f ∈ l, f.val.size ≤ 300 := by
  unfold shortB at h
  rw [Bool.and_eq_true, decide_eq_true_eq, List.all_eq_true] at h
  exact ⟨h.1, fun f hf => of_decide_eq_true (h.2 f hf)⟩

theorem take_same {x y : List F} {k : Nat} {f g : F} (h : x.take k = y.take k) (hf : x[k]? = some f) (hg : y[k]? = some g) (e : f = g) : x.take (k + 1) = y.take (k + 1) := by
  rw [List.take_add_one, List.take_add_one, h, hf, hg, e]
/-- are two lists of fields the same? -/
def SameP (x y : List F) (w : World) (e : Ending) (w' : World) : Prop := (∃ o : Bool, e = .returned (.bool o) ∧ (o = true ↔ x = y)) ∧ Below w.heap.size w w'
end Fld
end Go.Proofs.YtddblaiahgjbaaaGreatDoor
