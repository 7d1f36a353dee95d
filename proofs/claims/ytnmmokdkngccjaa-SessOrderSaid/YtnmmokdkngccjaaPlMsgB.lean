/-
  PLAIN: a message's body as a frame's body, and what a copy's body has more. No program in sight.
-/
import Derived.Test.YtnmmokdkngccjaaPlMsg
import Derived.Test.YtnmmokdkngccjaaPlFrame
namespace Go.Proofs.Ytnmmokdkngccjaa
namespace Msg
open Num Fld

/-! ### a message's body may be a frame's -/
theorem num_free {t n : Int} (h : t ≠ 8 ∧ t ≠ 9 ∧ t ≠ 10) : Frm.freeF (numF t n) = true := by
  unfold Frm.freeF numF
  simp [h.1, h.2.1, h.2.2]
theorem fields_free (m : Ms) : (fieldsM m).all Frm.freeF = true := by
  rw [List.all_eq_true]
  intro f hf
  unfold fieldsM optF execF optF numF at hf
  simp only [List.mem_append] at hf
  rcases hf with ((((((hf | hf) | hf) | hf) | hf) | hf) | hf) | hf
  · simp at hf
    rcases hf with rfl | rfl | rfl <;> rfl
  all_goals (split at hf <;> simp at hf <;> try (subst hf; rfl))
  · rcases hf with rfl | rfl <;> rfl
  · rcases hf with rfl | ⟨_, rfl⟩ | rfl | rfl | rfl | rfl | rfl | rfl | rfl | rfl <;> rfl
theorem bytesF_len {f : F} (h : rightF f = true) : 1 ≤ (bytesF f).length ∧ (bytesF f).length ≤ 262 := by
  have ⟨a, b, c, d, _⟩ := (Fld.right_iff f).1 h
  have ⟨_, _, h3, _, _⟩ := tag_show a b
  have hv : f.val.data.toList.length = f.val.size := by rw [Array.length_toList]; rfl
  unfold bytesF
  simp only [List.length_append, List.length_cons, List.length_nil]
  omega
theorem bytesL_len : ∀ {l : List F}, l.all rightF = true → l.length ≤ (bytesL l).length ∧ (bytesL l).length ≤ 262 * l.length
  | [], _ => by simp [bytesL]
  | f :: l, h => by
    rw [List.all_cons, Bool.and_eq_true] at h
    have h1 := bytesF_len h.1
    have h2 := bytesL_len h.2
    have e : bytesL (f :: l) = bytesF f ++ bytesL l := by simp [bytesL]
    rw [e, List.length_append, List.length_cons]
    omega
theorem parse_said {m : Ms} (h : rightM m = true) : parseL (putB (fieldsM m)) = (fieldsM m, 0) := by
  have ⟨p1, _⟩ := fields_put h
  have := back_two (a := fieldsM m) (b := []) p1 (by decide) (by have := (fields_may h).2.2; simp only [List.length_nil]; omega)
  simpa [show putB ([] : List F) = [] from by decide] using this
theorem said_frame {m : Ms} (h : rightM m = true) : Frm.rightY (putB (fieldsM m)) = true := by
  have ⟨a, b, c⟩ := fields_may h
  have l := bytesL_len a
  unfold Frm.rightY
  rw [parse_said h, (fields_put h).2, fields_free]
  simp only [Bool.and_true, Bool.and_eq_true, decide_eq_true_eq, decide_true]
  omega
theorem said_first {m : Ms} : ∃ r, fieldsM m = ⟨35, kindS m.kind⟩ :: r := ⟨_, by rw [fields_eq]; unfold headF; rfl⟩

/-! ### two messages, and a copy -/
theorem apart {a b : Ms} (ha : rightM a = true) (hb : rightM b = true) : putB (fieldsM a) = putB (fieldsM b) ↔ a = b := by
  constructor
  · intro e
    have h1 := parse_said ha
    rw [e, parse_said hb] at h1
    have h2 := read_back ha
    rw [← (Prod.mk.injEq .. ▸ h1 : fieldsM b = fieldsM a ∧ _).1, read_back hb] at h2
    exact ((Prod.mk.injEq .. ▸ h2 : b = a ∧ _).1).symm
  · rintro rfl; rfl
theorem copy_right (m : Ms) (c : Bool) : rightM {m with copy := c} = rightM m := rfl
theorem bytesL_append (a b : List F) : bytesL (a ++ b) = bytesL a ++ bytesL b := by unfold bytesL; rw [List.flatMap_append]
theorem copy_len (m : Ms) : (bytesL (fieldsM {m with copy := true})).length = (bytesL (fieldsM {m with copy := false})).length + 5 := by
  rw [fields_eq, fields_eq]
  have t : tailF {m with copy := true} = tailF {m with copy := false} := rfl
  rw [t]
  unfold headF
  simp only [bytesL_append, List.length_append]
  have h1 : (bytesL (optF true ⟨43, yS⟩)).length = 5 := by decide +kernel
  have h2 : (bytesL (optF false ⟨43, yS⟩)).length = 0 := by decide
  rw [h1, h2]
  omega

end Msg
end Go.Proofs.Ytnmmokdkngccjaa
