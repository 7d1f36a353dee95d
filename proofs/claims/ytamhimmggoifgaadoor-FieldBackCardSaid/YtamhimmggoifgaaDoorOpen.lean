/-
  A slice of fields that came in, as the row reads it: what its cells hold.
-/
import Derived.Test.YtamhimmggoifgaaDoorRow
import Derived.Test.YtamhimmggoifgaaDoorFldEq
import Derived.Deep.Slices
import Derived.Deep.Fields
import Derived.ChangeSame
import Derived.OpenShut
namespace Go.Proofs.YtamhimmggoifgaaDoor
open Go.ChangeShapes Go.WideShapes Go.Deep Go.RowKit
namespace Fld

/-- tags that are ints, values that are strings -/
def FitsF (f : F) : Prop := -9223372036854775808 ≤ f.tag ∧ f.tag ≤ 9223372036854775807 ∧ f.val.size ≤ 9223372036854775807

section
variable {H : Type} {enc : TypeId × Value → H} {w : World} {base : Nat} {spare : Nat → Bool} {held : Bool}
set_option maxRecDepth 100000 in
theorem open_field {fuel : Nat} {cs : List Value} {x : DataW H × List MemPlace} (h : DataW.trod enc Tryd.prog w base spare held fuel 39 cs = some x) :
    ∃ f : F, cs = [.int .i64 f.tag, .string f.val] ∧ FitsF f := by
  obtain ⟨xs, n, _, _, hlen, hsz, hf⟩ := DataW.trod_struct fieldU h
  rw [show Tryd.prog.cellsOf 39 = 2 by kernel_rfl] at hlen
  match cs, hlen with
  | [c0, c1], _ =>
    have hl := fieldL
    cases hx : (Tryd.prog.fieldsOf 39).toList with
    | nil => rw [hx] at hl; simp at hl
    | cons f r =>
      cases r with
      | nil => rw [hx] at hl; simp at hl
      | cons g r =>
        rw [hx] at hl
        simp only [List.map_cons, List.cons.injEq, Prod.mk.injEq] at hl
        obtain ⟨⟨_, ty1, o1⟩, ⟨_, ty2, o2⟩, _⟩ := hl
        have h0 := hf 0 f (by rw [← Array.getElem?_toList, hx]; rfl)
        have h1 := hf 1 g (by rw [← Array.getElem?_toList, hx]; rfl)
        rw [ty1, o1, show Tryd.prog.cellsOf 3 = 1 by kernel_rfl] at h0
        rw [ty2, o2, show Tryd.prog.cellsOf 9 = 1 by kernel_rfl] at h1
        have h2 : 2 ≤ xs.length := by rw [hsz, ← Array.length_toList, hx]; simp
        rw [List.getElem?_eq_getElem (show 0 < xs.length by omega)] at h0
        rw [List.getElem?_eq_getElem (show 1 < xs.length by omega)] at h1
        obtain ⟨n1, e1, _, w1⟩ := DataW.trod_int Tryd.underlying3 h0
        obtain ⟨s1, e2, _, w2⟩ := DataW.trod_string Tryd.underlying9 h1
        have e1 : c0 = .int .i64 n1 := by simpa using e1
        have e2 : c1 = .string s1 := by simpa using e2
        have ⟨b1, b2⟩ := bounds_i64 w1
        exact ⟨⟨n1, s1⟩, by rw [e1, e2], b1, b2, w2⟩

/-- the rows of a slice of fields, one after the other -/
theorem fields_list {w : World} {a : Addr} (m : Nat) (h : ∀ i, i < m → ∃ f : F, w.cell? (a.add (i * 2)) = some (.int .i64 f.tag) ∧ w.cell? (a.add (i * 2 + 1)) = some (.string f.val) ∧ FitsF f) :
    ∃ l : List F, l.length = m ∧ (∀ i f, l[i]? = some f → w.cell? (a.add (i * 2)) = some (.int .i64 f.tag) ∧ w.cell? (a.add (i * 2 + 1)) = some (.string f.val)) ∧ ∀ f ∈ l, FitsF f := by
  induction m with
  | zero => exact ⟨[], rfl, fun i f hf => by simp at hf, fun f hf => by cases hf⟩
  | succ m ih =>
    obtain ⟨l, h1, h2, h3⟩ := ih fun i hi => h i (by omega)
    obtain ⟨f, g1, g2, g3⟩ := h m (by omega)
    refine ⟨l ++ [f], by rw [List.length_append, h1]; rfl, fun i g hg => ?_, fun g hg => ?_⟩
    · rcases Nat.lt_or_ge i l.length with hi | hi
      · rw [List.getElem?_append_left hi] at hg
        exact h2 i g hg
      · rw [List.getElem?_append_right hi] at hg
        have hi0 : i - l.length = 0 := by
          rcases Nat.eq_zero_or_pos (i - l.length) with h | h
          · exact h
          · rw [List.getElem?_eq_none (by simp only [List.length_cons, List.length_nil]; omega)] at hg; cases hg
        rw [hi0] at hg
        obtain rfl := Option.some.inj hg
        obtain rfl : i = m := by omega
        exact ⟨g1, g2⟩
    · rw [List.mem_append, List.mem_singleton] at hg
      rcases hg with hg | rfl
      · exact h3 g hg
      · exact g3

theorem open_fields {t : TypeId} (ht : Tryd.prog.underlying t = some (.slice 39)) {fuel : Nat} {cs : List Value} {x : DataW H × List MemPlace} (h : DataW.trod enc Tryd.prog w base spare held fuel t cs = some x) :
    cs = [.slice none 0 0] ∨ ∃ a len cap, cs = [.slice (some a) len cap] ∧ len ≤ maxLen ∧ ∃ l : List F, l.length = len ∧ RowAt encF w (some a) cap l ∧ ∀ f ∈ l, FitsF f := by
  rcases open_slice ht h with ⟨h0, _⟩ | ⟨a, len, cap, m, n, D, Pl, hcs, hb, hl, hm, hmm, _, hi⟩
  · exact .inl h0
  · refine .inr ⟨a, len, cap, hcs, Nat.le_trans hl hm, ?_⟩
    rw [show Tryd.prog.cellsOf 39 = 2 by kernel_rfl] at hi
    obtain ⟨l, h1, h2, h3⟩ := fields_list (w := w) (a := a) len fun i hlt => by
      obtain ⟨cs', hc, htr⟩ := hi i (by rw [hmm]; split <;> omega)
      obtain ⟨f, rfl, hf⟩ := open_field htr
      obtain ⟨_, _, hat⟩ := World.cells?_some hc
      have g0 := hat 0 (by omega)
      have g1 := hat 1 (by omega)
      rw [Go.Proofs.YtamhimmggoifgaaDoor.add_add] at g0 g1
      exact ⟨f, g0, g1, hf⟩
    refine ⟨l, h1, .inr ⟨a, rfl, by omega, fun j u hu => ?_⟩, h3⟩
    obtain ⟨i, r, f, rfl, hr, hf, hv⟩ := encF.flat_at (by decide) hu
    have ⟨k0, k1⟩ := h2 i f hf
    have hr2 : r = 0 ∨ r = 1 := by have : r < 2 := hr; omega
    rcases hr2 with rfl | rfl
    · obtain rfl := Option.some.inj hv; exact k0
    · obtain rfl := Option.some.inj hv; exact k1

end
end Fld
end Go.Proofs.YtamhimmggoifgaaDoor
