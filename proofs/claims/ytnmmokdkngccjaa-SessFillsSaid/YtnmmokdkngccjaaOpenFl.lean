/-
  Slices of flat structs that came in, as the row reads them: what their cells hold. And a struct of a number and such a slice (a line of items).
-/
import Derived.Test.YtnmmokdkngccjaaRow
import Derived.Test.YtnmmokdkngccjaaFlat
import Derived.Test.YtnmmokdkngccjaaMsgA
import Derived.Test.YtnmmokdkngccjaaPlReseq
import Derived.Deep.Slices
import Derived.Deep.Fields
import Derived.ChangeSame
import Derived.OpenShut
namespace Go.Proofs.Ytnmmokdkngccjaa
open Go.ChangeShapes Go.WideShapes Go.Deep Go.RowKit

theorem rows_list {α : Type} (c : Enc α) (Fit : α → Prop) {w : World} {a : Addr} (m : Nat) (h : ∀ i, i < m → ∃ x, (∀ j u, (c.of x)[j]? = some u → w.cell? (a.add (i * c.size + j)) = some u) ∧ Fit x) :
    ∃ l : List α, l.length = m ∧ (∀ i x, l[i]? = some x → ∀ j u, (c.of x)[j]? = some u → w.cell? (a.add (i * c.size + j)) = some u) ∧ ∀ x ∈ l, Fit x := by
  induction m with
  | zero => exact ⟨[], rfl, fun i x hx => by simp at hx, fun x hx => by cases hx⟩
  | succ m ih =>
    obtain ⟨l, h1, h2, h3⟩ := ih fun i hi => h i (by omega)
    obtain ⟨x, g1, g2⟩ := h m (by omega)
    refine ⟨l ++ [x], by rw [List.length_append, h1]; rfl, fun i y hy => ?_, fun y hy => ?_⟩
    · rcases Nat.lt_or_ge i l.length with hi | hi
      · rw [List.getElem?_append_left hi] at hy
        exact h2 i y hy
      · rw [List.getElem?_append_right hi] at hy
        have hi0 : i - l.length = 0 := by
          rcases Nat.eq_zero_or_pos (i - l.length) with h | h
          · exact h
          · rw [List.getElem?_eq_none (by simp only [List.length_cons, List.length_nil]; omega)] at hy; cases hy
        rw [hi0] at hy
        obtain rfl := Option.some.inj hy
        obtain rfl : i = m := by omega
        exact g1
    · rw [List.mem_append, List.mem_singleton] at hy
      rcases hy with hy | rfl
      · exact h3 y hy
      · exact g2

section
variable {H : Type} {enc : TypeId × Value → H} {P : Program} {w : World} {base : Nat} {spare : Nat → Bool} {held : Bool}
theorem open_flats {α : Type} (c : Enc α) (Fit : α → Prop) {fl : Fl} {e : TypeId} (hfl : fitsT P fl e = true) (hce : P.cellsOf e = c.size) (hs : 0 < c.size) (hof : ∀ u, Cs fl u → ∃ x, u = c.of x ∧ Fit x)
    {t : TypeId} (ht : P.underlying t = some (.slice e)) {fuel : Nat} {cs : List Value} {x : DataW H × List MemPlace} (h : DataW.trod enc P w base spare held fuel t cs = some x) :
    cs = [.slice none 0 0] ∨ ∃ a len cap, cs = [.slice (some a) len cap] ∧ len ≤ maxLen ∧ ∃ l : List α, l.length = len ∧ RowAt c w (some a) cap l ∧ ∀ x ∈ l, Fit x := by
  rcases open_slice ht h with ⟨h0, _⟩ | ⟨a, len, cap, m, n, D, Pl, hcs, hb, hl, hm, hmm, _, hi⟩
  · exact .inl h0
  · refine .inr ⟨a, len, cap, hcs, Nat.le_trans hl hm, ?_⟩
    rw [hce] at hi
    obtain ⟨l, h1, h2, h3⟩ := rows_list c Fit (w := w) (a := a) len fun i hlt => by
      obtain ⟨cs', hc, htr⟩ := hi i (by rw [hmm]; split <;> omega)
      obtain ⟨x, rfl, hf⟩ := hof _ (open_flat hfl htr)
      obtain ⟨_, _, hat⟩ := World.cells?_some hc
      refine ⟨x, fun j u hu => ?_, hf⟩
      have hj : j < c.size := by
        rcases Nat.lt_or_ge j (c.of x).length with h | h
        · rwa [c.len] at h
        · rw [List.getElem?_eq_none h] at hu; cases hu
      have g := hat j hj
      rw [Go.Proofs.Ytnmmokdkngccjaa.add_add] at g
      rw [g, hu]
    refine ⟨l, h1, .inr ⟨a, rfl, by omega, fun j u hu => ?_⟩, h3⟩
    obtain ⟨i, r, f, rfl, hr, hf, hv⟩ := c.flat_at hs hu
    exact h2 i f hf r u hv
end

namespace Rsq
open Msg (I64)
structure It.Fits (x : It) : Prop where
  fr : I64 x.fr
  to : I64 x.to
  m : x.m.Fits
def It.cells (x : It) : List Value := [.int .i64 x.fr, .int .i64 x.to] ++ x.m.cells.toList
def flIt : Fl := .cons .i (.cons .i (.cons Msg.flMs .nil))
theorem it_of {u : List Value} (h : Cs flIt u) : ∃ x : It, u = x.cells ∧ x.Fits := by
  obtain ⟨_, _, rfl, k1, g1⟩ := h.cons_inv
  obtain ⟨a0, rfl, f0⟩ := k1.i_inv
  obtain ⟨_, _, rfl, k2, g2⟩ := g1.cons_inv
  obtain ⟨a1, rfl, f1⟩ := k2.i_inv
  obtain ⟨_, _, rfl, k3, g3⟩ := g2.cons_inv
  obtain ⟨m, rfl, f2⟩ := Msg.ms_of k3
  obtain rfl := g3.nil_inv
  exact ⟨⟨a0, a1, m⟩, by simp [It.cells], f0, f1, f2⟩
def encI : Enc It := ⟨It.cells, 20, fun _ => rfl, fun x u hu => by
  unfold It.cells Msg.Ms.cells at hu
  simp only [List.cons_append, List.nil_append, List.mem_cons, List.not_mem_nil, or_false] at hu
  rcases hu with h | h | h | h | h | h | h | h | h | h | h | h | h | h | h | h | h | h | h | h <;> subst h <;> rfl⟩
end Rsq
end Go.Proofs.Ytnmmokdkngccjaa
