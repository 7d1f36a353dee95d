/-
  A line that came in, as the row reads it; a slice of items that came in.
-/
import Derived.Test.YtnmmokdkngccjaaRsqR
import Derived.Test.YtnmmokdkngccjaaOpenFl
import Derived.Deep.Slices
import Derived.Deep.Fields
import Derived.ChangeSame
import Derived.OpenShut

namespace Go.Proofs.Ytnmmokdkngccjaa
open Go.ChangeShapes Go.WideShapes Go.Deep Go.RowKit
namespace Rsq
open Msg (I64)

def IsIts (w : World) (a : Option Addr) (len cap : Nat) (l : List It) : Prop := l.length = len ∧ len ≤ maxLen ∧ RowAt encI w a cap l ∧ ∀ i ∈ l, i.Fits
theorem lineU : Try.prog.underlying 26 = some (.struct (Try.prog.fieldsOf 26)) := by kernel_rfl
theorem lineL : ((Try.prog.fieldsOf 26).toList.map fun f => (f.name, f.type, f.offset)) = [("Next", 2, 0), ("Held", 24, 1)] := by kernel_rfl

section
variable {H : Type} {enc : TypeId × Value → H} {w : World} {base : Nat} {spare : Nat → Bool} {held : Bool}
theorem open_its {fuel : Nat} {cs : List Value} {x : DataW H × List MemPlace} (h : DataW.trod enc Try.prog w base spare held fuel 24 cs = some x) :
    ∃ a len cap l, cs = [.slice a len cap] ∧ IsIts w a len cap l := by
  rcases open_flats encI It.Fits fitsIt (by kernel_rfl) (by decide) (fun u h => it_of h) Try.underlying24 h with rfl | ⟨x, l, c, rfl, hm, zs, hz, hrow, hfit⟩
  · exact ⟨none, 0, 0, [], rfl, rfl, by unfold maxLen; omega, .inl ⟨rfl, rfl, rfl⟩, fun _ h => by cases h⟩
  · exact ⟨some x, l, c, zs, rfl, hz, hm, hrow, hfit⟩
set_option maxRecDepth 100000 in
theorem open_line {fuel : Nat} {cs : List Value} {x : DataW H × List MemPlace} (h : DataW.trod enc Try.prog w base spare held fuel 26 cs = some x) :
    ∃ nx a len cap l, cs = [.int .i64 nx, .slice a len cap] ∧ I64 nx ∧ IsIts w a len cap l := by
  obtain ⟨xs, n, _, _, hlen, hsz, hf⟩ := DataW.trod_struct lineU h
  rw [show Try.prog.cellsOf 26 = 2 by kernel_rfl] at hlen
  match cs, hlen with
  | [c0, c1], _ =>
    have hl := lineL
    cases hx : (Try.prog.fieldsOf 26).toList with
    | nil => rw [hx] at hl; simp at hl
    | cons f r =>
      cases r with
      | nil => rw [hx] at hl; simp at hl
      | cons g r =>
        rw [hx] at hl
        simp only [List.map_cons, List.cons.injEq, Prod.mk.injEq] at hl
        obtain ⟨⟨_, ty1, o1⟩, ⟨_, ty2, o2⟩, _⟩ := hl
        have h0 := hf 0 f (by rw [← Array.getElem?_toList, hx]; rfl)
        have h1 := hf 1 g (by rw [← Array.getElem?_toList, hx]; rfl)
        rw [ty1, o1, show Try.prog.cellsOf 2 = 1 by kernel_rfl] at h0
        rw [ty2, o2, show Try.prog.cellsOf 24 = 1 by kernel_rfl] at h1
        have h2 : 2 ≤ xs.length := by rw [hsz, ← Array.length_toList, hx]; simp
        rw [List.getElem?_eq_getElem (show 0 < xs.length by omega)] at h0
        rw [List.getElem?_eq_getElem (show 1 < xs.length by omega)] at h1
        obtain ⟨n1, e1, _, w1⟩ := DataW.trod_int Try.underlying2 h0
        obtain ⟨a, len, cap, l, e2, w2⟩ := open_its h1
        have e1 : c0 = .int .i64 n1 := by simpa using e1
        have e2 : c1 = .slice a len cap := by simpa using e2
        exact ⟨n1, a, len, cap, l, by rw [e1, e2], bounds_i64 w1, w2⟩
end

end Rsq
end Go.Proofs.Ytnmmokdkngccjaa
