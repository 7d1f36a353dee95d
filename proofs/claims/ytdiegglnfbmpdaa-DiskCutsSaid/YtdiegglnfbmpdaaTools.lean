/-
  Small tools of all layers: how endings of calls are brought to one form. No program in sight.
-/
import Derived.WalkKit
import Derived.Lib.Hide
namespace Go.Proofs.Ytdiegglnfbmpdaa
open Go.RowKit

theorem ret_i {k : IntKind} {a b : Int} (h : a = b) : Ending.returned (.int k a) = .returned (.int k b) := by rw [h]
theorem ret_b {x y : Bool} (h : x = y) : Ending.returned (.bool x) = .returned (.bool y) := by rw [h]
theorem ret_s {x y : ByteArray} (h : x = y) : Ending.returned (.string x) = .returned (.string y) := by rw [h]
theorem ret_ib {k : IntKind} {a b : Int} {x y : Bool} (h : a = b) (h2 : x = y) : Ending.returned (.tuple #[.int k a, .bool x]) = .returned (.tuple #[.int k b, .bool y]) := by rw [h, h2]
theorem ret_ii {k l : IntKind} {a b c d : Int} (h : a = b) (h2 : c = d) : Ending.returned (.tuple #[.int k a, .int l c]) = .returned (.tuple #[.int k b, .int l d]) := by rw [h, h2]

theorem ret_vi {k : IntKind} {v : Value} {a b : Int} (h : a = b) : Ending.returned (.tuple #[v, .int k a]) = .returned (.tuple #[v, .int k b]) := by rw [h]
/-- a slice of integers that can be read: nil, or cells that hold the list -/
def Ints (k : IntKind) (w : World) (a : Option Addr) (cap : Nat) (l : List Int) : Prop :=
  (a = none ∧ l = [] ∧ cap = 0) ∨
  ∃ x, a = some x ∧ l.length ≤ cap ∧ ∀ i, i < l.length → w.cell? (x.add i) = some (.int k (l.getD i 0))
theorem add_none (b off i : Nat) : (⟨b, off, none⟩ : Addr).add i = ⟨b, off + i, none⟩ := by
  unfold Addr.add
  by_cases h : i = 0 <;> simp [h]
/-- such a slice is nil, or has no element, or lies in a row of a block -/
theorem Ints.parts {k : IntKind} {w : World} {a : Option Addr} {cap : Nat} {l : List Int} (h : Ints k w a cap l) :
    (a = none ∧ l = [] ∧ cap = 0) ∨ (∃ x, a = some x ∧ l = []) ∨
    ∃ b off, a = some ⟨b, off, none⟩ ∧ l ≠ [] ∧ l.length ≤ cap ∧ ∀ i, i < l.length → w.cell? ⟨b, off + i, none⟩ = some (.int k (l.getD i 0)) := by
  rcases h with h | ⟨x, rfl, hl, hc⟩
  · exact .inl h
  · by_cases hn : l = []
    · exact .inr (.inl ⟨x, rfl, hn⟩)
    · obtain ⟨b, off, spot⟩ := x
      have hp : 0 < l.length := List.length_pos_iff.2 hn
      have h0 := hc 0 hp
      have hspot : spot = none := by simpa [Addr.add] using World.cell?_spot h0
      subst hspot
      exact .inr (.inr ⟨b, off, rfl, hn, hl, fun i hi => by have := hc i hi; rwa [add_none] at this⟩)

theorem Ints.take {k : IntKind} {w : World} {a : Option Addr} {cap : Nat} {l : List Int} (h : Ints k w a cap l) (n : Nat) : Ints k w a cap (l.take n) := by
  rcases h with ⟨rfl, rfl, rfl⟩ | ⟨x, rfl, hl, hc⟩
  · exact .inl ⟨rfl, by simp, rfl⟩
  · refine .inr ⟨x, rfl, by rw [List.length_take]; omega, fun i hi => ?_⟩
    rw [List.length_take] at hi
    rw [hc i (by omega)]
    simp [List.getD_eq_getElem?_getD, show i < n by omega]
theorem Ints.below {k : IntKind} {w w' : World} {a : Option Addr} {cap : Nat} {l : List Int} (h : Ints k w a cap l) (hb : Below w.heap.size w w') (ha : ∀ x, a = some x → l ≠ [] → x.block < w.heap.size) : Ints k w' a cap l := by
  rcases h with h | ⟨x, rfl, hl, hc⟩
  · exact .inl h
  · refine .inr ⟨x, rfl, hl, fun i hi => ?_⟩
    have hne : l ≠ [] := by intro e; rw [e] at hi; simp at hi
    have hx := ha x rfl hne
    rw [hb.cell (p := x.add i) (by unfold Addr.add; split <;> exact hx)]
    exact hc i hi
/-- a cell that is there lies in a block that is there -/
theorem cell_lt {w : World} {p : Addr} {v : Value} (h : w.cell? p = some v) : p.block < w.heap.size := by
  by_cases hp : p.block < w.heap.size
  · exact hp
  · have : w.cell? p = none := by simp [World.cell?, Array.getElem?_eq_none (show w.heap.size ≤ p.block by omega)]
    rw [this] at h; cases h
theorem Ints.later {k : IntKind} {w w' : World} {a : Option Addr} {cap : Nat} {l : List Int} (h : Ints k w a cap l) (hb : Below w.heap.size w w') : Ints k w' a cap l := by
  refine h.below hb fun x hx hne => ?_
  rcases h with ⟨rfl, _⟩ | ⟨y, hy, hl, hc⟩
  · cases hx
  · rw [hx] at hy
    obtain rfl := Option.some.inj hy
    have hp : 0 < l.length := List.length_pos_iff.2 hne
    have := cell_lt (hc 0 hp)
    simpa [Addr.add] using this

theorem add_add (x : Addr) (n i : Nat) : (x.add n).add i = x.add (n + i) := by
  unfold Addr.add
  by_cases h : n = 0 <;> by_cases g : i = 0 <;> simp [h, g]
  omega
theorem Ints.drop {k : IntKind} {w : World} {x : Addr} {cap : Nat} {l : List Int} (h : Ints k w (some x) cap l) (n : Nat) (hn : n ≤ l.length) : Ints k w (some (x.add n)) (cap - n) (l.drop n) := by
  rcases h with ⟨h, _⟩ | ⟨y, hy, hl, hc⟩
  · cases h
  · obtain rfl := Option.some.inj hy
    refine .inr ⟨x.add n, rfl, by rw [List.length_drop]; omega, fun i hi => ?_⟩
    rw [List.length_drop] at hi
    rw [add_add, hc (n + i) (by omega)]
    simp [List.getD_eq_getElem?_getD]

/-- what the frame of a law finds of a slice of integers among the arguments -/
def IsRow (k : IntKind) (w : World) (a : Option Addr) (len cap : Nat) (l : List Int) : Prop :=
  l.length = len ∧ len ≤ maxLen ∧ Ints k w a cap l ∧ ∀ n ∈ l, (Lit.int k n).wf = true

end Go.Proofs.Ytdiegglnfbmpdaa
