/-
  A session and lists of messages in memory; what the calls of layer 7 tell.
-/
import Derived.Test.YtnmmokdkngccjaaPlS
import Derived.Test.YtnmmokdkngccjaaRsqR
import Derived.Test.YtnmmokdkngccjaaOwn2
import Derived.Test.YtnmmokdkngccjaaMemS
import Derived.Test.YtnmmokdkngccjaaLaid

namespace Go.Proofs.Ytnmmokdkngccjaa
open Go.RowKit
namespace Ses
open Num
open Msg (I64)

def encM : Enc Msg.Ms := ⟨fun m => m.cells.toList, 18, fun _ => rfl, fun m u hu => by
  unfold Msg.Ms.cells at hu
  simp only [List.mem_cons, List.not_mem_nil, or_false] at hu
  rcases hu with h | h | h | h | h | h | h | h | h | h | h | h | h | h | h | h | h | h <;> subst h <;> rfl⟩
/-- a session's cells -/
def Se.arr (s : Se) (a : Option Addr) (n cap : Nat) : Array Value :=
  #[.int .i64 s.state, .int .i64 s.inn.next, .slice a n cap, .int .i64 s.out, .int .i64 s.every, .int .i64 s.heard, .int .i64 s.said, .int .i64 s.asked, .int .i64 s.when, .bool s.tested]
theorem arr_size (s : Se) (a : Option Addr) (n cap : Nat) : (s.arr a n cap).size = 10 := rfl
theorem arr_one (s : Se) (a : Option Addr) (n cap : Nat) : (s.arr a n cap).all (·.oneCell') = true := by
  unfold Se.arr
  simp [Value.oneCell']
theorem arr_info (s : Se) (a : Option Addr) (n cap : Nat) : (Try.prog.info? 28).map (·.size) = some (s.arr a n cap).size := by
  rw [arr_size]
  kernel_rfl
/-- a session in its block -/
def SeAt (w : World) (g : Nat) (s : Se) (a : Option Addr) (n cap : Nat) : Prop := w.heap[g]? = some (.cells (s.arr a n cap) 28 (0, 0))
theorem SeAt.later {w w' : World} {g : Nat} {s : Se} {a : Option Addr} {n cap : Nat} (h : SeAt w g s a n cap) (hb : Below w.heap.size w w') : SeAt w' g s a n cap := below_block h hb
theorem SeAt.made (w : World) (s : Se) (a : Option Addr) (n cap : Nat) : SeAt (w.alloc (.cells (s.arr a n cap) 28)) w.heap.size s a n cap := heap_alloc_new w _
theorem SeAt.range {w : World} {g : Nat} {s : Se} {a : Option Addr} {n cap : Nat} (h : SeAt w g s a n cap) : w.rangeAt g 0 (s.arr a n cap).toList := block_range h
theorem SeAt.lt {w : World} {g : Nat} {s : Se} {a : Option Addr} {n cap : Nat} (h : SeAt w g s a n cap) : g < w.heap.size := (Array.getElem?_eq_some_iff.1 h).1
theorem SeAt.put {w : World} {g : Nat} {s : Se} {a : Option Addr} {n cap : Nat} (h : SeAt w g s a n cap) (r : Se) (b : Option Addr) (m c : Nat) : SeAt (w.setRow g (r.arr b m c)) g r b m c := setRow_heap w g _ _ _ _ h
theorem grown_row (w : World) (g : Nat) (cs : Array Value) : w.grownBy (w.setRow g cs) (some g) := ⟨rfl, rfl, rfl, by simp [World.setRow], fun j _ hj => setRow_other w g j cs (fun e => hj (by rw [e]))⟩
/-- rows of items and of messages stand over a store into a session's block -/
theorem SeAt.row {α : Type} {c : Enc α} {w : World} {g : Nat} {s : Se} {a b : Option Addr} {n cap cap' : Nat} {l : List α} (h : SeAt w g s a n cap) (hc : 10 < c.size) (hr : RowAt c w b cap' l) (cs : Array Value) : RowAt c (w.setRow g cs) b cap' l :=
  hr.grown (grown_row w g cs) (hr.apart (by omega) h (by rw [arr_size]; exact hc))
theorem SeAt.other {w : World} {g g' : Nat} {s : Se} {a : Option Addr} {n cap : Nat} (h : SeAt w g s a n cap) (hne : g ≠ g') (cs : Array Value) : SeAt (w.setRow g' cs) g s a n cap := (setRow_other w g' g cs (fun e => hne (by rw [e]))).trans h
/-- its cells -/
structure Cells (w : World) (g : Nat) (s : Se) (a : Option Addr) (n cap : Nat) : Prop where
  c0 : w.cell? ⟨g, 0, none⟩ = some (.int .i64 s.state)
  c1 : w.cell? ⟨g, 1, none⟩ = some (.int .i64 s.inn.next)
  c2 : w.cell? ⟨g, 2, none⟩ = some (.slice a n cap)
  c3 : w.cell? ⟨g, 3, none⟩ = some (.int .i64 s.out)
  c5 : w.cell? ⟨g, 5, none⟩ = some (.int .i64 s.heard)
  c7 : w.cell? ⟨g, 7, none⟩ = some (.int .i64 s.asked)
  c9 : w.cell? ⟨g, 9, none⟩ = some (.bool s.tested)
theorem SeAt.cells {w : World} {g : Nat} {s : Se} {a : Option Addr} {n cap : Nat} (h : SeAt w g s a n cap) : Cells w g s a n cap :=
  ⟨cell_at h rfl, cell_at h rfl, cell_at h rfl, cell_at h rfl, cell_at h rfl, cell_at h rfl, cell_at h rfl⟩
/-- a message of a row -/
theorem msg_at {w : World} {b off cap : Nat} {l : List Msg.Ms} (hr : RowAt encM w (some ⟨b, off, none⟩) cap l) {k : Nat} {m : Msg.Ms} (hm : l[k]? = some m) : w.rangeAt b (off + k * 18) m.cells.toList := fun j v hv => by
  have hn : 0 < l.length := by
    cases l with
    | nil => cases hm
    | cons => simp
  obtain ⟨b', off', e, hc⟩ := hr.at hn (by decide)
  obtain ⟨rfl, rfl⟩ : b = b' ∧ off = off' := by
    have := Option.some.inj e
    injection this with h1 h2
    exact ⟨h1, h2⟩
  have h1 := hc k m hm j v hv
  rw [show off + k * 18 + j = off + (k * encM.size + j) from Nat.add_assoc ..]
  exact h1
/-- a message's fields in a row that the laws look at -/
structure MsgC (w : World) (b o : Nat) (m : Msg.Ms) : Prop where
  c0 : w.cell? ⟨b, o, none⟩ = some (.int .i64 m.kind)
  c1 : w.cell? ⟨b, o + 1, none⟩ = some (.int .i64 m.seq)
  c2 : w.cell? ⟨b, o + 2, none⟩ = some (.int .i64 m.time)
  c4 : w.cell? ⟨b, o + 4, none⟩ = some (.int .i64 m.a)
  c5 : w.cell? ⟨b, o + 5, none⟩ = some (.int .i64 m.b)
theorem msg_cells {w : World} {b off cap : Nat} {l : List Msg.Ms} (hr : RowAt encM w (some ⟨b, off, none⟩) cap l) {k : Nat} {m : Msg.Ms} (hm : l[k]? = some m) : MsgC w b (off + k * 18) m := by
  have h := msg_at hr hm
  exact ⟨h 0 _ rfl, h 1 _ rfl, h 2 _ rfl, h 4 _ rfl, h 5 _ rfl⟩

/-- what Drop tells -/
def GotD (w : World) (s : Se) (e : Ending) (w' : World) : Prop := ∃ a c, e = .returned (.agg (s.arr a s.inn.held.length c)) ∧ RowAt Rsq.encI w' a c s.inn.held ∧ Below w.heap.size w w'
/-- what New tells -/
def GotN (w : World) (r : Se × Int) (e : Ending) (w' : World) : Prop := ∃ a c, e = .returned (.tuple #[.agg (r.1.arr a r.1.inn.held.length c), .int .i64 r.2]) ∧ RowAt Rsq.encI w' a c r.1.inn.held ∧ Below w.heap.size w w'
/-- what Connect and Tick tell -/
def GotS (w : World) (r : Se × List Msg.Ms × Int) (e : Ending) (w' : World) : Prop :=
  ∃ a c b d, e = .returned (.tuple #[.agg (r.1.arr a r.1.inn.held.length c), .slice b r.2.1.length d, .int .i64 r.2.2]) ∧ RowAt Rsq.encI w' a c r.1.inn.held ∧ RowAt encM w' b d r.2.1 ∧ Below w.heap.size w w'
/-- what Come tells -/
def GotC (w : World) (r : Se × List Msg.Ms × List Msg.Ms × Bool × Int) (e : Ending) (w' : World) : Prop :=
  ∃ a c b d p q, e = .returned (.tuple #[.agg (r.1.arr a r.1.inn.held.length c), .slice b r.2.1.length d, .slice p r.2.2.1.length q, .bool r.2.2.2.1, .int .i64 r.2.2.2.2]) ∧
    RowAt Rsq.encI w' a c r.1.inn.held ∧ RowAt encM w' b d r.2.1 ∧ RowAt encM w' p q r.2.2.1 ∧ Below w.heap.size w w'

/-- held items lie below b, or in a block of items; or there are none -/
def SafeR (b : Nat) (w : World) (a : Option Addr) (l : List Rsq.It) : Prop := l ≠ [] → Safe 67 b w a
theorem SafeR.later {b : Nat} {w w' : World} {a : Option Addr} {l : List Rsq.It} (h : SafeR b w a l) (hb : Below w.heap.size w w') : SafeR b w' a l := fun hl => (h hl).later hb
theorem SafeR.kept {b : Nat} {w w' : World} {a : Option Addr} {l : List Rsq.It} {e : TypeId} (h : SafeR b w a l) (hk : Kept e w w') (hn : 67 ≠ e) : SafeR b w' a l := fun hl => (h hl).kept hk hn
theorem SafeR.put {b : Nat} {w : World} {g : Nat} {s : Se} {v a : Option Addr} {n cap : Nat} {l : List Rsq.It} (h : SafeR b w a l) (hg : SeAt w g s v n cap) (cs : Array Value) : SafeR b (w.setRow g cs) a l := fun hl x hx => by
  rcases h hl x hx with h | ⟨c, m, h⟩
  · exact .inl h
  · refine .inr ⟨c, m, ?_⟩
    rw [setRow_other w g _ cs ?_]
    · exact h
    · rintro rfl
      have e := h.symm.trans hg
      injection e with e
      injection e with _ e _
      exact absurd e (by decide)
theorem row_safe {α : Type} {c : Enc α} {e e' : TypeId} {b cap : Nat} {w w' : World} {a : Option Addr} {l : List α} (h : RowAt c w a cap l) (hs : l ≠ [] → Safe e b w a) (hb : Below b w w') (hk : Kept e' w w') (hn : e ≠ e') : RowAt c w' a cap l := by
  rcases h with h | ⟨x, rfl, hl, hc⟩
  · exact .inl h
  · refine .inr ⟨x, rfl, hl, fun i u hi => ?_⟩
    have hne : l ≠ [] := by rintro rfl; simp at hi
    refine Eq.trans (World.cell?_of_block (w := w) ?_) (hc i u hi)
    rw [block_add]
    rcases hs hne x rfl with h | ⟨cs, m, h⟩
    · exact hb.block _ h
    · exact (hk _ cs e m hn h).trans h.symm
/-- what Come tells, and where what waits lies -/
def GotF (w : World) (b : Nat) (r : Se × List Msg.Ms × List Msg.Ms × Bool × Int) (e : Ending) (w' : World) : Prop :=
  ∃ a c d f p q k, e = .returned (.tuple #[.agg (r.1.arr a r.1.inn.held.length c), .slice d r.2.1.length f, .slice p r.2.2.1.length q, .bool r.2.2.2.1, .int .i64 k]) ∧ k = r.2.2.2.2 ∧
    RowAt Rsq.encI w' a c r.1.inn.held ∧ SafeR b w' a r.1.inn.held ∧ RowAt encM w' d f r.2.1 ∧ RowAt encM w' p q r.2.2.1 ∧ Below w.heap.size w w'

/-- messages that may be fit -/
theorem fits_right {m : Msg.Ms} (h : Msg.rightM m = true) : m.Fits := by
  have hf := fair_of h
  unfold Msg.rightM Msg.smallB Msg.timeB Msg.textB at h
  simp only [Bool.and_eq_true, decide_eq_true_eq] at h
  obtain ⟨⟨⟨⟨⟨⟨⟨⟨⟨⟨⟨⟨h1, h2⟩, _⟩, h4⟩, h5⟩, h6⟩, h7⟩, h8⟩, h9⟩, _⟩, _⟩, _⟩, _⟩ := h
  refine ⟨⟨by omega, by omega⟩, ⟨by omega, by omega⟩, ⟨by omega, by omega⟩, ⟨by omega, by omega⟩, ⟨by omega, by omega⟩, by have := h8.2; unfold Msg.Str; omega, ?_⟩
  split at h9
  · unfold Msg.execB Msg.nameB Msg.smallB Msg.timeB at h9
    simp only [Bool.and_eq_true, decide_eq_true_eq] at h9
    obtain ⟨⟨⟨⟨⟨⟨⟨⟨⟨x1, x2⟩, x3⟩, x4⟩, x5⟩, x6⟩, x7⟩, x8⟩, x9⟩, x10⟩ := h9
    refine ⟨by have := x3.2; unfold Msg.Str; omega, ?_, by have := x4.2; unfold Msg.Str; omega, by have := x5.2; unfold Msg.Str; omega, by have := x6.2; unfold Msg.Str; omega, ⟨by omega, by omega⟩, ⟨by omega, by omega⟩, ⟨by omega, by omega⟩, ⟨by omega, by omega⟩⟩
    split at x7
    · simp only [Bool.and_eq_true, decide_eq_true_eq] at x7
      have := x7.2
      unfold Msg.Str
      omega
    · have := of_decide_eq_true x7
      rw [this]
      exact Msg.emp_fits
  · rw [of_decide_eq_true h9]
    exact Msg.noEx_fits

end Ses
end Go.Proofs.Ytnmmokdkngccjaa
