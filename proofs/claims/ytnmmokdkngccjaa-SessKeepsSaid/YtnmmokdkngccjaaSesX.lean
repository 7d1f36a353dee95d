/-
  The program's layer 7: small tests, a talk in memory, a session of its own.
  The program's layer 7: begin.
  The program's layer 7: say.
  The program's layer 7: ago, itemOf, answer.
  The program's layer 7: hear.
  The program's layer 7: ask, wait.
-/
import Derived.Test.YtnmmokdkngccjaaSesA
import Derived.Test.YtnmmokdkngccjaaRsqQ
import Derived.Deep.QuietTactic
import Derived.Deep.RegionHeld3
import Derived.Deep.CutBlock
import Derived.Deep.DeepCutAuto
import Derived.Deep.Cut
import Derived.Test.YtnmmokdkngccjaaStepRow
import Derived.Test.YtnmmokdkngccjaaMsgQ
import Derived.Test.YtnmmokdkngccjaaRsqG
import Derived.Test.YtnmmokdkngccjaaPlS

namespace Go.Proofs.Ytnmmokdkngccjaa
open Go.RowKit
namespace Ses
open Num
open Msg (I64)

def everyB (e : Int) : Bool := decide (1 ≤ e) && decide (e ≤ 1048576)
theorem every_any (e : Int) (w : World) : Calls Try.prog 17 #[.int .i64 e] w fun en w' => en = .returned (.bool (everyB e)) ∧ w' = w := by
  have HM : Hid (everyB e = (decide (1 ≤ e) && decide (e ≤ 1048576))) := Lib.hid rfl
  go_enter Try.func17, Try.ntmps17
  generalize hp1 : decide (1 ≤ e) = p1 at HM
  generalize hp2 : decide (e ≤ 1048576) = p2 at HM
  cases p1 <;> cases p2
  all_goals
    go_wp2_with fail
    go_ret
    exact ⟨ret_b (by rw [HM.out]; rfl), rfl⟩
theorem time_any (n : Int) (w : World) : Calls Try.prog 23 #[.int .i64 n] w fun en w' => en = .returned (.bool (timeS n)) ∧ w' = w := by
  have HM : Hid (timeS n = (decide (0 ≤ n) && decide (n ≤ 4611686018427387904))) := Lib.hid rfl
  go_enter Try.func23, Try.ntmps23
  generalize hp1 : decide (0 ≤ n) = p1 at HM
  generalize hp2 : decide (n ≤ 4611686018427387904) = p2 at HM
  cases p1 <;> cases p2
  all_goals
    go_wp2_with fail
    go_ret
    exact ⟨ret_b (by rw [HM.out]; rfl), rfl⟩

/-- a talk's cells -/
def tkArr (s : Se) (a : Option Addr) (n cap : Nat) (now : Int) (v : Value) : Array Value :=
  #[.int .i64 s.state, .int .i64 s.inn.next, .slice a n cap, .int .i64 s.out, .int .i64 s.every, .int .i64 s.heard, .int .i64 s.said, .int .i64 s.asked, .int .i64 s.when, .bool s.tested, .int .i64 now, v]
theorem tk_info (s : Se) (a : Option Addr) (n cap : Nat) (now : Int) (v : Value) : (Try.prog.info? 60).map (·.size) = some (tkArr s a n cap now v).size := by
  rw [show (tkArr s a n cap now v).size = 12 from rfl]
  kernel_rfl
/-- a talk: its session, what it says -/
structure Tk (w : World) (B g : Nat) (s : Se) (a : Option Addr) (n cap : Nat) (now : Int) (b : Option Addr) (q : Nat) (l : List Msg.Ms) : Prop where
  blk : w.heap[g]? = some (.cells (tkArr s a n cap now (.slice b l.length q)) 60 (0, 0))
  len : s.inn.held.length = n
  row : RowAt Rsq.encI w a cap s.inn.held
  ty : Ty 67 w a
  own : OwnE encM 36 w B (.slice b l.length q) l
  lo : B ≤ g
theorem Tk.lt {w : World} {B g : Nat} {s : Se} {a : Option Addr} {n cap : Nat} {now : Int} {b : Option Addr} {q : Nat} {l : List Msg.Ms} (h : Tk w B g s a n cap now b q l) : g < w.heap.size := (Array.getElem?_eq_some_iff.1 h.blk).1
theorem Tk.later {w w' : World} {B g : Nat} {s : Se} {a : Option Addr} {n cap : Nat} {now : Int} {b : Option Addr} {q : Nat} {l : List Msg.Ms} (h : Tk w B g s a n cap now b q l) (hb : Below w.heap.size w w') : Tk w' B g s a n cap now b q l :=
  ⟨below_block h.blk hb, h.len, h.row.later hb, h.ty.later hb, h.own.kept hb, h.lo⟩
theorem Tk.drew {w : World} {B g : Nat} {s : Se} {a : Option Addr} {n cap : Nat} {now : Int} {b : Option Addr} {q : Nat} {l : List Msg.Ms} (h : Tk w B g s a n cap now b q l) : Tk w.drew B g s a n cap now b q l :=
  h.later ⟨rfl, rfl, rfl, Nat.le_refl _, fun _ _ => rfl⟩
/-- its cells -/
structure TkC (w : World) (g : Nat) (s : Se) (a : Option Addr) (n cap : Nat) (now : Int) (b : Option Addr) (k q : Nat) : Prop where
  c0 : w.cell? ⟨g, 0, none⟩ = some (.int .i64 s.state)
  c1 : w.cell? ⟨g, 1, none⟩ = some (.int .i64 s.inn.next)
  c2 : w.cell? ⟨g, 2, none⟩ = some (.slice a n cap)
  c3 : w.cell? ⟨g, 3, none⟩ = some (.int .i64 s.out)
  c4 : w.cell? ⟨g, 4, none⟩ = some (.int .i64 s.every)
  c5 : w.cell? ⟨g, 5, none⟩ = some (.int .i64 s.heard)
  c6 : w.cell? ⟨g, 6, none⟩ = some (.int .i64 s.said)
  c7 : w.cell? ⟨g, 7, none⟩ = some (.int .i64 s.asked)
  c8 : w.cell? ⟨g, 8, none⟩ = some (.int .i64 s.when)
  c9 : w.cell? ⟨g, 9, none⟩ = some (.bool s.tested)
  c10 : w.cell? ⟨g, 10, none⟩ = some (.int .i64 now)
  c11 : w.cell? ⟨g, 11, none⟩ = some (.slice b k q)
theorem Tk.cells {w : World} {B g : Nat} {s : Se} {a : Option Addr} {n cap : Nat} {now : Int} {b : Option Addr} {q : Nat} {l : List Msg.Ms} (h : Tk w B g s a n cap now b q l) : TkC w g s a n cap now b l.length q :=
  ⟨cell_at h.blk rfl, cell_at h.blk rfl, cell_at h.blk rfl, cell_at h.blk rfl, cell_at h.blk rfl, cell_at h.blk rfl, cell_at h.blk rfl, cell_at h.blk rfl, cell_at h.blk rfl, cell_at h.blk rfl, cell_at h.blk rfl, cell_at h.blk rfl⟩
theorem Tk.frz {w : World} {B g : Nat} {s : Se} {a : Option Addr} {n cap : Nat} {now : Int} {b : Option Addr} {q : Nat} {l : List Msg.Ms} (h : Tk w B g s a n cap now b q l) (j : Nat) : w.frozen? ⟨g, j, none⟩ = false := frozen_of_row w _ j _ _ h.blk
theorem Tk.range {w : World} {B g : Nat} {s : Se} {a : Option Addr} {n cap : Nat} {now : Int} {b : Option Addr} {q : Nat} {l : List Msg.Ms} (h : Tk w B g s a n cap now b q l) : w.rangeAt g 0 (s.arr a n cap).toList := fun j v hv => by
  have h1 := block_range h.blk j v
  have e : (tkArr s a n cap now (.slice b l.length q)).toList = (s.arr a n cap).toList ++ [.int .i64 now, .slice b l.length q] := rfl
  rw [e] at h1
  refine h1 ?_
  rw [List.getElem?_append_left]
  · exact hv
  · rcases Nat.lt_or_ge j (s.arr a n cap).toList.length with h | h
    · exact h
    · rw [List.getElem?_eq_none h] at hv
      cases hv
theorem Tk.line {w : World} {B g : Nat} {s : Se} {a : Option Addr} {n cap : Nat} {now : Int} {b : Option Addr} {q : Nat} {l : List Msg.Ms} (h : Tk w B g s a n cap now b q l) : w.rangeAt g 1 (#[.int .i64 s.inn.next, .slice a n cap] : Array Value).toList := fun j v hv => by
  match j, hv with
  | 0, hv => exact (cell_at h.blk rfl).trans hv
  | 1, hv => exact (cell_at h.blk rfl).trans hv
  | k + 2, hv => simp at hv
/-- own messages lie in no talk -/
theorem Tk.apart {w : World} {B g : Nat} {s : Se} {a : Option Addr} {n cap : Nat} {now : Int} {b : Option Addr} {q : Nat} {l : List Msg.Ms} (h : Tk w B g s a n cap now b q l) : ∀ k, (Value.slice b l.length q).ownBlock = some k → k ≠ g := fun k hk e => by
  subst e
  have ho := h.own
  unfold OwnE at ho
  rcases ho.2 with ⟨h0, _⟩ | ⟨g', _, cur, he, _, hg, _⟩
  · rw [h0] at hk
    simp [Value.ownBlock] at hk
  · rw [he] at hk
    simp only [Value.ownBlock] at hk
    obtain rfl := Option.some.inj hk
    rw [h.blk] at hg
    injection hg with hg
    injection hg with _ hg _
    exact absurd hg (by decide)
theorem row_cell {w : World} {g cap j : Nat} {a : Option Addr} {h : List Rsq.It} {cs : Array Value} {t : TypeId} {fz : Nat × Nat} (hr : RowAt Rsq.encI w a cap h) (hg : w.heap[g]? = some (.cells cs t fz)) (hs : cs.size < 20) (v : Value) : RowAt Rsq.encI (w.setCell ⟨g, j, none⟩ v) a cap h :=
  hr.grown (grown_set1 w g j v) (hr.apart (by decide) hg hs)
theorem ty_set {e : TypeId} {w : World} {a : Option Addr} (h : Ty e w a) {g j : Nat} {cs : Array Value} {t : TypeId} {fz : Nat × Nat} (hg : w.heap[g]? = some (.cells cs t fz)) (hne : t ≠ e) (v : Value) : Ty e (w.setCell ⟨g, j, none⟩ v) a := fun x hx => by
  obtain ⟨c, m, hc⟩ := h x hx
  refine ⟨c, m, (heap_setCell_other w _ _ v (fun e' => ?_)).trans hc⟩
  have e' : x.block = g := e'
  rw [e', hg] at hc
  injection hc with hc
  injection hc with _ hc _
  exact hne hc
/-- a field of its session is set -/
theorem Tk.set {w : World} {B g : Nat} {s : Se} {a : Option Addr} {n cap : Nat} {now : Int} {b : Option Addr} {q : Nat} {l : List Msg.Ms} (h : Tk w B g s a n cap now b q l) (j : Nat) (v : Value) (s' : Se) (hi : s'.inn = s.inn)
    (e : (tkArr s a n cap now (.slice b l.length q)).setIfInBounds j v = tkArr s' a n cap now (.slice b l.length q)) : Tk (w.setCell ⟨g, j, none⟩ v) B g s' a n cap now b q l := by
  refine ⟨?_, by rw [hi]; exact h.len, by rw [hi]; exact row_cell h.row h.blk (show 12 < 20 by decide) v, ty_set h.ty h.blk (by decide) v, h.own.grown (grown_set1 w g j v) (fun k hk e => h.apart k hk (Option.some.inj e).symm), h.lo⟩
  rw [← e]
  exact heap_setCell_same w _ j _ _ v h.blk
theorem own_apart {w : World} {B g : Nat} {v : Value} {l : List Msg.Ms} {cs : Array Value} {fz : Nat × Nat} (ho : OwnE encM 36 w B v l) (hg : w.heap[g]? = some (.cells cs 60 fz)) : ∀ k, v.ownBlock = some k → k ≠ g := fun k hk e => by
  subst e
  unfold OwnE at ho
  rcases ho.2 with ⟨h0, _⟩ | ⟨g', _, cur, he, _, hg', _⟩
  · rw [h0] at hk
    simp [Value.ownBlock] at hk
  · rw [he] at hk
    simp only [Value.ownBlock] at hk
    obtain rfl := Option.some.inj hk
    rw [hg] at hg'
    injection hg' with hg'
    injection hg' with _ hg' _
    exact absurd hg' (by decide)
/-- what it says is set anew -/
theorem Tk.told {w : World} {B g : Nat} {s : Se} {a : Option Addr} {n cap : Nat} {now : Int} {u : Value} {b : Option Addr} {q : Nat} {l : List Msg.Ms} (hg : w.heap[g]? = some (.cells (tkArr s a n cap now u) 60 (0, 0))) (hn : s.inn.held.length = n) (hr : RowAt Rsq.encI w a cap s.inn.held)
    (ht : Ty 67 w a) (ho : OwnE encM 36 w B (.slice b l.length q) l) (hl : B ≤ g) : Tk (w.setCell ⟨g, 11, none⟩ (.slice b l.length q)) B g s a n cap now b q l :=
  ⟨heap_setCell_same w _ 11 _ _ (.slice b l.length q) hg, hn, row_cell hr hg (show 12 < 20 by decide) _, ty_set ht hg (by decide) _, ho.grown (grown_set1 w g 11 _) (fun k hk e => own_apart ho hg k hk (Option.some.inj e).symm), hl⟩
/-- a cell of another block is set -/
theorem Tk.other {w : World} {B g : Nat} {s : Se} {a : Option Addr} {n cap : Nat} {now : Int} {b : Option Addr} {q : Nat} {l : List Msg.Ms} (h : Tk w B g s a n cap now b q l) {p : Nat} {cs : Array Value} {t : TypeId} {fz : Nat × Nat} (hp : w.heap[p]? = some (.cells cs t fz)) (hs : cs.size < 20) (ht : t ≠ 67)
    (hg : g ≠ p) (hk : ∀ k, (Value.slice b l.length q).ownBlock = some k → k ≠ p) (j : Nat) (v : Value) : Tk (w.setCell ⟨p, j, none⟩ v) B g s a n cap now b q l :=
  ⟨(heap_setCell_other w _ g v (fun e => hg e)).trans h.blk, h.len, row_cell h.row hp hs v, ty_set h.ty hp ht v, h.own.grown (grown_set1 w p j v) (fun k hk' e => hk k hk' (Option.some.inj e).symm), h.lo⟩
/-- of what stood only this block and this row's have turned -/
def Spare (w w' : World) (g : Nat) (v : Value) : Prop := w.heap.size ≤ w'.heap.size ∧ ∀ k, k < w.heap.size → k ≠ g → v.ownBlock ≠ some k → w'.heap[k]? = w.heap[k]?
theorem Spare.of_below {w w' : World} {g : Nat} {v : Value} (h : Below w.heap.size w w') : Spare w w' g v := ⟨h.size, fun k hk _ _ => h.block k hk⟩
theorem Spare.later {w w1 w2 : World} {g : Nat} {v : Value} (h : Spare w w1 g v) (hb : Below w1.heap.size w1 w2) : Spare w w2 g v := ⟨Nat.le_trans h.1 hb.size, fun k hk hg hv => (hb.block k (Nat.lt_of_lt_of_le hk h.1)).trans (h.2 k hk hg hv)⟩
theorem Spare.trans {w w1 w2 : World} {g : Nat} {v : Value} (h : Spare w w1 g v) (h' : Spare w1 w2 g v) : Spare w w2 g v := ⟨Nat.le_trans h.1 h'.1, fun k hk hg hv => (h'.2 k (Nat.lt_of_lt_of_le hk h.1) hg hv).trans (h.2 k hk hg hv)⟩
theorem Spare.set {w w1 : World} {g p j : Nat} {v u : Value} (h : Spare w w1 g v) (hp : p = g ∨ w.heap.size ≤ p) : Spare w (w1.setCell ⟨p, j, none⟩ u) g v := ⟨by have := h.1; simpa [World.setCell] using this, fun k hk hg hv => (heap_setCell_other w1 _ k u (fun e => by
  have e : k = p := e
  rcases hp with h | h
  · exact hg (e.trans h)
  · omega)).trans (h.2 k hk hg hv)⟩
theorem Spare.grown {w w1 w2 : World} {g : Nat} {v : Value} (h : Spare w w1 g v) (hg : w1.grownBy w2 v.ownBlock) : Spare w w2 g v := by
  obtain ⟨_, _, _, s1, b1⟩ := hg
  exact ⟨Nat.le_trans h.1 s1, fun k hk hg hv => (b1 k (Nat.lt_of_lt_of_le hk h.1) (fun e => hv e.symm)).trans (h.2 k hk hg hv)⟩
theorem set_below {w0 w : World} {B g j : Nat} {v : Value} (h : Below B w0 w) (hB : B ≤ g) : Below B w0 (w.setCell ⟨g, j, none⟩ v) :=
  h.trans ⟨rfl, rfl, rfl, by simp [World.setCell], fun k hk => heap_setCell_other w _ k v (fun e => by have e : k = g := e; omega)⟩

end Ses
end Go.Proofs.Ytnmmokdkngccjaa

namespace Go.Proofs.Ytnmmokdkngccjaa
open Go.RowKit
namespace Ses
open Num
open Msg (I64)

set_option maxRecDepth 100000 in
set_option maxHeartbeats 4000000 in
theorem begin_any (s : Se) (now : Int) (a : Option Addr) (cap n : Nat) (hn : s.inn.held.length = n) (hn9 : n ≤ 100000000) (w : World) (hr : RowAt Rsq.encI w a cap s.inn.held) :
    Calls Try.prog 24 #[.agg (s.arr a n cap), .int .i64 now] w fun e w' => ∃ g a' cap', e = .returned (.pointer (some ⟨g, 0, none⟩)) ∧ Tk w' w.heap.size g s a' n cap' now none 0 [] ∧ Below w.heap.size w w' := by
  have HN := Lib.hid hn
  have HR0 := Lib.hid (hr.later (w' := w.alloc (.cells (s.arr a n cap) 28)) ((Below.refl _ _).alloc (Nat.le_refl _) _))
  have HB0 : Hid (Below w.heap.size w (w.alloc (.cells (s.arr a n cap) 28))) := Lib.hid ((Below.refl _ _).alloc (Nat.le_refl _) _)
  have HG0 : Hid (SeAt (w.alloc (.cells (s.arr a n cap) 28)) w.heap.size s a n cap) := Lib.hid (SeAt.made w s a n cap)
  obtain ⟨SA, hSA⟩ : ∃ X, s.arr a n cap = X := ⟨_, rfl⟩
  have HSA := Lib.hid hSA
  rw [hSA] at HR0 HB0 HG0 ⊢
  clear hn hr hSA
  go_enter Try.func24, Try.ntmps24
  go_upto_region 1 with fail
  generalize w.alloc (.cells SA 28) = w0 at HR0 HB0 HG0 ⊢
  have c2 := (HG0.out.cells).c2
  go_wp2_with fail
  refine (Rsq.clone_any s.inn.held a cap n HN.out hn9 _ HR0.out).mono ?_
  rintro e w1 ⟨v, rfl, hown, hb1⟩
  obtain ⟨a2, q2, rfl, hrow⟩ := hown.row
  rw [HN.out] at hown ⊢
  have HT := Lib.hid hown.ty
  have HR1 := Lib.hid hrow
  have HG1 := Lib.hid (HG0.out.later hb1)
  have HB1 := Lib.hid (HB0.out.trans (hb1.mono HB0.out.size))
  clear hb1 hown hrow c2 HR0 HB0 HG0
  have c2 := cell_at HG1.out (j := 2) (v := .slice a n cap) rfl
  have f2 := frozen_of_row w1 w.heap.size 2 _ _ HG1.out
  have s2 := HG1.out.lt
  have HG2 : Hid (SeAt (w1.setCell ⟨w.heap.size, 2, none⟩ (.slice a2 n q2)) w.heap.size s a2 n q2) := Lib.hid (heap_setCell_same w1 w.heap.size 2 _ _ (.slice a2 n q2) HG1.out)
  have HR2 := Lib.hid (row_cell (j := 2) HR1.out HG1.out (show 10 < 20 by decide) (.slice a2 n q2))
  have HT2 := Lib.hid (ty_set (j := 2) HT.out HG1.out (by decide) (.slice a2 n q2))
  have HB2 := Lib.hid (set_below (j := 2) (v := .slice a2 n q2) HB1.out (Nat.le_refl _))
  go_upto_region 2 with fail
  generalize w1.setCell ⟨w.heap.size, 2, none⟩ (.slice a2 n q2) = w2 at HG2 HR2 HT2 HB2 ⊢
  clear c2 f2 s2 HR1 HG1 HT HB1
  have HBX := Lib.hid (block_range HG2.out)
  go_wp2_with (refine wpList_load_arr_g (by rfl) 28 _ rfl w.heap.size 0 rfl (#[.int .i64 s.state, .int .i64 s.inn.next, .slice a2 n q2, .int .i64 s.out, .int .i64 s.every, .int .i64 s.heard, .int .i64 s.said, .int .i64 s.asked, .int .i64 s.when, .bool s.tested]) _ HBX.out Try.underlying28 rfl (arr_info s a2 n q2) ?_)
  go_ret
  have hbl : Below w2.heap.size w2 (w2.alloc (.cells (tkArr s a2 n q2 now (.slice none 0 0)) 60)) := (Below.refl _ _).alloc (Nat.le_refl _) _
  exact ⟨w2.heap.size, a2, q2, rfl, ⟨heap_alloc_new _ _, HN.out, HR2.out.later hbl, HT2.out.later hbl, OwnE.nil _ _ _ _, HB2.out.size⟩, HB2.out.trans (hbl.mono HB2.out.size)⟩

end Ses
end Go.Proofs.Ytnmmokdkngccjaa

namespace Go.Proofs.Ytnmmokdkngccjaa
open Go.RowKit
namespace Ses
open Num
open Msg (I64)

/-- append of a row at a step of a region that draws its order: what turns -/
theorem step_append_gr {α : Type} {P : Program} {ops : Array Oper} {o : Oper} {a : Act} {w : World} {K : Act → World → Prop} {Q : Exit → Act → World → Prop} {E : Prop} {tm : Array Value} (c : Enc α) (hcs : 0 < c.size) (hgd : o.guard = none) (s x : Operand) (t : TypeId)
    (ho : o.op = .call { callee := .builtin .append, args := #[s, x], argTypes := #[t, t] })
    (base : Nat) (e : TypeId) (i : TypeInfo) (z : Value) (bytes : Nat) (ht : P.underlying t = some (.slice e)) (hi : P.info? e = some i) (hz : i.zero = some z)
    (hsize : i.size = c.size) (hby : i.bytes = bytes) (hzs : z.cells.size = c.size)
    (v : Value) (l : List α) (hs : a.eval s = v) (hown : OwnE c e w base v l)
    (y : Addr) (m cap : Nat) (k : List α) (hx : a.eval x = .slice (some y) m cap) (hm : k.length = m) (hb : RowAt c w (some y) cap k)
    (hlen : l.length + k.length ≤ maxLen) (hbytes : (l.length + k.length) * bytes ≤ 140737488355328) (hbase : base ≤ w.heap.size)
    (h : ∀ v' w', OwnE c e w' base v' (l ++ k) → Below base w w' → Kept e w w' → w.grownBy w' v.ownBlock → K (a.put o.dst v') w') : if Region.wanted o (yielded ops tm) = true then Oper.wp P o a w K Q else E := by
  have hw : Region.wanted o (yielded ops tm) = true := by simp [Region.wanted, hgd]
  rw [if_pos hw]
  subst hm
  rcases hb with ⟨hy, _⟩ | ⟨y', hy, hl, hc⟩
  · cases hy
  · obtain rfl := Option.some.inj hy
    refine wp_append_own w s x t ho base e i z c.size bytes ht hi hz hsize hby hzs hcs v l.length (l.flatMap c.of) hs hown y k.length cap (k.flatMap c.of) hx (c.flat_len k)
      hc (c.flat_one k) hlen hbytes hbase ?_
    intro v' w' h1 h2 _
    refine h v' w' ?_ ((Below.refl base w).grown h2 hbase fun j hj => (hown.lt j hj).1) (Kept.of_grown hown h2) h2
    unfold OwnE
    rw [List.length_append, List.flatMap_append]
    exact h1
theorem ty_kept {e e' : TypeId} {w w' : World} {a : Option Addr} (h : Ty e w a) (hk : Kept e' w w') (hn : e ≠ e') : Ty e w' a := fun x hx => by
  obtain ⟨cs, m, hc⟩ := h x hx
  exact ⟨cs, m, hk _ cs e m hn hc⟩
def pzeroM : Value := .agg #[.int .i64 0, .int .i64 0, .int .i64 0, .bool false, .int .i64 0, .int .i64 0, .bool false, .string ⟨#[]⟩, .string ⟨#[]⟩, .string ⟨#[]⟩, .string ⟨#[]⟩, .string ⟨#[]⟩, .string ⟨#[]⟩, .int .i64 0, .bool false, .int .i64 0, .int .i64 0, .int .i64 0]
theorem pinfoM : (Try.prog.info? 36).map (fun i => (i.zero, i.size, i.bytes)) = some (some pzeroM, 18, 192) := by kernel_rfl

theorem one_at {w : World} {x : Nat} {m : Msg.Ms} {MB : Array Value} (h : w.heap[x]? = some (.cells MB 36 (0, 0))) (e : m.cells = MB) : RowAt encM w (some ⟨x, 0, none⟩) 1 [m] := by
  subst e
  refine .inr ⟨_, rfl, by simp, fun j u hj => ?_⟩
  rw [add_none, Nat.zero_add]
  rw [List.flatMap_cons, List.flatMap_nil, List.append_nil] at hj
  exact cell_at h (by rw [← Array.getElem?_toList]; exact hj)
theorem pmsg_info (m : Msg.Ms) : (Try.prog.info? 36).map (·.size) = some m.cells.size := by
  rw [show m.cells.size = 18 from rfl]
  kernel_rfl
theorem pload_msg {ρ : Operand → Value} {d : Option Tmp} {ty : TypeId} {x : Operand} {pos : String} {af : Array Edge} {gd : Option (Nat × Bool)} {w : World} (hp : ρ x = .pointer (some ⟨blkOf (ρ x), offOf (ρ x), none⟩)) (h : CellsOk w (blkOf (ρ x)) (offOf (ρ x)) 18) :
    (execOp ρ ⟨d, .load 36 x, ty, pos, af, gd⟩).run Try.prog w = .ok (.value (.agg (cellsAt w (blkOf (ρ x)) (offOf (ρ x)) 18))) w :=
  run_load_cells 18 _ Try.underlying36 rfl (by kernel_rfl) hp h
attribute [local go_sem ↓] pload_msg
attribute [local go_sem] blkOf_ptr offOf_ptr

set_option maxRecDepth 100000 in
set_option maxHeartbeats 8000000 in
theorem say_any (B g : Nat) (s : Se) (a : Option Addr) (n cap : Nat) (now : Int) (b : Option Addr) (q : Nat) (l : List Msg.Ms) (m : Msg.Ms) (w : World) (h : Tk w B g s a n cap now b q l) (hl : l.length ≤ 1000) (h0 : 0 < s.out) (h9 : s.out ≤ 1099511627776) (hw : B ≤ w.heap.size) :
    Calls Try.prog 25 #[.pointer (some ⟨g, 0, none⟩), .agg m.cells] w fun e w' => e = .returned (.tuple #[]) ∧ (∃ b' q', Tk w' B g (say s l m now).1 a n cap now b' q' (say s l m now).2) ∧ Below B w w' ∧ Spare w w' g (.slice b l.length q) := by
  have hbl : Below w.heap.size w (w.alloc (.cells m.cells 36)) := (Below.refl _ _).alloc (Nat.le_refl _) _
  have HT0 := Lib.hid (h.later hbl)
  have HM0 : Hid ((w.alloc (.cells m.cells 36)).heap[w.heap.size]? = some (.cells m.cells 36 (0, 0))) := Lib.hid (heap_alloc_new w _)
  have HB0 : Hid (Below B w (w.alloc (.cells m.cells 36))) := Lib.hid (hbl.mono hw)
  have HAP : Hid (∀ k, (Value.slice b l.length q).ownBlock = some k → k < w.heap.size) := Lib.hid fun k hk => (h.own.lt k hk).2
  have HW := Lib.hid hw
  have HS0 : Hid (Spare w (w.alloc (.cells m.cells 36)) g (.slice b l.length q)) := Lib.hid (.of_below hbl)
  have HGP : Hid (g < w.heap.size) := Lib.hid h.lt
  have HL := Lib.hid hl
  obtain ⟨MA, hMA⟩ : ∃ X, m.cells = X := ⟨_, rfl⟩
  have HMA := Lib.hid hMA
  rw [hMA] at HM0 HB0 HT0 HS0 ⊢
  clear hMA hbl h hl hw
  go_enter Try.func25, Try.ntmps25
  go_upto_region 1 with fail
  obtain ⟨p, hp⟩ : ∃ p, w.heap.size = p := ⟨_, rfl⟩
  have HP := Lib.hid hp
  generalize w.alloc (.cells MA 36) = w0 at HM0 HB0 HT0 HS0 ⊢
  rw [hp] at HM0 HGP HAP HW ⊢
  clear hp
  have t2 := HT0.out.cells.c3
  obtain ⟨bq, hbq⟩ : ∃ x, (s.out == 1099511627776) = x := ⟨_, rfl⟩
  have HBQ := Lib.hid hbq
  cases bq
  rotate_left
  · have HS : Hid (say s l m now = (s, l)) := Lib.hid (by
      have : s.out = 1099511627776 := by simpa using HBQ.out
      unfold say
      rw [if_pos (by omega)])
    go_wp2_with fail
    refine bodyPost_ret (results_none rfl _ _ _) rfl ?_
    rw [HS.out]
    exact ⟨rfl, ⟨b, q, HT0.out⟩, HB0.out, HS0.out⟩
  · have HS : Hid (say s l m now = ({s with out := s.out + 1, said := now}, l ++ [{m with seq := s.out, time := now}])) := Lib.hid (by
      have : ¬ s.out = 1099511627776 := by simpa using HBQ.out
      unfold say
      rw [if_neg (by omega)])
    have hlt : s.out < 1099511627776 := by
      have : ¬ s.out = 1099511627776 := by simpa using HBQ.out
      omega
    go_upto_region 2 with fail
    clear hbq
    have t3 := HT0.out.cells.c10
    have ⟨m1, n1⟩ : w0.cell? ⟨p, 1, none⟩ = some (.int .i64 m.seq) ∧ w0.frozen? ⟨p, 1, none⟩ = false := ⟨cell_at HM0.out (by rw [← HMA.out]; rfl), frozen_of_row w0 p 1 _ _ HM0.out⟩
    have hps : p < w0.heap.size := (Array.getElem?_eq_some_iff.1 HM0.out).1
    have HT1 := Lib.hid (HT0.out.other HM0.out (by rw [← HMA.out]; show 18 < 20; decide) (by decide) (fun e => by have := HGP.out; omega) (fun k hk e => by have := HAP.out k hk; omega) 1 (.int .i64 s.out))
    have HM1 := Lib.hid (heap_setCell_same w0 p 1 _ _ (.int .i64 s.out) HM0.out)
    have HB1 := Lib.hid (set_below (j := 1) (v := .int .i64 s.out) HB0.out HW.out)
    have HS1 := Lib.hid (HS0.out.set (p := p) (j := 1) (u := .int .i64 s.out) (.inr (Nat.le_of_eq HP.out)))
    refine wp_region_held_drew (S := (fun w' => w'.cell? ⟨g, 3, none⟩ = some (.int .i64 s.out) ∧ w'.cell? ⟨g, 10, none⟩ = some (.int .i64 now))) (by kernel_rfl) ?hs0 (fun hHeld => ?_)
    case hs0 => exact ⟨t2, t3⟩
    refine' wpAnyH_take (i := 0) (oi := _) (v := _) rfl (by kernel_rfl) (by kernel_rfl) (by kernel_rfl) (fun _ _ _ h => h) (Or.inl ⟨by rfl, ?hy⟩) (by assumption) ?_
    case hy => (intro w hSw; (try dsimp only at hSw); (try simp only [List.getElem_toArray, List.getElem_cons_zero]); go_simp; try with_reducible rfl)
    try simp only [List.getElem_toArray, List.getElem_cons_zero, Act.put, List.setIfInBounds_toArray, List.set_cons_zero, List.set_cons_succ]
    refine' wpAnyH_take (i := 1) (oi := _) (v := _) rfl (by kernel_rfl) (by kernel_rfl) (by kernel_rfl) (fun _ _ _ h => h) (Or.inl ⟨by rfl, ?hy⟩) (by assumption) ?_
    case hy => (intro w hSw; (try dsimp only at hSw); (try simp only [List.getElem_toArray, List.getElem_cons_zero, List.getElem_cons_succ]); go_simp; try with_reducible rfl)
    try simp only [List.getElem_toArray, List.getElem_cons_zero, List.getElem_cons_succ, Act.put, List.setIfInBounds_toArray, List.set_cons_zero, List.set_cons_succ]
    refine' wpAnyH_take (i := 2) (oi := _) (v := _) rfl (by kernel_rfl) (by kernel_rfl) (by kernel_rfl) (fun _ _ _ h => h) (Or.inl ⟨by rfl, ?hy⟩) (by assumption) ?_
    case hy => (intro w hSw; (try dsimp only at hSw); (try simp only [List.getElem_toArray, List.getElem_cons_zero, List.getElem_cons_succ]); go_simp; try with_reducible rfl)
    try simp only [List.getElem_toArray, List.getElem_cons_zero, List.getElem_cons_succ, Act.put, List.setIfInBounds_toArray, List.set_cons_zero, List.set_cons_succ]
    refine' wpAnyH_take (i := 3) (oi := _) (v := _) rfl (by kernel_rfl) (by kernel_rfl) (by kernel_rfl) (fun _ _ _ h => h) (Or.inl ⟨by rfl, ?hy⟩) (by assumption) ?_
    case hy => (intro w hSw; (try dsimp only at hSw); (try simp only [List.getElem_toArray, List.getElem_cons_zero, List.getElem_cons_succ]); go_simp; try with_reducible rfl)
    try simp only [List.getElem_toArray, List.getElem_cons_zero, List.getElem_cons_succ, Act.put, List.setIfInBounds_toArray, List.set_cons_zero, List.set_cons_succ]
    refine' wpAnyH_take (i := 4) (oi := _) (v := _) rfl (by kernel_rfl) (by kernel_rfl) (by kernel_rfl) (fun _ _ _ h => h) (Or.inl ⟨by rfl, ?hy⟩) (by assumption) ?_
    case hy => (intro w hSw; (try dsimp only at hSw); (try simp only [List.getElem_toArray, List.getElem_cons_zero, List.getElem_cons_succ]); go_simp; try with_reducible rfl)
    try simp only [List.getElem_toArray, List.getElem_cons_zero, List.getElem_cons_succ, Act.put, List.setIfInBounds_toArray, List.set_cons_zero, List.set_cons_succ]
    refine' wpAnyH_take (i := 5) (oi := _) (v := _) rfl (by kernel_rfl) (by kernel_rfl) (by kernel_rfl) (fun _ _ _ h => h) (Or.inl ⟨by rfl, ?hy⟩) (by assumption) ?_
    case hy => (intro w hSw; (try dsimp only at hSw); (try simp only [List.getElem_toArray, List.getElem_cons_zero, List.getElem_cons_succ]); go_simp; try with_reducible rfl)
    try simp only [List.getElem_toArray, List.getElem_cons_zero, List.getElem_cons_succ, Act.put, List.setIfInBounds_toArray, List.set_cons_zero, List.set_cons_succ]
    refine' wpAnyH_take (i := 6) (oi := _) (v := _) rfl (by kernel_rfl) (by kernel_rfl) (by kernel_rfl) (fun _ _ _ h => h) (Or.inl ⟨by rfl, ?hy⟩) (by assumption) ?_
    case hy => (intro w hSw; (try dsimp only at hSw); (try simp only [List.getElem_toArray, List.getElem_cons_zero, List.getElem_cons_succ]); go_simp; try with_reducible rfl)
    try simp only [List.getElem_toArray, List.getElem_cons_zero, List.getElem_cons_succ, Act.put, List.setIfInBounds_toArray, List.set_cons_zero, List.set_cons_succ]
    refine' wpAnyH_take (i := 7) (oi := _) (v := _) rfl (by kernel_rfl) (by kernel_rfl) (by kernel_rfl) (fun _ _ _ h => h) (Or.inl ⟨by rfl, ?hy⟩) (by assumption) ?_
    case hy => (intro w hSw; (try dsimp only at hSw); (try simp only [List.getElem_toArray, List.getElem_cons_zero, List.getElem_cons_succ]); go_simp; try with_reducible rfl)
    try simp only [List.getElem_toArray, List.getElem_cons_zero, List.getElem_cons_succ, Act.put, List.setIfInBounds_toArray, List.set_cons_zero, List.set_cons_succ]
    refine' wpAnyH_take (i := 8) (oi := _) (v := _) rfl (by kernel_rfl) (by kernel_rfl) (by kernel_rfl) (fun _ _ _ h => h) (Or.inl ⟨by rfl, ?hy⟩) (by assumption) ?_
    case hy => (intro w hSw; (try dsimp only at hSw); (try simp only [List.getElem_toArray, List.getElem_cons_zero, List.getElem_cons_succ]); go_simp; try with_reducible rfl)
    try simp only [List.getElem_toArray, List.getElem_cons_zero, List.getElem_cons_succ, Act.put, List.setIfInBounds_toArray, List.set_cons_zero, List.set_cons_succ]
    refine' wpAnyH_take (i := 9) (oi := _) (v := _) rfl (by kernel_rfl) (by kernel_rfl) (by kernel_rfl) (fun _ _ _ h => h) (Or.inl ⟨by rfl, ?hy⟩) (by assumption) ?_
    case hy => (intro w hSw; (try dsimp only at hSw); (try simp only [List.getElem_toArray, List.getElem_cons_zero, List.getElem_cons_succ]); go_simp; try with_reducible rfl)
    try simp only [List.getElem_toArray, List.getElem_cons_zero, List.getElem_cons_succ, Act.put, List.setIfInBounds_toArray, List.set_cons_zero, List.set_cons_succ]
    refine wpAnyH_ready (rs := [10]) (by kernel_rfl) (by simp) ?_
    refine AllReadyH.cons (o := _) rfl (fun K hK => ?_) AllReadyH.nil
    rw [if_pos (by rfl)]
    go_simp
    refine hK.out _ _ ?hs1 (fun hHeld => ?_)
    case hs1 => exact ⟨HT1.out.cells.c3, HT1.out.cells.c10⟩
    clear hK K m1 n1 t2 t3
    generalize w0.setCell ⟨p, 1, none⟩ (.int .i64 s.out) = w1 at HT1 HM1 HB1 HS1 hHeld ⊢
    clear HT0 HM0 HB0 HS0
    have ⟨m2, n2⟩ : w1.cell? ⟨p, 2, none⟩ = some (.int .i64 m.time) ∧ w1.frozen? ⟨p, 2, none⟩ = false := ⟨cell_at HM1.out (by rw [← HMA.out]; rfl), frozen_of_row w1 p 2 _ _ HM1.out⟩
    have hps1 : p < w1.heap.size := (Array.getElem?_eq_some_iff.1 HM1.out).1
    have HT2 := Lib.hid (HT1.out.other HM1.out (by rw [← HMA.out]; show 18 < 20; decide) (by decide) (fun e => by have := HGP.out; omega) (fun k hk e => by have := HAP.out k hk; omega) 2 (.int .i64 now))
    have HM2 : Hid ((w1.setCell ⟨p, 2, none⟩ (.int .i64 now)).heap[p]? = some (.cells ({m with seq := s.out, time := now} : Msg.Ms).cells 36 (0, 0))) := Lib.hid ((heap_setCell_same w1 p 2 _ _ (.int .i64 now) HM1.out).trans (by rw [← HMA.out]; rfl))
    have HB2 := Lib.hid (set_below (j := 2) (v := .int .i64 now) HB1.out HW.out)
    have HS2 := Lib.hid (HS1.out.set (p := p) (j := 2) (u := .int .i64 now) (.inr (Nat.le_of_eq HP.out)))
    refine' wpAnyH_take (i := 11) (oi := _) (v := _) rfl (by kernel_rfl) (by kernel_rfl) (by kernel_rfl) (fun _ _ _ h => h) (Or.inl ⟨by rfl, ?hy⟩) (by assumption) ?_
    case hy => (intro w hSw; (try dsimp only at hSw); (try simp only [List.getElem_toArray, List.getElem_cons_zero, List.getElem_cons_succ]); go_simp; try with_reducible rfl)
    try simp only [List.getElem_toArray, List.getElem_cons_zero, List.getElem_cons_succ, Act.put, List.setIfInBounds_toArray, List.set_cons_zero, List.set_cons_succ]
    refine wpAnyH_ready (rs := [12]) (by kernel_rfl) (by simp) ?_
    refine AllReadyH.cons (o := _) rfl (fun K hK => ?_) AllReadyH.nil
    rw [if_pos (by rfl)]
    go_simp
    refine hK.out _ _ ?hs2 (fun hHeld => ?_)
    case hs2 => exact ⟨HT2.out.cells.c3, HT2.out.cells.c10⟩
    clear hK K m2 n2
    have HT3 := Lib.hid HT2.out.drew
    have HM3 : Hid ((w1.setCell ⟨p, 2, none⟩ (.int .i64 now)).drew.heap[p]? = _) := Lib.hid HM2.out
    have HB3 := Lib.hid (HB2.out.trans ⟨rfl, rfl, rfl, Nat.le_refl _, fun _ _ => rfl⟩ : Below B w (w1.setCell ⟨p, 2, none⟩ (.int .i64 now)).drew)
    have HS3 : Hid (Spare w (w1.setCell ⟨p, 2, none⟩ (.int .i64 now)).drew g (.slice b l.length q)) := Lib.hid (HS2.out.later ⟨rfl, rfl, rfl, Nat.le_refl _, fun _ _ => rfl⟩)
    refine wpAnyH_done (by kernel_rfl) ?_ _
    generalize (w1.setCell ⟨p, 2, none⟩ (.int .i64 now)).drew = w3 at HT3 HM3 HB3 HS3 ⊢
    clear HT1 HM1 HB1 HT2 HM2 HB2 HS1 HS2 hHeld
    go_upto_region 3 with fail
    have HS9 : Hid (s.out < 1099511627776) := Lib.hid hlt
    clear hps hps1 hlt
    obtain ⟨m1, hm1⟩ : ∃ x : Msg.Ms, {m with seq := s.out, time := now} = x := ⟨_, rfl⟩
    obtain ⟨MB, hMB⟩ : ∃ X, m1.cells = X := ⟨_, rfl⟩
    have HMB := Lib.hid hMB
    have hsz : MB.size = 18 := by rw [← hMB]; rfl
    rw [hm1, hMB] at HM3
    rw [hm1] at HS
    clear hm1 hMB
    go_cut [] (fun wx => ∃ b' q', Tk wx B g s a n cap now b' q' (l ++ [m1]) ∧ Below B w wx ∧ Spare w wx g (.slice b l.length q))
    case first =>
      obtain ⟨j0, hi0, hz0, hz1, hz2⟩ := info_parts pinfoM
      have HJ0 := Lib.hid hi0
      have HY0 := Lib.hid hz0
      have HY1 := Lib.hid hz1
      have HY2 := Lib.hid hz2
      clear hi0 hz0 hz1 hz2
      have HCK : Hid (∀ W : World, W.heap[p]? = some (.cells MB 36 (0, 0)) → CellsOk W p 0 18 ∧ cellsAt W p 0 18 = MB) := Lib.hid fun W h => by have := CellsOk.of (block_range h); rwa [hsz] at this
      have HMD : Hid (w3.drew.heap[p]? = some (.cells MB 36 (0, 0))) := Lib.hid HM3.out
      have HBD : Hid (Below B w w3.drew) := Lib.hid (HB3.out.trans ⟨rfl, rfl, rfl, Nat.le_refl _, fun _ _ => rfl⟩)
      have HTD := Lib.hid HT3.out.drew
      have HSD : Hid (Spare w w3.drew g (.slice b l.length q)) := Lib.hid (HS3.out.later ⟨rfl, rfl, rfl, Nat.le_refl _, fun _ _ => rfl⟩)
      refine wp_region_held_drew (S := (fun w' => CellsOk w' p 0 18 ∧ cellsAt w' p 0 18 = MB)) (by kernel_rfl) ?hs0 (fun hHeld => ?_)
      case hs0 => exact HCK.out _ HMD.out
      generalize w3.drew = wd at HTD HMD HBD HSD hHeld ⊢
      have t11 := HTD.out.cells.c11
      refine' wpAnyH_take (i := 0) (oi := _) (v := _) rfl (by kernel_rfl) (by kernel_rfl) (by kernel_rfl) (fun _ _ _ h => h) (Or.inl ⟨by rfl, ?hy⟩) (by assumption) ?_
      case hy => (intro w hSw; (try dsimp only at hSw); (try simp only [List.getElem_toArray, List.getElem_cons_zero]); go_simp; try with_reducible rfl)
      try simp only [List.getElem_toArray, List.getElem_cons_zero, Act.put, List.setIfInBounds_toArray, List.set_cons_zero, List.set_cons_succ]
      refine' wpAnyH_take (i := 1) (oi := _) (v := _) rfl (by kernel_rfl) (by kernel_rfl) (by kernel_rfl) (fun _ _ _ h => h) (Or.inl ⟨by rfl, ?hy⟩) (by assumption) ?_
      case hy => (intro w hSw; (try dsimp only at hSw); (try simp only [List.getElem_toArray, List.getElem_cons_zero, List.getElem_cons_succ]); go_simp; try with_reducible rfl)
      try simp only [List.getElem_toArray, List.getElem_cons_zero, List.getElem_cons_succ, Act.put, List.setIfInBounds_toArray, List.set_cons_zero, List.set_cons_succ]
      refine' wpAnyH_take (i := 2) (oi := _) (v := _) rfl (by kernel_rfl) (by kernel_rfl) (by kernel_rfl) (fun _ _ _ h => h) (Or.inl ⟨by rfl, ?hy⟩) (by assumption) ?_
      case hy => (intro w hSw; (try dsimp only at hSw); (try simp only [List.getElem_toArray, List.getElem_cons_zero, List.getElem_cons_succ]); go_simp; try with_reducible rfl)
      try simp only [List.getElem_toArray, List.getElem_cons_zero, List.getElem_cons_succ, Act.put, List.setIfInBounds_toArray, List.set_cons_zero, List.set_cons_succ]
      refine' wpAnyH_take (i := 3) (oi := _) (v := _) rfl (by kernel_rfl) (by kernel_rfl) (by kernel_rfl) (fun _ _ _ h => h) (Or.inl ⟨by rfl, ?hy⟩) (by assumption) ?_
      case hy => (intro w hSw; (try dsimp only at hSw); (try simp only [List.getElem_toArray, List.getElem_cons_zero, List.getElem_cons_succ]); go_simp; try with_reducible rfl)
      try simp only [List.getElem_toArray, List.getElem_cons_zero, List.getElem_cons_succ, Act.put, List.setIfInBounds_toArray, List.set_cons_zero, List.set_cons_succ]
      refine' wpAnyH_take (i := 5) (oi := _) (v := _) rfl (by kernel_rfl) (by kernel_rfl) (by kernel_rfl) (fun _ _ _ h => h) (Or.inl ⟨by rfl, ?hy⟩) (by assumption) ?_
      case hy => (intro w hSw; (try dsimp only at hSw); (try simp only [List.getElem_toArray, List.getElem_cons_zero, List.getElem_cons_succ]); go_simp; try with_reducible rfl)
      try simp only [List.getElem_toArray, List.getElem_cons_zero, List.getElem_cons_succ, Act.put, List.setIfInBounds_toArray, List.set_cons_zero, List.set_cons_succ]
      refine wpAnyH_ready (rs := [4, 6]) (by kernel_rfl) (by simp) ?_
      refine AllReadyH.cons (o := _) rfl (fun K hK => ?_) (AllReadyH.cons (o := _) rfl (fun K hK => ?_) AllReadyH.nil)
      · rw [if_pos (by rfl)]
        go_simp
        refine hK.out _ _ ?hs3 (fun hHeld => ?_)
        case hs3 => exact HCK.out _ HMD.out
        clear hK K
        refine wpAnyH_ready (rs := [6]) (by kernel_rfl) (by simp) ?_
        refine AllReadyH.cons (o := _) rfl (fun K hK => ?_) AllReadyH.nil
        rw [if_pos (by rfl)]
        go_simp
        rw [Rsq.fill_all (k := 18) (Y := MB) rfl hsz]
        have hbl : Below wd.heap.size wd (wd.alloc (.cells MB 36)) := (Below.refl _ _).alloc (Nat.le_refl _) _
        have HT4 := Lib.hid (HTD.out.later hbl)
        have HB4 := Lib.hid (HBD.out.trans (hbl.mono (Nat.le_trans HTD.out.lo (Nat.le_of_lt HTD.out.lt))))
        have HS4 := Lib.hid (HSD.out.later hbl)
        have HX4 : Hid ((wd.alloc (.cells MB 36)).heap[wd.heap.size]? = some (.cells MB 36 (0, 0))) := Lib.hid (heap_alloc_new wd _)
        have HM4 : Hid ((wd.alloc (.cells MB 36)).heap[p]? = some (.cells MB 36 (0, 0))) := Lib.hid (below_block HMD.out hbl)
        refine hK.out _ _ ?hs3 (fun hHeld => ?_)
        case hs3 => exact HCK.out _ HM4.out
        clear hK K hbl
        obtain ⟨x4, hx4⟩ : ∃ x, wd.heap.size = x := ⟨_, rfl⟩
        generalize wd.alloc (.cells MB 36) = w4 at HT4 HB4 HX4 HM4 HS4 hHeld ⊢
        rw [hx4] at HX4 ⊢
        clear hx4
        refine wpAnyH_ready (rs := [7]) (by kernel_rfl) (by simp) ?_
        refine AllReadyH.cons (o := _) rfl (fun K hK => ?_) AllReadyH.nil
        try simp only [List.getElem_toArray, List.getElem_cons_zero, List.getElem_cons_succ, Act.put, List.setIfInBounds_toArray, List.set_cons_zero, List.set_cons_succ]
        refine step_append_gr encM (by decide) rfl (.tmp 25) (.tmp 27) 39 rfl B 36 j0 _ 192 Try.underlying39 HJ0.out HY0.out HY1.out HY2.out (by rfl) _ l rfl HT4.out.own _ 1 1 [m1] rfl rfl (one_at HX4.out HMB.out) (by have := HL.out; simp only [List.length_cons, List.length_nil, maxLen]; omega) (by have := HL.out; simp only [List.length_cons, List.length_nil]; omega) (Nat.le_trans HT4.out.lo (Nat.le_of_lt HT4.out.lt)) ?_
        intro v2 w5 hown hbb hkk hgr
        obtain ⟨b2, q2, rfl, _⟩ := hown.row
        have HG5 : Hid (w5.heap[g]? = some (.cells (tkArr s a n cap now (.slice b l.length q)) 60 (0, 0))) := Lib.hid (hkk _ _ _ _ (by decide) HT4.out.blk)
        have HR5 := Lib.hid (row_safe (e := 67) (b := B) HT4.out.row (fun _ x hx => .inr (HT4.out.ty x hx)) hbb hkk (by decide))
        have HY5 := Lib.hid (ty_kept HT4.out.ty hkk (by decide))
        have HM5 : Hid (w5.heap[p]? = some (.cells MB 36 (0, 0))) := Lib.hid (by
          obtain ⟨_, _, _, _, b1⟩ := hgr
          exact (b1 p (Array.getElem?_eq_some_iff.1 HM4.out).1 (fun e => Nat.lt_irrefl _ (HAP.out p e.symm))).trans HM4.out)
        have HO5 := Lib.hid hown
        have HS5 := Lib.hid (HS4.out.grown hgr)
        have HB5 := Lib.hid (HB4.out.trans hbb)
        refine hK.out _ _ ?hs4 (fun hHeld => ?_)
        case hs4 => exact HCK.out _ HM5.out
        clear hK K hown hbb hkk hgr
        try simp only [Act.put, List.setIfInBounds_toArray, List.set_cons_zero, List.set_cons_succ]
        refine' wpAnyH_take (i := 8) (oi := _) (v := _) rfl (by kernel_rfl) (by kernel_rfl) (by kernel_rfl) (fun _ _ _ h => h) (Or.inl ⟨by rfl, ?hy⟩) (by assumption) ?_
        case hy => (intro w hSw; (try dsimp only at hSw); (try simp only [List.getElem_toArray, List.getElem_cons_zero, List.getElem_cons_succ]); go_simp; try with_reducible rfl)
        try simp only [List.getElem_toArray, List.getElem_cons_zero, List.getElem_cons_succ, Act.put, List.setIfInBounds_toArray, List.set_cons_zero, List.set_cons_succ]
        refine' wpAnyH_take (i := 9) (oi := _) (v := _) rfl (by kernel_rfl) (by kernel_rfl) (by kernel_rfl) (fun _ _ _ h => h) (Or.inl ⟨by rfl, ?hy⟩) (by assumption) ?_
        case hy => (intro w hSw; (try dsimp only at hSw); (try simp only [List.getElem_toArray, List.getElem_cons_zero, List.getElem_cons_succ]); go_simp; try with_reducible rfl)
        try simp only [List.getElem_toArray, List.getElem_cons_zero, List.getElem_cons_succ, Act.put, List.setIfInBounds_toArray, List.set_cons_zero, List.set_cons_succ]
        refine wpAnyH_ready (rs := [10]) (by kernel_rfl) (by simp) ?_
        refine AllReadyH.cons (o := _) rfl (fun K hK => ?_) AllReadyH.nil
        have t5 := cell_at HG5.out (j := 11) (v := .slice b l.length q) rfl
        have f5 := frozen_of_row w5 g 11 _ _ HG5.out
        have l5 : g < w5.heap.size := (Array.getElem?_eq_some_iff.1 HG5.out).1
        rw [if_pos (by rfl)]
        go_simp
        have HT6 := Lib.hid (Tk.told HG5.out HT4.out.len HR5.out HY5.out HO5.out HT4.out.lo)
        have HB6 := Lib.hid (set_below (j := 11) (v := .slice b2 (l ++ [m1]).length q2) HB5.out HT4.out.lo)
        have HS6 := Lib.hid (HS5.out.set (p := g) (j := 11) (u := .slice b2 (l ++ [m1]).length q2) (.inl rfl))
        refine hK.out _ _ ?hs5 (fun hHeld => ?_)
        case hs5 => exact HCK.out _ ((heap_setCell_other w5 _ p _ (fun e => by have e : p = g := e; have := HGP.out; omega)).trans HM5.out)
        clear hK K
        refine wpAnyH_done (by kernel_rfl) ?_ _
        go_wp2_with fail
        go_meet
        have h6 := HT6.out
        have g6 := HB6.out
        have s6 := HS6.out
        simp only [List.length_append, List.length_cons, List.length_nil, Nat.zero_add] at h6 g6 s6
        exact ⟨b2, q2, h6, g6, s6⟩
      · rw [if_pos (by rfl)]
        go_simp
        rw [Rsq.fill_all (k := 18) (Y := MB) rfl hsz]
        have hbl : Below wd.heap.size wd (wd.alloc (.cells MB 36)) := (Below.refl _ _).alloc (Nat.le_refl _) _
        have HT4 := Lib.hid (HTD.out.later hbl)
        have HB4 := Lib.hid (HBD.out.trans (hbl.mono (Nat.le_trans HTD.out.lo (Nat.le_of_lt HTD.out.lt))))
        have HS4 := Lib.hid (HSD.out.later hbl)
        have HX4 : Hid ((wd.alloc (.cells MB 36)).heap[wd.heap.size]? = some (.cells MB 36 (0, 0))) := Lib.hid (heap_alloc_new wd _)
        have HM4 : Hid ((wd.alloc (.cells MB 36)).heap[p]? = some (.cells MB 36 (0, 0))) := Lib.hid (below_block HMD.out hbl)
        refine hK.out _ _ ?hs3 (fun hHeld => ?_)
        case hs3 => exact HCK.out _ HM4.out
        clear hK K hbl
        obtain ⟨x4, hx4⟩ : ∃ x, wd.heap.size = x := ⟨_, rfl⟩
        generalize wd.alloc (.cells MB 36) = w4 at HT4 HB4 HX4 HM4 HS4 hHeld ⊢
        rw [hx4] at HX4 ⊢
        clear hx4
        have t11 := HT4.out.cells.c11
        refine wpAnyH_ready (rs := [4]) (by kernel_rfl) (by simp) ?_
        refine AllReadyH.cons (o := _) rfl (fun K hK => ?_) AllReadyH.nil
        rw [if_pos (by rfl)]
        go_simp
        refine hK.out _ _ ?hs3 (fun hHeld => ?_)
        case hs3 => exact HCK.out _ HM4.out
        clear hK K
        refine wpAnyH_ready (rs := [7]) (by kernel_rfl) (by simp) ?_
        refine AllReadyH.cons (o := _) rfl (fun K hK => ?_) AllReadyH.nil
        try simp only [List.getElem_toArray, List.getElem_cons_zero, List.getElem_cons_succ, Act.put, List.setIfInBounds_toArray, List.set_cons_zero, List.set_cons_succ]
        refine step_append_gr encM (by decide) rfl (.tmp 25) (.tmp 27) 39 rfl B 36 j0 _ 192 Try.underlying39 HJ0.out HY0.out HY1.out HY2.out (by rfl) _ l rfl HT4.out.own _ 1 1 [m1] rfl rfl (one_at HX4.out HMB.out) (by have := HL.out; simp only [List.length_cons, List.length_nil, maxLen]; omega) (by have := HL.out; simp only [List.length_cons, List.length_nil]; omega) (Nat.le_trans HT4.out.lo (Nat.le_of_lt HT4.out.lt)) ?_
        intro v2 w5 hown hbb hkk hgr
        obtain ⟨b2, q2, rfl, _⟩ := hown.row
        have HG5 : Hid (w5.heap[g]? = some (.cells (tkArr s a n cap now (.slice b l.length q)) 60 (0, 0))) := Lib.hid (hkk _ _ _ _ (by decide) HT4.out.blk)
        have HR5 := Lib.hid (row_safe (e := 67) (b := B) HT4.out.row (fun _ x hx => .inr (HT4.out.ty x hx)) hbb hkk (by decide))
        have HY5 := Lib.hid (ty_kept HT4.out.ty hkk (by decide))
        have HM5 : Hid (w5.heap[p]? = some (.cells MB 36 (0, 0))) := Lib.hid (by
          obtain ⟨_, _, _, _, b1⟩ := hgr
          exact (b1 p (Array.getElem?_eq_some_iff.1 HM4.out).1 (fun e => Nat.lt_irrefl _ (HAP.out p e.symm))).trans HM4.out)
        have HO5 := Lib.hid hown
        have HS5 := Lib.hid (HS4.out.grown hgr)
        have HB5 := Lib.hid (HB4.out.trans hbb)
        refine hK.out _ _ ?hs4 (fun hHeld => ?_)
        case hs4 => exact HCK.out _ HM5.out
        clear hK K hown hbb hkk hgr
        try simp only [Act.put, List.setIfInBounds_toArray, List.set_cons_zero, List.set_cons_succ]
        refine' wpAnyH_take (i := 8) (oi := _) (v := _) rfl (by kernel_rfl) (by kernel_rfl) (by kernel_rfl) (fun _ _ _ h => h) (Or.inl ⟨by rfl, ?hy⟩) (by assumption) ?_
        case hy => (intro w hSw; (try dsimp only at hSw); (try simp only [List.getElem_toArray, List.getElem_cons_zero, List.getElem_cons_succ]); go_simp; try with_reducible rfl)
        try simp only [List.getElem_toArray, List.getElem_cons_zero, List.getElem_cons_succ, Act.put, List.setIfInBounds_toArray, List.set_cons_zero, List.set_cons_succ]
        refine' wpAnyH_take (i := 9) (oi := _) (v := _) rfl (by kernel_rfl) (by kernel_rfl) (by kernel_rfl) (fun _ _ _ h => h) (Or.inl ⟨by rfl, ?hy⟩) (by assumption) ?_
        case hy => (intro w hSw; (try dsimp only at hSw); (try simp only [List.getElem_toArray, List.getElem_cons_zero, List.getElem_cons_succ]); go_simp; try with_reducible rfl)
        try simp only [List.getElem_toArray, List.getElem_cons_zero, List.getElem_cons_succ, Act.put, List.setIfInBounds_toArray, List.set_cons_zero, List.set_cons_succ]
        refine wpAnyH_ready (rs := [10]) (by kernel_rfl) (by simp) ?_
        refine AllReadyH.cons (o := _) rfl (fun K hK => ?_) AllReadyH.nil
        have t5 := cell_at HG5.out (j := 11) (v := .slice b l.length q) rfl
        have f5 := frozen_of_row w5 g 11 _ _ HG5.out
        have l5 : g < w5.heap.size := (Array.getElem?_eq_some_iff.1 HG5.out).1
        rw [if_pos (by rfl)]
        go_simp
        have HT6 := Lib.hid (Tk.told HG5.out HT4.out.len HR5.out HY5.out HO5.out HT4.out.lo)
        have HB6 := Lib.hid (set_below (j := 11) (v := .slice b2 (l ++ [m1]).length q2) HB5.out HT4.out.lo)
        have HS6 := Lib.hid (HS5.out.set (p := g) (j := 11) (u := .slice b2 (l ++ [m1]).length q2) (.inl rfl))
        refine hK.out _ _ ?hs5 (fun hHeld => ?_)
        case hs5 => exact HCK.out _ ((heap_setCell_other w5 _ p _ (fun e => by have e : p = g := e; have := HGP.out; omega)).trans HM5.out)
        clear hK K
        refine wpAnyH_done (by kernel_rfl) ?_ _
        go_wp2_with fail
        go_meet
        have h6 := HT6.out
        have g6 := HB6.out
        have s6 := HS6.out
        simp only [List.length_append, List.length_cons, List.length_nil, Nat.zero_add] at h6 g6 s6
        exact ⟨b2, q2, h6, g6, s6⟩
    case rest =>
      obtain ⟨b2, q2, hT, hB, hS⟩ := hcut
      have HT7 := Lib.hid hT
      have HB7 := Lib.hid hB
      have HS7 := Lib.hid hS
      clear hT hB hS HT3 HM3 HB3 HS3
      have k0 := HS9.out
      have c3 := HT7.out.cells.c3
      have f3 := HT7.out.frz 3
      have l3 := HT7.out.lt
      go_upto_region 5 with fail
      have HT8 := Lib.hid (HT7.out.set 3 (.int .i64 (s.out + 1)) {s with out := s.out + 1} rfl rfl)
      have HB8 := Lib.hid (set_below (j := 3) (v := .int .i64 (s.out + 1)) HB7.out HT7.out.lo)
      have HS8 := Lib.hid (HS7.out.set (p := g) (j := 3) (u := .int .i64 (s.out + 1)) (.inl rfl))
      generalize wc.setCell ⟨g, 3, none⟩ (.int .i64 (s.out + 1)) = w8 at HT8 HB8 HS8 ⊢
      clear c3 f3 l3 HT7 HB7 HS7
      have c10 := HT8.out.cells.c10
      have c6 := HT8.out.cells.c6
      have f6 := HT8.out.frz 6
      have l6 := HT8.out.lt
      go_wp2_with fail
      go_end0
      rw [HS.out]
      exact ⟨rfl, ⟨b2, q2, HT8.out.set 6 (.int .i64 now) {s with out := s.out + 1, said := now} rfl rfl⟩, set_below HB8.out HT8.out.lo, HS8.out.set (.inl rfl)⟩

end Ses
end Go.Proofs.Ytnmmokdkngccjaa

namespace Go.Proofs.Ytnmmokdkngccjaa
open Go.RowKit
namespace Ses
open Num
open Msg (I64 alloc_below2 results_row_one)
attribute [local go_sem ↓] pload_msg
attribute [local go_sem] blkOf_ptr offOf_ptr

set_option maxRecDepth 100000 in
set_option maxHeartbeats 4000000 in
theorem ago_any (B g : Nat) (s : Se) (a : Option Addr) (n cap : Nat) (now : Int) (b : Option Addr) (q : Nat) (l : List Msg.Ms) (th tm : Int) (r : Bool) (hr : decide (tm * s.every ≤ now - th) = r) (w : World) (h : Tk w B g s a n cap now b q l) (h1 : 0 ≤ tm ∧ tm ≤ 3) (h2 : 0 ≤ now ∧ now ≤ 4611686018427387904) (h3 : 0 ≤ th ∧ th ≤ 4611686018427387904) (h4 : 0 < s.every ∧ s.every ≤ 1048576) :
    Calls Try.prog 29 #[.pointer (some ⟨g, 0, none⟩), .int .i64 th, .int .i64 tm] w fun e w' => e = .returned (.bool r) ∧ Below w.heap.size w w' := by
  have c4 := h.cells.c4
  have c10 := h.cells.c10
  have hlt := h.lt
  have hp1 : 0 ≤ tm * s.every := Int.mul_nonneg h1.1 (by omega)
  have hp2 : tm * s.every ≤ 3 * 1048576 := Int.le_trans (Int.mul_le_mul_of_nonneg_right h1.2 (by omega)) (by omega)
  have hd : decide (tm * s.every ≤ now - th) = r := hr
  clear h hr
  cases r
  all_goals
    go_enter Try.func29, Try.ntmps29
    go_upto_region 1 with fail
    go_quiet (fail)
    go_wp2_with fail
    go_ret
    exact ⟨rfl, ⟨rfl, rfl, rfl, Nat.le_refl _, fun _ _ => rfl⟩⟩

theorem item_info (x : Rsq.It) : (Try.prog.info? 67).map (·.size) = some x.arr.size := by
  rw [Rsq.It.arr_size]
  kernel_rfl
theorem item_one (x : Rsq.It) : x.arr.all (·.oneCell') = true := by
  unfold Rsq.It.arr
  simp [Value.oneCell']
set_option maxRecDepth 100000 in
set_option maxHeartbeats 8000000 in
theorem item_any (m : Msg.Ms) (h1 : 0 ≤ m.seq ∧ m.seq ≤ 4611686018427387904) (w : World) : Calls Try.prog 37 #[.agg m.cells] w fun e w' => e = .returned (.agg (itemS m).arr) ∧ Below w.heap.size w w' := by
  have HM : Hid (itemS m = ⟨m.seq, if m.kind = 5 ∧ m.seq + 1 < m.a then m.a else m.seq + 1, m⟩) := Lib.hid rfl
  have HB0 : Hid (∀ c : Array Value, Below w.heap.size w ((w.alloc (.cells m.cells 36)).alloc (.cells c 67))) := Lib.hid fun c => alloc_below2 _ _
  go_enter Try.func37, Try.ntmps37
  go_upto_region 1 with fail
  obtain ⟨ZI, hZI⟩ : ∃ X : Array Value, #[.int .i64 0, .int .i64 0, .int .i64 0, .int .i64 0, .int .i64 0, .bool false, .int .i64 0, .int .i64 0, .bool false, .string ⟨#[]⟩, .string ⟨#[]⟩, .string ⟨#[]⟩, .string ⟨#[]⟩, .string ⟨#[]⟩, .string ⟨#[]⟩, .int .i64 0, .bool false, .int .i64 0, .int .i64 0, .int .i64 0] = X := ⟨_, rfl⟩
  have HZS : Hid (ZI.size = 20) := Lib.hid (by rw [← hZI]; rfl)
  rw [hZI]
  clear hZI
  have e1 : (w.alloc (.cells m.cells 36)).heap.size = w.heap.size + 1 := by simp
  have HX0 : Hid (((w.alloc (.cells m.cells 36)).alloc (.cells ZI 67)).heap[w.heap.size]? = some (.cells m.cells 36 (0, 0)) ∧
      ((w.alloc (.cells m.cells 36)).alloc (.cells ZI 67)).heap[w.heap.size + 1]? = some (.cells ZI 67 (0, 0))) := Lib.hid
    ⟨alloc_block (heap_alloc_new w _), by have h := heap_alloc_new (w.alloc (.cells m.cells 36)) (.cells ZI 67); rwa [e1] at h⟩
  have HB1 := Lib.hid (HB0.out ZI)
  clear e1 HB0
  generalize (w.alloc (.cells m.cells 36)).alloc (.cells ZI 67) = w0 at HX0 HB1 ⊢
  have c1 : w0.cell? ⟨w.heap.size, 1, none⟩ = some (.int .i64 m.seq) := cell_at HX0.out.1 rfl
  have HMR := Lib.hid (block_range HX0.out.1)
  obtain ⟨i1, hi1⟩ : ∃ i : Rsq.It, (⟨m.seq, m.seq + 1, m⟩ : Rsq.It) = i := ⟨_, rfl⟩
  go_upto_region 2 with (first | (refine wpList_load_arr_g (by rfl) 36 _ rfl w.heap.size 0 rfl (#[.int .i64 m.kind, .int .i64 m.seq, .int .i64 m.time, .bool m.copy, .int .i64 m.a, .int .i64 m.b, .bool m.gap, .string m.text, .string m.exec.id, .string m.exec.ref, .string m.exec.order, .string m.exec.account, .string m.exec.symbol, .int .i64 m.exec.kind, .bool m.exec.buy, .int .i64 m.exec.qty, .int .i64 m.exec.price, .int .i64 m.exec.time]) _ HMR.out Try.underlying36 rfl (pmsg_info m) ?_) | (refine wpList_store_row rfl 67 _ _ rfl w0.heap.size (⟨m.seq, m.seq + 1, m⟩ : Rsq.It).arr rfl rfl _ _ (heap_alloc_last _ _) (item_info _) rfl (item_one _) ?_; rw [World.setRow_alloc_new]))
  obtain ⟨x, hx⟩ : ∃ x, w0.heap.size = x := ⟨_, rfl⟩
  have hbl : Below w0.heap.size w0 (w0.alloc (.cells (⟨m.seq, m.seq + 1, m⟩ : Rsq.It).arr 67)) := (Below.refl _ _).alloc (Nat.le_refl _) _
  have HI1 : Hid ((w0.alloc (.cells (⟨m.seq, m.seq + 1, m⟩ : Rsq.It).arr 67)).heap[x]? = some (.cells (⟨m.seq, m.seq + 1, m⟩ : Rsq.It).arr 67 (0, 0))) := Lib.hid (hx ▸ heap_alloc_new w0 _)
  have HX1 := Lib.hid (And.intro (below_block HX0.out.1 hbl) (below_block HX0.out.2 hbl))
  have HB2 := Lib.hid (HB1.out.trans (hbl.mono HB1.out.size))
  have HXB : Hid (w.heap.size ≤ x) := Lib.hid (by rw [← hx]; exact HB1.out.size)
  have HZX : Hid (w.heap.size + 1 ≠ x) := Lib.hid (fun e => by have h := (Array.getElem?_eq_some_iff.1 HX0.out.2).1; omega)
  rw [hx]
  generalize w0.alloc (.cells (⟨m.seq, m.seq + 1, m⟩ : Rsq.It).arr 67) = w1 at HI1 HX1 HB2 ⊢
  clear hx hbl HX0 HB1 c1 HMR hi1 i1
  have k0 : w1.cell? ⟨w.heap.size, 0, none⟩ = some (.int .i64 m.kind) := cell_at HX1.out.1 rfl
  have k4 : w1.cell? ⟨w.heap.size, 4, none⟩ = some (.int .i64 m.a) := cell_at HX1.out.1 rfl
  have x1 : w1.cell? ⟨x, 1, none⟩ = some (.int .i64 (m.seq + 1)) := cell_at HI1.out rfl
  have f1 := frozen_of_row w1 x 1 _ _ HI1.out
  have l1 : x < w1.heap.size := (Array.getElem?_eq_some_iff.1 HI1.out).1
  obtain ⟨bk, hbk⟩ : ∃ b, (m.kind == 5) = b := ⟨_, rfl⟩
  have HBK := Lib.hid hbk
  cases bk
  · have HS : Hid (itemS m = ⟨m.seq, m.seq + 1, m⟩) := Lib.hid (by
      have : ¬ m.kind = 5 := by simpa using HBK.out
      rw [HM.out, if_neg (fun h => this h.1)])
    have HIR := Lib.hid (block_range HI1.out)
    go_wp2_with (first | (refine wpList_load_arr_g (by rfl) 67 _ rfl x 0 rfl (⟨m.seq, m.seq + 1, m⟩ : Rsq.It).arr _ HIR.out Try.underlying67 rfl (item_info _) ?_) | (refine wpList_store_row rfl 67 _ _ rfl (w.heap.size + 1) (⟨m.seq, m.seq + 1, m⟩ : Rsq.It).arr rfl rfl _ _ HX1.out.2 (item_info _) HZS.out (item_one _) ?_))
    refine bodyPost_ret (results_row_one rfl _ _ _ (w.heap.size + 1) 67 _ (0, 0) _ rfl (setRow_heap w1 _ _ _ _ _ HX1.out.2) Try.underlying67 rfl (item_info _)) rfl ?_
    rw [HS.out]
    exact ⟨rfl, below_setRow HB2.out (Nat.le_succ _) _⟩
  · obtain ⟨tt, hto⟩ : ∃ t, max (m.seq + 1) m.a = t := ⟨_, rfl⟩
    have HS : Hid (itemS m = ⟨m.seq, tt, m⟩) := Lib.hid (by
      have : m.kind = 5 := by simpa using HBK.out
      rw [HM.out, ← hto]
      by_cases h : m.seq + 1 < m.a
      · rw [if_pos ⟨this, h⟩, Int.max_eq_right (by omega)]
      · rw [if_neg (fun e => h e.2), Int.max_eq_left (by omega)])
    have HTO := Lib.hid hto
    go_upto_region 4 with fail
    have HI2 : Hid ((w1.setCell ⟨x, 1, none⟩ (.int .i64 tt)).heap[x]? = some (.cells (⟨m.seq, tt, m⟩ : Rsq.It).arr 67 (0, 0))) := Lib.hid (heap_setCell_same w1 x 1 _ _ (.int .i64 tt) HI1.out)
    have HX2 := Lib.hid ((heap_setCell_other w1 ⟨x, 1, none⟩ (w.heap.size + 1) (.int .i64 tt) (fun e => HZX.out e)).trans HX1.out.2)
    have HB3 := Lib.hid (set_below (j := 1) (v := .int .i64 tt) HB2.out HXB.out)
    generalize w1.setCell ⟨x, 1, none⟩ (.int .i64 tt) = w2 at HI2 HX2 HB3 ⊢
    clear HI1 HX1 HB2 k0 k4 x1 f1 l1 hto hbk
    have HIR := Lib.hid (block_range HI2.out)
    go_wp2_with (first | (refine wpList_load_arr_g (by rfl) 67 _ rfl x 0 rfl (⟨m.seq, tt, m⟩ : Rsq.It).arr _ HIR.out Try.underlying67 rfl (item_info _) ?_) | (refine wpList_store_row rfl 67 _ _ rfl (w.heap.size + 1) (⟨m.seq, tt, m⟩ : Rsq.It).arr rfl rfl _ _ HX2.out (item_info _) HZS.out (item_one _) ?_))
    refine bodyPost_ret (results_row_one rfl _ _ _ (w.heap.size + 1) 67 _ (0, 0) _ rfl (setRow_heap w2 _ _ _ _ _ HX2.out) Try.underlying67 rfl (item_info _)) rfl ?_
    rw [HS.out]
    exact ⟨rfl, below_setRow HB3.out (Nat.le_succ _) _⟩

theorem say_is (B g : Nat) (s : Se) (a : Option Addr) (n cap : Nat) (now : Int) (b : Option Addr) (q : Nat) (l : List Msg.Ms) (m : Msg.Ms) (c : Array Value) (hc : m.cells = c) (r : Se × List Msg.Ms) (hr : say s l m now = r) (w : World) (h : Tk w B g s a n cap now b q l) (hl : l.length ≤ 1000) (h0 : 0 < s.out) (h9 : s.out ≤ 1099511627776) :
    Calls Try.prog 25 #[.pointer (some ⟨g, 0, none⟩), .agg c] w fun e w' => e = .returned (.tuple #[]) ∧ (∃ b' q', Tk w' B g r.1 a n cap now b' q' r.2) ∧ Below B w w' ∧ Spare w w' g (.slice b l.length q) := by
  subst hc hr
  exact say_any B g s a n cap now b q l m w h hl h0 h9 (Nat.le_trans h.lo (Nat.le_of_lt h.lt))

/-- what is answered -/
def answerP (s : Se) (l : List Msg.Ms) (m : Msg.Ms) (now : Int) : Se × List Msg.Ms :=
  if m.kind = 3 then say s l {Msg.noMs with kind := 2, text := m.text} now
  else if m.kind = 4 ∧ m.a < s.out then (s, l ++ [{Msg.noMs with kind := 5, seq := m.a, time := now, copy := true, a := s.out, gap := true}])
  else (s, l)

set_option maxRecDepth 100000 in
set_option maxHeartbeats 8000000 in
theorem answer_any (B g : Nat) (s : Se) (a : Option Addr) (n cap : Nat) (now : Int) (b : Option Addr) (q : Nat) (l : List Msg.Ms) (m : Msg.Ms) (w : World) (h : Tk w B g s a n cap now b q l) (hl : l.length ≤ 999) (h0 : 0 < s.out) (h9 : s.out ≤ 1099511627776) :
    Calls Try.prog 26 #[.pointer (some ⟨g, 0, none⟩), .agg m.cells] w fun e w' => e = .returned (.tuple #[]) ∧ (∃ b' q', Tk w' B g (answerP s l m now).1 a n cap now b' q' (answerP s l m now).2) ∧ Below B w w' := by
  have hw : B ≤ w.heap.size := Nat.le_trans h.lo (Nat.le_of_lt h.lt)
  have hbl : Below w.heap.size w (w.alloc (.cells m.cells 36)) := (Below.refl _ _).alloc (Nat.le_refl _) _
  have HT0 := Lib.hid (h.later hbl)
  have HM0 : Hid ((w.alloc (.cells m.cells 36)).heap[w.heap.size]? = some (.cells m.cells 36 (0, 0))) := Lib.hid (heap_alloc_new w _)
  have HB0 : Hid (Below B w (w.alloc (.cells m.cells 36))) := Lib.hid (hbl.mono hw)
  have HAP : Hid (∀ k, (Value.slice b l.length q).ownBlock = some k → k < w.heap.size) := Lib.hid fun k hk => (h.own.lt k hk).2
  have HGP : Hid (g < w.heap.size) := Lib.hid h.lt
  have HL := Lib.hid hl
  have HOU := Lib.hid (And.intro h0 h9)
  obtain ⟨MA, hMA⟩ : ∃ X, m.cells = X := ⟨_, rfl⟩
  have HMA := Lib.hid hMA
  rw [hMA] at HM0 HB0 HT0 ⊢
  clear hMA hbl h hl hw h0 h9
  go_enter Try.func26, Try.ntmps26
  go_upto_region 1 with fail
  obtain ⟨p, hp⟩ : ∃ p, w.heap.size = p := ⟨_, rfl⟩
  have HP := Lib.hid hp
  generalize w.alloc (.cells MA 36) = w0 at HM0 HB0 HT0 ⊢
  rw [hp] at HM0 HGP HAP ⊢
  clear hp
  have p0 : w0.cell? ⟨p, 0, none⟩ = some (.int .i64 m.kind) := cell_at HM0.out (by rw [← HMA.out]; rfl)
  obtain ⟨b3, hb3⟩ : ∃ x, (m.kind == 3) = x := ⟨_, rfl⟩
  have HB3 := Lib.hid hb3
  cases b3
  rotate_left
  · have p7 : w0.cell? ⟨p, 7, none⟩ = some (.string m.text) := cell_at HM0.out (by rw [← HMA.out]; rfl)
    go_wp2_with fail
    have HS : Hid (answerP s l m now = say s l {Msg.noMs with kind := 2, text := m.text} now) := Lib.hid (by
      have : m.kind = 3 := by simpa using HB3.out
      unfold answerP
      rw [if_pos this])
    refine (say_is B g s a n cap now b q l {Msg.noMs with kind := 2, text := m.text} _ rfl _ rfl _ HT0.out (by have := HL.out; omega) HOU.out.1 HOU.out.2).mono ?_
    rintro e w1 ⟨rfl, ht, hb, -⟩
    go_wp2_with fail
    go_end0
    rw [HS.out]
    exact ⟨rfl, ht, HB0.out.trans hb⟩
  · have p4 : w0.cell? ⟨p, 4, none⟩ = some (.int .i64 m.a) := cell_at HM0.out (by rw [← HMA.out]; rfl)
    have t3 := HT0.out.cells.c3
    have l0 := HT0.out.lt
    obtain ⟨b4, hb4⟩ : ∃ x, (m.kind == 4) = x := ⟨_, rfl⟩
    have HB4 := Lib.hid hb4
    have HK3 : Hid (¬ m.kind = 3) := Lib.hid (by simpa using HB3.out)
    go_upto_region 3 with fail
    cases b4
    · have HS : Hid (answerP s l m now = (s, l)) := Lib.hid (by
        have : ¬ m.kind = 4 := by simpa using HB4.out
        unfold answerP
        rw [if_neg HK3.out, if_neg (fun e => this e.1)])
      go_quiet (fail)
      go_wp2_with fail
      go_end0
      rw [HS.out]
      exact ⟨rfl, ⟨b, q, HT0.out.later ⟨rfl, rfl, rfl, Nat.le_refl _, fun _ _ => rfl⟩⟩, HB0.out.trans ⟨rfl, rfl, rfl, Nat.le_refl _, fun _ _ => rfl⟩⟩
    · obtain ⟨bo, hbo⟩ : ∃ x, decide (m.a < s.out) = x := ⟨_, rfl⟩
      have HBO := Lib.hid hbo
      cases bo
      · have HS : Hid (answerP s l m now = (s, l)) := Lib.hid (by
          unfold answerP
          rw [if_neg HK3.out, if_neg (fun e => of_decide_eq_false HBO.out e.2)])
        go_quiet (fail)
        go_wp2_with fail
        go_end0
        rw [HS.out]
        exact ⟨rfl, ⟨b, q, HT0.out.later ⟨rfl, rfl, rfl, Nat.le_refl _, fun _ _ => rfl⟩⟩, HB0.out.trans ⟨rfl, rfl, rfl, Nat.le_refl _, fun _ _ => rfl⟩⟩
      · have HS : Hid (answerP s l m now = (s, l ++ [{Msg.noMs with kind := 5, seq := m.a, time := now, copy := true, a := s.out, gap := true}])) := Lib.hid (by
          have : m.kind = 4 := by simpa using HB4.out
          unfold answerP
          rw [if_neg HK3.out, if_pos ⟨this, of_decide_eq_true HBO.out⟩])
        go_quiet (fail)
        go_upto_region 4 with fail
        have hbn : Below w0.heap.size w0 (w0.drewN nq) := ⟨rfl, rfl, rfl, Nat.le_refl _, fun _ _ => rfl⟩
        have HT3 := Lib.hid (HT0.out.later hbn)
        have HM3 : Hid ((w0.drewN nq).heap[p]? = some (.cells MA 36 (0, 0))) := Lib.hid HM0.out
        have HB5 := Lib.hid (HB0.out.trans (hbn.mono (Nat.le_trans HT0.out.lo (Nat.le_of_lt HT0.out.lt))))
        generalize w0.drewN nq = w3 at HT3 HM3 HB5 ⊢
        clear hbn HT0 HM0 HB0 p0 p4 t3 l0 hbo hb4 hb3
        obtain ⟨m1, hm1⟩ : ∃ x : Msg.Ms, {Msg.noMs with kind := 5, seq := m.a, time := now, copy := true, a := s.out, gap := true} = x := ⟨_, rfl⟩
        obtain ⟨MB, hMB⟩ : ∃ X : Array Value, #[.int .i64 5, .int .i64 m.a, .int .i64 now, .bool true, .int .i64 s.out, .int .i64 0, .bool true, .string ⟨#[]⟩, .string ⟨#[]⟩, .string ⟨#[]⟩, .string ⟨#[]⟩, .string ⟨#[]⟩, .string ⟨#[]⟩, .int .i64 0, .bool false, .int .i64 0, .int .i64 0, .int .i64 0] = X := ⟨_, rfl⟩
        have HMB : Hid (m1.cells = MB) := Lib.hid (by rw [← hMB, ← hm1]; rfl)
        rw [hm1] at HS
        have hsz : MB.size = 18 := by rw [← hMB]; rfl
        clear hm1
        obtain ⟨j0, hi0, hz0, hz1, hz2⟩ := info_parts pinfoM
        have HJ0 := Lib.hid hi0
        have HY0 := Lib.hid hz0
        have HY1 := Lib.hid hz1
        have HY2 := Lib.hid hz2
        clear hi0 hz0 hz1 hz2
        have HCK : Hid (∀ (W : World) (u : Value), W.heap[p]? = some (.cells MA 36 (0, 0)) → W.heap[g]? = some (.cells (tkArr s a n cap now u) 60 (0, 0)) → W.cell? ⟨p, 4, none⟩ = some (.int .i64 m.a) ∧ W.cell? ⟨g, 3, none⟩ = some (.int .i64 s.out) ∧ W.cell? ⟨g, 10, none⟩ = some (.int .i64 now)) := Lib.hid fun W u h1 h2 => ⟨cell_at h1 (by rw [← HMA.out]; rfl), cell_at h2 rfl, cell_at h2 rfl⟩
        have HMD : Hid (w3.drew.heap[p]? = some (.cells MA 36 (0, 0))) := Lib.hid HM3.out
        have HBD : Hid (Below B w w3.drew) := Lib.hid (HB5.out.trans ⟨rfl, rfl, rfl, Nat.le_refl _, fun _ _ => rfl⟩)
        have HTD := Lib.hid HT3.out.drew
        refine wp_region_held_drew (S := (fun w' => w'.cell? ⟨p, 4, none⟩ = some (.int .i64 m.a) ∧ w'.cell? ⟨g, 3, none⟩ = some (.int .i64 s.out) ∧ w'.cell? ⟨g, 10, none⟩ = some (.int .i64 now))) (by kernel_rfl) ?hs0 (fun hHeld => ?_)
        case hs0 => exact HCK.out _ _ HMD.out HTD.out.blk
        generalize w3.drew = wd at HTD HMD HBD hHeld ⊢
        have t11 := HTD.out.cells.c11
        refine' wpAnyH_take (i := 0) (oi := _) (v := _) rfl (by kernel_rfl) (by kernel_rfl) (by kernel_rfl) (fun _ _ _ h => h) (Or.inl ⟨by rfl, ?hy⟩) (by assumption) ?_
        case hy => (intro w hSw; (try dsimp only at hSw); (try simp only [List.getElem_toArray, List.getElem_cons_zero]); go_simp; try with_reducible rfl)
        try simp only [List.getElem_toArray, List.getElem_cons_zero, Act.put, List.setIfInBounds_toArray, List.set_cons_zero, List.set_cons_succ]
        refine' wpAnyH_take (i := 1) (oi := _) (v := _) rfl (by kernel_rfl) (by kernel_rfl) (by kernel_rfl) (fun _ _ _ h => h) (Or.inl ⟨by rfl, ?hy⟩) (by assumption) ?_
        case hy => (intro w hSw; (try dsimp only at hSw); (try simp only [List.getElem_toArray, List.getElem_cons_zero, List.getElem_cons_succ]); go_simp; try with_reducible rfl)
        try simp only [List.getElem_toArray, List.getElem_cons_zero, List.getElem_cons_succ, Act.put, List.setIfInBounds_toArray, List.set_cons_zero, List.set_cons_succ]
        refine' wpAnyH_take (i := 2) (oi := _) (v := _) rfl (by kernel_rfl) (by kernel_rfl) (by kernel_rfl) (fun _ _ _ h => h) (Or.inl ⟨by rfl, ?hy⟩) (by assumption) ?_
        case hy => (intro w hSw; (try dsimp only at hSw); (try simp only [List.getElem_toArray, List.getElem_cons_zero, List.getElem_cons_succ]); go_simp; try with_reducible rfl)
        try simp only [List.getElem_toArray, List.getElem_cons_zero, List.getElem_cons_succ, Act.put, List.setIfInBounds_toArray, List.set_cons_zero, List.set_cons_succ]
        refine' wpAnyH_take (i := 3) (oi := _) (v := _) rfl (by kernel_rfl) (by kernel_rfl) (by kernel_rfl) (fun _ _ _ h => h) (Or.inl ⟨by rfl, ?hy⟩) (by assumption) ?_
        case hy => (intro w hSw; (try dsimp only at hSw); (try simp only [List.getElem_toArray, List.getElem_cons_zero, List.getElem_cons_succ]); go_simp; try with_reducible rfl)
        try simp only [List.getElem_toArray, List.getElem_cons_zero, List.getElem_cons_succ, Act.put, List.setIfInBounds_toArray, List.set_cons_zero, List.set_cons_succ]
        refine' wpAnyH_take (i := 5) (oi := _) (v := _) rfl (by kernel_rfl) (by kernel_rfl) (by kernel_rfl) (fun _ _ _ h => h) (Or.inl ⟨by rfl, ?hy⟩) (by assumption) ?_
        case hy => (intro w hSw; (try dsimp only at hSw); (try simp only [List.getElem_toArray, List.getElem_cons_zero, List.getElem_cons_succ]); go_simp; try with_reducible rfl)
        try simp only [List.getElem_toArray, List.getElem_cons_zero, List.getElem_cons_succ, Act.put, List.setIfInBounds_toArray, List.set_cons_zero, List.set_cons_succ]
        refine' wpAnyH_take (i := 6) (oi := _) (v := _) rfl (by kernel_rfl) (by kernel_rfl) (by kernel_rfl) (fun _ _ _ h => h) (Or.inl ⟨by rfl, ?hy⟩) (by assumption) ?_
        case hy => (intro w hSw; (try dsimp only at hSw); (try simp only [List.getElem_toArray, List.getElem_cons_zero, List.getElem_cons_succ]); go_simp; try with_reducible rfl)
        try simp only [List.getElem_toArray, List.getElem_cons_zero, List.getElem_cons_succ, Act.put, List.setIfInBounds_toArray, List.set_cons_zero, List.set_cons_succ]
        refine' wpAnyH_take (i := 7) (oi := _) (v := _) rfl (by kernel_rfl) (by kernel_rfl) (by kernel_rfl) (fun _ _ _ h => h) (Or.inl ⟨by rfl, ?hy⟩) (by assumption) ?_
        case hy => (intro w hSw; (try dsimp only at hSw); (try simp only [List.getElem_toArray, List.getElem_cons_zero, List.getElem_cons_succ]); go_simp; try with_reducible rfl)
        try simp only [List.getElem_toArray, List.getElem_cons_zero, List.getElem_cons_succ, Act.put, List.setIfInBounds_toArray, List.set_cons_zero, List.set_cons_succ]
        refine' wpAnyH_take (i := 8) (oi := _) (v := _) rfl (by kernel_rfl) (by kernel_rfl) (by kernel_rfl) (fun _ _ _ h => h) (Or.inl ⟨by rfl, ?hy⟩) (by assumption) ?_
        case hy => (intro w hSw; (try dsimp only at hSw); (try simp only [List.getElem_toArray, List.getElem_cons_zero, List.getElem_cons_succ]); go_simp; try with_reducible rfl)
        try simp only [List.getElem_toArray, List.getElem_cons_zero, List.getElem_cons_succ, Act.put, List.setIfInBounds_toArray, List.set_cons_zero, List.set_cons_succ]
        refine' wpAnyH_take (i := 9) (oi := _) (v := _) rfl (by kernel_rfl) (by kernel_rfl) (by kernel_rfl) (fun _ _ _ h => h) (Or.inl ⟨by rfl, ?hy⟩) (by assumption) ?_
        case hy => (intro w hSw; (try dsimp only at hSw); (try simp only [List.getElem_toArray, List.getElem_cons_zero, List.getElem_cons_succ]); go_simp; try with_reducible rfl)
        try simp only [List.getElem_toArray, List.getElem_cons_zero, List.getElem_cons_succ, Act.put, List.setIfInBounds_toArray, List.set_cons_zero, List.set_cons_succ]
        refine' wpAnyH_take (i := 10) (oi := _) (v := _) rfl (by kernel_rfl) (by kernel_rfl) (by kernel_rfl) (fun _ _ _ h => h) (Or.inl ⟨by rfl, ?hy⟩) (by assumption) ?_
        case hy => (intro w hSw; (try dsimp only at hSw); (try simp only [List.getElem_toArray, List.getElem_cons_zero, List.getElem_cons_succ]); go_simp; try with_reducible rfl)
        try simp only [List.getElem_toArray, List.getElem_cons_zero, List.getElem_cons_succ, Act.put, List.setIfInBounds_toArray, List.set_cons_zero, List.set_cons_succ]
        refine' wpAnyH_take (i := 11) (oi := _) (v := _) rfl (by kernel_rfl) (by kernel_rfl) (by kernel_rfl) (fun _ _ _ h => h) (Or.inl ⟨by rfl, ?hy⟩) (by assumption) ?_
        case hy => (intro w hSw; (try dsimp only at hSw); (try simp only [List.getElem_toArray, List.getElem_cons_zero, List.getElem_cons_succ]); go_simp; try with_reducible rfl)
        try simp only [List.getElem_toArray, List.getElem_cons_zero, List.getElem_cons_succ, Act.put, List.setIfInBounds_toArray, List.set_cons_zero, List.set_cons_succ]
        refine' wpAnyH_take (i := 12) (oi := _) (v := _) rfl (by kernel_rfl) (by kernel_rfl) (by kernel_rfl) (fun _ _ _ h => h) (Or.inl ⟨by rfl, ?hy⟩) (by assumption) ?_
        case hy => (intro w hSw; (try dsimp only at hSw); (try simp only [List.getElem_toArray, List.getElem_cons_zero, List.getElem_cons_succ]); go_simp; try with_reducible rfl)
        try simp only [List.getElem_toArray, List.getElem_cons_zero, List.getElem_cons_succ, Act.put, List.setIfInBounds_toArray, List.set_cons_zero, List.set_cons_succ]
        refine' wpAnyH_take (i := 13) (oi := _) (v := _) rfl (by kernel_rfl) (by kernel_rfl) (by kernel_rfl) (fun _ _ _ h => h) (Or.inl ⟨by rfl, ?hy⟩) (by assumption) ?_
        case hy => (intro w hSw; (try dsimp only at hSw); (try simp only [List.getElem_toArray, List.getElem_cons_zero, List.getElem_cons_succ]); go_simp; try with_reducible rfl)
        try simp only [List.getElem_toArray, List.getElem_cons_zero, List.getElem_cons_succ, Act.put, List.setIfInBounds_toArray, List.set_cons_zero, List.set_cons_succ]
        refine' wpAnyH_take (i := 14) (oi := _) (v := _) rfl (by kernel_rfl) (by kernel_rfl) (by kernel_rfl) (fun _ _ _ h => h) (Or.inl ⟨by rfl, ?hy⟩) (by assumption) ?_
        case hy => (intro w hSw; (try dsimp only at hSw); (try simp only [List.getElem_toArray, List.getElem_cons_zero, List.getElem_cons_succ]); go_simp; try with_reducible rfl)
        try simp only [List.getElem_toArray, List.getElem_cons_zero, List.getElem_cons_succ, Act.put, List.setIfInBounds_toArray, List.set_cons_zero, List.set_cons_succ]
        refine' wpAnyH_take (i := 15) (oi := _) (v := _) rfl (by kernel_rfl) (by kernel_rfl) (by kernel_rfl) (fun _ _ _ h => h) (Or.inl ⟨by rfl, ?hy⟩) (by assumption) ?_
        case hy => (intro w hSw; (try dsimp only at hSw); (try simp only [List.getElem_toArray, List.getElem_cons_zero, List.getElem_cons_succ]); go_simp; try with_reducible rfl)
        try simp only [List.getElem_toArray, List.getElem_cons_zero, List.getElem_cons_succ, Act.put, List.setIfInBounds_toArray, List.set_cons_zero, List.set_cons_succ]
        refine' wpAnyH_take (i := 16) (oi := _) (v := _) rfl (by kernel_rfl) (by kernel_rfl) (by kernel_rfl) (fun _ _ _ h => h) (Or.inl ⟨by rfl, ?hy⟩) (by assumption) ?_
        case hy => (intro w hSw; (try dsimp only at hSw); (try simp only [List.getElem_toArray, List.getElem_cons_zero, List.getElem_cons_succ]); go_simp; try with_reducible rfl)
        try simp only [List.getElem_toArray, List.getElem_cons_zero, List.getElem_cons_succ, Act.put, List.setIfInBounds_toArray, List.set_cons_zero, List.set_cons_succ]
        refine wpAnyH_ready (rs := [4, 17]) (by kernel_rfl) (by simp) ?_
        refine AllReadyH.cons (o := _) rfl (fun K hK => ?_) (AllReadyH.cons (o := _) rfl (fun K hK => ?_) AllReadyH.nil)
        · rw [if_pos (by rfl)]
          go_simp
          refine hK.out _ _ ?hs3 (fun hHeld => ?_)
          case hs3 => exact HCK.out _ _ HMD.out HTD.out.blk
          clear hK K
          refine wpAnyH_ready (rs := [17]) (by kernel_rfl) (by simp) ?_
          refine AllReadyH.cons (o := _) rfl (fun K hK => ?_) AllReadyH.nil
          rw [if_pos (by rfl)]
          go_simp
          rw [Rsq.fill_all (k := 18) (Y := MB) rfl hsz]
          have hbl : Below wd.heap.size wd (wd.alloc (.cells MB 36)) := (Below.refl _ _).alloc (Nat.le_refl _) _
          have HT4 := Lib.hid (HTD.out.later hbl)
          have HB4 := Lib.hid (HBD.out.trans (hbl.mono (Nat.le_trans HTD.out.lo (Nat.le_of_lt HTD.out.lt))))
          have HX4 : Hid ((wd.alloc (.cells MB 36)).heap[wd.heap.size]? = some (.cells MB 36 (0, 0))) := Lib.hid (heap_alloc_new wd _)
          have HM4 : Hid ((wd.alloc (.cells MB 36)).heap[p]? = some (.cells MA 36 (0, 0))) := Lib.hid (below_block HMD.out hbl)
          refine hK.out _ _ ?hs3 (fun hHeld => ?_)
          case hs3 => exact HCK.out _ _ HM4.out HT4.out.blk
          clear hK K hbl
          obtain ⟨x4, hx4⟩ : ∃ x, wd.heap.size = x := ⟨_, rfl⟩
          generalize wd.alloc (.cells MB 36) = w4 at HT4 HB4 HX4 HM4 hHeld ⊢
          rw [hx4] at HX4 ⊢
          clear hx4
          refine wpAnyH_ready (rs := [18]) (by kernel_rfl) (by simp) ?_
          refine AllReadyH.cons (o := _) rfl (fun K hK => ?_) AllReadyH.nil
          try simp only [List.getElem_toArray, List.getElem_cons_zero, List.getElem_cons_succ, Act.put, List.setIfInBounds_toArray, List.set_cons_zero, List.set_cons_succ]
          refine step_append_gr encM (by decide) rfl (.tmp 31) (.tmp 44) 39 rfl B 36 j0 _ 192 Try.underlying39 HJ0.out HY0.out HY1.out HY2.out (by rfl) _ l rfl HT4.out.own _ 1 1 [m1] rfl rfl (one_at HX4.out HMB.out) (by have := HL.out; simp only [List.length_cons, List.length_nil, maxLen]; omega) (by have := HL.out; simp only [List.length_cons, List.length_nil]; omega) (Nat.le_trans HT4.out.lo (Nat.le_of_lt HT4.out.lt)) ?_
          intro v2 w5 hown hbb hkk hgr
          obtain ⟨b2, q2, rfl, _⟩ := hown.row
          have HG5 : Hid (w5.heap[g]? = some (.cells (tkArr s a n cap now (.slice b l.length q)) 60 (0, 0))) := Lib.hid (hkk _ _ _ _ (by decide) HT4.out.blk)
          have HR5 := Lib.hid (row_safe (e := 67) (b := B) HT4.out.row (fun _ x hx => .inr (HT4.out.ty x hx)) hbb hkk (by decide))
          have HY5 := Lib.hid (ty_kept HT4.out.ty hkk (by decide))
          have HM5 : Hid (w5.heap[p]? = some (.cells MA 36 (0, 0))) := Lib.hid (by
            obtain ⟨_, _, _, _, b1⟩ := hgr
            exact (b1 p (Array.getElem?_eq_some_iff.1 HM4.out).1 (fun e => Nat.lt_irrefl _ (HAP.out p e.symm))).trans HM4.out)
          have HO5 := Lib.hid hown
          have HB6 := Lib.hid (HB4.out.trans hbb)
          refine hK.out _ _ ?hs4 (fun hHeld => ?_)
          case hs4 => exact HCK.out _ _ HM5.out HG5.out
          clear hK K hown hbb hkk hgr
          try simp only [Act.put, List.setIfInBounds_toArray, List.set_cons_zero, List.set_cons_succ]
          refine' wpAnyH_take (i := 19) (oi := _) (v := _) rfl (by kernel_rfl) (by kernel_rfl) (by kernel_rfl) (fun _ _ _ h => h) (Or.inl ⟨by rfl, ?hy⟩) (by assumption) ?_
          case hy => (intro w hSw; (try dsimp only at hSw); (try simp only [List.getElem_toArray, List.getElem_cons_zero, List.getElem_cons_succ]); go_simp; try with_reducible rfl)
          try simp only [List.getElem_toArray, List.getElem_cons_zero, List.getElem_cons_succ, Act.put, List.setIfInBounds_toArray, List.set_cons_zero, List.set_cons_succ]
          refine' wpAnyH_take (i := 20) (oi := _) (v := _) rfl (by kernel_rfl) (by kernel_rfl) (by kernel_rfl) (fun _ _ _ h => h) (Or.inl ⟨by rfl, ?hy⟩) (by assumption) ?_
          case hy => (intro w hSw; (try dsimp only at hSw); (try simp only [List.getElem_toArray, List.getElem_cons_zero, List.getElem_cons_succ]); go_simp; try with_reducible rfl)
          try simp only [List.getElem_toArray, List.getElem_cons_zero, List.getElem_cons_succ, Act.put, List.setIfInBounds_toArray, List.set_cons_zero, List.set_cons_succ]
          refine wpAnyH_ready (rs := [21]) (by kernel_rfl) (by simp) ?_
          refine AllReadyH.cons (o := _) rfl (fun K hK => ?_) AllReadyH.nil
          have t5 := cell_at HG5.out (j := 11) (v := .slice b l.length q) rfl
          have f5 := frozen_of_row w5 g 11 _ _ HG5.out
          have l5 : g < w5.heap.size := (Array.getElem?_eq_some_iff.1 HG5.out).1
          rw [if_pos (by rfl)]
          go_simp
          have HT6 := Lib.hid (Tk.told HG5.out HT4.out.len HR5.out HY5.out HO5.out HT4.out.lo)
          have HB7 := Lib.hid (set_below (j := 11) (v := .slice b2 (l ++ [m1]).length q2) HB6.out HT4.out.lo)
          have h6 := HT6.out
          have g6 := HB7.out
          have i6 := h6.blk
          simp only [List.length_append, List.length_cons, List.length_nil, Nat.zero_add] at h6 g6 i6
          have HT7 := Lib.hid h6
          have HB8 := Lib.hid g6
          have HI7 := Lib.hid i6
          clear h6 g6 i6
          refine hK.out _ _ ?hs5 (fun hHeld => ?_)
          case hs5 => exact HCK.out _ _ ((heap_setCell_other w5 _ p _ (fun e => by have e : p = g := e; have := HGP.out; omega)).trans HM5.out) HI7.out
          clear hK K
          refine wpAnyH_done (by kernel_rfl) ?_ _
          go_wp2_with fail
          go_end0
          rw [HS.out]
          exact ⟨rfl, ⟨b2, q2, HT7.out⟩, HB8.out⟩
        · rw [if_pos (by rfl)]
          go_simp
          rw [Rsq.fill_all (k := 18) (Y := MB) rfl hsz]
          have hbl : Below wd.heap.size wd (wd.alloc (.cells MB 36)) := (Below.refl _ _).alloc (Nat.le_refl _) _
          have HT4 := Lib.hid (HTD.out.later hbl)
          have HB4 := Lib.hid (HBD.out.trans (hbl.mono (Nat.le_trans HTD.out.lo (Nat.le_of_lt HTD.out.lt))))
          have HX4 : Hid ((wd.alloc (.cells MB 36)).heap[wd.heap.size]? = some (.cells MB 36 (0, 0))) := Lib.hid (heap_alloc_new wd _)
          have HM4 : Hid ((wd.alloc (.cells MB 36)).heap[p]? = some (.cells MA 36 (0, 0))) := Lib.hid (below_block HMD.out hbl)
          refine hK.out _ _ ?hs3 (fun hHeld => ?_)
          case hs3 => exact HCK.out _ _ HM4.out HT4.out.blk
          clear hK K hbl
          obtain ⟨x4, hx4⟩ : ∃ x, wd.heap.size = x := ⟨_, rfl⟩
          generalize wd.alloc (.cells MB 36) = w4 at HT4 HB4 HX4 HM4 hHeld ⊢
          rw [hx4] at HX4 ⊢
          clear hx4
          have t11 := HT4.out.cells.c11
          refine wpAnyH_ready (rs := [4]) (by kernel_rfl) (by simp) ?_
          refine AllReadyH.cons (o := _) rfl (fun K hK => ?_) AllReadyH.nil
          rw [if_pos (by rfl)]
          go_simp
          refine hK.out _ _ ?hs3 (fun hHeld => ?_)
          case hs3 => exact HCK.out _ _ HM4.out HT4.out.blk
          clear hK K
          refine wpAnyH_ready (rs := [18]) (by kernel_rfl) (by simp) ?_
          refine AllReadyH.cons (o := _) rfl (fun K hK => ?_) AllReadyH.nil
          try simp only [List.getElem_toArray, List.getElem_cons_zero, List.getElem_cons_succ, Act.put, List.setIfInBounds_toArray, List.set_cons_zero, List.set_cons_succ]
          refine step_append_gr encM (by decide) rfl (.tmp 31) (.tmp 44) 39 rfl B 36 j0 _ 192 Try.underlying39 HJ0.out HY0.out HY1.out HY2.out (by rfl) _ l rfl HT4.out.own _ 1 1 [m1] rfl rfl (one_at HX4.out HMB.out) (by have := HL.out; simp only [List.length_cons, List.length_nil, maxLen]; omega) (by have := HL.out; simp only [List.length_cons, List.length_nil]; omega) (Nat.le_trans HT4.out.lo (Nat.le_of_lt HT4.out.lt)) ?_
          intro v2 w5 hown hbb hkk hgr
          obtain ⟨b2, q2, rfl, _⟩ := hown.row
          have HG5 : Hid (w5.heap[g]? = some (.cells (tkArr s a n cap now (.slice b l.length q)) 60 (0, 0))) := Lib.hid (hkk _ _ _ _ (by decide) HT4.out.blk)
          have HR5 := Lib.hid (row_safe (e := 67) (b := B) HT4.out.row (fun _ x hx => .inr (HT4.out.ty x hx)) hbb hkk (by decide))
          have HY5 := Lib.hid (ty_kept HT4.out.ty hkk (by decide))
          have HM5 : Hid (w5.heap[p]? = some (.cells MA 36 (0, 0))) := Lib.hid (by
            obtain ⟨_, _, _, _, b1⟩ := hgr
            exact (b1 p (Array.getElem?_eq_some_iff.1 HM4.out).1 (fun e => Nat.lt_irrefl _ (HAP.out p e.symm))).trans HM4.out)
          have HO5 := Lib.hid hown
          have HB6 := Lib.hid (HB4.out.trans hbb)
          refine hK.out _ _ ?hs4 (fun hHeld => ?_)
          case hs4 => exact HCK.out _ _ HM5.out HG5.out
          clear hK K hown hbb hkk hgr
          try simp only [Act.put, List.setIfInBounds_toArray, List.set_cons_zero, List.set_cons_succ]
          refine' wpAnyH_take (i := 19) (oi := _) (v := _) rfl (by kernel_rfl) (by kernel_rfl) (by kernel_rfl) (fun _ _ _ h => h) (Or.inl ⟨by rfl, ?hy⟩) (by assumption) ?_
          case hy => (intro w hSw; (try dsimp only at hSw); (try simp only [List.getElem_toArray, List.getElem_cons_zero, List.getElem_cons_succ]); go_simp; try with_reducible rfl)
          try simp only [List.getElem_toArray, List.getElem_cons_zero, List.getElem_cons_succ, Act.put, List.setIfInBounds_toArray, List.set_cons_zero, List.set_cons_succ]
          refine' wpAnyH_take (i := 20) (oi := _) (v := _) rfl (by kernel_rfl) (by kernel_rfl) (by kernel_rfl) (fun _ _ _ h => h) (Or.inl ⟨by rfl, ?hy⟩) (by assumption) ?_
          case hy => (intro w hSw; (try dsimp only at hSw); (try simp only [List.getElem_toArray, List.getElem_cons_zero, List.getElem_cons_succ]); go_simp; try with_reducible rfl)
          try simp only [List.getElem_toArray, List.getElem_cons_zero, List.getElem_cons_succ, Act.put, List.setIfInBounds_toArray, List.set_cons_zero, List.set_cons_succ]
          refine wpAnyH_ready (rs := [21]) (by kernel_rfl) (by simp) ?_
          refine AllReadyH.cons (o := _) rfl (fun K hK => ?_) AllReadyH.nil
          have t5 := cell_at HG5.out (j := 11) (v := .slice b l.length q) rfl
          have f5 := frozen_of_row w5 g 11 _ _ HG5.out
          have l5 : g < w5.heap.size := (Array.getElem?_eq_some_iff.1 HG5.out).1
          rw [if_pos (by rfl)]
          go_simp
          have HT6 := Lib.hid (Tk.told HG5.out HT4.out.len HR5.out HY5.out HO5.out HT4.out.lo)
          have HB7 := Lib.hid (set_below (j := 11) (v := .slice b2 (l ++ [m1]).length q2) HB6.out HT4.out.lo)
          have h6 := HT6.out
          have g6 := HB7.out
          have i6 := h6.blk
          simp only [List.length_append, List.length_cons, List.length_nil, Nat.zero_add] at h6 g6 i6
          have HT7 := Lib.hid h6
          have HB8 := Lib.hid g6
          have HI7 := Lib.hid i6
          clear h6 g6 i6
          refine hK.out _ _ ?hs5 (fun hHeld => ?_)
          case hs5 => exact HCK.out _ _ ((heap_setCell_other w5 _ p _ (fun e => by have e : p = g := e; have := HGP.out; omega)).trans HM5.out) HI7.out
          clear hK K
          refine wpAnyH_done (by kernel_rfl) ?_ _
          go_wp2_with fail
          go_end0
          rw [HS.out]
          exact ⟨rfl, ⟨b2, q2, HT7.out⟩, HB8.out⟩

end Ses
end Go.Proofs.Ytnmmokdkngccjaa

namespace Go.Proofs.Ytnmmokdkngccjaa
open Go.RowKit
namespace Ses
open Num
open Msg (I64)
/-- its line is set anew -/
theorem Tk.inn {w : World} {B g : Nat} {s : Se} {a : Option Addr} {n cap : Nat} {now : Int} {b : Option Addr} {q : Nat} {l : List Msg.Ms} (h : Tk w B g s a n cap now b q l) (c : Rsq.Li) {a' : Option Addr} {n' cap' : Nat} (hn : c.held.length = n') (hr : RowAt Rsq.encI w a' cap' c.held) (hy : Ty 67 w a') :
    Tk ((w.setCell ⟨g, 1, none⟩ (.int .i64 c.next)).setCell ⟨g, 2, none⟩ (.slice a' n' cap')) B g {s with inn := c} a' n' cap' now b q l := by
  have b1 := heap_setCell_same w g 1 _ _ (.int .i64 c.next) h.blk
  have r1 := row_cell (j := 1) hr h.blk (show 12 < 20 by decide) (.int .i64 c.next)
  have y1 := ty_set (j := 1) hy h.blk (by decide) (.int .i64 c.next)
  have o1 := h.own.grown (grown_set1 w g 1 (.int .i64 c.next)) (fun k hk e => h.apart k hk (Option.some.inj e).symm)
  exact ⟨heap_setCell_same _ g 2 _ _ (.slice a' n' cap') b1, hn, row_cell (j := 2) r1 b1 (show 12 < 20 by decide) _, ty_set (j := 2) y1 b1 (by decide) _, o1.grown (grown_set1 _ g 2 _) (fun k hk e => h.apart k hk (Option.some.inj e).symm), h.lo⟩
attribute [local go_sem ↓] pload_msg
attribute [local go_sem] blkOf_ptr offOf_ptr

theorem rcome_is7 (l : Rsq.Li) (x : Rsq.It) (LA XA : Array Value) (a : Option Addr) (cap n : Nat) (hLA : #[.int .i64 l.next, .slice a n cap] = LA) (hXA : x.arr = XA) (hn : l.held.length = n) (hn9 : n ≤ 100000000) (r : Rsq.Li × List Rsq.It × Int) (hr : Rsq.come l x = r) (w : World) (hrow : RowAt Rsq.encI w a cap l.held) (hl : Laid w) :
    Calls Try.prog 36 #[.agg LA, .agg XA] w (Rsq.GotCt w r) := by
  subst hLA hXA hr
  exact Rsq.come_typed l x a cap n hn hn9 w hrow hl
theorem item_is (m : Msg.Ms) (MA : Array Value) (hMA : m.cells = MA) (h1 : 0 ≤ m.seq ∧ m.seq ≤ 4611686018427387904) (XA : Array Value) (hXA : (itemS m).arr = XA) (w : World) : Calls Try.prog 37 #[.agg MA] w fun e w' => e = .returned (.agg XA) ∧ Below w.heap.size w w' := by
  subst hMA hXA
  exact item_any m h1 w
theorem reports_snoc {os : List Rsq.It} {k : Nat} {x : Rsq.It} (h : os[k]? = some x) : reports (os.take (k + 1)) = if x.m.kind = 7 then reports (os.take k) ++ [x.m] else reports (os.take k) := by
  unfold reports
  rw [show os.take (k + 1) = os.take k ++ [x] from by rw [List.take_add_one, h]; rfl, List.filter_append, List.map_append]
  by_cases hk : x.m.kind = 7
  · rw [if_pos hk, List.filter_cons_of_pos (by simpa using hk)]
    rfl
  · rw [if_neg hk, List.filter_cons_of_neg (by simpa using hk)]
    simp
/-- what hear tells -/
def GotH (w : World) (B g : Nat) (s : Se) (now : Int) (b : Option Addr) (q : Nat) (l : List Msg.Ms) (c : Rsq.Li) (ts : List Msg.Ms) (e : Ending) (w' : World) : Prop :=
  ∃ t d a' cap', e = .returned (.slice t ts.length d) ∧ OwnE encM 36 w' w.heap.size (.slice t ts.length d) ts ∧ Tk w' B g {s with inn := c} a' c.held.length cap' now b q l ∧ Below B w w'

set_option maxRecDepth 100000 in
set_option maxHeartbeats 16000000 in
theorem hear_any (B g : Nat) (s : Se) (a : Option Addr) (n cap : Nat) (now : Int) (b : Option Addr) (q : Nat) (l : List Msg.Ms) (m : Msg.Ms) (w : World) (h : Tk w B g s a n cap now b q l) (hr : Rsq.rightL s.inn = true) (h1 : 0 ≤ m.seq ∧ m.seq ≤ 4611686018427387904) (hl : Laid w) (c : Rsq.Li) (os : List Rsq.It) (k : Int) (hc : Rsq.come s.inn (itemS m) = (c, os, k)) :
    Calls Try.prog 27 #[.pointer (some ⟨g, 0, none⟩), .agg m.cells] w (GotH w B g s now b q l c (reports os)) := by
  have hw : B ≤ w.heap.size := Nat.le_trans h.lo (Nat.le_of_lt h.lt)
  have hbl : Below w.heap.size w (w.alloc (.cells m.cells 36)) := (Below.refl _ _).alloc (Nat.le_refl _) _
  have HT0 := Lib.hid (h.later hbl)
  have HM0 : Hid ((w.alloc (.cells m.cells 36)).heap[w.heap.size]? = some (.cells m.cells 36 (0, 0))) := Lib.hid (heap_alloc_new w _)
  have HB0 : Hid (Below w.heap.size w (w.alloc (.cells m.cells 36))) := Lib.hid hbl
  have HGP : Hid (g < w.heap.size) := Lib.hid h.lt
  have HW := Lib.hid hw
  have HL := Lib.hid hl
  have HC := Lib.hid hc
  have HSQ := Lib.hid h1
  have HN6 : Hid (n ≤ 64 ∧ os.length ≤ 65) := Lib.hid (by
    have h6 := ((Rsq.right_iff _).1 hr).2.2.1
    have h7 := Rsq.come_len hr (itemS m)
    rw [hc] at h7
    have h8 := h.len
    dsimp only at h7
    omega)
  obtain ⟨MA, hMA⟩ : ∃ X, m.cells = X := ⟨_, rfl⟩
  obtain ⟨XA, hXA⟩ : ∃ X, (itemS m).arr = X := ⟨_, rfl⟩
  have HXA := Lib.hid hXA
  have HMA := Lib.hid hMA
  have hsz : MA.size = 18 := by rw [← hMA]; rfl
  rw [hMA] at HM0 HB0 HT0 ⊢
  clear hMA hXA hbl h hl hw hc h1 hr
  go_enter Try.func27, Try.ntmps27
  go_upto_region 2 with fail
  obtain ⟨p, hp⟩ : ∃ p, w.heap.size = p := ⟨_, rfl⟩
  have HP := Lib.hid hp
  generalize w.alloc (.cells MA 36) = w0 at HM0 HB0 HT0 ⊢
  rw [hp] at HM0 HGP ⊢
  clear hp
  go_cut [5] (fun o_ wx => ∃ ta tc tb td, o_ = .slice tb os.length td ∧ RowAt Rsq.encI wx tb td os ∧ Tk wx B g {s with inn := c} ta c.held.length tc now b q l ∧ Below B w wx ∧ w.heap.size ≤ wx.heap.size)
  case first =>
    have HCK : Hid (∀ W : World, W.heap[p]? = some (.cells MA 36 (0, 0)) → CellsOk W p 0 18 ∧ cellsAt W p 0 18 = MA) := Lib.hid fun W h => by have := CellsOk.of (block_range h); rwa [hsz] at this
    have HMD : Hid (w0.drew.heap[p]? = some (.cells MA 36 (0, 0))) := Lib.hid HM0.out
    have HBD : Hid (Below w.heap.size w w0.drew) := Lib.hid (HB0.out.trans ⟨rfl, rfl, rfl, Nat.le_refl _, fun _ _ => rfl⟩)
    have HTD := Lib.hid HT0.out.drew
    refine wp_region_held_drew (S := (fun w' => CellsOk w' p 0 18 ∧ cellsAt w' p 0 18 = MA)) (by kernel_rfl) ?hs0 (fun hHeld => ?_)
    case hs0 => exact HCK.out _ HMD.out
    generalize w0.drew = wd at HTD HMD HBD hHeld ⊢
    refine' wpAnyH_take (i := 0) (oi := _) (v := _) rfl (by kernel_rfl) (by kernel_rfl) (by kernel_rfl) (fun _ _ _ h => h) (Or.inl ⟨by rfl, ?hy⟩) (by assumption) ?_
    case hy => (intro w hSw; (try dsimp only at hSw); (try simp only [List.getElem_toArray, List.getElem_cons_zero]); go_simp; try with_reducible rfl)
    try simp only [List.getElem_toArray, List.getElem_cons_zero, Act.put, List.setIfInBounds_toArray, List.set_cons_zero, List.set_cons_succ]
    refine' wpAnyH_take (i := 1) (oi := _) (v := _) rfl (by kernel_rfl) (by kernel_rfl) (by kernel_rfl) (fun _ _ _ h => h) (Or.inl ⟨by rfl, ?hy⟩) (by assumption) ?_
    case hy => (intro w hSw; (try dsimp only at hSw); (try simp only [List.getElem_toArray, List.getElem_cons_zero, List.getElem_cons_succ]); go_simp; try with_reducible rfl)
    try simp only [List.getElem_toArray, List.getElem_cons_zero, List.getElem_cons_succ, Act.put, List.setIfInBounds_toArray, List.set_cons_zero, List.set_cons_succ]
    refine' wpAnyH_take (i := 2) (oi := _) (v := _) rfl (by kernel_rfl) (by kernel_rfl) (by kernel_rfl) (fun _ _ _ h => h) (Or.inl ⟨by rfl, ?hy⟩) (by assumption) ?_
    case hy => (intro w hSw; (try dsimp only at hSw); (try simp only [List.getElem_toArray, List.getElem_cons_zero, List.getElem_cons_succ]); go_simp; try with_reducible rfl)
    try simp only [List.getElem_toArray, List.getElem_cons_zero, List.getElem_cons_succ, Act.put, List.setIfInBounds_toArray, List.set_cons_zero, List.set_cons_succ]
    refine' wpAnyH_take (i := 3) (oi := _) (v := _) rfl (by kernel_rfl) (by kernel_rfl) (by kernel_rfl) (fun _ _ _ h => h) (Or.inl ⟨by rfl, ?hy⟩) (by assumption) ?_
    case hy => (intro w hSw; (try dsimp only at hSw); (try simp only [List.getElem_toArray, List.getElem_cons_zero, List.getElem_cons_succ]); go_simp; try with_reducible rfl)
    try simp only [List.getElem_toArray, List.getElem_cons_zero, List.getElem_cons_succ, Act.put, List.setIfInBounds_toArray, List.set_cons_zero, List.set_cons_succ]
    refine' wpAnyH_take (i := 4) (oi := _) (v := _) rfl (by kernel_rfl) (by kernel_rfl) (by kernel_rfl) (fun _ _ _ h => h) (Or.inl ⟨by rfl, ?hy⟩) (by assumption) ?_
    case hy => (intro w hSw; (try dsimp only at hSw); (try simp only [List.getElem_toArray, List.getElem_cons_zero, List.getElem_cons_succ]); go_simp; try with_reducible rfl)
    try simp only [List.getElem_toArray, List.getElem_cons_zero, List.getElem_cons_succ, Act.put, List.setIfInBounds_toArray, List.set_cons_zero, List.set_cons_succ]
    refine' wpAnyH_take (i := 6) (oi := _) (v := _) rfl (by kernel_rfl) (by kernel_rfl) (by kernel_rfl) (fun _ _ _ h => h) (Or.inl ⟨by rfl, ?hy⟩) (by assumption) ?_
    case hy => (intro w hSw; (try dsimp only at hSw); (try simp only [List.getElem_toArray, List.getElem_cons_zero, List.getElem_cons_succ]); go_simp; try with_reducible rfl)
    try simp only [List.getElem_toArray, List.getElem_cons_zero, List.getElem_cons_succ, Act.put, List.setIfInBounds_toArray, List.set_cons_zero, List.set_cons_succ]
    refine wpAnyH_ready (rs := [5, 7]) (by kernel_rfl) (by simp) ?_
    refine AllReadyH.cons (o := _) rfl (fun K hK => ?_) (AllReadyH.cons (o := _) rfl (fun K hK => ?_) AllReadyH.nil)
    · rw [if_pos (by rfl)]
      have c1 := HTD.out.cells.c1
      have c2 := HTD.out.cells.c2
      go_simp
      clear c1 c2
      refine hK.out _ _ ?hs3 (fun hHeld => ?_)
      case hs3 => exact HCK.out _ HMD.out
      clear hK K
      refine wpAnyH_ready (rs := [7]) (by kernel_rfl) (by simp) ?_
      refine AllReadyH.cons (o := _) rfl (fun K hK => ?_) AllReadyH.nil
      rw [if_pos (by rfl)]
      go_simp
      refine (item_is m MA HMA.out HSQ.out XA HXA.out _).mono ?_
      rintro e w4 ⟨rfl, hb4⟩
      have HT4 := Lib.hid (HTD.out.later hb4)
      have HM4 := Lib.hid (below_block HMD.out hb4)
      have HB4 := Lib.hid (HBD.out.trans (hb4.mono HBD.out.size))
      clear hb4
      go_wp2_with fail
      refine hK.out _ _ ?hs3 (fun hHeld => ?_)
      case hs3 => exact HCK.out _ HM4.out
      clear hK K
      refine wpAnyH_ready (rs := [8]) (by kernel_rfl) (by simp) ?_
      refine AllReadyH.cons (o := _) rfl (fun K hK => ?_) AllReadyH.nil
      try simp only [List.getElem_toArray, List.getElem_cons_zero, List.getElem_cons_succ, Act.put, List.setIfInBounds_toArray, List.set_cons_zero, List.set_cons_succ]
      rw [if_pos (by rfl)]
      go_simp
      refine (rcome_is7 s.inn (itemS m) _ XA a cap n rfl HXA.out HT4.out.len (by have := HN6.out.1; omega) (c, os, k) HC.out _ HT4.out.row (HL.out.below HB4.out)).mono ?_
      rintro e w5 ⟨ta, tc, tb, td, hya, hyb, rfl, hr1, hr2, hb5⟩
      dsimp only at hr1 hr2 ⊢
      have HT5 := Lib.hid (HT4.out.later hb5)
      have HM5 := Lib.hid (below_block HM4.out hb5)
      have HB5 := Lib.hid (HB4.out.trans (hb5.mono HB4.out.size))
      have HR1 := Lib.hid hr1
      have HR2 := Lib.hid hr2
      have HY1 := Lib.hid hya
      clear hya hyb hr1 hr2 hb5
      obtain ⟨n1, hn1⟩ : ∃ x, c.held.length = x := ⟨_, rfl⟩
      have HN1 := Lib.hid hn1
      rw [hn1]
      clear hn1
      go_wp2_with fail
      refine hK.out _ _ ?hs4 (fun hHeld => ?_)
      case hs4 => exact HCK.out _ HM5.out
      clear hK K
      try simp only [List.getElem_toArray, List.getElem_cons_zero, List.getElem_cons_succ, Act.put, List.setIfInBounds_toArray, List.set_cons_zero, List.set_cons_succ]
      refine' wpAnyH_take (i := 9) (oi := _) (v := _) rfl (by kernel_rfl) (by kernel_rfl) (by kernel_rfl) (fun _ _ _ h => h) (Or.inl ⟨by rfl, ?hy⟩) (by assumption) ?_
      case hy => (intro w hSw; (try dsimp only at hSw); (try simp only [List.getElem_toArray, List.getElem_cons_zero, List.getElem_cons_succ]); go_simp; try with_reducible rfl)
      try simp only [List.getElem_toArray, List.getElem_cons_zero, List.getElem_cons_succ, Act.put, List.setIfInBounds_toArray, List.set_cons_zero, List.set_cons_succ]
      refine' wpAnyH_take (i := 10) (oi := _) (v := _) rfl (by kernel_rfl) (by kernel_rfl) (by kernel_rfl) (fun _ _ _ h => h) (Or.inl ⟨by rfl, ?hy⟩) (by assumption) ?_
      case hy => (intro w hSw; (try dsimp only at hSw); (try simp only [List.getElem_toArray, List.getElem_cons_zero, List.getElem_cons_succ]); go_simp; try with_reducible rfl)
      try simp only [List.getElem_toArray, List.getElem_cons_zero, List.getElem_cons_succ, Act.put, List.setIfInBounds_toArray, List.set_cons_zero, List.set_cons_succ]
      refine' wpAnyH_take (i := 11) (oi := _) (v := _) rfl (by kernel_rfl) (by kernel_rfl) (by kernel_rfl) (fun _ _ _ h => h) (Or.inl ⟨by rfl, ?hy⟩) (by assumption) ?_
      case hy => (intro w hSw; (try dsimp only at hSw); (try simp only [List.getElem_toArray, List.getElem_cons_zero, List.getElem_cons_succ]); go_simp; try with_reducible rfl)
      try simp only [List.getElem_toArray, List.getElem_cons_zero, List.getElem_cons_succ, Act.put, List.setIfInBounds_toArray, List.set_cons_zero, List.set_cons_succ]
      refine' wpAnyH_take (i := 12) (oi := _) (v := _) rfl (by kernel_rfl) (by kernel_rfl) (by kernel_rfl) (fun _ _ _ h => h) (Or.inl ⟨by rfl, ?hy⟩) (by assumption) ?_
      case hy => (intro w hSw; (try dsimp only at hSw); (try simp only [List.getElem_toArray, List.getElem_cons_zero, List.getElem_cons_succ]); go_simp; try with_reducible rfl)
      try simp only [List.getElem_toArray, List.getElem_cons_zero, List.getElem_cons_succ, Act.put, List.setIfInBounds_toArray, List.set_cons_zero, List.set_cons_succ]
      refine' wpAnyH_take (i := 13) (oi := _) (v := _) rfl (by kernel_rfl) (by kernel_rfl) (by kernel_rfl) (fun _ _ _ h => h) (Or.inl ⟨by rfl, ?hy⟩) (by assumption) ?_
      case hy => (intro w hSw; (try dsimp only at hSw); (try simp only [List.getElem_toArray, List.getElem_cons_zero, List.getElem_cons_succ]); go_simp; try with_reducible rfl)
      try simp only [List.getElem_toArray, List.getElem_cons_zero, List.getElem_cons_succ, Act.put, List.setIfInBounds_toArray, List.set_cons_zero, List.set_cons_succ]
      refine' wpAnyH_take (i := 14) (oi := _) (v := _) rfl (by kernel_rfl) (by kernel_rfl) (by kernel_rfl) (fun _ _ _ h => h) (Or.inl ⟨by rfl, ?hy⟩) (by assumption) ?_
      case hy => (intro w hSw; (try dsimp only at hSw); (try simp only [List.getElem_toArray, List.getElem_cons_zero, List.getElem_cons_succ]); go_simp; try with_reducible rfl)
      try simp only [List.getElem_toArray, List.getElem_cons_zero, List.getElem_cons_succ, Act.put, List.setIfInBounds_toArray, List.set_cons_zero, List.set_cons_succ]
      refine' wpAnyH_take (i := 15) (oi := _) (v := _) rfl (by kernel_rfl) (by kernel_rfl) (by kernel_rfl) (fun _ _ _ h => h) (Or.inl ⟨by rfl, ?hy⟩) (by assumption) ?_
      case hy => (intro w hSw; (try dsimp only at hSw); (try simp only [List.getElem_toArray, List.getElem_cons_zero, List.getElem_cons_succ]); go_simp; try with_reducible rfl)
      try simp only [List.getElem_toArray, List.getElem_cons_zero, List.getElem_cons_succ, Act.put, List.setIfInBounds_toArray, List.set_cons_zero, List.set_cons_succ]
      refine wpAnyH_ready (rs := [16]) (by kernel_rfl) (by simp) ?_
      refine AllReadyH.cons (o := _) rfl (fun K hK => ?_) AllReadyH.nil
      rw [if_pos (by rfl)]
      have c1 := HT5.out.cells.c1
      have c2 := HT5.out.cells.c2
      have f1 := HT5.out.frz 1
      have f2 := HT5.out.frz 2
      have l5 := HT5.out.lt
      go_simp
      have HT6 := Lib.hid (HT5.out.inn c HN1.out HR1.out HY1.out)
      have HR6 := Lib.hid (row_cell (j := 2) (row_cell (j := 1) HR2.out HT5.out.blk (show 12 < 20 by decide) (.int .i64 c.next)) (heap_setCell_same w5 g 1 _ _ (.int .i64 c.next) HT5.out.blk) (show 12 < 20 by decide) (.slice ta n1 tc))
      have HB6 := Lib.hid (set_below (j := 2) (v := .slice ta n1 tc) (set_below (j := 1) (v := .int .i64 c.next) (HB5.out.mono HW.out) HT5.out.lo) HT5.out.lo)
      have HM6 : Hid (((w5.setCell ⟨g, 1, none⟩ (.int .i64 c.next)).setCell ⟨g, 2, none⟩ (.slice ta n1 tc)).heap[p]? = some (.cells MA 36 (0, 0))) := Lib.hid ((heap_setCell_other _ ⟨g, 2, none⟩ p _ (fun e => by have e : p = g := e; have := HGP.out; omega)).trans ((heap_setCell_other w5 ⟨g, 1, none⟩ p _ (fun e => by have e : p = g := e; have := HGP.out; omega)).trans HM5.out))
      have HZ6 : Hid (w.heap.size ≤ ((w5.setCell ⟨g, 1, none⟩ (.int .i64 c.next)).setCell ⟨g, 2, none⟩ (.slice ta n1 tc)).heap.size) := Lib.hid (by have := HB5.out.size; simpa [World.setCell] using this)
      refine hK.out _ _ ?hs5 (fun hHeld => ?_)
      case hs5 => exact HCK.out _ HM6.out
      clear hK K c1 c2 f1 f2 l5
      generalize (w5.setCell ⟨g, 1, none⟩ (.int .i64 c.next)).setCell ⟨g, 2, none⟩ (.slice ta n1 tc) = w6 at HT6 HR6 HB6 HM6 HZ6 hHeld ⊢
      try simp only [List.getElem_toArray, List.getElem_cons_zero, List.getElem_cons_succ, Act.put, List.setIfInBounds_toArray, List.set_cons_zero, List.set_cons_succ]
      refine' wpAnyH_take (i := 17) (oi := _) (v := _) rfl (by kernel_rfl) (by kernel_rfl) (by kernel_rfl) (fun _ _ _ h => h) (Or.inl ⟨by rfl, ?hy⟩) (by assumption) ?_
      case hy => (intro w hSw; (try dsimp only at hSw); (try simp only [List.getElem_toArray, List.getElem_cons_zero, List.getElem_cons_succ]); go_simp; try with_reducible rfl)
      try simp only [List.getElem_toArray, List.getElem_cons_zero, List.getElem_cons_succ, Act.put, List.setIfInBounds_toArray, List.set_cons_zero, List.set_cons_succ]
      refine wpAnyH_done (by kernel_rfl) ?_ _
      go_wp2_with fail
      go_meet
      exact ⟨ta, tc, tb, td, rfl, HR6.out, by rw [HN1.out]; exact HT6.out, HB6.out, HZ6.out⟩
    · rw [if_pos (by rfl)]
      go_simp
      refine (item_is m MA HMA.out HSQ.out XA HXA.out _).mono ?_
      rintro e w4 ⟨rfl, hb4⟩
      have HT4 := Lib.hid (HTD.out.later hb4)
      have HM4 := Lib.hid (below_block HMD.out hb4)
      have HB4 := Lib.hid (HBD.out.trans (hb4.mono HBD.out.size))
      clear hb4
      go_wp2_with fail
      refine hK.out _ _ ?hs3 (fun hHeld => ?_)
      case hs3 => exact HCK.out _ HM4.out
      clear hK K
      refine wpAnyH_ready (rs := [5]) (by kernel_rfl) (by simp) ?_
      refine AllReadyH.cons (o := _) rfl (fun K hK => ?_) AllReadyH.nil
      rw [if_pos (by rfl)]
      have c1 := HT4.out.cells.c1
      have c2 := HT4.out.cells.c2
      go_simp
      clear c1 c2
      refine hK.out _ _ ?hs3 (fun hHeld => ?_)
      case hs3 => exact HCK.out _ HM4.out
      clear hK K
      refine wpAnyH_ready (rs := [8]) (by kernel_rfl) (by simp) ?_
      refine AllReadyH.cons (o := _) rfl (fun K hK => ?_) AllReadyH.nil
      try simp only [List.getElem_toArray, List.getElem_cons_zero, List.getElem_cons_succ, Act.put, List.setIfInBounds_toArray, List.set_cons_zero, List.set_cons_succ]
      rw [if_pos (by rfl)]
      go_simp
      refine (rcome_is7 s.inn (itemS m) _ XA a cap n rfl HXA.out HT4.out.len (by have := HN6.out.1; omega) (c, os, k) HC.out _ HT4.out.row (HL.out.below HB4.out)).mono ?_
      rintro e w5 ⟨ta, tc, tb, td, hya, hyb, rfl, hr1, hr2, hb5⟩
      dsimp only at hr1 hr2 ⊢
      have HT5 := Lib.hid (HT4.out.later hb5)
      have HM5 := Lib.hid (below_block HM4.out hb5)
      have HB5 := Lib.hid (HB4.out.trans (hb5.mono HB4.out.size))
      have HR1 := Lib.hid hr1
      have HR2 := Lib.hid hr2
      have HY1 := Lib.hid hya
      clear hya hyb hr1 hr2 hb5
      obtain ⟨n1, hn1⟩ : ∃ x, c.held.length = x := ⟨_, rfl⟩
      have HN1 := Lib.hid hn1
      rw [hn1]
      clear hn1
      go_wp2_with fail
      refine hK.out _ _ ?hs4 (fun hHeld => ?_)
      case hs4 => exact HCK.out _ HM5.out
      clear hK K
      try simp only [List.getElem_toArray, List.getElem_cons_zero, List.getElem_cons_succ, Act.put, List.setIfInBounds_toArray, List.set_cons_zero, List.set_cons_succ]
      refine' wpAnyH_take (i := 9) (oi := _) (v := _) rfl (by kernel_rfl) (by kernel_rfl) (by kernel_rfl) (fun _ _ _ h => h) (Or.inl ⟨by rfl, ?hy⟩) (by assumption) ?_
      case hy => (intro w hSw; (try dsimp only at hSw); (try simp only [List.getElem_toArray, List.getElem_cons_zero, List.getElem_cons_succ]); go_simp; try with_reducible rfl)
      try simp only [List.getElem_toArray, List.getElem_cons_zero, List.getElem_cons_succ, Act.put, List.setIfInBounds_toArray, List.set_cons_zero, List.set_cons_succ]
      refine' wpAnyH_take (i := 10) (oi := _) (v := _) rfl (by kernel_rfl) (by kernel_rfl) (by kernel_rfl) (fun _ _ _ h => h) (Or.inl ⟨by rfl, ?hy⟩) (by assumption) ?_
      case hy => (intro w hSw; (try dsimp only at hSw); (try simp only [List.getElem_toArray, List.getElem_cons_zero, List.getElem_cons_succ]); go_simp; try with_reducible rfl)
      try simp only [List.getElem_toArray, List.getElem_cons_zero, List.getElem_cons_succ, Act.put, List.setIfInBounds_toArray, List.set_cons_zero, List.set_cons_succ]
      refine' wpAnyH_take (i := 11) (oi := _) (v := _) rfl (by kernel_rfl) (by kernel_rfl) (by kernel_rfl) (fun _ _ _ h => h) (Or.inl ⟨by rfl, ?hy⟩) (by assumption) ?_
      case hy => (intro w hSw; (try dsimp only at hSw); (try simp only [List.getElem_toArray, List.getElem_cons_zero, List.getElem_cons_succ]); go_simp; try with_reducible rfl)
      try simp only [List.getElem_toArray, List.getElem_cons_zero, List.getElem_cons_succ, Act.put, List.setIfInBounds_toArray, List.set_cons_zero, List.set_cons_succ]
      refine' wpAnyH_take (i := 12) (oi := _) (v := _) rfl (by kernel_rfl) (by kernel_rfl) (by kernel_rfl) (fun _ _ _ h => h) (Or.inl ⟨by rfl, ?hy⟩) (by assumption) ?_
      case hy => (intro w hSw; (try dsimp only at hSw); (try simp only [List.getElem_toArray, List.getElem_cons_zero, List.getElem_cons_succ]); go_simp; try with_reducible rfl)
      try simp only [List.getElem_toArray, List.getElem_cons_zero, List.getElem_cons_succ, Act.put, List.setIfInBounds_toArray, List.set_cons_zero, List.set_cons_succ]
      refine' wpAnyH_take (i := 13) (oi := _) (v := _) rfl (by kernel_rfl) (by kernel_rfl) (by kernel_rfl) (fun _ _ _ h => h) (Or.inl ⟨by rfl, ?hy⟩) (by assumption) ?_
      case hy => (intro w hSw; (try dsimp only at hSw); (try simp only [List.getElem_toArray, List.getElem_cons_zero, List.getElem_cons_succ]); go_simp; try with_reducible rfl)
      try simp only [List.getElem_toArray, List.getElem_cons_zero, List.getElem_cons_succ, Act.put, List.setIfInBounds_toArray, List.set_cons_zero, List.set_cons_succ]
      refine' wpAnyH_take (i := 14) (oi := _) (v := _) rfl (by kernel_rfl) (by kernel_rfl) (by kernel_rfl) (fun _ _ _ h => h) (Or.inl ⟨by rfl, ?hy⟩) (by assumption) ?_
      case hy => (intro w hSw; (try dsimp only at hSw); (try simp only [List.getElem_toArray, List.getElem_cons_zero, List.getElem_cons_succ]); go_simp; try with_reducible rfl)
      try simp only [List.getElem_toArray, List.getElem_cons_zero, List.getElem_cons_succ, Act.put, List.setIfInBounds_toArray, List.set_cons_zero, List.set_cons_succ]
      refine' wpAnyH_take (i := 15) (oi := _) (v := _) rfl (by kernel_rfl) (by kernel_rfl) (by kernel_rfl) (fun _ _ _ h => h) (Or.inl ⟨by rfl, ?hy⟩) (by assumption) ?_
      case hy => (intro w hSw; (try dsimp only at hSw); (try simp only [List.getElem_toArray, List.getElem_cons_zero, List.getElem_cons_succ]); go_simp; try with_reducible rfl)
      try simp only [List.getElem_toArray, List.getElem_cons_zero, List.getElem_cons_succ, Act.put, List.setIfInBounds_toArray, List.set_cons_zero, List.set_cons_succ]
      refine wpAnyH_ready (rs := [16]) (by kernel_rfl) (by simp) ?_
      refine AllReadyH.cons (o := _) rfl (fun K hK => ?_) AllReadyH.nil
      rw [if_pos (by rfl)]
      have c1 := HT5.out.cells.c1
      have c2 := HT5.out.cells.c2
      have f1 := HT5.out.frz 1
      have f2 := HT5.out.frz 2
      have l5 := HT5.out.lt
      go_simp
      have HT6 := Lib.hid (HT5.out.inn c HN1.out HR1.out HY1.out)
      have HR6 := Lib.hid (row_cell (j := 2) (row_cell (j := 1) HR2.out HT5.out.blk (show 12 < 20 by decide) (.int .i64 c.next)) (heap_setCell_same w5 g 1 _ _ (.int .i64 c.next) HT5.out.blk) (show 12 < 20 by decide) (.slice ta n1 tc))
      have HB6 := Lib.hid (set_below (j := 2) (v := .slice ta n1 tc) (set_below (j := 1) (v := .int .i64 c.next) (HB5.out.mono HW.out) HT5.out.lo) HT5.out.lo)
      have HM6 : Hid (((w5.setCell ⟨g, 1, none⟩ (.int .i64 c.next)).setCell ⟨g, 2, none⟩ (.slice ta n1 tc)).heap[p]? = some (.cells MA 36 (0, 0))) := Lib.hid ((heap_setCell_other _ ⟨g, 2, none⟩ p _ (fun e => by have e : p = g := e; have := HGP.out; omega)).trans ((heap_setCell_other w5 ⟨g, 1, none⟩ p _ (fun e => by have e : p = g := e; have := HGP.out; omega)).trans HM5.out))
      have HZ6 : Hid (w.heap.size ≤ ((w5.setCell ⟨g, 1, none⟩ (.int .i64 c.next)).setCell ⟨g, 2, none⟩ (.slice ta n1 tc)).heap.size) := Lib.hid (by have := HB5.out.size; simpa [World.setCell] using this)
      refine hK.out _ _ ?hs5 (fun hHeld => ?_)
      case hs5 => exact HCK.out _ HM6.out
      clear hK K c1 c2 f1 f2 l5
      generalize (w5.setCell ⟨g, 1, none⟩ (.int .i64 c.next)).setCell ⟨g, 2, none⟩ (.slice ta n1 tc) = w6 at HT6 HR6 HB6 HM6 HZ6 hHeld ⊢
      try simp only [List.getElem_toArray, List.getElem_cons_zero, List.getElem_cons_succ, Act.put, List.setIfInBounds_toArray, List.set_cons_zero, List.set_cons_succ]
      refine' wpAnyH_take (i := 17) (oi := _) (v := _) rfl (by kernel_rfl) (by kernel_rfl) (by kernel_rfl) (fun _ _ _ h => h) (Or.inl ⟨by rfl, ?hy⟩) (by assumption) ?_
      case hy => (intro w hSw; (try dsimp only at hSw); (try simp only [List.getElem_toArray, List.getElem_cons_zero, List.getElem_cons_succ]); go_simp; try with_reducible rfl)
      try simp only [List.getElem_toArray, List.getElem_cons_zero, List.getElem_cons_succ, Act.put, List.setIfInBounds_toArray, List.set_cons_zero, List.set_cons_succ]
      refine wpAnyH_done (by kernel_rfl) ?_ _
      go_wp2_with fail
      go_meet
      exact ⟨ta, tc, tb, td, rfl, HR6.out, by rw [HN1.out]; exact HT6.out, HB6.out, HZ6.out⟩
  case rest =>
    obtain ⟨ta, tc, tb, td, rfl, hr, ht, hb, hz⟩ := hcut
    have HT7 := Lib.hid ht
    have HR7 := Lib.hid hr
    have HB7 := Lib.hid hb
    have HZ7 := Lib.hid hz
    clear hr ht hb hz HT0 HM0 HB0
    obtain ⟨N, hN⟩ : ∃ N, os.length = N := ⟨_, rfl⟩
    have HN := Lib.hid hN
    rw [hN]
    clear hN
    obtain ⟨j0, hi0, hz0, hz1, hz2⟩ := info_parts pinfoM
    have HJ0 := Lib.hid hi0
    have HY0 := Lib.hid hz0
    have HY1 := Lib.hid hz1
    have HY2 := Lib.hid hz2
    clear hi0 hz0 hz1 hz2
    go_wp2_with fail
    go_loopw [6, 27] (fun v_ i_ wr => ∃ k : Nat, i_ = .int .i64 k ∧ k ≤ N ∧ OwnE encM 36 wr wc.heap.size v_ (reports (os.take k)) ∧ Below wc.heap.size wc wr) (fun _ i_ _ => N - (intOf i_).toNat)
    case atStart => exact ⟨0, rfl, Nat.zero_le _, OwnE.nil _ _ _ _, Below.refl _ _⟩
    case round =>
      obtain ⟨k, rfl, hkn, hown, hbel⟩ := hrel
      have HO := Lib.hid hown
      have HB := Lib.hid hbel
      obtain ⟨v0, q0, rfl, _⟩ := hown.row
      clear hown hbel
      by_cases hlt : k < N
      · obtain ⟨x, hx⟩ : ∃ x, os[k]? = some x := ⟨os[k]'(by rw [HN.out]; exact hlt), List.getElem?_eq_getElem _⟩
        have HSN := Lib.hid (reports_snoc hx)
        obtain ⟨ib, off, rfl, _⟩ := HR7.out.at (by rw [HN.out]; omega) (by decide)
        have hcap : N ≤ td := by
          rcases HR7.out with ⟨h, _⟩ | ⟨_, _, h, _⟩
          · cases h
          · rwa [HN.out] at h
        have hkb : k < 100 := by
          have := HN6.out.2
          rw [HN.out] at this
          omega
        have HRL : Hid ((reports (os.take k)).length ≤ 65) := Lib.hid (by
          have h1 := HN6.out.2
          have h2 : (reports (os.take k)).length ≤ (os.take k).length := by unfold reports; rw [List.length_map]; exact List.length_filter_le _ _
          rw [List.length_take] at h2
          omega)
        have HEL := Lib.hid (Rsq.item_at (HR7.out.later HB.out) hx)
        obtain ⟨YA, hYA⟩ : ∃ X, x.arr = X := ⟨_, rfl⟩
        obtain ⟨MX, hMX⟩ : ∃ X, x.m.cells = X := ⟨_, rfl⟩
        have HMX := Lib.hid hMX
        have hszx : MX.size = 18 := by rw [← hMX]; rfl
        have hiY : (Try.prog.info? 67).map (·.size) = some YA.size := by rw [← hYA]; kernel_rfl
        have hiX : (Try.prog.info? 36).map (·.size) = some MX.size := by rw [← hMX]; kernel_rfl
        rw [hYA] at HEL
        have HYF : Hid (20 = YA.size ∧ YA.all (·.oneCell') = true ∧ YA[2]? = some (.int .i64 x.m.kind)) := Lib.hid (by rw [← hYA]; exact ⟨rfl, item_one x, rfl⟩)
        have HYM : Hid (∀ (W : World) (y : Nat), W.heap[y]? = some (.cells YA 67 (0, 0)) → W.rangeAt y 2 MX.toList) := Lib.hid fun W y h j v hv => by
          refine (cell_of_row W y (2 + j) _ _ _ h).trans ?_
          rw [← hYA, ← Array.getElem?_toList, Rsq.It.arr_list]
          rw [← hMX] at hv
          show (.int .i64 x.fr :: .int .i64 x.to :: x.m.cells.toList)[2 + j]? = some v
          rw [show 2 + j = j + 1 + 1 from by omega]
          exact hv
        have hys : YA.size = 20 := HYF.out.1.symm
        clear hYA hx hMX
        go_upto_region 7 with (first | (refine wpList_load_arr_g (by rfl) 67 _ rfl ib (off + k * 20) rfl YA _ HEL.out Try.underlying67 rfl hiY ?_) | (refine wpList_store_row rfl 67 _ _ rfl wr.heap.size YA rfl rfl _ _ (heap_alloc_last _ _) hiY HYF.out.1 HYF.out.2.1 ?_; rw [World.setRow_alloc_new]))
        obtain ⟨y, hy⟩ : ∃ y, wr.heap.size = y := ⟨_, rfl⟩
        have hbl : Below wr.heap.size wr (wr.alloc (.cells YA 67)) := (Below.refl _ _).alloc (Nat.le_refl _) _
        have HYB : Hid ((wr.alloc (.cells YA 67)).heap[y]? = some (.cells YA 67 (0, 0))) := Lib.hid (hy ▸ heap_alloc_new _ _)
        have HB5 := Lib.hid (HB.out.alloc HB.out.size (.cells YA 67))
        have HO5 := Lib.hid (HO.out.kept hbl)
        rw [hy]
        generalize wr.alloc (.cells YA 67) = w5 at HYB HB5 HO5 ⊢
        clear hy hbl HEL HB HO
        have y2 : w5.cell? ⟨y, 2, none⟩ = some (.int .i64 x.m.kind) := cell_at HYB.out HYF.out.2.2
        have HMR := Lib.hid (HYM.out w5 y HYB.out)
        obtain ⟨b7, hb7⟩ : ∃ b, (x.m.kind == 7) = b := ⟨_, rfl⟩
        have HB7' := Lib.hid hb7
        cases b7
        · have HR8 : Hid (reports (os.take (k + 1)) = reports (os.take k)) := Lib.hid (by
            have : ¬ x.m.kind = 7 := by simpa using HB7'.out
            rw [HSN.out, if_neg this])
          go_wp2_with fail
          go_roundw
          case rel => exact ⟨k + 1, congrArg (Value.int .i64) (by omega), by omega, by rw [HR8.out]; exact HO5.out, HB5.out⟩
          case measure => simp [intOf]; omega
        · have HR8 : Hid (reports (os.take (k + 1)) = reports (os.take k) ++ [x.m]) := Lib.hid (by
            have : x.m.kind = 7 := by simpa using HB7'.out
            rw [HSN.out, if_pos this])
          go_wp2_with (first | (at_builtin; refine wpList_append_rowk encM (by decide) rfl (.tmp 35) (.tmp 38) _ rfl wc.heap.size 36 j0 _ 192 Try.underlying39 HJ0.out HY0.out HY1.out HY2.out (by rfl) _ _ rfl (HO5.out.kept ((Below.refl _ _).alloc (Nat.le_refl _) _)) _ _ _ [x.m] rfl (by rfl) (one_row encM _ 36 _ _ (by rw [Rsq.fill_all (k := 18)]; rw [← HMX.out]; rfl; rfl; exact hszx)) (by have := HRL.out; simp only [List.length_cons, List.length_nil, maxLen]; omega) (by have := HRL.out; simp only [List.length_cons, List.length_nil]; omega) (Nat.le_trans HB5.out.size (by simp)) ?_; intro v2 w8 hown2 hb2 _; have HO8 := Lib.hid hown2; have HB8 := Lib.hid ((HB5.out.alloc HB5.out.size _).trans hb2); clear hown2 hb2) | (refine wpList_load_arr_g (by rfl) 36 _ rfl y 2 rfl MX _ HMR.out Try.underlying36 rfl hiX ?_))
          go_roundw
          case rel => exact ⟨k + 1, congrArg (Value.int .i64) (by omega), by omega, by rw [HR8.out]; exact HO8.out, HB8.out⟩
          case measure => simp [intOf]; omega
      · obtain rfl : k = N := by omega
        have HALL : Hid (os.take k = os) := Lib.hid (List.take_of_length_le (by rw [HN.out]; exact Nat.le_refl _))
        rw [HALL.out] at HO ⊢
        go_wp2_with fail
        go_ret
        exact ⟨v0, q0, ta, tc, rfl, HO.out.mono HZ7.out, HT7.out.later HB.out, HB7.out.trans (HB.out.mono (Nat.le_trans HW.out HZ7.out))⟩

end Ses
end Go.Proofs.Ytnmmokdkngccjaa

namespace Go.Proofs.Ytnmmokdkngccjaa
open Go.RowKit
namespace Ses
open Num
open Msg (I64)

theorem gap_is (l : Rsq.Li) (a : Option Addr) (cap n : Nat) (hn : l.held.length = n) (hn9 : n ≤ 100000000) (r : Int × Int × Bool) (hr : Rsq.gapL l = r) (w : World) (hrow : RowAt Rsq.encI w a cap l.held) (hl : Laid w) :
    Calls Try.prog 38 #[.agg #[.int .i64 l.next, .slice a n cap]] w fun e w' => e = .returned (.tuple #[.int .i64 r.1, .int .i64 r.2.1, .bool r.2.2]) ∧ Below w.heap.size w w' := by
  subst hr
  exact Rsq.gap_any l a cap n hn hn9 w hrow hl
theorem min_up (f t : Int) : min t (f + 10 - 1) = upTo f t := by
  unfold upTo
  split
  · rw [Int.min_eq_right (by omega)]; omega
  · rw [Int.min_eq_left (by omega)]
theorem say_out (s : Se) (l : List Msg.Ms) (m : Msg.Ms) (now : Int) (h0 : 0 < s.out) (h9 : s.out ≤ 1099511627776) : 0 < (say s l m now).1.out ∧ (say s l m now).1.out ≤ 1099511627776 := by
  unfold say
  split
  · exact ⟨h0, h9⟩
  · exact ⟨by show 0 < s.out + 1; omega, by show s.out + 1 ≤ _; omega⟩

set_option maxRecDepth 100000 in
set_option maxHeartbeats 8000000 in
theorem ask_any (B g : Nat) (s : Se) (a : Option Addr) (n cap : Nat) (now : Int) (b : Option Addr) (q : Nat) (l : List Msg.Ms) (w : World) (h : Tk w B g s a n cap now b q l) (hr : Rsq.rightL s.inn = true) (hst : s.state = 2) (hl : l.length ≤ 1000) (h0 : 0 < s.out) (h9 : s.out ≤ 1099511627776) (hla : Laid w) :
    Calls Try.prog 28 #[.pointer (some ⟨g, 0, none⟩)] w fun e w' => e = .returned (.tuple #[]) ∧ (∃ b' q', Tk w' B g (ask s l now).1 a n cap now b' q' (ask s l now).2) ∧ Below B w w' ∧ Spare w w' g (.slice b l.length q) := by
  have hn6 : n ≤ 64 := by
    have h6 := ((Rsq.right_iff _).1 hr).2.2.1
    have h8 := h.len
    omega
  have ⟨r1, r2, _, r4⟩ := (Rsq.right_iff _).1 hr
  have HT0 := Lib.hid h
  have c1 := h.cells.c1
  have c2 := h.cells.c2
  have l0 := h.lt
  have HBW : Hid (B ≤ w.heap.size) := Lib.hid (Nat.le_trans h.lo (Nat.le_of_lt h.lt))
  have HL := Lib.hid hl
  have HOU := Lib.hid (And.intro h0 h9)
  have HR := Lib.hid hr
  have HST := Lib.hid hst
  have HLA := Lib.hid hla
  clear h hl h0 h9 hr hst hla
  obtain ⟨gr, hgr⟩ : ∃ r, Rsq.gapL s.inn = r := ⟨_, rfl⟩
  have HGR := Lib.hid hgr
  cases hh : s.inn.held with
  | nil =>
    have HS : Hid (ask s l now = (s, l)) := Lib.hid (by unfold ask; rw [hh])
    have hg2 : gr = (0, 0, false) := by rw [← hgr]; exact Rsq.gap_nil hh
    clear hh hgr
    go_enter Try.func28, Try.ntmps28
    go_wp2_with fail
    refine (gap_is s.inn a cap n HT0.out.len (by omega) gr HGR.out _ HT0.out.row HLA.out).mono ?_
    subst hg2
    rintro e w1 ⟨rfl, hb1⟩
    have HB1 := Lib.hid hb1
    clear hb1 c1 c2 l0
    go_wp2_with fail
    refine bodyPost_ret (results_none rfl _ _ _) rfl ?_
    rw [HS.out]
    exact ⟨rfl, ⟨b, q, HT0.out.later HB1.out⟩, HB1.out.mono HBW.out, .of_below HB1.out⟩
  | cons y rr =>
    have hg2 : gr = (s.inn.next, y.fr - 1, true) := by rw [← hgr]; exact Rsq.gap_some HR.out hh
    rw [hh] at r4
    have ⟨m1, m2, m3⟩ := (Rsq.may_iff y).1 (Rsq.rise_cons.1 r4).1
    unfold Rsq.top at m3 r2
    have HH := Lib.hid hh
    clear hh hgr r4
    go_enter Try.func28, Try.ntmps28
    go_wp2_with fail
    refine (gap_is s.inn a cap n HT0.out.len (by omega) gr HGR.out _ HT0.out.row HLA.out).mono ?_
    subst hg2
    rintro e w1 ⟨rfl, hb1⟩
    have HT1 := Lib.hid (HT0.out.later hb1)
    have HB1 := Lib.hid hb1
    clear hb1 c1 c2 l0 HT0
    have c7 := HT1.out.cells.c7
    have l1 := HT1.out.lt
    by_cases q1 : s.inn.next ≤ s.asked
    · have HS : Hid (ask s l now = (s, l)) := Lib.hid (by unfold ask; rw [HH.out]; simp only [HST.out, ne_eq, not_true_eq_false, if_false, if_pos q1])
      go_wp2_with fail
      refine bodyPost_ret (results_none rfl _ _ _) rfl ?_
      rw [HS.out]
      exact ⟨rfl, ⟨b, q, HT1.out⟩, HB1.out.mono HBW.out, .of_below HB1.out⟩
    · obtain ⟨tt, htt⟩ : ∃ t, min (y.fr - 1) (s.inn.next + 10 - 1) = t := ⟨_, rfl⟩
      obtain ⟨r, hr⟩ : ∃ r, say s l {Msg.noMs with kind := 4, a := s.inn.next, b := tt} now = r := ⟨_, rfl⟩
      have HS : Hid (ask s l now = ({r.1 with asked := tt, when := now}, r.2)) := Lib.hid (by
        unfold ask
        rw [HH.out]
        simp only [HST.out, ne_eq, not_true_eq_false, if_false, if_neg q1]
        rw [← min_up, htt, hr])
      have HSR := Lib.hid hr
      clear hr
      go_wp2_with fail
      refine (say_is B g s a n cap now b q l {Msg.noMs with kind := 4, a := s.inn.next, b := tt} _ rfl r HSR.out _ HT1.out HL.out HOU.out.1 HOU.out.2).mono ?_
      rintro e w2 ⟨rfl, ⟨b2, q2, ht⟩, hb2, hs2⟩
      have HT2 := Lib.hid ht
      have HB2 := Lib.hid ((HB1.out.mono HBW.out).trans hb2)
      have HS2 := Lib.hid ((Spare.of_below HB1.out).trans hs2)
      clear ht hb2 hs2 c7 l1 HT1 HB1
      have c10 := HT2.out.cells.c10
      have c7 := HT2.out.cells.c7
      have f7 := HT2.out.frz 7
      have c8 := HT2.out.cells.c8
      have f8 := HT2.out.frz 8
      have l2 := HT2.out.lt
      go_wp2_with fail
      go_end0
      rw [HS.out]
      have h3 := HT2.out.set 7 (.int .i64 tt) {r.1 with asked := tt} rfl rfl
      exact ⟨rfl, ⟨b2, q2, h3.set 8 (.int .i64 now) {r.1 with asked := tt, when := now} rfl rfl⟩, set_below (set_below HB2.out HT2.out.lo) HT2.out.lo, (HS2.out.set (.inl rfl)).set (.inl rfl)⟩

/-- what is due -/
def waitA (s : Se) (l : List Msg.Ms) (now : Int) : Se × List Msg.Ms :=
  if (decide (2 * s.every ≤ now - s.heard) && !s.tested) = true then ({(say s l {Msg.noMs with kind := 3, text := ⟨#[116]⟩} now).1 with tested := true}, (say s l {Msg.noMs with kind := 3, text := ⟨#[116]⟩} now).2) else (s, l)
def waitB (s : Se) (l : List Msg.Ms) (now : Int) : Se × List Msg.Ms := if decide (s.every ≤ now - s.said) = true then say s l {Msg.noMs with kind := 2} now else (s, l)
def waitC (s : Se) (l : List Msg.Ms) (now : Int) : Se × List Msg.Ms := if s.inn.held ≠ [] ∧ s.every ≤ now - s.when then ask {s with asked := 0} l now else (s, l)
/-- what says leave of a session -/
structure Good (s r : Se) : Prop where
  inn : r.inn = s.inn
  state : r.state = s.state
  every : r.every = s.every
  when : r.when = s.when
  out : 0 < r.out ∧ r.out ≤ 1099511627776
  said : 0 ≤ r.said ∧ r.said ≤ 4611686018427387904
theorem say_good {s : Se} (l : List Msg.Ms) (m : Msg.Ms) {now : Int} (h : Good s s) (hn : 0 ≤ now ∧ now ≤ 4611686018427387904) : Good s (say s l m now).1 := by
  have ho := say_out s l m now h.out.1 h.out.2
  unfold say at ho ⊢
  split
  · exact h
  · rename_i hh
    rw [if_neg hh] at ho
    exact ⟨rfl, rfl, rfl, rfl, ho, hn⟩
theorem Good.trans {s r t : Se} (h : Good s r) (k : Good r t) : Good s t := ⟨k.inn.trans h.inn, k.state.trans h.state, k.every.trans h.every, k.when.trans h.when, k.out, k.said⟩
theorem Good.self {s r : Se} (h : Good s r) : Good r r := ⟨rfl, rfl, rfl, rfl, h.out, h.said⟩
theorem waitA_good {s : Se} {l : List Msg.Ms} {now : Int} (h : Good s s) (hn : 0 ≤ now ∧ now ≤ 4611686018427387904) : Good s (waitA s l now).1 ∧ (waitA s l now).2.length ≤ l.length + 1 := by
  unfold waitA
  split
  · have g := say_good l {Msg.noMs with kind := 3, text := ⟨#[116]⟩} h hn
    exact ⟨⟨g.inn, g.state, g.every, g.when, g.out, g.said⟩, say_len _ _ _ _⟩
  · exact ⟨h, Nat.le_succ _⟩
theorem waitB_good {s : Se} {l : List Msg.Ms} {now : Int} (h : Good s s) (hn : 0 ≤ now ∧ now ≤ 4611686018427387904) : Good s (waitB s l now).1 ∧ (waitB s l now).2.length ≤ l.length + 1 := by
  unfold waitB
  split
  · exact ⟨say_good l _ h hn, say_len _ _ _ _⟩
  · exact ⟨h, Nat.le_succ _⟩

set_option maxRecDepth 100000 in
set_option maxHeartbeats 8000000 in
theorem waitA_cut (B g : Nat) (s : Se) (a : Option Addr) (n cap : Nat) (now : Int) (b : Option Addr) (q : Nat) (l : List Msg.Ms) (w : World) (h : Tk w B g s a n cap now b q l) (hr : Rsq.rightL s.inn = true) (hst : s.state = 2) (hl : l.length ≤ 900) (hg : Good s s) (hev : 0 < s.every ∧ s.every ≤ 1048576)
    (hn : 0 ≤ now ∧ now ≤ 4611686018427387904) (hhe : 0 ≤ s.heard ∧ s.heard ≤ 4611686018427387904) (hwh : 0 ≤ s.when ∧ s.when ≤ 4611686018427387904) (hla : Laid w) (x1 x2 x3 : Se × List Msg.Ms) (h1 : waitA s l now = x1) (h2 : waitB x1.1 x1.2 now = x2) (h3 : waitC x2.1 x2.2 now = x3) :
    Calls Try.prog 30 #[.pointer (some ⟨g, 0, none⟩)] w fun e w' => e = .returned (.tuple #[]) ∧ (∃ b' q', Tk w' B g x3.1 a n cap now b' q' x3.2) ∧ Below B w w' := by
  have hg1 := waitA_good (l := l) hg hn
  rw [h1] at hg1
  have hg2 := waitB_good (l := x1.2) hg1.1.self hn
  rw [h2] at hg2
  have hg3 := hg1.1.trans hg2.1
  have HG1 := Lib.hid hg1
  have HG2 := Lib.hid hg2
  have HG3 := Lib.hid hg3
  have HGS := Lib.hid hg
  have HH1 := Lib.hid h1
  have HH2 := Lib.hid h2
  have HH3 := Lib.hid h3
  have HT0 := Lib.hid h
  have HR := Lib.hid hr
  have HST := Lib.hid hst
  have HL := Lib.hid hl
  have HEV := Lib.hid hev
  have HNW := Lib.hid hn
  have HHE := Lib.hid hhe
  have HWH := Lib.hid hwh
  have HLA := Lib.hid hla
  have HBW : Hid (B ≤ w.heap.size) := Lib.hid (Nat.le_trans h.lo (Nat.le_of_lt h.lt))
  clear h hr hst hl hg hev hn hhe hwh hla h1 h2 h3 hg1 hg2 hg3
  go_enter Try.func30, Try.ntmps30
  obtain ⟨bb, hbb⟩ : ∃ x, (decide (2 * s.every ≤ now - s.heard) && !s.tested) = x := ⟨_, rfl⟩
  have HBB := Lib.hid hbb
  clear hbb
  go_upto_region 0 with fail
  go_cut [19] (fun c_ wx => c_ = .bool bb ∧ Tk wx B g s a n cap now b q l ∧ Below w.heap.size w wx)
  case first =>
    obtain ⟨b1, hb1⟩ : ∃ x, decide (2 * s.every ≤ now - s.heard) = x := ⟨_, rfl⟩
    have HB1 := Lib.hid hb1
    clear hb1
    have c5 := HT0.out.cells.c5
    have l0 := HT0.out.lt
    go_wp2_with fail
    refine (ago_any B g s a n cap now b q l s.heard 2 b1 HB1.out _ HT0.out (by omega) HNW.out HHE.out HEV.out).mono ?_
    rintro e w1 ⟨rfl, hb1⟩
    have HT1 := Lib.hid (HT0.out.later hb1)
    have HBL := Lib.hid hb1
    clear hb1 c5 l0
    have c9 := HT1.out.cells.c9
    have l1 := HT1.out.lt
    obtain ⟨te, hte⟩ : ∃ x, s.tested = x := ⟨_, rfl⟩
    have HTE := Lib.hid hte
    cases b1 <;> cases te
    all_goals
      go_wp2_with fail
      go_meet
      exact ⟨congrArg Value.bool (by rw [← HBB.out, HB1.out, HTE.out]; rfl), HT1.out, HBL.out⟩
  case rest =>
    obtain ⟨rfl, ht, hb⟩ := hcut
    have HT1 := Lib.hid ht
    have HBL := Lib.hid hb
    clear ht hb HT0
    have l1 := HT1.out.lt
    go_upto_if 19 with fail
    go_cut [] (fun wx => (∃ b' q', Tk wx B g x1.1 a n cap now b' q' x1.2) ∧ Below B w wx ∧ w.heap.size ≤ wx.heap.size)
    case first =>
      cases bb
      · have HX : Hid (x1 = (s, l)) := Lib.hid (by rw [← HH1.out]; unfold waitA; rw [HBB.out]; rfl)
        go_wp2_with fail
        go_meet
        rw [HX.out]
        exact ⟨⟨b, q, HT1.out⟩, HBL.out.mono HBW.out, HBL.out.size⟩
      · obtain ⟨r, hr⟩ : ∃ r, say s l {Msg.noMs with kind := 3, text := ⟨#[116]⟩} now = r := ⟨_, rfl⟩
        have HSR := Lib.hid hr
        have HX : Hid (x1 = ({r.1 with tested := true}, r.2)) := Lib.hid (by rw [← HH1.out]; unfold waitA; rw [HBB.out, hr]; rfl)
        clear hr
        go_wp2_with fail
        refine (say_is B g s a n cap now b q l {Msg.noMs with kind := 3, text := ⟨#[116]⟩} _ rfl r HSR.out _ HT1.out (by have := HL.out; omega) HGS.out.out.1 HGS.out.out.2).mono ?_
        rintro e w2 ⟨rfl, ⟨b2, q2, ht⟩, hb2, hs2⟩
        have HT2 := Lib.hid ht
        have HB2 := Lib.hid ((HBL.out.mono HBW.out).trans hb2)
        have HS2 := Lib.hid (Nat.le_trans HBL.out.size hs2.1)
        clear ht hb2 hs2 l1 HT1
        have c9 := HT2.out.cells.c9
        have f9 := HT2.out.frz 9
        have l2 := HT2.out.lt
        go_wp2_with fail
        go_meet
        rw [HX.out]
        exact ⟨⟨b2, q2, HT2.out.set 9 (.bool true) {r.1 with tested := true} rfl rfl⟩, set_below HB2.out HT2.out.lo, by have := HS2.out; simpa [World.setCell] using this⟩
    case rest =>
      obtain ⟨⟨b1, q1, ht⟩, hb, hz⟩ := hcut
      rename_i wc1
      have HT2 := Lib.hid ht
      have HB2 := Lib.hid hb
      have HZ2 := Lib.hid hz
      clear ht hb hz HT1 HBL l1
      obtain ⟨b3, hb3⟩ : ∃ x, decide (x1.1.every ≤ now - x1.1.said) = x := ⟨_, rfl⟩
      have HB3 := Lib.hid hb3
      clear hb3
      have c6 := HT2.out.cells.c6
      have l2 := HT2.out.lt
      go_wp2_with fail
      refine (ago_any B g x1.1 a n cap now b1 q1 x1.2 x1.1.said 1 b3 (by rw [Int.one_mul]; exact HB3.out) _ HT2.out (by omega) HNW.out HG1.out.1.said (by rw [HG1.out.1.every]; exact HEV.out)).mono ?_
      rintro e w3 ⟨rfl, hb⟩
      have HT3 := Lib.hid (HT2.out.later hb)
      have HB4 := Lib.hid (HB2.out.trans (hb.mono (Nat.le_trans HBW.out HZ2.out)))
      have HZ3 := Lib.hid (Nat.le_trans HZ2.out hb.size)
      clear hb c6 l2 HT2 HB2 HZ2
      have l3 := HT3.out.lt
      go_upto_if 33 with fail
      go_cut [] (fun wx => (∃ b' q', Tk wx B g x2.1 a n cap now b' q' x2.2) ∧ Below B w wx ∧ w.heap.size ≤ wx.heap.size)
      case first =>
        cases b3
        · have HX : Hid (x2 = x1) := Lib.hid (by rw [← HH2.out]; unfold waitB; rw [HB3.out]; rfl)
          go_wp2_with fail
          go_meet
          rw [HX.out]
          exact ⟨⟨b1, q1, HT3.out⟩, HB4.out, HZ3.out⟩
        · have HX : Hid (say x1.1 x1.2 {Msg.noMs with kind := 2} now = x2) := Lib.hid (by rw [← HH2.out]; unfold waitB; rw [HB3.out]; rfl)
          go_wp2_with fail
          refine (say_is B g x1.1 a n cap now b1 q1 x1.2 {Msg.noMs with kind := 2} _ rfl x2 HX.out _ HT3.out (by have := HL.out; have := HG1.out.2; omega) HG1.out.1.out.1 HG1.out.1.out.2).mono ?_
          rintro e w4 ⟨rfl, ht, hb2, hs2⟩
          have HT4 := Lib.hid ht
          have HB5 := Lib.hid (HB4.out.trans hb2)
          have HZ4 := Lib.hid (Nat.le_trans HZ3.out hs2.1)
          clear ht hb2 hs2 l3 HT3 HB4 HZ3
          go_wp2_with fail
          go_meet
          exact ⟨HT4.out, HB5.out, HZ4.out⟩
      case rest =>
        obtain ⟨⟨b2, q2, ht⟩, hb, hz⟩ := hcut
        have HT5 := Lib.hid ht
        have HB5 := Lib.hid hb
        have HZ5 := Lib.hid hz
        clear ht hb hz HT3 HB4 HZ3 l3
        have HIN : Hid (x2.1.inn = s.inn) := Lib.hid HG3.out.inn
        have hn6 : n ≤ 64 := by
          have h6 := ((Rsq.right_iff _).1 HR.out).2.2.1
          have h8 := HT5.out.len
          rw [HIN.out] at h8
          omega
        obtain ⟨gr, hgr⟩ : ∃ r, Rsq.gapL x2.1.inn = r := ⟨_, rfl⟩
        have HGR := Lib.hid hgr
        have c1 := HT5.out.cells.c1
        have c2 := HT5.out.cells.c2
        have l5 := HT5.out.lt
        cases hh : x2.1.inn.held with
        | nil =>
          have HX : Hid (x3 = x2) := Lib.hid (by rw [← HH3.out]; unfold waitC; rw [hh]; simp)
          have hg2 : gr = (0, 0, false) := by rw [← hgr]; exact Rsq.gap_nil hh
          clear hh hgr
          go_wp2_with fail
          refine (gap_is x2.1.inn a cap n HT5.out.len (by omega) gr HGR.out _ HT5.out.row True.intro).mono ?_
          subst hg2
          rintro e w6 ⟨rfl, hb6⟩
          have HB6 := Lib.hid hb6
          clear hb6 c1 c2 l5
          go_wp2_with fail
          go_end0
          rw [HX.out]
          exact ⟨rfl, ⟨b2, q2, HT5.out.later HB6.out⟩, HB5.out.trans (HB6.out.mono (Nat.le_trans HBW.out HZ5.out))⟩
        | cons y rr =>
          have hg2 : gr = (x2.1.inn.next, y.fr - 1, true) := by rw [← hgr]; exact Rsq.gap_some (by rw [HIN.out]; exact HR.out) hh
          obtain ⟨b6, hb6⟩ : ∃ x, decide (x2.1.every ≤ now - x2.1.when) = x := ⟨_, rfl⟩
          have HB6 := Lib.hid hb6
          have HX : Hid (x3 = if b6 = true then ask {x2.1 with asked := 0} x2.2 now else x2) := Lib.hid (by
            rw [← HH3.out]
            unfold waitC
            cases b6
            · rw [if_neg (fun e => of_decide_eq_false hb6 e.2)]; rfl
            · rw [if_pos ⟨by rw [hh]; simp, of_decide_eq_true hb6⟩]; rfl)
          clear hh hgr hb6
          go_wp2_with fail
          refine (gap_is x2.1.inn a cap n HT5.out.len (by omega) gr HGR.out _ HT5.out.row True.intro).mono ?_
          subst hg2
          rintro e w6 ⟨rfl, hbw⟩
          have HT6 := Lib.hid (HT5.out.later hbw)
          have HB7 := Lib.hid (HB5.out.trans (hbw.mono (Nat.le_trans HBW.out HZ5.out)))
          have HZ6 := Lib.hid (Nat.le_trans HZ5.out hbw.size)
          clear hbw c1 c2 l5 HT5 HB5 HZ5
          have c8 := HT6.out.cells.c8
          have l6 := HT6.out.lt
          go_wp2_with fail
          refine (ago_any B g x2.1 a n cap now b2 q2 x2.2 x2.1.when 1 b6 (by rw [Int.one_mul]; exact HB6.out) _ HT6.out (by omega) HNW.out (by rw [HG3.out.when]; exact HWH.out) (by rw [HG3.out.every]; exact HEV.out)).mono ?_
          rintro e w7 ⟨rfl, hbw⟩
          have HT7 := Lib.hid (HT6.out.later hbw)
          have HB8 := Lib.hid (HB7.out.trans (hbw.mono (Nat.le_trans HBW.out HZ6.out)))
          clear hbw c8 l6 HT6 HB7 HZ6
          cases b6
          · go_wp2_with fail
            go_end0
            rw [HX.out]
            exact ⟨rfl, ⟨b2, q2, HT7.out⟩, HB8.out⟩
          · have c7 := HT7.out.cells.c7
            have f7 := HT7.out.frz 7
            have l7 := HT7.out.lt
            go_upto_region 8 with fail
            have HT8 := Lib.hid (HT7.out.set 7 (.int .i64 0) {x2.1 with asked := 0} rfl rfl)
            have HB9 := Lib.hid (set_below (j := 7) (v := .int .i64 0) HB8.out HT7.out.lo)
            generalize w7.setCell ⟨g, 7, none⟩ (.int .i64 0) = w8 at HT8 HB9 ⊢
            clear c7 f7 l7 HT7 HB8
            go_wp2_with fail
            refine (ask_any B g {x2.1 with asked := 0} a n cap now b2 q2 x2.2 _ HT8.out (by show Rsq.rightL x2.1.inn = true; rw [HIN.out]; exact HR.out) (by show x2.1.state = 2; rw [HG3.out.state]; exact HST.out) (by have := HL.out; have := HG1.out.2; have := HG2.out.2; omega) HG3.out.out.1 HG3.out.out.2 True.intro).mono ?_
            rintro e w9 ⟨rfl, ht, hb2, -⟩
            have HT9 := Lib.hid ht
            have HB10 := Lib.hid (HB9.out.trans hb2)
            clear ht hb2
            go_wp2_with fail
            go_end0
            rw [HX.out]
            exact ⟨rfl, HT9.out, HB10.out⟩

end Ses
end Go.Proofs.Ytnmmokdkngccjaa
