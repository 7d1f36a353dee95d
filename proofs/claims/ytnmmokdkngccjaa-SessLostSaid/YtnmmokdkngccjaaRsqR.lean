/-
  The reference's May of layer 6, and what a line is in memory.
  The reference's Right of layer 6.
  The reference's Items and Same of layer 6.
  The reference's Same of layer 6.
  What the reference's Come of layer 6 tells, and its plain steps (the walk itself: wip/scratch/mk-RsqE.py, begun).
  The reference's Come of layer 6, walked.
-/
import Derived.Test.YtnmmokdkngccjaaOpenFl
import Derived.Test.YtnmmokdkngccjaaGen
import Derived.WalkSpells
import Derived.WalkLawsBesides
import Derived.BigQuiet
import Derived.Deep.CutBlock
import Derived.Deep.DeepCutAuto
import Derived.Deep.Cut
import Derived.Test.YtnmmokdkngccjaaOwn2
import Derived.Deep.QuietTactic

namespace Go.Proofs.Ytnmmokdkngccjaa
open Go.RowKit
namespace Rsq
open Num
open Msg (I64)

theorem fitsIt : fitsT Try.prog flIt 67 = true := by kernel_rfl
/-- an item's cells, as a value has them -/
def It.arr (x : It) : Array Value := #[.int .i64 x.fr, .int .i64 x.to, .int .i64 x.m.kind, .int .i64 x.m.seq, .int .i64 x.m.time, .bool x.m.copy, .int .i64 x.m.a, .int .i64 x.m.b, .bool x.m.gap, .string x.m.text,
  .string x.m.exec.id, .string x.m.exec.ref, .string x.m.exec.order, .string x.m.exec.account, .string x.m.exec.symbol, .int .i64 x.m.exec.kind, .bool x.m.exec.buy, .int .i64 x.m.exec.qty, .int .i64 x.m.exec.price, .int .i64 x.m.exec.time]
theorem It.arr_list (x : It) : x.arr.toList = x.cells := rfl
theorem It.arr_size (x : It) : x.arr.size = 20 := rfl

/-- the prefix of a rising list rises -/
theorem rise_take : ∀ {lo : Int} {h : List It} (k : Nat), riseB lo h = true → riseB lo (h.take k) = true
  | _, _, 0, _ => rfl
  | _, [], _ + 1, _ => rfl
  | lo, y :: r, k + 1, h => by
    have h' := rise_cons.1 h
    rw [List.take_succ_cons, rise_cons]
    exact ⟨h'.1, h'.2.1, rise_take k h'.2.2⟩
/-- one more: it may be, and lies above the one ahead of it -/
theorem rise_snoc {x : It} : ∀ {lo : Int} {h : List It}, riseB lo (h ++ [x]) = true ↔ riseB lo h = true ∧ mayI x = true ∧ lo < x.fr ∧ ∀ y, h.getLast? = some y → y.fr < x.fr
  | lo, [] => by
    rw [List.nil_append, rise_cons]
    simp [riseB]
  | lo, y :: r => by
    rw [List.cons_append, rise_cons, rise_cons, rise_snoc]
    constructor
    · rintro ⟨h1, h2, h3, h4, h5, h6⟩
      refine ⟨⟨h1, h2, h3⟩, h4, by omega, fun z hz => ?_⟩
      cases r with
      | nil =>
        rw [List.getLast?_singleton] at hz
        obtain rfl := Option.some.inj hz
        exact h5
      | cons q r =>
        rw [List.getLast?_cons_cons] at hz
        exact h6 z hz
    · rintro ⟨⟨h1, h2, h3⟩, h4, h5, h6⟩
      refine ⟨h1, h2, h3, h4, ?_, fun z hz => ?_⟩
      · cases r with
        | nil => exact h6 y rfl
        | cons q r =>
          have h7 := h6 _ (List.getLast?_eq_some_getLast (l := y :: q :: r) (by simp))
          have h8 : (y :: q :: r).getLast (by simp) ∈ q :: r := by
            rw [List.getLast_cons (by simp)]
            exact List.getLast_mem _
          have := (rise_mem h3 _ h8).2
          omega
      · cases r with
        | nil => cases hz
        | cons q r => exact h6 z (by rw [List.getLast?_cons_cons]; exact hz)

end Rsq
end Go.Proofs.Ytnmmokdkngccjaa

namespace Go.Proofs.Ytnmmokdkngccjaa
open Go.RowKit
namespace Rsq
open Num
open Msg (I64)

theorem load_item {ρ : Operand → Value} {d : Option Tmp} {ty : TypeId} {x : Operand} {pos : String} {af : Array Edge} {gd : Option (Nat × Bool)} {w : World} (hp : ρ x = .pointer (some ⟨blkOf (ρ x), offOf (ρ x), none⟩)) (h : CellsOk w (blkOf (ρ x)) (offOf (ρ x)) 20) :
    (execOp ρ ⟨d, .load 67 x, ty, pos, af, gd⟩).run Try.prog w = .ok (.value (.agg (cellsAt w (blkOf (ρ x)) (offOf (ρ x)) 20))) w :=
  run_load_cells 20 _ Try.underlying67 rfl (by kernel_rfl) hp h
attribute [local go_sem ↓] load_item
attribute [local go_sem] blkOf_ptr offOf_ptr

/-- an item of a row -/
theorem item_at {w : World} {b off cap : Nat} {h : List It} (hr : RowAt encI w (some ⟨b, off, none⟩) cap h) {k : Nat} {x : It} (hx : h[k]? = some x) :
    w.rangeAt b (off + k * 20) x.arr.toList := fun j v hv => by
  have hn : 0 < h.length := by
    cases h with
    | nil => cases hx
    | cons => simp
  obtain ⟨b', off', e, hc⟩ := hr.at hn (by decide)
  obtain ⟨rfl, rfl⟩ : b = b' ∧ off = off' := by
    have := Option.some.inj e
    injection this with h1 h2
    exact ⟨h1, h2⟩
  rw [It.arr_list] at hv
  have h1 := hc k x hx j v hv
  rw [show off + k * 20 + j = off + (k * encI.size + j) from Nat.add_assoc ..]
  exact h1

end Rsq
end Go.Proofs.Ytnmmokdkngccjaa

namespace Go.Proofs.Ytnmmokdkngccjaa
open Go.RowKit
namespace Rsq
open Num
open Msg (I64)

theorem it_same (x y : It) : sameC x.arr.toList y.arr.toList = decide (x = y) := by
  obtain ⟨f0, f1, m⟩ := x
  obtain ⟨g0, g1, k⟩ := y
  have h := Msg.ms_same m k
  have e : sameC (It.arr ⟨f0, f1, m⟩).toList (It.arr ⟨g0, g1, k⟩).toList = (f0 == g0 && (f1 == g1 && sameC m.cells.toList k.cells.toList)) := rfl
  rw [e, h, Bool.eq_iff_iff, decide_eq_true_eq, It.mk.injEq]
  simp only [Bool.and_eq_true, decide_eq_true_eq, beq_iff_eq]
theorem it_cs {x : It} (h : x.Fits) : Cs flIt x.arr.toList := by
  have e : x.arr.toList = [.int .i64 x.fr] ++ ([.int .i64 x.to] ++ (x.m.cells.toList ++ [])) := rfl
  rw [e]
  exact .cons (.i _ h.fr) (.cons (.i _ h.to) (.cons (Msg.Ms.cs h.m) .nil))
theorem neq_item {xs ys : Array Value} {w : World} (hx : Cs flIt xs.toList) (hy : Cs flIt ys.toList) : (binOp .neq 67 (.agg xs) (.agg ys)).run Try.prog w = .ok (.bool (!(sameC xs.toList ys.toList))) w := run_flat_neq fitsIt (by decide) hx hy w
theorem item_guard (op : BinOp) (x y : Operand) (a b : Array Value) (w : World) : (eqGuard op 67 x y (.agg a) (.agg b)).run Try.prog w = .ok () w := run_eqGuard_agg w op _ _ _ _ _ (by kernel_rfl)
attribute [local go_sem ↓] load_item neq_item
attribute [local go_sem] blkOf_ptr offOf_ptr item_guard

end Rsq
end Go.Proofs.Ytnmmokdkngccjaa

namespace Go.Proofs.Ytnmmokdkngccjaa
open Go.RowKit
namespace Rsq
open Num
open Msg (I64)

end Rsq
end Go.Proofs.Ytnmmokdkngccjaa

namespace Go.Proofs.Ytnmmokdkngccjaa
open Go.RowKit
namespace Rsq
open Num
open Msg (I64)

theorem fill_list : ∀ (l : List Value) (Z : Array Value) (k : Nat), k + l.length ≤ Z.size → ((l.zipIdx k).foldl (fun cs x => cs.setIfInBounds x.snd x.fst) Z).toList = Z.toList.take k ++ l ++ Z.toList.drop (k + l.length)
  | [], Z, k, _ => by simp
  | a :: l, Z, k, h => by
    rw [List.length_cons] at h
    rw [List.zipIdx_cons, List.foldl_cons, fill_list l _ (k + 1) (by rw [Array.size_setIfInBounds]; omega), Array.toList_setIfInBounds, List.length_cons]
    have hk : k < Z.toList.length := by rw [Array.length_toList]; omega
    have e1 : (Z.toList.set k a).take (k + 1) = Z.toList.take k ++ [a] := by
      rw [List.take_add_one, List.take_set, List.set_eq_of_length_le (by rw [List.length_take]; omega), List.getElem?_set_self hk]
      rfl
    have e2 : (Z.toList.set k a).drop (k + 1 + l.length) = Z.toList.drop (k + (l.length + 1)) := by
      rw [List.drop_set_of_lt (by omega), show k + 1 + l.length = k + (l.length + 1) by omega]
    rw [e1, e2]
    simp
theorem fill_all {Z Y : Array Value} {k : Nat} (hz : Z.size = k) (hy : Y.size = k) : Array.foldl (fun cs x => cs.setIfInBounds x.snd x.fst) Z Y.zipIdx 0 k = Y := by
  subst hy
  have e : Array.foldl (fun cs x => cs.setIfInBounds x.snd x.fst) Z Y.zipIdx 0 Y.size = (Y.toList.zipIdx.foldl (fun cs x => cs.setIfInBounds x.snd x.fst) Z) := by
    rw [← Array.toList_zipIdx, Array.foldl_toList, Array.size_zipIdx]
  rw [e]
  apply Array.ext'
  rw [fill_list Y.toList Z 0 (by rw [Array.length_toList]; omega)]
  simp [hz]
/-- what Come tells: the line, what is told, what became of the item -/
def GotC (w : World) (r : Li × List It × Int) (e : Ending) (w' : World) : Prop :=
  ∃ a c b d, e = .returned (.tuple #[.agg #[.int .i64 r.1.next, .slice a r.1.held.length c], .slice b r.2.1.length d, .int .i64 r.2.2]) ∧ RowAt encI w' a c r.1.held ∧ RowAt encI w' b d r.2.1 ∧ Below w.heap.size w w'
theorem line_end {fn : Func} (hfn : fn.results = #[.cell 4 26, .tmp 5, .tmp 6]) (g : Nat) (W : World) (cs old : Array Value) (tmps : Array Value) (hw : W.heap[g]? = some (.cells old 26 (0, 0))) (hcs : cs.size = 2)
    (ht : tmps.getD 4 undef = .pointer (some ⟨g, 0, none⟩)) : (results fn tmps).run Try.prog (W.setRow g cs) = .ok (.tuple #[.agg cs, tmps.getD 5 undef, tmps.getD 6 undef]) (W.setRow g cs) := by
  have hl := run_loadVar_mid (P := Try.prog) (W.setRow g cs) g 0 26 cs.toList _ (block_range (setRow_heap W g old cs _ _ hw)) Try.underlying26 rfl (by rw [Array.length_toList, hcs]; kernel_rfl)
  rw [Array.toArray_toList] at hl
  simp only [results, hfn]
  simp [Sem.run_bind, Result.andThen] at ht ⊢
  simp [ht, asAddr, hl]

theorem GotC.same {w W : World} {l : Li} {n : Nat} {a : Option Addr} {cap : Nat} {k : Int} {r : Li × List It × Int} {LA : Array Value} (hL : #[.int .i64 l.next, .slice a n cap] = LA) (hr : r = (l, [], k)) (hn : l.held.length = n) (h : RowAt encI w a cap l.held) (hb : Below w.heap.size w W) :
    GotC w r (.returned (.tuple #[.agg LA, .slice none 0 0, .int .i64 k])) W := by
  subst hL hr hn
  exact ⟨a, cap, none, 0, rfl, h.later hb, .inl ⟨rfl, rfl, rfl⟩, hb⟩

/-- how the new Held stands, behind the first ones -/
def KP (x : It) (t : List It) (p : Bool) (hs : List It) : Prop := (p = true → (∃ z ∈ t, x.fr < z.fr) ∧ hs = ins x t) ∧ (p = false → (∀ z ∈ t, z.fr < x.fr) ∧ hs = t)
theorem KP.put {x y : It} {t hs : List It} (h : KP x t true hs) : KP x (t ++ [y]) true (hs ++ [y]) := by
  obtain ⟨⟨z, hz, hlt⟩, rfl⟩ := h.1 rfl
  exact ⟨fun _ => ⟨⟨z, by simp [hz], hlt⟩, (ins_snoc ⟨z, hz, hlt⟩).symm⟩, fun e => by cases e⟩
theorem KP.here {x y : It} {t hs : List It} (h : KP x t false hs) (hy : x.fr < y.fr) : KP x (t ++ [y]) true (hs ++ [x] ++ [y]) := by
  obtain ⟨ha, rfl⟩ := h.2 rfl
  exact ⟨fun _ => ⟨⟨y, by simp, hy⟩, (ins_last hy ha).symm⟩, fun e => by cases e⟩
theorem KP.later {x y : It} {t hs : List It} (h : KP x t false hs) (hy : y.fr < x.fr) : KP x (t ++ [y]) false (hs ++ [y]) := by
  obtain ⟨ha, rfl⟩ := h.2 rfl
  refine ⟨fun e => (by cases e), fun _ => ⟨fun z hz => ?_, rfl⟩⟩
  rcases List.mem_append.1 hz with hz | hz
  · exact ha z hz
  · obtain rfl := List.mem_singleton.1 hz
    exact hy
def zeroI : Value := .agg #[.int .i64 0, .int .i64 0, .int .i64 0, .int .i64 0, .int .i64 0, .bool false, .int .i64 0, .int .i64 0, .bool false, .string ⟨#[]⟩, .string ⟨#[]⟩, .string ⟨#[]⟩, .string ⟨#[]⟩, .string ⟨#[]⟩, .string ⟨#[]⟩, .int .i64 0, .bool false, .int .i64 0, .int .i64 0, .int .i64 0]
theorem infoI : (Try.prog.info? 67).map (fun i => (i.zero, i.size, i.bytes)) = some (some zeroI, 20, 208) := by kernel_rfl

end Rsq
end Go.Proofs.Ytnmmokdkngccjaa

namespace Go.Proofs.Ytnmmokdkngccjaa
open Go.RowKit
namespace Rsq
open Num
open Msg (I64)

/-- Come's own blocks: the line as it stands, the item, the result's cell, and all of its own behind them -/
structure Lp (w W : World) (B : Nat) (LB XA ZL : Array Value) : Prop where
  b : Below w.heap.size w W
  l : W.heap[w.heap.size]? = some (.cells LB 26 (0, 0))
  x : W.heap[w.heap.size + 1]? = some (.cells XA 67 (0, 0))
  z : W.heap[w.heap.size + 1 + 1]? = some (.cells ZL 26 (0, 0))
  s : B ≤ W.heap.size
  t : w.heap.size + 3 ≤ B
theorem Lp.later {w W W' : World} {B : Nat} {LB XA ZL : Array Value} (h : Lp w W B LB XA ZL) (hb : Below B W W') : Lp w W' B LB XA ZL := by
  obtain ⟨b, l, x, z, s, t⟩ := h
  exact ⟨b.trans (hb.mono (by omega)), (hb.block _ (by omega)).trans l, (hb.block _ (by omega)).trans x, (hb.block _ (by omega)).trans z, Nat.le_trans s hb.size, t⟩
theorem Lp.set {w W : World} {B : Nat} {LB XA ZL : Array Value} (h : Lp w W B LB XA ZL) (j : Nat) (v : Value) (LC : Array Value) (e : LB.setIfInBounds j v = LC) : Lp w (W.setCell ⟨w.heap.size, j, none⟩ v) B LC XA ZL := by
  obtain ⟨b, l, x, z, s, t⟩ := h
  subst e
  exact ⟨b.setCell (Nat.le_refl _) _, heap_setCell_same W _ j _ _ v l, (heap_setCell_other W _ _ v (fun e => by have : w.heap.size + 1 = w.heap.size := e; omega)).trans x,
    (heap_setCell_other W _ _ v (fun e => by have : w.heap.size + 1 + 1 = w.heap.size := e; omega)).trans z, by simpa [World.setCell] using s, t⟩
theorem Lp.cell {w W : World} {B : Nat} {LB XA ZL : Array Value} (h : Lp w W B LB XA ZL) (j : Nat) : W.cell? ⟨w.heap.size, j, none⟩ = LB[j]? ∧ W.frozen? ⟨w.heap.size, j, none⟩ = false ∧ w.heap.size < W.heap.size :=
  ⟨cell_of_row W _ j _ _ _ h.l, frozen_of_row W _ j _ _ h.l, (Array.getElem?_eq_some_iff.1 h.l).1⟩
theorem li_one (nx : Int) (a : Option Addr) (n cap : Nat) : (#[.int .i64 nx, .slice a n cap] : Array Value).all (·.oneCell') = true := by simp [Value.oneCell']
/-- the end: the line, as it stands, is told -/
theorem Lp.told {w W : World} {B : Nat} {XA ZL : Array Value} {nx : Int} {ha hb : Option Addr} {q c p d : Nat} {hs os : List It} {k : Int} {r : Li × List It × Int} (h : Lp w W B #[.int .i64 nx, .slice ha q c] XA ZL)
    (h1 : OwnE encI 67 W B (.slice ha q c) hs) (h2 : OwnE encI 67 W B (.slice hb p d) os) (hr : r = (⟨nx, hs⟩, os, k)) (cs : Array Value) :
    GotC w r (.returned (.tuple #[.agg #[.int .i64 nx, .slice ha q c], .slice hb p d, .int .i64 k])) (W.setRow (w.heap.size + 1 + 1) cs) := by
  have hlt : w.heap.size + 1 + 1 < B := by have := h.t; omega
  have g1 := (h1.setRow cs hlt).at
  have g2 := (h2.setRow cs hlt).at
  obtain ⟨rfl, g1⟩ := g1
  obtain ⟨rfl, g2⟩ := g2
  subst hr
  exact ⟨ha, c, hb, d, rfl, g1, g2, below_setRow h.b (by omega) _⟩

end Rsq
end Go.Proofs.Ytnmmokdkngccjaa
