/-
  The program's parts, and what a kind names, of layer 5.
-/
import Derived.Test.YtddblaiahgjbaaaDoorMsgPa
import Derived.RegionTactic
import Derived.ChangeAlike
namespace Go.Proofs.YtddblaiahgjbaaaDoor
open Go.RowKit
namespace Msg
open Num

set_option maxRecDepth 100000 in
set_option maxHeartbeats 4000000 in
theorem parts_any (m : Ms) (hm : m.Fits) (w : World) (hl : Laid w) : Calls Tryd.prog 22 #[.agg m.cells] w fun e w' => e = .returned (.bool (partsB m)) ∧ Below w.heap.size w w' := by
  have HBX0 := Lib.hid (BoxM.made w m 25)
  have HB0 : Hid (Below w.heap.size w (w.alloc (.cells m.cells 25))) := Lib.hid ((Below.refl _ _).alloc (Nat.le_refl _) _)
  have HF := Lib.hid hm
  have HL := Lib.hid (hl.below HB0.out)
  have hk := hm.kind
  unfold I64 at hk
  have HP : Hid (partsB m = if m.kind = 1 then smallB m.a else if m.kind = 2 then textB m.text else if m.kind = 3 then decide (m.text ≠ emp) && textB m.text else if m.kind = 4 then fromB m.a && smallB m.b
    else if m.kind = 5 then fromB m.a else if m.kind = 7 then execB m.exec else true) := Lib.hid rfl
  clear hm hl
  have HC1 := Lib.hid (fun w => small_any m.a w)
  have HC2 := Lib.hid (fun w => text_any m.text w HF.out.text)
  have HC3 := Lib.hid (fun w => small_any m.b w)
  have HC4 := Lib.hid (fun w => one_any m.a w)
  have HC5 := Lib.hid (fun w hl => exec_any m.exec HF.out.exec w hl)
  clear HF
  generalize partsB m = o at HP ⊢
  generalize smallB m.a = sa at HP HC1
  generalize textB m.text = st at HP HC2
  generalize smallB m.b = sb at HP HC3
  generalize fromB m.a = oa at HP HC4
  generalize execB m.exec = ex at HP HC5
  go_enter Tryd.func22, Tryd.ntmps22
  go_upto_region 1 with fail
  generalize w.alloc (.cells m.cells 25) = w0 at HBX0 HB0 HL ⊢
  have HRX := Lib.hid HBX0.out.rangeX
  have c0 := HBX0.out.c0
  have c4 := HBX0.out.c4
  have c5 := HBX0.out.c5
  have c7 := HBX0.out.c7
  clear HBX0
  by_cases k1 : m.kind = 1
  · have HE : Hid (o = sa) := Lib.hid (by rw [HP.out, if_pos k1])
    clear HP
    go_wp2_with fail
    refine (HC1.out _).mono ?_
    rintro e w' ⟨rfl, rfl⟩
    go_wp2_with fail
    go_ret
    exact ⟨ret_b HE.out.symm, HB0.out⟩
  by_cases k2 : m.kind = 2
  · have HE : Hid (o = st) := Lib.hid (by rw [HP.out, if_neg k1, if_pos k2])
    clear HP
    go_wp2_with fail
    refine (HC2.out _).mono ?_
    rintro e w' ⟨rfl, rfl⟩
    go_wp2_with fail
    go_ret
    exact ⟨ret_b HE.out.symm, HB0.out⟩
  by_cases k3 : m.kind = 3
  · have HE : Hid (o = (decide (m.text ≠ emp) && st)) := Lib.hid (by rw [HP.out, if_neg k1, if_neg k2, if_pos k3])
    clear HP
    have hes := empty_is m.text
    by_cases e0 : m.text = emp
    · rw [decide_eq_true e0] at hes
      have HE2 : Hid (o = false) := Lib.hid (by rw [HE.out, decide_eq_false (fun h => h e0)]; rfl)
      clear HE e0
      go_wp2_with fail
      go_ret
      exact ⟨ret_b HE2.out.symm, HB0.out⟩
    · rw [decide_eq_false e0] at hes
      have HE2 : Hid (o = st) := Lib.hid (by rw [HE.out, decide_eq_true e0]; rfl)
      clear HE e0
      go_wp2_with fail
      refine (HC2.out _).mono ?_
      rintro e w' ⟨rfl, rfl⟩
      go_wp2_with fail
      go_ret
      exact ⟨ret_b HE2.out.symm, HB0.out⟩
  by_cases k4 : m.kind = 4
  · have HE : Hid (o = (oa && sb)) := Lib.hid (by rw [HP.out, if_neg k1, if_neg k2, if_neg k3, if_pos k4])
    clear HP
    go_wp2_with fail
    refine (HC4.out _).mono ?_
    rintro e w' ⟨rfl, rfl⟩
    cases oa
    · go_wp2_with fail
      go_ret
      exact ⟨ret_b (by rw [HE.out]; rfl), HB0.out⟩
    · go_wp2_with fail
      refine (HC3.out _).mono ?_
      rintro e w' ⟨rfl, rfl⟩
      go_wp2_with fail
      go_ret
      exact ⟨ret_b (by rw [HE.out]; rfl), HB0.out⟩
  by_cases k5 : m.kind = 5
  · have HE : Hid (o = oa) := Lib.hid (by rw [HP.out, if_neg k1, if_neg k2, if_neg k3, if_neg k4, if_pos k5])
    clear HP
    go_wp2_with fail
    refine (HC4.out _).mono ?_
    rintro e w' ⟨rfl, rfl⟩
    go_wp2_with fail
    go_ret
    exact ⟨ret_b HE.out.symm, HB0.out⟩
  by_cases k7 : m.kind = 7
  · have HE : Hid (o = ex) := Lib.hid (by rw [HP.out, if_neg k1, if_neg k2, if_neg k3, if_neg k4, if_neg k5, if_pos k7])
    clear HP
    go_wp2_with (refine wpList_load_mid_g (by rfl) 23 _ rfl w.heap.size 8 rfl _ _ HRX.out Tryd.underlying23 rfl (by kernel_rfl) ?_)
    refine (HC5.out _ HL.out).mono ?_
    rintro e w' ⟨rfl, hb⟩
    have HB1 := Lib.hid (HB0.out.trans (hb.mono HB0.out.size))
    clear hb
    go_wp2_with fail
    go_ret
    exact ⟨ret_b HE.out.symm, HB1.out⟩
  · have HE : Hid (o = true) := Lib.hid (by rw [HP.out, if_neg k1, if_neg k2, if_neg k3, if_neg k4, if_neg k5, if_neg k7])
    clear HP
    go_wp2_with fail
    go_ret
    exact ⟨ret_b HE.out.symm, HB0.out⟩

/-! ### a message that is made part by part, in a block of its own, ahead of the result's -/
structure At (w wi : World) (r g : Nat) (M : Ms) : Prop where
  B : Below w.heap.size w wi
  lr : w.heap.size ≤ r
  lg : r < g
  R : wi.heap[r]? = some (.cells noMs.cells 25 (0, 0))
  M : wi.heap[g]? = some (.cells M.cells 25 (0, 0))
theorem At.later {w wi w' : World} {r g : Nat} {M : Ms} (h : At w wi r g M) (hb : Below wi.heap.size wi w') : At w w' r g M :=
  ⟨h.B.trans (hb.mono h.B.size), h.lr, h.lg, below_block h.R hb, below_block h.M hb⟩
theorem At.put {w wi : World} {r g : Nat} {M : Ms} (h : At w wi r g M) (j : Nat) (v : Value) (M' : Ms) (e : M.cells.setIfInBounds j v = M'.cells) : At w (wi.setCell ⟨g, j, none⟩ v) r g M' :=
  ⟨h.B.setCell (Nat.le_trans h.lr (Nat.le_of_lt h.lg)) _, h.lr, h.lg, (heap_setCell_other wi _ _ v (fun e => by have : r = g := e; have := h.lg; omega)).trans h.R, e ▸ heap_setCell_same wi _ j _ _ v h.M⟩
theorem At.cell {w wi : World} {r g : Nat} {M : Ms} (h : At w wi r g M) (j : Nat) : wi.cell? ⟨g, j, none⟩ = M.cells[j]? ∧ wi.frozen? ⟨g, j, none⟩ = false ∧ g < wi.heap.size :=
  ⟨cell_of_row wi _ j _ _ _ h.M, frozen_of_row wi _ j _ _ h.M, (Array.getElem?_eq_some_iff.1 h.M).1⟩
theorem At.range {w wi : World} {r g : Nat} {M : Ms} (h : At w wi r g M) : wi.rangeAt g 0 M.cells.toList := block_range h.M
theorem At.there {w wi : World} {r g : Nat} {M : Ms} (h : At w wi r g M) : wi.there g 8 10 := fun j hj =>
  ⟨by rw [(h.cell (8 + j)).1, Array.getElem?_eq_getElem (by show 8 + j < 18; omega)]; rfl, (h.cell (8 + j)).2.1⟩
theorem At.putExec {w wi : World} {r g : Nat} {M : Ms} (h : At w wi r g M) (x : Ex) : At w (wi.setCells g 8 x.cells.toList) r g {M with exec := x} := by
  obtain ⟨k, s, t, c, a, b, gp, tx, y⟩ := M
  have h0 := h.put 8 (.string x.id) ⟨k, s, t, c, a, b, gp, tx, ⟨x.id, y.ref, y.order, y.account, y.symbol, y.kind, y.buy, y.qty, y.price, y.time⟩⟩ rfl
  have h1 := h0.put 9 (.string x.ref) ⟨k, s, t, c, a, b, gp, tx, ⟨x.id, x.ref, y.order, y.account, y.symbol, y.kind, y.buy, y.qty, y.price, y.time⟩⟩ rfl
  have h2 := h1.put 10 (.string x.order) ⟨k, s, t, c, a, b, gp, tx, ⟨x.id, x.ref, x.order, y.account, y.symbol, y.kind, y.buy, y.qty, y.price, y.time⟩⟩ rfl
  have h3 := h2.put 11 (.string x.account) ⟨k, s, t, c, a, b, gp, tx, ⟨x.id, x.ref, x.order, x.account, y.symbol, y.kind, y.buy, y.qty, y.price, y.time⟩⟩ rfl
  have h4 := h3.put 12 (.string x.symbol) ⟨k, s, t, c, a, b, gp, tx, ⟨x.id, x.ref, x.order, x.account, x.symbol, y.kind, y.buy, y.qty, y.price, y.time⟩⟩ rfl
  have h5 := h4.put 13 (.int .i64 x.kind) ⟨k, s, t, c, a, b, gp, tx, ⟨x.id, x.ref, x.order, x.account, x.symbol, x.kind, y.buy, y.qty, y.price, y.time⟩⟩ rfl
  have h6 := h5.put 14 (.bool x.buy) ⟨k, s, t, c, a, b, gp, tx, ⟨x.id, x.ref, x.order, x.account, x.symbol, x.kind, x.buy, y.qty, y.price, y.time⟩⟩ rfl
  have h7 := h6.put 15 (.int .i64 x.qty) ⟨k, s, t, c, a, b, gp, tx, ⟨x.id, x.ref, x.order, x.account, x.symbol, x.kind, x.buy, x.qty, y.price, y.time⟩⟩ rfl
  have h8 := h7.put 16 (.int .i64 x.price) ⟨k, s, t, c, a, b, gp, tx, ⟨x.id, x.ref, x.order, x.account, x.symbol, x.kind, x.buy, x.qty, x.price, y.time⟩⟩ rfl
  exact h8.put 17 (.int .i64 x.time) ⟨k, s, t, c, a, b, gp, tx, x⟩ rfl

theorem results_row_one {fn : Func} {p : Tmp} {ty : TypeId} (h : fn.results = #[.cell p ty]) (tmps : Array Value) (P : Program) (w : World) (g : Nat) (t : TypeId) (cs : Array Value) (fr : Nat × Nat) (d : TypeDesc)
    (hp : tmps.getD p undef = .pointer (some ⟨g, 0, none⟩)) (hg : w.heap[g]? = some (.cells cs t fr))
    (hu : P.underlying ty = some d) (hd : d.isRow = true) (hi : (P.info? ty).map (·.size) = some cs.size) :
    (results fn tmps).run P w = .ok (.agg cs) w := by
  have hl := run_loadVar_mid (P := P) w g 0 ty cs.toList d (block_range hg) hu hd (by simpa using hi)
  rw [Array.toArray_toList] at hl
  rw [results_cell_one h, hp]
  simp [asAddr, Result.andThen, hl]
theorem one_end {fn : Func} (hfn : fn.results = #[.cell 2 25]) (g : Nat) (W : World) (cs old : Array Value) (tmps : Array Value) (hw : W.heap[g]? = some (.cells old 25 (0, 0))) (hcs : cs.size = 18)
    (ht2 : tmps.getD 2 undef = .pointer (some ⟨g, 0, none⟩)) : (results fn tmps).run Tryd.prog (W.setRow g cs) = .ok (.agg cs) (W.setRow g cs) :=
  results_row_one hfn tmps _ _ g 25 cs (0, 0) _ ht2 (setRow_heap W _ _ cs _ _ hw) Tryd.underlying25 rfl (by rw [hcs]; kernel_rfl)

/-- what stands ahead in each message -/
def headM (m : Ms) : Ms := {noMs with kind := m.kind, seq := m.seq, time := m.time, copy := m.copy}

set_option maxRecDepth 100000 in
set_option maxHeartbeats 4000000 in
theorem named_any (m : Ms) (hm : m.Fits) (w : World) : Calls Tryd.prog 21 #[.agg m.cells] w fun e w' => e = .returned (.agg (named m).cells) ∧ Below w.heap.size w w' := by
  have hk := hm.kind
  unfold I64 at hk
  have HBX0 : Hid (BoxM ((w.alloc (.cells m.cells 25)).alloc (.cells noMs.cells 25)) w.heap.size m) := Lib.hid ((BoxM.made w m 25).later ((Below.refl _ _).alloc (Nat.le_refl _) _))
  have HB0 : Hid (Below w.heap.size w ((w.alloc (.cells m.cells 25)).alloc (.cells noMs.cells 25))) := Lib.hid (alloc_below2 _ _)
  have HR0 : Hid (((w.alloc (.cells m.cells 25)).alloc (.cells noMs.cells 25)).heap[w.heap.size + 1]? = some (.cells noMs.cells 25 (0, 0))) := Lib.hid (by
    have := heap_alloc_new (w.alloc (.cells m.cells 25)) (.cells noMs.cells 25)
    rwa [show (w.alloc (.cells m.cells 25)).heap.size = w.heap.size + 1 from by simp] at this)
  have HS0 : Hid (((w.alloc (.cells m.cells 25)).alloc (.cells noMs.cells 25)).heap.size = w.heap.size + 2) := Lib.hid (by simp)
  clear hm
  go_enter Tryd.func21, Tryd.ntmps21
  go_upto_region 1 with fail
  change Code.wp _ _ _ _ ((w.alloc (.cells m.cells 25)).alloc (.cells noMs.cells 25))
  generalize (w.alloc (.cells m.cells 25)).alloc (.cells noMs.cells 25) = w0 at HBX0 HB0 HR0 HS0 ⊢
  have c0 := HBX0.out.c0
  have c1 := HBX0.out.c1
  have c2 := HBX0.out.c2
  have c3 := HBX0.out.c3
  go_upto_region 2 with (refine wpList_store_row rfl 25 _ _ rfl w0.heap.size _ rfl rfl _ _ (heap_alloc_last _ _) (by kernel_rfl) (by rfl) (ms_one (headM m)) ?_; rw [World.setRow_alloc_new])
  clear c0 c1 c2 c3
  change Code.wp _ _ _ _ (w0.alloc (.cells (headM m).cells 25))
  have S0 : Hid (At w (w0.alloc (.cells (headM m).cells 25)) (w.heap.size + 1) w0.heap.size (headM m)) := Lib.hid
    ⟨HB0.out.alloc HB0.out.size _, Nat.le_succ _, by have := HS0.out; omega, alloc_block HR0.out, heap_alloc_new _ _⟩
  have HBX : Hid (BoxM (w0.alloc (.cells (headM m).cells 25)) w.heap.size m) := Lib.hid (HBX0.out.later ((Below.refl _ _).alloc (Nat.le_refl _) _))
  generalize w0.alloc (.cells (headM m).cells 25) = u0 at S0 HBX ⊢
  clear HB0 HR0 HS0 HBX0
  have HNE : Hid (named m = if m.kind = 1 then {headM m with a := m.a} else if m.kind = 2 ∨ m.kind = 3 then {headM m with text := m.text} else if m.kind = 4 then {headM m with a := m.a, b := m.b}
    else if m.kind = 5 then {headM m with a := m.a, gap := m.gap} else if m.kind = 7 then {headM m with exec := m.exec} else headM m) := Lib.hid rfl
  have c0 := HBX.out.c0
  by_cases k1 : m.kind = 1
  · have HN : Hid (named m = {headM m with a := m.a}) := Lib.hid (by rw [HNE.out, if_pos k1])
    clear HNE
    have c4 := HBX.out.c4
    have ⟨y0, f0, s0⟩ := S0.out.cell 4
    have x0 : u0.cell? ⟨w0.heap.size, 4, none⟩ = some (.int .i64 0) := y0
    clear y0
    have S1 := Lib.hid (S0.out.put 4 (.int .i64 m.a) {headM m with a := m.a} rfl)
    go_upto_region 14 with fail
    generalize (u0.setCell ⟨w0.heap.size, 4, none⟩ (.int .i64 m.a)) = u9 at S1 ⊢
    go_wp2_with (first | (refine wpList_load_mid_g (by rfl) 25 _ rfl w0.heap.size 0 rfl _ _ S1.out.range Tryd.underlying25 rfl (by kernel_rfl) ?_) | (refine wpList_store_row rfl 25 _ _ rfl (w.heap.size + 1) _ rfl rfl _ _ S1.out.R (by kernel_rfl) (by rfl) (ms_one _) ?_))
    refine bodyPost_ret (one_end rfl (w.heap.size + 1) _ _ _ _ S1.out.R rfl rfl) rfl ?_
    rw [HN.out]
    exact ⟨rfl, below_setRow S1.out.B S1.out.lr _⟩
  by_cases k2 : m.kind = 2
  · have HN : Hid (named m = {headM m with text := m.text}) := Lib.hid (by rw [HNE.out, if_neg k1, if_pos (.inl k2)])
    clear HNE
    have c7 := HBX.out.c7
    have ⟨y0, f0, s0⟩ := S0.out.cell 7
    have x0 : u0.cell? ⟨w0.heap.size, 7, none⟩ = some (.string ⟨#[]⟩) := y0
    clear y0
    have S1 := Lib.hid (S0.out.put 7 (.string m.text) {headM m with text := m.text} rfl)
    go_upto_region 14 with fail
    generalize (u0.setCell ⟨w0.heap.size, 7, none⟩ (.string m.text)) = u9 at S1 ⊢
    go_wp2_with (first | (refine wpList_load_mid_g (by rfl) 25 _ rfl w0.heap.size 0 rfl _ _ S1.out.range Tryd.underlying25 rfl (by kernel_rfl) ?_) | (refine wpList_store_row rfl 25 _ _ rfl (w.heap.size + 1) _ rfl rfl _ _ S1.out.R (by kernel_rfl) (by rfl) (ms_one _) ?_))
    refine bodyPost_ret (one_end rfl (w.heap.size + 1) _ _ _ _ S1.out.R rfl rfl) rfl ?_
    rw [HN.out]
    exact ⟨rfl, below_setRow S1.out.B S1.out.lr _⟩
  by_cases k3 : m.kind = 3
  · have HN : Hid (named m = {headM m with text := m.text}) := Lib.hid (by rw [HNE.out, if_neg k1, if_pos (.inr k3)])
    clear HNE
    have c7 := HBX.out.c7
    have ⟨y0, f0, s0⟩ := S0.out.cell 7
    have x0 : u0.cell? ⟨w0.heap.size, 7, none⟩ = some (.string ⟨#[]⟩) := y0
    clear y0
    have S1 := Lib.hid (S0.out.put 7 (.string m.text) {headM m with text := m.text} rfl)
    go_upto_region 14 with fail
    generalize (u0.setCell ⟨w0.heap.size, 7, none⟩ (.string m.text)) = u9 at S1 ⊢
    go_wp2_with (first | (refine wpList_load_mid_g (by rfl) 25 _ rfl w0.heap.size 0 rfl _ _ S1.out.range Tryd.underlying25 rfl (by kernel_rfl) ?_) | (refine wpList_store_row rfl 25 _ _ rfl (w.heap.size + 1) _ rfl rfl _ _ S1.out.R (by kernel_rfl) (by rfl) (ms_one _) ?_))
    refine bodyPost_ret (one_end rfl (w.heap.size + 1) _ _ _ _ S1.out.R rfl rfl) rfl ?_
    rw [HN.out]
    exact ⟨rfl, below_setRow S1.out.B S1.out.lr _⟩
  by_cases k4 : m.kind = 4
  · have HN : Hid (named m = {headM m with a := m.a, b := m.b}) := Lib.hid (by rw [HNE.out, if_neg k1, if_neg (by omega : ¬ (m.kind = 2 ∨ m.kind = 3)), if_pos k4])
    clear HNE
    have c4 := HBX.out.c4
    have c5 := HBX.out.c5
    have ⟨y0, f0, s0⟩ := S0.out.cell 4
    have x0 : u0.cell? ⟨w0.heap.size, 4, none⟩ = some (.int .i64 0) := y0
    clear y0
    have S1 := Lib.hid (S0.out.put 4 (.int .i64 m.a) {headM m with a := m.a} rfl)
    have ⟨y1, f1, s1⟩ := S1.out.cell 5
    have x1 : (u0.setCell ⟨w0.heap.size, 4, none⟩ (.int .i64 m.a)).cell? ⟨w0.heap.size, 5, none⟩ = some (.int .i64 0) := y1
    clear y1
    have S2 := Lib.hid (S1.out.put 5 (.int .i64 m.b) {headM m with a := m.a, b := m.b} rfl)
    go_upto_region 9 with fail
    go_region
    go_upto_region 14 with fail
    generalize ((u0.setCell ⟨w0.heap.size, 4, none⟩ (.int .i64 m.a)).setCell ⟨w0.heap.size, 5, none⟩ (.int .i64 m.b)) = u9 at S2 ⊢
    go_wp2_with (first | (refine wpList_load_mid_g (by rfl) 25 _ rfl w0.heap.size 0 rfl _ _ S2.out.range Tryd.underlying25 rfl (by kernel_rfl) ?_) | (refine wpList_store_row rfl 25 _ _ rfl (w.heap.size + 1) _ rfl rfl _ _ S2.out.R (by kernel_rfl) (by rfl) (ms_one _) ?_))
    refine bodyPost_ret (one_end rfl (w.heap.size + 1) _ _ _ _ S2.out.R rfl rfl) rfl ?_
    rw [HN.out]
    exact ⟨rfl, below_setRow S2.out.B.drew S2.out.lr _⟩
  by_cases k5 : m.kind = 5
  · have HN : Hid (named m = {headM m with a := m.a, gap := m.gap}) := Lib.hid (by rw [HNE.out, if_neg k1, if_neg (by omega : ¬ (m.kind = 2 ∨ m.kind = 3)), if_neg k4, if_pos k5])
    clear HNE
    have c4 := HBX.out.c4
    have c6 := HBX.out.c6
    have ⟨y0, f0, s0⟩ := S0.out.cell 4
    have x0 : u0.cell? ⟨w0.heap.size, 4, none⟩ = some (.int .i64 0) := y0
    clear y0
    have S1 := Lib.hid (S0.out.put 4 (.int .i64 m.a) {headM m with a := m.a} rfl)
    have ⟨y1, f1, s1⟩ := S1.out.cell 6
    have x1 : (u0.setCell ⟨w0.heap.size, 4, none⟩ (.int .i64 m.a)).cell? ⟨w0.heap.size, 6, none⟩ = some (.bool false) := y1
    clear y1
    have S2 := Lib.hid (S1.out.put 6 (.bool m.gap) {headM m with a := m.a, gap := m.gap} rfl)
    go_upto_region 11 with fail
    go_region
    go_upto_region 14 with fail
    generalize ((u0.setCell ⟨w0.heap.size, 4, none⟩ (.int .i64 m.a)).setCell ⟨w0.heap.size, 6, none⟩ (.bool m.gap)) = u9 at S2 ⊢
    go_wp2_with (first | (refine wpList_load_mid_g (by rfl) 25 _ rfl w0.heap.size 0 rfl _ _ S2.out.range Tryd.underlying25 rfl (by kernel_rfl) ?_) | (refine wpList_store_row rfl 25 _ _ rfl (w.heap.size + 1) _ rfl rfl _ _ S2.out.R (by kernel_rfl) (by rfl) (ms_one _) ?_))
    refine bodyPost_ret (one_end rfl (w.heap.size + 1) _ _ _ _ S2.out.R rfl rfl) rfl ?_
    rw [HN.out]
    exact ⟨rfl, below_setRow S2.out.B.drew S2.out.lr _⟩
  by_cases k7 : m.kind = 7
  · have HN : Hid (named m = {headM m with exec := m.exec}) := Lib.hid (by rw [HNE.out, if_neg k1, if_neg (by omega : ¬ (m.kind = 2 ∨ m.kind = 3)), if_neg k4, if_neg k5, if_pos k7])
    clear HNE
    have HRX := Lib.hid HBX.out.rangeX
    have HTH := Lib.hid S0.out.there
    have SX := Lib.hid (S0.out.putExec m.exec)
    go_upto_region 14 with (first | (refine wpList_load_mid_g (by rfl) 23 _ rfl w.heap.size 8 rfl _ _ HRX.out Tryd.underlying23 rfl (by kernel_rfl) ?_) | (refine wpList_store_mid rfl 23 _ _ rfl w0.heap.size 8 _ rfl rfl HTH.out (by kernel_rfl) (ex_one m.exec) ?_))
    generalize (u0.setCells w0.heap.size 8 m.exec.cells.toList) = u9 at SX ⊢
    go_wp2_with (first | (refine wpList_load_mid_g (by rfl) 25 _ rfl w0.heap.size 0 rfl _ _ SX.out.range Tryd.underlying25 rfl (by kernel_rfl) ?_) | (refine wpList_store_row rfl 25 _ _ rfl (w.heap.size + 1) _ rfl rfl _ _ SX.out.R (by kernel_rfl) (by rfl) (ms_one _) ?_))
    refine bodyPost_ret (one_end rfl (w.heap.size + 1) _ _ _ _ SX.out.R rfl rfl) rfl ?_
    rw [HN.out]
    exact ⟨rfl, below_setRow SX.out.B SX.out.lr _⟩
  · have HN : Hid (named m = headM m) := Lib.hid (by rw [HNE.out, if_neg k1, if_neg (by omega : ¬ (m.kind = 2 ∨ m.kind = 3)), if_neg k4, if_neg k5, if_neg k7])
    clear HNE
    go_upto_region 14 with fail
    go_wp2_with (first | (refine wpList_load_mid_g (by rfl) 25 _ rfl w0.heap.size 0 rfl _ _ S0.out.range Tryd.underlying25 rfl (by kernel_rfl) ?_) | (refine wpList_store_row rfl 25 _ _ rfl (w.heap.size + 1) _ rfl rfl _ _ S0.out.R (by kernel_rfl) (by rfl) (ms_one _) ?_))
    refine bodyPost_ret (one_end rfl (w.heap.size + 1) _ _ _ _ S0.out.R rfl rfl) rfl ?_
    rw [HN.out]
    exact ⟨rfl, below_setRow S0.out.B S0.out.lr _⟩

end Msg
end Go.Proofs.YtddblaiahgjbaaaDoor
