/-
  Whole structs in memory, at one step: loads, stores, appends, comparisons; rules for the walk of a region that draws its order.
-/
import Derived.Test.YtdiegglnfbmpdaaMemS
import Derived.Test.YtdiegglnfbmpdaaRow
import Derived.Deep.RegionHeld3
import Derived.Deep.MidRow
import Derived.Deep.WholeRow
import Derived.Laws.ResultCell
import Derived.Laws.Tables
namespace Go.Proofs.Ytdiegglnfbmpdaa
open Go.RowKit

theorem alloc_block {w : World} {x : Nat} {obj o : Obj} (h : w.heap[x]? = some obj) : (w.alloc o).heap[x]? = some obj := (Below.heap_alloc w o x (Array.getElem?_eq_some_iff.1 h).1).trans h
theorem alloc_cell {w : World} {p : Addr} {v : Value} {o : Obj} (h : w.cell? p = some v) : (w.alloc o).cell? p = some v := (((Below.refl _ w).alloc (Nat.le_refl _) o).cell (cell_lt h)).trans h
theorem below_block {w w' : World} {x : Nat} {obj : Obj} (h : w.heap[x]? = some obj) (hb : Below w.heap.size w w') : w'.heap[x]? = some obj := (hb.block x (Array.getElem?_eq_some_iff.1 h).1).trans h
theorem cell_at {w : World} {x j : Nat} {cs : Array Value} {t : TypeId} {fz : Nat × Nat} {v : Value} (h : w.heap[x]? = some (Obj.cells cs t fz)) (hv : cs[j]? = some v) : w.cell? ⟨x, j, none⟩ = some v := (cell_of_row w x j cs t fz h).trans hv
/-- append of a row; blocks of other types stand -/
theorem wpList_append_rowk {α : Type} {P : Program} {w : World} {ops : Array Oper} {rest : List Oper} {o : Oper} {a : Act} {Q : Exit → Act → World → Prop} (c : Enc α) (hcs : 0 < c.size) (hgd : o.guard = none) (s x : Operand) (t : TypeId)
    (ho : o.op = .call { callee := .builtin .append, args := #[s, x], argTypes := #[t, t] })
    (base : Nat) (e : TypeId) (i : TypeInfo) (z : Value) (bytes : Nat) (ht : P.underlying t = some (.slice e)) (hi : P.info? e = some i) (hz : i.zero = some z)
    (hsize : i.size = c.size) (hby : i.bytes = bytes) (hzs : z.cells.size = c.size)
    (v : Value) (l : List α) (hs : a.eval s = v) (hown : OwnE c e w base v l)
    (y : Addr) (m cap : Nat) (k : List α) (hx : a.eval x = .slice (some y) m cap) (hm : k.length = m) (hb : RowAt c w (some y) cap k)
    (hlen : l.length + k.length ≤ maxLen) (hbytes : (l.length + k.length) * bytes ≤ 140737488355328) (hbase : base ≤ w.heap.size)
    (h : ∀ v' w', OwnE c e w' base v' (l ++ k) → Below base w w' → Kept e w w' → wpList P ops Q rest (a.put o.dst v') w') : wpList P ops Q (o :: rest) a w := by
  subst hm
  rcases hb with ⟨hy, _⟩ | ⟨y', hy, hl, hc⟩
  · cases hy
  · obtain rfl := Option.some.inj hy
    refine wpList_append_own w hgd s x t ho base e i z c.size bytes ht hi hz hsize hby hzs hcs v l.length (l.flatMap c.of) hs hown y k.length cap (k.flatMap c.of) hx (c.flat_len k)
      hc (c.flat_one k) hlen hbytes hbase ?_
    intro v' w' h1 h2 _
    refine h v' w' ?_ ((Below.refl base w).grown h2 hbase fun j hj => (hown.lt j hj).1) (Kept.of_grown hown h2)
    unfold OwnE
    rw [List.length_append, List.flatMap_append]
    exact h1
/-- append of rows at a step of a region that draws its order -/
theorem step_append_row {α : Type} {P : Program} {ops : Array Oper} {o : Oper} {a : Act} {w : World} {K : Act → World → Prop} {Q : Exit → Act → World → Prop} {E : Prop} (c : Enc α) (hcs : 0 < c.size) (hgd : o.guard = none) (s x : Operand) (t : TypeId)
    (ho : o.op = .call { callee := .builtin .append, args := #[s, x], argTypes := #[t, t] })
    (base : Nat) (e : TypeId) (i : TypeInfo) (z : Value) (bytes : Nat) (ht : P.underlying t = some (.slice e)) (hi : P.info? e = some i) (hz : i.zero = some z)
    (hsize : i.size = c.size) (hby : i.bytes = bytes) (hzs : z.cells.size = c.size)
    (v : Value) (l : List α) (hs : a.eval s = v) (hown : OwnE c e w base v l)
    (y : Addr) (m cap : Nat) (k : List α) (hx : a.eval x = .slice (some y) m cap) (hm : k.length = m) (hb : RowAt c w (some y) cap k)
    (hlen : l.length + k.length ≤ maxLen) (hbytes : (l.length + k.length) * bytes ≤ 140737488355328) (hbase : base ≤ w.heap.size)
    (h : ∀ v' w', OwnE c e w' base v' (l ++ k) → Below base w w' → Kept e w w' → K (a.put o.dst v') w') : if Region.wanted o (yielded ops a.tmps) = true then Oper.wp P o a w K Q else E := by
  have hw : Region.wanted o (yielded ops a.tmps) = true := by simp [Region.wanted, hgd]
  rw [if_pos hw]
  subst hm
  rcases hb with ⟨hy, _⟩ | ⟨y', hy, hl, hc⟩
  · cases hy
  · obtain rfl := Option.some.inj hy
    refine wp_append_own w s x t ho base e i z c.size bytes ht hi hz hsize hby hzs hcs v l.length (l.flatMap c.of) hs hown y k.length cap (k.flatMap c.of) hx (c.flat_len k)
      hc (c.flat_one k) hlen hbytes hbase ?_
    intro v' w' h1 h2 _
    refine h v' w' ?_ ((Below.refl base w).grown h2 hbase fun j hj => (hown.lt j hj).1) (Kept.of_grown hown h2)
    unfold OwnE
    rw [List.length_append, List.flatMap_append]
    exact h1

theorem wpList_load_mid_g {P : Program} {ops : Array Oper} {rest : List Oper} {op : Oper} {a : Act} {w : World} {Q : Exit → Act → World → Prop} (hw : Region.wanted op (yielded ops a.tmps) = true) (ty : TypeId) (x : Operand) (ho : op.op = .load ty x)
    (b o : Nat) (hx : a.eval x = .pointer (some ⟨b, o, none⟩)) (cs : List Value) (d : TypeDesc) (hc : w.rangeAt b o cs)
    (hu : P.underlying ty = some d) (hd : d.isRow = true) (hi : (P.info? ty).map (·.size) = some cs.length)
    (h : wpList P ops Q rest (a.put op.dst (.agg cs.toArray)) w) : wpList P ops Q (op :: rest) a w := by
  refine wpList_step fun K hK => ?_
  rw [if_pos hw]
  exact wp_load_mid ty x ho b o hx cs d hc hu hd hi (hK _ _ h)
theorem block_range {w : World} {g : Nat} {cs : Array Value} {t : TypeId} {fz : Nat × Nat} (h : w.heap[g]? = some (.cells cs t fz)) : w.rangeAt g 0 cs.toList := fun j v hv => by
  rw [Nat.zero_add, cell_of_row w g j cs t fz h]
  simpa using hv
theorem results_row_tmp {fn : Func} {p u : Tmp} {ty : TypeId} (h : fn.results = #[.cell p ty, .tmp u]) (tmps : Array Value) (P : Program) (w : World) (g : Nat) (t : TypeId) (cs : Array Value) (fr : Nat × Nat) (d : TypeDesc)
    (hp : tmps.getD p undef = .pointer (some ⟨g, 0, none⟩)) (hg : w.heap[g]? = some (.cells cs t fr))
    (hu : P.underlying ty = some d) (hd : d.isRow = true) (hi : (P.info? ty).map (·.size) = some cs.size) :
    (results fn tmps).run P w = .ok (.tuple #[.agg cs, tmps.getD u undef]) w := by
  have hl := run_loadVar_mid (P := P) w g 0 ty cs.toList d (block_range hg) hu hd (by simpa using hi)
  rw [Array.toArray_toList] at hl
  rw [results_cell_tmp h, hp]
  simp [asAddr, hl]
theorem below_setRow {B g : Nat} {a w : World} (h : Below B a w) (hB : B ≤ g) (cs : Array Value) : Below B a (w.setRow g cs) :=
  h.trans ⟨rfl, rfl, rfl, by simp [World.setRow], fun k hk => by unfold World.setRow; rw [Array.getElem?_modify, if_neg (by omega)]⟩
theorem wpList_load_arr_g {P : Program} {ops : Array Oper} {rest : List Oper} {op : Oper} {a : Act} {w : World} {Q : Exit → Act → World → Prop} (hw : Region.wanted op (yielded ops a.tmps) = true) (ty : TypeId) (x : Operand) (ho : op.op = .load ty x)
    (b o : Nat) (hx : a.eval x = .pointer (some ⟨b, o, none⟩)) (cs : Array Value) (d : TypeDesc) (hc : w.rangeAt b o cs.toList)
    (hu : P.underlying ty = some d) (hd : d.isRow = true) (hi : (P.info? ty).map (·.size) = some cs.size)
    (h : wpList P ops Q rest (a.put op.dst (.agg cs)) w) : wpList P ops Q (op :: rest) a w := by
  have e : cs.toList.toArray = cs := Array.toArray_toList
  exact wpList_load_mid_g hw ty x ho b o hx cs.toList d hc hu hd (by simpa using hi) (by rw [e]; exact h)

/-- '==' or '!=' whose run is known -/
theorem wpList_eq_run_g {P : Program} {ops : Array Oper} {rest : List Oper} {o : Oper} {a : Act} {w : World} {Q : Exit → Act → World → Prop} (hw : Region.wanted o (yielded ops a.tmps) = true) (op : BinOp) (t : TypeId) (x y : Operand) (ty : TypeId) (ho : o.op = .binOp op t x y ty)
    (vx vy : Value) (hx : a.eval x = vx) (hy : a.eval y = vy) (hg : (eqGuard op t x y vx vy).run P w = .ok () w) (v : Value) (hr : (binOp op t vx vy).run P w = .ok v w)
    (h : wpList P ops Q rest (a.put o.dst v) w) : wpList P ops Q (o :: rest) a w := by
  refine wpList_step fun K hK => ?_
  rw [if_pos hw]
  unfold Oper.wp execOp
  simp only [ho, Sem.run_bind, Sem.run_pure, Result.andThen_ok, hx, hy, hg, hr]
  exact hK _ _ h

/-- the cells of a block, whatever they are -/
def rowAt (w : World) (g : Nat) : Array Value := match w.heap[g]? with
  | some (.cells cs _ _) => cs
  | _ => #[]
def blkOf : Value → Nat
  | .pointer (some a) => a.block
  | _ => 0
def offOf : Value → Nat
  | .pointer (some a) => a.off
  | _ => 0
theorem blkOf_ptr (g o : Nat) : blkOf (.pointer (some ⟨g, o, none⟩)) = g := rfl
theorem offOf_ptr (g o : Nat) : offOf (.pointer (some ⟨g, o, none⟩)) = o := rfl
/-- a block of so many cells stands there -/
def RowOk (w : World) (g : Nat) (n : Nat) : Prop := ∃ (t : TypeId) (fz : Nat × Nat), w.heap[g]? = some (.cells (rowAt w g) t fz) ∧ (rowAt w g).size = n
theorem RowOk.of {w : World} {g n : Nat} {cs : Array Value} {t : TypeId} {fz : Nat × Nat} (h : w.heap[g]? = some (.cells cs t fz)) (hn : cs.size = n) : RowOk w g n ∧ rowAt w g = cs := by
  have e : rowAt w g = cs := by unfold rowAt; rw [h]
  exact ⟨⟨t, fz, by rw [e]; exact h, by rw [e]; exact hn⟩, e⟩
theorem range_extract {w : World} {g o n k : Nat} (h : RowOk w g n) (_hk : o + k ≤ n) : w.rangeAt g o ((rowAt w g).extract o (o + k)).toList := fun j v hv => by
  obtain ⟨t, fz, hg, hs⟩ := h
  rw [cell_of_row w g (o + j) _ t fz hg]
  rw [Array.getElem?_toList] at hv
  rw [Array.getElem?_extract] at hv
  split at hv
  · exact hv
  · cases hv
/-- the load, as a rule -/
theorem run_load_row {P : Program} {ρ : Operand → Value} {d : Option Tmp} {T ty : TypeId} {x : Operand} {pos : String} {af : Array Edge} {gd : Option (Nat × Bool)} {w : World} (n k : Nat) (dd : TypeDesc)
    (hu : P.underlying T = some dd) (hd : dd.isRow = true) (hi : (P.info? T).map (·.size) = some k)
    (hp : ρ x = .pointer (some ⟨blkOf (ρ x), offOf (ρ x), none⟩)) (h : RowOk w (blkOf (ρ x)) n) (hk : offOf (ρ x) + k ≤ n) :
    (execOp ρ ⟨d, .load T x, ty, pos, af, gd⟩).run P w = .ok (.value (.agg ((rowAt w (blkOf (ρ x))).extract (offOf (ρ x)) (offOf (ρ x) + k)))) w := by
  obtain ⟨g, hg⟩ : ∃ g, blkOf (ρ x) = g := ⟨_, rfl⟩
  obtain ⟨o, ho⟩ : ∃ o, offOf (ρ x) = o := ⟨_, rfl⟩
  rw [hg, ho] at hp ⊢
  rw [ho] at hk
  rw [hg] at h
  have hr := range_extract h hk
  have hl : ((rowAt w g).extract o (o + k)).toList.length = k := by
    obtain ⟨_, _, _, hs⟩ := h
    rw [Array.length_toList, Array.size_extract, hs]
    omega
  have hrun := run_loadVar_mid (P := P) w g o T _ dd hr hu hd (by rw [hl]; exact hi)
  rw [Array.toArray_toList] at hrun
  unfold execOp
  simp only [Instr.loadAt, Instr.sureAddr, Sem.run_bind, Sem.run_pure, Result.andThen_ok, hp, hrun]

/-- the cells from a place on, whatever they are -/
def cellsAt (w : World) (b o k : Nat) : Array Value := ((List.range k).map fun j => (w.cell? ⟨b, o + j, none⟩).getD undef).toArray
/-- so many cells are there -/
def CellsOk (w : World) (b o k : Nat) : Prop := ∀ j, j < k → (w.cell? ⟨b, o + j, none⟩).isSome = true
theorem CellsOk.of {w : World} {b o : Nat} {cs : Array Value} (h : w.rangeAt b o cs.toList) : CellsOk w b o cs.size ∧ cellsAt w b o cs.size = cs := by
  have h1 : ∀ j (hj : j < cs.size), w.cell? ⟨b, o + j, none⟩ = some cs[j] := fun j hj => h j _ (by rw [Array.getElem?_toList, Array.getElem?_eq_getElem hj])
  refine ⟨fun j hj => by rw [h1 j hj]; rfl, ?_⟩
  apply Array.ext'
  unfold cellsAt
  apply List.ext_getElem?
  intro j
  rw [List.getElem?_map]
  rcases Nat.lt_or_ge j cs.size with hj | hj
  · rw [List.getElem?_eq_getElem (by simpa using hj), List.getElem_range, Option.map_some, h1 j hj, Array.getElem?_toList, Array.getElem?_eq_getElem hj]
    rfl
  · rw [List.getElem?_eq_none (by simpa using hj), Array.getElem?_toList, Array.getElem?_eq_none hj]
    rfl
theorem CellsOk.range {w : World} {b o k : Nat} (h : CellsOk w b o k) : w.rangeAt b o (cellsAt w b o k).toList := fun j v hv => by
  unfold cellsAt at hv
  rw [List.getElem?_map] at hv
  rcases Nat.lt_or_ge j k with hj | hj
  · rw [List.getElem?_eq_getElem (by simpa using hj), List.getElem_range, Option.map_some] at hv
    obtain ⟨u, hu⟩ := Option.isSome_iff_exists.1 (h j hj)
    rw [hu] at hv ⊢
    exact hv
  · rw [List.getElem?_eq_none (by simpa using hj)] at hv
    cases hv
/-- the load of a struct, wherever it lies, as a rule -/
theorem run_load_cells {P : Program} {ρ : Operand → Value} {d : Option Tmp} {T ty : TypeId} {x : Operand} {pos : String} {af : Array Edge} {gd : Option (Nat × Bool)} {w : World} (k : Nat) (dd : TypeDesc)
    (hu : P.underlying T = some dd) (hd : dd.isRow = true) (hi : (P.info? T).map (·.size) = some k)
    (hp : ρ x = .pointer (some ⟨blkOf (ρ x), offOf (ρ x), none⟩)) (h : CellsOk w (blkOf (ρ x)) (offOf (ρ x)) k) :
    (execOp ρ ⟨d, .load T x, ty, pos, af, gd⟩).run P w = .ok (.value (.agg (cellsAt w (blkOf (ρ x)) (offOf (ρ x)) k))) w := by
  obtain ⟨g, hg⟩ : ∃ g, blkOf (ρ x) = g := ⟨_, rfl⟩
  obtain ⟨o, ho⟩ : ∃ o, offOf (ρ x) = o := ⟨_, rfl⟩
  rw [hg, ho] at hp h ⊢
  have hr := h.range
  have hl : (cellsAt w g o k).toList.length = k := by simp [cellsAt]
  have hrun := run_loadVar_mid (P := P) w g o T _ dd hr hu hd (by rw [hl]; exact hi)
  rw [Array.toArray_toList] at hrun
  unfold execOp
  simp only [Instr.loadAt, Instr.sureAddr, Sem.run_bind, Sem.run_pure, Result.andThen_ok, hp, hrun]

end Go.Proofs.Ytdiegglnfbmpdaa
