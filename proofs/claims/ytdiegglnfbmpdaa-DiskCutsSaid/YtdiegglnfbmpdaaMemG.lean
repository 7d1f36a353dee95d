/-
  Bytes of the call's own that may bear a mark behind their cells, as those of '[]byte(s)' do: appending to them.
-/
import Derived.Test.YtdiegglnfbmpdaaMemS
import Derived.Lib.SlBytesConst
namespace Go.Proofs.Ytdiegglnfbmpdaa
open Go.RowKit

/-- no cell is marked -/
def Clear (cur : Array Value) (fz : Nat × Nat) : Prop := cur.size ≤ fz.1 ∨ fz.2 = 0
/-- bytes that the call has made itself, in blocks from base on, marked or not -/
def OwnG (e : TypeId) (w : World) (base : Nat) (v : Value) (l : List UInt8) : Prop :=
  (v = .slice none 0 0 ∧ l = []) ∨
  ∃ (g cap : Nat) (cur : Array Value) (fz : Nat × Nat), v = .slice (some ⟨g, 0, none⟩) l.length cap ∧ base ≤ g ∧ w.heap[g]? = some (Obj.cells cur e fz) ∧ l.length ≤ cap ∧ cap ≤ maxLen ∧ cur.size = cap ∧ cur.toList.take l.length = byteVs l ∧ Clear cur fz
theorem Own.g {e : TypeId} {w : World} {base : Nat} {v : Value} {l : List UInt8} (h : Own e w base v l) : OwnG e w base v l := by
  unfold Own at h
  rcases h.2 with ⟨rfl, h0⟩ | ⟨g, cap, cur, rfl, hb, hg, hl, hc, hs, ht⟩
  · exact .inl ⟨rfl, List.length_eq_zero_iff.1 h0⟩
  · exact .inr ⟨g, cap, cur, (0, 0), rfl, hb, hg, hl, hc, by rw [hs, Nat.mul_one], by rw [← ht, Nat.mul_one], .inr rfl⟩
theorem OwnG.cells {e : TypeId} {w : World} {base : Nat} {g n cap : Nat} {l : List UInt8} (h : OwnG e w base (.slice (some ⟨g, 0, none⟩) n cap) l) : ∀ j u, (byteVs l)[j]? = some u → w.cell? ((⟨g, 0, none⟩ : Addr).add j) = some u := by
  intro j u hu
  rcases h with ⟨h, _⟩ | ⟨g', cap', cur, fz, hv, _, hg, _, _, _, ht, _⟩
  · cases h
  · injection hv with hv
    injection hv with hv
    injection hv with hv
    subst hv
    rw [add_none, Nat.zero_add, cell_of_row w g j cur e fz hg]
    rw [← ht] at hu
    have hj : j < l.length := by
      rcases Nat.lt_or_ge j l.length with h | h
      · exact h
      · rw [List.getElem?_eq_none (by rw [List.length_take]; omega)] at hu; cases hu
    rw [List.getElem?_take_of_lt hj] at hu
    simpa using hu
theorem OwnG.bytes {e : TypeId} {w : World} {base : Nat} {v : Value} {l : List UInt8} (h : OwnG e w base v l) : ∃ a cap, v = .slice a l.length cap ∧ BytesAt w a cap l := by
  have h' := h
  rcases h with ⟨rfl, rfl⟩ | ⟨g, cap, cur, fz, rfl, _, _, hl, _⟩
  · exact ⟨none, 0, rfl, .inl ⟨rfl, rfl, rfl⟩⟩
  · refine ⟨_, cap, rfl, .inr ⟨_, rfl, hl, fun i hi => ?_⟩⟩
    exact h'.cells i _ (by unfold byteVs; rw [List.getElem?_map, List.getElem?_eq_getElem hi]; rfl)
theorem OwnG.kept {e : TypeId} {w w' : World} {base : Nat} {v : Value} {l : List UInt8} (h : OwnG e w base v l) (hb : Below w.heap.size w w') : OwnG e w' base v l := by
  rcases h with h | ⟨g, cap, cur, fz, h1, h2, h3, h4⟩
  · exact .inl h
  · exact .inr ⟨g, cap, cur, fz, h1, h2, by rw [hb.block g (Array.getElem?_eq_some_iff.1 h3).1]; exact h3, h4⟩
theorem OwnG.keptBy {e : TypeId} {w w' : World} {base : Nat} {v : Value} {l : List UInt8} {row : Option Nat} (h : OwnG e w base v l) (hg : w.grownBy w' row) (hne : v.ownBlock = none ∨ v.ownBlock ≠ row) : OwnG e w' base v l := by
  rcases h with h | ⟨g, cap, cur, fz, rfl, h2, h3, h4⟩
  · exact .inl h
  · refine .inr ⟨g, cap, cur, fz, rfl, h2, ?_, h4⟩
    rw [hg.block g (Array.getElem?_eq_some_iff.1 h3).1 (by simpa [Value.ownBlock] using hne)]
    exact h3
theorem OwnG.lt {e : TypeId} {w : World} {base : Nat} {v : Value} {l : List UInt8} (h : OwnG e w base v l) : ∀ k, v.ownBlock = some k → base ≤ k ∧ k < w.heap.size := by
  intro k hk
  rcases h with ⟨rfl, _⟩ | ⟨g, cap, cur, fz, rfl, h2, h3, _⟩
  · simp [Value.ownBlock] at hk
  · simp [Value.ownBlock] at hk
    subst hk
    exact ⟨h2, (Array.getElem?_eq_some_iff.1 h3).1⟩

theorem OwnG.mono {e : TypeId} {w : World} {base base' : Nat} {v : Value} {l : List UInt8} (h : OwnG e w base v l) (hb : base' ≤ base) : OwnG e w base' v l := by
  rcases h with h | ⟨g, cap, cur, fz, h1, h2, h3⟩
  · exact .inl h
  · exact .inr ⟨g, cap, cur, fz, h1, Nat.le_trans hb h2, h3⟩
/-- bytes that a call tells, made by itself, marked or not, and a number beside them; nothing that was there has turned -/
def RetG (e : TypeId) (w : World) (l : List UInt8) (n : Int) (en : Ending) (w' : World) : Prop :=
  (∃ v, en = .returned (.tuple #[v, .int .i64 n]) ∧ OwnG e w' w.heap.size v l) ∧ Below w.heap.size w w'
theorem RetG.bytes {e : TypeId} {w : World} {l : List UInt8} {n : Int} {en : Ending} {w' : World} (h : RetG e w l n en w') : (∃ a cap, en = .returned (.tuple #[.slice a l.length cap, .int .i64 n]) ∧ BytesAt w' a cap l) ∧ Below w.heap.size w w' := by
  obtain ⟨⟨v, rfl, ho⟩, hb⟩ := h
  obtain ⟨a, cap, rfl, hr⟩ := ho.bytes
  exact ⟨⟨a, cap, rfl, hr⟩, hb⟩

/-- writing to cells of which none is marked -/
theorem run_store_clear (P : Program) (g : Nat) (t : TypeId) (fz : Nat × Nat) : ∀ (vs : List Value) (o i : Nat) (cur : Array Value) (w : World), w.heap[g]? = some (Obj.cells cur t fz) → Clear cur fz → o + i + vs.length ≤ cur.size → (∀ v ∈ vs, v.oneCell' = true) →
    (storeCells ⟨g, o, none⟩ vs i).run P w = .ok () (w.setRow g (cur.toList.take (o + i) ++ vs ++ cur.toList.drop (o + i + vs.length)).toArray) := by
  intro vs
  induction vs with
  | nil =>
    intro o i cur w hg _ _ _
    simp only [storeCells, List.append_nil, List.length_nil, Nat.add_zero, List.take_append_drop, Array.toArray_toList]
    rw [setRow_self w g cur t fz hg]
    rfl
  | cons v rest ih =>
    intro o i cur w hg hcl hl h1
    rw [List.length_cons] at hl
    have hi : o + i < cur.size := by omega
    have hcell : w.cell? ⟨g, o + i, none⟩ = some cur[o + i] := by rw [cell_of_row w g (o + i) cur t fz hg, Array.getElem?_eq_getElem hi]
    have hfro : w.frozen? ⟨g, o + i, none⟩ = false := by
      obtain ⟨lo, hi'⟩ := fz
      unfold Clear at hcl
      simp only at hcl
      simp only [World.frozen?, hg, Bool.and_eq_false_iff, decide_eq_false_iff_not]
      omega
    have hst : (store ((⟨g, o, none⟩ : Addr).add i) v).run P w = .ok () (w.setRow g (cur.setIfInBounds (o + i) v)) := by
      rw [add_none, run_store P w _ v _ (h1 v (by simp)), hcell]
      simp [hfro, setCell_eq_setRow w g (o + i) cur t fz v hg]
    have hz : (cur.setIfInBounds (o + i) v).size = cur.size := Array.size_setIfInBounds
    have hn := ih o (i + 1) (cur.setIfInBounds (o + i) v) (w.setRow g (cur.setIfInBounds (o + i) v)) (setRow_heap w g cur _ t _ hg) (by unfold Clear at *; rw [hz]; exact hcl) (by rw [hz]; omega) (fun x hx => h1 x (by simp [hx]))
    simp only [storeCells, Sem.run_bind, hst, Result.andThen_ok, hn, setRow_setRow]
    congr 3
    have e := list_seg_step cur.toList (o + i) v rest (by rw [Array.length_toList]; omega)
    simpa [Array.toList_setIfInBounds, Nat.add_assoc] using e

/-- append of bytes to such a row, as a run -/
theorem run_append_g {P : Program} (w : World) (base : Nat) (t ty e : TypeId) (i : TypeInfo) (z : Value) (ht : P.underlying t = some (.slice e)) (hi : P.info? e = some i) (hz : i.zero = some z)
    (hsize : i.size = 1) (hby : i.bytes = 1) (hzs : z.cells.size = 1)
    (v : Value) (l : List UInt8) (hown : OwnG e w base v l) (b : Option Addr) (cap : Nat) (k : List UInt8) (hb : BytesAt w b cap k)
    (hlen : l.length + k.length ≤ 70368744177664) (hbase : base ≤ w.heap.size) :
    ∃ v' w', (Builtin.append_ #[t, t] ty #[v, .slice b k.length cap]).run P w = .ok v' w' ∧ OwnG e w' base v' (l ++ k) ∧ w.grownBy w' v.ownBlock ∧ OwnG e w' base v l := by
  have hnew : ∀ x : Addr, b = some x → ∀ j u, (byteVs k)[j]? = some u → w.cell? (x.add j) = some u := by
    rintro x rfl j u hu
    rcases hb with ⟨h, _⟩ | ⟨y, hy, _, hc⟩
    · cases h
    · obtain rfl := Option.some.inj hy
      obtain ⟨hj, rfl⟩ := byteVs_get hu
      exact hc j hj
  rcases hown with ⟨rfl, rfl⟩ | ⟨g, cp, cur, fz, rfl, hbg, hg, hl, hm, hcs, htake, hcl⟩
  · cases b with
    | none =>
      obtain rfl : k = [] := by rcases hb with ⟨_, h, _⟩ | ⟨x, h, _⟩; exact h; cases h
      refine ⟨.slice none 0 0, w, ?_, .inl ⟨rfl, rfl⟩, ⟨rfl, rfl, rfl, Nat.le_refl _, fun _ _ _ => rfl⟩, .inl ⟨rfl, rfl⟩⟩
      simp [Builtin.append_, run_underlying ht, sizeOf, typeInfo, hi, Builtin.lenOf, Builtin.firstCells]
    | some x =>
      obtain ⟨v', w', h1, h2, h3, _⟩ := run_append_own (P := P) w base t ty e i z 1 1 ht hi hz hsize hby hzs (by decide) (.slice none 0 0) 0 [] (World.ownsRow_nil w base e 1) x k.length cap (byteVs k) (by rw [byteVs_length, Nat.mul_one])
        (hnew x rfl) (byteVs_one k) (by unfold maxLen; omega) (by simp only [List.length_nil] at hlen; omega) hbase
      refine ⟨v', w', h1, Own.g (by unfold Own; simpa using h2), h3, .inl ⟨rfl, rfl⟩⟩
  · have hol : OwnG e w base (.slice (some ⟨g, 0, none⟩) l.length cp) l := .inr ⟨g, cp, cur, fz, rfl, hbg, hg, hl, hm, hcs, htake, hcl⟩
    by_cases hroom : l.length + k.length ≤ cp
    · have hf : (Builtin.firstCells i.size k.length (.slice b k.length cap)).run P w = .ok (byteVs k).toArray w := by
        cases b with
        | none =>
          obtain rfl : k = [] := by rcases hb with ⟨_, h, _⟩ | ⟨x, h, _⟩; exact h; cases h
          simp [Builtin.firstCells, byteVs]
        | some x => exact run_firstCells_some (P := P) w i.size k.length x k.length cap (byteVs k) (by rw [byteVs_length, hsize, Nat.mul_one]) (hnew x rfl)
      have hst := run_store_clear P g e fz (byteVs k) l.length 0 cur w hg hcl (by rw [byteVs_length, hcs]; omega) (byteVs_one k)
      simp only [Nat.add_zero, byteVs_length] at hst
      refine ⟨.slice (some ⟨g, 0, none⟩) (l.length + k.length) cp, w.setRow g (cur.toList.take l.length ++ byteVs k ++ cur.toList.drop (l.length + k.length)).toArray, ?_,
        .inr ⟨g, cp, _, fz, by rw [List.length_append], hbg, setRow_heap w g cur _ e _ hg, by rw [List.length_append]; exact hroom, hm, ?_, ?_, ?_⟩, ⟨rfl, rfl, rfl, by simp, fun j _ hj => setRow_other w g j _ (fun e => hj (by simp [Value.ownBlock, e]))⟩,
        .inr ⟨g, cp, _, fz, rfl, hbg, setRow_heap w g cur _ e _ hg, hl, hm, ?_, ?_, ?_⟩⟩
      · simp [Builtin.append_, run_underlying ht, sizeOf, typeInfo, hi, hsize, Builtin.lenOf, hroom, hsize ▸ hf, Addr.add_lit, hst]
      · simp only [List.size_toArray, List.length_append, List.length_take, List.length_drop, Array.length_toList, byteVs_length]
        omega
      · rw [htake, byteVs_append, List.length_append]
        have : l.length + k.length = (byteVs l ++ byteVs k).length := by rw [List.length_append, byteVs_length, byteVs_length]
        rw [this]
        exact List.take_left
      · unfold Clear at *
        simp only [List.size_toArray, List.length_append, List.length_take, List.length_drop, Array.length_toList, byteVs_length]
        omega
      · simp only [List.size_toArray, List.length_append, List.length_take, List.length_drop, Array.length_toList, byteVs_length]
        omega
      · rw [htake, List.append_assoc]
        have : l.length = (byteVs l).length := (byteVs_length l).symm
        rw [this]
        exact List.take_left
      · unfold Clear at *
        simp only [List.size_toArray, List.length_append, List.length_take, List.length_drop, Array.length_toList, byteVs_length]
        omega
    · have hk0 : 0 < k.length := by omega
      obtain ⟨x, rfl⟩ : ∃ x, b = some x := by
        rcases hb with ⟨_, h, _⟩ | ⟨x, h, _⟩
        · rw [h] at hk0; simp at hk0
        · exact ⟨x, h⟩
      have hr := run_append_grow (P := P) w t ty e i z ht hi hz ⟨g, 0, none⟩ l.length cp (byteVs l) (by rw [byteVs_length, hsize, Nat.mul_one]) hol.cells x k.length cap (byteVs k) (by rw [byteVs_length, hsize, Nat.mul_one]) (hnew x rfl) (by omega) (by omega) (growslice_fits (by omega) (by rw [hby]; omega))
      have hge := grownCap_ge w (l.length + k.length) cp e
      have hcm := grownCap_le_maxLen w (l.length + k.length) cp e (by unfold maxLen; omega)
      refine ⟨_, _, hr, .inr ⟨w.heap.size, _, _, (0, 0), by rw [List.length_append], hbase, heap_alloc_new w.drew _, by rw [List.length_append]; exact hge, hcm, ?_, ?_, .inr rfl⟩, ⟨rfl, rfl, rfl, by simp, fun j hj _ => heap_alloc_old w.drew _ hj⟩,
        .inr ⟨g, cp, cur, fz, rfl, hbg, (heap_alloc_old w.drew _ (Array.getElem?_eq_some_iff.1 hg).1).trans hg, hl, hm, hcs, htake, hcl⟩⟩
      · simp only [Array.size_append, List.size_toArray, size_zeroCells, hzs, byteVs_length]
        omega
      · simp only [Array.toList_append, List.append_assoc, byteVs_append, List.length_append]
        rw [← List.append_assoc]
        have : l.length + k.length = (byteVs l ++ byteVs k).length := by rw [List.length_append, byteVs_length, byteVs_length]
        rw [this]
        exact List.take_left

/-- append of bytes to such bytes: the step -/
theorem wpList_append_g {P : Program} {w : World} {ops : Array Oper} {rest : List Oper} {o : Oper} {a : Act} {Q : Exit → Act → World → Prop} (hgd : o.guard = none) (s x : Operand) (t : TypeId)
    (ho : o.op = .call { callee := .builtin .append, args := #[s, x], argTypes := #[t, t] })
    (base : Nat) (e : TypeId) (i : TypeInfo) (z : Value) (ht : P.underlying t = some (.slice e)) (hi : P.info? e = some i) (hz : i.zero = some z)
    (hsize : i.size = 1) (hby : i.bytes = 1) (hzs : z.cells.size = 1)
    (v : Value) (l : List UInt8) (hs : a.eval s = v) (hown : OwnG e w base v l)
    (b : Option Addr) (m cap : Nat) (k : List UInt8) (hx : a.eval x = .slice b m cap) (hm : k.length = m) (hb : BytesAt w b cap k)
    (hlen : l.length + k.length ≤ 70368744177664) (hbase : base ≤ w.heap.size)
    (h : ∀ v' w', OwnG e w' base v' (l ++ k) → Below base w w' → w.grownBy w' v.ownBlock ∧ OwnG e w' base v l → wpList P ops Q rest (a.put o.dst v') w') : wpList P ops Q (o :: rest) a w := by
  subst hm
  refine wpList_plain hgd fun K hK => ?_
  obtain ⟨v', w', hr, h2, h3, h4⟩ := run_append_g (P := P) w base t o.type e i z ht hi hz hsize hby hzs v l hown b cap k hb hlen hbase
  unfold Oper.wp execOp
  simp only [ho, resolve, invoke, builtin, Sem.run_bind, Sem.run_pure, Result.andThen_ok, List.map_toArray, List.map_cons, List.map_nil, hs, hx, hr]
  exact hK _ _ (h v' w' h2 ((Below.refl base w).grown h3 hbase fun j hj => (hown.lt j hj).1) ⟨h3, h4⟩)

/-- '[]byte(s)': bytes of the call's own -/
theorem own_of_string (w : World) (e : TypeId) (s : ByteArray) (hs : s.size ≤ 70368744177664) : OwnG e (Lib.bytesWorld w e s) w.heap.size (.slice (some ⟨w.heap.size, 0, none⟩) s.size (grownCap w s.size 0 e)) s.data.toList := by
  have hge := grownCap_ge w s.size 0 e
  have hcm := grownCap_le_maxLen w s.size 0 e (by unfold maxLen; omega)
  have hz : (Lib.bytesCells w e s).size = grownCap w s.size 0 e := by
    unfold Lib.bytesCells
    rw [Array.size_append, Array.size_map, Array.size_replicate]
    have : s.data.size = s.size := rfl
    omega
  refine .inr ⟨w.heap.size, _, Lib.bytesCells w e s, _, rfl, Nat.le_refl _, Lib.bytesWorld_at_new w e s, hge, hcm, hz, ?_, .inl (Nat.le_refl _)⟩
  unfold Lib.bytesCells
  rw [Array.toList_append, Array.toList_map]
  have h1 : (s.data.toList.map fun b => Value.int .u8 (b.toNat : Int)).length = s.data.toList.length := List.length_map ..
  rw [← h1]
  exact List.take_left
/-- bytes in a new block are the call's own, marked or not -/
theorem own_lit (w : World) (e : TypeId) (cells : Array Value) (fr : Nat × Nat) (l : List UInt8) (hc : cells.toList = byteVs l) (n : Nat) (hn : l.length = n) (hm : n ≤ maxLen) (hf : Clear cells fr) :
    OwnG e (w.alloc (.cells cells e fr)) w.heap.size (.slice (some ⟨w.heap.size, 0, none⟩) n n) l := by
  subst hn
  have hz : cells.size = l.length := by rw [← Array.length_toList, hc, byteVs_length]
  exact .inr ⟨w.heap.size, l.length, cells, fr, rfl, Nat.le_refl _, heap_alloc_new w _, Nat.le_refl _, hm, hz, by rw [hc, List.take_of_length_le (by rw [byteVs_length]; exact Nat.le_refl _)], hf⟩
theorem wpList_bytes_own {P : Program} {w : World} {ops : Array Oper} {rest : List Oper} {o : Oper} {a : Act} {Q : Exit → Act → World → Prop} (hgd : o.guard = none) (src dst e : TypeId) (x : Operand)
    (ho : o.op = .convert src dst x) (s : ByteArray) (hs : P.underlying src = some .string) (hd : P.underlying dst = some (.slice e)) (he : P.underlying e = some (.int .u8)) (hx : a.eval x = .string s) (hlen : s.size ≤ 70368744177664)
    (h : ∀ v w', OwnG e w' w.heap.size v s.data.toList → Below w.heap.size w w' → wpList P ops Q rest (a.put o.dst v) w') : wpList P ops Q (o :: rest) a w := by
  refine wpList_plain hgd fun K hK => ?_
  have hrun := Lib.run_convert_string_bytes (P := P) w src dst e s hs hd he
  unfold Oper.wp execOp
  simp only [ho, Sem.run_bind, Sem.run_pure, Result.andThen_ok, hx, hrun]
  exact hK _ _ (h _ _ (own_of_string w e s hlen) (Lib.bytesWorld_below w e s))

/-- a row that has an element lies in a block of its own -/
theorem OwnG.block {e : TypeId} {w : World} {base n cap : Nat} {a : Option Addr} {l : List UInt8} (h : OwnG e w base (.slice a n cap) l) (hl : l.length ≠ 0) : ∃ g, a = some ⟨g, 0, none⟩ ∧ base ≤ g ∧ g < w.heap.size := by
  rcases h with ⟨_, rfl⟩ | ⟨g, cap', cur, fz, hv, hb, hg, _⟩
  · exact absurd rfl hl
  · injection hv with hv
    exact ⟨g, hv, hb, (Array.getElem?_eq_some_iff.1 hg).1⟩
theorem OwnG.slot {e : TypeId} {w : World} {base g n cap j : Nat} {l : List UInt8} (h : OwnG e w base (.slice (some ⟨g, 0, none⟩) n cap) l) (hj : j < l.length) :
    w.cell? ⟨g, j, none⟩ = some (.int .u8 (l[j].toNat : Int)) ∧ w.frozen? ⟨g, j, none⟩ = false := by
  have hc := h.cells j _ (by unfold byteVs; rw [List.getElem?_map, List.getElem?_eq_getElem hj]; rfl)
  rw [add_none, Nat.zero_add] at hc
  refine ⟨hc, ?_⟩
  rcases h with ⟨h, _⟩ | ⟨g', cap', cur, fz, hv, _, hg, hl, _, hs, _, hcl⟩
  · cases h
  · injection hv with hv
    injection hv with hv
    injection hv with hv
    subst hv
    obtain ⟨lo, hi⟩ := fz
    unfold Clear at hcl
    simp only at hcl
    simp only [World.frozen?, hg, Bool.and_eq_false_iff, decide_eq_false_iff_not]
    omega
theorem OwnG.read {e : TypeId} {w : World} {base n cap : Nat} {a : Option Addr} {l : List UInt8} (h : OwnG e w base (.slice a n cap) l) : BytesAt w a cap l := by
  obtain ⟨a', cap', hv, hb⟩ := h.bytes
  injection hv with h1 _ h3
  subst h1 h3
  exact hb
/-- a byte that is written -/
theorem BytesAt.set {w : World} {g off cap r : Nat} {l : List UInt8} (h : BytesAt w (some ⟨g, off, none⟩) cap l) (hr : r < l.length) (c : UInt8) : BytesAt (w.setCell ⟨g, off + r, none⟩ (.int .u8 (c.toNat : Int))) (some ⟨g, off, none⟩) cap (l.set r c) := by
  rcases h with ⟨h, _⟩ | ⟨x, hx, hl, hc⟩
  · cases h
  · obtain rfl := Option.some.inj hx
    refine .inr ⟨_, rfl, by rw [List.length_set]; exact hl, fun i hi => ?_⟩
    rw [List.length_set] at hi
    have h1 := hc i hi
    rw [add_none] at h1 ⊢
    by_cases hir : i = r
    · subst hir
      rw [World.cell?_setCell_same (h := h1), List.getElem_set_self]
    · rw [World.cell?_setCell_other (h := fun e => by injection e with _ e _; omega), h1, List.getElem_set_ne (fun e => hir e.symm)]

/-- bytes in a new block, marked or not -/
theorem bytes_alloc (w : World) (e : TypeId) (cells : Array Value) (fr : Nat × Nat) (l : List UInt8) (hc : cells.toList = byteVs l) (cap : Nat) (hcap : l.length ≤ cap) : BytesAt (w.alloc (.cells cells e fr)) (some ⟨w.heap.size, 0, none⟩) cap l := by
  refine .inr ⟨_, rfl, hcap, fun i hi => ?_⟩
  rw [add_none, World.cell?_alloc_mark, Nat.zero_add, ← Array.getElem?_toList, hc]
  unfold byteVs
  rw [List.getElem?_map, List.getElem?_eq_getElem hi]
  rfl

end Go.Proofs.Ytdiegglnfbmpdaa
