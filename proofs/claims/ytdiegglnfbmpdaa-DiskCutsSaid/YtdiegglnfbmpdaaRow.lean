/-
  Rows of structs in memory: each element is told by a list of cells, all of one length.
-/
import Derived.Test.YtdiegglnfbmpdaaMem
namespace Go.Proofs.Ytdiegglnfbmpdaa
open Go.RowKit

/-- how the elements of a row are told in cells: so many of them for each -/
structure Enc (α : Type) where
  of : α → List Value
  size : Nat
  len : ∀ x, (of x).length = size
  one : ∀ x, ∀ u ∈ of x, u.oneCell' = true

variable {α : Type}
theorem Enc.flat_len (c : Enc α) (l : List α) : (l.flatMap c.of).length = l.length * c.size := by
  induction l with
  | nil => simp
  | cons x l ih => rw [List.flatMap_cons, List.length_append, ih, c.len, List.length_cons, Nat.succ_mul, Nat.add_comm]
theorem Enc.flat_one (c : Enc α) (l : List α) : ∀ u ∈ l.flatMap c.of, u.oneCell' = true := by
  intro u hu
  rw [List.mem_flatMap] at hu
  obtain ⟨x, _, hu⟩ := hu
  exact c.one x u hu
theorem Enc.flat_get (c : Enc α) : ∀ (l : List α) (i j : Nat) (x : α), l[i]? = some x → j < c.size → (l.flatMap c.of)[i * c.size + j]? = (c.of x)[j]?
  | [], i, j, x, h, _ => by simp at h
  | y :: l, 0, j, x, h, hj => by
    rw [List.getElem?_cons_zero] at h
    obtain rfl := Option.some.inj h
    rw [List.flatMap_cons, Nat.zero_mul, Nat.zero_add, List.getElem?_append_left (by rw [c.len]; exact hj)]
  | y :: l, i + 1, j, x, h, hj => by
    rw [List.getElem?_cons_succ] at h
    rw [List.flatMap_cons, List.getElem?_append_right (by rw [c.len, Nat.succ_mul]; omega), c.len, show (i + 1) * c.size + j - c.size = i * c.size + j by rw [Nat.succ_mul]; omega]
    exact c.flat_get l i j x h hj

theorem Enc.flat_at (c : Enc α) (hs : 0 < c.size) {l : List α} {j : Nat} {u : Value} (h : (l.flatMap c.of)[j]? = some u) : ∃ i r x, j = i * c.size + r ∧ r < c.size ∧ l[i]? = some x ∧ (c.of x)[r]? = some u := by
  have hj : j < l.length * c.size := by
    rcases Nat.lt_or_ge j (l.flatMap c.of).length with h1 | h1
    · rwa [c.flat_len] at h1
    · rw [List.getElem?_eq_none h1] at h; cases h
  have hi : j / c.size < l.length := (Nat.div_lt_iff_lt_mul hs).2 hj
  have hr := Nat.mod_lt j hs
  have he : j = j / c.size * c.size + j % c.size := by have := Nat.div_add_mod j c.size; rw [Nat.mul_comm] at this; exact this.symm
  refine ⟨j / c.size, j % c.size, l[j / c.size], he, hr, List.getElem?_eq_getElem hi, ?_⟩
  rw [← c.flat_get l _ _ _ (List.getElem?_eq_getElem hi) hr, ← he, h]

/-- the slice with this address and capacity holds the elements -/
def RowAt (c : Enc α) (w : World) (a : Option Addr) (cap : Nat) (l : List α) : Prop :=
  (a = none ∧ l = [] ∧ cap = 0) ∨ ∃ x, a = some x ∧ l.length ≤ cap ∧ ∀ j u, (l.flatMap c.of)[j]? = some u → w.cell? (x.add j) = some u
theorem RowAt.later {c : Enc α} {w w' : World} {a : Option Addr} {cap : Nat} {l : List α} (h : RowAt c w a cap l) (hb : Below w.heap.size w w') : RowAt c w' a cap l := by
  rcases h with h | ⟨x, rfl, hl, hc⟩
  · exact .inl h
  · exact .inr ⟨x, rfl, hl, fun j u hu => (hb.cell (p := x.add j) (cell_lt (hc j u hu))).trans (hc j u hu)⟩
theorem RowAt.at {c : Enc α} {w : World} {a : Option Addr} {cap : Nat} {l : List α} (h : RowAt c w a cap l) (hn : 0 < l.length) (hs : 0 < c.size) :
    ∃ b off, a = some ⟨b, off, none⟩ ∧ ∀ i x, l[i]? = some x → ∀ j u, (c.of x)[j]? = some u → w.cell? ⟨b, off + (i * c.size + j), none⟩ = some u := by
  rcases h with ⟨_, rfl, _⟩ | ⟨⟨b, off, spot⟩, rfl, hl, hc⟩
  · simp at hn
  · have hlt : ∀ {i x j u}, l[i]? = some x → (c.of x)[j]? = some u → (l.flatMap c.of)[i * c.size + j]? = some u := by
      intro i x j u h1 h2
      have hj : j < c.size := by
        rcases Nat.lt_or_ge j c.size with h | h
        · exact h
        · rw [List.getElem?_eq_none (by rw [c.len]; exact h)] at h2; cases h2
      rw [c.flat_get l i j x h1 hj, h2]
    obtain ⟨u, hu⟩ : ∃ u, (c.of (l[0]'hn))[0]? = some u := ⟨(c.of (l[0]'hn))[0]'(by rw [c.len]; exact hs), List.getElem?_eq_getElem (by rw [c.len]; exact hs)⟩
    have h0 := hc _ _ (hlt (List.getElem?_eq_getElem hn) hu)
    rw [Nat.zero_mul] at h0
    have hspot : spot = none := by simpa [Addr.add] using World.cell?_spot h0
    subst hspot
    exact ⟨b, off, rfl, fun i x hx j u hu => by have := hc _ _ (hlt hx hu); rwa [add_none] at this⟩

theorem RowAt.take {c : Enc α} {w : World} {a : Option Addr} {cap : Nat} {l : List α} (h : RowAt c w a cap l) (n : Nat) : RowAt c w a cap (l.take n) := by
  rcases h with ⟨rfl, rfl, rfl⟩ | ⟨x, rfl, hl, hc⟩
  · exact .inl ⟨rfl, by simp, rfl⟩
  · refine .inr ⟨x, rfl, by rw [List.length_take]; omega, fun j u hu => hc j u ?_⟩
    have e : l.flatMap c.of = (l.take n).flatMap c.of ++ (l.drop n).flatMap c.of := by rw [← List.flatMap_append, List.take_append_drop]
    have hj : j < ((l.take n).flatMap c.of).length := by
      rcases Nat.lt_or_ge j ((l.take n).flatMap c.of).length with h | h
      · exact h
      · rw [List.getElem?_eq_none h] at hu; cases hu
    rw [e, List.getElem?_append_left hj, hu]

/-- elements that the call has made itself, in blocks from base on -/
def OwnE (c : Enc α) (e : TypeId) (w : World) (base : Nat) (v : Value) (l : List α) : Prop := w.ownsRow base e c.size v l.length (l.flatMap c.of)
theorem OwnE.nil (c : Enc α) (e : TypeId) (w : World) (base : Nat) : OwnE c e w base (.slice none 0 0) [] := World.ownsRow_nil w base e c.size
theorem OwnE.row {c : Enc α} {e : TypeId} {w : World} {base : Nat} {v : Value} {l : List α} (h : OwnE c e w base v l) : ∃ a cap, v = .slice a l.length cap ∧ RowAt c w a cap l := by
  unfold OwnE at h
  rcases h.2 with ⟨rfl, h0⟩ | ⟨g, cap, cur, rfl, _, _, hl, _⟩
  · obtain rfl : l = [] := List.length_eq_zero_iff.1 h0
    exact ⟨none, 0, rfl, .inl ⟨rfl, rfl, rfl⟩⟩
  · exact ⟨_, cap, rfl, .inr ⟨_, rfl, hl, fun j u hu => h.cells rfl j u hu⟩⟩
theorem OwnE.kept {c : Enc α} {e : TypeId} {w w' : World} {base : Nat} {v : Value} {l : List α} (h : OwnE c e w base v l) (hb : Below w.heap.size w w') : OwnE c e w' base v l := by
  unfold OwnE at h ⊢
  have hg : w.grownBy w' none := ⟨hb.os, hb.tape, hb.output, hb.size, fun k hk _ => hb.block k hk⟩
  exact h.kept hg (by cases v.ownBlock <;> simp)
theorem OwnE.mono {c : Enc α} {e : TypeId} {w : World} {base base' : Nat} {v : Value} {l : List α} (h : OwnE c e w base v l) (hb : base' ≤ base) : OwnE c e w base' v l := by
  refine ⟨h.1, ?_⟩
  rcases h.2 with h0 | ⟨g, cap, cur, h1, h2, h3⟩
  · exact .inl h0
  · exact .inr ⟨g, cap, cur, h1, Nat.le_trans hb h2, h3⟩

/-- elements that a call tells, made by itself, and a number beside them; nothing that was there has turned -/
def RetRow (c : Enc α) (e : TypeId) (w : World) (l : List α) (n : Int) (en : Ending) (w' : World) : Prop :=
  (∃ v, en = .returned (.tuple #[v, .int .i64 n]) ∧ OwnE c e w' w.heap.size v l) ∧ Below w.heap.size w w'

/-- bytes that a call tells, whosever they are, and a number beside them; nothing that was there has turned -/
def GotBytes (w : World) (l : List UInt8) (n : Int) (en : Ending) (w' : World) : Prop :=
  (∃ a cap, en = .returned (.tuple #[.slice a l.length cap, .int .i64 n]) ∧ BytesAt w' a cap l) ∧ Below w.heap.size w w'
theorem RetBytes.got {e : TypeId} {w : World} {l : List UInt8} {n : Int} {en : Ending} {w' : World} (h : RetBytes e w l n en w') : GotBytes w l n en w' := by
  obtain ⟨⟨v, rfl, ho⟩, hb⟩ := h
  obtain ⟨a, cap, rfl, hr⟩ := ho.bytes
  exact ⟨⟨a, cap, rfl, hr⟩, hb⟩
/-- elements that a call tells, whosever they are, and a number beside them -/
def GotRow (c : Enc α) (w : World) (l : List α) (n : Int) (en : Ending) (w' : World) : Prop :=
  (∃ a cap, en = .returned (.tuple #[.slice a l.length cap, .int .i64 n]) ∧ RowAt c w' a cap l) ∧ Below w.heap.size w w'
theorem RetRow.got {c : Enc α} {e : TypeId} {w : World} {l : List α} {n : Int} {en : Ending} {w' : World} (h : RetRow c e w l n en w') : GotRow c w l n en w' := by
  obtain ⟨⟨v, rfl, ho⟩, hb⟩ := h
  obtain ⟨a, cap, rfl, hr⟩ := ho.row
  exact ⟨⟨a, cap, rfl, hr⟩, hb⟩

/-- append of a row to a row of the call's own -/
theorem wpList_append_row {P : Program} {w : World} {ops : Array Oper} {rest : List Oper} {o : Oper} {a : Act} {Q : Exit → Act → World → Prop} (c : Enc α) (hcs : 0 < c.size) (hgd : o.guard = none) (s x : Operand) (t : TypeId)
    (ho : o.op = .call { callee := .builtin .append, args := #[s, x], argTypes := #[t, t] })
    (base : Nat) (e : TypeId) (i : TypeInfo) (z : Value) (bytes : Nat) (ht : P.underlying t = some (.slice e)) (hi : P.info? e = some i) (hz : i.zero = some z)
    (hsize : i.size = c.size) (hby : i.bytes = bytes) (hzs : z.cells.size = c.size)
    (v : Value) (l : List α) (hs : a.eval s = v) (hown : OwnE c e w base v l)
    (b : Option Addr) (m cap : Nat) (k : List α) (hx : a.eval x = .slice b m cap) (hm : k.length = m) (hb : RowAt c w b cap k)
    (hlen : l.length + k.length ≤ maxLen) (hbytes : (l.length + k.length) * bytes ≤ 140737488355328) (hbase : base ≤ w.heap.size)
    (h : ∀ v' w', OwnE c e w' base v' (l ++ k) → Below base w w' → wpList P ops Q rest (a.put o.dst v') w') : wpList P ops Q (o :: rest) a w := by
  subst hm
  rcases hb with ⟨rfl, rfl, rfl⟩ | ⟨y, rfl, hl, hc⟩
  · refine wpList_append_own_none (base := base) (e := e) (i := i) (size := c.size) hgd s x t ho ht hi v l.length (l.flatMap c.of) hs hown hx ?_
    exact h v w (by rw [List.append_nil]; exact hown) (Below.refl _ _)
  · refine wpList_append_own w hgd s x t ho base e i z c.size bytes ht hi hz hsize hby hzs hcs v l.length (l.flatMap c.of) hs hown y k.length cap (k.flatMap c.of) hx (c.flat_len k)
      hc (c.flat_one k) hlen hbytes hbase ?_
    intro v' w' h1 h2 _
    refine h v' w' ?_ ((Below.refl base w).grown h2 hbase fun j hj => (hown.lt j hj).1)
    unfold OwnE
    rw [List.length_append, List.flatMap_append]
    exact h1
/-- the same where the step has a guard, and is wanted -/
theorem wpList_append_row_g {P : Program} {w : World} {ops : Array Oper} {rest : List Oper} {o : Oper} {a : Act} {Q : Exit → Act → World → Prop} (c : Enc α) (hcs : 0 < c.size) (hw : Region.wanted o (yielded ops a.tmps) = true) (s x : Operand) (t : TypeId)
    (ho : o.op = .call { callee := .builtin .append, args := #[s, x], argTypes := #[t, t] })
    (base : Nat) (e : TypeId) (i : TypeInfo) (z : Value) (bytes : Nat) (ht : P.underlying t = some (.slice e)) (hi : P.info? e = some i) (hz : i.zero = some z)
    (hsize : i.size = c.size) (hby : i.bytes = bytes) (hzs : z.cells.size = c.size)
    (v : Value) (l : List α) (hs : a.eval s = v) (hown : OwnE c e w base v l)
    (b : Option Addr) (m cap : Nat) (k : List α) (hx : a.eval x = .slice b m cap) (hm : k.length = m) (hb : RowAt c w b cap k)
    (hlen : l.length + k.length ≤ maxLen) (hbytes : (l.length + k.length) * bytes ≤ 140737488355328) (hbase : base ≤ w.heap.size)
    (h : ∀ v' w', OwnE c e w' base v' (l ++ k) → Below base w w' → wpList P ops Q rest (a.put o.dst v') w') : wpList P ops Q (o :: rest) a w := by
  subst hm
  refine wpList_step fun K hK => ?_
  rw [if_pos hw]
  rcases hb with ⟨rfl, rfl, rfl⟩ | ⟨y, rfl, hl, hc⟩
  · have hrun := run_append_owned_none (P := P) (w := w) base t o.type e i c.size ht hi v l.length (l.flatMap c.of) hown
    unfold Oper.wp
    simp only [execOp, ho, resolve, invoke, builtin, Sem.run_bind, Sem.run_pure, Result.andThen_ok, List.map_toArray, List.map_cons, List.map_nil, hs, hx, List.length_nil, hrun]
    exact hK _ _ (h v w (by rw [List.append_nil]; exact hown) (Below.refl _ _))
  · refine wp_append_own w s x t ho base e i z c.size bytes ht hi hz hsize hby hzs hcs v l.length (l.flatMap c.of) hs hown y k.length cap (k.flatMap c.of) hx (c.flat_len k)
      hc (c.flat_one k) hlen hbytes hbase ?_
    intro v' w' h1 h2 _
    refine hK _ _ (h v' w' ?_ ((Below.refl base w).grown h2 hbase fun j hj => (hown.lt j hj).1))
    unfold OwnE
    rw [List.length_append, List.flatMap_append]
    exact h1
/-- one element in a new block of its own -/
theorem one_row (c : Enc α) (w : World) (e : TypeId) (x : α) (cells : Array Value) (hc : cells.toList = c.of x) : RowAt c (w.alloc (.cells cells e)) (some ⟨w.heap.size, 0, none⟩) 1 [x] := by
  refine .inr ⟨_, rfl, by simp, fun j u hj => ?_⟩
  rw [add_none, Nat.zero_add, World.cell?_alloc_new]
  rw [List.flatMap_cons, List.flatMap_nil, List.append_nil, ← hc] at hj
  rwa [Array.getElem?_toList] at hj

/-- elements in a new block of their own -/
theorem rows_alloc (c : Enc α) (w : World) (e : TypeId) (l : List α) (cells : Array Value) (hc : cells.toList = l.flatMap c.of) (n : Nat) (hn : l.length ≤ n) : RowAt c (w.alloc (.cells cells e)) (some ⟨w.heap.size, 0, none⟩) n l := by
  refine .inr ⟨_, rfl, hn, fun j u hj => ?_⟩
  rw [add_none, Nat.zero_add, World.cell?_alloc_new]
  rw [← hc] at hj
  rwa [Array.getElem?_toList] at hj

/-- an empty row in a new block -/
theorem owns_empty (w : World) (e : TypeId) (size base : Nat) (hb : base ≤ w.heap.size) : (w.alloc (.cells #[] e)).ownsRow base e size (.slice (some ⟨w.heap.size, 0, none⟩) 0 0) 0 [] := by
  refine ⟨by simp, .inr ⟨w.heap.size, 0, #[], rfl, hb, ?_, Nat.le_refl _, by decide, by simp, by simp⟩⟩
  show (w.heap.push _)[w.heap.size]? = _
  simp
theorem own_empty (w : World) (e : TypeId) (base : Nat) (hb : base ≤ w.heap.size) : Own e (w.alloc (.cells #[] e)) base (.slice (some ⟨w.heap.size, 0, none⟩) 0 0) [] := owns_empty w e 1 base hb
theorem ownE_empty (c : Enc α) (w : World) (e : TypeId) (base : Nat) (hb : base ≤ w.heap.size) : OwnE c e (w.alloc (.cells #[] e)) base (.slice (some ⟨w.heap.size, 0, none⟩) 0 0) [] := owns_empty w e c.size base hb

/-- fields in cells -/
def encF : Enc Fld.F := ⟨fun f => [.int .i64 f.tag, .string f.val], 2, fun _ => rfl, fun f u hu => by
  simp only [List.mem_cons, List.not_mem_nil, or_false] at hu
  rcases hu with rfl | rfl <;> rfl⟩
theorem RowAt.flds {w : World} {a : Option Addr} {cap : Nat} {l : List Fld.F} (h : RowAt encF w a cap l) : Flds w a l := by
  by_cases hn : 0 < l.length
  · obtain ⟨b, off, rfl, hc⟩ := h.at hn (by decide)
    refine .inr ⟨_, rfl, fun i f hf => ⟨?_, ?_⟩⟩
    · have := hc i f hf 0 _ rfl
      rw [add_none]; exact this
    · have := hc i f hf 1 _ rfl
      rw [add_none]; exact this
  · exact .inl (List.length_eq_zero_iff.1 (by omega))

end Go.Proofs.Ytdiegglnfbmpdaa
