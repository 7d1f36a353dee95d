/-
  Rows of the call's own beside one another, and beside stores into other blocks.
-/
import Derived.Test.YtdiegglnfbmpdaaGen
import Derived.Maps.AppendAt
namespace Go.Proofs.Ytdiegglnfbmpdaa
open Go.RowKit

theorem OwnE.grown {α : Type} {c : Enc α} {e : TypeId} {w w' : World} {base : Nat} {v : Value} {l : List α} {r : Option Nat} (h : OwnE c e w base v l) (hg : w.grownBy w' r) (hne : ∀ g, v.ownBlock = some g → r ≠ some g) : OwnE c e w' base v l := by
  unfold OwnE at h ⊢
  refine h.kept hg ?_
  cases hv : v.ownBlock with
  | none => exact .inl rfl
  | some g => exact .inr (fun e => hne g hv e.symm)
theorem OwnE.lt {α : Type} {c : Enc α} {e : TypeId} {w : World} {base : Nat} {v : Value} {l : List α} (h : OwnE c e w base v l) : ∀ g, v.ownBlock = some g → base ≤ g ∧ g < w.heap.size := fun g hg => by
  unfold OwnE at h
  exact h.lt g hg
/-- a store into a block below -/
theorem OwnE.set {α : Type} {c : Enc α} {e : TypeId} {w : World} {base g i : Nat} {v u : Value} {l : List α} (h : OwnE c e w base v l) (hg : g < base) : OwnE c e (w.setCell ⟨g, i, none⟩ u) base v l :=
  h.grown (r := some g) ⟨rfl, rfl, rfl, by simp [World.setCell], fun j _ hj => heap_setCell_other w _ j u (fun e => hj (by rw [e]))⟩ fun k hk e => by
    obtain rfl := Option.some.inj e
    have := (h.lt _ hk).1
    omega
theorem OwnE.setRow {α : Type} {c : Enc α} {e : TypeId} {w : World} {base g : Nat} {v : Value} {l : List α} (h : OwnE c e w base v l) (cs : Array Value) (hg : g < base) : OwnE c e (w.setRow g cs) base v l :=
  h.grown (r := some g) ⟨rfl, rfl, rfl, by simp [World.setRow], fun j _ hj => setRow_other w g j cs (fun e => hj (by rw [e]))⟩ fun k hk e => by
    obtain rfl := Option.some.inj e
    have := (h.lt _ hk).1
    omega
theorem OwnE.at {α : Type} {c : Enc α} {e : TypeId} {w : World} {base q cap : Nat} {a : Option Addr} {l : List α} (h : OwnE c e w base (.slice a q cap) l) : l.length = q ∧ RowAt c w a cap l := by
  obtain ⟨a', cap', he, hr⟩ := h.row
  injection he with h1 h2 h3
  subst h1 h3
  exact ⟨h2.symm, hr⟩
/-- rows in a new block are the call's own -/
theorem row_own {α : Type} (c : Enc α) (w : World) (e : TypeId) (l : List α) (cells : Array Value) (hc : cells.toList = l.flatMap c.of) (n : Nat) (hn : l.length = n) (hm : n ≤ maxLen) (base : Nat) (hb : base ≤ w.heap.size) : OwnE c e (w.alloc (.cells cells e)) base (.slice (some ⟨w.heap.size, 0, none⟩) n n) l := by
  subst hn
  refine ⟨by rw [c.flat_len], .inr ⟨w.heap.size, l.length, cells, rfl, hb, heap_alloc_new w _, Nat.le_refl _, hm, ?_, ?_⟩⟩
  · rw [← Array.length_toList, hc, c.flat_len]
  · rw [hc, List.take_of_length_le (by rw [c.flat_len]; exact Nat.le_refl _)]

/-- two rows that don't share a block -/
def Dj (v o : Value) : Prop := ∀ g, v.ownBlock = some g → o.ownBlock ≠ some g
theorem Dj.symm {v o : Value} (h : Dj v o) : Dj o v := fun g hg he => h g he hg
theorem Dj.nil (o : Value) : Dj (.slice none 0 0) o := fun g hg => by simp [Value.ownBlock] at hg
/-- behind an append to the one the other one stands -/
theorem Dj.other {α : Type} {c : Enc α} {e : TypeId} {w w' : World} {base : Nat} {v o : Value} {l : List α} (h : Dj v o) (ho : OwnE c e w base o l) (hg : w.grownBy w' v.ownBlock) : OwnE c e w' base o l := ho.grown hg fun g hg' he => h g he hg'
theorem Dj.next {α : Type} {c : Enc α} {e : TypeId} {w : World} {base : Nat} {v v' o : Value} {l : List α} (h : Dj v o) (ho : OwnE c e w base o l) (hat : v'.ownBlock = v.ownBlock ∨ v'.ownBlock = some w.heap.size) : Dj v' o := fun g hg he => by
  rcases hat with hat | hat
  · exact h g (hat ▸ hg) he
  · rw [hg] at hat
    obtain rfl := Option.some.inj hat
    exact absurd (ho.lt _ he).2 (Nat.lt_irrefl _)
theorem below_grown {α : Type} {c : Enc α} {e : TypeId} {w w' : World} {base : Nat} {v : Value} {l : List α} (ho : OwnE c e w base v l) (hb : base ≤ w.heap.size) (hg : w.grownBy w' v.ownBlock) : Below base w w' :=
  (Below.refl base w).grown hg hb fun j hj => (ho.lt j hj).1

/-- append of a row to a row of the call's own; what becomes of others of its own -/
theorem wpList_append_row2 {α : Type} {P : Program} {w : World} {ops : Array Oper} {rest : List Oper} {o : Oper} {a : Act} {Q : Exit → Act → World → Prop} (c : Enc α) (hcs : 0 < c.size) (hgd : o.guard = none) (s x : Operand) (t : TypeId)
    (ho : o.op = .call { callee := .builtin .append, args := #[s, x], argTypes := #[t, t] })
    (base : Nat) (e : TypeId) (i : TypeInfo) (z : Value) (bytes : Nat) (ht : P.underlying t = some (.slice e)) (hi : P.info? e = some i) (hz : i.zero = some z)
    (hsize : i.size = c.size) (hby : i.bytes = bytes) (hzs : z.cells.size = c.size)
    (v : Value) (l : List α) (hs : a.eval s = v) (hown : OwnE c e w base v l)
    (y : Addr) (m cap : Nat) (k : List α) (hx : a.eval x = .slice (some y) m cap) (hm : k.length = m) (hb : RowAt c w (some y) cap k)
    (hlen : l.length + k.length ≤ maxLen) (hbytes : (l.length + k.length) * bytes ≤ 140737488355328) (hbase : base ≤ w.heap.size)
    (h : ∀ v' w', OwnE c e w' base v' (l ++ k) → w.grownBy w' v.ownBlock → (v'.ownBlock = v.ownBlock ∨ v'.ownBlock = some w.heap.size) → wpList P ops Q rest (a.put o.dst v') w') : wpList P ops Q (o :: rest) a w := by
  subst hm
  rcases hb with ⟨hy, _⟩ | ⟨y', hy, hl, hc⟩
  · cases hy
  · obtain rfl := Option.some.inj hy
    refine wpList_append_own_at w hgd s x t ho base e i z c.size bytes ht hi hz hsize hby hzs hcs v l.length (l.flatMap c.of) hs hown y k.length cap (k.flatMap c.of) hx (c.flat_len k)
      hc (c.flat_one k) hlen hbytes hbase ?_
    intro v' w' h1 h2 _ h4
    refine h v' w' ?_ h2 h4
    unfold OwnE
    rw [List.length_append, List.flatMap_append]
    exact h1

/-- append of a row, nil or not, at a step of a region that draws its order -/
theorem step_append_any {α : Type} {P : Program} {ops : Array Oper} {o : Oper} {a : Act} {w : World} {K : Act → World → Prop} {Q : Exit → Act → World → Prop} {E : Prop} {tm : Array Value} (c : Enc α) (hcs : 0 < c.size) (hgd : o.guard = none) (s x : Operand) (t : TypeId)
    (ho : o.op = .call { callee := .builtin .append, args := #[s, x], argTypes := #[t, t] })
    (base : Nat) (e : TypeId) (i : TypeInfo) (z : Value) (bytes : Nat) (ht : P.underlying t = some (.slice e)) (hi : P.info? e = some i) (hz : i.zero = some z)
    (hsize : i.size = c.size) (hby : i.bytes = bytes) (hzs : z.cells.size = c.size)
    (v : Value) (l : List α) (hs : a.eval s = v) (hown : OwnE c e w base v l)
    (b : Option Addr) (m cap : Nat) (k : List α) (hx : a.eval x = .slice b m cap) (hm : k.length = m) (hb : RowAt c w b cap k)
    (hlen : l.length + k.length ≤ maxLen) (hbytes : (l.length + k.length) * bytes ≤ 140737488355328) (hbase : base ≤ w.heap.size)
    (h : ∀ v' w', OwnE c e w' base v' (l ++ k) → Below base w w' → Kept e w w' → K (a.put o.dst v') w') : if Region.wanted o (yielded ops tm) = true then Oper.wp P o a w K Q else E := by
  have hw : Region.wanted o (yielded ops tm) = true := by simp [Region.wanted, hgd]
  subst hm
  rcases hb with ⟨rfl, rfl, rfl⟩ | ⟨y, rfl, hl, hc⟩
  · rw [if_pos hw]
    have hrun := run_append_owned_none (P := P) (w := w) base t o.type e i c.size ht hi v l.length (l.flatMap c.of) hown
    unfold Oper.wp
    simp only [execOp, ho, resolve, invoke, builtin, Sem.run_bind, Sem.run_pure, Result.andThen_ok, List.map_toArray, List.map_cons, List.map_nil, hs, hx, List.length_nil, hrun]
    exact h v w (by rw [List.append_nil]; exact hown) (Below.refl _ _) (Kept.of_below (Below.refl _ _))
  · have h2 := step_append_row (ops := ops) (E := E) (Q := Q) c hcs hgd s x t ho base e i z bytes ht hi hz hsize hby hzs v l hs hown y k.length cap k hx rfl (.inr ⟨y, rfl, hl, hc⟩) hlen hbytes hbase h
    rw [if_pos (by simp [Region.wanted, hgd])] at h2
    rw [if_pos hw]
    exact h2

/-- a row that came stands over stores into another block -/
theorem cell_grown {w w' : World} {g : Nat} {x : Addr} {v : Value} (h : w.grownBy w' (some g)) (hc : w.cell? x = some v) (hne : x.block ≠ g) : w'.cell? x = some v := by
  obtain ⟨_, _, _, _, b1⟩ := h
  have := b1 x.block (cell_lt hc) (fun e => hne (Option.some.inj e))
  unfold World.cell? at hc ⊢
  rw [this]
  exact hc
theorem RowAt.grown {α : Type} {c : Enc α} {w w' : World} {g cap : Nat} {a : Option Addr} {l : List α} (h : RowAt c w a cap l) (hg : w.grownBy w' (some g)) (hne : ∀ x, a = some x → 0 < l.length → x.block ≠ g) : RowAt c w' a cap l := by
  rcases h with h | ⟨y, rfl, hl, hc⟩
  · exact .inl h
  · refine .inr ⟨y, rfl, hl, fun j u hu => cell_grown hg (hc j u hu) ?_⟩
    rw [block_add]
    refine hne y rfl ?_
    cases l with
    | nil => simp at hu
    | cons => simp
theorem grown_set1 (w : World) (g i : Nat) (v : Value) : w.grownBy (w.setCell ⟨g, i, none⟩ v) (some g) := ⟨rfl, rfl, rfl, by simp [World.setCell], fun j _ hj => heap_setCell_other w _ j v (fun e => hj (by rw [e]))⟩
/-- it lies in no block that is smaller than an element -/
theorem RowAt.apart {α : Type} {c : Enc α} {w : World} {g cap : Nat} {a : Option Addr} {l : List α} (h : RowAt c w a cap l) (hs : 0 < c.size) {cs : Array Value} {t : TypeId} {fz : Nat × Nat} (hg : w.heap[g]? = some (.cells cs t fz)) (hlt : cs.size < c.size) :
    ∀ x, a = some x → 0 < l.length → x.block ≠ g := by
  rintro x rfl hn rfl
  obtain ⟨b, off, e, hc⟩ := h.at hn hs
  obtain rfl := Option.some.inj e
  cases l with
  | nil => cases hn
  | cons y r =>
    have hz : (c.of y)[c.size - 1]? = some ((c.of y)[c.size - 1]'(by rw [c.len]; omega)) := List.getElem?_eq_getElem _
    have h1 := hc 0 y rfl _ _ hz
    rw [cell_of_row w _ _ cs t fz hg, Array.getElem?_eq_none (by omega)] at h1
    cases h1

/-- this address lies in a block of this type -/
def Ty (e : TypeId) (w : World) (a : Option Addr) : Prop := ∀ x, a = some x → ∃ (cs : Array Value) (m : Nat × Nat), w.heap[x.block]? = some (.cells cs e m)
theorem Ty.nil (e : TypeId) (w : World) : Ty e w none := fun _ h => nomatch h
theorem Ty.later {e : TypeId} {w w' : World} {a : Option Addr} (h : Ty e w a) (hb : Below w.heap.size w w') : Ty e w' a := fun x hx => by
  obtain ⟨cs, m, h⟩ := h x hx
  exact ⟨cs, m, by rw [hb.block _ (Array.getElem?_eq_some_iff.1 h).1]; exact h⟩
theorem Ty.setRow {e : TypeId} {w : World} {a : Option Addr} (h : Ty e w a) (g : Nat) (new : Array Value) : Ty e (w.setRow g new) a := fun x hx => by
  obtain ⟨cs, m, h⟩ := h x hx
  by_cases hg : x.block = g
  · subst hg
    exact ⟨new, m, setRow_heap w _ cs new e m h⟩
  · exact ⟨cs, m, (setRow_other w g _ new hg).trans h⟩
theorem Ty.same {e : TypeId} {w : World} {a b : Option Addr} (h : Ty e w a) (hs : ∀ x, b = some x → ∃ y, a = some y ∧ x.block = y.block) : Ty e w b := fun x hx => by
  obtain ⟨y, hy, e⟩ := hs x hx
  rw [e]
  exact h y hy
theorem OwnE.ty {α : Type} {c : Enc α} {e : TypeId} {w : World} {base q cap : Nat} {a : Option Addr} {l : List α} (h : OwnE c e w base (.slice a q cap) l) : Ty e w a := fun x hx => by
  unfold OwnE at h
  rcases h.2 with ⟨h0, _⟩ | ⟨g, _, cur, he, _, hg, _⟩
  · injection h0 with h1
    rw [h1] at hx
    cases hx
  · injection he with h1
    rw [h1] at hx
    obtain rfl := Option.some.inj hx
    exact ⟨cur, _, hg⟩

end Go.Proofs.Ytdiegglnfbmpdaa
