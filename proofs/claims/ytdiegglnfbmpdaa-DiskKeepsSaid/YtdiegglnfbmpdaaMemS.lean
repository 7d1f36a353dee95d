/-
  Appending a string's bytes to bytes of the call's own.
-/
import Derived.Test.YtdiegglnfbmpdaaMem
import Derived.Lib.AppendStr
namespace Go.Proofs.Ytdiegglnfbmpdaa
open Go.RowKit

theorem strCells_eq (s : ByteArray) : Lib.strCells s = byteVs s.data.toList := rfl

/-- blocks of other types stand as they were -/
def Kept (e : TypeId) (w w' : World) : Prop := ∀ (q : Nat) (cs : Array Value) (e' : TypeId) (m : Nat × Nat), e' ≠ e → w.heap[q]? = some (Obj.cells cs e' m) → w'.heap[q]? = some (Obj.cells cs e' m)
theorem Kept.of_below {e : TypeId} {w w' : World} (h : Below w.heap.size w w') : Kept e w w' := fun q cs e' m _ hq => by
  rw [h.block q (Array.getElem?_eq_some_iff.1 hq).1]; exact hq
theorem Kept.trans {e : TypeId} {a b c : World} (h : Kept e a b) (k : Kept e b c) : Kept e a c := fun q cs e' m hn hq => k q cs e' m hn (h q cs e' m hn hq)
theorem Kept.of_grown {e : TypeId} {w w' : World} {base size n : Nat} {v : Value} {xs : List Value} (hown : w.ownsRow base e size v n xs) (hg : w.grownBy w' v.ownBlock) : Kept e w w' := fun q cs e' m hn hq => by
  rw [hg.block q (Array.getElem?_eq_some_iff.1 hq).1 ?_]; exact hq
  intro heq
  rcases hown.2 with ⟨rfl, _⟩ | ⟨g, cap, cur, rfl, _, hgg, _⟩
  · simp [Value.ownBlock] at heq
  · simp [Value.ownBlock] at heq
    subst heq
    rw [hgg] at hq
    injection hq with hq
    injection hq with _ h2 _
    exact hn h2.symm
/-- a slot of two cells -/
def Slot2 (w : World) (q : Nat) (u v : Value) (t : TypeId) : Prop := w.heap[q]? = some (Obj.cells #[u, v] t (0, 0))
theorem Slot2.made (w : World) (u v : Value) (t : TypeId) : Slot2 (w.alloc (.cells #[u, v] t)) w.heap.size u v t := heap_alloc_new w _
theorem Slot2.kept {w w' : World} {q : Nat} {u v : Value} {t e : TypeId} (h : Slot2 w q u v t) (hk : Kept e w w') (hn : t ≠ e) : Slot2 w' q u v t := hk q _ t _ hn h
theorem Slot2.later {w w' : World} {q : Nat} {u v : Value} {t : TypeId} (h : Slot2 w q u v t) (hb : Below w.heap.size w w') : Slot2 w' q u v t := by
  unfold Slot2
  rw [hb.block q (Array.getElem?_eq_some_iff.1 h).1]; exact h
theorem Slot2.cells {w : World} {q : Nat} {u v : Value} {t : TypeId} (h : Slot2 w q u v t) : w.cell? ⟨q, 0, none⟩ = some u ∧ w.cell? ⟨q, 1, none⟩ = some v :=
  ⟨by rw [cell_of_row w q 0 _ t _ h]; rfl, by rw [cell_of_row w q 1 _ t _ h]; rfl⟩

/-- memory that lies below b, or in a block of this type -/
def Safe (e : TypeId) (b : Nat) (w : World) (a : Option Addr) : Prop := ∀ x, a = some x → x.block < b ∨ ∃ (cs : Array Value) (m : Nat × Nat), w.heap[x.block]? = some (Obj.cells cs e m)
theorem Safe.nil (e : TypeId) (b : Nat) (w : World) : Safe e b w none := fun _ h => nomatch h
theorem Safe.later {e : TypeId} {b : Nat} {w w' : World} {a : Option Addr} (h : Safe e b w a) (hb : Below w.heap.size w w') : Safe e b w' a := fun x hx => by
  rcases h x hx with h | ⟨cs, m, h⟩
  · exact .inl h
  · exact .inr ⟨cs, m, by rw [hb.block _ (Array.getElem?_eq_some_iff.1 h).1]; exact h⟩
theorem Safe.kept {e e' : TypeId} {b : Nat} {w w' : World} {a : Option Addr} (h : Safe e b w a) (hk : Kept e' w w') (hn : e ≠ e') : Safe e b w' a := fun x hx => by
  rcases h x hx with h | ⟨cs, m, h⟩
  · exact .inl h
  · exact .inr ⟨cs, m, hk _ cs e m hn h⟩
theorem Safe.mono {e : TypeId} {b b' : Nat} {w : World} {a : Option Addr} (h : Safe e b w a) (hb : b ≤ b') : Safe e b' w a := fun x hx => (h x hx).imp (fun h => Nat.lt_of_lt_of_le h hb) id
theorem Safe.at {e : TypeId} {b : Nat} {w : World} {g o o' : Nat} (h : Safe e b w (some ⟨g, o, none⟩)) : Safe e b w (some ⟨g, o', none⟩) := fun x hx => by
  obtain rfl := Option.some.inj hx
  exact h ⟨g, o, none⟩ rfl
theorem BytesAt.safe {e e' : TypeId} {b cap : Nat} {w w' : World} {a : Option Addr} {l : List UInt8} (h : BytesAt w a cap l) (hs : Safe e b w a) (hb : Below b w w') (hk : Kept e' w w') (hn : e ≠ e') : BytesAt w' a cap l := by
  rcases h with h | ⟨x, rfl, hl, hc⟩
  · exact .inl h
  · refine .inr ⟨x, rfl, hl, fun i hi => ?_⟩
    rw [← hc i hi]
    refine World.cell?_of_block (w := w) ?_
    rw [block_add]
    rcases hs x rfl with h | ⟨cs, m, h⟩
    · exact hb.block _ h
    · rw [hk _ cs e m hn h, h]
/-- bytes below b are safe -/
theorem Safe.below {e : TypeId} {cap : Nat} {w : World} {a : Option Addr} {l : List UInt8} (h : BytesAt w a cap l) (hn : 0 < l.length) : Safe e w.heap.size w a := fun x hx => by
  rcases h with ⟨h, _⟩ | ⟨y, hy, _, hc⟩
  · rw [h] at hx; cases hx
  · rw [hy] at hx
    obtain rfl := Option.some.inj hx
    have := cell_lt (hc 0 hn)
    rw [block_add] at this
    exact .inl this

/-- append of bytes to bytes of the call's own: blocks of other types stand -/
theorem wpList_append_bytes_k {P : Program} {w : World} {ops : Array Oper} {rest : List Oper} {o : Oper} {a : Act} {Q : Exit → Act → World → Prop} (hgd : o.guard = none) (s x : Operand) (t : TypeId)
    (ho : o.op = .call { callee := .builtin .append, args := #[s, x], argTypes := #[t, t] })
    (base : Nat) (e : TypeId) (i : TypeInfo) (z : Value) (ht : P.underlying t = some (.slice e)) (hi : P.info? e = some i) (hz : i.zero = some z)
    (hsize : i.size = 1) (hby : i.bytes = 1) (hzs : z.cells.size = 1)
    (v : Value) (l : List UInt8) (hs : a.eval s = v) (hown : Own e w base v l)
    (b : Option Addr) (m cap : Nat) (k : List UInt8) (hx : a.eval x = .slice b m cap) (hm : k.length = m) (hb : BytesAt w b cap k)
    (hlen : l.length + k.length ≤ 70368744177664) (hbase : base ≤ w.heap.size)
    (h : ∀ v' w', Own e w' base v' (l ++ k) → Below base w w' → Kept e w w' → wpList P ops Q rest (a.put o.dst v') w') : wpList P ops Q (o :: rest) a w := by
  subst hm
  rcases hb with ⟨rfl, rfl, rfl⟩ | ⟨y, rfl, hl, hc⟩
  · refine wpList_append_own_none (base := base) (e := e) (i := i) (size := 1) hgd s x t ho ht hi v l.length (byteVs l) hs hown hx ?_
    exact h v w (by rw [List.append_nil]; exact hown) (Below.refl _ _) (Kept.of_below (Below.refl _ _))
  · refine wpList_append_own w hgd s x t ho base e i z 1 1 ht hi hz hsize hby hzs (by decide) v l.length (byteVs l) hs hown y k.length cap (byteVs k) hx (by rw [byteVs_length]; omega)
      (fun j u hu => by obtain ⟨hj, rfl⟩ := byteVs_get hu; exact hc j hj) (byteVs_one k) (by unfold maxLen; omega) (by omega) hbase ?_
    intro v' w' h1 h2 _
    refine h v' w' ?_ ((Below.refl base w).grown h2 hbase fun j hj => (hown.lt j hj).1) (Kept.of_grown hown h2)
    unfold Own
    rw [List.length_append, byteVs_append]
    exact h1

/-- append of a string's bytes to bytes of the call's own -/
theorem wpList_append_str {P : Program} {w : World} {ops : Array Oper} {rest : List Oper} {o : Oper} {a : Act} {Q : Exit → Act → World → Prop} (hgd : o.guard = none) (s x : Operand) (t u : TypeId)
    (ho : o.op = .call { callee := .builtin .append, args := #[s, x], argTypes := #[t, u] })
    (base : Nat) (e : TypeId) (i : TypeInfo) (ht : P.underlying t = some (.slice e)) (hu : P.underlying u = some .string) (hi : P.info? e = some i) (hz : i.zero = some (.int .u8 0))
    (hsize : i.size = 1) (hby : i.bytes = 1)
    (v : Value) (l : List UInt8) (hs : a.eval s = v) (hown : Own e w base v l)
    (k : ByteArray) (hx : a.eval x = .string k)
    (hlen : l.length + k.size ≤ 70368744177664) (hbase : base ≤ w.heap.size)
    (h : ∀ v' w', Own e w' base v' (l ++ k.data.toList) → Below base w w' → Kept e w w' → wpList P ops Q rest (a.put o.dst v') w') : wpList P ops Q (o :: rest) a w := by
  refine Lib.wpList_append_own_string w hgd s x t u ho base e i ht hu hi hz hsize hby v l.length (byteVs l) hs hown k hx (by unfold maxLen; omega) (by omega) hbase ?_
  intro v' w' h1 h2 _
  refine h v' w' ?_ ((Below.refl base w).grown h2 hbase fun j hj => (hown.lt j hj).1) (Kept.of_grown hown h2)
  unfold Own
  rw [List.length_append, byteVs_append]
  exact h1

end Go.Proofs.Ytdiegglnfbmpdaa
