/-
  Slices of bytes and of fields in memory: what it is to read as a list, to be the call's own, and that both last.
-/
import Derived.Test.YtdiegglnfbmpdaaPlField
import Derived.Test.YtdiegglnfbmpdaaTools
import Derived.Laws.AppendOwn
import Derived.Laws.AppendOwnNone
import Derived.Laws.IdiomStrings
import Derived.Laws.BytesArg
import Derived.Lib.ConvBytes
import Derived.Lib.AtoiErrMem
namespace Go.Proofs.Ytdiegglnfbmpdaa
open Go.RowKit

/-- bytes, as cells hold them -/
def byteVs (l : List UInt8) : List Value := l.map fun c => .int .u8 (c.toNat : Int)
theorem byteVs_length (l : List UInt8) : (byteVs l).length = l.length := by simp [byteVs]
theorem byteVs_append (l m : List UInt8) : byteVs (l ++ m) = byteVs l ++ byteVs m := by simp [byteVs]
theorem byteVs_get {l : List UInt8} {j : Nat} {u : Value} (h : (byteVs l)[j]? = some u) : ∃ hj : j < l.length, u = .int .u8 (l[j].toNat : Int) := by
  unfold byteVs at h
  rw [List.getElem?_map] at h
  rcases Nat.lt_or_ge j l.length with hj | hj
  · refine ⟨hj, ?_⟩
    rw [List.getElem?_eq_getElem hj] at h
    exact (Option.some.inj h).symm
  · rw [List.getElem?_eq_none hj] at h; cases h
theorem byteVs_one (l : List UInt8) : ∀ u ∈ byteVs l, u.oneCell' = true := by
  intro u hu
  unfold byteVs at hu
  rw [List.mem_map] at hu
  obtain ⟨c, _, rfl⟩ := hu
  rfl

/-- the slice value with this address, length and capacity holds the bytes -/
def BytesAt (w : World) (a : Option Addr) (cap : Nat) (l : List UInt8) : Prop :=
  (a = none ∧ l = [] ∧ cap = 0) ∨ ∃ x, a = some x ∧ l.length ≤ cap ∧ ∀ i (h : i < l.length), w.cell? (x.add i) = some (.int .u8 (l[i].toNat : Int))

theorem block_add (x : Addr) (i : Nat) : (x.add i).block = x.block := by unfold Addr.add; split <;> rfl
theorem BytesAt.later {w w' : World} {a : Option Addr} {cap : Nat} {l : List UInt8} (h : BytesAt w a cap l) (hb : Below w.heap.size w w') : BytesAt w' a cap l := by
  rcases h with h | ⟨x, rfl, hl, hc⟩
  · exact .inl h
  · refine .inr ⟨x, rfl, hl, fun i hi => ?_⟩
    have h1 := hc i hi
    rw [hb.cell (p := x.add i) (cell_lt h1)]
    exact h1
theorem BytesAt.at {w : World} {a : Option Addr} {cap : Nat} {l : List UInt8} (h : BytesAt w a cap l) (hn : 0 < l.length) :
    ∃ b off, a = some ⟨b, off, none⟩ ∧ ∀ i (h : i < l.length), w.cell? ⟨b, off + i, none⟩ = some (.int .u8 (l[i].toNat : Int)) := by
  rcases h with ⟨_, rfl, _⟩ | ⟨⟨b, off, spot⟩, rfl, hl, hc⟩
  · simp at hn
  · have h0 := hc 0 hn
    have hspot : spot = none := by simpa [Addr.add] using World.cell?_spot h0
    subst hspot
    exact ⟨b, off, rfl, fun i hi => by have := hc i hi; rwa [add_none] at this⟩
theorem BytesAt.cap {w : World} {a : Option Addr} {cap : Nat} {l : List UInt8} (h : BytesAt w a cap l) : l.length ≤ cap := by
  rcases h with ⟨_, rfl, _⟩ | ⟨_, _, h, _⟩
  · exact Nat.zero_le _
  · exact h
theorem BytesAt.drop {w : World} {x : Addr} {cap : Nat} {l : List UInt8} (h : BytesAt w (some x) cap l) (n : Nat) (hn : n ≤ l.length) : BytesAt w (some (x.add n)) (cap - n) (l.drop n) := by
  rcases h with ⟨h, _⟩ | ⟨y, hy, hl, hc⟩
  · cases h
  · obtain rfl := Option.some.inj hy
    refine .inr ⟨_, rfl, by rw [List.length_drop]; omega, fun i hi => ?_⟩
    rw [List.length_drop] at hi
    rw [add_add, hc (n + i) (by omega), List.getElem_drop]
theorem BytesAt.take {w : World} {a : Option Addr} {cap : Nat} {l : List UInt8} (h : BytesAt w a cap l) (n : Nat) : BytesAt w a cap (l.take n) := by
  rcases h with ⟨rfl, rfl, rfl⟩ | ⟨x, rfl, hl, hc⟩
  · exact .inl ⟨rfl, by simp, rfl⟩
  · refine .inr ⟨x, rfl, by rw [List.length_take]; omega, fun i hi => ?_⟩
    rw [List.length_take] at hi
    rw [hc i (by omega), List.getElem_take]

/-- 'string(b)' -/
theorem string_of {P : Program} {w : World} {src dst e : TypeId} (hs : P.underlying src = some (.slice e)) (he : P.underlying e = some (.int .u8)) (hd : P.underlying dst = some .string)
    {a : Option Addr} {cap : Nat} {l : List UInt8} (h : BytesAt w a cap l) (n : Nat) (hn : l.length = n) : (convert src dst (.slice a n cap)).run P w = .ok (.string ⟨l.toArray⟩) w := by
  subst hn
  rcases h with ⟨rfl, rfl, rfl⟩ | ⟨x, rfl, hl, hc⟩
  · exact run_convert_bytes_nil w src e hs he 0 0 dst hd
  · exact run_convert_bytes_back w src dst e x cap l hs he hd hc

/-- the step of 'string(b)' -/
theorem wpList_string_of {P : Program} {w : World} {ops : Array Oper} {rest : List Oper} {o : Oper} {a : Act} {Q : Exit → Act → World → Prop} (hgd : o.guard = none) (src dst e : TypeId) (x : Operand)
    (ho : o.op = .convert src dst x) (hs : P.underlying src = some (.slice e)) (hd : P.underlying dst = some .string) (he : P.underlying e = some (.int .u8))
    (b : Option Addr) (n cap : Nat) (l : List UInt8) (hx : a.eval x = .slice b n cap) (hb : BytesAt w b cap l) (hn : l.length = n)
    (h : wpList P ops Q rest (a.put o.dst (.string ⟨l.toArray⟩)) w) : wpList P ops Q (o :: rest) a w := by
  refine wpList_plain hgd fun K hK => ?_
  have hrun := string_of (P := P) (w := w) hs he hd hb n hn
  unfold Oper.wp execOp
  simp only [ho, Sem.run_bind, Sem.run_pure, Result.andThen_ok, hx, hrun]
  exact hK _ _ h

/-- bytes that the call has made itself, in blocks from base on -/
def Own (e : TypeId) (w : World) (base : Nat) (v : Value) (l : List UInt8) : Prop := w.ownsRow base e 1 v l.length (byteVs l)
theorem Own.nil (e : TypeId) (w : World) (base : Nat) : Own e w base (.slice none 0 0) [] := World.ownsRow_nil w base e 1
theorem Own.bytes {e : TypeId} {w : World} {base : Nat} {v : Value} {l : List UInt8} (h : Own e w base v l) : ∃ a cap, v = .slice a l.length cap ∧ BytesAt w a cap l := by
  unfold Own at h
  rcases h.2 with ⟨rfl, h0⟩ | ⟨g, cap, cur, rfl, _, _, hl, _⟩
  · obtain rfl : l = [] := List.length_eq_zero_iff.1 h0
    exact ⟨none, 0, rfl, .inl ⟨rfl, rfl, rfl⟩⟩
  · refine ⟨_, cap, rfl, .inr ⟨_, rfl, hl, fun i hi => ?_⟩⟩
    exact h.cells rfl i _ (by unfold byteVs; rw [List.getElem?_map, List.getElem?_eq_getElem hi]; rfl)
theorem Own.kept {e : TypeId} {w w' : World} {base : Nat} {v : Value} {l : List UInt8} (h : Own e w base v l) (hb : Below w.heap.size w w') : Own e w' base v l := by
  unfold Own at h ⊢
  have hg : w.grownBy w' none := ⟨hb.os, hb.tape, hb.output, hb.size, fun k hk _ => hb.block k hk⟩
  exact h.kept hg (by cases v.ownBlock <;> simp)
theorem Own.mono {e : TypeId} {w : World} {base base' : Nat} {v : Value} {l : List UInt8} (h : Own e w base v l) (hb : base' ≤ base) : Own e w base' v l := by
  refine ⟨h.1, ?_⟩
  rcases h.2 with h0 | ⟨g, cap, cur, h1, h2, h3⟩
  · exact .inl h0
  · exact .inr ⟨g, cap, cur, h1, Nat.le_trans hb h2, h3⟩

/-- bytes that a call tells, made by itself, and a number beside them; nothing that was there has turned -/
def RetBytes (e : TypeId) (w : World) (l : List UInt8) (n : Int) (en : Ending) (w' : World) : Prop :=
  (∃ v, en = .returned (.tuple #[v, .int .i64 n]) ∧ Own e w' w.heap.size v l) ∧ Below w.heap.size w w'

/-- append of bytes to bytes of the call's own -/
theorem wpList_append_bytes {P : Program} {w : World} {ops : Array Oper} {rest : List Oper} {o : Oper} {a : Act} {Q : Exit → Act → World → Prop} (hgd : o.guard = none) (s x : Operand) (t : TypeId)
    (ho : o.op = .call { callee := .builtin .append, args := #[s, x], argTypes := #[t, t] })
    (base : Nat) (e : TypeId) (i : TypeInfo) (z : Value) (ht : P.underlying t = some (.slice e)) (hi : P.info? e = some i) (hz : i.zero = some z)
    (hsize : i.size = 1) (hby : i.bytes = 1) (hzs : z.cells.size = 1)
    (v : Value) (l : List UInt8) (hs : a.eval s = v) (hown : Own e w base v l)
    (b : Option Addr) (m cap : Nat) (k : List UInt8) (hx : a.eval x = .slice b m cap) (hm : k.length = m) (hb : BytesAt w b cap k)
    (hlen : l.length + k.length ≤ 70368744177664) (hbase : base ≤ w.heap.size)
    (h : ∀ v' w', Own e w' base v' (l ++ k) → Below base w w' → wpList P ops Q rest (a.put o.dst v') w') : wpList P ops Q (o :: rest) a w := by
  subst hm
  rcases hb with ⟨rfl, rfl, rfl⟩ | ⟨y, rfl, hl, hc⟩
  · refine wpList_append_own_none (base := base) (e := e) (i := i) (size := 1) hgd s x t ho ht hi v l.length (byteVs l) hs hown hx ?_
    exact h v w (by rw [List.append_nil]; exact hown) (Below.refl _ _)
  · refine wpList_append_own w hgd s x t ho base e i z 1 1 ht hi hz hsize hby hzs (by decide) v l.length (byteVs l) hs hown y k.length cap (byteVs k) hx (by rw [byteVs_length]; omega)
      (fun j u hu => by obtain ⟨hj, rfl⟩ := byteVs_get hu; exact hc j hj) (byteVs_one k) (by unfold maxLen; omega) (by omega) hbase ?_
    intro v' w' h1 h2 _
    refine h v' w' ?_ ((Below.refl base w).grown h2 hbase fun j hj => (hown.lt j hj).1)
    unfold Own
    rw [List.length_append, byteVs_append]
    exact h1

/-- the bytes of a string that was turned into a slice -/
theorem bytes_of_string (w : World) (e : TypeId) (s : ByteArray) : BytesAt (Lib.bytesWorld w e s) (some ⟨w.heap.size, 0, none⟩) (grownCap w s.size 0 e) s.data.toList := by
  refine .inr ⟨_, rfl, grownCap_ge w s.size 0 e, fun i hi => ?_⟩
  have h1 : i < s.size := hi
  rw [add_none, Nat.zero_add, Lib.bytesWorld_cell w e s i h1]
  rw [List.getD_eq_getElem?_getD, List.getElem?_eq_getElem hi]
  rfl

/-- one byte in a new block of its own -/
theorem one_byte (w : World) (e : TypeId) (c : UInt8) (n : Int) (hn : n = (c.toNat : Int)) : BytesAt (w.alloc (.cells #[.int .u8 n] e)) (some ⟨w.heap.size, 0, none⟩) 1 [c] := by
  subst hn
  refine .inr ⟨_, rfl, by simp, fun i hi => ?_⟩
  obtain rfl : i = 0 := by simp at hi; exact hi
  rw [add_none, World.cell?_alloc_new]
  rfl

/-- '[]byte(s)': new bytes, which nobody else has -/
theorem wpList_bytes_of {P : Program} {w : World} {ops : Array Oper} {rest : List Oper} {o : Oper} {a : Act} {Q : Exit → Act → World → Prop} (hgd : o.guard = none) (src dst e : TypeId) (x : Operand)
    (ho : o.op = .convert src dst x) (s : ByteArray) (hs : P.underlying src = some .string) (hd : P.underlying dst = some (.slice e)) (he : P.underlying e = some (.int .u8)) (hx : a.eval x = .string s)
    (h : ∀ (ad : Option Addr) (cap : Nat) w', BytesAt w' ad cap s.data.toList → Below w.heap.size w w' → wpList P ops Q rest (a.put o.dst (.slice ad s.size cap)) w') : wpList P ops Q (o :: rest) a w := by
  refine wpList_plain hgd fun K hK => ?_
  have hrun := Lib.run_convert_string_bytes (P := P) w src dst e s hs hd he
  unfold Oper.wp execOp
  simp only [ho, Sem.run_bind, Sem.run_pure, Result.andThen_ok, hx, hrun]
  exact hK _ _ (h _ _ _ (bytes_of_string w e s) (Lib.bytesWorld_below w e s))

/-- fields, as cells hold them -/
def Flds (w : World) (a : Option Addr) (l : List Fld.F) : Prop :=
  l = [] ∨ ∃ x, a = some x ∧ ∀ i f, l[i]? = some f → w.cell? (x.add (i * 2)) = some (.int .i64 f.tag) ∧ w.cell? (x.add (i * 2 + 1)) = some (.string f.val)
theorem Flds.later {w w' : World} {a : Option Addr} {l : List Fld.F} (h : Flds w a l) (hb : Below w.heap.size w w') : Flds w' a l := by
  rcases h with h | ⟨x, rfl, hc⟩
  · exact .inl h
  · refine .inr ⟨x, rfl, fun i f hi => ?_⟩
    have ⟨h1, h2⟩ := hc i f hi
    exact ⟨(hb.cell (p := x.add (i * 2)) (cell_lt h1)).trans h1, (hb.cell (p := x.add (i * 2 + 1)) (cell_lt h2)).trans h2⟩
theorem Flds.at {w : World} {a : Option Addr} {l : List Fld.F} (h : Flds w a l) (hn : 0 < l.length) :
    ∃ b off, a = some ⟨b, off, none⟩ ∧ ∀ i f, l[i]? = some f → w.cell? ⟨b, off + i * 2, none⟩ = some (.int .i64 f.tag) ∧ w.cell? ⟨b, off + i * 2 + 1, none⟩ = some (.string f.val) := by
  rcases h with rfl | ⟨⟨b, off, spot⟩, rfl, hc⟩
  · simp at hn
  · have h0 := (hc 0 _ (List.getElem?_eq_getElem hn)).1
    have hspot : spot = none := by simpa [Addr.add] using World.cell?_spot h0
    subst hspot
    exact ⟨b, off, rfl, fun i f hi => by have := hc i f hi; rwa [add_none, add_none] at this⟩

end Go.Proofs.Ytdiegglnfbmpdaa
