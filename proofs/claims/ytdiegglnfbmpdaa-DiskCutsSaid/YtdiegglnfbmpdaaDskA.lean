/-
  A disk in memory; bytes of the call's own beside others; what the calls of layer 9 tell.
-/
import Derived.Test.YtdiegglnfbmpdaaPlDisk
import Derived.Test.YtdiegglnfbmpdaaMemG
import Derived.Test.YtdiegglnfbmpdaaOwn2
import Derived.Test.YtdiegglnfbmpdaaLaid
import Derived.Test.YtdiegglnfbmpdaaProg
namespace Go.Proofs.Ytdiegglnfbmpdaa
open Go.RowKit
namespace Dsk

/-- bytes as a row -/
def encU : Enc UInt8 := ⟨fun c => [.int .u8 (c.toNat : Int)], 1, fun _ => rfl, fun c u hu => by
  obtain rfl := List.mem_singleton.1 hu
  rfl⟩
theorem flat_u (l : List UInt8) : l.flatMap encU.of = byteVs l := by
  unfold byteVs
  induction l with
  | nil => rfl
  | cons c r ih => rw [List.flatMap_cons, List.map_cons, ih]; rfl
theorem own_row {e : TypeId} {w : World} {base : Nat} {v : Value} {l : List UInt8} (h : Own e w base v l) : OwnE encU e w base v l := by
  unfold OwnE
  rw [flat_u]
  exact h
theorem own_of_row {e : TypeId} {w : World} {base : Nat} {v : Value} {l : List UInt8} (h : OwnE encU e w base v l) : Own e w base v l := by
  unfold OwnE at h
  rw [flat_u] at h
  exact h
theorem bytes_row {w : World} {a : Option Addr} {cap : Nat} {l : List UInt8} (h : BytesAt w a cap l) : RowAt encU w a cap l := by
  rcases h with ⟨h1, h2, h3⟩ | ⟨x, rfl, hl, hc⟩
  · exact .inl ⟨h1, h2, h3⟩
  · refine .inr ⟨x, rfl, hl, fun j u hu => ?_⟩
    rw [flat_u] at hu
    obtain ⟨hj, rfl⟩ := byteVs_get hu
    exact hc j hj
theorem bytes_grown {w w' : World} {a : Option Addr} {cap : Nat} {l : List UInt8} {r : Option Nat} (h : BytesAt w a cap l) (hg : w.grownBy w' r) (hne : l ≠ [] → ∀ x, a = some x → r ≠ some x.block) : BytesAt w' a cap l := by
  rcases h with h | ⟨x, rfl, hl, hc⟩
  · exact .inl h
  · refine .inr ⟨x, rfl, hl, fun i hi => Eq.trans (World.cell?_of_block (w := w) ?_) (hc i hi)⟩
    have hlt := cell_lt (hc i hi)
    rw [block_add] at hlt ⊢
    refine hg.block _ hlt (fun e => hne (by rintro rfl; simp at hi) x rfl e.symm)
theorem bytes_setRow {w : World} {a : Option Addr} {cap g : Nat} {l : List UInt8} (h : BytesAt w a cap l) {old : Array Value} {t : TypeId} {fz : Nat × Nat} (hg : w.heap[g]? = some (.cells old t fz)) (ho : ∀ v ∈ old.toList, ∀ n, v ≠ .int .u8 n) (cs : Array Value) : BytesAt (w.setRow g cs) a cap l := by
  rcases h with h | ⟨x, rfl, hl, hc⟩
  · exact .inl h
  · refine .inr ⟨x, rfl, hl, fun i hi => Eq.trans (World.cell?_of_block (w := w) ?_) (hc i hi)⟩
    have h1 := hc i hi
    rw [block_add]
    refine setRow_other w g _ cs (fun e => ?_)
    obtain ⟨b, off, spot⟩ := x
    have hspot : spot = none := by simpa [Addr.add] using World.cell?_spot (hc 0 (by omega))
    dsimp only at e
    subst hspot e
    rw [add_none, cell_of_row w b _ old t fz hg] at h1
    exact ho _ (by rw [← Array.getElem?_toList] at h1; exact List.mem_of_getElem? h1) _ rfl
/-- a beginning of the call's own bytes is its own -/
theorem own_takeN {e : TypeId} {w : World} {base q cap n : Nat} {a : Option Addr} {l : List UInt8} (h : Own e w base (.slice a q cap) l) (hn : n ≤ l.length) : Own e w base (.slice a n cap) (l.take n) := by
  unfold Own at h ⊢
  have hl : (l.take n).length = n := by rw [List.length_take]; omega
  refine ⟨by rw [byteVs_length, Nat.mul_one], ?_⟩
  rcases h.2 with ⟨h0, h1⟩ | ⟨g, c, cur, he, hb, hg, hc, hm, hs, ht⟩
  · injection h0 with e1 e2 e3
    subst e1 e3
    refine .inl ⟨?_, by omega⟩
    rw [show n = 0 by omega]
  · injection he with e1 e2 e3
    subst e1 e3
    refine .inr ⟨g, cap, cur, by rw [hl], hb, hg, by omega, hm, hs, ?_⟩
    rw [hl, Nat.mul_one]
    have h2 := congrArg (List.take n) ht
    rw [Nat.mul_one, List.take_take, Nat.min_eq_left hn] at h2
    rw [h2]
    unfold byteVs
    rw [List.map_take]
theorem own_len {e : TypeId} {w : World} {base q cap : Nat} {a : Option Addr} {l : List UInt8} (h : Own e w base (.slice a q cap) l) : l.length = q := by
  obtain ⟨a', c', he, _⟩ := h.bytes
  injection he with _ h _
  exact h.symm
theorem own_lt {e : TypeId} {w : World} {base : Nat} {v : Value} {l : List UInt8} (h : Own e w base v l) : ∀ k, v.ownBlock = some k → base ≤ k ∧ k < w.heap.size := fun k hk => (own_row h).lt k hk

/-- append of bytes that came to bytes of the call's own: only its own block turns -/
theorem wpList_append_by {P : Program} {w : World} {ops : Array Oper} {rest : List Oper} {o : Oper} {a : Act} {Q : Exit → Act → World → Prop} (hgd : o.guard = none) (s x : Operand) (t : TypeId)
    (ho : o.op = .call { callee := .builtin .append, args := #[s, x], argTypes := #[t, t] })
    (base : Nat) (e : TypeId) (i : TypeInfo) (z : Value) (ht : P.underlying t = some (.slice e)) (hi : P.info? e = some i) (hz : i.zero = some z)
    (hsize : i.size = 1) (hby : i.bytes = 1) (hzs : z.cells.size = 1)
    (v : Value) (l : List UInt8) (hs : a.eval s = v) (hown : Own e w base v l)
    (b : Option Addr) (m cap : Nat) (k : List UInt8) (hx : a.eval x = .slice b m cap) (hm : k.length = m) (hb : BytesAt w b cap k)
    (hlen : l.length + k.length ≤ 70368744177664) (hbase : base ≤ w.heap.size)
    (h : ∀ v' w', Own e w' base v' (l ++ k) → w.grownBy w' v.ownBlock → (v'.ownBlock = v.ownBlock ∨ v'.ownBlock = some w.heap.size) → wpList P ops Q rest (a.put o.dst v') w') : wpList P ops Q (o :: rest) a w := by
  rcases b with _ | y
  · have hk : k = [] ∧ cap = 0 := by
      rcases hb with ⟨_, h1, h2⟩ | ⟨_, h1, _⟩
      · exact ⟨h1, h2⟩
      · cases h1
    obtain ⟨rfl, rfl⟩ := hk
    subst hm
    refine wpList_append_own_none (base := base) (e := e) (i := i) (size := 1) hgd s x t ho ht hi v l.length (l.flatMap encU.of) hs (own_row hown) hx ?_
    refine h v w (by rw [List.append_nil]; exact hown) ⟨rfl, rfl, rfl, Nat.le_refl _, fun _ _ _ => rfl⟩ (.inl rfl)
  · refine wpList_append_row2 encU (by decide) hgd s x t ho base e i z 1 ht hi hz hsize hby hzs v l hs (own_row hown) y m cap k hx hm (bytes_row hb) (by unfold maxLen; omega) (by omega) hbase ?_
    intro v' w' h1 h2 h3
    exact h v' w' (own_of_row h1) h2 h3

/-- where a disk's slices lie, and what room they have -/
structure Hs where
  s0 : Option Addr × Nat
  t0 : Option Addr × Nat
  s1 : Option Addr × Nat
  t1 : Option Addr × Nat
def Hs.no : Hs := ⟨(none, 0), (none, 0), (none, 0), (none, 0)⟩
def Dk.arr (d : Dk) (h : Hs) : Array Value :=
  #[.slice h.s0.1 d.f0.safe.length h.s0.2, .slice h.t0.1 d.f0.tail.length h.t0.2, .slice h.s1.1 d.f1.safe.length h.s1.2, .slice h.t1.1 d.f1.tail.length h.t1.2]
theorem dk_one (d : Dk) (h : Hs) : (d.arr h).all (·.oneCell') = true := by
  unfold Dk.arr
  simp [Value.oneCell']
theorem dk_info (d : Dk) (h : Hs) : (Try.prog.info? 29).map (·.size) = some (d.arr h).size := by
  rw [show (d.arr h).size = 4 from rfl]
  kernel_rfl
structure DkAt (w : World) (d : Dk) (h : Hs) : Prop where
  s0 : BytesAt w h.s0.1 h.s0.2 d.f0.safe
  t0 : BytesAt w h.t0.1 h.t0.2 d.f0.tail
  s1 : BytesAt w h.s1.1 h.s1.2 d.f1.safe
  t1 : BytesAt w h.t1.1 h.t1.2 d.f1.tail
theorem DkAt.later {w w' : World} {d : Dk} {h : Hs} (k : DkAt w d h) (hb : Below w.heap.size w w') : DkAt w' d h := ⟨k.s0.later hb, k.t0.later hb, k.s1.later hb, k.t1.later hb⟩
/-- bytes lie where P says, or there are none -/
def Blk (P : Nat → Prop) (a : Option Addr) (l : List UInt8) : Prop := l ≠ [] → ∀ x, a = some x → P x.block
structure DkIn (P : Nat → Prop) (d : Dk) (h : Hs) : Prop where
  s0 : Blk P h.s0.1 d.f0.safe
  t0 : Blk P h.t0.1 d.f0.tail
  s1 : Blk P h.s1.1 d.f1.safe
  t1 : Blk P h.t1.1 d.f1.tail
theorem Blk.mono {P Q : Nat → Prop} {a : Option Addr} {l : List UInt8} (h : Blk P a l) (hp : ∀ k, P k → Q k) : Blk Q a l := fun hl x hx => hp _ (h hl x hx)
theorem DkIn.mono {P Q : Nat → Prop} {d : Dk} {h : Hs} (k : DkIn P d h) (hp : ∀ n, P n → Q n) : DkIn Q d h := ⟨k.s0.mono hp, k.t0.mono hp, k.s1.mono hp, k.t1.mono hp⟩
theorem blk_lt {w : World} {a : Option Addr} {cap : Nat} {l : List UInt8} (h : BytesAt w a cap l) : Blk (· < w.heap.size) a l := fun hl x hx => by
  subst hx
  rcases h with ⟨h, _⟩ | ⟨y, hy, _, hc⟩
  · cases h
  · obtain rfl := Option.some.inj hy
    have hn : 0 < l.length := List.length_pos_iff.2 hl
    have := cell_lt (hc 0 hn)
    rwa [block_add] at this
theorem DkAt.lt {w : World} {d : Dk} {h : Hs} (k : DkAt w d h) : DkIn (· < w.heap.size) d h := ⟨blk_lt k.s0, blk_lt k.t0, blk_lt k.s1, blk_lt k.t1⟩
theorem DkIn.and {P Q : Nat → Prop} {d : Dk} {h : Hs} (k : DkIn P d h) (m : DkIn Q d h) : DkIn (fun n => P n ∧ Q n) d h :=
  ⟨fun a x b => ⟨k.s0 a x b, m.s0 a x b⟩, fun a x b => ⟨k.t0 a x b, m.t0 a x b⟩, fun a x b => ⟨k.s1 a x b, m.s1 a x b⟩, fun a x b => ⟨k.t1 a x b, m.t1 a x b⟩⟩
theorem DkAt.grown {w w' : World} {d : Dk} {h : Hs} {v : Value} (k : DkAt w d h) (hg : w.grownBy w' v.ownBlock) (hd : DkIn (fun n => v.ownBlock ≠ some n) d h) : DkAt w' d h :=
  ⟨bytes_grown k.s0 hg hd.s0, bytes_grown k.t0 hg hd.t0, bytes_grown k.s1 hg hd.s1, bytes_grown k.t1 hg hd.t1⟩

/-- a disk in its block -/
def DkBox (w : World) (g : Nat) (d : Dk) (h : Hs) : Prop := w.heap[g]? = some (.cells (d.arr h) 29 (0, 0))
theorem DkBox.later {w w' : World} {g : Nat} {d : Dk} {h : Hs} (k : DkBox w g d h) (hb : Below w.heap.size w w') : DkBox w' g d h := below_block k hb
theorem DkBox.range {w : World} {g : Nat} {d : Dk} {h : Hs} (k : DkBox w g d h) : w.rangeAt g 0 (d.arr h).toList := block_range k
theorem DkBox.lt {w : World} {g : Nat} {d : Dk} {h : Hs} (k : DkBox w g d h) : g < w.heap.size := (Array.getElem?_eq_some_iff.1 k).1
theorem DkBox.put {w : World} {g : Nat} {d : Dk} {h : Hs} (k : DkBox w g d h) (d' : Dk) (h' : Hs) : DkBox (w.setRow g (d'.arr h')) g d' h' := setRow_heap w g _ _ _ _ k
theorem arr_nobyte (d : Dk) (h : Hs) : ∀ v ∈ (d.arr h).toList, ∀ n, v ≠ .int .u8 n := by
  intro v hv n e
  subst e
  unfold Dk.arr at hv
  simp at hv
theorem DkBox.bytes {w : World} {g cap : Nat} {d : Dk} {h : Hs} {a : Option Addr} {l : List UInt8} (k : DkBox w g d h) (hb : BytesAt w a cap l) (cs : Array Value) : BytesAt (w.setRow g cs) a cap l := bytes_setRow hb k (arr_nobyte d h) cs
theorem DkBox.disk {w : World} {g : Nat} {d d' : Dk} {h h' : Hs} (k : DkBox w g d h) (hb : DkAt w d' h') (cs : Array Value) : DkAt (w.setRow g cs) d' h' := ⟨k.bytes hb.s0 cs, k.bytes hb.t0 cs, k.bytes hb.s1 cs, k.bytes hb.t1 cs⟩
theorem DkBox.other {w : World} {g z : Nat} {d : Dk} {h : Hs} (k : DkBox w g d h) (hne : g ≠ z) (cs : Array Value) : DkBox (w.setRow z cs) g d h := (setRow_other w z g cs (fun e => hne e)).trans k

/-- what Write, Sync, Cut tell -/
def GotK (w : World) (hin : (Nat → Prop) → Prop) (r : Dk × Int) (e : Ending) (w' : World) : Prop :=
  ∃ h, e = .returned (.tuple #[.agg (r.1.arr h), .int .i64 r.2]) ∧ DkAt w' r.1 h ∧ Below w.heap.size w w' ∧ ∀ P : Nat → Prop, (∀ k, w.heap.size ≤ k → P k) → hin P → DkIn P r.1 h
/-- what Crash tells -/
def GotC (w : World) (hin : (Nat → Prop) → Prop) (r : Dk) (e : Ending) (w' : World) : Prop :=
  ∃ h, e = .returned (.agg (r.arr h)) ∧ DkAt w' r h ∧ Below w.heap.size w w' ∧ ∀ P : Nat → Prop, (∀ k, w.heap.size ≤ k → P k) → hin P → DkIn P r h
/-- what Read tells -/
def GotB (w : World) (l : List UInt8) (e : Ending) (w' : World) : Prop := ∃ a cap, e = .returned (.slice a l.length cap) ∧ BytesAt w' a cap l ∧ Below w.heap.size w w'

theorem load_disk {ρ : Operand → Value} {d : Option Tmp} {ty : TypeId} {x : Operand} {pos : String} {af : Array Edge} {gd : Option (Nat × Bool)} {w : World} (hp : ρ x = .pointer (some ⟨blkOf (ρ x), offOf (ρ x), none⟩)) (h : CellsOk w (blkOf (ρ x)) (offOf (ρ x)) 4) :
    (execOp ρ ⟨d, .load 29 x, ty, pos, af, gd⟩).run Try.prog w = .ok (.value (.agg (cellsAt w (blkOf (ρ x)) (offOf (ρ x)) 4))) w :=
  run_load_cells 4 _ Try.underlying29 rfl (by kernel_rfl) hp h

end Dsk
end Go.Proofs.Ytdiegglnfbmpdaa
