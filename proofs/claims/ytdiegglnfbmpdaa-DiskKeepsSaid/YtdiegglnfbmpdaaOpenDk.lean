/-
  A disk that came in, things done with one, two numbers, as the row reads them.
-/
import Derived.Test.YtdiegglnfbmpdaaOpenBs
import Derived.Test.YtdiegglnfbmpdaaStepDk
namespace Go.Proofs.Ytdiegglnfbmpdaa
open Go.ChangeShapes Go.WideShapes Go.Deep Go.RowKit
namespace Dsk

section
variable {H : Type} {enc : TypeId × Value → H} {P : Program} {w : World} {base : Nat} {spare : Nat → Bool} {held : Bool}
/-- a struct's fields, each by itself -/
theorem open_fields {t : TypeId} (hu : P.underlying t = some (.struct (P.fieldsOf t))) {L : List (String × TypeId × Nat)} (hL : ((P.fieldsOf t).toList.map fun f => (f.name, f.type, f.offset)) = L)
    {fuel : Nat} {cs : List Value} {x : DataW H × List MemPlace} (h : DataW.trod enc P w base spare held fuel t cs = some x) :
    cs.length = P.cellsOf t ∧ ∀ (i : Nat) (nm : String) (ty : TypeId) (o : Nat), L[i]? = some (nm, ty, o) → ∃ n y, DataW.trod enc P w base spare held n ty ((cs.drop o).take (P.cellsOf ty)) = some y := by
  obtain ⟨xs, n, _, _, hlen, hsz, hf⟩ := DataW.trod_struct hu h
  refine ⟨hlen, fun i nm ty o hi => ?_⟩
  rw [← hL, List.getElem?_map] at hi
  cases hx : (P.fieldsOf t).toList[i]? with
  | none => rw [hx] at hi; cases hi
  | some f =>
    rw [hx, Option.map_some] at hi
    have hi := Option.some.inj hi
    simp only [Prod.mk.injEq] at hi
    obtain ⟨_, h2, h3⟩ := hi
    have h0 := hf i f (by rw [← Array.getElem?_toList, hx])
    have hlt : i < xs.length := by
      have := (List.getElem?_eq_some_iff.1 hx).1
      rw [hsz, ← Array.length_toList]
      exact this
    rw [h2, h3, List.getElem?_eq_getElem hlt] at h0
    exact ⟨n, _, h0⟩
/-- an array's elements, each by itself -/
theorem open_elems {t e : TypeId} {n : Nat} (hu : P.underlying t = some (.array n e)) {fuel : Nat} {cs : List Value} {x : DataW H × List MemPlace} (h : DataW.trod enc P w base spare held fuel t cs = some x) :
    cs.length = P.cellsOf t ∧ ∀ i, i < n → ∃ m y, DataW.trod enc P w base spare held m e ((cs.drop (i * P.cellsOf e)).take (P.cellsOf e)) = some y := by
  obtain ⟨xs, m, _, _, hlen, hn, hf⟩ := DataW.trod_array hu h
  refine ⟨hlen, fun i hi => ?_⟩
  have h0 := hf i hi
  rw [List.getElem?_eq_getElem (by omega)] at h0
  exact ⟨m, _, h0⟩
end

section
variable {H : Type} {enc : TypeId × Value → H} {w : World} {base : Nat} {spare : Nat → Bool} {held : Bool}
theorem open_two {fuel : Nat} {cs : List Value} {x : DataW H × List MemPlace} (h : DataW.trod enc Try.prog w base spare held fuel 37 cs = some x) : ∃ a b, cs = [.int .i64 a, .int .i64 b] := by
  obtain ⟨hlen, hf⟩ := open_elems Try.underlying37 h
  rw [show Try.prog.cellsOf 37 = 2 by kernel_rfl] at hlen
  obtain ⟨_, _, h0⟩ := hf 0 (by decide)
  obtain ⟨_, _, h1⟩ := hf 1 (by decide)
  rw [show Try.prog.cellsOf 3 = 1 by kernel_rfl] at h0 h1
  match cs, hlen with
  | [c0, c1], _ =>
    obtain ⟨a, ea, _, _⟩ := DataW.trod_int Try.underlying3 h0
    obtain ⟨b, eb, _, _⟩ := DataW.trod_int Try.underlying3 h1
    refine ⟨a, b, ?_⟩
    simp at ea eb
    rw [ea, eb]
theorem fileU : Try.prog.underlying 26 = some (.struct (Try.prog.fieldsOf 26)) := by kernel_rfl
theorem fileL : ((Try.prog.fieldsOf 26).toList.map fun f => (f.name, f.type, f.offset)) = [("Safe", 24, 0), ("Tail", 24, 1)] := by kernel_rfl
theorem open_file {fuel : Nat} {cs : List Value} {x : DataW H × List MemPlace} (h : DataW.trod enc Try.prog w base spare held fuel 26 cs = some x) :
    ∃ (f : Fi) (a b : Option Addr × Nat), cs = [.slice a.1 f.safe.length a.2, .slice b.1 f.tail.length b.2] ∧ BytesAt w a.1 a.2 f.safe ∧ BytesAt w b.1 b.2 f.tail := by
  obtain ⟨hlen, hf⟩ := open_fields fileU fileL h
  rw [show Try.prog.cellsOf 26 = 2 by kernel_rfl] at hlen
  obtain ⟨_, _, h0⟩ := hf 0 _ _ _ rfl
  obtain ⟨_, _, h1⟩ := hf 1 _ _ _ rfl
  rw [show Try.prog.cellsOf 24 = 1 by kernel_rfl] at h0 h1
  match cs, hlen with
  | [c0, c1], _ =>
    obtain ⟨s, es, ys, ls, hs⟩ := Crc.open_bys h0
    obtain ⟨t, et, yt, lt, ht⟩ := Crc.open_bys h1
    refine ⟨⟨ys, yt⟩, (s.1, s.2.2), (t.1, t.2.2), ?_, hs, ht⟩
    have e0 : c0 = .slice s.1 s.2.1 s.2.2 := by simpa [encS] using es
    have e1 : c1 = .slice t.1 t.2.1 t.2.2 := by simpa [encS] using et
    dsimp only
    rw [ls, lt, e0, e1]
theorem diskU : Try.prog.underlying 29 = some (.struct (Try.prog.fieldsOf 29)) := by kernel_rfl
theorem diskL : ((Try.prog.fieldsOf 29).toList.map fun f => (f.name, f.type, f.offset)) = [("Files", 27, 0)] := by kernel_rfl
theorem open_disk {fuel : Nat} {cs : List Value} {x : DataW H × List MemPlace} (h : DataW.trod enc Try.prog w base spare held fuel 29 cs = some x) : ∃ (d : Dk) (k : Hs), cs = (d.arr k).toList ∧ DkAt w d k := by
  obtain ⟨hlen, hf⟩ := open_fields diskU diskL h
  rw [show Try.prog.cellsOf 29 = 4 by kernel_rfl] at hlen
  obtain ⟨_, _, h0⟩ := hf 0 _ _ _ rfl
  rw [show Try.prog.cellsOf 27 = 4 by kernel_rfl] at h0
  obtain ⟨_, hg⟩ := open_elems Try.underlying27 h0
  obtain ⟨_, _, g0⟩ := hg 0 (by decide)
  obtain ⟨_, _, g1⟩ := hg 1 (by decide)
  rw [show Try.prog.cellsOf 26 = 2 by kernel_rfl] at g0 g1
  match cs, hlen with
  | [c0, c1, c2, c3], _ =>
    obtain ⟨f, a, b, ef, hs, ht⟩ := open_file g0
    obtain ⟨f', a', b', ef', hs', ht'⟩ := open_file g1
    refine ⟨⟨f, f'⟩, ⟨a, b, a', b'⟩, ?_, hs, ht, hs', ht'⟩
    simp at ef ef'
    unfold Dk.arr
    rw [ef.1, ef.2, ef'.1, ef'.2]
theorem doU : Try.prog.underlying 31 = some (.struct (Try.prog.fieldsOf 31)) := by kernel_rfl
theorem doL : ((Try.prog.fieldsOf 31).toList.map fun f => (f.name, f.type, f.offset)) = [("Kind", 5, 0), ("Bytes", 24, 1), ("Keep", 5, 2)] := by kernel_rfl
theorem open_do {fuel : Nat} {cs : List Value} {x : DataW H × List MemPlace} (h : DataW.trod enc Try.prog w base spare held fuel 31 cs = some x) : ∃ d : Dr, cs = encD.of d ∧ d.Ok w := by
  obtain ⟨hlen, hf⟩ := open_fields doU doL h
  rw [show Try.prog.cellsOf 31 = 3 by kernel_rfl] at hlen
  obtain ⟨_, _, h0⟩ := hf 0 _ _ _ rfl
  obtain ⟨_, _, h1⟩ := hf 1 _ _ _ rfl
  obtain ⟨_, _, h2⟩ := hf 2 _ _ _ rfl
  rw [show Try.prog.cellsOf 5 = 1 by kernel_rfl] at h0 h2
  rw [show Try.prog.cellsOf 24 = 1 by kernel_rfl] at h1
  match cs, hlen with
  | [c0, c1, c2], _ =>
    obtain ⟨k, ek, _, wk⟩ := DataW.trod_int Try.underlying5 h0
    obtain ⟨t, et, y, ly, hy⟩ := Crc.open_bys h1
    obtain ⟨r, er, _, wr⟩ := DataW.trod_int Try.underlying5 h2
    refine ⟨⟨k, t, r⟩, ?_, bounds_u8 wk, bounds_u8 wr, y, ly, hy⟩
    have e0 : c0 = .int .u8 k := by simpa using ek
    have e1 : c1 = .slice t.1 t.2.1 t.2.2 := by simpa [encS] using et
    have e2 : c2 = .int .u8 r := by simpa using er
    rw [e0, e1, e2]
    rfl
theorem open_dos {fuel : Nat} {cs : List Value} {x : DataW H × List MemPlace} (h : DataW.trod enc Try.prog w base spare held fuel 22 cs = some x) : ∃ a len cap l, cs = [.slice a len cap] ∧ IsDos w a len cap l := by
  obtain ⟨a, len, cap, hcs, hm, l, h1, h2, h3⟩ := Crc.open_rows encD (fun d => d.Ok w) (e := 31) (by kernel_rfl) (by decide) (fun n u y h => open_do h) Try.underlying22 h
  exact ⟨a, len, cap, l, hcs, h1, hm, h2, h3⟩
end

end Dsk
end Go.Proofs.Ytdiegglnfbmpdaa
