/-
  A session that came in, acts and bools that came in, as the row reads them.
-/
import Derived.Test.YtnmmokdkngccjaaSesT
import Derived.Deep.Slices
import Derived.Deep.Fields
import Derived.ChangeSame
import Derived.OpenShut
namespace Go.Proofs.Ytnmmokdkngccjaa
open Go.ChangeShapes Go.WideShapes Go.Deep Go.RowKit
namespace Ses
open Msg (I64)

section
variable {H : Type} {enc : TypeId × Value → H} {P : Program} {w : World} {base : Nat} {spare : Nat → Bool} {held : Bool}
/-- a struct's fields, each by itself -/
theorem open_fields {t : TypeId} (hu : P.underlying t = some (.struct (P.fieldsOf t))) {L : List (String × TypeId × Nat)} (hL : ((P.fieldsOf t).toList.map fun f => (f.name, f.type, f.offset)) = L)
    {fuel : Nat} {cs : List Value} {x : DataW H × List MemPlace} (h : DataW.trod enc P w base spare held fuel t cs = some x) :
    cs.length = P.cellsOf t ∧ ∀ (i : Nat) (nm : String) (ty : TypeId) (o : Nat), L[i]? = some (nm, ty, o) → ∃ n y, DataW.trod enc P w base spare held n ty ((cs.drop o).take (P.cellsOf ty)) = some y := by
  obtain ⟨xs, n, _, _, hlen, hsz, hf⟩ := DataW.trod_struct hu h
  refine ⟨hlen, fun i nm ty o hi => ?_⟩
  rw [← hL, List.getElem?_map] at hi
  cases hx : (P.fieldsOf t).toList[i]? with
  | none => rw [hx] at hi; cases hi
  | some f =>
    rw [hx, Option.map_some] at hi
    have hi := Option.some.inj hi
    simp only [Prod.mk.injEq] at hi
    obtain ⟨_, h2, h3⟩ := hi
    have h0 := hf i f (by rw [← Array.getElem?_toList, hx])
    have hlt : i < xs.length := by
      have := (List.getElem?_eq_some_iff.1 hx).1
      rw [hsz, ← Array.length_toList]
      exact this
    rw [h2, h3, List.getElem?_eq_getElem hlt] at h0
    exact ⟨n, _, h0⟩
theorem open_rows {α : Type} (c : Enc α) (Fit : α → Prop) {e : TypeId} (hce : P.cellsOf e = c.size) (hs : 0 < c.size)
    (hof : ∀ (n : Nat) (u : List Value) (y : DataW H × List MemPlace), DataW.trod enc P w base spare held n e u = some y → ∃ x, u = c.of x ∧ Fit x)
    {t : TypeId} (ht : P.underlying t = some (.slice e)) {fuel : Nat} {cs : List Value} {x : DataW H × List MemPlace} (h : DataW.trod enc P w base spare held fuel t cs = some x) :
    ∃ a len cap, cs = [.slice a len cap] ∧ len ≤ maxLen ∧ ∃ l : List α, l.length = len ∧ RowAt c w a cap l ∧ ∀ x ∈ l, Fit x := by
  rcases open_slice ht h with ⟨h0, _⟩ | ⟨a, len, cap, m, n, D, Pl, hcs, hb, hl, hm, hmm, _, hi⟩
  · exact ⟨none, 0, 0, h0, Nat.zero_le _, [], rfl, .inl ⟨rfl, rfl, rfl⟩, fun _ h => by cases h⟩
  · refine ⟨some a, len, cap, hcs, Nat.le_trans hl hm, ?_⟩
    rw [hce] at hi
    obtain ⟨l, h1, h2, h3⟩ := rows_list c Fit (w := w) (a := a) len fun i hlt => by
      obtain ⟨cs', hc, htr⟩ := hi i (by rw [hmm]; split <;> omega)
      obtain ⟨x, rfl, hf⟩ := hof _ _ _ htr
      obtain ⟨_, _, hat⟩ := World.cells?_some hc
      refine ⟨x, fun j u hu => ?_, hf⟩
      have hj : j < c.size := by
        rcases Nat.lt_or_ge j (c.of x).length with h | h
        · rwa [c.len] at h
        · rw [List.getElem?_eq_none h] at hu; cases hu
      have g := hat j hj
      rw [Go.Proofs.Ytnmmokdkngccjaa.add_add] at g
      rw [g, hu]
    refine ⟨l, h1, .inr ⟨a, rfl, by omega, fun j u hu => ?_⟩, h3⟩
    obtain ⟨i, r, f, rfl, hr, hf, hv⟩ := c.flat_at hs hu
    exact h2 i f hf r u hv
end

section
variable {H : Type} {enc : TypeId × Value → H} {w : World} {base : Nat} {spare : Nat → Bool} {held : Bool}
theorem open_bools {fuel : Nat} {cs : List Value} {x : DataW H × List MemPlace} (h : DataW.trod enc Try.prog w base spare held fuel 44 cs = some x) : ∃ a len cap l, cs = [.slice a len cap] ∧ IsBls w a len cap l := by
  obtain ⟨a, len, cap, hcs, hm, l, h1, h2, _⟩ := open_rows encB (fun _ => True) (e := 4) (by kernel_rfl) (by decide) (fun n u y h => by
    obtain ⟨b, hb, _⟩ := DataW.trod_bool Try.underlying4 h
    exact ⟨b, hb, trivial⟩) Try.underlying44 h
  exact ⟨a, len, cap, l, hcs, h1, hm, h2⟩
theorem actU : Try.prog.underlying 38 = some (.struct (Try.prog.fieldsOf 38)) := by kernel_rfl
theorem actL : ((Try.prog.fieldsOf 38).toList.map fun f => (f.name, f.type, f.offset)) = [("Kind", 5, 0), ("M", 36, 1), ("More", 5, 19)] := by kernel_rfl
theorem open_act {fuel : Nat} {cs : List Value} {x : DataW H × List MemPlace} (h : DataW.trod enc Try.prog w base spare held fuel 38 cs = some x) : ∃ y : Ac, cs = y.arr.toList ∧ y.Fits := by
  obtain ⟨hlen, hf⟩ := open_fields actU actL h
  rw [show Try.prog.cellsOf 38 = 20 by kernel_rfl] at hlen
  obtain ⟨_, _, h0⟩ := hf 0 _ _ _ rfl
  obtain ⟨_, _, h1⟩ := hf 1 _ _ _ rfl
  obtain ⟨_, _, h2⟩ := hf 2 _ _ _ rfl
  rw [show Try.prog.cellsOf 5 = 1 by kernel_rfl] at h0 h2
  rw [show Try.prog.cellsOf 36 = 18 by kernel_rfl] at h1
  obtain ⟨k, ek, _, wk⟩ := DataW.trod_int Try.underlying5 h0
  obtain ⟨m, em, fm⟩ := Msg.ms_of (open_flat Msg.fitsMs h1)
  obtain ⟨r, er, _, wr⟩ := DataW.trod_int Try.underlying5 h2
  refine ⟨⟨k, m, r⟩, ?_, bounds_u8 wk, fm, bounds_u8 wr⟩
  rw [Ac.arr_list, ← em]
  have e1 : cs = cs.take 1 ++ ((cs.drop 1).take 18 ++ (cs.drop 19)) := by
    have h3 : cs.drop 19 = (cs.drop 1).drop 18 := by rw [List.drop_drop]
    rw [h3, List.take_append_drop, List.take_append_drop]
  rw [List.drop_zero] at ek
  have e2 : cs.drop 19 = [.int .u8 r] := by
    rw [← er]
    exact (List.take_of_length_le (by rw [List.length_drop, hlen]; exact Nat.le_refl _)).symm
  rw [ek, e2] at e1
  exact e1
theorem open_acts {fuel : Nat} {cs : List Value} {x : DataW H × List MemPlace} (h : DataW.trod enc Try.prog w base spare held fuel 22 cs = some x) : ∃ a len cap l, cs = [.slice a len cap] ∧ IsAcs w a len cap l := by
  obtain ⟨a, len, cap, hcs, hm, l, h1, h2, h3⟩ := open_rows encA Ac.Fits (e := 38) (by kernel_rfl) (by decide) (fun n u y h => open_act h) Try.underlying22 h
  exact ⟨a, len, cap, l, hcs, h1, hm, h2, h3⟩
theorem sessU : Try.prog.underlying 28 = some (.struct (Try.prog.fieldsOf 28)) := by kernel_rfl
theorem sessL : ((Try.prog.fieldsOf 28).toList.map fun f => (f.name, f.type, f.offset)) = [("State", 3, 0), ("In", 26, 1), ("Out", 2, 3), ("Every", 2, 4), ("Heard", 2, 5), ("Said", 2, 6), ("Asked", 2, 7), ("When", 2, 8), ("Tested", 4, 9)] := by kernel_rfl
set_option maxRecDepth 100000 in
theorem open_sess {fuel : Nat} {cs : List Value} {x : DataW H × List MemPlace} (h : DataW.trod enc Try.prog w base spare held fuel 28 cs = some x) : ∃ (s : Se) (a : Option Addr) (len cap : Nat), cs = (s.arr a len cap).toList ∧ IsSe w s a len cap := by
  obtain ⟨hlen, hf⟩ := open_fields sessU sessL h
  rw [show Try.prog.cellsOf 28 = 10 by kernel_rfl] at hlen
  have i64 : ∀ (i : Nat) (nm : String) (o : Nat), ([("State", 3, 0), ("In", 26, 1), ("Out", 2, 3), ("Every", 2, 4), ("Heard", 2, 5), ("Said", 2, 6), ("Asked", 2, 7), ("When", 2, 8), ("Tested", 4, 9)] : List (String × TypeId × Nat))[i]? = some (nm, 2, o) → ∃ n, (cs.drop o).take 1 = [.int .i64 n] ∧ I64 n := fun i nm o hi => by
    obtain ⟨_, _, h0⟩ := hf i nm _ o hi
    rw [show Try.prog.cellsOf 2 = 1 by kernel_rfl] at h0
    obtain ⟨n, en, _, wn⟩ := DataW.trod_int Try.underlying2 h0
    exact ⟨n, en, bounds_i64 wn⟩
  obtain ⟨_, _, h0⟩ := hf 0 _ _ _ rfl
  obtain ⟨_, _, h1⟩ := hf 1 _ _ _ rfl
  obtain ⟨_, _, h9⟩ := hf 8 _ _ _ rfl
  rw [show Try.prog.cellsOf 3 = 1 by kernel_rfl] at h0
  rw [show Try.prog.cellsOf 26 = 2 by kernel_rfl] at h1
  rw [show Try.prog.cellsOf 4 = 1 by kernel_rfl] at h9
  obtain ⟨st, est, _, wst⟩ := DataW.trod_int Try.underlying3 h0
  obtain ⟨nx, a, len, cap, l, el, fnx, hits⟩ := Rsq.open_line h1
  obtain ⟨tt, ett, _⟩ := DataW.trod_bool Try.underlying4 h9
  obtain ⟨v3, e3, f3⟩ := i64 2 _ _ rfl
  obtain ⟨v4, e4, f4⟩ := i64 3 _ _ rfl
  obtain ⟨v5, e5, f5⟩ := i64 4 _ _ rfl
  obtain ⟨v6, e6, f6⟩ := i64 5 _ _ rfl
  obtain ⟨v7, e7, f7⟩ := i64 6 _ _ rfl
  obtain ⟨v8, e8, f8⟩ := i64 7 _ _ rfl
  match cs, hlen with
  | [c0, c1, c2, c3, c4, c5, c6, c7, c8, c9], _ =>
    have g0 : c0 = .int .i64 st := by simpa using est
    have g1 : c1 = .int .i64 nx ∧ c2 = .slice a len cap := by simpa using el
    have g3 : c3 = .int .i64 v3 := by simpa using e3
    have g4 : c4 = .int .i64 v4 := by simpa using e4
    have g5 : c5 = .int .i64 v5 := by simpa using e5
    have g6 : c6 = .int .i64 v6 := by simpa using e6
    have g7 : c7 = .int .i64 v7 := by simpa using e7
    have g8 : c8 = .int .i64 v8 := by simpa using e8
    have g9 : c9 = .bool tt := by simpa using ett
    refine ⟨⟨st, ⟨nx, l⟩, v3, v4, v5, v6, v7, v8, tt⟩, a, len, cap, ?_, ⟨bounds_i64 wst, fnx, f3, f4, f5, f6, f7, f8⟩, hits⟩
    rw [g0, g1.1, g1.2, g3, g4, g5, g6, g7, g8, g9]
    rfl
end

end Ses
end Go.Proofs.Ytnmmokdkngccjaa
