/-
  Flat structs (of ints, bools, strings, and such structs): how an argument of that kind reads, and how two of them compare.
-/
import Derived.Test.YtnmmokdkngccjaaTools
import Derived.Test.YtnmmokdkngccjaaProg
import Derived.WalkKit
import Derived.Laws.StructEq
import Derived.Deep.Fields
import Derived.ChangeSame
import Derived.OpenShut
namespace Go.Proofs.Ytnmmokdkngccjaa
open Go.ChangeShapes Go.WideShapes Go.Deep Go.RowKit

/-- the shape: a cell's kind, or the fields, one behind the other -/
inductive Fl
  | i | b | s | nil
  | cons (h r : Fl)
def Fl.size : Fl → Nat
  | .i => 1 | .b => 1 | .s => 1 | .nil => 0
  | .cons h r => h.size + r.size
/-- does a struct's list of fields have this shape? -/
def fitsF (P : Program) : Fl → List Field → Nat → Bool
  | .nil, [], _ => true
  | .cons h r, f :: fs, o =>
    !(f.name == "_") && !(h.size == 0) && f.offset == o && P.cellsOf f.type == h.size && fitsF P r fs (o + h.size) &&
    (match P.underlying f.type, h with
      | some (.int .i64), .i => true
      | some .bool, .b => true
      | some .string, .s => true
      | some (.struct gs), .cons h1 h2 => !P.stoodInHeld f.type && fitsF P (.cons h1 h2) gs.toList 0
      | _, _ => false)
  | _, _, _ => false
def fitsT (P : Program) (fl : Fl) (t : TypeId) : Bool :=
  match P.underlying t with
  | some (.struct fs) => P.cellsOf t == fl.size && !P.stoodInHeld t && fitsF P fl fs.toList 0
  | _ => false

/-- cells of a shape -/
inductive Cs : Fl → List Value → Prop
  | i (n : Int) (h : -9223372036854775808 ≤ n ∧ n ≤ 9223372036854775807) : Cs .i [.int .i64 n]
  | b (x : Bool) : Cs .b [.bool x]
  | s (x : ByteArray) (h : x.size ≤ 9223372036854775807) : Cs .s [.string x]
  | nil : Cs .nil []
  | cons {f r : Fl} {u v : List Value} (h : Cs f u) (k : Cs r v) : Cs (.cons f r) (u ++ v)
theorem Cs.len {f : Fl} {u : List Value} (h : Cs f u) : u.length = f.size := by
  induction h with
  | i => rfl
  | b => rfl
  | s => rfl
  | nil => rfl
  | cons h k ih1 ih2 => rw [List.length_append, ih1, ih2]; rfl
theorem Cs.cons_inv {f r : Fl} {u : List Value} (h : Cs (.cons f r) u) : ∃ a b, u = a ++ b ∧ Cs f a ∧ Cs r b := by cases h with | cons h k => exact ⟨_, _, rfl, h, k⟩
theorem Cs.i_inv {u : List Value} (h : Cs .i u) : ∃ n, u = [.int .i64 n] ∧ -9223372036854775808 ≤ n ∧ n ≤ 9223372036854775807 := by cases h with | i n h => exact ⟨n, rfl, h⟩
theorem Cs.b_inv {u : List Value} (h : Cs .b u) : ∃ x, u = [.bool x] := by cases h with | b n => exact ⟨n, rfl⟩
theorem Cs.s_inv {u : List Value} (h : Cs .s u) : ∃ x : ByteArray, u = [.string x] ∧ x.size ≤ 9223372036854775807 := by cases h with | s n h => exact ⟨n, rfl, h⟩
theorem Cs.nil_inv {u : List Value} (h : Cs .nil u) : u = [] := by cases h; rfl

/-! ### how an argument reads -/
section
variable {H : Type} {enc : TypeId × Value → H} {P : Program} {w : World} {base : Nat} {spare : Nat → Bool} {held : Bool}
theorem open_fs : ∀ (fl : Fl) (fs : List Field) (o fuel : Nat) (cs : List Value), fitsF P fl fs o = true →
    (∀ f ∈ fs, ∃ y, DataW.trod enc P w base spare held fuel f.type ((cs.drop f.offset).take (P.cellsOf f.type)) = some y) → o + fl.size ≤ cs.length → Cs fl ((cs.drop o).take fl.size)
  | .nil, [], o, _, cs, _, _, _ => by
    rw [show Fl.size .nil = 0 from rfl, List.take_zero]
    exact .nil
  | .nil, f :: fs, o, _, cs, h, _, _ => by unfold fitsF at h; cases h
  | .i, fs, o, _, cs, h, _, _ => by unfold fitsF at h; cases h
  | .b, fs, o, _, cs, h, _, _ => by unfold fitsF at h; cases h
  | .s, fs, o, _, cs, h, _, _ => by unfold fitsF at h; cases h
  | .cons h r, [], o, _, cs, hf, _, _ => by unfold fitsF at hf; cases hf
  | .cons h r, f :: fs, o, fuel, cs, hf, ht, hl => by
    unfold fitsF at hf
    simp only [Bool.and_eq_true, beq_iff_eq] at hf
    obtain ⟨⟨⟨⟨⟨hn1, hn2⟩, ho⟩, hc⟩, hr⟩, hk⟩ := hf
    clear hn1 hn2
    have hsz : (Fl.cons h r).size = h.size + r.size := rfl
    have ih := open_fs r fs (o + h.size) fuel cs hr (fun g hg => ht g (List.mem_cons_of_mem _ hg)) (by omega)
    obtain ⟨y, hy⟩ := ht f List.mem_cons_self
    rw [ho, hc] at hy
    have hsplit : (cs.drop o).take (h.size + r.size) = (cs.drop o).take h.size ++ (cs.drop (o + h.size)).take r.size := by
      rw [← List.take_append_drop h.size ((cs.drop o).take (h.size + r.size)), List.take_take, List.drop_take, List.drop_drop, Nat.min_eq_left (by omega), show h.size + r.size - h.size = r.size by omega]
    rw [hsz, hsplit]
    refine .cons ?_ ih
    split at hk
    · rename_i hu
      obtain ⟨n, e, _, wf⟩ := DataW.trod_int hu hy
      rw [e]
      have ⟨b1, b2⟩ := bounds_i64 wf
      exact .i n ⟨b1, b2⟩
    · rename_i hu
      cases fuel with
      | zero => simp [DataW.trod] at hy
      | succ n =>
        unfold DataW.trod at hy
        rw [hu] at hy
        split at hy <;> first | contradiction | skip
        all_goals simp_all
        all_goals first | exact .b _ | contradiction
    · rename_i hu
      obtain ⟨n, e, _, wf⟩ := DataW.trod_string hu hy
      rw [e]
      exact .s n wf
    · rename_i gs h1 h2 hu
      rw [Bool.and_eq_true] at hk
      obtain ⟨xs, n, hfu, _, hlen, hxl, hg⟩ := DataW.trod_struct hu hy
      have := open_fs (.cons h1 h2) gs.toList 0 n _ hk.2 (fun g hg' => by
        obtain ⟨i, hi, e⟩ := List.getElem_of_mem hg'
        have h3 := hg i g (by rw [← Array.getElem?_toList, List.getElem?_eq_getElem hi, e])
        rw [Array.length_toList] at hi
        exact ⟨xs[i], by rw [h3, List.getElem?_eq_getElem (by omega)]⟩) (by rw [hlen, hc]; omega)
      rwa [List.drop_zero, List.take_of_length_le (by rw [hlen, hc]; exact Nat.le_refl _)] at this
    · cases hk
theorem open_flat {fl : Fl} {t : TypeId} (hf : fitsT P fl t = true) {fuel : Nat} {cs : List Value} {x : DataW H × List MemPlace} (h : DataW.trod enc P w base spare held fuel t cs = some x) : Cs fl cs := by
  unfold fitsT at hf
  split at hf
  · rename_i fs hu
    simp only [Bool.and_eq_true, beq_iff_eq] at hf
    obtain ⟨⟨hc, _⟩, hk⟩ := hf
    obtain ⟨xs, n, hfu, _, hlen, hxl, hg⟩ := DataW.trod_struct hu h
    have := open_fs fl fs.toList 0 n cs hk (fun g hg' => by
      obtain ⟨i, hi, e⟩ := List.getElem_of_mem hg'
      have h3 := hg i g (by rw [← Array.getElem?_toList, List.getElem?_eq_getElem hi, e])
      rw [Array.length_toList] at hi
      exact ⟨xs[i], by rw [h3, List.getElem?_eq_getElem (by omega)]⟩) (by rw [hlen, hc]; omega)
    rwa [List.drop_zero, List.take_of_length_le (by rw [hlen, hc]; exact Nat.le_refl _)] at this
  · cases hf
end

/-! ### how two of them compare -/
/-- cell by cell -/
def sameC : List Value → List Value → Bool
  | [], [] => true
  | .int _ a :: u, .int _ b :: v => a == b && sameC u v
  | .bool a :: u, .bool b :: v => a == b && sameC u v
  | .string a :: u, .string b :: v => a.toList == b.toList && sameC u v
  | _, _ => false
theorem same_append {f : Fl} {u v : List Value} (h : Cs f u) (k : Cs f v) (p q : List Value) : sameC (u ++ p) (v ++ q) = (sameC u v && sameC p q) := by
  induction h generalizing v p q with
  | i n => obtain ⟨m, rfl, _⟩ := k.i_inv; simp [sameC]
  | b n => obtain ⟨m, rfl⟩ := k.b_inv; simp [sameC]
  | s n => obtain ⟨m, rfl, _⟩ := k.s_inv; simp [sameC]
  | nil => obtain rfl := k.nil_inv; simp [sameC]
  | cons h1 h2 ih1 ih2 =>
    obtain ⟨a, b, rfl, k1, k2⟩ := k.cons_inv
    rw [List.append_assoc, List.append_assoc, ih1 k1, ih1 k1, ih2 k2, Bool.and_assoc]

/-- how deep structs lie in it -/
def Fl.dep : Fl → Nat
  | .cons h r => max (h.dep + 1) r.dep
  | _ => 0
theorem size_run {P : Program} {t : TypeId} {n : Nat} (hc : P.cellsOf t = n) (h0 : n ≠ 0) (w : World) : (sizeOf t).run P w = .ok n w := by
  unfold Program.cellsOf at hc
  cases hi : P.info? t with
  | none => rw [hi] at hc; exact absurd hc.symm h0
  | some i =>
    rw [hi] at hc
    simp only [Option.map_some, Option.getD_some] at hc
    simp [sizeOf, typeInfo, hi, hc]
theorem drop_one {α : Type} {l : List α} {o : Nat} {x : α} (h : (l.drop o).take 1 = [x]) : l[o]? = some x := by
  cases hd : l.drop o with
  | nil => rw [hd] at h; cases h
  | cons y r =>
    rw [hd, List.take_succ_cons, List.take_zero] at h
    have : (l.drop o)[0]? = some y := by rw [hd]; rfl
    rw [List.getElem?_drop, Nat.add_zero] at this
    rw [this, (List.cons.inj h).1]
theorem run_eq_fs {P : Program} (w : World) : ∀ (fl : Fl) (fs : List Field) (o d : Nat) (xs ys : Array Value), fitsF P fl fs o = true → fl.dep ≤ d →
    Cs fl ((xs.toList.drop o).take fl.size) → Cs fl ((ys.toList.drop o).take fl.size) → (Op.eqFields d xs ys fs).run P w = .ok (sameC ((xs.toList.drop o).take fl.size) ((ys.toList.drop o).take fl.size)) w
  | .nil, [], o, d, xs, ys, _, _, _, _ => by
    rw [show Fl.size .nil = 0 from rfl, List.take_zero, List.take_zero]
    simp [Op.eqFields, sameC]
  | .nil, f :: fs, o, _, _, _, h, _, _, _ => by unfold fitsF at h; cases h
  | .i, fs, o, _, _, _, h, _, _, _ => by unfold fitsF at h; cases h
  | .b, fs, o, _, _, _, h, _, _, _ => by unfold fitsF at h; cases h
  | .s, fs, o, _, _, _, h, _, _, _ => by unfold fitsF at h; cases h
  | .cons h r, [], o, _, _, _, hf, _, _, _ => by unfold fitsF at hf; cases hf
  | .cons h r, f :: fs, o, d, xs, ys, hf, hd, hx, hy => by
    unfold fitsF at hf
    simp only [Bool.and_eq_true, beq_iff_eq, Bool.not_eq_true', beq_eq_false_iff_ne] at hf
    obtain ⟨⟨⟨⟨⟨hn, h0⟩, ho⟩, hc⟩, hr⟩, hk⟩ := hf
    have hdep : (Fl.cons h r).dep = max (h.dep + 1) r.dep := rfl
    rw [hdep] at hd
    have hsz : (Fl.cons h r).size = h.size + r.size := rfl
    have hsplit : ∀ l : List Value, (l.drop o).take (h.size + r.size) = (l.drop o).take h.size ++ (l.drop (o + h.size)).take r.size := fun l => by
      rw [← List.take_append_drop h.size ((l.drop o).take (h.size + r.size)), List.take_take, List.drop_take, List.drop_drop, Nat.min_eq_left (by omega), show h.size + r.size - h.size = r.size by omega]
    rw [hsz, hsplit] at hx hy
    rw [hsz, hsplit, hsplit]
    obtain ⟨a, b, e1, x1, x2⟩ := hx.cons_inv
    obtain ⟨a', b', e1', y1, y2⟩ := hy.cons_inv
    have l1 := hx.len
    have l2 := hy.len
    rw [hsz, List.length_append] at l1 l2
    have hal : ((xs.toList.drop o).take h.size).length = h.size := by have := List.length_take_le h.size (xs.toList.drop o); have := List.length_take_le r.size (xs.toList.drop (o + h.size)); omega
    have hal' : ((ys.toList.drop o).take h.size).length = h.size := by have := List.length_take_le h.size (ys.toList.drop o); have := List.length_take_le r.size (ys.toList.drop (o + h.size)); omega
    obtain ⟨rfl, rfl⟩ := List.append_inj e1 (by rw [hal, x1.len])
    obtain ⟨rfl, rfl⟩ := List.append_inj e1' (by rw [hal', y1.len])
    have ih := run_eq_fs w r fs (o + h.size) d xs ys hr (by omega) x2 y2
    rw [same_append x1 y1]
    obtain ⟨d, rfl⟩ : ∃ d', d = d' + 1 := ⟨d - 1, by omega⟩
    have key : ∃ va vb, (part f.type xs o).run P w = .ok va w ∧ (part f.type ys o).run P w = .ok vb w ∧ (Op.equalIn (d + 1) f.type va vb).run P w = .ok (sameC ((xs.toList.drop o).take h.size) ((ys.toList.drop o).take h.size)) w := by
      split at hk
      · rename_i hu
        obtain ⟨n, e, _⟩ := x1.i_inv
        obtain ⟨m, e', _⟩ := y1.i_inv
        have g1 := drop_one e
        have g2 := drop_one e'
        rw [Array.getElem?_toList] at g1 g2
        refine ⟨_, _, by simp [part, isAgg, run_underlying hu, g1]; rfl, by simp [part, isAgg, run_underlying hu, g2]; rfl, ?_⟩
        rw [run_equalIn_int w d f.type .i64 .i64 n m hu, e, e']
        simp [sameC]
      · rename_i hu
        obtain ⟨n, e⟩ := x1.b_inv
        obtain ⟨m, e'⟩ := y1.b_inv
        have g1 := drop_one e
        have g2 := drop_one e'
        rw [Array.getElem?_toList] at g1 g2
        refine ⟨_, _, by simp [part, isAgg, run_underlying hu, g1]; rfl, by simp [part, isAgg, run_underlying hu, g2]; rfl, ?_⟩
        rw [run_equalIn_bool' w d f.type n m hu, e, e']
        simp [sameC]
      · rename_i hu
        obtain ⟨n, e, _⟩ := x1.s_inv
        obtain ⟨m, e', _⟩ := y1.s_inv
        have g1 := drop_one e
        have g2 := drop_one e'
        rw [Array.getElem?_toList] at g1 g2
        refine ⟨_, _, by simp [part, isAgg, run_underlying hu, g1]; rfl, by simp [part, isAgg, run_underlying hu, g2]; rfl, ?_⟩
        rw [run_equalIn_string w d f.type n m hu, e, e']
        simp [sameC]
      · rename_i gs h1 h2 hu
        rw [Bool.and_eq_true, Bool.not_eq_true'] at hk
        have hfo : P.fieldsOf f.type = gs := by unfold Program.fieldsOf; rw [hu]
        have hsr := size_run (P := P) hc h0 w
        refine ⟨.agg (xs.extract o (o + (Fl.cons h1 h2).size)), .agg (ys.extract o (o + (Fl.cons h1 h2).size)), by simp [part, isAgg, run_underlying hu, hsr], by simp [part, isAgg, run_underlying hu, hsr], ?_⟩
        rw [run_equalIn_agg w d f.type _ _ (by rw [hfo]; exact hu) hk.1, hfo]
        have ex : ∀ zs : Array Value, (zs.extract o (o + (Fl.cons h1 h2).size)).toList = (zs.toList.drop o).take (Fl.cons h1 h2).size := fun zs => by
          rw [Array.toList_extract, List.extract_eq_take_drop]
          congr 1; omega
        have tk : ∀ zs : Array Value, ((zs.extract o (o + (Fl.cons h1 h2).size)).toList.drop 0).take (Fl.cons h1 h2).size = (zs.toList.drop o).take (Fl.cons h1 h2).size := fun zs => by
          rw [ex, List.drop_zero, List.take_take, Nat.min_self]
        have := run_eq_fs w (.cons h1 h2) gs.toList 0 d (xs.extract o (o + (Fl.cons h1 h2).size)) (ys.extract o (o + (Fl.cons h1 h2).size)) hk.2 (by omega) (by rw [tk]; exact x1) (by rw [tk]; exact y1)
        rw [tk, tk] at this
        exact this
      · cases hk
    obtain ⟨va, vb, k1, k2, k3⟩ := key
    simp only [Op.eqFields, ne_eq, hn, not_false_eq_true, if_true, Sem.run_bind, ho, k1, k2, k3, Result.andThen_ok]
    cases hs : sameC ((xs.toList.drop o).take h.size) ((ys.toList.drop o).take h.size)
    · simp
    · simp [ih]

/-- two of them, as the walk compares them -/
theorem run_flat_eq {P : Program} {fl : Fl} {t : TypeId} (hf : fitsT P fl t = true) (hd : fl.dep ≤ 9999) {xs ys : Array Value} (hx : Cs fl xs.toList) (hy : Cs fl ys.toList) (w : World) :
    (Op.equalIn 10000 t (.agg xs) (.agg ys)).run P w = .ok (sameC xs.toList ys.toList) w := by
  unfold fitsT at hf
  split at hf
  · rename_i fs hu
    simp only [Bool.and_eq_true, beq_iff_eq, Bool.not_eq_true'] at hf
    obtain ⟨⟨hc, hh⟩, hk⟩ := hf
    have hfo : P.fieldsOf t = fs := by unfold Program.fieldsOf; rw [hu]
    rw [run_equalIn_agg w 9999 t _ _ (by rw [hfo]; exact hu) hh, hfo]
    have e1 : (xs.toList.drop 0).take fl.size = xs.toList := by rw [List.drop_zero, List.take_of_length_le (by rw [hx.len]; exact Nat.le_refl _)]
    have e2 : (ys.toList.drop 0).take fl.size = ys.toList := by rw [List.drop_zero, List.take_of_length_le (by rw [hy.len]; exact Nat.le_refl _)]
    have := run_eq_fs w fl fs.toList 0 9999 xs ys hk hd (by rw [e1]; exact hx) (by rw [e2]; exact hy)
    rwa [e1, e2] at this
  · cases hf
theorem run_flat_eql {P : Program} {fl : Fl} {t : TypeId} (hf : fitsT P fl t = true) (hd : fl.dep ≤ 9999) {xs ys : Array Value} (hx : Cs fl xs.toList) (hy : Cs fl ys.toList) (w : World) :
    (binOp .eql t (.agg xs) (.agg ys)).run P w = .ok (.bool (sameC xs.toList ys.toList)) w := by
  rw [run_eql_struct, run_flat_eq hf hd hx hy, Result.andThen_ok]
theorem run_flat_neq {P : Program} {fl : Fl} {t : TypeId} (hf : fitsT P fl t = true) (hd : fl.dep ≤ 9999) {xs ys : Array Value} (hx : Cs fl xs.toList) (hy : Cs fl ys.toList) (w : World) :
    (binOp .neq t (.agg xs) (.agg ys)).run P w = .ok (.bool (!(sameC xs.toList ys.toList))) w := by
  rw [run_neq_struct, run_flat_eq hf hd hx hy, Result.andThen_ok]

end Go.Proofs.Ytnmmokdkngccjaa
