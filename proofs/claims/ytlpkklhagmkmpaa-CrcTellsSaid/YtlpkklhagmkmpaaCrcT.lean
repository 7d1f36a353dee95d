/-
  PLAIN and in memory: what layer 8's law CrcTells stands on.
-/
import Derived.Test.YtlpkklhagmkmpaaCrcR
namespace Go.Proofs.Ytlpkklhagmkmpaa
open Go.RowKit
namespace Crc
open Num

/-- how many bytes the first records take -/
def tillR (l : List (List UInt8)) (k : Nat) : Nat := (recs (l.take k)).length
def endsR (l : List (List UInt8)) (i : Nat) : List Nat := (List.range (i + 1)).map (tillR l)
theorem endsR_len (l : List (List UInt8)) (i : Nat) : (endsR l i).length = i + 1 := by unfold endsR; rw [List.length_map, List.length_range]
theorem endsR_zero (l : List (List UInt8)) : endsR l 0 = [0] := rfl
theorem endsR_succ (l : List (List UInt8)) (i : Nat) : endsR l (i + 1) = endsR l i ++ [tillR l (i + 1)] := by
  unfold endsR
  rw [List.range_succ (n := i + 1), List.map_append]
  rfl
theorem endsR_get (l : List (List UInt8)) {i k : Nat} (h : k ≤ i) : (endsR l i)[k]? = some (tillR l k) := by
  unfold endsR
  rw [List.getElem?_map, List.getElem?_range (by omega)]
  rfl
theorem recs_app (x y : List (List UInt8)) : recs (x ++ y) = recs x ++ recs y := by unfold recs; rw [List.flatMap_append]
theorem recs_one (x : List UInt8) : recs [x] = recB x := by unfold recs; rw [List.flatMap_cons, List.flatMap_nil, List.append_nil]
theorem recs_take {l : List (List UInt8)} {i : Nat} {y : List UInt8} (h : l[i]? = some y) : recs (l.take (i + 1)) = recs (l.take i) ++ recB y := by
  have hi := (List.getElem?_eq_some_iff.1 h)
  obtain ⟨hl, hy⟩ := hi
  rw [List.take_succ_eq_append_getElem hl, recs_app, hy, recs_one]
theorem tillR_mono (l : List (List UInt8)) : ∀ {i j : Nat}, i ≤ j → tillR l i ≤ tillR l j := by
  intro i j h
  unfold tillR
  have e : l.take i = (l.take j).take i := by rw [List.take_take, Nat.min_eq_left h]
  rw [e]
  have e2 : recs (l.take j) = recs ((l.take j).take i) ++ recs ((l.take j).drop i) := by rw [← recs_app, List.take_append_drop]
  have e3 := congrArg List.length e2
  rw [List.length_append] at e3
  omega
/-- cut anywhere: all whole ones, by the ends of all -/
theorem cut_is {l : List (List UInt8)} {t k : Nat} (hF : Fine l) (ht : t ≤ (recs l).length) (hk : k ≤ l.length) (h1 : tillR l k ≤ t) (h2 : k = l.length ∨ t < tillR l (k + 1)) :
    allC ((recs l).take t) = (l.take k, tillR l k) := by
  have hall : tillR l l.length = (recs l).length := by unfold tillR; rw [List.take_length]
  rcases Nat.lt_or_ge t (recs l).length with hlt | hge
  · obtain ⟨j, g1, g2, g3, g4⟩ := all_cut hF hlt
    have g2 : tillR l j ≤ t := g2
    have g3 : t < tillR l (j + 1) := g3
    have hjk : j = k := by
      rcases Nat.lt_trichotomy j k with c | c | c
      · have := tillR_mono l (show j + 1 ≤ k from c)
        omega
      · exact c
      · rcases h2 with h2 | h2
        · omega
        · have := tillR_mono l (show k + 1 ≤ j from c)
          omega
    subst hjk
    exact g4
  · have e : t = (recs l).length := by omega
    have hkl : k = l.length := by
      rcases h2 with h2 | h2
      · exact h2
      · rcases Nat.lt_or_ge k l.length with c | c
        · have := tillR_mono l (show k + 1 ≤ l.length from c)
          omega
        · omega
    subst hkl
    rw [e, List.take_length, List.take_length, all_recs hF, hall]

/-- numbers, as cells hold them -/
def encN : Enc Nat := ⟨fun n => [.int .i64 (n : Int)], 1, fun _ => rfl, fun n u hu => by
  simp only [List.mem_singleton] at hu
  subst hu
  rfl⟩
theorem infoI : (Try.prog.info? 3).map (fun i => (i.zero, i.size, i.bytes)) = some (some (.int .i64 0), 1, 8) := by kernel_rfl
/-- append of numbers: blocks of other types stand -/
theorem wpList_append_num {P : Program} {w : World} {ops : Array Oper} {rest : List Oper} {o : Oper} {a : Act} {Q : Exit → Act → World → Prop} (hgd : o.guard = none) (s x : Operand) (t : TypeId)
    (ho : o.op = .call { callee := .builtin .append, args := #[s, x], argTypes := #[t, t] })
    (base : Nat) (e : TypeId) (i : TypeInfo) (z : Value) (ht : P.underlying t = some (.slice e)) (hi : P.info? e = some i) (hz : i.zero = some z)
    (hsize : i.size = 1) (hby : i.bytes = 8) (hzs : z.cells.size = 1)
    (v : Value) (l : List Nat) (hs : a.eval s = v) (hown : OwnE encN e w base v l)
    (b : Option Addr) (m cap : Nat) (k : List Nat) (hx : a.eval x = .slice b m cap) (hm : k.length = m) (hb : RowAt encN w b cap k)
    (hlen : (l.length + k.length) * 8 ≤ 140737488355328) (hbase : base ≤ w.heap.size)
    (h : ∀ v' w', OwnE encN e w' base v' (l ++ k) → Below base w w' → Kept e w w' → wpList P ops Q rest (a.put o.dst v') w') : wpList P ops Q (o :: rest) a w := by
  subst hm
  rcases hb with ⟨rfl, rfl, rfl⟩ | ⟨y, rfl, hl, hc⟩
  · refine wpList_append_own_none (base := base) (e := e) (i := i) (size := 1) hgd s x t ho ht hi v l.length (l.flatMap encN.of) hs hown hx ?_
    exact h v w (by rw [List.append_nil]; exact hown) (Below.refl _ _) (Kept.of_below (Below.refl _ _))
  · refine wpList_append_own w hgd s x t ho base e i z 1 8 ht hi hz hsize hby hzs (by decide) v l.length (l.flatMap encN.of) hs hown y k.length cap (k.flatMap encN.of) hx (encN.flat_len k)
      hc (encN.flat_one k) (by unfold maxLen; omega) hlen hbase ?_
    intro v' w' h1 h2 _
    refine h v' w' ?_ ((Below.refl base w).grown h2 hbase fun j hj => (hown.lt j hj).1) (Kept.of_grown hown h2)
    unfold OwnE
    rw [List.length_append, List.flatMap_append]
    exact h1
theorem row_ownN (w : World) : OwnE encN 3 (w.alloc (.cells #[.int .i64 0] 3)) w.heap.size (.slice (some ⟨w.heap.size, 0, none⟩) 1 1) [0] := by
  refine ⟨by rw [encN.flat_len], .inr ⟨w.heap.size, 1, #[.int .i64 0], rfl, Nat.le_refl _, heap_alloc_new w _, Nat.le_refl _, by decide, rfl, rfl⟩⟩
end Crc
/-- one's own stands where blocks of another type are written -/
theorem OwnE.keptT {α : Type} {c : Enc α} {e e' : TypeId} {w w' : World} {base : Nat} {v : Value} {l : List α} (h : OwnE c e w base v l) (hk : Kept e' w w') (hn : e ≠ e') : OwnE c e w' base v l := by
  obtain ⟨h1, h | ⟨g, cap, cur, h2, h3, h4, h5⟩⟩ := h
  · exact ⟨h1, .inl h⟩
  · exact ⟨h1, .inr ⟨g, cap, cur, h2, h3, hk g cur e _ hn h4, h5⟩⟩
theorem OwnG.keptT {e e' : TypeId} {w w' : World} {base : Nat} {v : Value} {l : List UInt8} (h : OwnG e w base v l) (hk : Kept e' w w') (hn : e ≠ e') : OwnG e w' base v l := by
  rcases h with h | ⟨g, cap, cur, fz, h2, h3, h4, h5⟩
  · exact .inl h
  · exact .inr ⟨g, cap, cur, fz, h2, h3, hk g cur e _ hn h4, h5⟩
theorem OwnG.keptOf {e : TypeId} {w w' : World} {base : Nat} {v : Value} {l : List UInt8} (h : OwnG e w base v l) (hg : w.grownBy w' v.ownBlock) : Kept e w w' := fun q cs e' m hn hq => by
  rw [hg.block q (Array.getElem?_eq_some_iff.1 hq).1 ?_]; exact hq
  intro heq
  rcases h with ⟨rfl, _⟩ | ⟨g, cap, cur, fz, rfl, _, hgg, _⟩
  · simp [Value.ownBlock] at heq
  · simp [Value.ownBlock] at heq
    subst heq
    rw [hgg] at hq
    injection hq with hq
    injection hq with _ h2 _
    exact hn h2.symm
theorem Match.takeN {w : World} : ∀ {ts : List Hdr} {ys : List (List UInt8)} (n : Nat), Match w ts ys → Match w (ts.take n) (ys.take n)
  | _, _, 0, _ => by rw [List.take_zero, List.take_zero]; trivial
  | [], [], _ + 1, _ => trivial
  | _ :: _, _ :: _, n + 1, h => ⟨h.1, Match.takeN n h.2⟩
  | [], _ :: _, _ + 1, h => h.elim
  | _ :: _, [], _ + 1, h => h.elim
theorem Bodies.cap {w : World} {a : Option Addr} {cap : Nat} {ys : List (List UInt8)} (h : Bodies w a cap ys) : ys.length ≤ cap := by
  obtain ⟨ts, h1, h2⟩ := h
  rw [← h2.len]
  rcases h1 with ⟨_, rfl, rfl⟩ | ⟨_, _, h, _⟩
  · exact Nat.le_refl _
  · exact h
theorem Bodies.takeN {w : World} {a : Option Addr} {cap : Nat} {ys : List (List UInt8)} (h : Bodies w a cap ys) (n : Nat) : Bodies w a cap (ys.take n) := by
  obtain ⟨ts, h1, h2⟩ := h
  exact ⟨ts.take n, h1.take n, Match.takeN n h2⟩
end Go.Proofs.Ytlpkklhagmkmpaa
