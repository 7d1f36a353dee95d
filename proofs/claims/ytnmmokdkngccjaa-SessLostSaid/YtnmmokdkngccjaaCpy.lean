/-
  copy(dst, src) where an element has so many cells: what the row that is written holds behind it.
-/
import Derived.Test.YtnmmokdkngccjaaOwn2
import Derived.Laws.CopyOwn
import Derived.Deep.RegionLaw
namespace Go.Proofs.Ytnmmokdkngccjaa
open Go.RowKit

theorem run_copy_rowk {P : Program} (w : World) (dT sT ty elem : TypeId) (g o dLen dCap : Nat) (a : Addr) (sLen sCap : Nat) (cur : List Value) (t : TypeId) (cs : List Value) (k m : Nat)
    (hu : P.underlying dT = some (.slice elem)) (hs : (P.info? elem).map (·.size) = some k)
    (hg : w.heap[g]? = some (.cells cur.toArray t (0, 0))) (hm : Nat.min sLen dLen = m) (hn : cs.length = m * k)
    (hsrc : ∀ j v, cs[j]? = some v → w.cell? (a.add j) = some v) (hfit : o + cs.length ≤ cur.length) (h1 : ∀ v ∈ cs, v.oneCell' = true) :
    (Builtin.copy_ #[dT, sT] ty #[.slice (some ⟨g, o, none⟩) dLen dCap, .slice (some a) sLen sCap]).run P w = .ok (goInt m) (w.setRow g (splice cur o cs).toArray) := by
  have hl := run_loadCells_list (P := P) w a cs hsrc
  have hst := run_storeCells_at P g o t cs 0 cur.toArray w hg (by simpa using hfit) h1
  cases hq : P.info? elem with
  | none => simp [hq] at hs
  | some i =>
    have hi : i.size = k := by simpa [hq] using hs
    rw [hn] at hl
    simp only [List.append_assoc, Nat.add_zero] at hst
    simp [Builtin.copy_, run_underlying hu, Builtin.lenOf, Builtin.firstCells, sizeOf, typeInfo, hq, hi, hm, hl, hst, splice]

/-- behind a copy: the row that was written, and all else -/
structure Cp (w w' : World) (g : Nat) (cur : List Value) (t : TypeId) : Prop where
  row : w'.heap[g]? = some (.cells cur.toArray t (0, 0))
  other : ∀ j, j ≠ g → w'.heap[j]? = w.heap[j]?
  size : w'.heap.size = w.heap.size
  world : w'.os = w.os ∧ w'.tape = w.tape ∧ w'.output = w.output
theorem Cp.of (w : World) (g : Nat) (cur new : List Value) (t : TypeId) (hg : w.heap[g]? = some (.cells cur.toArray t (0, 0))) : Cp w (w.setRow g new.toArray) g new t :=
  ⟨setRow_heap w g cur.toArray _ t _ hg, fun j hj => setRow_other w g j _ (fun e => hj (by rw [e])), by simp [World.setRow], rfl, rfl, rfl⟩
theorem Cp.below {w w' : World} {g B : Nat} {cur : List Value} {t : TypeId} (h : Cp w w' g cur t) (hB : B ≤ g) : Below B w w' :=
  ⟨h.world.1, h.world.2.1, h.world.2.2, by rw [h.size]; exact Nat.le_refl _, fun k hk => h.other k (by omega)⟩
theorem Cp.cell {w w' : World} {g : Nat} {cur : List Value} {t : TypeId} (h : Cp w w' g cur t) {x : Addr} (hx : x.block ≠ g) : w'.cell? x = w.cell? x := World.cell?_of_block (h.other _ hx)

theorem wpList_copy_k {P : Program} {w : World} {ops : Array Oper} {rest : List Oper} {o : Oper} {a : Act} {Q : Exit → Act → World → Prop} (k : Nat) (hgd : o.guard = none) (d s : Operand) (dT sT : TypeId)
    (ho : o.op = .call { callee := .builtin .copy, args := #[d, s], argTypes := #[dT, sT] }) (elem : TypeId) (hu : P.underlying dT = some (.slice elem)) (hsz : (P.info? elem).map (·.size) = some k)
    (g off dLen dCap : Nat) (ad : Addr) (sLen sCap : Nat) (hd : a.eval d = .slice (some ⟨g, off, none⟩) dLen dCap) (hs : a.eval s = .slice (some ad) sLen sCap)
    (cur : List Value) (t : TypeId) (hg : w.heap[g]? = some (.cells cur.toArray t (0, 0))) (cs : List Value) (m : Nat) (hm : Nat.min sLen dLen = m) (hn : cs.length = m * k)
    (hsrc : ∀ j v, cs[j]? = some v → w.cell? (ad.add j) = some v) (hfit : off + cs.length ≤ cur.length) (h1 : ∀ v ∈ cs, v.oneCell' = true)
    (h : ∀ w', Cp w w' g (splice cur off cs) t → wpList P ops Q rest (a.put o.dst (goInt m)) w') : wpList P ops Q (o :: rest) a w := by
  refine wpList_plain hgd fun K hK => ?_
  have hrun := run_copy_rowk (P := P) w dT sT o.type elem g off dLen dCap ad sLen sCap cur t cs k m hu hsz hg hm hn hsrc hfit h1
  unfold Oper.wp
  simp [execOp, ho, resolve, invoke, builtin, hd, hs, hrun, Result.andThen]
  exact hK _ _ (h _ (Cp.of w g cur _ t hg))
/-- the same, as a step of a region that draws its order -/
theorem step_copy_k {P : Program} {ops : Array Oper} {o : Oper} {a : Act} {w : World} {K : Act → World → Prop} {Q : Exit → Act → World → Prop} {E : Prop} (k : Nat) (hgd : o.guard = none) (d s : Operand) (dT sT : TypeId)
    (ho : o.op = .call { callee := .builtin .copy, args := #[d, s], argTypes := #[dT, sT] }) (elem : TypeId) (hu : P.underlying dT = some (.slice elem)) (hsz : (P.info? elem).map (·.size) = some k)
    (g off dLen dCap : Nat) (ad : Addr) (sLen sCap : Nat) (hd : a.eval d = .slice (some ⟨g, off, none⟩) dLen dCap) (hs : a.eval s = .slice (some ad) sLen sCap)
    (cur : List Value) (t : TypeId) (hg : w.heap[g]? = some (.cells cur.toArray t (0, 0))) (cs : List Value) (m : Nat) (hm : Nat.min sLen dLen = m) (hn : cs.length = m * k)
    (hsrc : ∀ j v, cs[j]? = some v → w.cell? (ad.add j) = some v) (hfit : off + cs.length ≤ cur.length) (h1 : ∀ v ∈ cs, v.oneCell' = true)
    (h : ∀ w', Cp w w' g (splice cur off cs) t → K (a.put o.dst (goInt m)) w') :
    if Region.wanted o (yielded ops a.tmps) = true then Oper.wp P o a w K Q else E := by
  have hw : Region.wanted o (yielded ops a.tmps) = true := by simp [Region.wanted, hgd]
  rw [if_pos hw]
  have hrun := run_copy_rowk (P := P) w dT sT o.type elem g off dLen dCap ad sLen sCap cur t cs k m hu hsz hg hm hn hsrc hfit h1
  unfold Oper.wp
  simp [execOp, ho, resolve, invoke, builtin, hd, hs, hrun, Result.andThen]
  exact h _ (Cp.of w g cur _ t hg)

/-- first the one in the middle, then what stands behind it -/
theorem splice_mid {α : Type} {L A X D : List α} {a b d : Nat} (hA : L.take a = A) (hX : X.length = b) (hD : D.length = d) (hL : a + b + d ≤ L.length) : (splice (splice L a X) (a + b) D).take (a + b + d) = A ++ (X ++ D) := by
  have ha : A.length = a := by rw [← hA, List.length_take]; omega
  subst hX hD
  unfold splice
  rw [hA]
  have e : (A ++ (X ++ L.drop (a + X.length))).take (a + X.length) = A ++ X := by
    rw [← List.append_assoc, List.take_append_of_le_length (by simp [ha])]
    exact List.take_of_length_le (by simp [ha])
  rw [e, ← List.append_assoc, List.take_append_of_le_length (by simp only [List.length_append, ha]; omega), List.take_of_length_le (by simp only [List.length_append, ha]; omega), List.append_assoc]
/-- first what stands behind, then the one in the middle -/
theorem splice_back {α : Type} {L A X D : List α} {a b d : Nat} (hA : L.take a = A) (hX : X.length = b) (hD : D.length = d) (hL : a + b + d ≤ L.length) : (splice (splice L (a + b) D) a X).take (a + b + d) = A ++ (X ++ D) := by
  have ha : A.length = a := by rw [← hA, List.length_take]; omega
  subst hX hD
  unfold splice
  have e1 : (L.take (a + X.length) ++ (D ++ L.drop (a + X.length + D.length))).take a = A := by
    rw [List.take_append_of_le_length (by rw [List.length_take]; omega), List.take_take, Nat.min_eq_left (by omega), hA]
  have e2 : (L.take (a + X.length) ++ (D ++ L.drop (a + X.length + D.length))).drop (a + X.length) = D ++ L.drop (a + X.length + D.length) := by
    rw [List.drop_append_of_le_length (by rw [List.length_take]; omega), List.drop_of_length_le (by rw [List.length_take]; omega), List.nil_append]
  rw [e1, e2, ← List.append_assoc X, ← List.append_assoc A, List.take_append_of_le_length (by simp [ha]; omega), List.take_of_length_le (by simp [ha]; omega)]

/-- a block's cells are a row -/
theorem row_block {α : Type} (c : Enc α) {w : World} {g : Nat} {cells : Array Value} {t : TypeId} {fz : Nat × Nat} (hg : w.heap[g]? = some (.cells cells t fz)) (l : List α) (hc : cells.toList = l.flatMap c.of) (n : Nat) (hn : l.length ≤ n) : RowAt c w (some ⟨g, 0, none⟩) n l := by
  refine .inr ⟨_, rfl, hn, fun j u hj => ?_⟩
  rw [add_none, Nat.zero_add, cell_of_row w g j cells t fz hg]
  rwa [← hc, Array.getElem?_toList] at hj

theorem own_of {α : Type} (c : Enc α) {w : World} {g cap n base : Nat} {cur : List Value} {e : TypeId} {l : List α} (hl : l.length = n) (hg : w.heap[g]? = some (.cells cur.toArray e (0, 0))) (hb : base ≤ g) (hcap : n ≤ cap) (hmx : cap ≤ maxLen)
    (hs : cur.length = cap * c.size) (ht : cur.take (n * c.size) = l.flatMap c.of) : OwnE c e w base (.slice (some ⟨g, 0, none⟩) n cap) l := by
  subst hl
  exact ⟨by rw [c.flat_len], .inr ⟨g, cap, cur.toArray, rfl, hb, hg, hcap, hmx, by simpa using hs, by simpa using ht⟩⟩
theorem take_get {α : Type} {L : List α} {m k : Nat} {v : α} (h : (L.take m)[k]? = some v) : L[k]? = some v := by
  rw [List.getElem?_take] at h
  split at h
  · exact h
  · cases h

end Go.Proofs.Ytnmmokdkngccjaa
