/-
  Append of a string's bytes to bytes of the call's own, marked or not.
-/
import Derived.Test.YtnmhkjgcfhcmpaaDoorMemG
import Derived.Test.YtnmhkjgcfhcmpaaDoorMemS
import Derived.Lib.AppendStr
namespace Go.Proofs.YtnmhkjgcfhcmpaaDoor
open Go.RowKit

theorem run_append_gs {P : Program} (w : World) (base : Nat) (t u ty e : TypeId) (i : TypeInfo) (ht : P.underlying t = some (.slice e)) (hu : P.underlying u = some .string) (hi : P.info? e = some i) (hz : i.zero = some (.int .u8 0))
    (hsize : i.size = 1) (hby : i.bytes = 1)
    (v : Value) (l : List UInt8) (hown : OwnG e w base v l) (s : ByteArray)
    (hlen : l.length + s.size ≤ 70368744177664) (hbase : base ≤ w.heap.size) :
    ∃ v' w', (Builtin.append_ #[t, u] ty #[v, .string s]).run P w = .ok v' w' ∧ OwnG e w' base v' (l ++ s.data.toList) ∧ w.grownBy w' v.ownBlock := by
  have hkl : s.data.toList.length = s.size := rfl
  have hks : s.data.size = s.size := rfl
  rcases hown with ⟨rfl, rfl⟩ | ⟨g, cp, cur, fz, rfl, hbg, hg, hl, hm, hcs, htake, hcl⟩
  · obtain ⟨v', w', h1, h2, h3, _⟩ := Lib.run_append_own_string (P := P) w base t u ty e i ht hu hi hz hsize hby (.slice none 0 0) 0 [] (World.ownsRow_nil w base e 1) s (by unfold maxLen; simp only [List.length_nil] at hlen; omega)
      (by simp only [List.length_nil] at hlen; omega) hbase
    refine ⟨v', w', h1, Own.g (by unfold Own; rw [strCells_eq] at h2; simpa [hkl] using h2), h3⟩
  · have hol : OwnG e w base (.slice (some ⟨g, 0, none⟩) l.length cp) l := .inr ⟨g, cp, cur, fz, rfl, hbg, hg, hl, hm, hcs, htake, hcl⟩
    by_cases hroom : l.length + s.size ≤ cp
    · have hf := Lib.run_firstCells_string (P := P) w 1 s
      rw [strCells_eq] at hf
      have hst := run_store_clear P g e fz (byteVs s.data.toList) l.length 0 cur w hg hcl (by rw [byteVs_length, hcs]; omega) (byteVs_one _)
      simp only [Nat.add_zero, byteVs_length] at hst
      refine ⟨.slice (some ⟨g, 0, none⟩) (l.length + s.size) cp, w.setRow g (cur.toList.take l.length ++ byteVs s.data.toList ++ cur.toList.drop (l.length + s.size)).toArray, ?_,
        .inr ⟨g, cp, _, fz, by rw [List.length_append, hkl], hbg, setRow_heap w g cur _ e _ hg, by rw [List.length_append]; exact hroom, hm, ?_, ?_, ?_⟩, ⟨rfl, rfl, rfl, by simp, fun j _ hj => setRow_other w g j _ (fun e => hj (by simp [Value.ownBlock, e]))⟩⟩
      · simp [Builtin.append_, run_underlying ht, run_underlying hu, sizeOf, typeInfo, hi, hsize, Builtin.lenOf, hroom, hf, Addr.add_lit, hst]
      · simp only [List.size_toArray, List.length_append, List.length_take, List.length_drop, Array.length_toList, byteVs_length]
        omega
      · rw [htake, byteVs_append, List.length_append]
        have : l.length + s.data.toList.length = (byteVs l ++ byteVs s.data.toList).length := by rw [List.length_append, byteVs_length, byteVs_length]
        rw [this]
        exact List.take_left
      · unfold Clear at *
        simp only [List.size_toArray, List.length_append, List.length_take, List.length_drop, Array.length_toList, byteVs_length]
        omega
    · have hr := Lib.run_append_grow_string (P := P) w t u ty e i (.int .u8 0) ht hu hi hz ⟨g, 0, none⟩ l.length cp (byteVs l) (by rw [byteVs_length, hsize, Nat.mul_one]) hol.cells s (by omega) (by omega) (by rw [hby]; exact growslice_fits (by omega) (by omega))
      have hge := grownCap_ge w (l.length + s.size) cp e
      have hcm := grownCap_le_maxLen w (l.length + s.size) cp e (by unfold maxLen; omega)
      refine ⟨_, _, hr, .inr ⟨w.heap.size, _, _, (0, 0), by rw [List.length_append, hkl], hbase, heap_alloc_new w.drew _, by rw [List.length_append]; exact hge, hcm, ?_, ?_, .inr rfl⟩, ⟨rfl, rfl, rfl, by simp, fun j hj _ => heap_alloc_old w.drew _ hj⟩⟩
      · have hz1 : (Value.int IntKind.u8 0).cells.size = 1 := rfl
        simp only [Array.size_append, List.size_toArray, size_zeroCells, hz1, byteVs_length, Lib.strCells_length]
        omega
      · rw [strCells_eq]
        simp only [Array.toList_append, List.append_assoc, byteVs_append, List.length_append]
        rw [← List.append_assoc]
        have : l.length + s.data.toList.length = (byteVs l ++ byteVs s.data.toList).length := by rw [List.length_append, byteVs_length, byteVs_length]
        rw [this]
        exact List.take_left

/-- the step -/
theorem wpList_append_gs {P : Program} {w : World} {ops : Array Oper} {rest : List Oper} {o : Oper} {a : Act} {Q : Exit → Act → World → Prop} (hgd : o.guard = none) (s x : Operand) (t u : TypeId)
    (ho : o.op = .call { callee := .builtin .append, args := #[s, x], argTypes := #[t, u] })
    (base : Nat) (e : TypeId) (i : TypeInfo) (ht : P.underlying t = some (.slice e)) (hu : P.underlying u = some .string) (hi : P.info? e = some i) (hz : i.zero = some (.int .u8 0))
    (hsize : i.size = 1) (hby : i.bytes = 1)
    (v : Value) (l : List UInt8) (hs : a.eval s = v) (hown : OwnG e w base v l)
    (k : ByteArray) (hx : a.eval x = .string k)
    (hlen : l.length + k.size ≤ 70368744177664) (hbase : base ≤ w.heap.size)
    (h : ∀ v' w', OwnG e w' base v' (l ++ k.data.toList) → Below base w w' → wpList P ops Q rest (a.put o.dst v') w') : wpList P ops Q (o :: rest) a w := by
  refine wpList_plain hgd fun K hK => ?_
  obtain ⟨v', w', hr, h2, h3⟩ := run_append_gs (P := P) w base t u o.type e i ht hu hi hz hsize hby v l hown k hlen hbase
  unfold Oper.wp execOp
  simp only [ho, resolve, invoke, builtin, Sem.run_bind, Sem.run_pure, Result.andThen_ok, List.map_toArray, List.map_cons, List.map_nil, hs, hx, hr]
  exact hK _ _ (h v' w' h2 ((Below.refl base w).grown h3 hbase fun j hj => (hown.lt j hj).1))

end Go.Proofs.YtnmhkjgcfhcmpaaDoor
