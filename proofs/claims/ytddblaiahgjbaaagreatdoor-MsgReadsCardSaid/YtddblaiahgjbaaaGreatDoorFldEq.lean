/-
  How two fields compare.
-/
import Derived.Test.YtddblaiahgjbaaaGreatDoorPlField
import Derived.Test.YtddblaiahgjbaaaGreatDoorProg
import Derived.WalkKit
import Derived.Laws.StructEq
namespace Go.Proofs.YtddblaiahgjbaaaGreatDoor
open Go.RowKit
namespace Fld

theorem fieldU : Tryz.prog.underlying 47 = some (.struct (Tryz.prog.fieldsOf 47)) := by kernel_rfl
theorem fieldH : Tryz.prog.stoodInHeld 47 = false := by kernel_rfl
theorem fieldG : Tryz.prog.eqGuardType Tryz.prog.depth 47 = false := by kernel_rfl
theorem fieldL : ((Tryz.prog.fieldsOf 47).toList.map fun f => (f.name == "_", f.type, f.offset)) = [(false, 3, 0), (false, 9, 1)] := by kernel_rfl
/-- fields are the same if tags and values are -/
def sameF (t1 : Int) (u1 : ByteArray) (t2 : Int) (u2 : ByteArray) : Bool := t1 == t2 && u1.toList == u2.toList
theorem sameF_iff (t1 : Int) (u1 : ByteArray) (t2 : Int) (u2 : ByteArray) : sameF t1 u1 t2 u2 = true ↔ (⟨t1, u1⟩ : F) = ⟨t2, u2⟩ := by
  unfold sameF
  rw [Bool.and_eq_true, beq_iff_eq, beq_iff_eq, F.mk.injEq]
  constructor
  · rintro ⟨h1, h2⟩
    refine ⟨h1, ?_⟩
    rw [ByteArray.toList_eq, ByteArray.toList_eq] at h2
    obtain ⟨⟨x⟩⟩ := u1
    obtain ⟨⟨y⟩⟩ := u2
    simpa using h2
  · rintro ⟨h1, h2⟩
    exact ⟨h1, by rw [h2]⟩
theorem run_field_eq (t1 : Int) (u1 : ByteArray) (t2 : Int) (u2 : ByteArray) (w : World) :
    (Op.equalIn 10000 47 (.agg #[.int .i64 t1, .string u1]) (.agg #[.int .i64 t2, .string u2])).run Tryz.prog w = .ok (sameF t1 u1 t2 u2) w := by
  rw [run_equalIn_agg w 9999 _ _ _ fieldU fieldH]
  have hl := fieldL
  cases hx : (Tryz.prog.fieldsOf 47).toList with
  | nil => rw [hx] at hl; simp at hl
  | cons f r =>
    cases r with
    | nil => rw [hx] at hl; simp at hl
    | cons g r =>
      cases r with
      | cons h r => rw [hx] at hl; simp at hl
      | nil =>
        rw [hx] at hl
        simp only [List.map_cons, List.map_nil, List.cons.injEq, Prod.mk.injEq, and_true] at hl
        obtain ⟨⟨n1, ty1, o1⟩, ⟨n2, ty2, o2⟩⟩ := hl
        have m1 : ¬ f.name = "_" := by simpa using n1
        have m2 : ¬ g.name = "_" := by simpa using n2
        have p1 : ∀ x y : Value, (part 3 #[x, y] 0).run Tryz.prog w = .ok x w := fun x y => by simp [part, isAgg, run_underlying Tryz.underlying3]
        have p2 : ∀ x y : Value, (part 9 #[x, y] 1).run Tryz.prog w = .ok y w := fun x y => by simp [part, isAgg, run_underlying Tryz.underlying9]
        have e1 : (Op.equalIn 9999 3 (.int .i64 t1) (.int .i64 t2)).run Tryz.prog w = .ok (t1 == t2) w := run_equalIn_int w 9998 3 .i64 .i64 t1 t2 Tryz.underlying3
        have e2 : (Op.equalIn 9999 9 (.string u1) (.string u2)).run Tryz.prog w = .ok (u1.toList == u2.toList) w := run_equalIn_string w 9998 9 u1 u2 Tryz.underlying9
        simp only [Op.eqFields, ne_eq, m1, m2, not_false_eq_true, if_true, ty1, ty2, o1, o2, Sem.run_bind, p1, e1, Result.andThen_ok]
        unfold sameF
        cases h1 : t1 == t2 <;> cases h2 : u1.toList == u2.toList <;> simp [p2, e2, h2]
/-- the steps of a compare of two fields -/
theorem run_field_neq (t1 : Int) (u1 : ByteArray) (t2 : Int) (u2 : ByteArray) (w : World) :
    (binOp .neq 47 (.agg #[.int .i64 t1, .string u1]) (.agg #[.int .i64 t2, .string u2])).run Tryz.prog w = .ok (.bool (!(sameF t1 u1 t2 u2))) w := by
  rw [run_neq_struct, run_field_eq, Result.andThen_ok]
theorem run_field_eql (t1 : Int) (u1 : ByteArray) (t2 : Int) (u2 : ByteArray) (w : World) :
    (binOp .eql 47 (.agg #[.int .i64 t1, .string u1]) (.agg #[.int .i64 t2, .string u2])).run Tryz.prog w = .ok (.bool (sameF t1 u1 t2 u2)) w := by
  rw [run_eql_struct, run_field_eq, Result.andThen_ok]
theorem run_field_guard (op : BinOp) (x y : Operand) (a b : Array Value) (w : World) : (eqGuard op 47 x y (.agg a) (.agg b)).run Tryz.prog w = .ok () w := run_eqGuard_agg w op _ _ _ _ _ fieldG

end Fld
end Go.Proofs.YtddblaiahgjbaaaGreatDoor
