/-
  The contracts of the reference's Right, Add, Mul: the same answers as num's.
-/
import Derived.Test.YtkpbedfafaphdaaDoorPlNum
import Derived.Test.YtkpbedfafaphdaaDoorTools
import Derived.Test.YtkpbedfafaphdaaDoorProg
namespace Go.Proofs.YtkpbedfafaphdaaDoor
open Go.RowKit
namespace Num

set_option maxHeartbeats 400000 in
theorem rright_any (n : Int) (w : World) :
    Calls Tryd.prog 15 #[.int .i64 n] w fun e w' => e = .returned (.bool (rightB n)) ∧ w = w' := by
  by_cases h2 : n ≤ 4611686018427387904
  · by_cases h1 : -4611686018427387904 ≤ n
    · have H := Lib.hid ((right_iff n).2 ⟨h1, h2⟩)
      go_enter Tryd.func15, Tryd.ntmps15
      go_wp2
      go_ret
      exact ⟨ret_b H.out.symm, rfl⟩
    · have H := Lib.hid ((right_no n).2 (by omega))
      go_enter Tryd.func15, Tryd.ntmps15
      go_wp2
      go_ret
      exact ⟨ret_b H.out.symm, rfl⟩
  · have H := Lib.hid ((right_no n).2 (by omega))
    go_enter Tryd.func15, Tryd.ntmps15
    go_wp2
    go_ret
    exact ⟨ret_b H.out.symm, rfl⟩
theorem rright_t (n : Int) (w : World) (h : rightB n = true) :
    Calls Tryd.prog 15 #[.int .i64 n] w fun e w' => e = .returned (.bool true) ∧ w = w' :=
  (rright_any n w).mono fun _ _ ⟨he, hw⟩ => ⟨by rw [he, h], hw⟩
theorem rright_f (n : Int) (w : World) (h : rightB n = false) :
    Calls Tryd.prog 15 #[.int .i64 n] w fun e w' => e = .returned (.bool false) ∧ w = w' :=
  (rright_any n w).mono fun _ _ ⟨he, hw⟩ => ⟨by rw [he, h], hw⟩

theorem addV_of {a b : Int} (h : addO a b = true) : addV a b = a + b := by simp [addV, h]
theorem addV_no {a b : Int} (h : addO a b = false) : addV a b = 0 := by simp [addV, h]

set_option maxHeartbeats 400000 in
theorem radd_any (a b : Int) (w : World) :
    Calls Tryd.prog 11 #[.int .i64 a, .int .i64 b] w fun e w' => e = .returned (.tuple #[.int .i64 (addV a b), .bool (addO a b)]) ∧ w = w' := by
  cases ha : rightB a
  · have H := Lib.hid (show addO a b = false by simp [addO, ha])
    go_enter Tryd.func11, Tryd.ntmps11
    go_wp2_with (go_at_call 15; refine (rright_f _ _ ha).mono ?_; rintro e w' ⟨rfl, rfl⟩)
    go_ret2
    exact ⟨ret_ib (addV_no H.out).symm H.out.symm, rfl⟩
  · cases hb : rightB b
    · have H := Lib.hid (show addO a b = false by simp [addO, hb])
      have HA := Lib.hid ha
      have HB := Lib.hid hb
      clear ha hb
      go_enter Tryd.func11, Tryd.ntmps11
      go_wp2_with fail
      refine (rright_t _ _ HA.out).mono ?_
      rintro e w' ⟨rfl, rfl⟩
      go_wp2_with fail
      refine (rright_f _ _ HB.out).mono ?_
      rintro e w' ⟨rfl, rfl⟩
      go_wp2_with fail
      go_ret2
      exact ⟨ret_ib (addV_no H.out).symm H.out.symm, rfl⟩
    · have ⟨a1, a2⟩ := (right_iff a).1 ha
      have ⟨b1, b2⟩ := (right_iff b).1 hb
      have HE := Lib.hid (show addO a b = rightB (a + b) by simp [addO, ha, hb])
      have HA := Lib.hid ha
      have HB := Lib.hid hb
      clear ha hb
      cases dp : decide (0 < b) <;> cases dn : decide (b < 0)
      · have np := dp
        have nn := dn
        simp only [decide_eq_false_iff_not] at np nn
        have H := Lib.hid (show addO a b = true by rw [HE.out, right_iff]; omega)
        go_enter Tryd.func11, Tryd.ntmps11
        go_wp2_with fail
        refine (rright_t _ _ HA.out).mono ?_
        rintro e w' ⟨rfl, rfl⟩
        go_wp2_with fail
        refine (rright_t _ _ HB.out).mono ?_
        rintro e w' ⟨rfl, rfl⟩
        go_wp2_with fail
        go_ret2
        exact ⟨ret_ib (addV_of H.out).symm H.out.symm, rfl⟩
      · have nn := dn
        simp only [decide_eq_true_eq] at nn
        cases dq : decide (a < -4611686018427387904 - b)
        all_goals
          have nq := dq
          simp only [decide_eq_true_eq, decide_eq_false_iff_not] at nq
          first | have H := Lib.hid (show addO a b = true by rw [HE.out, right_iff]; omega) | have H := Lib.hid (show addO a b = false by rw [HE.out, right_no]; omega)
          go_enter Tryd.func11, Tryd.ntmps11
          go_wp2_with fail
          refine (rright_t _ _ HA.out).mono ?_
          rintro e w' ⟨rfl, rfl⟩
          go_wp2_with fail
          refine (rright_t _ _ HB.out).mono ?_
          rintro e w' ⟨rfl, rfl⟩
          go_wp2_with fail
          go_ret2
          first | exact ⟨ret_ib (addV_of H.out).symm H.out.symm, rfl⟩ | exact ⟨ret_ib (addV_no H.out).symm H.out.symm, rfl⟩
      · have np := dp
        simp only [decide_eq_true_eq] at np
        cases dq : decide (4611686018427387904 - b < a)
        all_goals
          have nq := dq
          simp only [decide_eq_true_eq, decide_eq_false_iff_not] at nq
          first | have H := Lib.hid (show addO a b = true by rw [HE.out, right_iff]; omega) | have H := Lib.hid (show addO a b = false by rw [HE.out, right_no]; omega)
          go_enter Tryd.func11, Tryd.ntmps11
          go_wp2_with fail
          refine (rright_t _ _ HA.out).mono ?_
          rintro e w' ⟨rfl, rfl⟩
          go_wp2_with fail
          refine (rright_t _ _ HB.out).mono ?_
          rintro e w' ⟨rfl, rfl⟩
          go_wp2_with fail
          go_ret2
          first | exact ⟨ret_ib (addV_of H.out).symm H.out.symm, rfl⟩ | exact ⟨ret_ib (addV_no H.out).symm H.out.symm, rfl⟩
      · simp only [decide_eq_true_eq] at dp dn
        omega

end Num
end Go.Proofs.YtkpbedfafaphdaaDoor
