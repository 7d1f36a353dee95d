/-
  The contracts of num.Right, num.within, num.Add, and of the reference's Right, Add.
-/
import Derived.Test.YtkpbedfafaphdaaDoorPlNum
import Derived.Test.YtkpbedfafaphdaaDoorTools
import Derived.Test.YtkpbedfafaphdaaDoorProg
namespace Go.Proofs.YtkpbedfafaphdaaDoor
open Go.RowKit
namespace Num

set_option maxHeartbeats 400000 in
theorem right_any (n : Int) (w : World) :
    Calls Tryd.prog 14 #[.int .i64 n] w fun e w' => e = .returned (.bool (rightB n)) ∧ w = w' := by
  by_cases h1 : -4611686018427387904 ≤ n
  · by_cases h2 : n ≤ 4611686018427387904
    · have H := Lib.hid ((right_iff n).2 ⟨h1, h2⟩)
      go_enter Tryd.func14, Tryd.ntmps14
      go_wp2
      go_ret
      exact ⟨ret_b H.out.symm, rfl⟩
    · have H := Lib.hid ((right_no n).2 (by omega))
      go_enter Tryd.func14, Tryd.ntmps14
      go_wp2
      go_ret
      exact ⟨ret_b H.out.symm, rfl⟩
  · have H := Lib.hid ((right_no n).2 (by omega))
    go_enter Tryd.func14, Tryd.ntmps14
    go_wp2
    go_ret
    exact ⟨ret_b H.out.symm, rfl⟩
theorem right_t (n : Int) (w : World) (h : rightB n = true) :
    Calls Tryd.prog 14 #[.int .i64 n] w fun e w' => e = .returned (.bool true) ∧ w = w' :=
  (right_any n w).mono fun _ _ ⟨he, hw⟩ => ⟨by rw [he, h], hw⟩
theorem right_f (n : Int) (w : World) (h : rightB n = false) :
    Calls Tryd.prog 14 #[.int .i64 n] w fun e w' => e = .returned (.bool false) ∧ w = w' :=
  (right_any n w).mono fun _ _ ⟨he, hw⟩ => ⟨by rw [he, h], hw⟩

set_option maxHeartbeats 400000 in
theorem within_any (n : Int) (w : World) :
    Calls Tryd.prog 22 #[.int .i64 n] w fun e w' => e = .returned (.tuple #[.int .i64 (cutV n), .bool (rightB n)]) ∧ w = w' := by
  cases hr : rightB n
  · have H := Lib.hid (show cutV n = 0 by simp [cutV, hr])
    go_enter Tryd.func22, Tryd.ntmps22
    go_wp2_with (go_at_call 14; refine (right_f _ _ hr).mono ?_; rintro e w' ⟨rfl, rfl⟩)
    go_ret2
    exact ⟨ret_ib H.out.symm rfl, rfl⟩
  · have H := Lib.hid (show cutV n = n by simp [cutV, hr])
    go_enter Tryd.func22, Tryd.ntmps22
    go_wp2_with (go_at_call 14; refine (right_t _ _ hr).mono ?_; rintro e w' ⟨rfl, rfl⟩)
    go_ret2
    exact ⟨ret_ib H.out.symm rfl, rfl⟩

set_option maxHeartbeats 400000 in
theorem add_any (a b : Int) (w : World) :
    Calls Tryd.prog 10 #[.int .i64 a, .int .i64 b] w fun e w' => e = .returned (.tuple #[.int .i64 (addV a b), .bool (addO a b)]) ∧ w = w' := by
  cases ha : rightB a
  · have H := Lib.hid (show addO a b = false by simp [addO, ha])
    have H2 := Lib.hid (show addV a b = 0 by simp [addV, H.out])
    go_enter Tryd.func10, Tryd.ntmps10
    go_wp2_with (go_at_call 14; refine (right_f _ _ ha).mono ?_; rintro e w' ⟨rfl, rfl⟩)
    go_ret2
    exact ⟨ret_ib H2.out.symm H.out.symm, rfl⟩
  · cases hb : rightB b
    · have H := Lib.hid (show addO a b = false by simp [addO, hb])
      have H2 := Lib.hid (show addV a b = 0 by simp [addV, H.out])
      go_enter Tryd.func10, Tryd.ntmps10
      go_wp2_with fail
      refine (right_t _ _ ha).mono ?_
      rintro e w' ⟨rfl, rfl⟩
      go_wp2_with fail
      refine (right_f _ _ hb).mono ?_
      rintro e w' ⟨rfl, rfl⟩
      go_wp2_with fail
      go_ret2
      exact ⟨ret_ib H2.out.symm H.out.symm, rfl⟩
    · have H := Lib.hid (show addO a b = rightB (wrap64 (a + b)) by
        simp only [addO, ha, hb, Bool.true_and]
        have ga := (right_iff a).1 ha
        have gb := (right_iff b).1 hb
        by_cases ht : a + b = 9223372036854775808
        · rw [ht]; decide +kernel
        · rw [IntWalk.wrap64_in _ (by omega)])
      have H2 := Lib.hid (show addV a b = cutV (wrap64 (a + b)) by
        simp only [addV, cutV, H.out]
        by_cases hz : rightB (wrap64 (a + b)) = true
        · rw [if_pos hz, if_pos hz]
          have ga := (right_iff a).1 ha
          have gb := (right_iff b).1 hb
          by_cases ht : a + b = 9223372036854775808
          · rw [ht] at hz; exact absurd hz (by decide +kernel)
          · rw [IntWalk.wrap64_in _ (by omega)]
        · rw [if_neg hz, if_neg hz])
      go_enter Tryd.func10, Tryd.ntmps10
      go_wp2_with fail
      refine (right_t _ _ ha).mono ?_
      rintro e w' ⟨rfl, rfl⟩
      go_wp2_with fail
      refine (right_t _ _ hb).mono ?_
      rintro e w' ⟨rfl, rfl⟩
      go_wp2_with fail
      refine (within_any _ _).mono ?_
      rintro e w' ⟨rfl, rfl⟩
      go_wp2_with fail
      go_ret2
      exact ⟨ret_ib H2.out.symm H.out.symm, rfl⟩

end Num
end Go.Proofs.YtkpbedfafaphdaaDoor
