/-
  The contract of num.Right, for the layers above.
-/
import Derived.Test.YtddblaiahgjbaaaGreatDoorPlNum
import Derived.Test.YtddblaiahgjbaaaGreatDoorTools
import Derived.Test.YtddblaiahgjbaaaGreatDoorProg
namespace Go.Proofs.YtddblaiahgjbaaaGreatDoor
open Go.RowKit
namespace Num

set_option maxHeartbeats 400000 in
theorem right_any (n : Int) (w : World) :
    Calls Tryz.prog 60 #[.int .i64 n] w fun e w' => e = .returned (.bool (rightB n)) ∧ w = w' := by
  by_cases h1 : -4611686018427387904 ≤ n
  · by_cases h2 : n ≤ 4611686018427387904
    · have H := Lib.hid ((right_iff n).2 ⟨h1, h2⟩)
      go_enter Tryz.func60, Tryz.ntmps60
      go_wp2
      go_ret
      exact ⟨ret_b H.out.symm, rfl⟩
    · have H := Lib.hid ((right_no n).2 (by omega))
      go_enter Tryz.func60, Tryz.ntmps60
      go_wp2
      go_ret
      exact ⟨ret_b H.out.symm, rfl⟩
  · have H := Lib.hid ((right_no n).2 (by omega))
    go_enter Tryz.func60, Tryz.ntmps60
    go_wp2
    go_ret
    exact ⟨ret_b H.out.symm, rfl⟩
theorem right_t (n : Int) (w : World) (h : rightB n = true) :
    Calls Tryz.prog 60 #[.int .i64 n] w fun e w' => e = .returned (.bool true) ∧ w = w' :=
  (right_any n w).mono fun _ _ ⟨he, hw⟩ => ⟨by rw [he, h], hw⟩
theorem right_f (n : Int) (w : World) (h : rightB n = false) :
    Calls Tryz.prog 60 #[.int .i64 n] w fun e w' => e = .returned (.bool false) ∧ w = w' :=
  (right_any n w).mono fun _ _ ⟨he, hw⟩ => ⟨by rw [he, h], hw⟩

end Num
end Go.Proofs.YtddblaiahgjbaaaGreatDoor
