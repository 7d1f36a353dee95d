/-
  The contracts of the reference's Right, Add, Mul: the same answers as num's.
-/
import Derived.Test.YtddblaiahgjbaaaGreatDoorPlNum
import Derived.Test.YtddblaiahgjbaaaGreatDoorTools
import Derived.Test.YtddblaiahgjbaaaGreatDoorProg
namespace Go.Proofs.YtddblaiahgjbaaaGreatDoor
open Go.RowKit
namespace Num

set_option maxHeartbeats 400000 in
theorem rright_any (n : Int) (w : World) :
    Calls Tryz.prog 62 #[.int .i64 n] w fun e w' => e = .returned (.bool (rightB n)) ∧ w = w' := by
  by_cases h2 : n ≤ 4611686018427387904
  · by_cases h1 : -4611686018427387904 ≤ n
    · have H := Lib.hid ((right_iff n).2 ⟨h1, h2⟩)
      go_enter Tryz.func62, Tryz.ntmps62
      go_wp2
      go_ret
      exact ⟨ret_b H.out.symm, rfl⟩
    · have H := Lib.hid ((right_no n).2 (by omega))
      go_enter Tryz.func62, Tryz.ntmps62
      go_wp2
      go_ret
      exact ⟨ret_b H.out.symm, rfl⟩
  · have H := Lib.hid ((right_no n).2 (by omega))
    go_enter Tryz.func62, Tryz.ntmps62
    go_wp2
    go_ret
    exact ⟨ret_b H.out.symm, rfl⟩
theorem rright_t (n : Int) (w : World) (h : rightB n = true) :
    Calls Tryz.prog 62 #[.int .i64 n] w fun e w' => e = .returned (.bool true) ∧ w = w' :=
  (rright_any n w).mono fun _ _ ⟨he, hw⟩ => ⟨by rw [he, h], hw⟩
theorem rright_f (n : Int) (w : World) (h : rightB n = false) :
    Calls Tryz.prog 62 #[.int .i64 n] w fun e w' => e = .returned (.bool false) ∧ w = w' :=
  (rright_any n w).mono fun _ _ ⟨he, hw⟩ => ⟨by rw [he, h], hw⟩

end Num
end Go.Proofs.YtddblaiahgjbaaaGreatDoor
