/-
  The contract of num.Show, for the layers above.
-/
import Derived.Test.YtddblaiahgjbaaaGreatDoorNumRt
import Derived.Test.YtddblaiahgjbaaaGreatDoorLaid
import Derived.Test.YtddblaiahgjbaaaGreatDoorPlBack
namespace Go.Proofs.YtddblaiahgjbaaaGreatDoor
open Go.RowKit
namespace Num

theorem grown_below (w : World) (k : Nat) (os : Array Obj) : Below w.heap.size w (Sort.grow (w.drewN k) os) :=
  ⟨rfl, rfl, rfl, by show w.heap.size ≤ (w.heap ++ os).size; rw [Array.size_append]; omega, fun i hi => by
    show (w.heap ++ os)[i]? = _
    rw [Array.getElem?_append_left hi]⟩

set_option maxHeartbeats 400000 in
theorem show_any (n : Int) (w : World) (hl : Laid w) :
    Calls Tryz.prog 41 #[.int .i64 n] w fun e w' => e = .returned (.string (showS n)) ∧ Below w.heap.size w w' := by
  have HL := Lib.hid hl
  clear hl
  cases hr : rightB n
  · have H := Lib.hid (show showS n = ⟨#[]⟩ by simp [showS, showL, hr])
    go_enter Tryz.func41, Tryz.ntmps41
    go_wp2_with (go_at_call 60; refine (right_f _ _ hr).mono ?_; rintro e w' ⟨rfl, rfl⟩)
    go_ret
    exact ⟨ret_s H.out.symm, Below.refl _ _⟩
  · have H := Lib.hid (show showS n = ⟨(Lib.itoa n).toArray⟩ by simp [showS, showL, hr])
    have ⟨h1, h2⟩ := (right_iff n).1 hr
    go_enter Tryz.func41, Tryz.ntmps41
    go_wp2_with fail
    refine (right_t _ _ hr).mono ?_
    rintro e w' ⟨rfl, rfl⟩
    go_wp2_with fail
    refine (Tryz.strconv_FormatInt_10 n (by omega) (by omega) _ HL.out.tab).mono ?_
    rintro e w' ⟨rfl, k, os, rfl⟩
    go_wp2_with fail
    go_ret
    exact ⟨ret_s H.out.symm, grown_below _ _ _⟩

end Num
end Go.Proofs.YtddblaiahgjbaaaGreatDoor
