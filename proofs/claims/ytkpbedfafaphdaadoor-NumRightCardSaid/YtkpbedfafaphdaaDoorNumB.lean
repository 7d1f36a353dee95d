/-
  The contracts of num.size, num.Mul.
-/
import Derived.Test.YtkpbedfafaphdaaDoorNumA
import Derived.Test.YtkpbedfafaphdaaDoorShelf
namespace Go.Proofs.YtkpbedfafaphdaaDoor
open Go.RowKit
namespace Num

set_option maxHeartbeats 400000 in
theorem size_any (a : Int) (h : rightB a = true) (w : World) :
    Calls Tryd.prog 24 #[.int .i64 a] w fun e w' => e = .returned (.int .u64 a.natAbs) ∧ w = w' := by
  have ⟨h1, h2⟩ := (right_iff a).1 h
  clear h
  by_cases hn : a < 0
  · go_enter Tryd.func24, Tryd.ntmps24
    go_wp2
    go_ret
    exact ⟨ret_i (by omega), rfl⟩
  · go_enter Tryd.func24, Tryd.ntmps24
    go_wp2
    go_ret
    exact ⟨ret_i (by omega), rfl⟩

/-- the library's product, for numbers: the product of the two sizes as one number p -/
theorem mul64_small (x y : Nat) (p : Int) (hp : ((x * y : Nat) : Int) = p) (hx : x ≤ 4611686018427387904) (hy : y ≤ 4611686018427387904) (h : p ≤ 4611686018427387904) (w : World) :
    Calls Tryd.prog 23 #[.int .u64 x, .int .u64 y] w fun e w' => e = .returned (.tuple #[.int .u64 0, .int .u64 p]) ∧ w = w' :=
  (Tryd.bits_Mul64 x y (by omega) (by omega) w).mono fun _ _ ⟨he, hw⟩ => ⟨by rw [he]; exact ret_ii (by omega) (by omega), hw.symm⟩
theorem mul64_mid (x y : Nat) (p : Int) (hp : ((x * y : Nat) : Int) = p) (hx : x ≤ 4611686018427387904) (hy : y ≤ 4611686018427387904) (h : p < 18446744073709551616) (w : World) :
    Calls Tryd.prog 23 #[.int .u64 x, .int .u64 y] w fun e w' => e = .returned (.tuple #[.int .u64 0, .int .u64 p]) ∧ w = w' :=
  (Tryd.bits_Mul64 x y (by omega) (by omega) w).mono fun _ _ ⟨he, hw⟩ => ⟨by rw [he]; exact ret_ii (by omega) (by omega), hw.symm⟩
theorem mul64_big (x y : Nat) (p : Int) (hp : ((x * y : Nat) : Int) = p) (hx : x ≤ 4611686018427387904) (hy : y ≤ 4611686018427387904) (h : 18446744073709551616 ≤ p) (w : World) :
    Calls Tryd.prog 23 #[.int .u64 x, .int .u64 y] w fun e w' => (∃ hi lo : Int, 1 ≤ hi ∧ 0 ≤ lo ∧ e = .returned (.tuple #[.int .u64 hi, .int .u64 lo])) ∧ w = w' :=
  (Tryd.bits_Mul64 x y (by omega) (by omega) w).mono fun _ _ ⟨he, hw⟩ => ⟨⟨_, _, by omega, by omega, he⟩, hw.symm⟩

theorem abs_mul (a b : Int) : ((a.natAbs * b.natAbs : Nat) : Int) = if (a < 0) = (b < 0) then a * b else -(a * b) := by
  rw [← Int.natAbs_mul]
  by_cases ha : a < 0 <;> by_cases hb : b < 0 <;> simp [ha, hb]
  · have := Int.mul_nonneg_of_nonpos_of_nonpos (show a ≤ 0 by omega) (show b ≤ 0 by omega); omega
  · have := Int.mul_nonpos_of_nonpos_of_nonneg (show a ≤ 0 by omega) (show 0 ≤ b by omega); omega
  · have := Int.mul_nonpos_of_nonneg_of_nonpos (show 0 ≤ a by omega) (show b ≤ 0 by omega); omega
  · have := Int.mul_nonneg (show 0 ≤ a by omega) (show 0 ≤ b by omega); omega

theorem mulV_of {a b : Int} (h : mulO a b = true) : mulV a b = a * b := by simp [mulV, h]
theorem mulV_no {a b : Int} (h : mulO a b = false) : mulV a b = 0 := by simp [mulV, h]

set_option maxHeartbeats 1000000 in
theorem mul_any (a b : Int) (w : World) :
    Calls Tryd.prog 12 #[.int .i64 a, .int .i64 b] w fun e w' => e = .returned (.tuple #[.int .i64 (mulV a b), .bool (mulO a b)]) ∧ w = w' := by
  cases ha : rightB a
  · have H := Lib.hid (show mulO a b = false by simp [mulO, ha])
    go_enter Tryd.func12, Tryd.ntmps12
    go_wp2_with (go_at_call 14; refine (right_f _ _ ha).mono ?_; rintro e w' ⟨rfl, rfl⟩)
    go_ret2
    exact ⟨ret_ib (mulV_no H.out).symm H.out.symm, rfl⟩
  · cases hb : rightB b
    · have H := Lib.hid (show mulO a b = false by simp [mulO, hb])
      go_enter Tryd.func12, Tryd.ntmps12
      go_wp2_with fail
      refine (right_t _ _ ha).mono ?_
      rintro e w' ⟨rfl, rfl⟩
      go_wp2_with fail
      refine (right_f _ _ hb).mono ?_
      rintro e w' ⟨rfl, rfl⟩
      go_wp2_with fail
      go_ret2
      exact ⟨ret_ib (mulV_no H.out).symm H.out.symm, rfl⟩
    · have ⟨a1, a2⟩ := (right_iff a).1 ha
      have ⟨b1, b2⟩ := (right_iff b).1 hb
      obtain ⟨p, hp⟩ : ∃ p : Int, ((a.natAbs * b.natAbs : Nat) : Int) = p := ⟨_, rfl⟩
      have hpn : 0 ≤ p := by omega
      have hx : a.natAbs ≤ 4611686018427387904 := by omega
      have hy : b.natAbs ≤ 4611686018427387904 := by omega
      have hab := abs_mul a b
      rw [hp] at hab
      by_cases hs : p ≤ 4611686018427387904
      · cases da : decide (a < 0) <;> cases db : decide (b < 0)
        all_goals
          have na := da
          have nb := db
          simp only [decide_eq_true_eq, decide_eq_false_iff_not] at na nb
          have HO := Lib.hid (show mulO a b = true by
            simp only [mulO, ha, hb, Bool.true_and, right_iff]; simp [na, nb] at hab; omega)
          have HV := Lib.hid (show mulV a b = if (a < 0) = (b < 0) then p else -p by rw [mulV_of HO.out]; simp [na, nb] at hab ⊢; omega)
          have HP := Lib.hid hp
          have HA := Lib.hid ha
          have HB := Lib.hid hb
          clear hab hp ha hb
          go_enter Tryd.func12, Tryd.ntmps12
          go_wp2_with fail
          refine (right_t _ _ HA.out).mono ?_
          rintro e w' ⟨rfl, rfl⟩
          go_wp2_with fail
          refine (right_t _ _ HB.out).mono ?_
          rintro e w' ⟨rfl, rfl⟩
          go_wp2_with fail
          refine (size_any _ HA.out _).mono ?_
          rintro e w' ⟨rfl, rfl⟩
          go_wp2_with fail
          refine (size_any _ HB.out _).mono ?_
          rintro e w' ⟨rfl, rfl⟩
          go_wp2_with fail
          refine (mul64_small _ _ p HP.out hx hy hs _).mono ?_
          rintro e w' ⟨rfl, rfl⟩
          go_wp2_with fail
          go_ret2
          refine ⟨ret_ib ?_ HO.out.symm, rfl⟩
          rw [HV.out]
          first | rw [if_pos (by simp only [eq_iff_iff]; omega)] | rw [if_neg (by simp only [eq_iff_iff]; omega)]
      · have HO := Lib.hid (show mulO a b = false by
          simp only [mulO, ha, hb, Bool.true_and, right_no]
          by_cases na : a < 0 <;> by_cases nb : b < 0 <;> simp [na, nb] at hab <;> omega)
        have HP := Lib.hid hp
        have HA := Lib.hid ha
        have HB := Lib.hid hb
        clear hab hp ha hb
        by_cases hq : p < 18446744073709551616
        · go_enter Tryd.func12, Tryd.ntmps12
          go_wp2_with fail
          refine (right_t _ _ HA.out).mono ?_
          rintro e w' ⟨rfl, rfl⟩
          go_wp2_with fail
          refine (right_t _ _ HB.out).mono ?_
          rintro e w' ⟨rfl, rfl⟩
          go_wp2_with fail
          refine (size_any _ HA.out _).mono ?_
          rintro e w' ⟨rfl, rfl⟩
          go_wp2_with fail
          refine (size_any _ HB.out _).mono ?_
          rintro e w' ⟨rfl, rfl⟩
          go_wp2_with fail
          refine (mul64_mid _ _ p HP.out hx hy hq _).mono ?_
          rintro e w' ⟨rfl, rfl⟩
          go_wp2_with fail
          go_ret2
          exact ⟨ret_ib (mulV_no HO.out).symm HO.out.symm, rfl⟩
        · go_enter Tryd.func12, Tryd.ntmps12
          go_wp2_with fail
          refine (right_t _ _ HA.out).mono ?_
          rintro e w' ⟨rfl, rfl⟩
          go_wp2_with fail
          refine (right_t _ _ HB.out).mono ?_
          rintro e w' ⟨rfl, rfl⟩
          go_wp2_with fail
          refine (size_any _ HA.out _).mono ?_
          rintro e w' ⟨rfl, rfl⟩
          go_wp2_with fail
          refine (size_any _ HB.out _).mono ?_
          rintro e w' ⟨rfl, rfl⟩
          go_wp2_with fail
          refine (mul64_big _ _ p HP.out hx hy (by omega) _).mono ?_
          rintro e w' ⟨⟨hi, lo, h1, h0, rfl⟩, rfl⟩
          have hne : (!(hi == 0)) = true := by simp; omega
          go_wp2_with fail
          go_ret2
          exact ⟨ret_ib (mulV_no HO.out).symm HO.out.symm, rfl⟩

end Num
end Go.Proofs.YtkpbedfafaphdaaDoor
