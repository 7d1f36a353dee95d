/-
  The contract of the reference's Mul: the same answers as num's.
-/
import Derived.Test.YtkpbedfafaphdaaDoorNumR
namespace Go.Proofs.YtkpbedfafaphdaaDoor
open Go.RowKit
namespace Num

theorem rmulV_of {a b : Int} (h : mulO a b = true) : mulV a b = a * b := by simp [mulV, h]
theorem rmulV_no {a b : Int} (h : mulO a b = false) : mulV a b = 0 := by simp [mulV, h]
theorem rbeq {a : Int} (h : a = 0) : (a == 0) = true := by simp [h]
theorem rbne {a : Int} (h : ¬ a = 0) : (a == 0) = false := by simp [h]

theorem quo_lt (x y : Int) (hy : 0 < y) : 4611686018427387904 / y < x ↔ 4611686018427387904 < x * y := by
  rw [Int.ediv_lt_iff_lt_mul hy]

theorem quo_neg (b : Int) (h : 0 < -b) : wrap64 (-Int.tdiv 4611686018427387904 b) = 4611686018427387904 / (-b) := by
  have e : -Int.tdiv 4611686018427387904 b = 4611686018427387904 / (-b) := by
    rw [← Int.tdiv_neg, Int.tdiv_eq_ediv_of_nonneg (by decide)]
  have h1 : 0 ≤ 4611686018427387904 / (-b) := Int.ediv_nonneg (by decide) (by omega)
  have h2 : 4611686018427387904 / (-b) ≤ 4611686018427387904 := Int.ediv_le_self _ (by decide)
  rw [e, IntWalk.wrap64_in _ (by omega)]

set_option maxHeartbeats 1000000 in
theorem rmul_zero (a b : Int) (ha : rightB a = true) (hb : rightB b = true) (hz : a = 0 ∨ b = 0) (w : World) :
    Calls Tryd.prog 13 #[.int .i64 a, .int .i64 b] w fun e w' => e = .returned (.tuple #[.int .i64 (mulV a b), .bool (mulO a b)]) ∧ w = w' := by
  have H := Lib.hid (show mulO a b = true by
    simp only [mulO, ha, hb, Bool.true_and]; rcases hz with h | h <;> rw [h] <;> simp <;> decide)
  have HV := Lib.hid (show mulV a b = 0 by rw [rmulV_of H.out]; rcases hz with h | h <;> rw [h] <;> simp)
  have HA := Lib.hid ha
  have HB := Lib.hid hb
  clear ha hb
  by_cases za : a = 0
  · have d1 := rbeq za
    have HZ := Lib.hid za
    clear za hz
    go_enter Tryd.func13, Tryd.ntmps13
    go_wp2_with fail
    refine (rright_t _ _ HA.out).mono ?_
    rintro e w' ⟨rfl, rfl⟩
    go_wp2_with fail
    refine (rright_t _ _ HB.out).mono ?_
    rintro e w' ⟨rfl, rfl⟩
    go_wp2_with fail
    go_ret2
    exact ⟨ret_ib HV.out.symm H.out.symm, rfl⟩
  · have zb : b = 0 := by omega
    have d1 := rbne za
    have d2 := rbeq zb
    have HZ := Lib.hid zb
    clear za zb hz
    go_enter Tryd.func13, Tryd.ntmps13
    go_wp2_with fail
    refine (rright_t _ _ HA.out).mono ?_
    rintro e w' ⟨rfl, rfl⟩
    go_wp2_with fail
    refine (rright_t _ _ HB.out).mono ?_
    rintro e w' ⟨rfl, rfl⟩
    go_wp2_with fail
    go_ret2
    exact ⟨ret_ib HV.out.symm H.out.symm, rfl⟩

set_option maxHeartbeats 2000000 in
theorem rmul_any (a b : Int) (w : World) :
    Calls Tryd.prog 13 #[.int .i64 a, .int .i64 b] w fun e w' => e = .returned (.tuple #[.int .i64 (mulV a b), .bool (mulO a b)]) ∧ w = w' := by
  cases ha : rightB a
  · have H := Lib.hid (show mulO a b = false by simp [mulO, ha])
    go_enter Tryd.func13, Tryd.ntmps13
    go_wp2_with (go_at_call 15; refine (rright_f _ _ ha).mono ?_; rintro e w' ⟨rfl, rfl⟩)
    go_ret2
    exact ⟨ret_ib (rmulV_no H.out).symm H.out.symm, rfl⟩
  · cases hb : rightB b
    · have H := Lib.hid (show mulO a b = false by simp [mulO, hb])
      have HA := Lib.hid ha
      have HB := Lib.hid hb
      clear ha hb
      go_enter Tryd.func13, Tryd.ntmps13
      go_wp2_with fail
      refine (rright_t _ _ HA.out).mono ?_
      rintro e w' ⟨rfl, rfl⟩
      go_wp2_with fail
      refine (rright_f _ _ HB.out).mono ?_
      rintro e w' ⟨rfl, rfl⟩
      go_wp2_with fail
      go_ret2
      exact ⟨ret_ib (rmulV_no H.out).symm H.out.symm, rfl⟩
    · by_cases hz : a = 0 ∨ b = 0
      · exact rmul_zero a b ha hb hz w
      have ⟨a1, a2⟩ := (right_iff a).1 ha
      have ⟨b1, b2⟩ := (right_iff b).1 hb
      have HM := Lib.hid (show mulO a b = rightB (a * b) by simp [mulO, ha, hb])
      have HA := Lib.hid ha
      have HB := Lib.hid hb
      clear ha hb
      have d1 := rbne (show ¬ a = 0 by omega)
      have d2 := rbne (show ¬ b = 0 by omega)
      cases da : decide (a < 0) <;> cases db : decide (b < 0)
      · have na := da
        have nb := db
        simp only [decide_eq_false_iff_not] at na nb
        have pa : 0 < a := by omega
        have pb : 0 < b := by omega
        have hq := quo_lt (a) (b) pb
        have pp := Int.mul_pos pa pb
        obtain ⟨p, hp⟩ : ∃ p, (a) * (b) = p := ⟨_, rfl⟩
        have hab : a * b = p := hp
        rw [hp] at hq pp
        cases dq : decide (4611686018427387904 / (b) < a)
        · have nq := dq
          simp only [decide_eq_false_iff_not] at nq
          have hle : p ≤ 4611686018427387904 := by omega
          have H := Lib.hid (show mulO a b = true by rw [HM.out, hab, right_iff]; omega)
          have HP := Lib.hid hp
          have HAB := Lib.hid hab
          clear hp hab hq hz nq
          go_enter Tryd.func13, Tryd.ntmps13
          go_wp2_with fail
          refine (rright_t _ _ HA.out).mono ?_
          rintro e w' ⟨rfl, rfl⟩
          go_wp2_with fail
          refine (rright_t _ _ HB.out).mono ?_
          rintro e w' ⟨rfl, rfl⟩
          go_wp2_with fail
          go_ret2
          refine ⟨ret_ib ?_ H.out.symm, rfl⟩
          rw [rmulV_of H.out, HAB.out]
          first | rw [HP.out] | rw [HAB.out] | skip
          first | rw [IntWalk.wrap64_in p (by omega), IntWalk.wrap64_in (-p) (by omega)] | rw [IntWalk.wrap64_in p (by omega)] | rw [IntWalk.wrap64_in (-p) (by omega)] | rfl
        · have nq := dq
          simp only [decide_eq_true_eq] at nq
          have hle : 4611686018427387904 < p := by omega
          have H := Lib.hid (show mulO a b = false by rw [HM.out, hab, right_no]; omega)
          clear hp hab hq hz nq
          go_enter Tryd.func13, Tryd.ntmps13
          go_wp2_with fail
          refine (rright_t _ _ HA.out).mono ?_
          rintro e w' ⟨rfl, rfl⟩
          go_wp2_with fail
          refine (rright_t _ _ HB.out).mono ?_
          rintro e w' ⟨rfl, rfl⟩
          go_wp2_with fail
          go_ret2
          exact ⟨ret_ib (rmulV_no H.out).symm H.out.symm, rfl⟩
      · have na := da
        have nb := db
        simp only [decide_eq_true_eq, decide_eq_false_iff_not] at na nb
        have pa : 0 < a := by omega
        have pb : 0 < -b := by omega
        have hq := quo_lt (a) (-b) pb
        have pp := Int.mul_pos pa pb
        obtain ⟨p, hp⟩ : ∃ p, (a) * (-b) = p := ⟨_, rfl⟩
        have hab : a * b = -p := by rw [← hp, Int.mul_neg, Int.neg_neg]
        rw [hp] at hq pp
        rw [← quo_neg b pb] at hq
        cases dq : decide (wrap64 (-Int.tdiv 4611686018427387904 b) < a)
        · have nq := dq
          simp only [decide_eq_false_iff_not] at nq
          have hle : p ≤ 4611686018427387904 := by omega
          have H := Lib.hid (show mulO a b = true by rw [HM.out, hab, right_iff]; omega)
          have HP := Lib.hid hp
          have HAB := Lib.hid hab
          clear hp hab hq hz nq
          go_enter Tryd.func13, Tryd.ntmps13
          go_wp2_with fail
          refine (rright_t _ _ HA.out).mono ?_
          rintro e w' ⟨rfl, rfl⟩
          go_wp2_with fail
          refine (rright_t _ _ HB.out).mono ?_
          rintro e w' ⟨rfl, rfl⟩
          go_wp2_with fail
          go_ret2
          refine ⟨ret_ib ?_ H.out.symm, rfl⟩
          rw [rmulV_of H.out, HAB.out]
          first | rw [HP.out] | rw [HAB.out] | skip
          first | rw [IntWalk.wrap64_in p (by omega), IntWalk.wrap64_in (-p) (by omega)] | rw [IntWalk.wrap64_in p (by omega)] | rw [IntWalk.wrap64_in (-p) (by omega)] | rfl
        · have nq := dq
          simp only [decide_eq_true_eq] at nq
          have hle : 4611686018427387904 < p := by omega
          have H := Lib.hid (show mulO a b = false by rw [HM.out, hab, right_no]; omega)
          clear hp hab hq hz nq
          go_enter Tryd.func13, Tryd.ntmps13
          go_wp2_with fail
          refine (rright_t _ _ HA.out).mono ?_
          rintro e w' ⟨rfl, rfl⟩
          go_wp2_with fail
          refine (rright_t _ _ HB.out).mono ?_
          rintro e w' ⟨rfl, rfl⟩
          go_wp2_with fail
          go_ret2
          exact ⟨ret_ib (rmulV_no H.out).symm H.out.symm, rfl⟩
      · have na := da
        have nb := db
        simp only [decide_eq_true_eq, decide_eq_false_iff_not] at na nb
        have pa : 0 < -a := by omega
        have pb : 0 < b := by omega
        have hq := quo_lt (-a) (b) pb
        have pp := Int.mul_pos pa pb
        obtain ⟨p, hp⟩ : ∃ p, (-a) * (b) = p := ⟨_, rfl⟩
        have hab : a * b = -p := by rw [← hp, Int.neg_mul, Int.neg_neg]
        rw [hp] at hq pp
        cases dq : decide (4611686018427387904 / (b) < -a)
        · have nq := dq
          simp only [decide_eq_false_iff_not] at nq
          have hle : p ≤ 4611686018427387904 := by omega
          have H := Lib.hid (show mulO a b = true by rw [HM.out, hab, right_iff]; omega)
          have HP := Lib.hid hp
          have HAB := Lib.hid hab
          clear hp hab hq hz nq
          go_enter Tryd.func13, Tryd.ntmps13
          go_wp2_with fail
          refine (rright_t _ _ HA.out).mono ?_
          rintro e w' ⟨rfl, rfl⟩
          go_wp2_with fail
          refine (rright_t _ _ HB.out).mono ?_
          rintro e w' ⟨rfl, rfl⟩
          go_wp2_with fail
          go_ret2
          refine ⟨ret_ib ?_ H.out.symm, rfl⟩
          rw [rmulV_of H.out, HAB.out]
          first | rw [HP.out] | rw [HAB.out] | skip
          first | rw [IntWalk.wrap64_in p (by omega), IntWalk.wrap64_in (-p) (by omega)] | rw [IntWalk.wrap64_in p (by omega)] | rw [IntWalk.wrap64_in (-p) (by omega)] | rfl
        · have nq := dq
          simp only [decide_eq_true_eq] at nq
          have hle : 4611686018427387904 < p := by omega
          have H := Lib.hid (show mulO a b = false by rw [HM.out, hab, right_no]; omega)
          clear hp hab hq hz nq
          go_enter Tryd.func13, Tryd.ntmps13
          go_wp2_with fail
          refine (rright_t _ _ HA.out).mono ?_
          rintro e w' ⟨rfl, rfl⟩
          go_wp2_with fail
          refine (rright_t _ _ HB.out).mono ?_
          rintro e w' ⟨rfl, rfl⟩
          go_wp2_with fail
          go_ret2
          exact ⟨ret_ib (rmulV_no H.out).symm H.out.symm, rfl⟩
      · have na := da
        have nb := db
        simp only [decide_eq_true_eq] at na nb
        have pa : 0 < -a := by omega
        have pb : 0 < -b := by omega
        have hq := quo_lt (-a) (-b) pb
        have pp := Int.mul_pos pa pb
        obtain ⟨p, hp⟩ : ∃ p, (-a) * (-b) = p := ⟨_, rfl⟩
        have hab : a * b = p := by rw [← hp, Int.neg_mul_neg]
        rw [hp] at hq pp
        rw [← quo_neg b pb] at hq
        cases dq : decide (wrap64 (-Int.tdiv 4611686018427387904 b) < -a)
        · have nq := dq
          simp only [decide_eq_false_iff_not] at nq
          have hle : p ≤ 4611686018427387904 := by omega
          have H := Lib.hid (show mulO a b = true by rw [HM.out, hab, right_iff]; omega)
          have HP := Lib.hid hp
          have HAB := Lib.hid hab
          clear hp hab hq hz nq
          go_enter Tryd.func13, Tryd.ntmps13
          go_wp2_with fail
          refine (rright_t _ _ HA.out).mono ?_
          rintro e w' ⟨rfl, rfl⟩
          go_wp2_with fail
          refine (rright_t _ _ HB.out).mono ?_
          rintro e w' ⟨rfl, rfl⟩
          go_wp2_with fail
          go_ret2
          refine ⟨ret_ib ?_ H.out.symm, rfl⟩
          rw [rmulV_of H.out, HAB.out]
          first | rw [HP.out] | rw [HAB.out] | skip
          first | rw [IntWalk.wrap64_in p (by omega), IntWalk.wrap64_in (-p) (by omega)] | rw [IntWalk.wrap64_in p (by omega)] | rw [IntWalk.wrap64_in (-p) (by omega)] | rfl
        · have nq := dq
          simp only [decide_eq_true_eq] at nq
          have hle : 4611686018427387904 < p := by omega
          have H := Lib.hid (show mulO a b = false by rw [HM.out, hab, right_no]; omega)
          clear hp hab hq hz nq
          go_enter Tryd.func13, Tryd.ntmps13
          go_wp2_with fail
          refine (rright_t _ _ HA.out).mono ?_
          rintro e w' ⟨rfl, rfl⟩
          go_wp2_with fail
          refine (rright_t _ _ HB.out).mono ?_
          rintro e w' ⟨rfl, rfl⟩
          go_wp2_with fail
          go_ret2
          exact ⟨ret_ib (rmulV_no H.out).symm H.out.symm, rfl⟩

end Num
end Go.Proofs.YtkpbedfafaphdaaDoor
