/-
  The walks of layer 1's laws on two and three numbers: NumChecked, NumOrder.
-/
import Derived.Test.YtkpbedfafaphdaaDoorNumM
namespace Go.Proofs.YtkpbedfafaphdaaDoor
open Go.RowKit
namespace Num

theorem addO_comm (a b : Int) : addO b a = addO a b := by
  unfold addO; rw [Int.add_comm b a, Bool.and_comm (rightB b)]
theorem addV_comm (a b : Int) : addV b a = addV a b := by
  unfold addV; rw [addO_comm, Int.add_comm]
theorem mulO_comm (a b : Int) : mulO b a = mulO a b := by
  unfold mulO; rw [Int.mul_comm b a, Bool.and_comm (rightB b)]
theorem mulV_comm (a b : Int) : mulV b a = mulV a b := by
  unfold mulV; rw [mulO_comm, Int.mul_comm]
theorem two_O (a : Int) : addO a a = mulO a 2 := by
  unfold addO mulO
  rw [show a * 2 = a + a by omega, show rightB 2 = true from by decide]
  cases rightB a <;> simp
theorem two_V (a : Int) : addV a a = mulV a 2 := by
  unfold addV mulV
  rw [two_O, show a * 2 = a + a by omega]
theorem addO_parts {a b : Int} (h : addO a b = true) : rightB a = true ∧ rightB b = true ∧ rightB (a + b) = true := by
  unfold addO at h
  simp only [Bool.and_eq_true] at h
  exact ⟨h.1.1, h.1.2, h.2⟩
theorem mulO_parts {a b : Int} (h : mulO a b = true) : rightB a = true ∧ rightB b = true ∧ rightB (a * b) = true := by
  unfold mulO at h
  simp only [Bool.and_eq_true] at h
  exact ⟨h.1.1, h.1.2, h.2⟩

set_option maxHeartbeats 1000000 in
theorem law_NumChecked (a b : Int) (w : World) (_ha : (Lit.int .i64 a).wf = true) (_hb : (Lit.int .i64 b).wf = true) (hl : Laid w) :
    Calls Tryd.prog 6 #[.int .i64 a, .int .i64 b] w fun e w' => e = .returned (.bool true) ∧ Below w.heap.size w w' := by
  obtain ⟨s, hs⟩ : ∃ s, addV a b = s := ⟨_, rfl⟩
  obtain ⟨p, hp⟩ : ∃ p, mulV a b = p := ⟨_, rfl⟩
  obtain ⟨t, ht⟩ : ∃ t, mulV a 2 = t := ⟨_, rfl⟩
  cases ho : addO a b <;> cases hm : mulO a b <;> cases h2 : mulO a 2
  all_goals
    have A1 := fun w => add_is a b s _ hs ho w
    have A2 := fun w => add_is b a s _ ((addV_comm a b).trans hs) ((addO_comm a b).trans ho) w
    have M1 := fun w => mul_is a b p _ hp hm w
    have M2 := fun w => mul_is b a p _ ((mulV_comm a b).trans hp) ((mulO_comm a b).trans hm) w
    have T1 := fun w => mul_is a 2 t _ ht h2 w
    have T2 := fun w => add_is a a t _ ((two_V a).trans ht) ((two_O a).trans h2) w
    have A3 : Hid (addO a b = true → -9223372036854775808 ≤ b ∧ b ≤ 9223372036854775807 ∧ -9223372036854775807 ≤ b ∧ ∀ w, Calls Tryd.prog 10 #[.int .i64 s, .int .i64 (-b)] w fun e w' => e = .returned (.tuple #[.int .i64 a, .bool true]) ∧ w = w') := Lib.hid (by
      intro h
      have ⟨r1, r2, r3⟩ := addO_parts h
      have g1 := (right_iff _).1 r1
      have g2 := (right_iff _).1 r2
      have g3 := (right_iff _).1 r3
      have e := addV_of h
      rw [hs] at e
      have h4 : addO s (-b) = true := by
        unfold addO
        rw [(right_iff s).2 (by omega), (right_iff (-b)).2 (by omega), (right_iff (s + -b)).2 (by omega)]; rfl
      refine ⟨by omega, by omega, by omega, fun w => add_is s (-b) a true (by rw [addV_of h4]; omega) h4 w⟩)
    have B3 : Hid (mulO a b = true → ¬ b = 0 → (wrap64 (p.tdiv b) != a) = false ∧ (p.tmod b != 0) = false) := Lib.hid (by
      intro h hb
      have ⟨r1, r2, r3⟩ := mulO_parts h
      have g1 := (right_iff _).1 r1
      have e := mulV_of h
      rw [hp] at e
      have e1 : p.tdiv b = a := by rw [e, Int.mul_tdiv_cancel _ hb]
      have e2 : p.tmod b = 0 := by rw [e]; exact Int.mul_tmod_left a b
      rw [e1, e2, IntWalk.wrap64_in a (by omega)]
      simp)
    have HA1 := Lib.hid A1
    have HA2 := Lib.hid A2
    have HM1 := Lib.hid M1
    have HM2 := Lib.hid M2
    have HT1 := Lib.hid T1
    have HT2 := Lib.hid T2
    clear A1 A2 M1 M2 T1 T2 hs hp ht
    have HO := Lib.hid ho
    have HM := Lib.hid hm
    clear ho hm h2
    by_cases hz : b = 0
    all_goals
      first
        | (have z1 : (b != 0) = false := by rw [hz]; rfl)
        | (have z1 : (b != 0) = true := by simpa using hz
           have z2 : (b == 0) = false := by simpa using hz)
      have HZ := Lib.hid hz
      clear hz
      first
        | (have ⟨b1, b2, b3, A3⟩ := A3.out HO.out
           have HA3 := Lib.hid A3
           clear A3)
        | skip
      first
        | (have ⟨q1, q2⟩ := B3.out HM.out HZ.out)
        | skip
      go_enter Tryd.func6, Tryd.ntmps6
      go_wp2_with fail
      refine (awake_any _ hl).mono ?_
      rintro e w1 ⟨rfl, hb1⟩
      have HB1 := Lib.hid hb1
      clear hb1
      go_wp2_with fail
      refine (HA1.out _).mono ?_
      rintro e w' ⟨rfl, rfl⟩
      go_wp2_with fail
      refine (HA2.out _).mono ?_
      rintro e w' ⟨rfl, rfl⟩
      go_wp2_with fail
      refine (HM1.out _).mono ?_
      rintro e w' ⟨rfl, rfl⟩
      go_wp2_with fail
      refine (HM2.out _).mono ?_
      rintro e w' ⟨rfl, rfl⟩
      go_wp2_with fail
      first
        | (refine (HA3.out _).mono ?_
           rintro e w' ⟨rfl, rfl⟩
           go_wp2_with fail)
        | skip
      refine (HT1.out _).mono ?_
      rintro e w' ⟨rfl, rfl⟩
      go_wp2_with fail
      refine (HT2.out _).mono ?_
      rintro e w' ⟨rfl, rfl⟩
      go_wp2_with fail
      go_ret
      exact ⟨rfl, HB1.out⟩

/-- the sign of a product that is a number -/
theorem mul_sign {a b p : Int} (h : mulO a b = true) (hp : mulV a b = p) : p = a * b := by rw [← hp, mulV_of h]
/-- a smaller number times as much is a number, and no greater one -/
theorem mul_less {a b c p : Int} (h : mulO a b = true) (hp : mulV a b = p) (h0 : 0 ≤ c) (h1 : c ≤ a) :
    ∃ q, mulV c b = q ∧ mulO c b = true ∧ (0 ≤ b → q ≤ p) ∧ (b < 0 → p ≤ q) := by
  have ⟨r1, r2, r3⟩ := mulO_parts h
  have g1 := (right_iff _).1 r1
  have g2 := (right_iff _).1 r2
  have g3 := (right_iff _).1 r3
  have e := mul_sign h hp
  have hc : rightB c = true := (right_iff c).2 (by omega)
  by_cases hb : 0 ≤ b
  · have k1 : c * b ≤ a * b := Int.mul_le_mul_of_nonneg_right h1 hb
    have k2 : 0 ≤ c * b := Int.mul_nonneg h0 hb
    have ho : mulO c b = true := by unfold mulO; rw [hc, r2, (right_iff _).2 (by omega)]; rfl
    exact ⟨_, rfl, ho, fun _ => by rw [mulV_of ho]; omega, fun h => by omega⟩
  · have k1 : a * b ≤ c * b := Int.mul_le_mul_of_nonpos_right h1 (by omega)
    have k2 : c * b ≤ 0 := Int.mul_nonpos_of_nonneg_of_nonpos h0 (by omega)
    have ho : mulO c b = true := by unfold mulO; rw [hc, r2, (right_iff _).2 (by omega)]; rfl
    exact ⟨_, rfl, ho, fun h => by omega, fun _ => by rw [mulV_of ho]; omega⟩
theorem add_order {a b c s t : Int} (h1 : addO a c = true) (h2 : addO b c = true) (hs : addV a c = s) (ht : addV b c = t) : decide (s < t) = decide (a < b) := by
  rw [← hs, ← ht, addV_of h1, addV_of h2]
  by_cases h : a < b
  · rw [decide_eq_true h, decide_eq_true (by omega)]
  · rw [decide_eq_false h, decide_eq_false (by omega)]

theorem sign3 (x : Int) : (decide (x < 0) = true ∧ (x != 0) = true ∧ decide (0 < x) = false) ∨ (decide (x < 0) = false ∧ (x != 0) = false ∧ decide (0 < x) = false) ∨ (decide (x < 0) = false ∧ (x != 0) = true ∧ decide (0 < x) = true) := by
  rcases Int.lt_trichotomy x 0 with h | h | h
  · left; refine ⟨decide_eq_true h, ?_, decide_eq_false (by omega)⟩; rw [bne_iff_ne]; omega
  · right; left; subst h; decide
  · right; right; refine ⟨decide_eq_false (by omega), ?_, decide_eq_true h⟩; rw [bne_iff_ne]; omega
theorem p_sign {a b p : Int} (h : p = a * b) : decide (p < 0) = ((decide (a < 0) != decide (b < 0)) && (a != 0) && (b != 0)) := by
  rw [h]
  rcases Int.lt_trichotomy a 0 with ha | ha | ha <;> rcases Int.lt_trichotomy b 0 with hb | hb | hb
  · have := Int.mul_pos_of_neg_of_neg ha hb
    rw [decide_eq_false (by omega), decide_eq_true ha, decide_eq_true hb]; rfl
  · subst hb; simp
  · have := Int.mul_neg_of_neg_of_pos ha hb
    rw [decide_eq_true this, decide_eq_true ha, decide_eq_false (show ¬ b < 0 by omega), show (a != 0) = true by rw [bne_iff_ne]; omega, show (b != 0) = true by rw [bne_iff_ne]; omega]; rfl
  · subst ha; simp
  · subst ha; simp
  · subst ha; simp
  · have := Int.mul_neg_of_pos_of_neg ha hb
    rw [decide_eq_true this, decide_eq_false (show ¬ a < 0 by omega), decide_eq_true hb, show (a != 0) = true by rw [bne_iff_ne]; omega, show (b != 0) = true by rw [bne_iff_ne]; omega]; rfl
  · subst hb; simp
  · have := Int.mul_pos ha hb
    rw [decide_eq_false (by omega), decide_eq_false (show ¬ a < 0 by omega), decide_eq_false (show ¬ b < 0 by omega)]; rfl

set_option maxHeartbeats 8000000 in
theorem law_NumOrder (a b c : Int) (w : World) (_ha : (Lit.int .i64 a).wf = true) (_hb : (Lit.int .i64 b).wf = true) (_hc : (Lit.int .i64 c).wf = true) (hl : Laid w) :
    Calls Tryd.prog 8 #[.int .i64 a, .int .i64 b, .int .i64 c] w fun e w' => e = .returned (.bool true) ∧ Below w.heap.size w w' := by
  obtain ⟨s, hs⟩ : ∃ s, addV a c = s := ⟨_, rfl⟩
  obtain ⟨t, ht⟩ : ∃ t, addV b c = t := ⟨_, rfl⟩
  obtain ⟨p, hp⟩ : ∃ p, mulV a b = p := ⟨_, rfl⟩
  cases ho : addO a c <;> cases hq : addO b c
  all_goals
    have HA1 := Lib.hid (fun w => add_is a c s _ hs ho w)
    have HA2 := Lib.hid (fun w => add_is b c t _ ht hq w)
    first | (have hst := add_order ho hq hs ht) | skip
    clear hs ht ho hq
    cases hm : mulO a b
    · have HM1 := Lib.hid (fun w => mul_is a b p _ hp hm w)
      clear hp hm
      go_enter Tryd.func8, Tryd.ntmps8
      go_wp2_with fail
      refine (awake_any _ hl).mono ?_
      rintro e w1 ⟨rfl, hb1⟩
      have HB1 := Lib.hid hb1
      clear hb1
      go_wp2_with fail
      refine (HA1.out _).mono ?_
      rintro e w' ⟨rfl, rfl⟩
      go_wp2_with fail
      refine (HA2.out _).mono ?_
      rintro e w' ⟨rfl, rfl⟩
      go_wp2_with fail
      refine (HM1.out _).mono ?_
      rintro e w' ⟨rfl, rfl⟩
      go_wp2_with fail
      go_ret
      exact ⟨rfl, HB1.out⟩
    · have HM1 := Lib.hid (fun w => mul_is a b p _ hp hm w)
      have HP := Lib.hid (mul_sign hm hp)
      have HL := Lib.hid (fun h0 h1 => mul_less (c := c) hm hp h0 h1)
      have dp := p_sign HP.out
      clear hp hm
      rcases sign3 a with ⟨da, na, pa⟩ | ⟨da, na, pa⟩ | ⟨da, na, pa⟩ <;> rcases sign3 b with ⟨db, nb, pb⟩ | ⟨db, nb, pb⟩ | ⟨db, nb, pb⟩
      all_goals
        rw [da, na, db, nb] at dp
        first | (have dq : decide (p < 0) = true := dp.trans rfl) | (have dq : decide (p < 0) = false := dp.trans rfl)
        first
          | (have ob : decide (0 ≤ b) = false := decide_eq_false (by have := of_decide_eq_true db; omega))
          | (have ob : decide (0 ≤ b) = true := decide_eq_true (by have := of_decide_eq_false db; omega))
        clear dp
      all_goals first
        | (have h0a : decide (0 < a) = false := pa
           go_enter Tryd.func8, Tryd.ntmps8
           go_wp2_with fail
           refine (awake_any _ hl).mono ?_
           rintro e w1 ⟨rfl, hb1⟩
           have HB1 := Lib.hid hb1
           clear hb1
           go_wp2_with fail
           refine (HA1.out _).mono ?_
           rintro e w' ⟨rfl, rfl⟩
           go_wp2_with fail
           refine (HA2.out _).mono ?_
           rintro e w' ⟨rfl, rfl⟩
           go_wp2_with fail
           refine (HM1.out _).mono ?_
           rintro e w' ⟨rfl, rfl⟩
           go_wp2_with fail
           go_ret
           exact ⟨rfl, HB1.out⟩)
        | (by_cases hc : 0 ≤ c ∧ c ≤ a
           · have dc : decide (0 ≤ c) = true := decide_eq_true hc.1
             have dl : decide (c ≤ a) = true := decide_eq_true hc.2
             obtain ⟨q, hq, hqo, q1, q2⟩ := HL.out hc.1 hc.2
             have HM3 := Lib.hid (fun w => mul_is c b q _ hq hqo w)
             clear hq hqo hc
             first
               | (have qd : decide (p ≤ q) = true := decide_eq_true (q2 (of_decide_eq_true db)))
               | (have qd : decide (q ≤ p) = true := decide_eq_true (q1 (by have := of_decide_eq_false db; omega)))
             clear q1 q2
             go_enter Tryd.func8, Tryd.ntmps8
             go_wp2_with fail
             refine (awake_any _ hl).mono ?_
             rintro e w1 ⟨rfl, hb1⟩
             have HB1 := Lib.hid hb1
             clear hb1
             go_wp2_with fail
             refine (HA1.out _).mono ?_
             rintro e w' ⟨rfl, rfl⟩
             go_wp2_with fail
             refine (HA2.out _).mono ?_
             rintro e w' ⟨rfl, rfl⟩
             go_wp2_with fail
             refine (HM1.out _).mono ?_
             rintro e w' ⟨rfl, rfl⟩
             go_wp2_with fail
             refine (HM3.out _).mono ?_
             rintro e w' ⟨rfl, rfl⟩
             go_wp2_with fail
             go_ret
             exact ⟨rfl, HB1.out⟩
           · have hor : decide (0 ≤ c) = false ∨ (decide (0 ≤ c) = true ∧ decide (c ≤ a) = false) := by
               by_cases h0 : 0 ≤ c
               · right; exact ⟨decide_eq_true h0, decide_eq_false (fun h => hc ⟨h0, h⟩)⟩
               · left; exact decide_eq_false h0
             clear hc
             rcases hor with dc | ⟨dc, dl⟩
             all_goals
               go_enter Tryd.func8, Tryd.ntmps8
               go_wp2_with fail
               refine (awake_any _ hl).mono ?_
               rintro e w1 ⟨rfl, hb1⟩
               have HB1 := Lib.hid hb1
               clear hb1
               go_wp2_with fail
               refine (HA1.out _).mono ?_
               rintro e w' ⟨rfl, rfl⟩
               go_wp2_with fail
               refine (HA2.out _).mono ?_
               rintro e w' ⟨rfl, rfl⟩
               go_wp2_with fail
               refine (HM1.out _).mono ?_
               rintro e w' ⟨rfl, rfl⟩
               go_wp2_with fail
               go_ret
               exact ⟨rfl, HB1.out⟩)

end Num
end Go.Proofs.YtkpbedfafaphdaaDoor
