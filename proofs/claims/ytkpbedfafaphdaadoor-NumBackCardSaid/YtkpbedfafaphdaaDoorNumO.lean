/-
  The walk of layer 1's law on what is read back: NumBack.
-/
import Derived.Test.YtkpbedfafaphdaaDoorNumM
namespace Go.Proofs.YtkpbedfafaphdaaDoor
open Go.RowKit
namespace Num

theorem str_ext {x y : ByteArray} (h : x.data.toList = y.data.toList) : x = y := by
  cases x with
  | mk a => cases y with
    | mk b => cases a with
      | mk u => cases b with
        | mk v => simp at h; rw [h]
theorem showS_back (u : ByteArray) (v : Int) (hv : parseV u.data.toList = v) (h : parseE u.data.toList = 0) : showS v = u := by
  apply str_ext
  unfold showS
  rw [← hv]
  exact parse_show _ h
theorem showS_list (n : Int) : (showS n).data.toList = showL n := by simp [showS]
theorem showS_size (n : Int) : (showS n).size ≤ 9223372036854775807 := by
  rw [Lib.size_eq, showS_list]
  unfold showL
  by_cases h : rightB n = true
  · rw [if_pos h]
    have ⟨h1, h2⟩ := (right_iff n).1 h
    by_cases hn : n < 0
    · rw [itoa_ng n hn]; have := digits_len (-n) (by omega) (by omega); simp only [List.length_cons]; omega
    · rw [itoa_nn n (by omega)]; have := digits_len n (by omega) (by omega); omega
  · rw [if_neg h]; simp

theorem sum_len (a : Option Addr) (len cap : Nat) (l : List Int) (v : Int) (o : Bool) (hlen : l.length = len) (hv : sumV l = v) (ho : sumO l = o) (hl : len ≤ 1099511627776) (w : World) (h : Ints .i64 w a cap l) (hw : ∀ x ∈ l, -9223372036854775808 ≤ x ∧ x ≤ 9223372036854775807) :
    Calls Tryd.prog 16 #[.slice a len cap] w fun e w' => e = .returned (.tuple #[.int .i64 v, .bool o]) ∧ w = w' := by
  subst hlen hv ho
  exact sum_any a cap l hl w h hw

set_option maxHeartbeats 40000000 in
theorem back_nil (n : Int) (s : ByteArray) (_l t : List Int) (c : Int) (w : World) (hs : s.size ≤ 9223372036854775807) (hl : Laid w) (c0 : 0 ≤ c) (c1 : c ≤ 65535)
    (HW : Hid (∀ x ∈ t, -9223372036854775808 ≤ x ∧ x ≤ 9223372036854775807)) (v1 v2 v3 : Int) (o3 : Bool) (HV3 : Hid (sumV t = v3)) (HO3 : Hid (sumO t = o3))
    (k m : Nat) (hk0 : k = 0) (hm0 : m = 0)
    (HI : Hid (Ints .i64 w none 0 t)) (HM : Hid (t.length = m)) (HT1 : Hid ((t.take k).length = k)) (HT2 : Hid ((t.drop k).length = m - k))
    (HW1 : Hid (∀ x ∈ t.take k, -9223372036854775808 ≤ x ∧ x ≤ 9223372036854775807)) (HW2 : Hid (∀ x ∈ t.drop k, -9223372036854775808 ≤ x ∧ x ≤ 9223372036854775807))
    (HV1 : Hid (sumV (t.take k) = v1)) (HV2 : Hid (sumV (t.drop k) = v2)) :
    Calls Tryd.prog 7 #[.int .i64 n, .string s, .slice none 0 0, .int .u16 c] w fun e w' => e = .returned (.bool true) ∧ Below w.heap.size w w' := by
  subst hk0 hm0
  have hmin : min (0 : Int) 1000 = 0 := by decide
  cases hr : rightB n
  all_goals
    have HR : Hid (rightB n = true → parseE (showL n) = 0 ∧ parseV (showL n) = n) := Lib.hid (show_parse n)
    have HRN := Lib.hid hr
    clear hr
    go_enter Tryd.func7, Tryd.ntmps7
    go_wp2_with fail
    refine (awake_any _ hl).mono ?_
    rintro e w1 ⟨rfl, hb1⟩
    have HB1 := Lib.hid hb1
    have HL1 := Lib.hid (hl.below hb1)
    clear hb1
    go_wp2_with fail
  · refine (right_f n _ HRN.out).mono ?_
    rintro e w3 ⟨rfl, rfl⟩
    go_wp2_with fail
    have HB3 := HB1
    have HL3 := HL1
    clear HB1 HL1
    have hsz : (s.extract 0 (min (s.size : Int) 100).toNat).size ≤ 9223372036854775807 := by rw [ByteArray.size_extract]; omega
    generalize s.extract 0 (min (s.size : Int) 100).toNat = u at hsz ⊢
    obtain ⟨v, hv⟩ : ∃ v, parseV u.data.toList = v := ⟨_, rfl⟩
    obtain ⟨eo, heo⟩ : ∃ eo, parseE u.data.toList = eo := ⟨_, rfl⟩
    by_cases h0 : eo = 0
    · have d0 : (eo == 0) = true := beq_iff_eq.2 h0
      have d1 : (eo != 0) = false := by rw [h0]; rfl
      have HSH := Lib.hid (showS_back u v hv (by rw [heo, h0]))
      have HV := Lib.hid hv
      have HE := Lib.hid heo
      clear hv heo h0
      refine (parse_is u v eo hsz HV.out HE.out _ HL3.out).mono ?_
      rintro e w4 ⟨rfl, hb4⟩
      have HB4 := Lib.hid (HB3.out.trans (hb4.mono HB3.out.size))
      have HL4 := Lib.hid (HL3.out.below hb4)
      clear hb4
      go_wp2_with fail
      refine (show_is v u HSH.out _ HL4.out).mono ?_
      rintro e w5 ⟨rfl, hb5⟩
      have HBZ := Lib.hid (HB4.out.trans (hb5.mono HB4.out.size))
      clear hb5
      go_wp2_with fail
      have HI1 := Lib.hid ((HI.out.later HBZ.out).take 0)
      have HI2 : Hid (∀ w : World, Ints .i64 w none 0 (t.drop 0)) := Lib.hid fun _ => .inl ⟨rfl, List.length_eq_zero_iff.1 (by have := HT2.out; omega), rfl⟩
      cases o1 : sumO (t.take 0) <;> cases o2 : sumO (t.drop 0)
      all_goals
        have HO1 := Lib.hid o1
        have HO2 := Lib.hid o2
        clear o1 o2
        refine (sum_len none 0 0 (t.take 0) v1 _ HT1.out HV1.out HO1.out (by omega) _ HI1.out HW1.out).mono ?_
        rintro e w' ⟨rfl, rfl⟩
        go_wp2_with fail
        refine (sum_len none 0 0 (t.drop 0) v2 _ (by have := HT2.out; omega) HV2.out HO2.out (by omega) _ (HI2.out _) HW2.out).mono ?_
        rintro e w' ⟨rfl, rfl⟩
        go_wp2_with fail
        first
          | (have hs3 := sum_halves t 0 HO1.out HO2.out
             rw [HV1.out, HV2.out, HV3.out, HO3.out] at hs3
             have HS3 := Lib.hid hs3
             clear hs3
             refine (sum_len none 0 0 t v3 o3 HM.out HV3.out HO3.out (by omega) _ (HI.out.later HBZ.out) HW.out).mono ?_
             rintro e w' ⟨rfl, rfl⟩
             go_wp2_with fail
             refine (add_is v1 v2 v3 o3 HS3.out.1.symm HS3.out.2.symm _).mono ?_
             rintro e w' ⟨rfl, rfl⟩
             go_wp2_with fail
             go_ret
             exact ⟨rfl, HBZ.out⟩)
          | (go_ret
             exact ⟨rfl, HBZ.out⟩)
    · have d0 : (eo == 0) = false := beq_eq_false_iff_ne.2 h0
      have d1 : (eo != 0) = true := bne_iff_ne.2 h0
      have HV : Hid (parseV u.data.toList = 0) := Lib.hid (by unfold parseV; rw [if_neg (by rw [heo]; exact h0)])
      have HE := Lib.hid heo
      clear hv heo h0
      refine (parse_is u 0 eo hsz HV.out HE.out _ HL3.out).mono ?_
      rintro e w4 ⟨rfl, hb4⟩
      have HBZ := Lib.hid (HB3.out.trans (hb4.mono HB3.out.size))
      clear hb4
      go_wp2_with fail
      have HI1 := Lib.hid ((HI.out.later HBZ.out).take 0)
      have HI2 : Hid (∀ w : World, Ints .i64 w none 0 (t.drop 0)) := Lib.hid fun _ => .inl ⟨rfl, List.length_eq_zero_iff.1 (by have := HT2.out; omega), rfl⟩
      cases o1 : sumO (t.take 0) <;> cases o2 : sumO (t.drop 0)
      all_goals
        have HO1 := Lib.hid o1
        have HO2 := Lib.hid o2
        clear o1 o2
        refine (sum_len none 0 0 (t.take 0) v1 _ HT1.out HV1.out HO1.out (by omega) _ HI1.out HW1.out).mono ?_
        rintro e w' ⟨rfl, rfl⟩
        go_wp2_with fail
        refine (sum_len none 0 0 (t.drop 0) v2 _ (by have := HT2.out; omega) HV2.out HO2.out (by omega) _ (HI2.out _) HW2.out).mono ?_
        rintro e w' ⟨rfl, rfl⟩
        go_wp2_with fail
        first
          | (have hs3 := sum_halves t 0 HO1.out HO2.out
             rw [HV1.out, HV2.out, HV3.out, HO3.out] at hs3
             have HS3 := Lib.hid hs3
             clear hs3
             refine (sum_len none 0 0 t v3 o3 HM.out HV3.out HO3.out (by omega) _ (HI.out.later HBZ.out) HW.out).mono ?_
             rintro e w' ⟨rfl, rfl⟩
             go_wp2_with fail
             refine (add_is v1 v2 v3 o3 HS3.out.1.symm HS3.out.2.symm _).mono ?_
             rintro e w' ⟨rfl, rfl⟩
             go_wp2_with fail
             go_ret
             exact ⟨rfl, HBZ.out⟩)
          | (go_ret
             exact ⟨rfl, HBZ.out⟩)
  · refine (right_t n _ HRN.out).mono ?_
    rintro e w' ⟨rfl, rfl⟩
    go_wp2_with fail
    refine (show_any n _ HL1.out).mono ?_
    rintro e w2 ⟨rfl, hb2⟩
    have HB2 := Lib.hid (HB1.out.trans (hb2.mono HB1.out.size))
    have HL2 := Lib.hid (HL1.out.below hb2)
    clear hb2
    go_wp2_with fail
    refine (parse_is (showS n) n 0 (showS_size n) (by rw [showS_list]; exact (HR.out HRN.out).2) (by rw [showS_list]; exact (HR.out HRN.out).1) _ HL2.out).mono ?_
    rintro e w3 ⟨rfl, hb3⟩
    have HB3 := Lib.hid (HB2.out.trans (hb3.mono HB2.out.size))
    have HL3 := Lib.hid (HL2.out.below hb3)
    clear hb3
    go_wp2_with fail
    have hsz : (s.extract 0 (min (s.size : Int) 100).toNat).size ≤ 9223372036854775807 := by rw [ByteArray.size_extract]; omega
    generalize s.extract 0 (min (s.size : Int) 100).toNat = u at hsz ⊢
    obtain ⟨v, hv⟩ : ∃ v, parseV u.data.toList = v := ⟨_, rfl⟩
    obtain ⟨eo, heo⟩ : ∃ eo, parseE u.data.toList = eo := ⟨_, rfl⟩
    by_cases h0 : eo = 0
    · have d0 : (eo == 0) = true := beq_iff_eq.2 h0
      have d1 : (eo != 0) = false := by rw [h0]; rfl
      have HSH := Lib.hid (showS_back u v hv (by rw [heo, h0]))
      have HV := Lib.hid hv
      have HE := Lib.hid heo
      clear hv heo h0
      refine (parse_is u v eo hsz HV.out HE.out _ HL3.out).mono ?_
      rintro e w4 ⟨rfl, hb4⟩
      have HB4 := Lib.hid (HB3.out.trans (hb4.mono HB3.out.size))
      have HL4 := Lib.hid (HL3.out.below hb4)
      clear hb4
      go_wp2_with fail
      refine (show_is v u HSH.out _ HL4.out).mono ?_
      rintro e w5 ⟨rfl, hb5⟩
      have HBZ := Lib.hid (HB4.out.trans (hb5.mono HB4.out.size))
      clear hb5
      go_wp2_with fail
      have HI1 := Lib.hid ((HI.out.later HBZ.out).take 0)
      have HI2 : Hid (∀ w : World, Ints .i64 w none 0 (t.drop 0)) := Lib.hid fun _ => .inl ⟨rfl, List.length_eq_zero_iff.1 (by have := HT2.out; omega), rfl⟩
      cases o1 : sumO (t.take 0) <;> cases o2 : sumO (t.drop 0)
      all_goals
        have HO1 := Lib.hid o1
        have HO2 := Lib.hid o2
        clear o1 o2
        refine (sum_len none 0 0 (t.take 0) v1 _ HT1.out HV1.out HO1.out (by omega) _ HI1.out HW1.out).mono ?_
        rintro e w' ⟨rfl, rfl⟩
        go_wp2_with fail
        refine (sum_len none 0 0 (t.drop 0) v2 _ (by have := HT2.out; omega) HV2.out HO2.out (by omega) _ (HI2.out _) HW2.out).mono ?_
        rintro e w' ⟨rfl, rfl⟩
        go_wp2_with fail
        first
          | (have hs3 := sum_halves t 0 HO1.out HO2.out
             rw [HV1.out, HV2.out, HV3.out, HO3.out] at hs3
             have HS3 := Lib.hid hs3
             clear hs3
             refine (sum_len none 0 0 t v3 o3 HM.out HV3.out HO3.out (by omega) _ (HI.out.later HBZ.out) HW.out).mono ?_
             rintro e w' ⟨rfl, rfl⟩
             go_wp2_with fail
             refine (add_is v1 v2 v3 o3 HS3.out.1.symm HS3.out.2.symm _).mono ?_
             rintro e w' ⟨rfl, rfl⟩
             go_wp2_with fail
             go_ret
             exact ⟨rfl, HBZ.out⟩)
          | (go_ret
             exact ⟨rfl, HBZ.out⟩)
    · have d0 : (eo == 0) = false := beq_eq_false_iff_ne.2 h0
      have d1 : (eo != 0) = true := bne_iff_ne.2 h0
      have HV : Hid (parseV u.data.toList = 0) := Lib.hid (by unfold parseV; rw [if_neg (by rw [heo]; exact h0)])
      have HE := Lib.hid heo
      clear hv heo h0
      refine (parse_is u 0 eo hsz HV.out HE.out _ HL3.out).mono ?_
      rintro e w4 ⟨rfl, hb4⟩
      have HBZ := Lib.hid (HB3.out.trans (hb4.mono HB3.out.size))
      clear hb4
      go_wp2_with fail
      have HI1 := Lib.hid ((HI.out.later HBZ.out).take 0)
      have HI2 : Hid (∀ w : World, Ints .i64 w none 0 (t.drop 0)) := Lib.hid fun _ => .inl ⟨rfl, List.length_eq_zero_iff.1 (by have := HT2.out; omega), rfl⟩
      cases o1 : sumO (t.take 0) <;> cases o2 : sumO (t.drop 0)
      all_goals
        have HO1 := Lib.hid o1
        have HO2 := Lib.hid o2
        clear o1 o2
        refine (sum_len none 0 0 (t.take 0) v1 _ HT1.out HV1.out HO1.out (by omega) _ HI1.out HW1.out).mono ?_
        rintro e w' ⟨rfl, rfl⟩
        go_wp2_with fail
        refine (sum_len none 0 0 (t.drop 0) v2 _ (by have := HT2.out; omega) HV2.out HO2.out (by omega) _ (HI2.out _) HW2.out).mono ?_
        rintro e w' ⟨rfl, rfl⟩
        go_wp2_with fail
        first
          | (have hs3 := sum_halves t 0 HO1.out HO2.out
             rw [HV1.out, HV2.out, HV3.out, HO3.out] at hs3
             have HS3 := Lib.hid hs3
             clear hs3
             refine (sum_len none 0 0 t v3 o3 HM.out HV3.out HO3.out (by omega) _ (HI.out.later HBZ.out) HW.out).mono ?_
             rintro e w' ⟨rfl, rfl⟩
             go_wp2_with fail
             refine (add_is v1 v2 v3 o3 HS3.out.1.symm HS3.out.2.symm _).mono ?_
             rintro e w' ⟨rfl, rfl⟩
             go_wp2_with fail
             go_ret
             exact ⟨rfl, HBZ.out⟩)
          | (go_ret
             exact ⟨rfl, HBZ.out⟩)

set_option maxHeartbeats 40000000 in
theorem back_cap (n : Int) (s : ByteArray) (l t : List Int) (c : Int) (w : World) (hs : s.size ≤ 9223372036854775807) (hl : Laid w) (c0 : 0 ≤ c) (c1 : c ≤ 65535)
    (HW : Hid (∀ x ∈ t, -9223372036854775808 ≤ x ∧ x ≤ 9223372036854775807)) (v1 v2 v3 : Int) (o3 : Bool) (HV3 : Hid (sumV t = v3)) (HO3 : Hid (sumO t = o3))
    (x : Addr) (k m cap : Nat) (hlc : l.length ≤ cap) (hmin : min (l.length : Int) 1000 = (m : Int)) (hk : c % ((m : Int) + 1) = (k : Int)) (hkm : k ≤ m) (hm1 : m ≤ 1000) (hmc : m ≤ cap) (hkc : k = cap) (_hm9 : l.length ≤ 9223372036854775807)
    (HI : Hid (Ints .i64 w (some x) cap t)) (HM : Hid (t.length = m)) (HT1 : Hid ((t.take k).length = k)) (HT2 : Hid ((t.drop k).length = m - k))
    (HW1 : Hid (∀ x ∈ t.take k, -9223372036854775808 ≤ x ∧ x ≤ 9223372036854775807)) (HW2 : Hid (∀ x ∈ t.drop k, -9223372036854775808 ≤ x ∧ x ≤ 9223372036854775807))
    (HV1 : Hid (sumV (t.take k) = v1)) (HV2 : Hid (sumV (t.drop k) = v2)) :
    Calls Tryd.prog 7 #[.int .i64 n, .string s, .slice (some x) l.length cap, .int .u16 c] w fun e w' => e = .returned (.bool true) ∧ Below w.heap.size w w' := by
  subst hkc
  obtain rfl : m = k := by omega
  cases hr : rightB n
  all_goals
    have HR : Hid (rightB n = true → parseE (showL n) = 0 ∧ parseV (showL n) = n) := Lib.hid (show_parse n)
    have HRN := Lib.hid hr
    clear hr
    go_enter Tryd.func7, Tryd.ntmps7
    go_wp2_with fail
    refine (awake_any _ hl).mono ?_
    rintro e w1 ⟨rfl, hb1⟩
    have HB1 := Lib.hid hb1
    have HL1 := Lib.hid (hl.below hb1)
    clear hb1
    go_wp2_with fail
  · refine (right_f n _ HRN.out).mono ?_
    rintro e w3 ⟨rfl, rfl⟩
    go_wp2_with fail
    have HB3 := HB1
    have HL3 := HL1
    clear HB1 HL1
    have hsz : (s.extract 0 (min (s.size : Int) 100).toNat).size ≤ 9223372036854775807 := by rw [ByteArray.size_extract]; omega
    generalize s.extract 0 (min (s.size : Int) 100).toNat = u at hsz ⊢
    obtain ⟨v, hv⟩ : ∃ v, parseV u.data.toList = v := ⟨_, rfl⟩
    obtain ⟨eo, heo⟩ : ∃ eo, parseE u.data.toList = eo := ⟨_, rfl⟩
    by_cases h0 : eo = 0
    · have d0 : (eo == 0) = true := beq_iff_eq.2 h0
      have d1 : (eo != 0) = false := by rw [h0]; rfl
      have HSH := Lib.hid (showS_back u v hv (by rw [heo, h0]))
      have HV := Lib.hid hv
      have HE := Lib.hid heo
      clear hv heo h0
      refine (parse_is u v eo hsz HV.out HE.out _ HL3.out).mono ?_
      rintro e w4 ⟨rfl, hb4⟩
      have HB4 := Lib.hid (HB3.out.trans (hb4.mono HB3.out.size))
      have HL4 := Lib.hid (HL3.out.below hb4)
      clear hb4
      go_wp2_with fail
      refine (show_is v u HSH.out _ HL4.out).mono ?_
      rintro e w5 ⟨rfl, hb5⟩
      have HBZ := Lib.hid (HB4.out.trans (hb5.mono HB4.out.size))
      clear hb5
      go_wp2_with fail
      have HI1 := Lib.hid ((HI.out.later HBZ.out).take m)
      have HI2 : Hid (∀ w : World, Ints .i64 w (some x) 0 (t.drop m)) := Lib.hid fun _ => .inr ⟨x, rfl, by have := HT2.out; omega, fun i hi => by have := HT2.out; omega⟩
      cases o1 : sumO (t.take m) <;> cases o2 : sumO (t.drop m)
      all_goals
        have HO1 := Lib.hid o1
        have HO2 := Lib.hid o2
        clear o1 o2
        refine (sum_len (some x) m m (t.take m) v1 _ HT1.out HV1.out HO1.out (by omega) _ HI1.out HW1.out).mono ?_
        rintro e w' ⟨rfl, rfl⟩
        go_wp2_with fail
        refine (sum_len (some x) 0 0 (t.drop m) v2 _ (by have := HT2.out; omega) HV2.out HO2.out (by omega) _ (HI2.out _) HW2.out).mono ?_
        rintro e w' ⟨rfl, rfl⟩
        go_wp2_with fail
        first
          | (have hs3 := sum_halves t m HO1.out HO2.out
             rw [HV1.out, HV2.out, HV3.out, HO3.out] at hs3
             have HS3 := Lib.hid hs3
             clear hs3
             refine (sum_len (some x) m m t v3 o3 HM.out HV3.out HO3.out (by omega) _ (HI.out.later HBZ.out) HW.out).mono ?_
             rintro e w' ⟨rfl, rfl⟩
             go_wp2_with fail
             refine (add_is v1 v2 v3 o3 HS3.out.1.symm HS3.out.2.symm _).mono ?_
             rintro e w' ⟨rfl, rfl⟩
             go_wp2_with fail
             go_ret
             exact ⟨rfl, HBZ.out⟩)
          | (go_ret
             exact ⟨rfl, HBZ.out⟩)
    · have d0 : (eo == 0) = false := beq_eq_false_iff_ne.2 h0
      have d1 : (eo != 0) = true := bne_iff_ne.2 h0
      have HV : Hid (parseV u.data.toList = 0) := Lib.hid (by unfold parseV; rw [if_neg (by rw [heo]; exact h0)])
      have HE := Lib.hid heo
      clear hv heo h0
      refine (parse_is u 0 eo hsz HV.out HE.out _ HL3.out).mono ?_
      rintro e w4 ⟨rfl, hb4⟩
      have HBZ := Lib.hid (HB3.out.trans (hb4.mono HB3.out.size))
      clear hb4
      go_wp2_with fail
      have HI1 := Lib.hid ((HI.out.later HBZ.out).take m)
      have HI2 : Hid (∀ w : World, Ints .i64 w (some x) 0 (t.drop m)) := Lib.hid fun _ => .inr ⟨x, rfl, by have := HT2.out; omega, fun i hi => by have := HT2.out; omega⟩
      cases o1 : sumO (t.take m) <;> cases o2 : sumO (t.drop m)
      all_goals
        have HO1 := Lib.hid o1
        have HO2 := Lib.hid o2
        clear o1 o2
        refine (sum_len (some x) m m (t.take m) v1 _ HT1.out HV1.out HO1.out (by omega) _ HI1.out HW1.out).mono ?_
        rintro e w' ⟨rfl, rfl⟩
        go_wp2_with fail
        refine (sum_len (some x) 0 0 (t.drop m) v2 _ (by have := HT2.out; omega) HV2.out HO2.out (by omega) _ (HI2.out _) HW2.out).mono ?_
        rintro e w' ⟨rfl, rfl⟩
        go_wp2_with fail
        first
          | (have hs3 := sum_halves t m HO1.out HO2.out
             rw [HV1.out, HV2.out, HV3.out, HO3.out] at hs3
             have HS3 := Lib.hid hs3
             clear hs3
             refine (sum_len (some x) m m t v3 o3 HM.out HV3.out HO3.out (by omega) _ (HI.out.later HBZ.out) HW.out).mono ?_
             rintro e w' ⟨rfl, rfl⟩
             go_wp2_with fail
             refine (add_is v1 v2 v3 o3 HS3.out.1.symm HS3.out.2.symm _).mono ?_
             rintro e w' ⟨rfl, rfl⟩
             go_wp2_with fail
             go_ret
             exact ⟨rfl, HBZ.out⟩)
          | (go_ret
             exact ⟨rfl, HBZ.out⟩)
  · refine (right_t n _ HRN.out).mono ?_
    rintro e w' ⟨rfl, rfl⟩
    go_wp2_with fail
    refine (show_any n _ HL1.out).mono ?_
    rintro e w2 ⟨rfl, hb2⟩
    have HB2 := Lib.hid (HB1.out.trans (hb2.mono HB1.out.size))
    have HL2 := Lib.hid (HL1.out.below hb2)
    clear hb2
    go_wp2_with fail
    refine (parse_is (showS n) n 0 (showS_size n) (by rw [showS_list]; exact (HR.out HRN.out).2) (by rw [showS_list]; exact (HR.out HRN.out).1) _ HL2.out).mono ?_
    rintro e w3 ⟨rfl, hb3⟩
    have HB3 := Lib.hid (HB2.out.trans (hb3.mono HB2.out.size))
    have HL3 := Lib.hid (HL2.out.below hb3)
    clear hb3
    go_wp2_with fail
    have hsz : (s.extract 0 (min (s.size : Int) 100).toNat).size ≤ 9223372036854775807 := by rw [ByteArray.size_extract]; omega
    generalize s.extract 0 (min (s.size : Int) 100).toNat = u at hsz ⊢
    obtain ⟨v, hv⟩ : ∃ v, parseV u.data.toList = v := ⟨_, rfl⟩
    obtain ⟨eo, heo⟩ : ∃ eo, parseE u.data.toList = eo := ⟨_, rfl⟩
    by_cases h0 : eo = 0
    · have d0 : (eo == 0) = true := beq_iff_eq.2 h0
      have d1 : (eo != 0) = false := by rw [h0]; rfl
      have HSH := Lib.hid (showS_back u v hv (by rw [heo, h0]))
      have HV := Lib.hid hv
      have HE := Lib.hid heo
      clear hv heo h0
      refine (parse_is u v eo hsz HV.out HE.out _ HL3.out).mono ?_
      rintro e w4 ⟨rfl, hb4⟩
      have HB4 := Lib.hid (HB3.out.trans (hb4.mono HB3.out.size))
      have HL4 := Lib.hid (HL3.out.below hb4)
      clear hb4
      go_wp2_with fail
      refine (show_is v u HSH.out _ HL4.out).mono ?_
      rintro e w5 ⟨rfl, hb5⟩
      have HBZ := Lib.hid (HB4.out.trans (hb5.mono HB4.out.size))
      clear hb5
      go_wp2_with fail
      have HI1 := Lib.hid ((HI.out.later HBZ.out).take m)
      have HI2 : Hid (∀ w : World, Ints .i64 w (some x) 0 (t.drop m)) := Lib.hid fun _ => .inr ⟨x, rfl, by have := HT2.out; omega, fun i hi => by have := HT2.out; omega⟩
      cases o1 : sumO (t.take m) <;> cases o2 : sumO (t.drop m)
      all_goals
        have HO1 := Lib.hid o1
        have HO2 := Lib.hid o2
        clear o1 o2
        refine (sum_len (some x) m m (t.take m) v1 _ HT1.out HV1.out HO1.out (by omega) _ HI1.out HW1.out).mono ?_
        rintro e w' ⟨rfl, rfl⟩
        go_wp2_with fail
        refine (sum_len (some x) 0 0 (t.drop m) v2 _ (by have := HT2.out; omega) HV2.out HO2.out (by omega) _ (HI2.out _) HW2.out).mono ?_
        rintro e w' ⟨rfl, rfl⟩
        go_wp2_with fail
        first
          | (have hs3 := sum_halves t m HO1.out HO2.out
             rw [HV1.out, HV2.out, HV3.out, HO3.out] at hs3
             have HS3 := Lib.hid hs3
             clear hs3
             refine (sum_len (some x) m m t v3 o3 HM.out HV3.out HO3.out (by omega) _ (HI.out.later HBZ.out) HW.out).mono ?_
             rintro e w' ⟨rfl, rfl⟩
             go_wp2_with fail
             refine (add_is v1 v2 v3 o3 HS3.out.1.symm HS3.out.2.symm _).mono ?_
             rintro e w' ⟨rfl, rfl⟩
             go_wp2_with fail
             go_ret
             exact ⟨rfl, HBZ.out⟩)
          | (go_ret
             exact ⟨rfl, HBZ.out⟩)
    · have d0 : (eo == 0) = false := beq_eq_false_iff_ne.2 h0
      have d1 : (eo != 0) = true := bne_iff_ne.2 h0
      have HV : Hid (parseV u.data.toList = 0) := Lib.hid (by unfold parseV; rw [if_neg (by rw [heo]; exact h0)])
      have HE := Lib.hid heo
      clear hv heo h0
      refine (parse_is u 0 eo hsz HV.out HE.out _ HL3.out).mono ?_
      rintro e w4 ⟨rfl, hb4⟩
      have HBZ := Lib.hid (HB3.out.trans (hb4.mono HB3.out.size))
      clear hb4
      go_wp2_with fail
      have HI1 := Lib.hid ((HI.out.later HBZ.out).take m)
      have HI2 : Hid (∀ w : World, Ints .i64 w (some x) 0 (t.drop m)) := Lib.hid fun _ => .inr ⟨x, rfl, by have := HT2.out; omega, fun i hi => by have := HT2.out; omega⟩
      cases o1 : sumO (t.take m) <;> cases o2 : sumO (t.drop m)
      all_goals
        have HO1 := Lib.hid o1
        have HO2 := Lib.hid o2
        clear o1 o2
        refine (sum_len (some x) m m (t.take m) v1 _ HT1.out HV1.out HO1.out (by omega) _ HI1.out HW1.out).mono ?_
        rintro e w' ⟨rfl, rfl⟩
        go_wp2_with fail
        refine (sum_len (some x) 0 0 (t.drop m) v2 _ (by have := HT2.out; omega) HV2.out HO2.out (by omega) _ (HI2.out _) HW2.out).mono ?_
        rintro e w' ⟨rfl, rfl⟩
        go_wp2_with fail
        first
          | (have hs3 := sum_halves t m HO1.out HO2.out
             rw [HV1.out, HV2.out, HV3.out, HO3.out] at hs3
             have HS3 := Lib.hid hs3
             clear hs3
             refine (sum_len (some x) m m t v3 o3 HM.out HV3.out HO3.out (by omega) _ (HI.out.later HBZ.out) HW.out).mono ?_
             rintro e w' ⟨rfl, rfl⟩
             go_wp2_with fail
             refine (add_is v1 v2 v3 o3 HS3.out.1.symm HS3.out.2.symm _).mono ?_
             rintro e w' ⟨rfl, rfl⟩
             go_wp2_with fail
             go_ret
             exact ⟨rfl, HBZ.out⟩)
          | (go_ret
             exact ⟨rfl, HBZ.out⟩)

set_option maxHeartbeats 40000000 in
theorem back_cut (n : Int) (s : ByteArray) (l t : List Int) (c : Int) (w : World) (hs : s.size ≤ 9223372036854775807) (hl : Laid w) (c0 : 0 ≤ c) (c1 : c ≤ 65535)
    (HW : Hid (∀ x ∈ t, -9223372036854775808 ≤ x ∧ x ≤ 9223372036854775807)) (v1 v2 v3 : Int) (o3 : Bool) (HV3 : Hid (sumV t = v3)) (HO3 : Hid (sumO t = o3))
    (x : Addr) (k m cap : Nat) (_hlc : l.length ≤ cap) (hmin : min (l.length : Int) 1000 = (m : Int)) (hk : c % ((m : Int) + 1) = (k : Int)) (hkm : k ≤ m) (hm1 : m ≤ 1000) (hmc : m ≤ cap) (hkc : ¬ cap = k) (_hm9 : l.length ≤ 9223372036854775807)
    (HI : Hid (Ints .i64 w (some x) cap t)) (HM : Hid (t.length = m)) (HT1 : Hid ((t.take k).length = k)) (HT2 : Hid ((t.drop k).length = m - k))
    (HW1 : Hid (∀ x ∈ t.take k, -9223372036854775808 ≤ x ∧ x ≤ 9223372036854775807)) (HW2 : Hid (∀ x ∈ t.drop k, -9223372036854775808 ≤ x ∧ x ≤ 9223372036854775807))
    (HV1 : Hid (sumV (t.take k) = v1)) (HV2 : Hid (sumV (t.drop k) = v2)) :
    Calls Tryd.prog 7 #[.int .i64 n, .string s, .slice (some x) l.length cap, .int .u16 c] w fun e w' => e = .returned (.bool true) ∧ Below w.heap.size w w' := by
  cases hr : rightB n
  all_goals
    have HR : Hid (rightB n = true → parseE (showL n) = 0 ∧ parseV (showL n) = n) := Lib.hid (show_parse n)
    have HRN := Lib.hid hr
    clear hr
    go_enter Tryd.func7, Tryd.ntmps7
    go_wp2_with fail
    refine (awake_any _ hl).mono ?_
    rintro e w1 ⟨rfl, hb1⟩
    have HB1 := Lib.hid hb1
    have HL1 := Lib.hid (hl.below hb1)
    clear hb1
    go_wp2_with fail
  · refine (right_f n _ HRN.out).mono ?_
    rintro e w3 ⟨rfl, rfl⟩
    go_wp2_with fail
    have HB3 := HB1
    have HL3 := HL1
    clear HB1 HL1
    have hsz : (s.extract 0 (min (s.size : Int) 100).toNat).size ≤ 9223372036854775807 := by rw [ByteArray.size_extract]; omega
    generalize s.extract 0 (min (s.size : Int) 100).toNat = u at hsz ⊢
    obtain ⟨v, hv⟩ : ∃ v, parseV u.data.toList = v := ⟨_, rfl⟩
    obtain ⟨eo, heo⟩ : ∃ eo, parseE u.data.toList = eo := ⟨_, rfl⟩
    by_cases h0 : eo = 0
    · have d0 : (eo == 0) = true := beq_iff_eq.2 h0
      have d1 : (eo != 0) = false := by rw [h0]; rfl
      have HSH := Lib.hid (showS_back u v hv (by rw [heo, h0]))
      have HV := Lib.hid hv
      have HE := Lib.hid heo
      clear hv heo h0
      refine (parse_is u v eo hsz HV.out HE.out _ HL3.out).mono ?_
      rintro e w4 ⟨rfl, hb4⟩
      have HB4 := Lib.hid (HB3.out.trans (hb4.mono HB3.out.size))
      have HL4 := Lib.hid (HL3.out.below hb4)
      clear hb4
      go_wp2_with fail
      refine (show_is v u HSH.out _ HL4.out).mono ?_
      rintro e w5 ⟨rfl, hb5⟩
      have HBZ := Lib.hid (HB4.out.trans (hb5.mono HB4.out.size))
      clear hb5
      go_wp2_with fail
      have HI1 := Lib.hid ((HI.out.later HBZ.out).take k)
      have HI2 := Lib.hid ((HI.out.later HBZ.out).drop k (by rw [HM.out]; exact hkm))
      cases o1 : sumO (t.take k) <;> cases o2 : sumO (t.drop k)
      all_goals
        have HO1 := Lib.hid o1
        have HO2 := Lib.hid o2
        clear o1 o2
        refine (sum_len (some x) k cap (t.take k) v1 _ HT1.out HV1.out HO1.out (by omega) _ HI1.out HW1.out).mono ?_
        rintro e w' ⟨rfl, rfl⟩
        go_wp2_with fail
        refine (sum_len (some (x.add k)) (m - k) (cap - k) (t.drop k) v2 _ HT2.out HV2.out HO2.out (by omega) _ HI2.out HW2.out).mono ?_
        rintro e w' ⟨rfl, rfl⟩
        go_wp2_with fail
        first
          | (have hs3 := sum_halves t k HO1.out HO2.out
             rw [HV1.out, HV2.out, HV3.out, HO3.out] at hs3
             have HS3 := Lib.hid hs3
             clear hs3
             refine (sum_len (some x) m cap t v3 o3 HM.out HV3.out HO3.out (by omega) _ (HI.out.later HBZ.out) HW.out).mono ?_
             rintro e w' ⟨rfl, rfl⟩
             go_wp2_with fail
             refine (add_is v1 v2 v3 o3 HS3.out.1.symm HS3.out.2.symm _).mono ?_
             rintro e w' ⟨rfl, rfl⟩
             go_wp2_with fail
             go_ret
             exact ⟨rfl, HBZ.out⟩)
          | (go_ret
             exact ⟨rfl, HBZ.out⟩)
    · have d0 : (eo == 0) = false := beq_eq_false_iff_ne.2 h0
      have d1 : (eo != 0) = true := bne_iff_ne.2 h0
      have HV : Hid (parseV u.data.toList = 0) := Lib.hid (by unfold parseV; rw [if_neg (by rw [heo]; exact h0)])
      have HE := Lib.hid heo
      clear hv heo h0
      refine (parse_is u 0 eo hsz HV.out HE.out _ HL3.out).mono ?_
      rintro e w4 ⟨rfl, hb4⟩
      have HBZ := Lib.hid (HB3.out.trans (hb4.mono HB3.out.size))
      clear hb4
      go_wp2_with fail
      have HI1 := Lib.hid ((HI.out.later HBZ.out).take k)
      have HI2 := Lib.hid ((HI.out.later HBZ.out).drop k (by rw [HM.out]; exact hkm))
      cases o1 : sumO (t.take k) <;> cases o2 : sumO (t.drop k)
      all_goals
        have HO1 := Lib.hid o1
        have HO2 := Lib.hid o2
        clear o1 o2
        refine (sum_len (some x) k cap (t.take k) v1 _ HT1.out HV1.out HO1.out (by omega) _ HI1.out HW1.out).mono ?_
        rintro e w' ⟨rfl, rfl⟩
        go_wp2_with fail
        refine (sum_len (some (x.add k)) (m - k) (cap - k) (t.drop k) v2 _ HT2.out HV2.out HO2.out (by omega) _ HI2.out HW2.out).mono ?_
        rintro e w' ⟨rfl, rfl⟩
        go_wp2_with fail
        first
          | (have hs3 := sum_halves t k HO1.out HO2.out
             rw [HV1.out, HV2.out, HV3.out, HO3.out] at hs3
             have HS3 := Lib.hid hs3
             clear hs3
             refine (sum_len (some x) m cap t v3 o3 HM.out HV3.out HO3.out (by omega) _ (HI.out.later HBZ.out) HW.out).mono ?_
             rintro e w' ⟨rfl, rfl⟩
             go_wp2_with fail
             refine (add_is v1 v2 v3 o3 HS3.out.1.symm HS3.out.2.symm _).mono ?_
             rintro e w' ⟨rfl, rfl⟩
             go_wp2_with fail
             go_ret
             exact ⟨rfl, HBZ.out⟩)
          | (go_ret
             exact ⟨rfl, HBZ.out⟩)
  · refine (right_t n _ HRN.out).mono ?_
    rintro e w' ⟨rfl, rfl⟩
    go_wp2_with fail
    refine (show_any n _ HL1.out).mono ?_
    rintro e w2 ⟨rfl, hb2⟩
    have HB2 := Lib.hid (HB1.out.trans (hb2.mono HB1.out.size))
    have HL2 := Lib.hid (HL1.out.below hb2)
    clear hb2
    go_wp2_with fail
    refine (parse_is (showS n) n 0 (showS_size n) (by rw [showS_list]; exact (HR.out HRN.out).2) (by rw [showS_list]; exact (HR.out HRN.out).1) _ HL2.out).mono ?_
    rintro e w3 ⟨rfl, hb3⟩
    have HB3 := Lib.hid (HB2.out.trans (hb3.mono HB2.out.size))
    have HL3 := Lib.hid (HL2.out.below hb3)
    clear hb3
    go_wp2_with fail
    have hsz : (s.extract 0 (min (s.size : Int) 100).toNat).size ≤ 9223372036854775807 := by rw [ByteArray.size_extract]; omega
    generalize s.extract 0 (min (s.size : Int) 100).toNat = u at hsz ⊢
    obtain ⟨v, hv⟩ : ∃ v, parseV u.data.toList = v := ⟨_, rfl⟩
    obtain ⟨eo, heo⟩ : ∃ eo, parseE u.data.toList = eo := ⟨_, rfl⟩
    by_cases h0 : eo = 0
    · have d0 : (eo == 0) = true := beq_iff_eq.2 h0
      have d1 : (eo != 0) = false := by rw [h0]; rfl
      have HSH := Lib.hid (showS_back u v hv (by rw [heo, h0]))
      have HV := Lib.hid hv
      have HE := Lib.hid heo
      clear hv heo h0
      refine (parse_is u v eo hsz HV.out HE.out _ HL3.out).mono ?_
      rintro e w4 ⟨rfl, hb4⟩
      have HB4 := Lib.hid (HB3.out.trans (hb4.mono HB3.out.size))
      have HL4 := Lib.hid (HL3.out.below hb4)
      clear hb4
      go_wp2_with fail
      refine (show_is v u HSH.out _ HL4.out).mono ?_
      rintro e w5 ⟨rfl, hb5⟩
      have HBZ := Lib.hid (HB4.out.trans (hb5.mono HB4.out.size))
      clear hb5
      go_wp2_with fail
      have HI1 := Lib.hid ((HI.out.later HBZ.out).take k)
      have HI2 := Lib.hid ((HI.out.later HBZ.out).drop k (by rw [HM.out]; exact hkm))
      cases o1 : sumO (t.take k) <;> cases o2 : sumO (t.drop k)
      all_goals
        have HO1 := Lib.hid o1
        have HO2 := Lib.hid o2
        clear o1 o2
        refine (sum_len (some x) k cap (t.take k) v1 _ HT1.out HV1.out HO1.out (by omega) _ HI1.out HW1.out).mono ?_
        rintro e w' ⟨rfl, rfl⟩
        go_wp2_with fail
        refine (sum_len (some (x.add k)) (m - k) (cap - k) (t.drop k) v2 _ HT2.out HV2.out HO2.out (by omega) _ HI2.out HW2.out).mono ?_
        rintro e w' ⟨rfl, rfl⟩
        go_wp2_with fail
        first
          | (have hs3 := sum_halves t k HO1.out HO2.out
             rw [HV1.out, HV2.out, HV3.out, HO3.out] at hs3
             have HS3 := Lib.hid hs3
             clear hs3
             refine (sum_len (some x) m cap t v3 o3 HM.out HV3.out HO3.out (by omega) _ (HI.out.later HBZ.out) HW.out).mono ?_
             rintro e w' ⟨rfl, rfl⟩
             go_wp2_with fail
             refine (add_is v1 v2 v3 o3 HS3.out.1.symm HS3.out.2.symm _).mono ?_
             rintro e w' ⟨rfl, rfl⟩
             go_wp2_with fail
             go_ret
             exact ⟨rfl, HBZ.out⟩)
          | (go_ret
             exact ⟨rfl, HBZ.out⟩)
    · have d0 : (eo == 0) = false := beq_eq_false_iff_ne.2 h0
      have d1 : (eo != 0) = true := bne_iff_ne.2 h0
      have HV : Hid (parseV u.data.toList = 0) := Lib.hid (by unfold parseV; rw [if_neg (by rw [heo]; exact h0)])
      have HE := Lib.hid heo
      clear hv heo h0
      refine (parse_is u 0 eo hsz HV.out HE.out _ HL3.out).mono ?_
      rintro e w4 ⟨rfl, hb4⟩
      have HBZ := Lib.hid (HB3.out.trans (hb4.mono HB3.out.size))
      clear hb4
      go_wp2_with fail
      have HI1 := Lib.hid ((HI.out.later HBZ.out).take k)
      have HI2 := Lib.hid ((HI.out.later HBZ.out).drop k (by rw [HM.out]; exact hkm))
      cases o1 : sumO (t.take k) <;> cases o2 : sumO (t.drop k)
      all_goals
        have HO1 := Lib.hid o1
        have HO2 := Lib.hid o2
        clear o1 o2
        refine (sum_len (some x) k cap (t.take k) v1 _ HT1.out HV1.out HO1.out (by omega) _ HI1.out HW1.out).mono ?_
        rintro e w' ⟨rfl, rfl⟩
        go_wp2_with fail
        refine (sum_len (some (x.add k)) (m - k) (cap - k) (t.drop k) v2 _ HT2.out HV2.out HO2.out (by omega) _ HI2.out HW2.out).mono ?_
        rintro e w' ⟨rfl, rfl⟩
        go_wp2_with fail
        first
          | (have hs3 := sum_halves t k HO1.out HO2.out
             rw [HV1.out, HV2.out, HV3.out, HO3.out] at hs3
             have HS3 := Lib.hid hs3
             clear hs3
             refine (sum_len (some x) m cap t v3 o3 HM.out HV3.out HO3.out (by omega) _ (HI.out.later HBZ.out) HW.out).mono ?_
             rintro e w' ⟨rfl, rfl⟩
             go_wp2_with fail
             refine (add_is v1 v2 v3 o3 HS3.out.1.symm HS3.out.2.symm _).mono ?_
             rintro e w' ⟨rfl, rfl⟩
             go_wp2_with fail
             go_ret
             exact ⟨rfl, HBZ.out⟩)
          | (go_ret
             exact ⟨rfl, HBZ.out⟩)

theorem law_NumBack (n : Int) (s : ByteArray) (a : Option Addr) (len cap : Nat) (l : List Int) (c : Int) (w : World) (_hn : (Lit.int .i64 n).wf = true) (hs : s.size ≤ maxLen) (hr : IsRow .i64 w a len cap l) (hc : (Lit.int .u16 c).wf = true) (hl : Laid w) :
    Calls Tryd.prog 7 #[.int .i64 n, .string s, .slice a len cap, .int .u16 c] w fun e w' => e = .returned (.bool true) ∧ Below w.heap.size w w' := by
  obtain ⟨rfl, hm, hi, hw⟩ := hr
  have hcap : l.length ≤ cap := by rcases hi with ⟨_, rfl, rfl⟩ | ⟨_, _, h, _⟩ <;> simp_all
  unfold maxLen at hm hs
  have ⟨c0, c1⟩ := bounds_u16 hc
  obtain ⟨t, ht⟩ : ∃ t, l.take 1000 = t := ⟨_, rfl⟩
  have HI : Hid (Ints .i64 w a cap t) := Lib.hid (by rw [← ht]; exact hi.take 1000)
  have HW : Hid (∀ x ∈ t, -9223372036854775808 ≤ x ∧ x ≤ 9223372036854775807) := Lib.hid fun x hx => wf64 (hw x (List.mem_of_mem_take (by rw [ht]; exact hx)))
  obtain ⟨m, hmt⟩ : ∃ m, t.length = m := ⟨_, rfl⟩
  have hm1 : m ≤ 1000 := by rw [← hmt, ← ht, List.length_take]; omega
  have hmc : m ≤ cap := by rw [← hmt, ← ht, List.length_take]; omega
  have hmin : min (l.length : Int) 1000 = (m : Int) := by rw [← hmt, ← ht, List.length_take]; omega
  have HM := Lib.hid hmt
  obtain ⟨k, hk⟩ : ∃ k : Nat, c % ((m : Int) + 1) = (k : Int) := ⟨(c % ((m : Int) + 1)).toNat, by have := Int.emod_nonneg c (show (m : Int) + 1 ≠ 0 by omega); omega⟩
  have hkm : k ≤ m := by have := Int.emod_lt_of_pos c (show (0 : Int) < (m : Int) + 1 by omega); omega
  have HT1 : Hid ((t.take k).length = k) := Lib.hid (by rw [List.length_take]; omega)
  have HT2 : Hid ((t.drop k).length = m - k) := Lib.hid (by rw [List.length_drop]; omega)
  have HW1 : Hid (∀ x ∈ t.take k, -9223372036854775808 ≤ x ∧ x ≤ 9223372036854775807) := Lib.hid fun x hx => HW.out x (List.mem_of_mem_take hx)
  have HW2 : Hid (∀ x ∈ t.drop k, -9223372036854775808 ≤ x ∧ x ≤ 9223372036854775807) := Lib.hid fun x hx => HW.out x (List.mem_of_mem_drop hx)
  obtain ⟨v1, hv1⟩ : ∃ v, sumV (t.take k) = v := ⟨_, rfl⟩
  obtain ⟨v2, hv2⟩ : ∃ v, sumV (t.drop k) = v := ⟨_, rfl⟩
  obtain ⟨v3, hv3⟩ : ∃ v, sumV t = v := ⟨_, rfl⟩
  obtain ⟨o3, ho3⟩ : ∃ o, sumO t = o := ⟨_, rfl⟩
  have HV1 := Lib.hid hv1
  have HV2 := Lib.hid hv2
  have HV3 := Lib.hid hv3
  have HO3 := Lib.hid ho3
  rcases hi with ⟨rfl, rfl, rfl⟩ | ⟨x, rfl, _, _⟩
  · exact back_nil n s [] t c w hs hl c0 c1 HW v1 v2 v3 o3 HV3 HO3 k m (by omega) (by omega) HI HM HT1 HT2 HW1 HW2 HV1 HV2
  · by_cases hkc : k = cap
    · exact back_cap n s l t c w hs hl c0 c1 HW v1 v2 v3 o3 HV3 HO3 x k m cap hcap hmin hk hkm hm1 hmc hkc hm HI HM HT1 HT2 HW1 HW2 HV1 HV2
    · exact back_cut n s l t c w hs hl c0 c1 HW v1 v2 v3 o3 HV3 HO3 x k m cap hcap hmin hk hkm hm1 hmc (fun h => hkc h.symm) hm HI HM HT1 HT2 HW1 HW2 HV1 HV2

end Num
end Go.Proofs.YtkpbedfafaphdaaDoor
