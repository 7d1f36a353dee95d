/-
  The contract of the reference's Parse: the same answers as num's.
-/
import Derived.Test.YtddblaiahgjbaaaGreatDoorPlParse
import Derived.Test.YtddblaiahgjbaaaGreatDoorTools
import Derived.Test.YtddblaiahgjbaaaGreatDoorProg
import Derived.Lib.Strings
namespace Go.Proofs.YtddblaiahgjbaaaGreatDoor
open Go.RowKit
namespace Num

theorem rbyte_at (d : ByteArray) (k : Nat) (_h : k < d.size) (h2 : k < d.data.toList.length) : d.data.toList[k] = d[k] := by
  rw [Array.getElem_toList]
  rfl
/-- the body of a text with a sign, and without -/
theorem body_neg {l : List UInt8} (h : negB l = true) : bodyL l = l.drop 1 := by
  cases l with
  | nil => rfl
  | cons c r =>
    have hc : c.toNat = 45 := by simpa [negB] using h
    simp [bodyL, hc]
theorem body_pos {l : List UInt8} (h : negB l = false) : bodyL l = l.drop 0 := by
  cases l with
  | nil => rfl
  | cons c r =>
    have hc : ¬ c.toNat = 45 := by simpa [negB] using h
    simp [bodyL, hc]
theorem neg_head {s : ByteArray} (h : 0 < s.size) : negB s.data.toList = decide (s[0].toNat = 45) := by
  have hl : 0 < s.data.toList.length := by rw [← Lib.size_eq]; exact h
  have e := rbyte_at s 0 h hl
  cases hx : s.data.toList with
  | nil => rw [hx] at hl; simp at hl
  | cons c r =>
    simp only [hx, List.getElem_cons_zero] at e
    simp only [negB, e]
theorem drop_at {s : ByteArray} {i m : Nat} (h : i + m < s.size) (h2 : m < (s.data.toList.drop i).length) : (s.data.toList.drop i)[m] = s[i + m] := by
  rw [List.getElem_drop]
  exact rbyte_at s (i + m) h _
theorem head_drop {s : ByteArray} {i : Nat} (h : i < s.size) : ∃ t, s.data.toList.drop i = s[i] :: t := by
  have h2 : i < s.data.toList.length := by rw [← Lib.size_eq]; exact h
  exact ⟨_, by rw [List.drop_eq_getElem_cons h2, rbyte_at s i h h2]⟩
theorem drop_sub {s : ByteArray} {i k : Nat} (hik : i ≤ k) (h : k < s.size) (h2 : k - i < (s.data.toList.drop i).length) : (s.data.toList.drop i)[k - i] = s[k] := by
  rw [List.getElem_drop]
  have e : i + (k - i) = k := by omega
  simp only [e]
  exact rbyte_at s k h _

set_option maxHeartbeats 2000000 in
theorem rparse_neg (s : ByteArray) (hs : s.size ≤ 20) (hpos : 0 < s.size) (hneg : s[0].toNat = 45) (w : World) :
    Calls Tryz.prog 57 #[.string s] w fun e w' => e = .returned (.tuple #[.int .i64 (parseV s.data.toList), .int .i64 (parseE s.data.toList)]) ∧ w = w' := by
  have HZL := Lib.hid (show ¬ 20 < s.data.toList.length by rw [← Lib.size_eq]; omega)
  have HN := Lib.hid (show negB s.data.toList = true by rw [neg_head hpos, hneg]; rfl)
  have HB := Lib.hid (body_neg HN.out)
  have t1 : ((s[0].toNat : Int) == 45) = true := by rw [hneg]; rfl
  clear hneg
  by_cases h1 : s.size = 1
  · have t2 : ((1 : Int) == (s.size : Int)) = true := by rw [h1]; rfl
    have HP := Lib.hid (parse_none HZL.out (form_nil (by rw [HB.out]; apply List.drop_eq_nil_of_le; rw [← Lib.size_eq]; omega)))
    clear h1
    · go_enter Tryz.func57, Tryz.ntmps57
      go_wp2_with fail
      go_ret2
      exact ⟨ret_ii HP.out.2.symm HP.out.1.symm, rfl⟩
  · have t2 : ((1 : Int) == (s.size : Int)) = false := beq_eq_false_iff_ne.2 (by omega)
    have hp1 : 1 < s.size := by omega
    have HXT := Lib.hid (head_drop hp1)
    clear h1
    by_cases h48 : s[1].toNat = 48
    · have t3 : ((s[1].toNat : Int) == 48) = true := by rw [h48]; rfl
      have HP := Lib.hid (parse_none HZL.out (form_zero (l := s.data.toList) (by rw [HB.out]; exact HXT.out.choose_spec) h48 (by
        intro he
        have : s.size = 1 := by rw [Lib.size_eq, he]; rfl
        omega)))
      clear h48
      go_enter Tryz.func57, Tryz.ntmps57
      go_wp2_with fail
      go_ret2
      exact ⟨ret_ii HP.out.2.symm HP.out.1.symm, rfl⟩
    · have t3 : ((s[1].toNat : Int) == 48) = false := beq_eq_false_iff_ne.2 (by omega)
      have HFA : Hid ((s.data.toList.drop 1).all isD = true → formB s.data.toList = true) := Lib.hid (fun h => by
        rw [form_all (l := s.data.toList) (by rw [HB.out]; exact HXT.out.choose_spec) (.inl h48), ← HXT.out.choose_spec]; exact h)
      have HVL : Hid (valZ s.data.toList = -(dval 0 (s.data.toList.drop 1) : Int)) := Lib.hid (by unfold valZ; rw [HN.out, HB.out]; rfl)
      clear h48
      · go_enter Tryz.func57, Tryz.ntmps57
        go_wp2_with fail
        go_loop [5, 6, 7] (fun nv ov kv => ∃ k : Nat, ∃ n : Int, ∃ o : Bool, 1 ≤ k ∧ k ≤ s.size ∧ kv = .int .i64 k ∧ nv = .int .u64 n ∧ ov = .bool o ∧ RP (s.data.toList.drop 1) (k - 1) n o) (fun _ _ kv => s.size - (intOf kv).toNat)
        case atStart => exact ⟨1, 0, false, by omega, by omega, rfl, rfl, rfl, RP.zero _⟩
        case round =>
          obtain ⟨k, n, o, hik, hk, rfl, rfl, rfl, hrp⟩ := hrel
          have ⟨n0, n1⟩ := hrp.bound
          have HR := Lib.hid hrp
          clear hrp
          by_cases hlt : k < s.size
          · have HML : Hid (k - 1 < (s.data.toList.drop 1).length) := Lib.hid (by rw [List.length_drop, ← Lib.size_eq]; omega)
            have HAT : Hid (∀ h, (s.data.toList.drop 1)[k - 1]'h = s[k]'hlt) := Lib.hid (fun h => drop_sub hik hlt h)
            have HS : Hid (k + 1 - 1 = k - 1 + 1) := Lib.hid (by omega)
            cases o
            · go_wp2_with fail
              all_goals first
                | (have hq : ¬ (48 ≤ ((s[k]'hlt).toNat : Int) ∧ ((s[k]'hlt).toNat : Int) ≤ 57) := by omega
                   go_ret2
                   have HP := parse_none HZL.out (form_bad (l := s.data.toList) (k := k - 1) (by rw [HB.out]; exact HML.out) (by simp only [HB.out]; rw [HAT.out]; unfold isD; rw [Bool.and_eq_false_iff, decide_eq_false_iff_not, decide_eq_false_iff_not]; omega))
                   exact ⟨ret_ii HP.2.symm HP.1.symm, rfl⟩)
                | (have hq : 461168601842738790 < n := by omega
                   go_round
                   case rel => exact ⟨k + 1, n, true, by omega, by omega, by go_num, rfl, rfl, by rw [HS.out]; exact HR.out.over HML.out (by rw [HAT.out]; omega) (.inr hq)⟩
                   case measure => simp [intOf]; omega)
                | (have hq : n ≤ 461168601842738790 := by omega
                   go_round
                   case rel => exact ⟨k + 1, _, false, by omega, by omega, by go_num, rfl, rfl, by rw [HS.out]; exact HR.out.step HML.out (by rw [HAT.out]; omega) hq _ (by rw [HAT.out])⟩
                   case measure => simp [intOf]; omega)
            · go_wp2_with fail
              all_goals first
                | (have hq : ¬ (48 ≤ ((s[k]'hlt).toNat : Int) ∧ ((s[k]'hlt).toNat : Int) ≤ 57) := by omega
                   go_ret2
                   have HP := parse_none HZL.out (form_bad (l := s.data.toList) (k := k - 1) (by rw [HB.out]; exact HML.out) (by simp only [HB.out]; rw [HAT.out]; unfold isD; rw [Bool.and_eq_false_iff, decide_eq_false_iff_not, decide_eq_false_iff_not]; omega))
                   exact ⟨ret_ii HP.2.symm HP.1.symm, rfl⟩)
                | (go_round
                   case rel => exact ⟨k + 1, n, true, by omega, by omega, by go_num, rfl, rfl, by rw [HS.out]; exact HR.out.over HML.out (by rw [HAT.out]; omega) (.inl rfl)⟩
                   case measure => simp [intOf]; omega)
          · have hm : k - 1 = (s.data.toList.drop 1).length := by rw [List.length_drop, ← Lib.size_eq]; omega
            have HE := HR.out
            rw [hm] at HE
            have HEND := Lib.hid HE
            obtain rfl : k = s.size := by omega
            clear HE hlt hm
            have HF := Lib.hid (HFA.out HEND.out.all)
            cases o
            · by_cases hn : n ≤ 4611686018427387904
              · have ⟨g1, g2⟩ := HEND.out.fine ⟨rfl, hn⟩
                have HG := Lib.hid g1
                have HO := Lib.hid (parse_ok HZL.out HF.out (by rw [HVL.out, ← g1, right_iff]; omega))
                clear g1 g2
                go_wp2_with fail
                go_ret2
                refine ⟨ret_ii ?_ HO.out.1.symm, rfl⟩
                rw [HO.out.2, HVL.out, ← HG.out]
              · have HG := Lib.hid (HEND.out.beyond (.inr (by omega)))
                have HO := Lib.hid (parse_over HZL.out HF.out (by rw [HVL.out, right_no]; have := HG.out; omega))
                go_wp2_with fail
                go_ret2
                exact ⟨ret_ii HO.out.2.symm HO.out.1.symm, rfl⟩
            · have HG := Lib.hid (HEND.out.beyond (.inl rfl))
              have HO := Lib.hid (parse_over HZL.out HF.out (by rw [HVL.out, right_no]; have := HG.out; omega))
              go_wp2_with fail
              go_ret2
              exact ⟨ret_ii HO.out.2.symm HO.out.1.symm, rfl⟩

set_option maxHeartbeats 2000000 in
theorem rparse_pos (s : ByteArray) (hs : s.size ≤ 20) (hpos : 0 < s.size) (hneg : ¬ s[0].toNat = 45) (w : World) :
    Calls Tryz.prog 57 #[.string s] w fun e w' => e = .returned (.tuple #[.int .i64 (parseV s.data.toList), .int .i64 (parseE s.data.toList)]) ∧ w = w' := by
  have HZL := Lib.hid (show ¬ 20 < s.data.toList.length by rw [← Lib.size_eq]; omega)
  have HN := Lib.hid (show negB s.data.toList = false by rw [neg_head hpos]; exact decide_eq_false hneg)
  have HB := Lib.hid (body_pos HN.out)
  have t1 : ((s[0].toNat : Int) == 45) = false := beq_eq_false_iff_ne.2 (by omega)
  clear hneg
  have t2 : ((0 : Int) == (s.size : Int)) = false := beq_eq_false_iff_ne.2 (by omega)
  have HXT := Lib.hid (head_drop hpos)
  by_cases hbad : s[0].toNat = 48 ∧ 1 < s.size
  · have t3 : ((s[0].toNat : Int) == 48) = true := by rw [hbad.1]; rfl
    have hp1 := hbad.2
    have HP := Lib.hid (parse_none HZL.out (form_zero (l := s.data.toList) (by rw [HB.out]; exact HXT.out.choose_spec) hbad.1 (by
      intro he
      have : s.size = 1 := by rw [Lib.size_eq, he]; rfl
      omega)))
    clear hbad
    · go_enter Tryz.func57, Tryz.ntmps57
      go_wp2_with fail
      go_ret2
      exact ⟨ret_ii HP.out.2.symm HP.out.1.symm, rfl⟩
  · have HVL : Hid (valZ s.data.toList = (dval 0 (s.data.toList.drop 0) : Int)) := Lib.hid (by unfold valZ; rw [HN.out, HB.out]; rfl)
    have HFA : Hid ((s.data.toList.drop 0).all isD = true → formB s.data.toList = true) := Lib.hid (fun h => by
      rw [form_all (l := s.data.toList) (by rw [HB.out]; exact HXT.out.choose_spec) (by
        by_cases h48 : s[0].toNat = 48
        · right
          obtain ⟨t, hd⟩ := HXT.out
          rw [List.drop_zero] at hd
          have hlen : s.data.toList.length = 1 := by rw [← Lib.size_eq]; omega
          rw [hd] at hlen ⊢
          have : t = [] := List.length_eq_zero_iff.1 (by simpa using hlen)
          rw [this, show s[0] = 48 from UInt8.toNat_inj.1 h48]
        · left; exact h48), ← HXT.out.choose_spec]; exact h)
    have hor : (((s[0].toNat : Int) == 48) = false) ∨ (((s[0].toNat : Int) == 48) = true ∧ decide ((1 : Int) < (s.size : Int)) = false) := by
      by_cases h48 : s[0].toNat = 48
      · right
        exact ⟨by rw [h48]; rfl, decide_eq_false (by omega)⟩
      · left
        exact beq_eq_false_iff_ne.2 (by omega)
    clear hbad
    rcases hor with t3 | ⟨t3, t4⟩
    all_goals
      · go_enter Tryz.func57, Tryz.ntmps57
        go_wp2_with fail
        go_loop [5, 6, 7] (fun nv ov kv => ∃ k : Nat, ∃ n : Int, ∃ o : Bool, 0 ≤ k ∧ k ≤ s.size ∧ kv = .int .i64 k ∧ nv = .int .u64 n ∧ ov = .bool o ∧ RP (s.data.toList.drop 0) (k - 0) n o) (fun _ _ kv => s.size - (intOf kv).toNat)
        case atStart => exact ⟨0, 0, false, by omega, by omega, rfl, rfl, rfl, RP.zero _⟩
        case round =>
          obtain ⟨k, n, o, hik, hk, rfl, rfl, rfl, hrp⟩ := hrel
          have ⟨n0, n1⟩ := hrp.bound
          have HR := Lib.hid hrp
          clear hrp
          by_cases hlt : k < s.size
          · have HML : Hid (k - 0 < (s.data.toList.drop 0).length) := Lib.hid (by rw [List.length_drop, ← Lib.size_eq]; omega)
            have HAT : Hid (∀ h, (s.data.toList.drop 0)[k - 0]'h = s[k]'hlt) := Lib.hid (fun h => drop_sub hik hlt h)
            have HS : Hid (k + 1 - 0 = k - 0 + 1) := Lib.hid (by omega)
            cases o
            · go_wp2_with fail
              all_goals first
                | (have hq : ¬ (48 ≤ ((s[k]'hlt).toNat : Int) ∧ ((s[k]'hlt).toNat : Int) ≤ 57) := by omega
                   go_ret2
                   have HP := parse_none HZL.out (form_bad (l := s.data.toList) (k := k - 0) (by rw [HB.out]; exact HML.out) (by simp only [HB.out]; rw [HAT.out]; unfold isD; rw [Bool.and_eq_false_iff, decide_eq_false_iff_not, decide_eq_false_iff_not]; omega))
                   exact ⟨ret_ii HP.2.symm HP.1.symm, rfl⟩)
                | (have hq : 461168601842738790 < n := by omega
                   go_round
                   case rel => exact ⟨k + 1, n, true, by omega, by omega, by go_num, rfl, rfl, by rw [HS.out]; exact HR.out.over HML.out (by rw [HAT.out]; omega) (.inr hq)⟩
                   case measure => simp [intOf]; omega)
                | (have hq : n ≤ 461168601842738790 := by omega
                   go_round
                   case rel => exact ⟨k + 1, _, false, by omega, by omega, by go_num, rfl, rfl, by rw [HS.out]; exact HR.out.step HML.out (by rw [HAT.out]; omega) hq _ (by rw [HAT.out])⟩
                   case measure => simp [intOf]; omega)
            · go_wp2_with fail
              all_goals first
                | (have hq : ¬ (48 ≤ ((s[k]'hlt).toNat : Int) ∧ ((s[k]'hlt).toNat : Int) ≤ 57) := by omega
                   go_ret2
                   have HP := parse_none HZL.out (form_bad (l := s.data.toList) (k := k - 0) (by rw [HB.out]; exact HML.out) (by simp only [HB.out]; rw [HAT.out]; unfold isD; rw [Bool.and_eq_false_iff, decide_eq_false_iff_not, decide_eq_false_iff_not]; omega))
                   exact ⟨ret_ii HP.2.symm HP.1.symm, rfl⟩)
                | (go_round
                   case rel => exact ⟨k + 1, n, true, by omega, by omega, by go_num, rfl, rfl, by rw [HS.out]; exact HR.out.over HML.out (by rw [HAT.out]; omega) (.inl rfl)⟩
                   case measure => simp [intOf]; omega)
          · have hm : k - 0 = (s.data.toList.drop 0).length := by rw [List.length_drop, ← Lib.size_eq]; omega
            have HE := HR.out
            rw [hm] at HE
            have HEND := Lib.hid HE
            obtain rfl : k = s.size := by omega
            clear HE hlt hm
            have HF := Lib.hid (HFA.out HEND.out.all)
            cases o
            · by_cases hn : n ≤ 4611686018427387904
              · have ⟨g1, g2⟩ := HEND.out.fine ⟨rfl, hn⟩
                have HG := Lib.hid g1
                have HO := Lib.hid (parse_ok HZL.out HF.out (by rw [HVL.out, ← g1, right_iff]; omega))
                clear g1 g2
                go_wp2_with fail
                go_ret2
                refine ⟨ret_ii ?_ HO.out.1.symm, rfl⟩
                rw [HO.out.2, HVL.out, ← HG.out]
              · have HG := Lib.hid (HEND.out.beyond (.inr (by omega)))
                have HO := Lib.hid (parse_over HZL.out HF.out (by rw [HVL.out, right_no]; have := HG.out; omega))
                go_wp2_with fail
                go_ret2
                exact ⟨ret_ii HO.out.2.symm HO.out.1.symm, rfl⟩
            · have HG := Lib.hid (HEND.out.beyond (.inl rfl))
              have HO := Lib.hid (parse_over HZL.out HF.out (by rw [HVL.out, right_no]; have := HG.out; omega))
              go_wp2_with fail
              go_ret2
              exact ⟨ret_ii HO.out.2.symm HO.out.1.symm, rfl⟩

theorem rparse_any (s : ByteArray) (w : World) :
    Calls Tryz.prog 57 #[.string s] w fun e w' => e = .returned (.tuple #[.int .i64 (parseV s.data.toList), .int .i64 (parseE s.data.toList)]) ∧ w = w' := by
  by_cases hz : 20 < s.size
  · have HP := Lib.hid (parse_long (l := s.data.toList) (by rw [← Lib.size_eq]; exact hz))
    go_enter Tryz.func57, Tryz.ntmps57
    go_wp2_with fail
    go_ret2
    exact ⟨ret_ii HP.out.2.symm HP.out.1.symm, rfl⟩
  · by_cases hpos : 0 < s.size
    · by_cases hneg : s[0].toNat = 45
      · exact rparse_neg s (by omega) hpos hneg w
      · exact rparse_pos s (by omega) hpos hneg w
    · have h0 : s.size = 0 := by omega
      have hnil : s.data.toList = [] := List.length_eq_zero_iff.1 (by rw [← Lib.size_eq]; exact h0)
      have HP := Lib.hid (parse_none (l := s.data.toList) (by rw [← Lib.size_eq]; omega) (form_nil (by rw [hnil]; rfl)))
      have t2 : ((0 : Int) == (s.size : Int)) = true := by rw [h0]; rfl
      clear hnil h0
      go_enter Tryz.func57, Tryz.ntmps57
      go_wp2_with fail
      go_ret2
      exact ⟨ret_ii HP.out.2.symm HP.out.1.symm, rfl⟩

end Num
end Go.Proofs.YtddblaiahgjbaaaGreatDoor
