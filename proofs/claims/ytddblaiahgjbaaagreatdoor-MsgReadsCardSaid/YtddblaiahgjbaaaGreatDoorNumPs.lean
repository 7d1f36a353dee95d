/-
  The contracts of num.formed, num.Parse, for the layers above.
-/
import Derived.Test.YtddblaiahgjbaaaGreatDoorNumRt
import Derived.Test.YtddblaiahgjbaaaGreatDoorLaid
import Derived.Test.YtddblaiahgjbaaaGreatDoorPlParse
import Derived.Lib.Strings
namespace Go.Proofs.YtddblaiahgjbaaaGreatDoor
open Go.RowKit
namespace Num

/-- what stands behind a sign, as a string -/
def bodyS (s : ByteArray) : ByteArray := ⟨(bodyL s.data.toList).toArray⟩
theorem bodyS_list (s : ByteArray) : (bodyS s).data.toList = bodyL s.data.toList := by simp [bodyS]

theorem trim_minus (l : List UInt8) : Lib.trimPrefix l [45] = bodyL l := by
  cases l with
  | nil => simp [Lib.trimPrefix, bodyL]
  | cons c r =>
    by_cases h : c.toNat = 45
    · have e : c = 45 := UInt8.toNat_inj.1 h
      simp [Lib.trimPrefix, Lib.hasPrefix, bodyL, e]
    · have e : ¬ c = 45 := fun h2 => h (by rw [h2]; rfl)
      have e2 : ¬ 45 = c := fun h2 => e h2.symm
      simp [Lib.trimPrefix, Lib.hasPrefix, bodyL, h, e2]
theorem trim_any (s d : ByteArray) (hd : bodyS s = d) (w : World) :
    Calls Tryz.prog 88 #[.string s, .string ⟨#[45]⟩] w fun e w' => e = .returned (.string d) ∧ w = w' :=
  (Tryz.strings_TrimPrefix s ⟨#[45]⟩ w).mono fun _ _ ⟨he, hw⟩ => ⟨by rw [he]; refine ret_s ?_; rw [← hd]; unfold bodyS; rw [← trim_minus], hw.symm⟩

theorem body_size (s : ByteArray) : (bodyS s).size ≤ s.size := by
  rw [Lib.size_eq, Lib.size_eq, bodyS_list]
  unfold bodyL
  cases s.data.toList with
  | nil => simp
  | cons c r => simp only [List.length_cons]; split <;> simp

theorem byte_at (d : ByteArray) (k : Nat) (_h : k < d.size) (h2 : k < d.data.toList.length) : d.data.toList[k] = d[k] := by
  rw [Array.getElem_toList]
  rfl

set_option maxHeartbeats 400000 in
theorem formed_any (s : ByteArray) (hs : s.size ≤ 20) (w : World) :
    Calls Tryz.prog 77 #[.string s] w fun e w' => e = .returned (.bool (formB s.data.toList)) ∧ w = w' := by
  obtain ⟨d, hd⟩ : ∃ d, bodyS s = d := ⟨_, rfl⟩
  have HD := Lib.hid hd
  have hsz : d.size ≤ 20 := by have := body_size s; rw [hd] at this; omega
  have hdl : d.data.toList = bodyL s.data.toList := by rw [← hd, bodyS_list]
  have hlen : d.data.toList.length = d.size := (Lib.size_eq d).symm
  clear hd
  by_cases hz : d.size = 0
  · have hnil : d.data.toList = [] := List.length_eq_zero_iff.1 (by omega)
    have HF := Lib.hid (form_nil (by rw [← hdl, hnil]))
    have t1 : d.toList.isEmpty = true := by rw [ByteArray.toList_eq, hnil]; rfl
    clear hdl hlen hnil hz
    go_enter Tryz.func77, Tryz.ntmps77
    go_wp2_with fail
    refine (trim_any s d HD.out _).mono ?_
    rintro e w' ⟨rfl, rfl⟩
    go_wp2_with fail
    go_ret
    exact ⟨ret_b HF.out.symm, rfl⟩
  · have hpos : 0 < d.size := by omega
    have HB := fun k h h2 => Lib.hid (byte_at d k h h2)
    obtain ⟨x, t, hxt⟩ : ∃ x t, d.data.toList = x :: t := by
      cases h : d.data.toList with
      | nil => rw [h] at hlen; simp at hlen; omega
      | cons x t => exact ⟨x, t, rfl⟩
    have hx : d[0] = x := by
      have := byte_at d 0 hpos (by omega)
      rw [← this]; simp [hxt]
    have t1 : d.toList.isEmpty = false := by rw [ByteArray.toList_eq, hxt]; rfl
    have HX := Lib.hid hx
    have HDL := Lib.hid hdl
    have HXT := Lib.hid hxt
    have HLEN := Lib.hid hlen
    clear hx hdl hxt hlen hz
    by_cases hbad : x.toNat = 48 ∧ ¬ s.data.toList = [48]
    · have HF := Lib.hid (form_zero (by rw [← HDL.out, HXT.out]) hbad.1 hbad.2)
      have t2 : ((d[0].toNat : Int) == 48) = true := by rw [HX.out, hbad.1]; rfl
      have t3 : (s.toList == [48]) = false := by rw [ByteArray.toList_eq]; exact beq_eq_false_iff_ne.2 hbad.2
      clear hbad
      go_enter Tryz.func77, Tryz.ntmps77
      go_wp2_with fail
      refine (trim_any s d HD.out _).mono ?_
      rintro e w' ⟨rfl, rfl⟩
      go_wp2_with fail
      go_ret
      exact ⟨ret_b HF.out.symm, rfl⟩
    · have HALL := Lib.hid (form_all (l := s.data.toList) (by rw [← HDL.out, HXT.out]) (show ¬ x.toNat = 48 ∨ s.data.toList = [48] by
        by_cases h1 : x.toNat = 48
        · right; exact Classical.byContradiction fun h2 => hbad ⟨h1, h2⟩
        · left; exact h1))
      have hor : (((d[0].toNat : Int) == 48) = false) ∨ (((d[0].toNat : Int) == 48) = true ∧ (s.toList == [48]) = true) := by
        rw [HX.out, ByteArray.toList_eq]
        by_cases h1 : x.toNat = 48
        · right
          exact ⟨by rw [h1]; rfl, beq_iff_eq.2 (Classical.byContradiction fun h2 => hbad ⟨h1, h2⟩)⟩
        · left
          exact beq_eq_false_iff_ne.2 (by omega)
      clear hbad
      rcases hor with t2 | ⟨t2, t3⟩
      all_goals
        go_enter Tryz.func77, Tryz.ntmps77
        go_wp2_with fail
        refine (trim_any s d HD.out _).mono ?_
        rintro e w' ⟨rfl, rfl⟩
        go_wp2_with fail
        go_loop [18] (fun i => ∃ k : Nat, k ≤ d.size ∧ i = .int .i64 k ∧ (d.data.toList.take k).all isD = true) (fun i => d.size - (intOf i).toNat)
        case atStart => exact ⟨0, Nat.zero_le _, rfl, by simp⟩
        case round =>
          obtain ⟨k, hk, rfl, hall⟩ := hrel
          have HA := Lib.hid hall
          clear hall
          by_cases hlt : k < d.size
          · go_wp2_with fail
            all_goals first
              | (have hq : ¬ (48 ≤ ((d[k]'hlt).toNat : Int) ∧ ((d[k]'hlt).toNat : Int) ≤ 57) := by omega
                 go_ret
                 refine ⟨ret_b ?_, rfl⟩
                 rw [form_bad (k := k) (l := s.data.toList) (by rw [← HDL.out, HLEN.out]; exact hlt)]
                 simp only [← HDL.out, (HB k hlt (by rw [HLEN.out]; exact hlt)).out, isD]
                 rw [Bool.and_eq_false_iff, decide_eq_false_iff_not, decide_eq_false_iff_not]
                 omega)
              | (have hq : 48 ≤ ((d[k]'hlt).toNat : Int) ∧ ((d[k]'hlt).toNat : Int) ≤ 57 := by omega
                 go_round
                 case rel =>
                   refine ⟨k + 1, by omega, by go_num, take_isD (by rw [HLEN.out]; exact hlt) HA.out ?_⟩
                   rw [(HB k hlt (by rw [HLEN.out]; exact hlt)).out, isD_iff]
                   omega
                 case measure => simp [intOf]; omega)
          · obtain rfl : k = d.size := by omega
            go_wp2_with fail
            go_ret
            refine ⟨ret_b ?_, rfl⟩
            rw [HALL.out, ← HXT.out]
            have := HA.out
            rw [← HLEN.out, List.take_length] at this
            exact this.symm

/-- the library's reading of a text of the form -/
theorem read_ok (s : ByteArray) (hs : s.size ≤ 20) (v : Int) (h : Lib.parseIntB 64 s.data.toList = .ok v) (w : World) :
    Calls Tryz.prog 78 #[.string s, .int .i64 10, .int .i64 64] w fun e w' => e = .returned (.tuple #[.int .i64 v, .nilIface]) ∧ Below w.heap.size w w' :=
  (Tryz.strconv_ParseInt_10_at64_ok s (by omega) v h w).mono fun _ _ ⟨he, hw⟩ => ⟨he, by
    rcases hw with rfl | ⟨t, rfl⟩
    · exact Below.refl _ _
    · exact Lib.bytesWorld_below _ _ _⟩
theorem read_range (s : ByteArray) (hs : s.size ≤ 20) (h : Lib.parseIntB 64 s.data.toList = .range) (w : World) (hl : Laid w) :
    Calls Tryz.prog 78 #[.string s, .int .i64 10, .int .i64 64] w fun e w' => (∃ (v : Int) (t : TypeId) (p : Value), e = .returned (.tuple #[.int .i64 v, .iface t p])) ∧ Below w.heap.size w w' := by
  obtain ⟨tp, p, hr⟩ := hl.rng
  exact (Tryz.strconv_ParseInt_10_at64_range_var s (by omega) h tp p w hr).mono fun _ _ ⟨_, he, _, _, hb⟩ => ⟨⟨_, _, _, he⟩, hb⟩

theorem formed_t (s : ByteArray) (hs : s.size ≤ 20) (h : formB s.data.toList = true) (w : World) :
    Calls Tryz.prog 77 #[.string s] w fun e w' => e = .returned (.bool true) ∧ w = w' :=
  (formed_any s hs w).mono fun _ _ ⟨he, hw⟩ => ⟨by rw [he, h], hw⟩
theorem formed_f (s : ByteArray) (hs : s.size ≤ 20) (h : formB s.data.toList = false) (w : World) :
    Calls Tryz.prog 77 #[.string s] w fun e w' => e = .returned (.bool false) ∧ w = w' :=
  (formed_any s hs w).mono fun _ _ ⟨he, hw⟩ => ⟨by rw [he, h], hw⟩

set_option maxHeartbeats 400000 in
theorem parse_any (s : ByteArray) (hs : s.size ≤ 9223372036854775807) (w : World) (hl : Laid w) :
    Calls Tryz.prog 66 #[.string s] w fun e w' => e = .returned (.tuple #[.int .i64 (parseV s.data.toList), .int .i64 (parseE s.data.toList)]) ∧ Below w.heap.size w w' := by
  have HL := Lib.hid hl
  clear hl
  by_cases hz : 20 < s.size
  · have HP := Lib.hid (parse_long (l := s.data.toList) (by rw [← Lib.size_eq]; exact hz))
    go_enter Tryz.func66, Tryz.ntmps66
    go_wp2_with fail
    go_ret2
    exact ⟨ret_ii HP.out.2.symm HP.out.1.symm, Below.refl _ _⟩
  · have hs20 : s.size ≤ 20 := by omega
    have hzl : ¬ 20 < s.data.toList.length := by rw [← Lib.size_eq]; exact hz
    cases hf : formB s.data.toList
    · have HP := Lib.hid (parse_none hzl hf)
      have HF := Lib.hid hf
      clear hf hzl
      go_enter Tryz.func66, Tryz.ntmps66
      go_wp2_with fail
      refine (formed_f s hs20 HF.out _).mono ?_
      rintro e w' ⟨rfl, rfl⟩
      go_wp2_with fail
      go_ret2
      exact ⟨ret_ii HP.out.2.symm HP.out.1.symm, Below.refl _ _⟩
    · rcases parseInt_formed _ hf with hok | ⟨hrg, hnr⟩
      · cases hr : rightB (valZ s.data.toList)
        · have HP := Lib.hid (parse_over hzl hf hr)
          have HF := Lib.hid hf
          have HO := Lib.hid hok
          obtain ⟨v, hv⟩ : ∃ v, valZ s.data.toList = v := ⟨_, rfl⟩
          rw [hv] at HO hr
          have HR := Lib.hid hr
          clear hf hzl hok hv hr
          go_enter Tryz.func66, Tryz.ntmps66
          go_wp2_with fail
          refine (formed_t s hs20 HF.out _).mono ?_
          rintro e w' ⟨rfl, rfl⟩
          go_wp2_with fail
          refine (read_ok s hs20 v HO.out _).mono ?_
          rintro e w1 ⟨rfl, hb⟩
          have HBL := Lib.hid hb
          clear hb
          go_wp2_with fail
          refine (right_f v _ HR.out).mono ?_
          rintro e w' ⟨rfl, rfl⟩
          go_wp2_with fail
          go_ret2
          exact ⟨ret_ii HP.out.2.symm HP.out.1.symm, HBL.out⟩
        · have HP := Lib.hid (parse_ok hzl hf hr)
          have HF := Lib.hid hf
          have HO := Lib.hid hok
          obtain ⟨v, hv⟩ : ∃ v, valZ s.data.toList = v := ⟨_, rfl⟩
          rw [hv] at HO hr
          have HR := Lib.hid hr
          have HV := Lib.hid hv
          clear hf hzl hok hv hr
          go_enter Tryz.func66, Tryz.ntmps66
          go_wp2_with fail
          refine (formed_t s hs20 HF.out _).mono ?_
          rintro e w' ⟨rfl, rfl⟩
          go_wp2_with fail
          refine (read_ok s hs20 v HO.out _).mono ?_
          rintro e w1 ⟨rfl, hb⟩
          have HBL := Lib.hid hb
          clear hb
          go_wp2_with fail
          refine (right_t v _ HR.out).mono ?_
          rintro e w' ⟨rfl, rfl⟩
          go_wp2_with fail
          go_ret2
          exact ⟨ret_ii (by rw [HP.out.2, HV.out]) HP.out.1.symm, HBL.out⟩
      · have HP := Lib.hid (parse_over hzl hf hnr)
        have HF := Lib.hid hf
        have HO := Lib.hid hrg
        clear hf hzl hrg hnr
        go_enter Tryz.func66, Tryz.ntmps66
        go_wp2_with fail
        refine (formed_t s hs20 HF.out _).mono ?_
        rintro e w' ⟨rfl, rfl⟩
        go_wp2_with fail
        refine (read_range s hs20 HO.out _ HL.out).mono ?_
        rintro e w1 ⟨⟨v, t, p, rfl⟩, hb⟩
        have HBL := Lib.hid hb
        clear hb
        go_wp2_with fail
        go_ret2
        exact ⟨ret_ii HP.out.2.symm HP.out.1.symm, HBL.out⟩

end Num
end Go.Proofs.YtddblaiahgjbaaaGreatDoor
