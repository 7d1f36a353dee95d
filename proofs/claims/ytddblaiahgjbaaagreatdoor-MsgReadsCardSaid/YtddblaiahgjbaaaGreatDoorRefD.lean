/-
  The contract of the reference's Show (layer 1).
-/
import Derived.Test.YtddblaiahgjbaaaGreatDoorRefR
import Derived.Test.YtddblaiahgjbaaaGreatDoorPlBack
namespace Go.Proofs.YtddblaiahgjbaaaGreatDoor
open Go.RowKit
namespace Num

theorem enc1 (r : Nat) (c1 : r < 128) : Utf8.encode (r : Int) = ⟨#[UInt8.ofNat r]⟩ := by
  have v : Utf8.valid (r : Int) = true := by simp [Utf8.valid]; omega
  simp [Utf8.encode, v, c1]
theorem enc_digit (n : Int) (h0 : 0 ≤ n) (h1 : n < 10) : Utf8.encode (48 + n) = ⟨#[UInt8.ofNat (48 + n.toNat)]⟩ := by
  have e : (48 + n : Int) = ((48 + n.toNat : Nat) : Int) := by omega
  rw [e, enc1 _ (by omega)]
theorem digits_more (n : Int) (h : 10 ≤ n) : Lib.decDigits n.toNat = Lib.decDigits (n / 10).toNat ++ [UInt8.ofNat (48 + (n % 10).toNat)] := by
  rw [Lib.decDigits, dif_neg (by omega)]
  have e1 : n.toNat / 10 = (n / 10).toNat := by omega
  have e2 : n.toNat % 10 = (n % 10).toNat := by omega
  rw [e1, e2]

set_option maxHeartbeats 400000 in
theorem rshow_nn (k : Nat) : ∀ (n : Int) (w : World), 0 ≤ n → n ≤ k → n ≤ 4611686018427387904 →
    Calls Tryz.prog 47 #[.int .i64 n] w fun e w' => e = .returned (.string ⟨(Lib.decDigits n.toNat).toArray⟩) ∧ w = w' := by
  induction k with
  | zero =>
    intro n w h0 hk hm
    obtain rfl : n = 0 := by omega
    have hr : rightB 0 = true := by decide
    go_enter Tryz.func47, Tryz.ntmps47
    go_wp2_with fail
    refine (rright_t _ _ hr).mono ?_
    rintro e w' ⟨rfl, rfl⟩
    go_wp2_with fail
    go_ret
    exact ⟨ret_s (by rw [Lib.decDigits_one (by decide)]; rfl), rfl⟩
  | succ k ih =>
    intro n w h0 hk hm
    have IH := Lib.hid ih
    clear ih
    have hr : rightB n = true := by rw [right_iff]; omega
    by_cases hs : n < 10
    · have HE := Lib.hid (enc_digit n h0 hs)
      go_enter Tryz.func47, Tryz.ntmps47
      go_wp2_with fail
      refine (rright_t _ _ hr).mono ?_
      rintro e w' ⟨rfl, rfl⟩
      go_wp2_with fail
      go_ret
      exact ⟨ret_s (by rw [HE.out, Lib.decDigits_one (by omega)]), rfl⟩
    · have HE := Lib.hid (enc_digit (n % 10) (by omega) (by omega))
      have HD := Lib.hid (digits_more n (by omega))
      have hlen : ¬ 9223372036854775807 < (Lib.decDigits (n / 10).toNat).length + (Utf8.encode (48 + n % 10)).size := by
        have h1 := digits_len (n / 10) (by omega) (by omega)
        rw [HE.out]
        have h2 : (⟨#[UInt8.ofNat (48 + (n % 10).toNat)]⟩ : ByteArray).size = 1 := rfl
        omega
      go_enter Tryz.func47, Tryz.ntmps47
      go_wp2_with fail
      refine (rright_t _ _ hr).mono ?_
      rintro e w' ⟨rfl, rfl⟩
      go_wp2_with fail
      refine (IH.out _ _ (by omega) (by omega) (by omega)).mono ?_
      rintro e w' ⟨rfl, rfl⟩
      go_wp2_with fail
      go_ret
      refine ⟨ret_s ?_, rfl⟩
      rw [HE.out, HD.out]
      apply ByteArray.ext
      simp

set_option maxHeartbeats 400000 in
theorem rshow_any (n : Int) (w : World) :
    Calls Tryz.prog 47 #[.int .i64 n] w fun e w' => e = .returned (.string (showS n)) ∧ w = w' := by
  cases hr : rightB n
  · have H := Lib.hid (show showS n = ⟨#[]⟩ by simp [showS, showL, hr])
    go_enter Tryz.func47, Tryz.ntmps47
    go_wp2_with (go_at_call 62; refine (rright_f _ _ hr).mono ?_; rintro e w' ⟨rfl, rfl⟩)
    go_ret
    exact ⟨ret_s H.out.symm, rfl⟩
  · have ⟨h1, h2⟩ := (right_iff n).1 hr
    by_cases hn : n < 0
    · have H := Lib.hid (show showS n = ⟨(45 :: Lib.decDigits (-n).toNat).toArray⟩ by simp [showS, showL, hr, itoa_ng n hn])
      have hlen : ¬ 9223372036854775807 < 1 + (Lib.decDigits (-n).toNat).length := by
        have h1 := digits_len (-n) (by omega) (by omega)
        omega
      go_enter Tryz.func47, Tryz.ntmps47
      go_wp2_with fail
      refine (rright_t _ _ hr).mono ?_
      rintro e w' ⟨rfl, rfl⟩
      go_wp2_with fail
      refine (rshow_nn (-n).toNat _ _ (by omega) (by omega) (by omega)).mono ?_
      rintro e w' ⟨rfl, rfl⟩
      go_wp2_with fail
      go_ret
      refine ⟨ret_s ?_, rfl⟩
      rw [H.out]
      apply ByteArray.ext
      simp
    · have H := Lib.hid (show showS n = ⟨(Lib.decDigits n.toNat).toArray⟩ by simp [showS, showL, hr, itoa_nn n (by omega)])
      exact (rshow_nn n.toNat n w (by omega) (by omega) (by omega)).mono fun _ _ ⟨he, hw⟩ => ⟨by rw [he, H.out], hw⟩

end Num
end Go.Proofs.YtddblaiahgjbaaaGreatDoor
