/-
  The program's small parts of layer 8: may, number, ofByte.
-/
import Derived.Test.YtlpkklhagmkmpaaPlCrcP
import Derived.Test.YtlpkklhagmkmpaaCrcD
import Derived.Test.YtlpkklhagmkmpaaLaid
namespace Go.Proofs.Ytlpkklhagmkmpaa
open Go.RowKit
namespace Crc
open Num

theorem may_any (n : Int) (w : World) :
    Calls Try.prog 17 #[.int .i64 n] w fun e w' => e = .returned (.bool (decide (1 ≤ n) && decide (n ≤ 4096))) ∧ w' = w := by
  go_enter Try.func17, Try.ntmps17
  cases d : decide (1 ≤ n)
  · go_wp2_with fail
    go_ret
    exact ⟨rfl, rfl⟩
  · go_wp2_with fail
    go_ret
    exact ⟨rfl, rfl⟩

theorem tab_none (x : Nat) : x = hN 0 x := rfl
set_option maxRecDepth 100000 in
set_option maxHeartbeats 4000000 in
theorem ofByte_any (x : Nat) (hx : x < 256) (w : World) :
    Calls Try.prog 26 #[.int .u8 x] w fun e w' => e = .returned (.int .u32 (tabN x : Nat)) ∧ w' = w := by
  go_enter Try.func26, Try.ntmps26
  go_wp2_with fail
  go_loop [3, 7] (fun n_ j_ => ∃ j m : Nat, j ≤ 8 ∧ j_ = .int .i64 j ∧ n_ = .int .u32 m ∧ m < 4294967296 ∧ m = hN j x) (fun _ j_ => 8 - (intOf j_).toNat)
  case atStart => exact ⟨0, x, Nat.zero_le _, rfl, by go_num, by omega, rfl⟩
  case round =>
    obtain ⟨j, m, hj, rfl, rfl, hm, hj'⟩ := hrel
    have HJ := Lib.hid hj'
    clear hj'
    by_cases h8 : j < 8
    · by_cases hodd : m % 2 = 1
      · have HS2 : Hid ((m / 2) ^^^ 3988292384 = hN (j + 1) x) := Lib.hid (by rw [hN_succ, ← HJ.out, hf_odd hodd])
        have hlt2 := hf_lt hm
        rw [hf_odd hodd] at hlt2
        have HB : Hid (bits .xor .u32 ((m : Int) / 2) 3988292384 = ((m / 2 ^^^ 3988292384 : Nat) : Int)) := Lib.hid (u32_xor_nat (m / 2) 3988292384 (by omega) (by decide))
        go_wp2_with fail
        exact ⟨⟨j + 1, m / 2 ^^^ 3988292384, by omega, by go_num, by rw [HB.out], hlt2, HS2.out⟩, by simp [intOf]; omega⟩
      · have HS2 : Hid (m / 2 = hN (j + 1) x) := Lib.hid (by rw [hN_succ, ← HJ.out, hf_even hodd])
        go_wp2_with fail
        exact ⟨⟨j + 1, m / 2, by omega, by go_num, by go_num, by omega, HS2.out⟩, by simp [intOf]; omega⟩
    · obtain rfl : j = 8 := by omega
      go_wp2_with fail
      go_ret
      exact ⟨show Ending.returned (.int .u32 (m : Int)) = _ from by rw [HJ.out]; rfl, rfl⟩

theorem or_byte {n b : Nat} (hn : n * 256 < 4294967296) (hb : b < 256) : bits .or .u32 ((n * 256 : Nat) : Int) (b : Int) = ((n * 256 + b : Nat) : Int) := by
  rw [u32_or_nat (n * 256) b hn (by omega)]
  have := Nat.two_pow_add_eq_or_of_lt (i := 8) (b := b) (by omega) n
  rw [show 2 ^ 8 * n = n * 256 by omega] at this
  rw [this]

set_option maxRecDepth 100000 in
set_option maxHeartbeats 4000000 in
theorem number_any (a : Option Addr) (cap : Nat) (b : List UInt8) (q : Nat) (hq : b.length = q) (w : World) (hby : BytesAt w a cap b) (hlen : q ≤ 4) :
    Calls Try.prog 19 #[.slice a q cap] w fun e w' => e = .returned (.int .u32 (numN 0 b : Nat)) ∧ w' = w := by
  have HF := Lib.hid hby
  have HQ := Lib.hid hq
  clear hby hq
  go_enter Try.func19, Try.ntmps19
  go_wp2_with fail
  go_loop [3, 8] (fun n_ i_ => ∃ k n : Nat, k ≤ q ∧ i_ = .int .i64 k ∧ n_ = .int .u32 n ∧ n < 256 ^ k ∧ n = numN 0 (b.take k)) (fun _ i_ => q - (intOf i_).toNat)
  case atStart => exact ⟨0, 0, Nat.zero_le _, rfl, rfl, by decide, rfl⟩
  case round =>
    obtain ⟨k, n, hk, rfl, rfl, hn, hs⟩ := hrel
    have HS := Lib.hid hs
    clear hs
    by_cases hlt : k < q
    · obtain ⟨bb, off, rfl, hcc⟩ := HF.out.at (by rw [HQ.out]; omega)
      have hc := hcc k (by rw [HQ.out]; exact hlt)
      obtain ⟨c, hcx⟩ : ∃ c, b[k]'(by rw [HQ.out]; exact hlt) = c := ⟨_, rfl⟩
      have HN : Hid (n * 256 + c.toNat = numN 0 (b.take (k + 1))) := Lib.hid (by rw [List.take_succ_eq_append_getElem (by rw [HQ.out]; exact hlt), numN_snoc, hcx, HS.out])
      rw [hcx] at hc
      clear hcc hcx
      have hc8 := c.toNat_lt
      have hn2 : n < 16777216 := Nat.lt_of_lt_of_le hn (Nat.le_trans (Nat.pow_le_pow_right (by decide) (show k ≤ 3 by omega)) (by decide))
      have HB := Lib.hid (or_byte (n := n) (b := c.toNat) (by omega) hc8)
      have HP : Hid (n * 256 + c.toNat < 256 ^ (k + 1)) := Lib.hid (by rw [Nat.pow_succ]; omega)
      clear hn
      go_wp2_with fail
      exact ⟨⟨k + 1, n * 256 + c.toNat, by omega, by go_num, congrArg _ (Eq.trans (by rw [Int.natCast_mul]; rfl) HB.out), HP.out, HN.out⟩, by simp [intOf]; omega⟩
    · obtain rfl : k = q := by omega
      go_wp2_with fail
      go_ret
      exact ⟨show Ending.returned (.int .u32 (n : Int)) = _ from by rw [HS.out, ← HQ.out, List.take_length], rfl⟩

end Crc
end Go.Proofs.Ytlpkklhagmkmpaa
