/-
  The reference's Sum of layer 8.
-/
import Derived.Test.YtlpkklhagmkmpaaPlCrc
import Derived.Test.YtlpkklhagmkmpaaMemS
import Derived.Test.YtlpkklhagmkmpaaProg
import Derived.WalkSpells
import Derived.WalkLawsBesides
import Derived.BigQuiet
import Derived.Laws.BitsAllLaws
namespace Go.Proofs.Ytlpkklhagmkmpaa
open Go.RowKit
namespace Crc
open Num

theorem hf_even {n : Nat} (h : n % 2 ≠ 1) : hf n = n / 2 := if_neg h
theorem hf_odd {n : Nat} (h : n % 2 = 1) : hf n = (n / 2) ^^^ 3988292384 := if_pos h

theorem crN_nil (n : Nat) : crN n [] = n := rfl
theorem crN_none (b : List UInt8) : 4294967295 = crN 4294967295 (b.take 0) := by rw [List.take_zero, crN_nil]
theorem sum_end {b : List UInt8} {k n : Nat} (hq : b.length = k) (hn : n = crN 4294967295 (b.take k)) (hlt : n < 4294967296) : (4294967295 - (n : Int)) = (sumC b : Nat) := by
  rw [← hq, List.take_length] at hn
  unfold sumC
  rw [← hn]
  omega
theorem take_snoc_cr {b : List UInt8} {k q n : Nat} {c : UInt8} (hk : k < q) (hq : b.length = q) (hc : b[k]'(by rw [hq]; exact hk) = c) (hn : n = crN 4294967295 (b.take k)) :
    byC n c = crN 4294967295 (b.take (k + 1)) := by
  rw [List.take_succ_eq_append_getElem (by rw [hq]; exact hk), crN_snoc, hc, hn]

set_option maxRecDepth 100000 in
set_option maxHeartbeats 4000000 in
theorem rsum_any (a : Option Addr) (cap : Nat) (b : List UInt8) (q : Nat) (hq : b.length = q) (w : World) (hby : BytesAt w a cap b) (hlen : q ≤ 9223372036854775807) :
    Calls Try.prog 15 #[.slice a q cap] w fun e w' => e = .returned (.int .u32 (sumC b : Nat)) ∧ w' = w := by
  have HF := Lib.hid hby
  have HQ := Lib.hid hq
  clear hby hq
  go_enter Try.func15, Try.ntmps15
  go_wp2_with fail
  go_loop [3, 4] (fun n_ i_ => ∃ k n : Nat, k ≤ q ∧ i_ = .int .i64 k ∧ n_ = .int .u32 n ∧ n < 4294967296 ∧ n = crN 4294967295 (b.take k)) (fun _ i_ => q - (intOf i_).toNat)
  case atStart => exact ⟨0, 4294967295, Nat.zero_le _, rfl, rfl, by decide, crN_none b⟩
  case round =>
    obtain ⟨k, n, hk, rfl, rfl, hn, hs⟩ := hrel
    have HS := Lib.hid hs
    clear hs
    by_cases hlt : k < q
    · obtain ⟨bb, off, rfl, hcc⟩ := HF.out.at (by rw [HQ.out]; omega)
      have hc := hcc k (by rw [HQ.out]; exact hlt)
      obtain ⟨c, hcx⟩ : ∃ c, b[k]'(by rw [HQ.out]; exact hlt) = c := ⟨_, rfl⟩
      have HN := Lib.hid (take_snoc_cr hlt HQ.out hcx HS.out)
      rw [hcx] at hc
      clear hcc hcx
      have hc8 := c.toNat_lt
      go_wp2_with fail
      rw [u32_xor_nat n c.toNat hn (by omega)]
      have hx := xor_byte hn c
      obtain ⟨x, hxx⟩ : ∃ x, n ^^^ c.toNat = x := ⟨_, rfl⟩
      have HX : Hid (hN 8 x = byC n c) := Lib.hid (by rw [← hxx]; rfl)
      rw [hxx] at hx ⊢
      clear hxx
      go_loop [3, 5] (fun n_ j_ => ∃ j m : Nat, j ≤ 8 ∧ j_ = .int .i64 j ∧ n_ = .int .u32 m ∧ m < 4294967296 ∧ m = hN j x) (fun _ j_ => 8 - (intOf j_).toNat)
      case atStart => exact ⟨0, x, Nat.zero_le _, rfl, rfl, hx, rfl⟩
      case round =>
        obtain ⟨j, m, hj, rfl, rfl, hm, hj'⟩ := hrel
        have HJ := Lib.hid hj'
        clear hj'
        by_cases h8 : j < 8
        · by_cases hodd : m % 2 = 1
          · have HS2 : Hid ((m / 2) ^^^ 3988292384 = hN (j + 1) x) := Lib.hid (by rw [hN_succ, ← HJ.out, hf_odd hodd])
            have hlt2 := hf_lt hm
            rw [hf_odd hodd] at hlt2
            have HB : Hid (bits .xor .u32 ((m : Int) / 2) 3988292384 = ((m / 2 ^^^ 3988292384 : Nat) : Int)) := Lib.hid (u32_xor_nat (m / 2) 3988292384 (by omega) (by decide))
            go_wp2_with fail
            exact ⟨⟨j + 1, m / 2 ^^^ 3988292384, by omega, by go_num, by rw [HB.out], hlt2, HS2.out⟩, by simp [intOf]; omega⟩
          · have HS2 : Hid (m / 2 = hN (j + 1) x) := Lib.hid (by rw [hN_succ, ← HJ.out, hf_even hodd])
            go_wp2_with fail
            exact ⟨⟨j + 1, m / 2, by omega, by go_num, by go_num, by omega, HS2.out⟩, by simp [intOf]; omega⟩
        · obtain rfl : j = 8 := by omega
          go_wp2_with fail
          go_round
          case rel => exact ⟨k + 1, m, by omega, by go_num, rfl, hm, by rw [HJ.out, HX.out, HN.out]⟩
          case measure => simp [intOf]; omega
    · obtain rfl : k = q := by omega
      go_wp2_with fail
      go_ret
      exact ⟨show Ending.returned (.int .u32 (4294967295 - (n : Int))) = _ from by rw [sum_end HQ.out HS.out hn], rfl⟩

end Crc
end Go.Proofs.Ytlpkklhagmkmpaa
