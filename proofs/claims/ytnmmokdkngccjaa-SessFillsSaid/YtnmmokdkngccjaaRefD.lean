/-
  The contract of the reference's Show (layer 1).
-/
import Derived.Test.YtnmmokdkngccjaaRefR
import Derived.Test.YtnmmokdkngccjaaPlBack
namespace Go.Proofs.Ytnmmokdkngccjaa
open Go.RowKit
namespace Num

theorem enc1 (r : Nat) (c1 : r < 128) : Utf8.encode (r : Int) = ⟨#[UInt8.ofNat r]⟩ := by
  have v : Utf8.valid (r : Int) = true := by simp [Utf8.valid]; omega
  simp [Utf8.encode, v, c1]
theorem enc_digit (n : Int) (h0 : 0 ≤ n) (h1 : n < 10) : Utf8.encode (48 + n) = ⟨#[UInt8.ofNat (48 + n.toNat)]⟩ := by
  have e : (48 + n : Int) = ((48 + n.toNat : Nat) : Int) := by omega
  rw [e, enc1 _ (by omega)]
theorem digits_more (n : Int) (h : 10 ≤ n) : Lib.decDigits n.toNat = Lib.decDigits (n / 10).toNat ++ [UInt8.ofNat (48 + (n % 10).toNat)] := by
  rw [Lib.decDigits, dif_neg (by omega)]
  have e1 : n.toNat / 10 = (n / 10).toNat := by omega
  have e2 : n.toNat % 10 = (n % 10).toNat := by omega
  rw [e1, e2]

end Num
end Go.Proofs.Ytnmmokdkngccjaa
