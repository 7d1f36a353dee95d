/-
  PLAIN: a sum of bytes by a table: what each byte comes to stands ready. No program in sight.
-/
import Derived.Test.YtlpkklhagmkmpaaPlCrc
namespace Go.Proofs.Ytlpkklhagmkmpaa
namespace Crc

theorem hf_two (x y : Nat) : hf (x ^^^ (2 * y)) = hf x ^^^ y := by
  have h1 : (x ^^^ (2 * y)) % 2 = x % 2 := by
    have := congrArg (fun b : Bool => b.toNat) (show (x ^^^ (2 * y)).testBit 0 = x.testBit 0 by rw [Nat.testBit_xor, Nat.testBit_zero (2 * y)]; simp)
    simp only [Nat.toNat_testBit, Nat.pow_zero, Nat.div_one] at this
    exact this
  have h2 : (x ^^^ (2 * y)) / 2 = x / 2 ^^^ y := by
    rw [Nat.xor_div_two, Nat.mul_div_cancel_left _ (by decide : 0 < 2)]
  unfold hf
  rw [h1, h2]
  split
  · rw [Nat.xor_assoc, Nat.xor_assoc, Nat.xor_comm y]
  · rfl
theorem hN_two : ∀ (k x y : Nat), hN k (x ^^^ (2 ^ k * y)) = hN k x ^^^ y
  | 0, x, y => by show x ^^^ (1 * y) = x ^^^ y; rw [Nat.one_mul]
  | k + 1, x, y => by
    show hN k (hf (x ^^^ (2 ^ (k + 1) * y))) = hN k (hf x) ^^^ y
    have : 2 ^ (k + 1) * y = 2 * (2 ^ k * y) := by rw [Nat.pow_succ, Nat.mul_comm (2 ^ k) 2, Nat.mul_assoc]
    rw [this, hf_two, hN_two k]
theorem parts (x : Nat) : (x % 256) ^^^ (2 ^ 8 * (x / 256)) = x := by
  apply Nat.eq_of_testBit_eq
  intro i
  have h256 : (256 : Nat) = 2 ^ 8 := rfl
  rw [Nat.testBit_xor, h256, Nat.testBit_mod_two_pow, Nat.testBit_two_pow_mul, Nat.testBit_div_two_pow]
  by_cases c : i < 8
  · simp [c, show ¬ 8 ≤ i by omega]
  · simp [c, show 8 ≤ i by omega]
/-- what a byte comes to -/
def tabN (i : Nat) : Nat := hN 8 i
theorem tabN_lt {i : Nat} (h : i < 256) : tabN i < 4294967296 := hN_lt (by omega)
theorem byC_tab (n : Nat) (b : UInt8) : byC n b = (n / 256) ^^^ tabN ((n % 256) ^^^ b.toNat) := by
  have hb := b.toNat_lt
  unfold byC tabN
  have h1 : (n ^^^ b.toNat) % 256 = (n % 256) ^^^ b.toNat := by
    have : (256 : Nat) = 2 ^ 8 := rfl
    rw [this, Nat.xor_mod_two_pow, Nat.mod_eq_of_lt (a := b.toNat) (by omega)]
  have h2 : (n ^^^ b.toNat) / 256 = n / 256 := by
    have : (256 : Nat) = 2 ^ 8 := rfl
    rw [this, Nat.xor_div_two_pow, Nat.div_eq_of_lt (a := b.toNat) (by omega), Nat.xor_zero]
  conv => lhs; rw [← parts (n ^^^ b.toNat)]
  rw [hN_two, h1, h2, Nat.xor_comm]
theorem at_lt (n : Nat) (b : UInt8) : (n % 256) ^^^ b.toNat < 256 := Nat.xor_lt_two_pow (n := 8) (by omega) (by have := b.toNat_lt; omega)
theorem crN_append : ∀ (l m : List UInt8) (n : Nat), crN n (l ++ m) = crN (crN n l) m
  | [], _, _ => rfl
  | b :: r, m, n => crN_append r m (byC n b)
/-- a number, the highest byte first -/
def numN : Nat → List UInt8 → Nat
  | n, [] => n
  | n, b :: r => numN (n * 256 + b.toNat) r
theorem numN_snoc : ∀ (l : List UInt8) (n : Nat) (b : UInt8), numN n (l ++ [b]) = numN n l * 256 + b.toNat
  | [], _, _ => rfl
  | c :: r, n, b => numN_snoc r (n * 256 + c.toNat) b
theorem numN_lt : ∀ (l : List UInt8) (n : Nat), numN n l < (n + 1) * 256 ^ l.length
  | [], n => by show n < (n + 1) * 1; omega
  | b :: r, n => by
    have h1 := numN_lt r (n * 256 + b.toNat)
    have hb := b.toNat_lt
    show numN (n * 256 + b.toNat) r < (n + 1) * 256 ^ (r.length + 1)
    have h2 : (n * 256 + b.toNat + 1) * 256 ^ r.length ≤ ((n + 1) * 256) * 256 ^ r.length := Nat.mul_le_mul_right _ (by omega)
    rw [Nat.pow_succ, Nat.mul_comm (256 ^ r.length) 256, ← Nat.mul_assoc]
    omega
theorem four_num {s : Nat} (h : s < 4294967296) : numN 0 (four s) = s := by
  unfold four numN numN numN numN numN
  rw [UInt8.toNat_ofNat', UInt8.toNat_ofNat', UInt8.toNat_ofNat', UInt8.toNat_ofNat']
  omega
theorem num_inj : ∀ {l m : List UInt8} {a b : Nat}, l.length = m.length → numN a l = numN b m → a = b ∧ l = m
  | [], [], _, _, _, h => ⟨h, rfl⟩
  | x :: l, y :: m, a, b, hl, h => by
    have hl' : l.length = m.length := by simpa using hl
    have ⟨h1, h2⟩ := num_inj (l := l) (m := m) (a := a * 256 + x.toNat) (b := b * 256 + y.toNat) hl' h
    have hx := x.toNat_lt
    have hy := y.toNat_lt
    exact ⟨by omega, by rw [h2, UInt8.toNat_inj.1 (show x.toNat = y.toNat by omega)]⟩
/-- the length as the program reads it -/
theorem num_len {b : List UInt8} (h : 2 ≤ b.length) : numN 0 (b.take 2) = lenC b := by
  rcases b with _ | ⟨x, _ | ⟨y, r⟩⟩
  · simp at h
  · simp at h
  · show (0 * 256 + x.toNat) * 256 + y.toNat = x.toNat * 256 + y.toNat
    omega
theorem take_two {b : List UInt8} (h : 2 ≤ b.length) : b.take 2 = long (lenC b) := by
  rcases b with _ | ⟨x, _ | ⟨y, r⟩⟩
  · simp at h
  · simp at h
  · have hx := x.toNat_lt
    have hy := y.toNat_lt
    show [x, y] = [UInt8.ofNat ((x.toNat * 256 + y.toNat) / 256), UInt8.ofNat ((x.toNat * 256 + y.toNat) % 256)]
    rw [show (x.toNat * 256 + y.toNat) / 256 = x.toNat by omega, show (x.toNat * 256 + y.toNat) % 256 = y.toNat by omega, UInt8.ofNat_toNat, UInt8.ofNat_toNat]
/-- its sum fits: just where its bytes are what would be put -/
theorem fits_iff {b : List UInt8} (h : 6 + lenC b ≤ b.length) :
    (numN 0 ((b.drop 2).take 4) = sumC (b.take 2 ++ (b.drop 6).take (lenC b))) ↔ recB ((b.drop 6).take (lenC b)) = b.take (6 + lenC b) := by
  have hlen : ((b.drop 6).take (lenC b)).length = lenC b := by rw [List.length_take, List.length_drop]; omega
  have h1 : b.take (6 + lenC b) = b.take 2 ++ ((b.drop 2).take 4 ++ (b.drop 6).take (lenC b)) := by
    rw [show 6 + lenC b = 2 + (4 + lenC b) by omega, List.take_add, List.take_add, List.drop_drop]
  have h4 : ((b.drop 2).take 4).length = 4 := by rw [List.length_take, List.length_drop]; omega
  unfold recB
  rw [hlen, h1, ← take_two (by omega)]
  constructor
  · intro h
    have : four (sumC (b.take 2 ++ (b.drop 6).take (lenC b))) = (b.drop 2).take 4 := by
      refine (num_inj (a := 0) (b := 0) (by rw [h4]; rfl) ?_).2
      rw [four_num (sumC_lt _), h]
    rw [this]
  · intro h
    have h2 := List.append_cancel_left h
    have h3 : four (sumC (b.take 2 ++ (b.drop 6).take (lenC b))) = (b.drop 2).take 4 := (List.append_inj h2 (by rw [h4]; rfl)).1
    rw [← h3, four_num (sumC_lt _)]

end Crc
end Go.Proofs.Ytlpkklhagmkmpaa
