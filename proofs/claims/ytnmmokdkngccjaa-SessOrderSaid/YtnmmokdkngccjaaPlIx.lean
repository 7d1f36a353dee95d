/-
  PLAIN: where a byte first stands in a list of bytes.
-/
import Derived.Lib.Bytealg
import Derived.Lib.Bytes
namespace Go.Proofs.Ytnmmokdkngccjaa

/-- how many bytes stand ahead of the first c, or all -/
def ahead (c : UInt8) (b : List UInt8) : Nat := (b.takeWhile fun x => x != c).length
theorem ahead_le (c : UInt8) (b : List UInt8) : ahead c b ≤ b.length := (List.takeWhile_prefix _).length_le
theorem ahead_take (c : UInt8) (b : List UInt8) : b.take (ahead c b) = b.takeWhile fun x => x != c := (List.prefix_iff_eq_take.1 (List.takeWhile_prefix _)).symm
theorem ahead_nil (c : UInt8) : ahead c [] = 0 := rfl
theorem ahead_cons (c x : UInt8) (b : List UInt8) : ahead c (x :: b) = if x = c then 0 else ahead c b + 1 := by
  unfold ahead
  rw [List.takeWhile_cons]
  by_cases h : x = c <;> simp [h]
/-- is it there at all? -/
theorem ahead_lt (c : UInt8) (b : List UInt8) : ahead c b < b.length ↔ c ∈ b := by
  induction b with
  | nil => simp [ahead_nil]
  | cons x b ih =>
    rw [ahead_cons, List.length_cons, List.mem_cons]
    by_cases h : x = c
    · simp [h]
    · rw [if_neg h]
      constructor
      · intro h1; exact .inr (ih.1 (by omega))
      · rintro (h1 | h1)
        · exact absurd h1.symm h
        · have := ih.2 h1; omega
theorem ahead_get {c : UInt8} {b : List UInt8} (h : ahead c b < b.length) : b[ahead c b]? = some c := by
  induction b with
  | nil => simp at h
  | cons x b ih =>
    rw [ahead_cons] at h ⊢
    by_cases hx : x = c
    · simp [hx]
    · rw [if_neg hx] at h ⊢
      rw [List.getElem?_cons_succ]
      rw [List.length_cons] at h
      exact ih (by omega)
theorem indexByte_eq (b : List UInt8) (c : UInt8) : Lib.indexByte b c = if ahead c b < b.length then (ahead c b : Int) else -1 := by
  induction b with
  | nil => rfl
  | cons x b ih =>
    unfold Lib.indexByte
    rw [ih, ahead_cons, List.length_cons]
    by_cases h : x = c
    · subst h; simp
    · have hb : (x == c) = false := beq_eq_false_iff_ne.2 h
      rw [hb, if_neg h]
      simp only [Bool.false_eq_true, if_false]
      by_cases h1 : ahead c b < b.length
      · have h2 : ahead c b + 1 < b.length + 1 := by omega
        have h3 : ((ahead c b : Int) == -1) = false := beq_eq_false_iff_ne.2 (by omega)
        simp only [h1, h2, if_true, h3, Bool.false_eq_true, if_false]
        omega
      · have h2 : ¬ (ahead c b + 1 < b.length + 1) := by omega
        simp only [h1, h2, if_false]
        rfl

theorem bytesOf_nat (b : List UInt8) : Lib.bytesOf (b.map fun c => (c.toNat : Int)) = b := by
  unfold Lib.bytesOf
  rw [List.map_map]
  conv => rhs; rw [← List.map_id b]
  congr 1
  funext c
  simp

end Go.Proofs.Ytnmmokdkngccjaa
