/-
  PLAIN: what layer 3 (frame) comes to, as Lean functions on bytes. No program in sight.
-/
import Derived.Test.YtnmmokdkngccjaaPlSeg
namespace Go.Proofs.Ytnmmokdkngccjaa
namespace Frm
open Num Fld

/-- all bytes together -/
def tot (b : List UInt8) : Nat := (b.map UInt8.toNat).sum
def sumN (b : List UInt8) : Nat := tot b % 256
theorem tot_append (a b : List UInt8) : tot (a ++ b) = tot a + tot b := by unfold tot; rw [List.map_append, List.sum_append]
theorem tot_nil : tot [] = 0 := rfl
theorem tot_step {b : List UInt8} {k : Nat} (h : k < b.length) : tot (b.take (k + 1)) = tot (b.take k) + b[k].toNat := by
  rw [List.take_succ_eq_append_getElem h, tot_append]
  simp [tot]
theorem sum_step {b : List UInt8} {k n : Nat} (h : k < b.length) (hn : n = sumN (b.take k)) : (n + b[k].toNat) % 256 = sumN (b.take (k + 1)) := by
  unfold sumN at *
  rw [tot_step h, hn]
  omega
theorem sum_lt (b : List UInt8) : sumN b < 256 := Nat.mod_lt _ (by decide)
theorem sum_append (a b : List UInt8) : sumN (a ++ b) = (sumN a + sumN b) % 256 := by unfold sumN; rw [tot_append]; omega
theorem tot_set {b : List UInt8} {k : Nat} (h : k < b.length) (c : UInt8) : tot (b.set k c) + b[k].toNat = tot b + c.toNat := by
  have e1 : b = b.take k ++ b[k] :: b.drop (k + 1) := by rw [← List.drop_eq_getElem_cons h, List.take_append_drop]
  have e2 : b.set k c = b.take k ++ c :: b.drop (k + 1) := by rw [List.set_eq_take_append_cons_drop, if_pos h]
  have e3 : tot b = tot (b.take k ++ b[k] :: b.drop (k + 1)) := by rw [← e1]
  rw [e2, e3, tot_append, tot_append]
  simp only [tot, List.map_cons, List.sum_cons]
  omega
/-- a byte that is turned alone turns the sum -/
theorem sum_turn {b : List UInt8} {k : Nat} (h : k < b.length) (by_ c : UInt8) (hc : c.toNat = (b[k].toNat + by_.toNat) % 256) : sumN (b.set k c) = sumN b ↔ by_ = 0 := by
  have h1 := tot_set h c
  have h2 := by_.toNat_lt
  have h3 := b[k].toNat_lt
  unfold sumN
  constructor
  · intro e
    have : by_.toNat = 0 := by omega
    exact UInt8.toNat_inj.1 this
  · rintro rfl
    have : (0 : UInt8).toNat = 0 := rfl
    omega

/-- no tag of a frame's own -/
def freeF (f : F) : Bool := f.tag != 8 && f.tag != 9 && f.tag != 10
/-- may it be a body? -/
def rightY (b : List UInt8) : Bool := decide (b.length ≠ 0) && decide (b.length ≤ 8000) && decide ((parseL b).2 = 0) && (parseL b).1.all freeF
/-- the beginning -/
def pre : List UInt8 := [56, 61, 70, 73, 88, 46, 52, 46, 52, 1, 57, 61]
def headY (b : List UInt8) : List UInt8 := pre ++ showL b.length ++ [1] ++ b
def tailY (s : Nat) : List UInt8 := [49, 48, 61, UInt8.ofNat (48 + s / 100), UInt8.ofNat (48 + s / 10 % 10), UInt8.ofNat (48 + s % 10), 1]
def frameY (b : List UInt8) : List UInt8 := headY b ++ tailY (sumN (headY b))
def putE (b : List UInt8) : Int := if 8000 < b.length then 4 else if rightY b = true then 0 else 1
def putB (b : List UInt8) : List UInt8 := if putE b = 0 then frameY b else []
theorem putE_ok {b : List UInt8} (h : putE b = 0) : b.length ≠ 0 ∧ b.length ≤ 8000 ∧ rightY b = true := by
  unfold putE at h
  by_cases h1 : 8000 < b.length
  · rw [if_pos h1] at h; cases h
  · rw [if_neg h1] at h
    by_cases h2 : rightY b = true
    · refine ⟨?_, by omega, h2⟩
      unfold rightY at h2
      simp only [Bool.and_eq_true, decide_eq_true_eq] at h2
      exact h2.1.1.1
    · rw [if_neg h2] at h; cases h
theorem putE_long {b : List UInt8} (h : 8000 < b.length) : putE b = 4 ∧ putB b = [] := by
  have e : putE b = 4 := by unfold putE; rw [if_pos h]
  exact ⟨e, by unfold putB; rw [e]; rfl⟩
theorem putE_bad {b : List UInt8} (h : ¬ 8000 < b.length) (hr : rightY b = false) : putE b = 1 ∧ putB b = [] := by
  have e : putE b = 1 := by unfold putE; rw [if_neg h, hr]; rfl
  exact ⟨e, by unfold putB; rw [e]; rfl⟩
theorem putE_good {b : List UInt8} (h : ¬ 8000 < b.length) (hr : rightY b = true) : putE b = 0 ∧ putB b = frameY b := by
  have e : putE b = 0 := by unfold putE; rw [if_neg h, if_pos hr]
  exact ⟨e, by unfold putB; rw [e]; rfl⟩
theorem putB_bad {b : List UInt8} (h : putE b ≠ 0) : putB b = [] := by unfold putB; rw [if_neg h]
theorem putB_ok {b : List UInt8} (h : putE b = 0) : putB b = frameY b := by unfold putB; rw [if_pos h]

/-! ### what stands at the beginning -/
/-- do bytes begin with the beginning, or are they its first ones? -/
def begB (s : List UInt8) : Bool := s.take 12 == pre.take s.length
/-- how many bytes stand ahead of such a place -/
def skip : List UInt8 → Nat
  | [] => 0
  | c :: r => if begB (c :: r) = true then 0 else skip r + 1
def junkN (b : List UInt8) : Nat := 1 + skip (b.drop 1)
theorem skip_le : ∀ (s : List UInt8), skip s ≤ s.length
  | [] => Nat.le_refl _
  | c :: r => by
    unfold skip
    have := skip_le r
    rw [List.length_cons]
    by_cases h : begB (c :: r) = true
    · rw [if_pos h]; omega
    · rw [if_neg h]; omega
theorem junk_le {b : List UInt8} (h : b ≠ []) : junkN b ≤ b.length := by
  unfold junkN
  have h1 := skip_le (b.drop 1)
  have h2 : b.length ≠ 0 := fun e => h (List.length_eq_zero_iff.1 e)
  rw [List.length_drop] at h1
  omega

def lenT (b : List UInt8) : Nat := tagLen (b.drop 12)
def lenV (b : List UInt8) : Nat := dval 0 ((b.drop 12).take (lenT b))
def bodyAt (b : List UInt8) : List UInt8 := ((b.drop 12).drop (lenT b + 1)).take (lenV b)
def allAt (b : List UInt8) : Nat := 12 + lenT b + 1 + lenV b + 7
/-- what stands at the beginning of bytes: what it is, a frame's body, how many bytes it takes -/
def nextY (b : List UInt8) : Int × List UInt8 × Nat :=
  if b = [] then (0, [], 0)
  else if begB b = false then (2, [], junkN b)
  else if b.length < 12 then (0, [], 0)
  else if lenT b ≠ 0 ∧ (b[12]? = some 48 ∨ 8000 < lenV b) then (2, [], junkN b)
  else if 12 + lenT b = b.length then (0, [], 0)
  else if lenT b = 0 ∨ b[12 + lenT b]? ≠ some 1 then (2, [], junkN b)
  else if b.length < allAt b then (0, [], 0)
  else if putE (bodyAt b) = 0 ∧ putB (bodyAt b) = b.take (allAt b) then (1, bodyAt b, allAt b)
  else (2, [], junkN b)

theorem next_goes (b : List UInt8) : (nextY b).2.2 ≤ b.length ∧ ((nextY b).2.2 = 0 ↔ (nextY b).1 = 0) ∧ ((nextY b).1 ≠ 1 → (nextY b).2.1 = []) ∧
    ((nextY b).1 = 1 → putE (nextY b).2.1 = 0 ∧ putB (nextY b).2.1 = b.take (nextY b).2.2) := by
  have hj : junkN b ≠ 0 := by unfold junkN; omega
  have ha : allAt b ≠ 0 := by unfold allAt; omega
  unfold nextY
  split
  · simp
  · rename_i hne
    have hjl := junk_le hne
    split
    · simp; omega
    · split
      · simp
      · split
        · simp; omega
        · split
          · simp
          · split
            · simp; omega
            · split
              · simp
              · split
                · rename_i h1 h2
                  simp only [ne_eq, not_true_eq_false, false_implies, true_and, forall_const]
                  exact ⟨by omega, by constructor <;> intro h <;> omega, h2⟩
                · simp; omega

end Frm
end Go.Proofs.Ytnmmokdkngccjaa
