/-
  PLAIN: how far loops over a field's bytes have come. No program in sight.
-/
import Derived.Test.YtnmmokdkngccjaaPlField
namespace Go.Proofs.Ytnmmokdkngccjaa
namespace Fld
open Num

theorem ones_append (a b : List UInt8) : ones (a ++ b) = ones a + ones b := by unfold ones; rw [List.filter_append, List.length_append]
theorem ones_all : ∀ {l : List F}, l.all rightF = true → ones (bytesL l) = l.length
  | [], _ => by simp [bytesL, ones]
  | f :: l, h => by
    rw [List.all_cons, Bool.and_eq_true] at h
    have e : bytesL (f :: l) = front f ++ ([1] ++ bytesL l) := by
      have : bytesL (f :: l) = bytesF f ++ bytesL l := by unfold bytesL; simp
      rw [this, bytesF_eq]; simp
    have e1 : ones [1] = 1 := by decide
    rw [e, ones_append, ones_append, ones_front h.1, e1, ones_all h.2, List.length_cons]
    omega
theorem ones_take_le (b : List UInt8) (k : Nat) : ones (b.take k) ≤ ones b := by
  have e : ones b = ones (b.take k) + ones (b.drop k) := by rw [← ones_append, List.take_append_drop]
  omega
theorem ones_step (b : List UInt8) (k : Nat) (h : k < b.length) : ones (b.take (k + 1)) = ones (b.take k) + (if b[k] = 1 then 1 else 0) := by
  rw [List.take_succ_eq_append_getElem h, ones_append]
  by_cases h1 : b[k] = 1
  · rw [if_pos h1, h1]; rfl
  · rw [if_neg h1]
    unfold ones
    simp [h1]
/-- Parse of bytes that are cut -/
theorem cut_parse {l : List F} (h : l.all rightF = true) (h2 : l.length ≤ 100) {k : Nat} (hk : k ≤ (bytesL l).length) :
    parseL ((bytesL l).take k) = if k = 0 ∨ (bytesL l)[k - 1]? = some 1 then (l.take (ones ((bytesL l).take k)), 0) else ([], 2) := by
  have hl := len_bytesL h
  unfold parseL
  rw [if_neg (by rw [List.length_take]; omega), cut_all l [] k h (by simpa using h2) hk]
  simp

/-- no byte 1 stands from p up to e -/
def SegAt (b : List UInt8) (p e : Nat) : Prop := p ≤ e ∧ e ≤ b.length ∧ ∀ c ∈ (b.drop p).take (e - p), c ≠ 1
theorem SegAt.start {b : List UInt8} {p : Nat} (h : p ≤ b.length) : SegAt b p p := ⟨Nat.le_refl _, h, by simp⟩
theorem SegAt.step {b : List UInt8} {p e : Nat} (h : SegAt b p e) (he : e < b.length) (h1 : b[e] ≠ 1) : SegAt b p (e + 1) := by
  obtain ⟨a, _, c⟩ := h
  have hl : e - p < (b.drop p).length := by rw [List.length_drop]; omega
  refine ⟨by omega, he, ?_⟩
  rw [show e + 1 - p = e - p + 1 by omega, List.take_succ_eq_append_getElem hl]
  intro x hx
  rw [List.mem_append, List.mem_singleton] at hx
  rcases hx with hx | rfl
  · exact c x hx
  · rw [List.getElem_drop]
    simpa [show p + (e - p) = e by omega] using h1
theorem SegAt.whole {b : List UInt8} {p : Nat} (h : SegAt b p b.length) : (seg (b.drop p)).length = (b.drop p).length := by
  obtain ⟨_, _, c⟩ := h
  unfold seg
  rw [show b.length - p = (b.drop p).length by rw [List.length_drop], List.take_length] at c
  have e : b.drop p = b.drop p ++ [] := by simp
  rw [e, takeWhile_all [] (fun x hx => by rw [bne_iff_ne]; exact c x hx)]
  simp
theorem SegAt.stop {b : List UInt8} {p e : Nat} (h : SegAt b p e) (he : e < b.length) (h1 : b[e] = 1) : seg (b.drop p) = (b.drop p).take (e - p) := by
  obtain ⟨a, _, c⟩ := h
  have hl : e - p < (b.drop p).length := by rw [List.length_drop]; omega
  have e1 : b.drop p = (b.drop p).take (e - p) ++ 1 :: (b.drop p).drop (e - p + 1) := by
    have e2 : (b.drop p)[e - p] = 1 := by rw [List.getElem_drop]; simpa [show p + (e - p) = e by omega] using h1
    rw [← e2, ← List.drop_eq_getElem_cons hl, List.take_append_drop]
  have e3 : seg (b.drop p) = seg ((b.drop p).take (e - p) ++ 1 :: (b.drop p).drop (e - p + 1)) := by rw [← e1]
  rw [e3]
  unfold seg
  rw [takeWhile_all _ (fun x hx => by rw [bne_iff_ne]; exact c x hx)]
  simp
/-- the segment, its length and its bytes -/
theorem SegAt.parts {b : List UInt8} {p e : Nat} (h : SegAt b p e) (he : e < b.length) (h1 : b[e] = 1) :
    (seg (b.drop p)).length = e - p ∧ (seg (b.drop p)).length ≠ (b.drop p).length ∧ b.drop p ≠ [] ∧ (b.drop p).drop ((seg (b.drop p)).length + 1) = b.drop (e + 1) ∧
      ∀ j, j < e - p → (seg (b.drop p))[j]? = b[p + j]? := by
  have hs := h.stop he h1
  obtain ⟨a, _, c⟩ := h
  have hl : (seg (b.drop p)).length = e - p := by rw [hs, List.length_take, List.length_drop]; omega
  refine ⟨hl, by rw [hl, List.length_drop]; omega, ?_, ?_, ?_⟩
  · intro e0
    have : (b.drop p).length = 0 := by rw [e0]; rfl
    rw [List.length_drop] at this; omega
  · rw [hl, List.drop_drop]; congr 1; omega
  · intro j hj
    rw [hs, List.getElem?_take_of_lt hj, List.getElem?_drop]

/-- what stands behind a place of the segment -/
theorem SegAt.rest {b : List UInt8} {p e : Nat} (h : SegAt b p e) (he : e < b.length) (h1 : b[e] = 1) (k : Nat) (hpk : p ≤ k) (hke : k < e) : (seg (b.drop p)).drop (k - p + 1) = (b.drop (k + 1)).take (e - (k + 1)) := by
  rw [h.stop he h1, List.drop_take, List.drop_drop, show p + (k - p + 1) = k + 1 by omega, show e - p - (k - p + 1) = e - (k + 1) by omega]

/-- n digits stand ahead, four at most, and v is their number -/
def TagAt (s : List UInt8) (n v : Nat) : Prop := n ≤ s.length ∧ n ≤ 4 ∧ (s.take n).all isD = true ∧ v = dval 0 (s.take n)
theorem TagAt.start (s : List UInt8) : TagAt s 0 0 := ⟨by omega, by omega, by simp, by simp [dval]⟩
theorem dval_lt : ∀ (n : Nat) (l : List UInt8), l.length = n → l.all isD = true → dval 0 l < 10 ^ n
  | 0, l, h, _ => by
    obtain rfl : l = [] := List.length_eq_zero_iff.1 h
    simp [dval]
  | n + 1, l, h, ha => by
    obtain ⟨r, c, rfl⟩ : ∃ r c, l = r ++ [c] := ⟨l.dropLast, l.getLast (by intro e; rw [e] at h; simp at h), (List.dropLast_concat_getLast _).symm⟩
    rw [List.all_append, Bool.and_eq_true] at ha
    have h1 := dval_lt n r (by simpa using h) ha.1
    have h2 : isD c = true := by simpa using ha.2
    have := (isD_iff c).1 h2
    rw [dval_snoc, Nat.pow_succ]
    omega
theorem TagAt.bound {s : List UInt8} {n v : Nat} (h : TagAt s n v) : v < 10000 ∧ (n < 4 → v < 1000) := by
  obtain ⟨a, b, c, rfl⟩ := h
  have hl : (s.take n).length = n := by rw [List.length_take]; omega
  have h1 := dval_lt n (s.take n) hl c
  have h2 : (10 : Nat) ^ n ≤ 10 ^ 4 := Nat.pow_le_pow_right (by omega) b
  refine ⟨by omega, fun h4 => ?_⟩
  have h3 : (10 : Nat) ^ n ≤ 10 ^ 3 := Nat.pow_le_pow_right (by omega) (by omega)
  omega
theorem TagAt.step {s : List UInt8} {n v : Nat} (h : TagAt s n v) (hn : n < s.length) (h4 : n < 4) (hd : isD s[n] = true) : TagAt s (n + 1) (v * 10 + (s[n].toNat - 48)) := by
  obtain ⟨a, b, c, rfl⟩ := h
  exact ⟨by omega, by omega, take_isD hn c hd, (dval_take s n hn).symm⟩
theorem TagAt.len {s : List UInt8} {n v : Nat} (h : TagAt s n v) (he : n = s.length ∨ n = 4 ∨ ∃ c, s[n]? = some c ∧ isD c = false) : tagLen s = n := by
  obtain ⟨a, b, c, _⟩ := h
  have hl : (s.take n).length = n := by rw [List.length_take]; omega
  have e1 : s.take 4 = s.take n ++ (s.drop n).take (4 - n) := by
    rw [← List.take_append_drop n (s.take 4), List.take_take, List.drop_take, Nat.min_eq_left b]
  unfold tagLen
  rw [e1, takeWhile_all _ (fun x hx => List.all_eq_true.1 c x hx), List.length_append, hl]
  have e2 : ((s.drop n).take (4 - n)).takeWhile isD = [] := by
    rcases he with he | he | ⟨x, hx, hd⟩
    · rw [List.drop_eq_nil_of_le (by omega)]; simp
    · rw [he]; simp
    · have hlt : n < s.length := by
        rcases Nat.lt_or_ge n s.length with h | h
        · exact h
        · rw [List.getElem?_eq_none h] at hx; cases hx
      rw [List.getElem?_eq_getElem hlt] at hx
      rw [List.drop_eq_getElem_cons hlt, Option.some.inj hx]
      cases hk : 4 - n with
      | zero => simp
      | succ k => rw [List.take_succ_cons, List.takeWhile_cons, if_neg (by rw [hd]; simp)]
  rw [e2]
  simp
/-- the field that is read -/
theorem TagAt.field {s : List UInt8} {n v : Nat} (h : TagAt s n v) (hl : tagLen s = n) : mkF s (tagLen s) = ⟨(v : Int), ⟨(s.drop (n + 1)).toArray⟩⟩ := by
  obtain ⟨_, _, _, rfl⟩ := h
  unfold mkF
  rw [hl]
/-- what isn't read -/
theorem readOk_none {s : List UInt8} (h : tagLen s = 0) : readOk s = false := by unfold readOk; rw [h]; rfl
theorem readOk_zero {s : List UInt8} (h : s[0]? = some 48) : readOk s = false := by
  unfold readOk
  rw [List.head?_eq_getElem?, h]
  simp
theorem readOk_end {s : List UInt8} (h : tagLen s = s.length) : readOk s = false := by
  unfold readOk
  rw [h, List.getElem?_eq_none (Nat.le_refl _)]
  simp
theorem readOk_sign {s : List UInt8} {n : Nat} {c : UInt8} (h : tagLen s = n) (hc : s[n]? = some c) (h1 : c ≠ 61) : readOk s = false := by
  unfold readOk
  rw [h, hc]
  have : ¬ (some c = some (61 : UInt8)) := fun e => h1 (Option.some.inj e)
  rw [decide_eq_false this]
  simp
theorem readOk_else {s : List UInt8} {n : Nat} {d c : UInt8} (h : tagLen s = n) (hn : n ≠ 0) (hd : s[0]? = some d) (h0 : d ≠ 48) (hc : s[n]? = some c) (h1 : c = 61) : readOk s = rightF (mkF s (tagLen s)) := by
  unfold readOk
  have : ¬ (some d = some (48 : UInt8)) := fun e => h0 (Option.some.inj e)
  rw [List.head?_eq_getElem?, hd, h, hc, h1, decide_eq_true this, decide_eq_true hn]
  simp

end Fld
end Go.Proofs.Ytnmmokdkngccjaa
