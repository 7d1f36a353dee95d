/-
  PLAIN: what layer 8 (crc) comes to, as Lean functions on bytes. No program in sight.
-/
import Derived.Test.YtlpkklhagmkmpaaTools
namespace Go.Proofs.Ytlpkklhagmkmpaa
namespace Crc

/-- half, and the polynomial where it was odd -/
def hf (n : Nat) : Nat := if n % 2 = 1 then (n / 2) ^^^ 3988292384 else n / 2
def hN : Nat → Nat → Nat
  | 0, n => n
  | k + 1, n => hN k (hf n)
theorem hN_succ : ∀ (k n : Nat), hN (k + 1) n = hf (hN k n)
  | 0, _ => rfl
  | k + 1, n => hN_succ k (hf n)
theorem hf_lt {n : Nat} (h : n < 4294967296) : hf n < 4294967296 := by
  unfold hf
  split
  · exact Nat.xor_lt_two_pow (n := 32) (by omega) (by decide)
  · omega
theorem hN_lt : ∀ {k n : Nat}, n < 4294967296 → hN k n < 4294967296
  | 0, _, h => h
  | k + 1, _, h => hN_lt (k := k) (hf_lt h)
theorem xor_cancel {a b p : Nat} (h : a ^^^ p = b ^^^ p) : a = b := by
  have h1 : (a ^^^ p) ^^^ p = (b ^^^ p) ^^^ p := by rw [h]
  rwa [Nat.xor_assoc, Nat.xor_assoc, Nat.xor_self, Nat.xor_zero, Nat.xor_zero] at h1
theorem hf_top {a b : Nat} (ha : a < 4294967296) (hb : b < 4294967296) (h : (a / 2) ^^^ 3988292384 = b / 2) : False := by
  have h1 := congrArg (fun n => n.testBit 31) h
  simp only [Nat.testBit_xor] at h1
  rw [Nat.testBit_lt_two_pow (x := a / 2) (i := 31) (by omega), Nat.testBit_lt_two_pow (x := b / 2) (i := 31) (by omega)] at h1
  exact absurd h1 (by decide)
theorem hf_inj {a b : Nat} (ha : a < 4294967296) (hb : b < 4294967296) (h : hf a = hf b) : a = b := by
  unfold hf at h
  split at h
  · split at h
    · have := xor_cancel h
      omega
    · exact (hf_top ha hb h).elim
  · split at h
    · exact (hf_top hb ha h.symm).elim
    · omega
theorem hN_inj : ∀ {k a b : Nat}, a < 4294967296 → b < 4294967296 → hN k a = hN k b → a = b
  | 0, _, _, _, _, h => h
  | _ + 1, _, _, ha, hb, h => hf_inj ha hb (hN_inj (hf_lt ha) (hf_lt hb) h)
/-- a byte -/
def byC (n : Nat) (b : UInt8) : Nat := hN 8 (n ^^^ b.toNat)
theorem xor_byte {n : Nat} (h : n < 4294967296) (b : UInt8) : n ^^^ b.toNat < 4294967296 := Nat.xor_lt_two_pow (n := 32) (by omega) (by have := b.toNat_lt; omega)
theorem byC_lt {n : Nat} (h : n < 4294967296) (b : UInt8) : byC n b < 4294967296 := hN_lt (xor_byte h b)
theorem byC_inj {n m : Nat} (hn : n < 4294967296) (hm : m < 4294967296) {b : UInt8} (h : byC n b = byC m b) : n = m := xor_cancel (hN_inj (xor_byte hn b) (xor_byte hm b) h)
theorem byC_inj2 {n : Nat} (hn : n < 4294967296) {b c : UInt8} (h : byC n b = byC n c) : b = c := by
  have h1 := hN_inj (xor_byte hn b) (xor_byte hn c) h
  rw [Nat.xor_comm n, Nat.xor_comm n] at h1
  exact UInt8.toNat_inj.1 (xor_cancel h1)
/-- bytes, one behind the other -/
def crN : Nat → List UInt8 → Nat
  | n, [] => n
  | n, b :: r => crN (byC n b) r
theorem crN_lt : ∀ {l : List UInt8} {n : Nat}, n < 4294967296 → crN n l < 4294967296
  | [], _, h => h
  | b :: r, _, h => crN_lt (l := r) (byC_lt h b)
theorem crN_snoc : ∀ (l : List UInt8) (n : Nat) (b : UInt8), crN n (l ++ [b]) = byC (crN n l) b
  | [], _, _ => rfl
  | c :: r, n, b => crN_snoc r (byC n c) b
theorem crN_inj : ∀ {l : List UInt8} {n m : Nat}, n < 4294967296 → m < 4294967296 → crN n l = crN m l → n = m
  | [], _, _, _, _, h => h
  | b :: r, _, _, hn, hm, h => byC_inj hn hm (crN_inj (l := r) (byC_lt hn b) (byC_lt hm b) h)
/-- one byte is another one: so is the sum -/
theorem crN_apart : ∀ {l : List UInt8} {k n : Nat} {b c : UInt8}, n < 4294967296 → l[k]? = some b → b ≠ c → crN n (l.set k c) ≠ crN n l
  | [], _, _, _, _, _, h, _ => by simp at h
  | a :: r, 0, n, b, c, hn, h, hne => fun he => by
    obtain rfl : a = b := by simpa using h
    have h1 : crN (byC n c) r = crN (byC n a) r := he
    exact hne (byC_inj2 hn (crN_inj (byC_lt hn c) (byC_lt hn a) h1)).symm
  | a :: r, k + 1, n, b, c, hn, h, hne => fun he => by
    have h1 : crN (byC n a) (r.set k c) = crN (byC n a) r := he
    exact crN_apart (byC_lt hn a) (by rw [List.getElem?_cons_succ] at h; exact h) hne h1
def sumC (l : List UInt8) : Nat := 4294967295 - crN 4294967295 l
theorem sumC_lt (l : List UInt8) : sumC l < 4294967296 := by unfold sumC; omega
theorem sumC_apart {l : List UInt8} {k : Nat} {b c : UInt8} (h : l[k]? = some b) (hne : b ≠ c) : sumC (l.set k c) ≠ sumC l := fun he => by
  have h1 := crN_lt (l := l) (n := 4294967295) (by decide)
  have h2 := crN_lt (l := l.set k c) (n := 4294967295) (by decide)
  refine crN_apart (n := 4294967295) (by decide) h hne ?_
  unfold sumC at he
  omega

/-! ### records -/
def long (n : Nat) : List UInt8 := [UInt8.ofNat (n / 256), UInt8.ofNat (n % 256)]
def four (s : Nat) : List UInt8 := [UInt8.ofNat (s / 16777216), UInt8.ofNat (s / 65536 % 256), UInt8.ofNat (s / 256 % 256), UInt8.ofNat (s % 256)]
/-- a record's bytes -/
def recB (l : List UInt8) : List UInt8 := long l.length ++ (four (sumC (long l.length ++ l)) ++ l)
def putC (l : List UInt8) : List UInt8 × Int := if l.length = 0 ∨ 4096 < l.length then ([], 1) else (recB l, 0)
/-- the length that stands at the beginning -/
def lenC (b : List UInt8) : Nat := (b.getD 0 0).toNat * 256 + (b.getD 1 0).toNat
def nextC (b : List UInt8) : List UInt8 × Nat × Int :=
  if b.length < 6 then ([], 0, 2)
  else if lenC b = 0 ∨ 4096 < lenC b then ([], 0, 3)
  else if b.length < 6 + lenC b then ([], 0, 2)
  else if recB ((b.drop 6).take (lenC b)) = b.take (6 + lenC b) then ((b.drop 6).take (lenC b), 6 + lenC b, 0) else ([], 0, 11)
theorem recB_len (l : List UInt8) : (recB l).length = 6 + l.length := by
  unfold recB long four
  simp only [List.length_append, List.length_cons, List.length_nil]
  omega
theorem nextC_takes {b : List UInt8} (h : (nextC b).2.2 = 0) : 7 ≤ (nextC b).2.1 ∧ (nextC b).2.1 ≤ b.length := by
  unfold nextC at h ⊢
  split
  · rename_i c; rw [if_pos c] at h; exact absurd h (by decide)
  · rename_i c; rw [if_neg c] at h
    split
    · rename_i c2; rw [if_pos c2] at h; exact absurd h (by decide)
    · rename_i c2; rw [if_neg c2] at h
      split
      · rename_i c3; rw [if_pos c3] at h; exact absurd h (by decide)
      · rename_i c3; rw [if_neg c3] at h
        split
        · show 7 ≤ 6 + lenC b ∧ 6 + lenC b ≤ b.length
          omega
        · rename_i c4; rw [if_neg c4] at h; exact absurd h (by decide)
/-- all records at the beginning, and how many bytes they take -/
def allC (b : List UInt8) : List (List UInt8) × Nat :=
  if _h : (nextC b).2.2 = 0 then ((nextC b).1 :: (allC (b.drop (nextC b).2.1)).1, (nextC b).2.1 + (allC (b.drop (nextC b).2.1)).2) else ([], 0)
termination_by b.length
decreasing_by all_goals (have := nextC_takes _h; rw [List.length_drop]; omega)
theorem allC_stop {b : List UInt8} (h : (nextC b).2.2 ≠ 0) : allC b = ([], 0) := by
  rw [allC, dif_neg h]
theorem allC_go {b : List UInt8} {r : List UInt8} {n : Nat} (h : nextC b = (r, n, 0)) : allC b = (r :: (allC (b.drop n)).1, n + (allC (b.drop n)).2) := by
  rw [allC, dif_pos (by rw [h]), h]
theorem lenC_rec (l rest : List UInt8) (h : l.length ≤ 4096) : lenC (recB l ++ rest) = l.length := by
  have h1 : (recB l ++ rest).getD 0 0 = UInt8.ofNat (l.length / 256) := rfl
  have h2 : (recB l ++ rest).getD 1 0 = UInt8.ofNat (l.length % 256) := rfl
  unfold lenC
  rw [h1, h2, UInt8.toNat_ofNat', UInt8.toNat_ofNat']
  omega
theorem drop_six (l rest : List UInt8) : (recB l ++ rest).drop 6 = l ++ rest := rfl
/-- what was put is told, whatever stands behind it -/
theorem next_rec {l : List UInt8} (rest : List UInt8) (h0 : 0 < l.length) (h1 : l.length ≤ 4096) : nextC (recB l ++ rest) = (l, 6 + l.length, 0) := by
  have hl := lenC_rec l rest h1
  have hlen : (recB l ++ rest).length = 6 + l.length + rest.length := by rw [List.length_append, recB_len]
  unfold nextC
  rw [hl, if_neg (by omega), if_neg (by omega), if_neg (by omega), drop_six, List.take_append_of_le_length (Nat.le_refl _), List.take_of_length_le (Nat.le_refl _),
    List.take_append_of_le_length (by rw [recB_len]; exact Nat.le_refl _), List.take_of_length_le (by rw [recB_len]; exact Nat.le_refl _), if_pos rfl]
/-- the beginning of one is none -/
theorem next_cut {l : List UInt8} {k : Nat} (h1 : l.length ≤ 4096) (h0 : 0 < l.length) (hk : k < 6 + l.length) : (nextC ((recB l).take k)).2.2 = 2 := by
  have hlen : ((recB l).take k).length = k := by rw [List.length_take, recB_len]; omega
  unfold nextC
  rw [hlen]
  by_cases c : k < 6
  · rw [if_pos c]
  · rw [if_neg c]
    have hl : lenC ((recB l).take k) = l.length := by
      have h2 : lenC ((recB l).take k) = lenC (recB l ++ []) := by
        unfold lenC
        rw [List.append_nil]
        congr 2
        · rw [List.getD_eq_getElem?_getD, List.getD_eq_getElem?_getD, List.getElem?_take, if_pos (by omega)]
        · rw [List.getD_eq_getElem?_getD, List.getD_eq_getElem?_getD, List.getElem?_take, if_pos (by omega)]
      rw [h2]
      exact lenC_rec l [] h1
    rw [hl, if_neg (by omega), if_pos (by omega)]
/-- records, one behind the other -/
def recs (l : List (List UInt8)) : List UInt8 := l.flatMap recB
def Fine (l : List (List UInt8)) : Prop := ∀ r ∈ l, 0 < r.length ∧ r.length ≤ 4096
theorem all_recs : ∀ {l : List (List UInt8)}, Fine l → allC (recs l) = (l, (recs l).length)
  | [], _ => allC_stop (by decide)
  | r :: q, h => by
    have ⟨h0, h1⟩ := h r (by simp)
    have ih := all_recs (l := q) (fun z hz => h z (by simp [hz]))
    have hr : recs (r :: q) = recB r ++ recs q := rfl
    rw [hr, allC_go (next_rec (recs q) h0 h1)]
    have hd : (recB r ++ recs q).drop (6 + r.length) = recs q := by
      rw [← recB_len r, List.drop_left]
    rw [hd, ih, List.length_append, recB_len]
/-- cut anywhere: all whole ones -/
theorem all_cut : ∀ {l : List (List UInt8)} {k : Nat}, Fine l → k < (recs l).length → ∃ j, j < l.length ∧ (recs (l.take j)).length ≤ k ∧ k < (recs (l.take (j + 1))).length ∧ allC ((recs l).take k) = (l.take j, (recs (l.take j)).length)
  | [], _, _, h => absurd h (Nat.not_lt_zero _)
  | r :: q, k, h, hk => by
    have ⟨h0, h1⟩ := h r (by simp)
    have hq : Fine q := fun z hz => h z (by simp [hz])
    have hr : recs (r :: q) = recB r ++ recs q := rfl
    rw [hr] at hk ⊢
    rw [List.length_append, recB_len] at hk
    rcases Nat.lt_or_ge k (6 + r.length) with hlt | hge
    · refine ⟨0, by simp, Nat.zero_le _, ?_, ?_⟩
      · show k < (recB r ++ []).length
        rw [List.append_nil, recB_len]
        exact hlt
      · rw [List.take_append_of_le_length (by rw [recB_len]; omega)]
        exact allC_stop (by rw [next_cut h1 h0 hlt]; decide)
    · obtain ⟨j, g1, g2, g3, g4⟩ := all_cut (l := q) (k := k - (6 + r.length)) hq (by omega)
      have e1 : (recB r ++ recs q).take k = recB r ++ (recs q).take (k - (6 + r.length)) := by
        rw [List.take_append, recB_len, List.take_of_length_le (by rw [recB_len]; exact hge)]
      have hd : ∀ z : List UInt8, (recB r ++ z).drop (6 + r.length) = z := fun z => by rw [← recB_len r, List.drop_left]
      have e2 : ∀ i, (recs ((r :: q).take (i + 1))).length = 6 + r.length + (recs (q.take i)).length := fun i => by
        show (recB r ++ recs (q.take i)).length = _
        rw [List.length_append, recB_len]
      refine ⟨j + 1, by rw [List.length_cons]; omega, by rw [e2]; omega, by rw [e2]; omega, ?_⟩
      rw [e1, allC_go (next_rec _ h0 h1), hd, g4, e2]
      rfl
/-! ### a bit that was turned -/
theorem ofNat_inj {a b : Nat} (ha : a < 256) (hb : b < 256) (h : UInt8.ofNat a = UInt8.ofNat b) : a = b := by
  have := congrArg UInt8.toNat h
  rw [UInt8.toNat_ofNat', UInt8.toNat_ofNat'] at this
  omega
theorem four_inj {s t : Nat} (hs : s < 4294967296) (ht : t < 4294967296) (h : four s = four t) : s = t := by
  unfold four at h
  simp only [List.cons.injEq, and_true] at h
  obtain ⟨h1, h2, h3, h4⟩ := h
  have := ofNat_inj (by omega) (by omega) h1
  have := ofNat_inj (by omega) (by omega) h2
  have := ofNat_inj (by omega) (by omega) h3
  have := ofNat_inj (by omega) (by omega) h4
  omega
/-- one byte of its sum, or of its own, is another one: its sum tells -/
theorem next_spoilt {l : List UInt8} {k : Nat} {b c : UInt8} (h0 : 0 < l.length) (h1 : l.length ≤ 4096) (hk : 2 ≤ k) (hb : (recB l)[k]? = some b) (hne : b ≠ c) : nextC ((recB l).set k c) = ([], 0, 11) := by
  have hkl : k < 6 + l.length := by rw [← recB_len l]; exact (List.getElem?_eq_some_iff.1 hb).1
  have hlen : ((recB l).set k c).length = 6 + l.length := by rw [List.length_set, recB_len]
  have hl : lenC ((recB l).set k c) = l.length := by
    have h2 : lenC ((recB l).set k c) = lenC (recB l ++ []) := by
      unfold lenC
      rw [List.append_nil]
      congr 2
      · rw [List.getD_eq_getElem?_getD, List.getD_eq_getElem?_getD, List.getElem?_set_ne (by omega)]
      · rw [List.getD_eq_getElem?_getD, List.getD_eq_getElem?_getD, List.getElem?_set_ne (by omega)]
    rw [h2]
    exact lenC_rec l [] h1
  unfold nextC
  rw [hlen, hl, if_neg (by omega), if_neg (by omega), if_neg (by omega), if_neg]
  intro he
  have hfull : ((recB l).set k c).take (6 + l.length) = (recB l).set k c := List.take_of_length_le (by rw [hlen]; exact Nat.le_refl _)
  rw [hfull] at he
  rcases Nat.lt_or_ge k 6 with hlt | hge
  · -- in the sum
    have hd : (((recB l).set k c).drop 6).take l.length = l := by
      rw [List.drop_set_of_lt (by omega)]
      have := drop_six l []
      rw [List.append_nil, List.append_nil] at this
      rw [this, List.take_of_length_le (Nat.le_refl _)]
    rw [hd] at he
    have h3 : ((recB l).set k c)[k]? = some c := List.getElem?_set_self (by rw [recB_len]; exact hkl)
    rw [← he, hb] at h3
    exact hne (Option.some.inj h3)
  · -- in the record
    obtain ⟨j, rfl⟩ : ∃ j, k = 6 + j := ⟨k - 6, by omega⟩
    have hbl : l[j]? = some b := by
      have h2 : (recB l)[6 + j]? = ((recB l).drop 6)[j]? := by rw [List.getElem?_drop]
      rw [h2] at hb
      have := drop_six l []
      rw [List.append_nil, List.append_nil] at this
      rwa [this] at hb
    have hs : (recB l).set (6 + j) c = long l.length ++ (four (sumC (long l.length ++ l)) ++ l.set j c) := by
      have e : 6 + j = j + 1 + 1 + 1 + 1 + 1 + 1 := by omega
      rw [e]
      rfl
    have hd : (((recB l).set (6 + j) c).drop 6).take l.length = l.set j c := by
      rw [hs]
      show (l.set j c).take l.length = l.set j c
      exact List.take_of_length_le (by rw [List.length_set]; exact Nat.le_refl _)
    rw [hd, hs] at he
    unfold recB at he
    rw [List.length_set] at he
    have h4 := List.append_cancel_left he
    have h5 : four (sumC (long l.length ++ l.set j c)) = four (sumC (long l.length ++ l)) := by
      have := congrArg (List.take 4) h4
      exact this
    have h6 := four_inj (sumC_lt _) (sumC_lt _) h5
    have h7 : long l.length ++ l.set j c = (long l.length ++ l).set (2 + j) c := by
      have e : 2 + j = j + 1 + 1 := by omega
      rw [e]
      rfl
    rw [h7] at h6
    refine sumC_apart (l := long l.length ++ l) (k := 2 + j) (b := b) (c := c) ?_ hne h6
    have e : 2 + j = j + 1 + 1 := by omega
    rw [e]
    exact hbl

end Crc
end Go.Proofs.Ytlpkklhagmkmpaa
