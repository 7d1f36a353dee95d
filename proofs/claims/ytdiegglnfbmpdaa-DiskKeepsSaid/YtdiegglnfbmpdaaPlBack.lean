/-
  PLAIN: a number is read from its text as it was, and a text that is read shows as it was. No program in sight.
-/
import Derived.Test.YtdiegglnfbmpdaaPlParse
import Derived.Lib.ItoaNum
namespace Go.Proofs.Ytdiegglnfbmpdaa
namespace Num

/-- a number's text, as bytes -/
def showL (n : Int) : List UInt8 := if rightB n = true then Lib.itoa n else []
def showS (n : Int) : ByteArray := ⟨(showL n).toArray⟩
theorem itoa_nn (n : Int) (h : 0 ≤ n) : Lib.itoa n = Lib.decDigits n.toNat := by unfold Lib.itoa; rw [if_neg (by omega)]
theorem itoa_ng (n : Int) (h : n < 0) : Lib.itoa n = 45 :: Lib.decDigits (-n).toNat := by
  unfold Lib.itoa
  rw [if_pos h]
  have e : n.natAbs = (-n).toNat := by omega
  rw [e]
theorem nDigits_le : ∀ (k u : Nat), u < 10 ^ (k + 1) → Lib.nDigits u ≤ k + 1
  | 0, u, h => by rw [Lib.nDigits_small (by simpa using h)]; omega
  | k + 1, u, h => by
    by_cases h10 : u < 10
    · rw [Lib.nDigits_small h10]; omega
    · rw [Lib.nDigits_big h10]
      have := nDigits_le k (u / 10) (by rw [Nat.pow_succ] at h; omega)
      omega
theorem digits_len (n : Int) (_h0 : 0 ≤ n) (h1 : n ≤ 4611686018427387904) : (Lib.decDigits n.toNat).length ≤ 19 := by
  rw [Lib.decDigits_length]
  have h : n.toNat < 10 ^ (18 + 1) := by
    have e : (10 : Nat) ^ (18 + 1) = 10000000000000000000 := by decide
    omega
  exact nDigits_le 18 n.toNat h

theorem digit_nat (k : Nat) (h : k < 10) : (UInt8.ofNat (48 + k)).toNat = 48 + k := by
  rw [UInt8.toNat_ofNat']; omega
theorem dec_small {u : Nat} (h : u < 10) : Lib.decDigits u = [UInt8.ofNat (48 + u)] := by rw [Lib.decDigits, dif_pos h]
theorem dec_big {u : Nat} (h : ¬ u < 10) : Lib.decDigits u = Lib.decDigits (u / 10) ++ [UInt8.ofNat (48 + u % 10)] := by rw [Lib.decDigits, dif_neg h]
theorem dec_val : ∀ (u : Nat), dval 0 (Lib.decDigits u) = u := by
  intro u
  induction u using Nat.strongRecOn with
  | _ u ih =>
    by_cases h : u < 10
    · rw [dec_small h, dval_cons, dval_nil, digit_nat u h]; omega
    · rw [dec_big h, dval_snoc, ih (u / 10) (by omega), digit_nat _ (by omega)]; omega
theorem dec_all : ∀ (u : Nat), (Lib.decDigits u).all isD = true := by
  intro u
  induction u using Nat.strongRecOn with
  | _ u ih =>
    by_cases h : u < 10
    · rw [dec_small h]
      simp only [List.all_cons, List.all_nil, Bool.and_true]
      rw [isD_iff, digit_nat u h]; omega
    · rw [dec_big h, List.all_append, ih (u / 10) (by omega)]
      simp only [List.all_cons, List.all_nil, Bool.and_true, Bool.true_and]
      rw [isD_iff, digit_nat _ (by omega)]; omega
/-- the first digit is 0 only of 0 -/
theorem dec_head : ∀ (u : Nat), ∃ d t, Lib.decDigits u = d :: t ∧ (1 ≤ u → d.toNat ≠ 48) := by
  intro u
  induction u using Nat.strongRecOn with
  | _ u ih =>
    by_cases h : u < 10
    · exact ⟨_, _, dec_small h, fun h1 => by rw [digit_nat u h]; omega⟩
    · obtain ⟨d, t, e, hd⟩ := ih (u / 10) (by omega)
      exact ⟨d, t ++ [UInt8.ofNat (48 + u % 10)], by rw [dec_big h, e]; rfl, fun _ => hd (by omega)⟩

/-- a number is read from its text as it was -/
theorem show_parse (n : Int) (h : rightB n = true) : parseE (showL n) = 0 ∧ parseV (showL n) = n := by
  have ⟨h1, h2⟩ := (right_iff n).1 h
  have hs : showL n = Lib.itoa n := by unfold showL; rw [if_pos h]
  rw [hs]
  by_cases hn : n < 0
  · rw [itoa_ng n hn]
    have hl := digits_len (-n) (by omega) (by omega)
    obtain ⟨d, t, e, hd⟩ := dec_head (-n).toNat
    have hb : bodyL (45 :: Lib.decDigits (-n).toNat) = Lib.decDigits (-n).toNat := by simp [bodyL]
    have hng : negB (45 :: Lib.decDigits (-n).toNat) = true := by simp [negB]
    have hv : valZ (45 :: Lib.decDigits (-n).toNat) = n := by
      unfold valZ; rw [hng, hb, dec_val]; simp; omega
    have hf : formB (45 :: Lib.decDigits (-n).toNat) = true := by
      rw [form_all (d := d) (t := t) (by rw [hb, e]) (.inl (hd (by omega))), ← e]; exact dec_all _
    have hp := parse_ok (l := 45 :: Lib.decDigits (-n).toNat) (by rw [List.length_cons]; omega) hf (by rw [hv]; exact h)
    exact ⟨hp.1, by rw [hp.2, hv]⟩
  · rw [itoa_nn n (by omega)]
    have hl := digits_len n (by omega) (by omega)
    obtain ⟨d, t, e, hd⟩ := dec_head n.toNat
    have hda := dec_all n.toNat
    have h45 : ¬ d.toNat = 45 := by
      rw [e] at hda
      simp only [List.all_cons, Bool.and_eq_true, isD_iff] at hda
      omega
    have hb : bodyL (Lib.decDigits n.toNat) = Lib.decDigits n.toNat := by rw [e]; simp [bodyL, h45]
    have hng : negB (Lib.decDigits n.toNat) = false := by rw [e]; simp [negB, h45]
    have hv : valZ (Lib.decDigits n.toNat) = n := by
      unfold valZ; rw [hng, hb, dec_val]; simp; omega
    have hf : formB (Lib.decDigits n.toNat) = true := by
      rw [form_all (d := d) (t := t) (by rw [hb, e]) (by
        by_cases hz : n = 0
        · right; rw [hz]; show Lib.decDigits 0 = [48]; rw [dec_small (by decide)]; rfl
        · left; exact hd (by omega)), ← e]; exact hda
    have hp := parse_ok (l := Lib.decDigits n.toNat) (by omega) hf (by rw [hv]; exact h)
    exact ⟨hp.1, by rw [hp.2, hv]⟩

/-- digits, of which the first is no 0, show as they were -/
theorem digits_back : ∀ (k : Nat) (l : List UInt8), l.length = k → l.all isD = true → (∃ d t, l = d :: t ∧ (d.toNat ≠ 48 ∨ t = [])) → Lib.decDigits (dval 0 l) = l := by
  intro k
  induction k with
  | zero => intro l hl _ hne; obtain ⟨d, t, rfl, _⟩ := hne; simp at hl
  | succ k ih =>
    intro l hl ha hne
    obtain ⟨d, t, rfl, hd⟩ := hne
    rcases List.eq_nil_or_concat t with rfl | ⟨m, c, rfl⟩
    · simp only [List.all_cons, List.all_nil, Bool.and_true, isD_iff] at ha
      rw [dval_cons, dval_nil, dec_small (by omega)]
      have e : 48 + (0 * 10 + (d.toNat - 48)) = d.toNat := by omega
      rw [e, UInt8.ofNat_toNat]
    · have e : d :: (m ++ [c]) = (d :: m) ++ [c] := rfl
      have hd' : d.toNat ≠ 48 := by
        rcases hd with hd | hd
        · exact hd
        · simp at hd
      simp only [List.concat_eq_append] at *
      rw [e] at ha hl ⊢
      rw [List.all_append, Bool.and_eq_true] at ha
      have hc : 48 ≤ c.toNat ∧ c.toNat ≤ 57 := by
        have := ha.2
        simp only [List.all_cons, List.all_nil, Bool.and_true, isD_iff] at this
        exact this
      have hih := ih (d :: m) (by simpa using hl) ha.1 ⟨d, m, rfl, .inl hd'⟩
      have hpos : 1 ≤ dval 0 (d :: m) := by
        have h1 := dval_acc m (0 * 10 + (d.toNat - 48))
        have h2 : 48 ≤ d.toNat := by
          have := ha.1
          simp only [List.all_cons, Bool.and_eq_true, isD_iff] at this
          exact this.1.1
        rw [dval_cons]; omega
      rw [dval_snoc, dec_big (by omega)]
      have e1 : (dval 0 (d :: m) * 10 + (c.toNat - 48)) / 10 = dval 0 (d :: m) := by omega
      have e2 : 48 + (dval 0 (d :: m) * 10 + (c.toNat - 48)) % 10 = c.toNat := by omega
      rw [e1, e2, hih, UInt8.ofNat_toNat]

/-- a text that is read shows as it was -/
theorem parse_show (l : List UInt8) (h : parseE l = 0) : showL (parseV l) = l := by
  have hlen : ¬ 20 < l.length := by intro h2; rw [(parse_long h2).1] at h; cases h
  have hf : formB l = true := by
    cases hf : formB l
    · rw [(parse_none hlen hf).1] at h; cases h
    · rfl
  have hr : rightB (valZ l) = true := by
    cases hr : rightB (valZ l)
    · rw [(parse_over hlen hf hr).1] at h; cases h
    · rfl
  rw [(parse_ok hlen hf hr).2]
  unfold showL
  rw [if_pos hr]
  cases hb : bodyL l with
  | nil => rw [form_nil hb] at hf; cases hf
  | cons d t =>
    by_cases h0 : d.toNat = 48 ∧ ¬ l = [48]
    · rw [form_zero hb h0.1 h0.2] at hf; cases hf
    · have hor : ¬ d.toNat = 48 ∨ l = [48] := by
        by_cases h1 : d.toNat = 48
        · right; exact Classical.byContradiction fun h2 => h0 ⟨h1, h2⟩
        · left; exact h1
      have hall : (d :: t).all isD = true := by rw [← form_all hb hor]; exact hf
      have hback : Lib.decDigits (dval 0 (d :: t)) = d :: t := digits_back _ (d :: t) rfl hall ⟨d, t, rfl, by
        rcases hor with h1 | h1
        · exact .inl h1
        · right
          rw [h1] at hb
          simp [bodyL] at hb
          exact hb.2⟩
      cases l with
      | nil => simp [bodyL] at hb
      | cons c r =>
        by_cases hc : c.toNat = 45
        · have e1 : bodyL (c :: r) = r := by simp [bodyL, hc]
          have e2 : negB (c :: r) = true := by simp [negB, hc]
          have hr2 : r = d :: t := by rw [← hb, e1]
          have hd48 : ¬ d.toNat = 48 := by
            rcases hor with h1 | h1
            · exact h1
            · rw [hr2] at h1; simp at h1
          have hd48' : 48 ≤ d.toNat := by
            simp only [List.all_cons, Bool.and_eq_true, isD_iff] at hall
            exact hall.1.1
          have hpos : 1 ≤ dval 0 (d :: t) := by
            have h1 := dval_acc t (0 * 10 + (d.toNat - 48))
            rw [dval_cons]; omega
          have hv : valZ (c :: r) = -(dval 0 (d :: t) : Int) := by unfold valZ; rw [e2, e1, hr2]; rfl
          rw [hv, itoa_ng _ (by omega)]
          have e3 : (- -(dval 0 (d :: t) : Int)).toNat = dval 0 (d :: t) := by omega
          rw [e3, hback, hr2, show c = 45 from UInt8.toNat_inj.1 hc]
        · have e1 : bodyL (c :: r) = c :: r := by simp [bodyL, hc]
          have e2 : negB (c :: r) = false := by simp [negB, hc]
          have hv : valZ (c :: r) = (dval 0 (d :: t) : Int) := by unfold valZ; rw [e2, hb]; rfl
          rw [hv, itoa_nn _ (by omega)]
          have e3 : ((dval 0 (d :: t) : Int)).toNat = dval 0 (d :: t) := by omega
          rw [e3, hback, ← hb, e1]

/-- the sum of two halves -/
theorem sum_halves (l : List Int) (k : Nat) (h1 : sumO (l.take k) = true) (h2 : sumO (l.drop k) = true) :
    sumV l = addV (sumV (l.take k)) (sumV (l.drop k)) ∧ sumO l = addO (sumV (l.take k)) (sumV (l.drop k)) := by
  have e : l.sum = (l.take k).sum + (l.drop k).sum := by rw [← List.sum_append, List.take_append_drop]
  have ea : l.all rightB = ((l.take k).all rightB && (l.drop k).all rightB) := by rw [← List.all_append, List.take_append_drop]
  rw [sumV_of h1, sumV_of h2]
  unfold sumO at h1 h2
  rw [Bool.and_eq_true] at h1 h2
  have hO : sumO l = addO (l.take k).sum (l.drop k).sum := by
    unfold sumO addO
    rw [ea, h1.1, h2.1, h1.2, h2.2, e]
  refine ⟨?_, hO⟩
  unfold sumV addV
  rw [hO, e]

end Num
end Go.Proofs.Ytdiegglnfbmpdaa
