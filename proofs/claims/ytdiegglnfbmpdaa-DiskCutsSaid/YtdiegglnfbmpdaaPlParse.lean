/-
  PLAIN: what num.Parse comes to, as Lean functions on bytes. No program in sight.
-/
import Derived.Test.YtdiegglnfbmpdaaPlNum
import Derived.Lib.ParseIntB
namespace Go.Proofs.Ytdiegglnfbmpdaa
namespace Num

/-- a digit's byte -/
def isD (c : UInt8) : Bool := decide (48 ≤ c.toNat) && decide (c.toNat ≤ 57)
theorem isD_iff (c : UInt8) : isD c = true ↔ 48 ≤ c.toNat ∧ c.toNat ≤ 57 := by unfold isD; simp
/-- the value of digits behind acc -/
def dval (acc : Nat) (l : List UInt8) : Nat := l.foldl (fun a c => a * 10 + (c.toNat - 48)) acc
theorem dval_nil (acc : Nat) : dval acc [] = acc := by unfold dval; rw [List.foldl_nil]
theorem dval_cons (acc : Nat) (c : UInt8) (r : List UInt8) : dval acc (c :: r) = dval (acc * 10 + (c.toNat - 48)) r := by unfold dval; rw [List.foldl_cons]
/-- what stands behind a sign -/
def bodyL (l : List UInt8) : List UInt8 := match l with
  | [] => []
  | c :: r => if c.toNat = 45 then r else c :: r
def negB (l : List UInt8) : Bool := match l with
  | [] => false
  | c :: _ => decide (c.toNat = 45)
/-- has it the form of a number's text? -/
def formB (l : List UInt8) : Bool := match bodyL l with
  | [] => false
  | d :: r => (!decide (d.toNat = 48) || decide (l.length = 1)) && (d :: r).all isD
/-- its value -/
def valZ (l : List UInt8) : Int := if negB l = true then -(dval 0 (bodyL l) : Int) else (dval 0 (bodyL l) : Int)
def parseE (l : List UInt8) : Int := if 20 < l.length then 4 else if formB l = true then (if rightB (valZ l) = true then 0 else 9) else 3
def parseV (l : List UInt8) : Int := if parseE l = 0 then valZ l else 0

theorem dval_acc : ∀ (l : List UInt8) (acc : Nat), acc ≤ dval acc l
  | [], acc => by rw [dval_nil]; exact Nat.le_refl _
  | c :: r, acc => by
    have h := dval_acc r (acc * 10 + (c.toNat - 48))
    rw [dval_cons]
    omega
theorem parseUintM_digits : ∀ (l : List UInt8) (acc : Nat), l.all isD = true → acc ≤ 18446744073709551615 →
    Lib.parseUintM 18446744073709551615 acc l = if dval acc l ≤ 18446744073709551615 then .ok (dval acc l) else .range
  | [], acc, _, h => by simp [Lib.parseUintM, dval_nil, h]
  | c :: r, acc, ha, h => by
    simp only [List.all_cons, Bool.and_eq_true] at ha
    have hd := (isD_iff c).1 ha.1
    have hm := dval_acc r (acc * 10 + (c.toNat - 48))
    rw [Lib.parseUintM, if_pos hd, dval_cons]
    by_cases h1 : 1844674407370955162 ≤ acc
    · rw [if_pos h1, if_neg (by omega)]
    · rw [if_neg h1]
      by_cases h2 : 18446744073709551615 < acc * 10 + (c.toNat - 48)
      · rw [if_pos h2, if_neg (by omega)]
      · rw [if_neg h2, parseUintM_digits r _ ha.2 (by omega)]

/-- of a text of the form the library reads its value, or says that it is out of range, which then is no number -/
theorem parseInt_formed (l : List UInt8) (h : formB l = true) :
    Lib.parseIntB 64 l = .ok (valZ l) ∨ (Lib.parseIntB 64 l = .range ∧ rightB (valZ l) = false) := by
  cases l with
  | nil => simp [formB, bodyL] at h
  | cons c r =>
    have e63 : (2 : Nat) ^ (64 - 1) = 9223372036854775808 := by decide
    have e64 : (2 : Nat) ^ 64 - 1 = 18446744073709551615 := by decide
    by_cases hc : c.toNat = 45
    · have hb : bodyL (c :: r) = r := by simp [bodyL, hc]
      have hn : negB (c :: r) = true := by simp [negB, hc]
      cases r with
      | nil => simp [formB, hb] at h
      | cons d t =>
        have hall : (d :: t).all isD = true := by
          simp only [formB, hb, Bool.and_eq_true] at h
          exact h.2
        have hp : Lib.parseUintB 64 (d :: t) = if dval 0 (d :: t) ≤ 18446744073709551615 then .ok (dval 0 (d :: t)) else .range := by
          unfold Lib.parseUintB
          rw [if_neg (by simp), e64, parseUintM_digits _ _ hall (by omega)]
        have hv : valZ (c :: d :: t) = -(dval 0 (d :: t) : Int) := by simp [valZ, hn, hb]
        rw [hv]
        simp only [Lib.parseIntB, hc, or_true, if_true, hp, e63]
        by_cases h1 : dval 0 (d :: t) ≤ 18446744073709551615
        · rw [if_pos h1]
          by_cases h2 : 9223372036854775808 < dval 0 (d :: t)
          · right
            simp [h2, right_no]
            omega
          · left
            simp [h2]
        · rw [if_neg h1]
          right
          exact ⟨rfl, by rw [right_no]; omega⟩
    · have hb : bodyL (c :: r) = c :: r := by simp [bodyL, hc]
      have hn : negB (c :: r) = false := by simp [negB, hc]
      have hall : (c :: r).all isD = true := by
        simp only [formB, hb, Bool.and_eq_true] at h
        exact h.2
      have hcd : 48 ≤ c.toNat := by
        simp only [List.all_cons, Bool.and_eq_true] at hall
        exact ((isD_iff c).1 hall.1).1
      have hp : Lib.parseUintB 64 (c :: r) = if dval 0 (c :: r) ≤ 18446744073709551615 then .ok (dval 0 (c :: r)) else .range := by
        unfold Lib.parseUintB
        rw [if_neg (by simp), e64, parseUintM_digits _ _ hall (by omega)]
      have hv : valZ (c :: r) = (dval 0 (c :: r) : Int) := by simp [valZ, hn, hb]
      rw [hv]
      have h43 : ¬ c.toNat = 43 := by omega
      simp only [Lib.parseIntB, h43, hc, or_self, if_false, hp, e63]
      by_cases h1 : dval 0 (c :: r) ≤ 18446744073709551615
      · rw [if_pos h1]
        by_cases h2 : 9223372036854775808 ≤ dval 0 (c :: r)
        · right
          simp [h2, right_no]
          omega
        · left
          simp [h2]
      · rw [if_neg h1]
        right
        exact ⟨rfl, by rw [right_no]; omega⟩

theorem form_nil {l : List UInt8} (h : bodyL l = []) : formB l = false := by unfold formB; rw [h]
theorem form_zero {l : List UInt8} {d : UInt8} {t : List UInt8} (h : bodyL l = d :: t) (h0 : d.toNat = 48) (hl : ¬ l = [48]) : formB l = false := by
  unfold formB
  rw [h]
  have : ¬ l.length = 1 := by
    intro h1
    match l, h1 with
    | [c], _ =>
      unfold bodyL at h
      by_cases hc : c.toNat = 45
      · simp [hc] at h
      · simp [hc] at h
        obtain ⟨rfl, _⟩ := h
        exact hl (by rw [show c = 48 from UInt8.toNat_inj.1 h0])
  simp [h0, this]
theorem form_all {l : List UInt8} {d : UInt8} {t : List UInt8} (h : bodyL l = d :: t) (h0 : ¬ d.toNat = 48 ∨ l = [48]) : formB l = (d :: t).all isD := by
  unfold formB
  rw [h]
  rcases h0 with h0 | h0
  · simp [h0]
  · simp [h0]
theorem form_bad {l : List UInt8} {k : Nat} (hk : k < (bodyL l).length) (h : isD ((bodyL l)[k]) = false) : formB l = false := by
  have hall : (bodyL l).all isD = false := by
    rw [List.all_eq_false]
    exact ⟨_, List.getElem_mem hk, by simp [h]⟩
  unfold formB
  cases hb : bodyL l with
  | nil => rfl
  | cons d t => rw [hb] at hall; simp [hall]
theorem take_isD {l : List UInt8} {k : Nat} (hk : k < l.length) (ha : (l.take k).all isD = true) (h : isD l[k] = true) : (l.take (k + 1)).all isD = true := by
  rw [List.take_succ_eq_append_getElem hk, List.all_append, ha]
  simp [h]

/-- the reference's loop, behind m digits -/
def RP (dl : List UInt8) (m : Nat) (n : Int) (over : Bool) : Prop :=
  (dl.take m).all isD = true ∧ ((over = false ∧ n = (dval 0 (dl.take m) : Int) ∧ dval 0 (dl.take m) ≤ 4611686018427387909) ∨ (over = true ∧ 4611686018427387904 < dval 0 (dl.take m) ∧ 0 ≤ n ∧ n ≤ 4611686018427387909))
theorem RP.zero (dl : List UInt8) : RP dl 0 0 false := by refine ⟨by simp, .inl ⟨rfl, ?_, ?_⟩⟩ <;> simp [dval]
theorem dval_snoc (l : List UInt8) (c : UInt8) (acc : Nat) : dval acc (l ++ [c]) = dval acc l * 10 + (c.toNat - 48) := by
  unfold dval; rw [List.foldl_append]; rw [List.foldl_cons, List.foldl_nil]
theorem dval_take (dl : List UInt8) (m : Nat) (h : m < dl.length) : dval 0 (dl.take (m + 1)) = dval 0 (dl.take m) * 10 + (dl[m].toNat - 48) := by
  rw [List.take_succ_eq_append_getElem h, dval_snoc]
theorem RP.bound {dl : List UInt8} {m : Nat} {n : Int} {o : Bool} (h : RP dl m n o) : 0 ≤ n ∧ n ≤ 4611686018427387909 := by
  rcases h.2 with ⟨_, e, b⟩ | ⟨_, _, b⟩ <;> omega
theorem RP.step {dl : List UInt8} {m : Nat} {n : Int} (h : RP dl m n false) (hm : m < dl.length) (hd : 48 ≤ dl[m].toNat ∧ dl[m].toNat ≤ 57) (hn : n ≤ 461168601842738790) (n' : Int) (e : n' = n * 10 + ((dl[m].toNat : Int) - 48)) : RP dl (m + 1) n' false := by
  have h2 := dval_take dl m hm
  obtain ⟨ha, h1⟩ := h
  refine ⟨take_isD hm ha (by rw [isD_iff]; exact hd), .inl ⟨rfl, ?_⟩⟩
  rcases h1 with ⟨_, e1, b1⟩ | ⟨h0, _⟩
  · rw [h2]; omega
  · cases h0
theorem RP.over {dl : List UInt8} {m : Nat} {n : Int} {o : Bool} (h : RP dl m n o) (hm : m < dl.length) (hd : 48 ≤ dl[m].toNat ∧ dl[m].toNat ≤ 57) (hn : o = true ∨ 461168601842738790 < n) : RP dl (m + 1) n true := by
  have h2 := dval_take dl m hm
  have hb := h.bound
  obtain ⟨ha, h1⟩ := h
  refine ⟨take_isD hm ha (by rw [isD_iff]; exact hd), .inr ⟨rfl, ?_, hb⟩⟩
  rw [h2]
  rcases h1 with ⟨h0, e1, b1⟩ | ⟨h0, h3, _⟩
  · rcases hn with hn | hn
    · rw [h0] at hn; cases hn
    · omega
  · omega
theorem RP.fine {dl : List UInt8} {n : Int} {o : Bool} (h : RP dl dl.length n o) (hn : o = false ∧ n ≤ 4611686018427387904) : n = (dval 0 dl : Int) ∧ dval 0 dl ≤ 4611686018427387904 := by
  obtain ⟨ha, h1⟩ := h
  rw [List.take_length] at h1
  rcases h1 with ⟨h0, e1, b1⟩ | ⟨h0, _⟩
  · omega
  · rw [h0] at hn; cases hn.1
theorem RP.beyond {dl : List UInt8} {n : Int} {o : Bool} (h : RP dl dl.length n o) (hn : o = true ∨ 4611686018427387904 < n) : 4611686018427387904 < dval 0 dl := by
  obtain ⟨ha, h1⟩ := h
  rw [List.take_length] at h1
  rcases h1 with ⟨h0, e1, b1⟩ | ⟨h0, h2, _⟩
  · rcases hn with hn | hn
    · rw [h0] at hn; cases hn
    · omega
  · exact h2
theorem RP.all {dl : List UInt8} {n : Int} {o : Bool} (h : RP dl dl.length n o) : dl.all isD = true := by
  have := h.1; rwa [List.take_length] at this

theorem parse_long {l : List UInt8} (h : 20 < l.length) : parseE l = 4 ∧ parseV l = 0 := by
  have e : parseE l = 4 := by unfold parseE; rw [if_pos h]
  exact ⟨e, by unfold parseV; rw [e]; rfl⟩
theorem parse_none {l : List UInt8} (h : ¬ 20 < l.length) (hf : formB l = false) : parseE l = 3 ∧ parseV l = 0 := by
  have e : parseE l = 3 := by unfold parseE; rw [if_neg h, hf]; rfl
  exact ⟨e, by unfold parseV; rw [e]; rfl⟩
theorem parse_over {l : List UInt8} (h : ¬ 20 < l.length) (hf : formB l = true) (hr : rightB (valZ l) = false) : parseE l = 9 ∧ parseV l = 0 := by
  have e : parseE l = 9 := by unfold parseE; rw [if_neg h, hf, hr]; rfl
  exact ⟨e, by unfold parseV; rw [e]; rfl⟩
theorem parse_ok {l : List UInt8} (h : ¬ 20 < l.length) (hf : formB l = true) (hr : rightB (valZ l) = true) : parseE l = 0 ∧ parseV l = valZ l := by
  have e : parseE l = 0 := by unfold parseE; rw [if_neg h, hf, hr]; rfl
  exact ⟨e, by unfold parseV; rw [e]; rfl⟩

end Num
end Go.Proofs.Ytdiegglnfbmpdaa
