/-
  PLAIN: what layer 2 (field) comes to, as Lean functions on bytes and lists. No program in sight.
-/
import Derived.Test.YtdiegglnfbmpdaaPlBack
namespace Go.Proofs.Ytdiegglnfbmpdaa
namespace Fld
open Num

/-- a field: its tag, and its value -/
structure F where
  tag : Int
  val : ByteArray

/-- may it be? -/
def rightF (f : F) : Bool := decide (0 < f.tag) && decide (f.tag < 10000) && decide (0 < f.val.size) && decide (f.val.size ≤ 256) && f.val.data.toList.all fun c => c != 1
theorem right_iff (f : F) : rightF f = true ↔ 0 < f.tag ∧ f.tag < 10000 ∧ 0 < f.val.size ∧ f.val.size ≤ 256 ∧ ∀ c ∈ f.val.data.toList, c ≠ 1 := by
  unfold rightF
  simp only [Bool.and_eq_true, decide_eq_true_eq, List.all_eq_true, bne_iff_ne]
  constructor
  · rintro ⟨⟨⟨⟨a, b⟩, c⟩, d⟩, e⟩; exact ⟨a, b, c, d, e⟩
  · rintro ⟨a, b, c, d, e⟩; exact ⟨⟨⟨⟨a, b⟩, c⟩, d⟩, e⟩

/-- a field's bytes, and all of a list's -/
def bytesF (f : F) : List UInt8 := showL f.tag ++ 61 :: (f.val.data.toList ++ [1])
def bytesL (l : List F) : List UInt8 := l.flatMap bytesF
def putE (l : List F) : Int := if 100 < l.length then 4 else if l.all rightF = true then 0 else 1
def putB (l : List F) : List UInt8 := if putE l = 0 then bytesL l else []

/-- how many digits stand ahead, four at most -/
def tagLen (s : List UInt8) : Nat := ((s.take 4).takeWhile isD).length
/-- the field of which s and a byte 1 are the bytes -/
def mkF (s : List UInt8) (i : Nat) : F := ⟨(dval 0 (s.take i) : Int), ⟨(s.drop (i + 1)).toArray⟩⟩
def readOk (s : List UInt8) : Bool := decide (tagLen s ≠ 0) && decide (s.head? ≠ some 48) && decide (s[tagLen s]? = some 61) && rightF (mkF s (tagLen s))
def seg (b : List UInt8) : List UInt8 := b.takeWhile fun c => c != 1

theorem seg_le (b : List UInt8) : (seg b).length ≤ b.length := by
  unfold seg
  exact (List.takeWhile_prefix _).length_le

def parseG (acc : List F) (b : List UInt8) : List F × Int :=
  if b = [] then (acc, 0)
  else if (seg b).length = b.length then ([], 2)
  else if readOk (seg b) = true then (if acc.length = 100 then ([], 4) else parseG (acc ++ [mkF (seg b) (tagLen (seg b))]) (b.drop ((seg b).length + 1)))
  else ([], 3)
termination_by b.length
decreasing_by
  rename_i h _ _ _
  have : b.length ≠ 0 := fun e => h (List.length_eq_zero_iff.1 e)
  rw [List.length_drop]; omega
def parseL (b : List UInt8) : List F × Int := if 65536 < b.length then ([], 4) else parseG [] b

theorem parseG_nil (acc : List F) : parseG acc [] = (acc, 0) := by rw [parseG]; simp
theorem parseG_short {acc : List F} {b : List UInt8} (h : b ≠ []) (hs : (seg b).length = b.length) : parseG acc b = ([], 2) := by rw [parseG, if_neg h, if_pos hs]
theorem parseG_form {acc : List F} {b : List UInt8} (h : b ≠ []) (hs : (seg b).length ≠ b.length) (hr : readOk (seg b) = false) : parseG acc b = ([], 3) := by
  rw [parseG, if_neg h, if_neg hs, if_neg (by rw [hr]; simp)]
theorem parseG_long {acc : List F} {b : List UInt8} (h : b ≠ []) (hs : (seg b).length ≠ b.length) (hr : readOk (seg b) = true) (ha : acc.length = 100) : parseG acc b = ([], 4) := by
  rw [parseG, if_neg h, if_neg hs, if_pos hr, if_pos ha]
theorem parseG_step {acc : List F} {b : List UInt8} (h : b ≠ []) (hs : (seg b).length ≠ b.length) (hr : readOk (seg b) = true) (ha : acc.length ≠ 100) :
    parseG acc b = parseG (acc ++ [mkF (seg b) (tagLen (seg b))]) (b.drop ((seg b).length + 1)) := by
  rw [parseG, if_neg h, if_neg hs, if_pos hr, if_neg ha]

/-! ### what is put is read as it was -/
theorem isD_ne_one {c : UInt8} (h : isD c = true) : c ≠ 1 := by
  rintro rfl; simp [isD] at h
theorem isD_ne_eq {c : UInt8} (h : isD c = true) : c ≠ 61 := by
  rintro rfl; simp [isD] at h
theorem tag_show {t : Int} (h0 : 0 < t) (h1 : t < 10000) : showL t = Lib.decDigits t.toNat ∧ (showL t).all isD = true ∧ (showL t).length ≤ 4 ∧ dval 0 (showL t) = t.toNat ∧ (∃ d r, showL t = d :: r ∧ d.toNat ≠ 48) := by
  have hs : showL t = Lib.decDigits t.toNat := by
    unfold showL
    rw [if_pos ((Num.right_iff t).2 (by omega)), itoa_nn t (by omega)]
  rw [hs]
  refine ⟨rfl, dec_all _, ?_, dec_val _, ?_⟩
  · rw [Lib.decDigits_length]
    exact nDigits_le 3 t.toNat (by have : (10 : Nat) ^ (3 + 1) = 10000 := by decide
                                   omega)
  · obtain ⟨d, r, e, hd⟩ := dec_head t.toNat
    exact ⟨d, r, e, hd (by omega)⟩
theorem takeWhile_all {α : Type} {p : α → Bool} : ∀ {l : List α} (r : List α), (∀ x ∈ l, p x = true) → (l ++ r).takeWhile p = l ++ r.takeWhile p
  | [], r, _ => rfl
  | x :: l, r, h => by
    rw [List.cons_append, List.takeWhile_cons, if_pos (h x (by simp)), takeWhile_all r (fun y hy => h y (by simp [hy])), List.cons_append]
/-- the bytes of a field ahead of its byte 1 -/
def front (f : F) : List UInt8 := showL f.tag ++ 61 :: f.val.data.toList
theorem bytesF_eq (f : F) : bytesF f = front f ++ [1] := by unfold bytesF front; simp
theorem front_ne {f : F} (h : rightF f = true) : ∀ c ∈ front f, (c != 1) = true := by
  have ⟨a, b, _, _, e⟩ := (right_iff f).1 h
  have ⟨_, h2, _⟩ := tag_show a b
  intro c hc
  rw [bne_iff_ne]
  unfold front at hc
  rw [List.mem_append, List.mem_cons] at hc
  rcases hc with hc | rfl | hc
  · exact isD_ne_one (List.all_eq_true.1 h2 c hc)
  · decide
  · exact e c hc
theorem seg_front {f : F} (h : rightF f = true) (rest : List UInt8) : seg (bytesF f ++ rest) = front f := by
  unfold seg
  rw [bytesF_eq, List.append_assoc, takeWhile_all _ (front_ne h)]
  simp
theorem tagLen_front {f : F} (h : rightF f = true) : tagLen (front f) = (showL f.tag).length := by
  have ⟨a, b, _, _, e⟩ := (right_iff f).1 h
  have ⟨_, h2, h3, _, _⟩ := tag_show a b
  unfold tagLen front
  have e4 : (showL f.tag ++ 61 :: f.val.data.toList).take 4 = showL f.tag ++ (61 :: f.val.data.toList).take (4 - (showL f.tag).length) := by
    rw [List.take_append, List.take_of_length_le h3]
  rw [e4, takeWhile_all _ (fun x hx => List.all_eq_true.1 h2 x hx)]
  cases hk : 4 - (showL f.tag).length with
  | zero => simp
  | succ k => simp [isD]
theorem read_front {f : F} (h : rightF f = true) : readOk (front f) = true ∧ mkF (front f) (tagLen (front f)) = f := by
  have ⟨a, b, _, _, e⟩ := (right_iff f).1 h
  have ⟨_, h2, h3, h4, d, r, h5, h6⟩ := tag_show a b
  have hm : mkF (front f) (tagLen (front f)) = f := by
    rw [tagLen_front h]
    unfold mkF front
    rw [List.take_left, h4, List.drop_append]
    cases f with
    | mk t v => 
      simp only [Nat.add_sub_cancel_left]
      have : (showL t).drop ((showL t).length + 1) = [] := List.drop_eq_nil_of_le (by omega)
      rw [this]
      have a' : 0 < t := a
      simp
      omega
  refine ⟨?_, hm⟩
  unfold readOk
  rw [hm, h, tagLen_front h]
  have e1 : (front f).head? = some d := by unfold front; rw [h5]; rfl
  have e2 : (front f)[(showL f.tag).length]? = some 61 := by unfold front; simp
  rw [e1, e2]
  have e3 : (showL f.tag).length ≠ 0 := by rw [h5]; simp
  simp only [ne_eq, e3, not_false_eq_true, decide_true, Bool.and_true, Bool.true_and, Option.some.injEq, decide_eq_true_eq]
  rintro rfl
  exact h6 rfl

theorem parse_put {acc : List F} {f : F} (h : rightF f = true) (rest : List UInt8) (ha : acc.length ≠ 100) : parseG acc (bytesF f ++ rest) = parseG (acc ++ [f]) rest := by
  have hs := seg_front h rest
  have hl : (bytesF f ++ rest).length = (front f).length + 1 + rest.length := by rw [bytesF_eq]; simp; omega
  have ⟨r1, r2⟩ := read_front h
  rw [parseG_step (by intro e; rw [e] at hl; rw [List.length_nil] at hl; omega) (by rw [hs, hl]; omega) (by rw [hs]; exact r1) ha, hs, r2]
  congr 1
  rw [bytesF_eq, List.append_assoc, List.drop_append]
  have : (front f).drop ((front f).length + 1) = [] := List.drop_eq_nil_of_le (by omega)
  rw [this]
  simp
theorem parse_all : ∀ (l acc : List F) (rest : List UInt8), l.all rightF = true → acc.length + l.length ≤ 100 → parseG acc (bytesL l ++ rest) = parseG (acc ++ l) rest
  | [], acc, rest, _, _ => by simp [bytesL]
  | f :: l, acc, rest, h, hn => by
    rw [List.all_cons, Bool.and_eq_true] at h
    simp only [List.length_cons] at hn
    have e : bytesL (f :: l) ++ rest = bytesF f ++ (bytesL l ++ rest) := by unfold bytesL; simp
    rw [e, parse_put h.1 _ (by omega), parse_all l (acc ++ [f]) rest h.2 (by simp; omega)]
    simp
theorem len_bytesF {f : F} (h : rightF f = true) : (bytesF f).length ≤ 262 := by
  have ⟨a, b, c, d, _⟩ := (right_iff f).1 h
  have ⟨_, _, h3, _, _⟩ := tag_show a b
  have hv : f.val.data.toList.length = f.val.size := rfl
  unfold bytesF
  simp only [List.length_append, List.length_cons, List.length_nil]
  omega
theorem len_bytesL : ∀ {l : List F}, l.all rightF = true → (bytesL l).length ≤ 262 * l.length
  | [], _ => by simp [bytesL]
  | f :: l, h => by
    rw [List.all_cons, Bool.and_eq_true] at h
    have h1 := len_bytesF h.1
    have h2 := len_bytesL h.2
    have e : bytesL (f :: l) = bytesF f ++ bytesL l := by unfold bytesL; simp
    rw [e, List.length_append, List.length_cons]
    omega
theorem putE_ok {l : List F} (h : putE l = 0) : l.length ≤ 100 ∧ l.all rightF = true := by
  unfold putE at h
  by_cases h1 : 100 < l.length
  · rw [if_pos h1] at h; cases h
  · rw [if_neg h1] at h
    by_cases h2 : l.all rightF = true
    · exact ⟨by omega, h2⟩
    · rw [if_neg h2] at h; cases h
theorem back_two {a b : List F} (ha : putE a = 0) (hb : putE b = 0) (h : a.length + b.length ≤ 100) : parseL (putB a ++ putB b) = (a ++ b, 0) := by
  have ⟨_, a2⟩ := putE_ok ha
  have ⟨_, b2⟩ := putE_ok hb
  have l1 := len_bytesL a2
  have l2 := len_bytesL b2
  unfold putB
  rw [if_pos ha, if_pos hb]
  unfold parseL
  rw [if_neg (by rw [List.length_append]; omega), parse_all a [] _ a2 (by simp; omega)]
  have e : bytesL b = bytesL b ++ [] := by simp
  rw [e, parse_all b _ [] b2 (by simp; omega), parseG_nil]
  simp

/-! ### what is read was put in just these bytes -/
theorem seg_split {b : List UInt8} (h : (seg b).length ≠ b.length) : b = seg b ++ 1 :: b.drop ((seg b).length + 1) := by
  have h1 : seg b ++ b.dropWhile (fun c => c != 1) = b := List.takeWhile_append_dropWhile
  cases hd : b.dropWhile (fun c => c != 1) with
  | nil => rw [hd, List.append_nil] at h1; rw [h1] at h; exact absurd rfl h
  | cons c r =>
    have hc : c = 1 := by
      have := List.head_dropWhile_not (fun c : UInt8 => c != 1) (l := b) (by rw [hd]; simp)
      simp only [hd, List.head_cons] at this
      simpa using this
    rw [hd, hc] at h1
    have e : b.drop ((seg b).length + 1) = r := by
      have : (seg b ++ 1 :: r).drop ((seg b).length + 1) = r := by
        rw [List.drop_append, List.drop_eq_nil_of_le (by omega)]
        simp
      rw [← h1] at *
      simpa [h1] using this
    rw [e, h1]
theorem tagLen_le (s : List UInt8) : tagLen s ≤ s.length ∧ tagLen s ≤ 4 := by
  have h1 := (List.takeWhile_prefix isD (l := s.take 4)).length_le
  rw [List.length_take] at h1
  unfold tagLen
  omega
theorem tagLen_digits (s : List UInt8) : (s.take (tagLen s)).all isD = true := by
  have e : (s.take 4).takeWhile isD = s.take (tagLen s) := List.prefix_iff_eq_take.1 ((List.takeWhile_prefix isD).trans (List.take_prefix 4 s))
  rw [← e]
  exact List.all_takeWhile
theorem read_back {s : List UInt8} (h : readOk s = true) : rightF (mkF s (tagLen s)) = true ∧ front (mkF s (tagLen s)) = s := by
  unfold readOk at h
  simp only [Bool.and_eq_true, decide_eq_true_eq] at h
  obtain ⟨⟨⟨h1, h2⟩, h3⟩, h4⟩ := h
  refine ⟨h4, ?_⟩
  have ⟨l1, l2⟩ := tagLen_le s
  have hd := tagLen_digits s
  have ⟨a, b, _, _, _⟩ := (right_iff _).1 h4
  have hne : ∃ d t, s.take (tagLen s) = d :: t ∧ (d.toNat ≠ 48 ∨ t = []) := by
    cases s with
    | nil => simp [tagLen] at h1
    | cons c r =>
      cases hk : tagLen (c :: r) with
      | zero => exact absurd hk h1
      | succ k => exact ⟨c, r.take k, rfl, .inl (fun e => h2 (by rw [show c = 48 from UInt8.toNat_inj.1 e]; rfl))⟩
  have hb := digits_back _ (s.take (tagLen s)) rfl hd hne
  have ht := (tag_show a b).1
  unfold front
  rw [ht]
  have e1 : (mkF s (tagLen s)).tag.toNat = dval 0 (s.take (tagLen s)) := by unfold mkF; simp
  have e2 : (mkF s (tagLen s)).val.data.toList = s.drop (tagLen s + 1) := by unfold mkF; simp
  rw [e1, e2, hb]
  have h5 : tagLen s < s.length := by
    rcases Nat.lt_or_ge (tagLen s) s.length with h | h
    · exact h
    · rw [List.getElem?_eq_none h] at h3; cases h3
  have h6 : s.drop (tagLen s) = 61 :: s.drop (tagLen s + 1) := by
    rw [List.drop_eq_getElem_cons h5]
    rw [List.getElem?_eq_getElem h5] at h3
    rw [Option.some.inj h3]
  rw [← h6, List.take_append_drop]
theorem parseG_back : ∀ (n : Nat) (acc : List F) (b : List UInt8) (l : List F), b.length ≤ n → acc.length ≤ 100 → parseG acc b = (l, 0) →
    ∃ m, l = acc ++ m ∧ b = bytesL m ∧ m.all rightF = true ∧ l.length ≤ 100 := by
  intro n
  induction n with
  | zero =>
    intro acc b l hb ha h
    obtain rfl : b = [] := List.length_eq_zero_iff.1 (by omega)
    rw [parseG_nil] at h
    injection h with h _
    exact ⟨[], by simp [h], by simp [bytesL], rfl, by rw [← h]; exact ha⟩
  | succ n ih =>
    intro acc b l hb ha h
    by_cases h0 : b = []
    · subst h0
      rw [parseG_nil] at h
      injection h with h _
      exact ⟨[], by simp [h], by simp [bytesL], rfl, by rw [← h]; exact ha⟩
    · by_cases hs : (seg b).length = b.length
      · rw [parseG_short h0 hs] at h; cases h
      · cases hr : readOk (seg b)
        · rw [parseG_form h0 hs hr] at h; cases h
        · by_cases h100 : acc.length = 100
          · rw [parseG_long h0 hs hr h100] at h; cases h
          · rw [parseG_step h0 hs hr h100] at h
            have hlt : b.length ≠ 0 := fun e => h0 (List.length_eq_zero_iff.1 e)
            obtain ⟨m, e1, e2, e3, e4⟩ := ih _ _ _ (by rw [List.length_drop]; omega) (by simp; omega) h
            have ⟨r1, r2⟩ := read_back hr
            refine ⟨mkF (seg b) (tagLen (seg b)) :: m, by rw [e1]; simp, ?_, by rw [List.all_cons, r1, e3]; rfl, e4⟩
            have e5 : bytesL (mkF (seg b) (tagLen (seg b)) :: m) = bytesF (mkF (seg b) (tagLen (seg b))) ++ bytesL m := by unfold bytesL; simp
            rw [e5, bytesF_eq, r2, ← e2]
            have := seg_split hs
            simpa using this
theorem parse_back {b : List UInt8} {l : List F} (h : parseL b = (l, 0)) : putE l = 0 ∧ putB l = b := by
  unfold parseL at h
  by_cases hb : 65536 < b.length
  · rw [if_pos hb] at h; cases h
  · rw [if_neg hb] at h
    obtain ⟨m, e1, e2, e3, e4⟩ := parseG_back b.length [] b l (Nat.le_refl _) (by simp) h
    rw [List.nil_append] at e1
    subst e1
    have h0 : putE l = 0 := by
      unfold putE
      rw [if_neg (by omega), if_pos e3]
    refine ⟨h0, ?_⟩
    unfold putB
    rw [if_pos h0, e2]
/-- whatever is told wrong tells no field -/
theorem parseG_err : ∀ (n : Nat) (acc : List F) (b : List UInt8), b.length ≤ n → (parseG acc b).2 ≠ 0 → (parseG acc b).1 = [] := by
  intro n
  induction n with
  | zero =>
    intro acc b hb h
    obtain rfl : b = [] := List.length_eq_zero_iff.1 (by omega)
    rw [parseG_nil] at h; exact absurd rfl h
  | succ n ih =>
    intro acc b hb h
    by_cases h0 : b = []
    · subst h0; rw [parseG_nil] at h; exact absurd rfl h
    · by_cases hs : (seg b).length = b.length
      · rw [parseG_short h0 hs]
      · cases hr : readOk (seg b)
        · rw [parseG_form h0 hs hr]
        · by_cases h100 : acc.length = 100
          · rw [parseG_long h0 hs hr h100]
          · rw [parseG_step h0 hs hr h100] at h ⊢
            have hlt : b.length ≠ 0 := fun e => h0 (List.length_eq_zero_iff.1 e)
            exact ih _ _ (by rw [List.length_drop]; omega) h
theorem parse_err {b : List UInt8} (h : (parseL b).2 ≠ 0) : (parseL b).1 = [] := by
  unfold parseL at h ⊢
  by_cases hb : 65536 < b.length
  · rw [if_pos hb]
  · rw [if_neg hb] at h ⊢
    exact parseG_err _ _ _ (Nat.le_refl _) h

/-! ### bytes that are cut -/
def ones (b : List UInt8) : Nat := (b.filter fun c => c == 1).length
theorem ones_front {f : F} (h : rightF f = true) : ones (front f) = 0 := by
  unfold ones
  rw [List.length_eq_zero_iff, List.filter_eq_nil_iff]
  intro c hc
  have := front_ne h c hc
  simp at this ⊢
  exact this
theorem cut_one {acc : List F} {f : F} (h : rightF f = true) {k : Nat} (h0 : 0 < k) (h1 : k ≤ (front f).length) : parseG acc ((front f).take k) = ([], 2) := by
  have hl : ((front f).take k).length = k := by rw [List.length_take]; omega
  refine parseG_short (fun e => by rw [e] at hl; simp at hl; omega) ?_
  unfold seg
  have : (front f).take k = (front f).take k ++ [] := by simp
  rw [this, takeWhile_all [] (fun x hx => front_ne h x (List.mem_of_mem_take hx))]
  simp
theorem cut_all : ∀ (l acc : List F) (k : Nat), l.all rightF = true → acc.length + l.length ≤ 100 → k ≤ (bytesL l).length →
    parseG acc ((bytesL l).take k) = if k = 0 ∨ (bytesL l)[k - 1]? = some 1 then (acc ++ l.take (ones ((bytesL l).take k)), 0) else ([], 2)
  | [], acc, k, _, _, hk => by
    have hk0 : k = 0 := by simpa [bytesL] using hk
    subst hk0
    simp [bytesL, parseG_nil, ones]
  | f :: l, acc, k, h, hn, hk => by
    rw [List.all_cons, Bool.and_eq_true] at h
    simp only [List.length_cons] at hn
    have e : bytesL (f :: l) = front f ++ 1 :: bytesL l := by
      have : bytesL (f :: l) = bytesF f ++ bytesL l := by unfold bytesL; simp
      rw [this, bytesF_eq]; simp
    rw [e] at hk ⊢
    by_cases h0 : k = 0
    · subst h0; simp [parseG_nil, ones]
    · by_cases h1 : k ≤ (front f).length
      · have ek : (front f ++ 1 :: bytesL l).take k = (front f).take k := by
          rw [List.take_append, show k - (front f).length = 0 by omega]; simp
        have ei : (front f ++ 1 :: bytesL l)[k - 1]? ≠ some 1 := by
          rw [List.getElem?_append_left (by omega)]
          intro e1
          have hm := List.mem_of_getElem? e1
          have := front_ne h.1 1 hm
          simp at this
        rw [ek, cut_one h.1 (by omega) h1, if_neg (by rintro (h | h); exact h0 h; exact ei h)]
      · have ek : (front f ++ 1 :: bytesL l).take k = bytesF f ++ (bytesL l).take (k - (front f).length - 1) := by
          rw [List.take_append, List.take_of_length_le (by omega), bytesF_eq]
          have : k - (front f).length = (k - (front f).length - 1) + 1 := by omega
          rw [this, List.take_succ_cons]
          simp
        have hk2 : k - (front f).length - 1 ≤ (bytesL l).length := by simp at hk; omega
        rw [ek, parse_put h.1 _ (by omega), cut_all l (acc ++ [f]) (k - (front f).length - 1) h.2 (by simp; omega) hk2]
        have eo : ones (bytesF f ++ (bytesL l).take (k - (front f).length - 1)) = 1 + ones ((bytesL l).take (k - (front f).length - 1)) := by
          have h3 := ones_front h.1
          unfold ones at h3 ⊢
          rw [bytesF_eq, List.filter_append, List.filter_append, List.length_append, List.length_append, h3]
          simp
        rw [eo]
        have ei : (front f ++ 1 :: bytesL l)[k - 1]? = (1 :: bytesL l)[k - 1 - (front f).length]? := List.getElem?_append_right (by omega)
        rw [ei]
        by_cases h2 : k - (front f).length - 1 = 0
        · have h3 : k - 1 - (front f).length = 0 := by omega
          rw [if_pos (.inl h2), h2, h3, if_pos (.inr rfl)]
          simp [ones]
        · have h3 : k - 1 - (front f).length = (k - (front f).length - 1 - 1) + 1 := by omega
          rw [h3, List.getElem?_cons_succ]
          by_cases h4 : (bytesL l)[k - (front f).length - 1 - 1]? = some 1
          · rw [if_pos (.inr h4), if_pos (.inr h4)]
            simp [Nat.add_comm 1]
          · rw [if_neg (by rintro (h | h); exact h2 h; exact h4 h), if_neg (by rintro (h | h); exact h0 h; exact h4 h)]

end Fld
end Go.Proofs.Ytdiegglnfbmpdaa
