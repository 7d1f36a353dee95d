/-
  PLAIN: what stands at the beginning of bytes, as a program finds it that reads a length's text as a number, and searches for the beginning.
-/
import Derived.Test.YtnmhkjgcfhcmpaaDoorPlFound
import Derived.Test.YtnmhkjgcfhcmpaaDoorPlIx
import Derived.Lib.Index
import Derived.Lib.Strings
namespace Go.Proofs.YtnmhkjgcfhcmpaaDoor
namespace Frm
open Num Fld

/-- a length's text -/
def goodT (t : List UInt8) : Prop := parseE t = 0 ∧ 1 ≤ parseV t ∧ parseV t ≤ 8000
theorem good_show {t : List UInt8} (h : goodT t) : ∃ n : Nat, n ≠ 0 ∧ n ≤ 8000 ∧ parseV t = (n : Int) ∧ showL (n : Int) = t := by
  obtain ⟨h0, h1, h2⟩ := h
  have e : ((parseV t).toNat : Int) = parseV t := by omega
  exact ⟨(parseV t).toNat, by omega, by omega, e.symm, by rw [e]; exact parse_show t h0⟩
theorem good_of {t : List UInt8} (hd : t.all isD = true) (h0 : t ≠ []) (h1 : t[0]? ≠ some 48) (h2 : dval 0 t ≤ 8000) : goodT t := by
  obtain ⟨d, r, e⟩ : ∃ d r, t = d :: r := by
    cases t with
    | nil => exact absurd rfl h0
    | cons d r => exact ⟨d, r, rfl⟩
  have hd48 : d.toNat ≠ 48 := fun h => h1 (by rw [e]; exact congrArg some (UInt8.toNat_inj.1 h))
  have hb := digits_back _ t rfl hd ⟨d, r, e, .inl hd48⟩
  have hpos : 1 ≤ dval 0 t := by
    have hD : isD d = true := List.all_eq_true.1 hd d (by rw [e]; simp)
    have := (isD_iff d).1 hD
    have h3 := dval_acc r (0 * 10 + (d.toNat - 48))
    rw [e, dval_cons]
    omega
  have hr : rightB (dval 0 t : Int) = true := (Num.right_iff _).2 ⟨by omega, by omega⟩
  have hs : showL (dval 0 t : Int) = t := by
    unfold showL
    rw [if_pos hr, itoa_nn _ (by omega)]
    exact hb
  have ⟨p1, p2⟩ := show_parse _ hr
  rw [hs] at p1 p2
  exact ⟨p1, by omega, by omega⟩

/-- what stands behind the beginning, as far as a length's text may reach, up to a byte 1 -/
def textT (r : List UInt8) : List UInt8 := (r.take 5).take (ahead 1 (r.take 5))
def endT (r : List UInt8) : Bool := decide (ahead 1 (r.take 5) < (r.take 5).length)
theorem end_iff (r : List UInt8) : endT r = true ↔ ahead 1 (r.take 5) < (r.take 5).length := by unfold endT; simp
theorem text_end {r : List UInt8} (h : endT r = true) : r = textT r ++ 1 :: r.drop ((textT r).length + 1) := by
  have h1 := (end_iff r).1 h
  have hg := ahead_get h1
  have hl : (textT r).length = ahead 1 (r.take 5) := by unfold textT; rw [List.length_take]; omega
  rw [hl]
  generalize ahead 1 (r.take 5) = k at *
  have hk5 : k < r.length ∧ k < 5 := by rw [List.length_take] at h1; omega
  have ht : textT r = r.take k := by
    have : textT r = (r.take 5).take k := by
      have := hl
      unfold textT at this ⊢
      rw [List.length_take] at this
      rw [show ahead 1 (r.take 5) = k by omega]
    rw [this, List.take_take, Nat.min_eq_left (by omega)]
  rw [List.getElem?_take_of_lt hk5.2, List.getElem?_eq_getElem hk5.1] at hg
  have h6 : r.drop k = 1 :: r.drop (k + 1) := by rw [List.drop_eq_getElem_cons hk5.1, Option.some.inj hg]
  rw [ht, ← h6, List.take_append_drop]
theorem text_open {r : List UInt8} (h : endT r = false) : textT r = r.take 5 ∧ ∀ c ∈ r.take 5, c ≠ 1 := by
  have h1 : ¬ ahead 1 (r.take 5) < (r.take 5).length := fun e => by rw [(end_iff r).2 e] at h; cases h
  have h2 := ahead_le 1 (r.take 5)
  refine ⟨List.take_of_length_le (by omega), fun c hc e => h1 ?_⟩
  rw [ahead_lt, ← e]
  exact hc
theorem digit_not_one {c : UInt8} (h : isD c = true) : c ≠ 1 := by
  rintro rfl
  exact absurd h (by decide)
/-- the text is the digits, where these are ended by a byte 1, or by the bytes' end -/
theorem text_digits {r : List UInt8} {d : Nat} (hd : d ≤ r.length) (h4 : d ≤ 4) (ha : (r.take d).all isD = true) (h : d = r.length ∨ r[d]? = some 1) : textT r = r.take d := by
  have hne : ∀ c ∈ r.take d, c ≠ 1 := fun c hc => digit_not_one (List.all_eq_true.1 ha c hc)
  have e5 : r.take 5 = r.take d ++ (r.drop d).take (5 - d) := by
    rw [← List.take_append_drop d (r.take 5), List.take_take, List.drop_take, Nat.min_eq_left (by omega)]
  have hah : ahead 1 (r.take 5) = d := by
    unfold ahead
    rw [e5, takeWhile_all _ (fun x hx => by simpa using hne x hx), List.length_append, List.length_take, Nat.min_eq_left hd]
    have : ((r.drop d).take (5 - d)).takeWhile (fun x => x != 1) = [] := by
      rcases h with h | h
      · rw [List.drop_eq_nil_of_le (by omega)]; simp
      · have hlt : d < r.length := by
          rcases Nat.lt_or_ge d r.length with h' | h'
          · exact h'
          · rw [List.getElem?_eq_none h'] at h; cases h
        rw [List.getElem?_eq_getElem hlt] at h
        rw [List.drop_eq_getElem_cons hlt, Option.some.inj h, show 5 - d = (4 - d) + 1 by omega, List.take_succ_cons, List.takeWhile_cons]
        rfl
    rw [this]; rfl
  unfold textT
  rw [hah, List.take_take, Nat.min_eq_left (by omega)]

theorem is_pre {b : List UInt8} (h : pre.isPrefixOf b = true) : b = pre ++ b.drop 12 := by
  obtain ⟨t, rfl⟩ := List.isPrefixOf_iff_prefix.1 h
  rw [List.drop_left' (show pre.length = 12 from rfl)]
/-- shorter than the beginning -/
theorem beg_short {b : List UInt8} (h : b.length < 12) : begB b = b.isPrefixOf pre := by
  unfold begB
  rw [List.take_of_length_le (by omega), Bool.eq_iff_iff, beq_iff_eq, List.isPrefixOf_iff_prefix, List.prefix_iff_eq_take]
theorem beg_long {b : List UInt8} (h : 12 ≤ b.length) : begB b = pre.isPrefixOf b := by
  unfold begB
  rw [show pre.take b.length = pre from List.take_of_length_le h, Bool.eq_iff_iff, beq_iff_eq, List.isPrefixOf_iff_prefix, List.prefix_iff_eq_take]
  exact ⟨fun e => e.symm, fun e => e.symm⟩

theorem next_need {b : List UInt8} (h : b.length < 12) (hp : b.isPrefixOf pre = true) : nextY b = (0, [], 0) := by
  have hbeg : ¬ begB b = false := by rw [beg_short h, hp]; simp
  unfold nextY
  by_cases hne : b = []
  · rw [if_pos hne]
  · rw [if_neg hne, if_neg hbeg, if_pos h]
theorem next_off {b : List UInt8} (hp : pre.isPrefixOf b = false) (h : b.length < 12 → b.isPrefixOf pre = false) : b ≠ [] ∧ nextY b = (2, [], junkN b) := by
  have hne : b ≠ [] := by
    rintro rfl
    exact absurd (h (by decide)) (by decide)
  refine ⟨hne, ?_⟩
  unfold nextY
  rw [if_neg hne, if_pos]
  by_cases h12 : b.length < 12
  · rw [beg_short h12]; exact h h12
  · rw [beg_long (by omega)]; exact hp
/-- bytes that begin with the beginning -/
theorem next_pre {b r : List UInt8} (hb : b = pre ++ r) : b ≠ [] ∧ nextY b = (if lenT b ≠ 0 ∧ (r[0]? = some 48 ∨ 8000 < lenV b) then (2, [], junkN b)
  else if lenT b = r.length then (0, [], 0)
  else if lenT b = 0 ∨ r[lenT b]? ≠ some 1 then (2, [], junkN b)
  else if b.length < allAt b then (0, [], 0)
  else if putE (bodyAt b) = 0 ∧ putB (bodyAt b) = b.take (allAt b) then (1, bodyAt b, allAt b)
  else (2, [], junkN b)) ∧ lenT b = tagLen r ∧ lenV b = dval 0 (r.take (tagLen r)) := by
  have hlen : b.length = 12 + r.length := by rw [hb, List.length_append]; rfl
  have hne : b ≠ [] := fun e => by rw [e] at hlen; simp at hlen; omega
  have hd : b.drop 12 = r := by rw [hb]; exact List.drop_left (l₁ := pre)
  have hg : ∀ i, b[12 + i]? = r[i]? := fun i => by rw [← hd, List.getElem?_drop]
  have h0 : b[12]? = r[0]? := hg 0
  refine ⟨hne, ?_, by unfold lenT; rw [hd], by unfold lenV lenT; rw [hd]⟩
  conv => lhs; unfold nextY
  have hbeg : begB b = true := by rw [hb]; exact beg_pre _
  rw [if_neg hne, if_neg (by rw [hbeg]; simp), if_neg (by omega), h0, hg, hlen]
  simp only [Nat.add_left_cancel_iff]
theorem next_nil {b : List UInt8} (hb : b = pre ++ []) : nextY b = (0, [], 0) := by
  have ⟨_, h1, h2, h3⟩ := next_pre hb
  have h4 : lenT b = 0 := by rw [h2]; rfl
  rw [h1, h4]
  simp
theorem next_bad {b r : List UInt8} (hb : b = pre ++ r) (hr : r ≠ []) (hbad : ¬ goodT (textT r)) : nextY b = (2, [], junkN b) := by
  have ⟨_, h1, h2, h3⟩ := next_pre hb
  rw [h1, h2, h3]
  have ⟨hle, h4⟩ := tagLen_le r
  have hall := tagLen_digits r
  have hrl : r.length ≠ 0 := fun e => hr (List.length_eq_zero_iff.1 e)
  generalize tagLen r = d at *
  by_cases hd0 : d = 0
  · subst hd0
    rw [if_neg (by simp), if_neg (by omega), if_pos (.inl rfl)]
  · by_cases hc : r[0]? = some 48 ∨ 8000 < dval 0 (r.take d)
    · rw [if_pos ⟨hd0, hc⟩]
    · rw [if_neg (fun h => hc h.2)]
      have hgood : goodT (r.take d) := by
        refine good_of hall (fun e => ?_) (fun e => hc (.inl ?_)) (Nat.not_lt.1 fun h => hc (.inr h))
        · have := congrArg List.length e
          rw [List.length_take, List.length_nil] at this
          omega
        · rwa [List.getElem?_take_of_lt (by omega)] at e
      have hno : ¬ (d = r.length ∨ r[d]? = some 1) := fun h => hbad (by rw [text_digits hle h4 hall h]; exact hgood)
      rw [if_neg (fun e => hno (.inl e)), if_pos (.inr (fun e => hno (.inr e)))]
theorem next_more {b r : List UInt8} (hb : b = pre ++ r) (hg : goodT (textT r)) (he : endT r = false) : nextY b = (0, [], 0) := by
  have ⟨_, h1, h2, h3⟩ := next_pre hb
  obtain ⟨n, n0, n8, _, hs⟩ := good_show hg
  have ⟨s1, s2, s3, d, t, s4, s5⟩ := len_text n0 n8
  have ⟨ht, _⟩ := text_open he
  rw [ht] at hs
  have hrl : r.take 5 = r := List.take_of_length_le (by have := congrArg List.length hs; rw [List.length_take] at this; omega)
  rw [hrl] at hs
  have ht : TagAt r r.length n := ⟨Nat.le_refl _, by rw [← hs]; exact s2, by rw [List.take_length, ← hs]; exact s1, by rw [List.take_length, ← hs]; exact s3.symm⟩
  have hl := ht.len (.inl rfl)
  have h0 : r[0]? ≠ some 48 := by rw [← hs, s4]; exact fun e => s5 (Option.some.inj e)
  have hv : dval 0 r = n := by rw [← hs]; exact s3
  rw [h1, h2, h3, hl, List.take_length, hv, if_neg (by rintro ⟨_, e | e⟩; exact h0 e; omega), if_pos rfl]
/-- how a frame's place is told -/
theorem next_there {b r : List UInt8} (hb : b = pre ++ r) (hg : goodT (textT r)) (he : endT r = true) : ∃ n p : Nat, n ≠ 0 ∧ n ≤ 8000 ∧ parseV (textT r) = (n : Int) ∧ p = 12 + (textT r).length + 1 ∧ (textT r).length ≤ 4 ∧ p ≤ b.length ∧ (showL (n : Int)).length = (textT r).length ∧
    nextY b = (if b.length < p + n + 7 then (0, [], 0) else if putE ((b.drop p).take n) = 0 ∧ putB ((b.drop p).take n) = b.take (p + n + 7) then (1, (b.drop p).take n, p + n + 7) else (2, [], junkN b)) := by
  obtain ⟨n, n0, n8, hv, hs⟩ := good_show hg
  have ⟨_, s2, _, _⟩ := len_text n0 n8
  have hr := text_end he
  rw [← hs] at hr
  have hb' := hb
  rw [hr] at hb'
  obtain ⟨p1, p2, p3, p4, p5, p6, p7, p8, p9⟩ := parts_at n0 n8 _ hb'
  refine ⟨n, 12 + (textT r).length + 1, n0, n8, hv, rfl, by rw [← hs]; exact s2, by rw [← hs]; omega, by rw [hs], ?_⟩
  have ha : allAt b = 12 + (textT r).length + 1 + n + 7 := by unfold allAt; rw [p4, p5, hs]
  have hbd : bodyAt b = (b.drop (12 + (textT r).length + 1)).take n := by
    unfold bodyAt
    rw [p5, p4, List.drop_drop, hs]
    rfl
  unfold nextY
  rw [if_neg p1, if_neg (by rw [p2]; simp), if_neg (by omega), if_neg (by rintro ⟨_, e | e⟩; exact p6 e; omega), if_neg (by rw [p4]; omega), if_neg (by rintro (e | e); omega; exact e p7), ha, hbd]
/-- a frame is just the bytes that its body is put in -/
theorem frame_there {b : List UInt8} {p n : Nat} (_hn : n ≠ 0) (hp : p + n + 7 ≤ b.length) (hl : p = 12 + (showL (n : Int)).length + 1) (h : putE ((b.drop p).take n) = 0) :
    (putB ((b.drop p).take n)).length = p + n + 7 ∧ (putB ((b.drop p).take n) = b.take (p + n + 7) ↔ (putB ((b.drop p).take n)).isPrefixOf b = true) := by
  have hbl : ((b.drop p).take n).length = n := by rw [List.length_take, List.length_drop]; omega
  have hlen : (putB ((b.drop p).take n)).length = p + n + 7 := by
    rw [putB_ok h, frame_len, hbl, hl]
  refine ⟨hlen, ?_⟩
  rw [List.isPrefixOf_iff_prefix, List.prefix_iff_eq_take, hlen]

/-! ### junk -/
theorem skip_is : ∀ (s : List UInt8) (k : Nat), k ≤ s.length → (∀ j, j < k → begB (s.drop j) = false) → (k < s.length → begB (s.drop k) = true) → skip s = k
  | [], k, h, _, _ => by simp at h; rw [h]; rfl
  | c :: r, 0, _, _, h => by
    have := h (by simp)
    rw [List.drop_zero] at this
    unfold skip
    rw [if_pos this]
  | c :: r, k + 1, h, hn, hy => by
    have h0 := hn 0 (by omega)
    rw [List.drop_zero] at h0
    unfold skip
    rw [if_neg (by rw [h0]; simp), skip_is r k (by simpa using h) (fun j hj => by have := hn (j + 1) (by omega); rwa [List.drop_succ_cons] at this) (fun hk => by have := hy (by simpa using hk); rwa [List.drop_succ_cons] at this)]
theorem occ_beg {s : List UInt8} {j : Nat} (h : j + 12 ≤ s.length) : begB (s.drop j) = Lib.occAt s pre j := by
  rw [beg_long (by rw [List.length_drop]; omega)]
  rfl
theorem occ_room {s : List UInt8} {j : Nat} (h : Lib.occAt s pre j = true) : j + 12 ≤ s.length := by
  unfold Lib.occAt at h
  have := (List.isPrefixOf_iff_prefix.1 h).length_le
  rw [List.length_drop] at this
  have e : pre.length = 12 := rfl
  omega
/-- the first place of all the beginning -/
theorem index_hit : ∀ (s : List UInt8), 0 ≤ Lib.index s pre → ∃ i : Nat, Lib.index s pre = (i : Int) ∧ i + 12 ≤ s.length ∧ Lib.occAt s pre i = true ∧ ∀ j, j < i → Lib.occAt s pre j = false
  | [], h => by exact absurd h (by decide)
  | c :: r, h => by
    by_cases hp : pre.isPrefixOf (c :: r) = true
    · refine ⟨0, ?_, ?_, hp, fun j hj => absurd hj (by omega)⟩
      · unfold Lib.index; rw [if_pos hp]; rfl
      · exact occ_room (j := 0) hp
    · have hpf : pre.isPrefixOf (c :: r) = false := Bool.eq_false_iff.2 hp
      have hge := Lib.index_ge r pre
      have e : Lib.index (c :: r) pre = if Lib.index r pre == -1 then -1 else Lib.index r pre + 1 := by
        conv => lhs; unfold Lib.index
        rw [if_neg hp]
      by_cases hr : Lib.index r pre = -1
      · rw [e, hr] at h; exact absurd h (by decide)
      · have hb : (Lib.index r pre == -1) = false := beq_eq_false_iff_ne.2 hr
        rw [hb] at e
        simp only [Bool.false_eq_true, if_false] at e
        obtain ⟨i, h1, h2, h3, h4⟩ := index_hit r (by omega)
        refine ⟨i + 1, by rw [e, h1]; rfl, by rw [List.length_cons]; omega, h3, fun j hj => ?_⟩
        cases j with
        | zero => exact hpf
        | succ j => exact h4 j (by omega)
theorem index_miss : ∀ (s : List UInt8), Lib.index s pre < 0 → ∀ j, Lib.occAt s pre j = false
  | [], _, j => by unfold Lib.occAt; rw [List.drop_nil]; rfl
  | c :: r, h, j => by
    have hge := Lib.index_ge r pre
    unfold Lib.index at h
    by_cases hp : pre.isPrefixOf (c :: r) = true
    · rw [if_pos hp] at h; exact absurd h (by decide)
    · rw [if_neg hp] at h
      by_cases hr : Lib.index r pre = -1
      · cases j with
        | zero => exact Bool.eq_false_iff.2 hp
        | succ j => exact index_miss r (by omega) j
      · have hb : (Lib.index r pre == -1) = false := beq_eq_false_iff_ne.2 hr
        rw [hb] at h
        simp only [Bool.false_eq_true, if_false] at h
        omega
theorem junk_index {b : List UInt8} {i : Nat} (h : Lib.index (b.drop 1) pre = (i : Int)) : junkN b = 1 + i := by
  obtain ⟨k, h1, h2, h3, h4⟩ := index_hit (b.drop 1) (by omega)
  obtain rfl : k = i := by omega
  unfold junkN
  rw [skip_is (b.drop 1) k (by omega) (fun j hj => by rw [occ_beg (by omega)]; exact h4 j hj) (fun _ => by rw [occ_beg h2]; exact h3)]
/-- none of so many bytes at the end, and more, are the first ones of the beginning -/
def NoEnd (b : List UInt8) (m : Nat) : Prop := ∀ k, m < k → k ≤ 11 → k ≤ b.length - 1 → (pre.take k).isSuffixOf b = false
theorem noend_start (b : List UInt8) : NoEnd b (min 11 (b.length - 1)) := fun k h1 h2 h3 => by omega
theorem noend_step {b : List UInt8} {m : Nat} (h : NoEnd b m) (h0 : 0 < m) (hn : (pre.take m).isSuffixOf b = false) : NoEnd b (m - 1) := fun k h1 h2 h3 => by
  by_cases e : k = m
  · rw [e]; exact hn
  · exact h k (by omega) h2 h3
theorem suffix_beg {b : List UInt8} {k : Nat} (h11 : k ≤ 11) (hk : k ≤ b.length - 1) (h0 : 0 < k) : begB ((b.drop 1).drop (b.length - 1 - k)) = (pre.take k).isSuffixOf b := by
  have hl : (b.drop (b.length - k)).length = k := by rw [List.length_drop]; omega
  rw [List.drop_drop, show 1 + (b.length - 1 - k) = b.length - k by omega, beg_short (by omega), Bool.eq_iff_iff, List.isPrefixOf_iff_prefix, List.isSuffixOf_iff_suffix, List.prefix_iff_eq_take, List.suffix_iff_eq_drop, hl]
  have e : (pre.take k).length = k := by rw [List.length_take]; show min k 12 = k; omega
  rw [e]
  exact ⟨fun e => e.symm, fun e => e.symm⟩
theorem junk_none {b : List UInt8} (hm : Lib.index (b.drop 1) pre < 0) {m : Nat} (h : NoEnd b m) (hle : m ≤ 11) (hlb : m ≤ b.length - 1) (hb : b ≠ []) (hy : m = 0 ∨ (pre.take m).isSuffixOf b = true) : junkN b = b.length - m := by
  have hne : b.length ≠ 0 := fun e => hb (List.length_eq_zero_iff.1 e)
  have hno := index_miss _ hm
  have hdl : (b.drop 1).length = b.length - 1 := List.length_drop ..
  unfold junkN
  rw [skip_is (b.drop 1) (b.length - 1 - m) (by omega) ?_ ?_]
  · omega
  · intro j hj
    by_cases h12 : j + 12 ≤ b.length - 1
    · rw [occ_beg (by omega)]; exact hno j
    · have := suffix_beg (b := b) (k := b.length - 1 - j) (by omega) (by omega) (by omega)
      rw [show b.length - 1 - (b.length - 1 - j) = j by omega] at this
      rw [this]
      exact h _ (by omega) (by omega) (by omega)
  · intro hlt
    have hm0 : m ≠ 0 := by omega
    rw [suffix_beg hle hlb (by omega)]
    rcases hy with hy | hy
    · exact absurd hy hm0
    · exact hy

end Frm
end Go.Proofs.YtnmhkjgcfhcmpaaDoor
