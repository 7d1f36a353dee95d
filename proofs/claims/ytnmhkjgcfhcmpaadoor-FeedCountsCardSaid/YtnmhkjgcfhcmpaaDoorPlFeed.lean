/-
  PLAIN: what layer 4 (feed) comes to, as Lean functions on bytes. No program in sight.
-/
import Derived.Test.YtnmhkjgcfhcmpaaDoorPlFound
namespace Go.Proofs.YtnmhkjgcfhcmpaaDoor
namespace Frm
open Num Fld

/-- bodies, junk, what is kept -/
abbrev Fed := List (List UInt8) × Nat × List UInt8
def stepF (k : Int) (y : List UInt8) (n : Nat) (r : Fed) : Fed := if k = 1 then (y :: r.1, r.2.1, r.2.2) else (r.1, n + r.2.1, r.2.2)
def joinF (o : List (List UInt8)) (j : Nat) (r : Fed) : Fed := (o ++ r.1, j + r.2.1, r.2.2)
def feedY (b : List UInt8) : Fed :=
  if b = [] then ([], 0, []) else if (nextY b).2.2 = 0 then ([], 0, b) else stepF (nextY b).1 (nextY b).2.1 (nextY b).2.2 (feedY (b.drop (nextY b).2.2))
termination_by b.length
decreasing_by
  rename_i h1 h2
  have : b.length ≠ 0 := fun e => h1 (List.length_eq_zero_iff.1 e)
  rw [List.length_drop]; omega
theorem feed_nil : feedY [] = ([], 0, []) := by rw [feedY]; simp
theorem feed_need {b : List UInt8} (h : (nextY b).2.2 = 0) : feedY b = ([], 0, b) := by
  rw [feedY]
  by_cases hb : b = []
  · rw [if_pos hb, hb]
  · rw [if_neg hb, if_pos h]
theorem feed_step {b : List UInt8} {k : Int} {y : List UInt8} {n : Nat} (h : nextY b = (k, y, n)) (hn : n ≠ 0) : feedY b = stepF k y n (feedY (b.drop n)) := by
  have hb : b ≠ [] := by
    rintro rfl
    have := (next_goes []).1
    rw [h] at this
    simp at this
    omega
  rw [feedY, if_neg hb, h]
  simp only
  rw [if_neg hn]
theorem join_step (o : List (List UInt8)) (j : Nat) (k : Int) (y : List UInt8) (n : Nat) (r : Fed) : joinF o j (stepF k y n r) = if k = 1 then joinF (o ++ [y]) j r else joinF o (j + n) r := by
  unfold joinF stepF
  by_cases h : k = 1
  · rw [if_pos h, if_pos h]; simp
  · rw [if_neg h, if_neg h]; simp [Nat.add_assoc]
theorem step_join (k : Int) (y : List UInt8) (n : Nat) (o : List (List UInt8)) (j : Nat) (r : Fed) : stepF k y n (joinF o j r) = joinF (stepF k y n (o, j, [])).1 (stepF k y n (o, j, [])).2.1 r := by
  unfold joinF stepF
  by_cases h : k = 1
  · simp only [if_pos h]; simp
  · simp only [if_neg h]; simp [Nat.add_assoc]
theorem join_nil (r : Fed) : joinF [] 0 r = r := by unfold joinF; simp

/-! ### what Next tells of the first bytes stays, whatever comes behind -/
theorem beg_more {s : List UInt8} (h : begB s = false) (t : List UInt8) : begB (s ++ t) = false := by
  unfold begB at *
  rw [beq_eq_false_iff_ne] at *
  intro e
  refine h ?_
  have h1 : ((s ++ t).take 12).take s.length = (pre.take (s ++ t).length).take s.length := by rw [e]
  rw [List.take_take, List.take_take, List.length_append, Nat.min_eq_left (by omega : s.length ≤ s.length + t.length)] at h1
  rw [← h1, List.take_append_of_le_length (by omega), List.take_eq_take_iff]
  omega
theorem skip_more : ∀ (s t : List UInt8), skip (s ++ t) = skip s + skip (s.drop (skip s) ++ t)
  | [], t => by simp [skip]
  | c :: r, t => by
    by_cases h : begB (c :: r) = true
    · have e : skip (c :: r) = 0 := by rw [skip, if_pos h]
      rw [e, List.drop_zero, Nat.zero_add]
    · have hf : begB (c :: r) = false := by simpa using h
      have hm := beg_more hf t
      have e : skip (c :: r) = skip r + 1 := by rw [skip, if_neg h]
      have ih := skip_more r t
      rw [e, List.drop_succ_cons]
      have e2 : skip (c :: r ++ t) = skip (r ++ t) + 1 := by
        rw [List.cons_append] at hm ⊢
        rw [skip, if_neg (by rw [hm]; simp)]
      rw [e2, ih]
      omega
theorem junk_more {s : List UInt8} (hs : s ≠ []) (t : List UInt8) : junkN (s ++ t) = junkN s + skip (s.drop (junkN s) ++ t) := by
  cases s with
  | nil => exact absurd rfl hs
  | cons c r =>
    unfold junkN
    rw [List.cons_append, List.drop_succ_cons, List.drop_zero, List.drop_succ_cons, List.drop_zero, skip_more r t, Nat.add_comm 1 (skip r), List.drop_succ_cons]
    omega
/-- bytes ahead of a beginning are junk -/
theorem feed_skip (b : List UInt8) : feedY b = joinF [] (skip b) (feedY (b.drop (skip b))) := by
  cases b with
  | nil => rw [show skip ([] : List UInt8) = 0 from rfl, List.drop_zero, join_nil]
  | cons c r =>
    by_cases h : begB (c :: r) = true
    · have e : skip (c :: r) = 0 := by rw [skip, if_pos h]
      rw [e, List.drop_zero, join_nil]
    · have e : skip (c :: r) = skip r + 1 := by rw [skip, if_neg h]
      have hj : junkN (c :: r) = skip (c :: r) := by unfold junkN; rw [e, List.drop_succ_cons, List.drop_zero, Nat.add_comm]
      have hn : nextY (c :: r) = (2, [], junkN (c :: r)) := by
        unfold nextY
        rw [if_neg (by simp), if_pos (by simpa using h)]
      rw [feed_step hn (by unfold junkN; omega), hj]
      unfold stepF joinF
      rw [if_neg (by decide)]
      simp

/-! ### a length's text -/
theorem tag_at (s : List UInt8) : TagAt s (tagLen s) (dval 0 (s.take (tagLen s))) := ⟨(tagLen_le s).1, (tagLen_le s).2, tagLen_digits s, rfl⟩
theorem tag_max {s : List UInt8} {m v : Nat} (h : TagAt s m v) : m ≤ tagLen s := by
  obtain ⟨a, b, c, _⟩ := h
  unfold tagLen
  have e : s.take 4 = s.take m ++ (s.drop m).take (4 - m) := by
    rw [← List.take_append_drop m (s.take 4), List.take_take, List.drop_take, Nat.min_eq_left b]
  rw [e, takeWhile_all _ (fun x hx => List.all_eq_true.1 c x hx), List.length_append, List.length_take]
  omega
theorem tag_stop {s : List UInt8} (h : tagLen s < s.length) (h4 : tagLen s ≠ 4) : ∃ c, s[tagLen s]? = some c ∧ isD c = false := by
  refine ⟨s[tagLen s], List.getElem?_eq_getElem h, ?_⟩
  cases hd : isD s[tagLen s]
  · rfl
  · have := tag_max ((tag_at s).step h (by have := (tagLen_le s).2; omega) hd)
    omega
theorem tag_more {s : List UInt8} {m v : Nat} (h : TagAt s m v) (t : List UInt8) : TagAt (s ++ t) m v := by
  obtain ⟨a, b, c, d⟩ := h
  exact ⟨by rw [List.length_append]; omega, b, by rw [List.take_append_of_le_length a]; exact c, by rw [List.take_append_of_le_length a]; exact d⟩
theorem tagLen_more (s t : List UInt8) : tagLen s ≤ tagLen (s ++ t) := tag_max (tag_more (tag_at s) t)
theorem tagLen_same {s : List UInt8} (h : tagLen s = 4 ∨ tagLen s < s.length) (t : List UInt8) : tagLen (s ++ t) = tagLen s := by
  by_cases h4 : tagLen s = 4
  · exact (tag_more (tag_at s) t).len (.inr (.inl h4))
  · have hl : tagLen s < s.length := by rcases h with h | h; exact absurd h h4; exact h
    obtain ⟨c, h1, h2⟩ := tag_stop hl h4
    exact (tag_more (tag_at s) t).len (.inr (.inr ⟨c, by rw [List.getElem?_append_left hl]; exact h1, h2⟩))
theorem fbeg_long {s : List UInt8} (h : 12 ≤ s.length) (t : List UInt8) : begB (s ++ t) = begB s := by
  unfold begB
  rw [List.take_append_of_le_length h, List.length_append, List.take_of_length_le (show pre.length ≤ s.length + t.length from Nat.le_trans h (Nat.le_add_right _ _)), List.take_of_length_le (show pre.length ≤ s.length from h)]

/-- what is junk or a frame stays that -/
theorem fnext_more {s : List UInt8} (h : (nextY s).2.2 ≠ 0) (t : List UInt8) :
    nextY (s ++ t) = if (nextY s).1 = 1 then nextY s else (2, [], junkN (s ++ t)) := by
  by_cases h0 : s = []
  · exfalso; apply h; unfold nextY; rw [if_pos h0]
  have h0t : s ++ t ≠ [] := by simp [h0]
  by_cases hb : begB s = false
  · have e : nextY s = (2, [], junkN s) := by unfold nextY; rw [if_neg h0, if_pos hb]
    rw [e, if_neg (show ¬ (2 : Int) = 1 by decide)]
    unfold nextY
    rw [if_neg h0t, if_pos (beg_more hb t)]
  by_cases h12 : s.length < 12
  · exfalso; apply h; unfold nextY; rw [if_neg h0, if_neg hb, if_pos h12]
  have hbt : ¬ begB (s ++ t) = false := by rw [fbeg_long (by omega)]; exact hb
  have h12t : ¬ (s ++ t).length < 12 := by rw [List.length_append]; omega
  have hd : (s ++ t).drop 12 = s.drop 12 ++ t := by rw [List.drop_append_of_le_length (by omega)]
  have hdl : (s.drop 12).length = s.length - 12 := List.length_drop
  have htl := tagLen_le (s.drop 12)
  have hmore := tagLen_more (s.drop 12) t
  have hT : lenT (s ++ t) = tagLen (s.drop 12 ++ t) := by unfold lenT; rw [hd]
  have hTs : lenT s = tagLen (s.drop 12) := rfl
  have g12 : ∀ i, i < s.length → (s ++ t)[i]? = s[i]? := fun i hi => List.getElem?_append_left hi
  by_cases h1 : lenT s ≠ 0 ∧ (s[12]? = some 48 ∨ 8000 < lenV s)
  · have e : nextY s = (2, [], junkN s) := by unfold nextY; rw [if_neg h0, if_neg hb, if_neg h12, if_pos h1]
    rw [e, if_neg (show ¬ (2 : Int) = 1 by decide)]
    have h1t : lenT (s ++ t) ≠ 0 ∧ ((s ++ t)[12]? = some 48 ∨ 8000 < lenV (s ++ t)) := by
      refine ⟨by rw [hT]; rw [hTs] at h1; omega, ?_⟩
      rcases h1.2 with h2 | h2
      · exact .inl (by rw [g12 12 (by rw [hTs] at h1; omega)]; exact h2)
      · have h4 : tagLen (s.drop 12) = 4 := by
          have ⟨_, hb3⟩ := (tag_at (s.drop 12)).bound
          have hv : lenV s = dval 0 ((s.drop 12).take (tagLen (s.drop 12))) := rfl
          rw [hv] at h2
          have := htl.2
          by_cases h4 : tagLen (s.drop 12) < 4
          · have := hb3 h4; omega
          · omega
        have hs4 := tagLen_same (.inl h4) t
        refine .inr ?_
        have hv : lenV (s ++ t) = lenV s := by
          unfold lenV
          rw [hT, hs4, hd, List.take_append_of_le_length htl.1]
          rfl
        rw [hv]; exact h2
    unfold nextY
    rw [if_neg h0t, if_neg hbt, if_neg h12t, if_pos h1t]
  by_cases h2 : 12 + lenT s = s.length
  · exfalso; apply h; unfold nextY; rw [if_neg h0, if_neg hb, if_neg h12, if_neg h1, if_pos h2]
  have hlt : tagLen (s.drop 12) < (s.drop 12).length := by rw [hTs] at h2; omega
  have hsame : lenT (s ++ t) = lenT s := by rw [hT, tagLen_same (.inr hlt) t]; rfl
  have hV : lenV (s ++ t) = lenV s := by
    unfold lenV
    rw [hsame, hd, hTs, List.take_append_of_le_length htl.1]
  have hA : allAt (s ++ t) = allAt s := by unfold allAt; rw [hsame, hV]
  have hl12 : 12 + lenT s < s.length := by rw [hTs]; omega
  have h1t : ¬ (lenT (s ++ t) ≠ 0 ∧ ((s ++ t)[12]? = some 48 ∨ 8000 < lenV (s ++ t))) := by rw [hsame, hV, g12 12 (by omega)]; exact h1
  have h2t : ¬ 12 + lenT (s ++ t) = (s ++ t).length := by rw [hsame, List.length_append]; omega
  by_cases h3 : lenT s = 0 ∨ s[12 + lenT s]? ≠ some 1
  · have e : nextY s = (2, [], junkN s) := by unfold nextY; rw [if_neg h0, if_neg hb, if_neg h12, if_neg h1, if_neg h2, if_pos h3]
    rw [e, if_neg (show ¬ (2 : Int) = 1 by decide)]
    unfold nextY
    rw [if_neg h0t, if_neg hbt, if_neg h12t, if_neg h1t, if_neg h2t, if_pos (by rw [hsame, g12 _ hl12]; exact h3)]
  have h3t : ¬ (lenT (s ++ t) = 0 ∨ (s ++ t)[12 + lenT (s ++ t)]? ≠ some 1) := by rw [hsame, g12 _ hl12]; exact h3
  by_cases h4 : s.length < allAt s
  · exfalso; apply h; unfold nextY; rw [if_neg h0, if_neg hb, if_neg h12, if_neg h1, if_neg h2, if_neg h3, if_pos h4]
  have h4t : ¬ (s ++ t).length < allAt (s ++ t) := by rw [hA, List.length_append]; omega
  have hB : bodyAt (s ++ t) = bodyAt s := by
    unfold bodyAt
    rw [hsame, hV, hd]
    unfold allAt at h4
    rw [List.drop_append_of_le_length (by omega), List.take_append_of_le_length (by rw [List.length_drop]; omega)]
  have hK : (s ++ t).take (allAt (s ++ t)) = s.take (allAt s) := by rw [hA, List.take_append_of_le_length (by omega)]
  by_cases h5 : putE (bodyAt s) = 0 ∧ putB (bodyAt s) = s.take (allAt s)
  · have e : nextY s = (1, bodyAt s, allAt s) := by unfold nextY; rw [if_neg h0, if_neg hb, if_neg h12, if_neg h1, if_neg h2, if_neg h3, if_neg h4, if_pos h5]
    rw [e, if_pos rfl]
    unfold nextY
    rw [if_neg h0t, if_neg hbt, if_neg h12t, if_neg h1t, if_neg h2t, if_neg h3t, if_neg h4t, if_pos (by rw [hB, hK]; exact h5), hB, hA]
  · have e : nextY s = (2, [], junkN s) := by unfold nextY; rw [if_neg h0, if_neg hb, if_neg h12, if_neg h1, if_neg h2, if_neg h3, if_neg h4, if_neg h5]
    rw [e, if_neg (show ¬ (2 : Int) = 1 by decide)]
    unfold nextY
    rw [if_neg h0t, if_neg hbt, if_neg h12t, if_neg h1t, if_neg h2t, if_neg h3t, if_neg h4t, if_neg (by rw [hB, hK]; exact h5)]
/-- what isn't a frame is junk: so many bytes -/
theorem next_junkN {s : List UInt8} (h : (nextY s).2.2 ≠ 0) (h1 : (nextY s).1 ≠ 1) : nextY s = (2, [], junkN s) := by
  have := fnext_more h []
  rw [List.append_nil, if_neg h1] at this
  exact this

/-- the first thing that is taken is taken, whatever comes behind -/
theorem feed_more {s : List UInt8} {k : Int} {y : List UInt8} {n : Nat} (h : nextY s = (k, y, n)) (hn : n ≠ 0) (t : List UInt8) : feedY (s ++ t) = stepF k y n (feedY (s.drop n ++ t)) := by
  have hn' : (nextY s).2.2 ≠ 0 := by rw [h]; exact hn
  have hle : n ≤ s.length := by have := (next_goes s).1; rw [h] at this; exact this
  have hm := fnext_more hn' t
  by_cases hk : k = 1
  · rw [h] at hm
    simp only at hm
    rw [if_pos hk] at hm
    rw [feed_step hm hn, List.drop_append_of_le_length hle]
  · have hs0 : s ≠ [] := by rintro rfl; simp at hle; omega
    have hj := next_junkN hn' (by rw [h]; exact hk)
    rw [h] at hj
    injection hj with hk2 hj
    injection hj with hy hj
    subst hy hj
    rw [h] at hm
    simp only at hm
    rw [if_neg hk, junk_more hs0 t] at hm
    rw [feed_step hm (by omega)]
    have e : (s ++ t).drop (junkN s + skip (s.drop (junkN s) ++ t)) = (s.drop (junkN s) ++ t).drop (skip (s.drop (junkN s) ++ t)) := by
      rw [← List.drop_drop, List.drop_append_of_le_length hle]
    rw [e, feed_skip (s.drop (junkN s) ++ t)]
    unfold stepF joinF
    rw [if_neg (by decide), if_neg hk]
    simp [Nat.add_assoc]
/-- a stream in two pieces -/
theorem feed_two : ∀ (m : Nat) (s t : List UInt8), s.length ≤ m → feedY (s ++ t) = joinF (feedY s).1 (feedY s).2.1 (feedY ((feedY s).2.2 ++ t)) := by
  intro m
  induction m with
  | zero =>
    intro s t hs
    obtain rfl : s = [] := List.length_eq_zero_iff.1 (by omega)
    rw [feed_nil, join_nil]
  | succ m ih =>
    intro s t hs
    by_cases h0 : (nextY s).2.2 = 0
    · rw [feed_need h0, join_nil]
    · obtain ⟨k, y, n, hn⟩ : ∃ k y n, nextY s = (k, y, n) := ⟨_, _, _, rfl⟩
      have hn0 : n ≠ 0 := by rw [hn] at h0; exact h0
      have hle : n ≤ s.length := by have := (next_goes s).1; rw [hn] at this; exact this
      rw [feed_more hn hn0 t, ih (s.drop n) t (by rw [List.length_drop]; omega), step_join, feed_step hn hn0]
      unfold stepF
      by_cases hk : k = 1
      · simp only [if_pos hk]
      · simp only [if_neg hk]
/-- what is kept tells nothing by itself; all together are as many bytes -/
theorem feed_kept : ∀ (m : Nat) (s : List UInt8), s.length ≤ m → feedY (feedY s).2.2 = ([], 0, (feedY s).2.2) := by
  intro m
  induction m with
  | zero =>
    intro s hs
    obtain rfl : s = [] := List.length_eq_zero_iff.1 (by omega)
    rw [feed_nil, feed_nil]
  | succ m ih =>
    intro s hs
    by_cases h0 : (nextY s).2.2 = 0
    · rw [feed_need h0]; exact feed_need h0
    · obtain ⟨k, y, n, hn⟩ : ∃ k y n, nextY s = (k, y, n) := ⟨_, _, _, rfl⟩
      have hn0 : n ≠ 0 := by rw [hn] at h0; exact h0
      have hle : n ≤ s.length := by have := (next_goes s).1; rw [hn] at this; exact this
      rw [feed_step hn hn0]
      have e : ∀ r : Fed, (stepF k y n r).2.2 = r.2.2 := fun r => by unfold stepF; split <;> rfl
      rw [e]
      exact ih (s.drop n) (by rw [List.length_drop]; omega)
def framesLen (l : List (List UInt8)) : Nat := (l.map fun y => (putB y).length).sum
theorem feed_count : ∀ (m : Nat) (s : List UInt8), s.length ≤ m → (∀ y ∈ (feedY s).1, putE y = 0) ∧ framesLen (feedY s).1 + (feedY s).2.1 + (feedY s).2.2.length = s.length := by
  intro m
  induction m with
  | zero =>
    intro s hs
    obtain rfl : s = [] := List.length_eq_zero_iff.1 (by omega)
    rw [feed_nil]
    exact ⟨by simp, rfl⟩
  | succ m ih =>
    intro s hs
    by_cases h0 : (nextY s).2.2 = 0
    · rw [feed_need h0]; exact ⟨by simp, by simp [framesLen]⟩
    · obtain ⟨k, y, n, hn⟩ : ∃ k y n, nextY s = (k, y, n) := ⟨_, _, _, rfl⟩
      have hn0 : n ≠ 0 := by rw [hn] at h0; exact h0
      have hg := next_goes s
      rw [hn] at hg
      obtain ⟨hle, _, _, h4⟩ := hg
      simp only at hle h4
      have ⟨i1, i2⟩ := ih (s.drop n) (by rw [List.length_drop]; omega)
      rw [List.length_drop] at i2
      rw [feed_step hn hn0]
      unfold stepF
      by_cases hk : k = 1
      · obtain ⟨p1, p2⟩ := h4 hk
        have hl : (putB y).length = n := by rw [p2, List.length_take]; omega
        simp only [if_pos hk]
        refine ⟨?_, ?_⟩
        · intro z hz
          rcases List.mem_cons.1 hz with rfl | hz
          · exact p1
          · exact i1 z hz
        · unfold framesLen at *
          simp only [List.map_cons, List.sum_cons, hl]
          omega
      · simp only [if_neg hk]
        exact ⟨i1, by omega⟩
/-- junk without an 8, and a frame between such -/
theorem skip_none : ∀ (J : List UInt8), (∀ c ∈ J, c ≠ 56) → skip J = J.length
  | [], _ => rfl
  | c :: r, h => by rw [skip, if_neg (fun e => h c (by simp) (beg_head e)), skip_none r (fun x hx => h x (by simp [hx])), List.length_cons]
theorem feed_none {J : List UInt8} (h : ∀ c ∈ J, c ≠ 56) : feedY J = ([], J.length, []) := by
  rw [feed_skip, skip_none J h, List.drop_length, feed_nil]
  unfold joinF
  simp
theorem feed_between {a y b : List UInt8} (hy : putE y = 0) (ha : ∀ c ∈ a, c ≠ 56) (hb : ∀ c ∈ b, c ≠ 56) : feedY (a ++ frameY y ++ b) = ([y], a.length + b.length, []) := by
  have hX : begB (frameY y ++ b) = true := by rw [frame_eq, List.append_assoc]; exact beg_pre _
  have hn : frameY y ++ b ≠ [] := by
    intro e
    have h1 := congrArg List.length e
    have h2 := frame_len y
    rw [List.length_append, List.length_nil] at h1
    omega
  have hs : skip (a ++ (frameY y ++ b)) = a.length := skip_junk hX hn a ha
  have hf := next_frame hy b
  have hl := frame_len y
  rw [List.append_assoc, feed_skip, hs, List.drop_left, feed_step hf (by omega), List.drop_left, feed_none hb]
  unfold stepF joinF
  simp

end Frm
end Go.Proofs.YtnmhkjgcfhcmpaaDoor
