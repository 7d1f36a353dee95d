/-
  PLAIN: what is put is found; what is cut off isn't more than the first bytes of one; junk without an 8 is junk.
-/
import Derived.Test.YtddblaiahgjbaaaDoorPlFrame
namespace Go.Proofs.YtddblaiahgjbaaaDoor
namespace Frm
open Num Fld

theorem beg_pre (X : List UInt8) : begB (pre ++ X) = true := by
  unfold begB
  have h1 : (pre ++ X).take 12 = pre := List.take_left (l₁ := pre)
  have h2 : pre.take (pre ++ X).length = pre := List.take_of_length_le (by rw [List.length_append]; omega)
  rw [h1, h2]
  exact beq_self_eq_true _
theorem beg_head {c : UInt8} {r : List UInt8} (h : begB (c :: r) = true) : c = 56 := by
  unfold begB at h
  have h1 := beq_iff_eq.1 h
  rw [List.take_succ_cons, List.length_cons] at h1
  unfold pre at h1
  rw [List.take_succ_cons] at h1
  exact (List.cons.inj h1).1
theorem skip_junk {X : List UInt8} (hX : begB X = true) (hn : X ≠ []) : ∀ (J : List UInt8), (∀ c ∈ J, c ≠ 56) → skip (J ++ X) = J.length
  | [], _ => by
    cases X with
    | nil => exact absurd rfl hn
    | cons c r => unfold skip; rw [List.nil_append]; simp only [hX, if_true]; rfl
  | c :: r, h => by
    rw [List.cons_append]
    unfold skip
    rw [if_neg (fun e => h c (by simp) (beg_head e)), skip_junk hX hn r (fun x hx => h x (by simp [hx])), List.length_cons]
theorem next_junk {X J : List UInt8} (hX : begB X = true) (hn : X ≠ []) (hJ : J ≠ []) (h : ∀ c ∈ J, c ≠ 56) : nextY (J ++ X) = (2, [], J.length) := by
  cases J with
  | nil => exact absurd rfl hJ
  | cons c r =>
    have hb : begB (c :: (r ++ X)) = false := by
      cases e : begB (c :: (r ++ X))
      · rfl
      · exact absurd (beg_head e) (h c (by simp))
    unfold nextY
    rw [if_neg (by simp), List.cons_append, if_pos hb]
    unfold junkN
    rw [List.drop_succ_cons, List.drop_zero, skip_junk hX hn r (fun x hx => h x (by simp [hx])), List.length_cons, Nat.add_comm]

/-- a length's text -/
theorem len_text {n : Nat} (h0 : n ≠ 0) (h1 : n ≤ 8000) : (showL n).all isD = true ∧ (showL n).length ≤ 4 ∧ dval 0 (showL n) = n ∧ (∃ d r, showL n = d :: r ∧ d ≠ 48) := by
  have ⟨_, a, b, c, d, r, e, f⟩ := tag_show (t := (n : Int)) (by omega) (by omega)
  exact ⟨a, b, by rw [c]; omega, d, r, e, fun h => f (by rw [h]; rfl)⟩
/-- the parts of bytes that begin with the beginning, a length's text and a byte 1 -/
theorem parts_at {n : Nat} (h0 : n ≠ 0) (h1 : n ≤ 8000) (R : List UInt8) {b : List UInt8} (hb : b = pre ++ (showL n ++ 1 :: R)) :
    b ≠ [] ∧ begB b = true ∧ b.length = 12 + ((showL n).length + 1 + R.length) ∧ lenT b = (showL n).length ∧ lenV b = n ∧ b[12]? ≠ some 48 ∧ b[12 + lenT b]? = some 1 ∧ bodyAt b = R.take n ∧ (showL n).length ≠ 0 := by
  have ⟨s1, s2, s3, d, r, s4, s5⟩ := len_text h0 h1
  have hd : b.drop 12 = showL n ++ 1 :: R := by rw [hb]; exact List.drop_left (l₁ := pre)
  have ht : TagAt (showL n ++ 1 :: R) (showL n).length n := ⟨by rw [List.length_append]; omega, s2, by rw [List.take_left]; exact s1, by rw [List.take_left]; exact s3.symm⟩
  have h1' : (showL n ++ 1 :: R)[(showL n).length]? = some 1 := by rw [List.getElem?_append_right (Nat.le_refl _), Nat.sub_self]; rfl
  have hl : lenT b = (showL n).length := by
    unfold lenT
    rw [hd]
    exact ht.len (.inr (.inr ⟨1, h1', by decide⟩))
  have hlen : b.length = 12 + ((showL n).length + 1 + R.length) := by
    rw [hb, List.length_append, List.length_append, List.length_cons]
    show 12 + _ = _
    omega
  have hg : ∀ i, b[12 + i]? = (showL n ++ 1 :: R)[i]? := fun i => by rw [← hd, List.getElem?_drop]
  refine ⟨fun e => by rw [e] at hlen; simp at hlen; omega, by rw [hb]; exact beg_pre _, hlen, hl, ?_, ?_, ?_, ?_, by rw [s4]; simp⟩
  · unfold lenV
    rw [hl, hd, List.take_left, s3]
  · have := hg 0
    rw [Nat.add_zero] at this
    rw [this, s4]
    show some d ≠ some 48
    exact fun e => s5 (Option.some.inj e)
  · rw [hl, hg, h1']
  · have hv : lenV b = n := by
      unfold lenV
      rw [hl, hd, List.take_left, s3]
    unfold bodyAt
    rw [hl, hd, hv, List.drop_append, List.drop_eq_nil_of_le (by omega)]
    simp
theorem tail_len (s : Nat) : (tailY s).length = 7 := rfl
theorem frame_eq (y : List UInt8) : frameY y = pre ++ (showL y.length ++ 1 :: (y ++ tailY (sumN (headY y)))) := by
  unfold frameY
  have e : headY y = pre ++ (showL y.length ++ 1 :: y) := by unfold headY; simp
  conv => lhs; rw [show headY y ++ tailY (sumN (headY y)) = (pre ++ (showL y.length ++ 1 :: y)) ++ tailY (sumN (headY y)) by rw [← e]]
  simp
theorem frame_len (y : List UInt8) : (frameY y).length = 12 + (showL y.length).length + 1 + y.length + 7 := by
  rw [frame_eq]
  simp only [List.length_append, List.length_cons, tail_len]
  show 12 + _ = _
  omega
/-- what is put is found -/
theorem next_frame {y : List UInt8} (h : putE y = 0) (more : List UInt8) : nextY (frameY y ++ more) = (1, y, (frameY y).length) := by
  have ⟨h0, h1, h2⟩ := putE_ok h
  have hb : frameY y ++ more = pre ++ (showL y.length ++ 1 :: (y ++ (tailY (sumN (headY y)) ++ more))) := by rw [frame_eq]; simp
  obtain ⟨p1, p2, p3, p4, p5, p6, p7, p8, p9⟩ := parts_at h0 h1 _ hb
  have ha : allAt (frameY y ++ more) = (frameY y).length := by unfold allAt; rw [p4, p5, frame_len]
  have hl : (frameY y).length ≤ (frameY y ++ more).length := by rw [List.length_append]; omega
  have hy : bodyAt (frameY y ++ more) = y := by rw [p8]; exact List.take_left
  have hf := frame_len y
  unfold nextY
  rw [if_neg p1, if_neg (by rw [p2]; simp), if_neg (by omega), if_neg (by rintro ⟨_, e | e⟩; exact p6 e; omega), if_neg (by rw [p4]; omega), if_neg (by rintro (e | e); omega; exact e p7),
    if_neg (by omega), if_pos ⟨by rw [hy]; exact h, by rw [hy, putB_ok h, ha]; exact List.take_left.symm⟩, hy, ha]
theorem dval_take_le : ∀ (l : List UInt8) (k acc : Nat), dval acc (l.take k) ≤ dval acc l
  | [], k, acc => by simp
  | c :: r, 0, acc => by rw [List.take_zero, dval_nil]; exact dval_acc _ _
  | c :: r, k + 1, acc => by rw [List.take_succ_cons, dval_cons, dval_cons]; exact dval_take_le r k _
/-- what is cut off isn't more than the first bytes of one -/
theorem next_cut {y : List UInt8} (h : putE y = 0) {k : Nat} (hk : k < (frameY y).length) : nextY ((frameY y).take k) = (0, [], 0) := by
  have ⟨h0, h1, h2⟩ := putE_ok h
  have ⟨s1, s2, s3, d, r, s4, s5⟩ := len_text h0 h1
  have hf := frame_len y
  have hbl : ((frameY y).take k).length = k := by rw [List.length_take]; omega
  by_cases h12 : k < 12
  · have e : (frameY y).take k = pre.take k := by rw [frame_eq, List.take_append_of_le_length (by show k ≤ 12; omega)]
    have hb : begB (pre.take k) = true := by
      unfold begB
      rw [← e, hbl, List.take_of_length_le (by omega), e]
      exact beq_self_eq_true _
    unfold nextY
    rw [hbl, e]
    by_cases hz : pre.take k = []
    · rw [if_pos hz]
    · rw [if_neg hz, if_neg (by rw [hb]; simp), if_pos h12]
  · obtain ⟨j, rfl⟩ : ∃ j, k = 12 + j := ⟨k - 12, by omega⟩
    have e : (frameY y).take (12 + j) = pre ++ (showL y.length ++ 1 :: (y ++ tailY (sumN (headY y)))).take j := by
      rw [frame_eq]
      exact List.take_length_add_append (l₁ := pre) j
    by_cases hj : j ≤ (showL y.length).length
    · rw [List.take_append_of_le_length hj] at e
      have hd : ((frameY y).take (12 + j)).drop 12 = (showL y.length).take j := by rw [e]; exact List.drop_left (l₁ := pre)
      have htl : ((showL y.length).take j).length = j := by rw [List.length_take]; omega
      have ha : ((showL y.length).take j).all isD = true := by
        rw [List.all_eq_true] at s1 ⊢
        exact fun x hx => s1 x (List.mem_of_mem_take hx)
      have ht : TagAt ((showL y.length).take j) j (dval 0 ((showL y.length).take j)) := ⟨by omega, by omega, by rw [List.take_take, Nat.min_self]; exact ha, by rw [List.take_take, Nat.min_self]⟩
      have hl : lenT ((frameY y).take (12 + j)) = j := by
        unfold lenT
        rw [hd]
        exact ht.len (.inl htl.symm)
      have hv : lenV ((frameY y).take (12 + j)) ≤ y.length := by
        unfold lenV
        rw [hl, hd, List.take_of_length_le (by omega)]
        have := dval_take_le (showL y.length) j 0
        omega
      have hg : j ≠ 0 → ((frameY y).take (12 + j))[12]? ≠ some 48 := by
        intro h
        have e1 : ((frameY y).take (12 + j))[12]? = ((showL y.length).take j)[0]? := by rw [← hd, List.getElem?_drop]
        rw [e1, List.getElem?_take_of_lt (by omega), s4]
        exact fun e => s5 (Option.some.inj e)
      have hb : begB ((frameY y).take (12 + j)) = true := by rw [e]; exact beg_pre _
      have hne : (frameY y).take (12 + j) ≠ [] := fun e => by rw [e] at hbl; simp at hbl; omega
      unfold nextY
      rw [if_neg hne, if_neg (by rw [hb]; simp), if_neg (by omega), if_neg (by rw [hl]; rintro ⟨e1, e2 | e2⟩; exact hg e1 e2; omega), if_pos (by rw [hl, hbl])]
    · have e2 : (showL y.length ++ 1 :: (y ++ tailY (sumN (headY y)))).take j = showL y.length ++ 1 :: (y ++ tailY (sumN (headY y))).take (j - (showL y.length).length - 1) := by
        rw [List.take_append, List.take_of_length_le (by omega)]
        obtain ⟨m, hm⟩ : ∃ m, j - (showL y.length).length = m + 1 := ⟨j - (showL y.length).length - 1, by omega⟩
        rw [hm, List.take_succ_cons, Nat.add_sub_cancel]
      rw [e2] at e
      obtain ⟨p1, p2, p3, p4, p5, p6, p7, p8, p9⟩ := parts_at h0 h1 _ e
      have ha : allAt ((frameY y).take (12 + j)) = (frameY y).length := by unfold allAt; rw [p4, p5, frame_len]
      unfold nextY
      rw [if_neg p1, if_neg (by rw [p2]; simp), if_neg (by omega), if_neg (by rintro ⟨_, e | e⟩; exact p6 e; omega), if_neg (by rw [p4]; omega), if_neg (by rintro (e | e); omega; exact e p7),
        if_pos (by omega)]

end Frm
end Go.Proofs.YtddblaiahgjbaaaDoor
