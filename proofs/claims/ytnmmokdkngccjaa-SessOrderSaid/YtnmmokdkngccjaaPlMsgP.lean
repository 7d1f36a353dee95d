/-
  PLAIN: how the program finds a message: what its kind names, its fields by kind, the first field of each tag. No program in sight.
-/
import Derived.Test.YtnmmokdkngccjaaPlMsgB
import Derived.Test.YtnmmokdkngccjaaFldN
namespace Go.Proofs.Ytnmmokdkngccjaa
namespace Msg
open Num Fld

/-! ### what a kind names -/
def named (m : Ms) : Ms :=
  if m.kind = 1 then {noMs with kind := m.kind, seq := m.seq, time := m.time, copy := m.copy, a := m.a}
  else if m.kind = 2 ∨ m.kind = 3 then {noMs with kind := m.kind, seq := m.seq, time := m.time, copy := m.copy, text := m.text}
  else if m.kind = 4 then {noMs with kind := m.kind, seq := m.seq, time := m.time, copy := m.copy, a := m.a, b := m.b}
  else if m.kind = 5 then {noMs with kind := m.kind, seq := m.seq, time := m.time, copy := m.copy, a := m.a, gap := m.gap}
  else if m.kind = 7 then {noMs with kind := m.kind, seq := m.seq, time := m.time, copy := m.copy, exec := m.exec}
  else {noMs with kind := m.kind, seq := m.seq, time := m.time, copy := m.copy}
def fromB (n : Int) : Bool := decide (n ≠ 0) && smallB n
def partsB (m : Ms) : Bool :=
  if m.kind = 1 then smallB m.a else if m.kind = 2 then textB m.text else if m.kind = 3 then decide (m.text ≠ emp) && textB m.text else if m.kind = 4 then fromB m.a && smallB m.b
  else if m.kind = 5 then fromB m.a else if m.kind = 7 then execB m.exec else true
theorem zero_small : smallB 0 = true := by decide
theorem emp_text : textB emp = true := by decide
theorem one_iff (n : Int) : fromB n = (decide (0 < n) && smallB n) := by
  unfold fromB smallB
  by_cases h : 0 ≤ n
  · by_cases h2 : n = 0
    · subst h2; rfl
    · have h3 : 0 < n := by omega
      simp [h2, h3]
  · have h3 : ¬ 0 < n := by omega
    simp [h, h3]
theorem right_named (m : Ms) : rightM m = (decide (1 ≤ m.kind) && decide (m.kind ≤ 7) && fromB m.seq && timeB m.time && decide (m = named m) && partsB m) := by
  have h0 := zero_small
  have ht := emp_text
  have ha := one_iff m.a
  by_cases h1 : 1 ≤ m.kind
  rotate_left
  · unfold rightM; simp [h1]
  by_cases h7 : m.kind ≤ 7
  rotate_left
  · unfold rightM; simp [h7]
  unfold rightM
  rw [decide_eq_true h1, decide_eq_true h7]
  obtain ⟨k, sq, tm, cp, a, b, g, tx, x⟩ := m
  simp only at *
  have hk : k = 1 ∨ k = 2 ∨ k = 3 ∨ k = 4 ∨ k = 5 ∨ k = 6 ∨ k = 7 := by omega
  have big : ∀ n : Int, fromB n = (decide (n ≠ 0) && smallB n) := fun _ => rfl
  rcases hk with rfl | rfl | rfl | rfl | rfl | rfl | rfl
  all_goals
    simp only [named, partsB, kindA, noMs, Ms.mk.injEq, if_pos, true_and, ha, big sq]
    apply Bool.eq_iff_iff.2
    simp
    constructor
    · grind
    · grind

/-! ### the fields, by kind -/
def fieldsP (m : Ms) : List F :=
  [⟨35, kindS m.kind⟩, numF 34 m.seq, numF 52 m.time] ++ optF m.copy ⟨43, yS⟩ ++
  (if m.kind = 1 then [numF 108 m.a] else if m.kind = 2 ∨ m.kind = 3 then optF (decide (m.text ≠ emp)) ⟨112, m.text⟩ else if m.kind = 4 then [numF 7 m.a, numF 16 m.b]
   else if m.kind = 5 then optF m.gap ⟨123, yS⟩ ++ [numF 36 m.a] else if m.kind = 7 then execF m.exec else [])
theorem fields_p {m : Ms} (h : rightM m = true) : fieldsP m = fieldsM m := by
  obtain ⟨k1, k7, _, _, _, _, _, ex, noex, gap, nob, notext, noa⟩ := parts h
  clear h
  obtain ⟨k, sq, tm, cp, a, b', g, tx, x⟩ := m
  simp only at *
  have hk : k = 1 ∨ k = 2 ∨ k = 3 ∨ k = 4 ∨ k = 5 ∨ k = 6 ∨ k = 7 := by omega
  rcases hk with rfl | rfl | rfl | rfl | rfl | rfl | rfl
  · obtain rfl := noex (by decide); obtain rfl := gap (by decide); obtain rfl := nob (by decide); obtain rfl := notext (by decide) (by decide)
    simp [fieldsP, fieldsM, optF]
  · obtain rfl := noex (by decide); obtain rfl := gap (by decide); obtain rfl := nob (by decide); obtain rfl := noa (by decide) (by decide) (by decide)
    simp [fieldsP, fieldsM, optF]
  · obtain rfl := noex (by decide); obtain rfl := gap (by decide); obtain rfl := nob (by decide); obtain rfl := noa (by decide) (by decide) (by decide)
    simp [fieldsP, fieldsM, optF]
  · obtain rfl := noex (by decide); obtain rfl := gap (by decide); obtain rfl := notext (by decide) (by decide)
    simp [fieldsP, fieldsM, optF]
  · obtain rfl := noex (by decide); obtain rfl := nob (by decide); obtain rfl := notext (by decide) (by decide)
    simp [fieldsP, fieldsM, optF]
  · obtain rfl := noex (by decide); obtain rfl := gap (by decide); obtain rfl := nob (by decide); obtain rfl := notext (by decide) (by decide); obtain rfl := noa (by decide) (by decide) (by decide)
    simp [fieldsP, fieldsM, optF]
  · obtain rfl := gap (by decide); obtain rfl := nob (by decide); obtain rfl := notext (by decide) (by decide); obtain rfl := noa (by decide) (by decide) (by decide)
    simp [fieldsP, fieldsM, optF]

/-! ### the first field of each tag -/
def ofEx (l : List F) : Ex := ⟨getV l 17, getV l 19, getV l 11, getV l 1, getV l 55, numV l 150, decide (getV l 54 = ⟨#[49]⟩), numV l 32, numV l 31, numV l 60⟩
def ofHead (K : Int) (l : List F) : Ms := {noMs with kind := K, seq := numV l 34, time := numV l 52, copy := decide (getV l 43 = yS)}
def ofL (K : Int) (l : List F) : Ms :=
  if K = 1 then {ofHead K l with a := numV l 108} else if K = 2 ∨ K = 3 then {ofHead K l with text := getV l 112} else if K = 4 then {ofHead K l with a := numV l 7, b := numV l 16}
  else if K = 5 then {ofHead K l with a := numV l 36, gap := decide (getV l 123 = yS)} else if K = 7 then {ofHead K l with exec := ofEx l} else ofHead K l
theorem getV_nil (t : Int) : getV [] t = emp := rfl
theorem getV_cons (f : F) (l : List F) (t : Int) : getV (f :: l) t = if f.tag = t then f.val else getV l t := by
  unfold getV getF
  rw [List.find?_cons]
  by_cases h : f.tag = t
  · rw [if_pos h, beq_iff_eq.2 h]; rfl
  · rw [if_neg h, beq_eq_false_iff_ne.2 h]
theorem getV_opt (b : Bool) (f : F) (l : List F) (t : Int) : getV (optF b f ++ l) t = if f.tag = t ∧ b = true then f.val else getV l t := by
  unfold optF
  cases b
  · simp
  · simp only [if_true, List.cons_append, List.nil_append, getV_cons, and_true]
theorem getV_opt' (b : Bool) (f : F) (t : Int) : getV (optF b f) t = if f.tag = t ∧ b = true then f.val else emp := by
  have := getV_opt b f [] t
  rw [List.append_nil] at this
  exact this
theorem numF_tag (t n : Int) : (numF t n).tag = t := rfl
theorem numF_val (t n : Int) : (numF t n).val = showS n := rfl
theorem numV_of {l : List F} {t n : Int} (h : getV l t = showS n) (hn : rightB n = true) : numV l t = n := by
  rw [num_is.1, h]
  exact (show_parse n hn).2
theorem yes_of {b : Bool} : decide ((if b = true then yS else emp) = yS) = b := by
  cases b
  · decide
  · simp
theorem of_exec {x : Ex} (h : execB x = true) (pre : List F) (hp : ∀ t : Int, t ≠ 35 → t ≠ 34 → t ≠ 52 → t ≠ 43 → ∀ l, getV (pre ++ l) t = getV l t) : ofEx (pre ++ execF x) = x := by
  unfold execB at h
  simp only [Bool.and_eq_true, decide_eq_true_eq] at h
  obtain ⟨⟨⟨⟨⟨⟨⟨⟨⟨h1, h2⟩, _⟩, _⟩, _⟩, _⟩, i5⟩, h3⟩, h4⟩, h5⟩ := h
  have n1 := (Num.right_iff x.kind).2 (by omega)
  have n2 := small_right h3
  have n3 := small_right h4
  have n4 := time_right h5
  have s1 : showS 1 = ⟨#[49]⟩ := by decide +kernel
  have s2 : showS 2 = ⟨#[50]⟩ := by decide +kernel
  have g : ∀ t : Int, t ≠ 35 → t ≠ 34 → t ≠ 52 → t ≠ 43 → getV (pre ++ execF x) t = getV (execF x) t := fun t a b c d => hp t a b c d _
  have e : ∀ t : Int, getV (execF x) t = if 17 = t then x.id else if 19 = t ∧ decide (x.ref ≠ emp) = true then x.ref else if 11 = t then x.order else if 1 = t then x.account else if 55 = t then x.symbol else if 54 = t then showS (if x.buy = true then 1 else 2) else if 150 = t then showS x.kind else if 32 = t then showS x.qty else if 31 = t then showS x.price else if 60 = t then showS x.time else emp := by
    intro t
    unfold execF
    rw [List.append_assoc, List.cons_append, List.nil_append, getV_cons, getV_opt]
    simp only [getV_cons, numF_tag, numF_val, getV_nil]
    first | rfl | congr
  have q1 : numV (pre ++ execF x) 150 = x.kind := numV_of (by rw [g _ (by decide) (by decide) (by decide) (by decide), e]; simp) n1
  have q2 : numV (pre ++ execF x) 32 = x.qty := numV_of (by rw [g _ (by decide) (by decide) (by decide) (by decide), e]; simp) n2
  have q3 : numV (pre ++ execF x) 31 = x.price := numV_of (by rw [g _ (by decide) (by decide) (by decide) (by decide), e]; simp) n3
  have q4 : numV (pre ++ execF x) 60 = x.time := numV_of (by rw [g _ (by decide) (by decide) (by decide) (by decide), e]; simp) n4
  have v1 : getV (pre ++ execF x) 17 = x.id := by rw [g _ (by decide) (by decide) (by decide) (by decide), e]; simp
  have v2 : getV (pre ++ execF x) 19 = x.ref := by
    rw [g _ (by decide) (by decide) (by decide) (by decide), e]
    by_cases hr : x.ref = emp
    · simp [hr]
    · simp [hr]
  have v3 : getV (pre ++ execF x) 11 = x.order := by rw [g _ (by decide) (by decide) (by decide) (by decide), e]; simp
  have v4 : getV (pre ++ execF x) 1 = x.account := by rw [g _ (by decide) (by decide) (by decide) (by decide), e]; simp
  have v5 : getV (pre ++ execF x) 55 = x.symbol := by rw [g _ (by decide) (by decide) (by decide) (by decide), e]; simp
  have v6 : decide (getV (pre ++ execF x) 54 = ⟨#[49]⟩) = x.buy := by
    rw [g _ (by decide) (by decide) (by decide) (by decide), e]
    cases x.buy
    · simp only [Int.reduceEq, false_and, if_false, if_true, Bool.false_eq_true, s2]; decide
    · simp [s1]
  unfold ofEx
  rw [q1, q2, q3, q4, v1, v2, v3, v4, v5, v6]
theorem of_fields {m : Ms} (h : rightM m = true) : ofL m.kind (fieldsM m) = m := by
  rw [← fields_p h]
  obtain ⟨k1, k7, hsq, htm, ha, hb, _, ex, noex, gap, nob, notext, noa⟩ := parts h
  clear h
  obtain ⟨k, sq, tm, cp, a, b', g, tx, x⟩ := m
  simp only at *
  have head : ∀ r : List F, (∀ t : Int, t = 34 ∨ t = 52 ∨ t = 43 → getV r t = emp) →
      ofHead k ([⟨35, kindS k⟩, numF 34 sq, numF 52 tm] ++ optF cp ⟨43, yS⟩ ++ r) = ⟨k, sq, tm, cp, 0, 0, false, emp, noEx⟩ := by
    intro r hr
    have e : ∀ t : Int, getV ([⟨35, kindS k⟩, numF 34 sq, numF 52 tm] ++ optF cp ⟨43, yS⟩ ++ r) t = if 35 = t then kindS k else if 34 = t then showS sq else if 52 = t then showS tm else if 43 = t ∧ cp = true then yS else getV r t := by
      intro t
      rw [List.append_assoc]
      simp only [List.cons_append, List.nil_append, getV_cons, numF_tag, numF_val, getV_opt]
    have q1 := numV_of (l := [⟨35, kindS k⟩, numF 34 sq, numF 52 tm] ++ optF cp ⟨43, yS⟩ ++ r) (t := 34) (n := sq) (by rw [e]; simp) hsq
    have q2 := numV_of (l := [⟨35, kindS k⟩, numF 34 sq, numF 52 tm] ++ optF cp ⟨43, yS⟩ ++ r) (t := 52) (n := tm) (by rw [e]; simp) htm
    unfold ofHead
    rw [q1, q2, e, hr 43 (by simp)]
    simp only [Int.reduceEq, if_false, true_and, yes_of, noMs]
  have pre : ∀ t : Int, t ≠ 35 → t ≠ 34 → t ≠ 52 → t ≠ 43 → ∀ l, getV ([⟨35, kindS k⟩, numF 34 sq, numF 52 tm] ++ optF cp ⟨43, yS⟩ ++ l) t = getV l t := by
    intro t a b c d l
    rw [List.append_assoc]
    simp only [List.cons_append, List.nil_append, getV_cons, numF_tag, numF_val, getV_opt, if_neg a.symm, if_neg b.symm, if_neg c.symm]
    rw [if_neg (fun e => d e.1.symm)]
  have hk : k = 1 ∨ k = 2 ∨ k = 3 ∨ k = 4 ∨ k = 5 ∨ k = 6 ∨ k = 7 := by omega
  rcases hk with rfl | rfl | rfl | rfl | rfl | rfl | rfl
  · obtain rfl := noex (by decide); obtain rfl := gap (by decide); obtain rfl := nob (by decide); obtain rfl := notext (by decide) (by decide)
    have hh := head [numF 108 a] (by rintro t (rfl | rfl | rfl) <;> simp [getV_cons, numF_tag, getV_nil])
    have n1 := numV_of (l := [⟨35, kindS 1⟩, numF 34 sq, numF 52 tm] ++ optF cp ⟨43, yS⟩ ++ [numF 108 a]) (t := 108) (n := a) (by rw [pre _ (by decide) (by decide) (by decide) (by decide)]; simp [getV_cons, numF_tag, numF_val]) ha
    simp only [ofL, fieldsP, if_true, hh, n1]
  · obtain rfl := noex (by decide); obtain rfl := gap (by decide); obtain rfl := nob (by decide); obtain rfl := noa (by decide) (by decide) (by decide)
    have hh := head (optF (decide (tx ≠ emp)) ⟨112, tx⟩) (by rintro t (rfl | rfl | rfl) <;> simp [getV_opt'])
    have n1 : getV ([⟨35, kindS 2⟩, numF 34 sq, numF 52 tm] ++ optF cp ⟨43, yS⟩ ++ optF (decide (tx ≠ emp)) ⟨112, tx⟩) 112 = tx := by
      rw [pre _ (by decide) (by decide) (by decide) (by decide), getV_opt']
      by_cases e : tx = emp <;> simp [e]
    simp only [ofL, fieldsP, if_true, hh, n1, Int.reduceEq, if_false, true_or]
  · obtain rfl := noex (by decide); obtain rfl := gap (by decide); obtain rfl := nob (by decide); obtain rfl := noa (by decide) (by decide) (by decide)
    have hh := head (optF (decide (tx ≠ emp)) ⟨112, tx⟩) (by rintro t (rfl | rfl | rfl) <;> simp [getV_opt'])
    have n1 : getV ([⟨35, kindS 3⟩, numF 34 sq, numF 52 tm] ++ optF cp ⟨43, yS⟩ ++ optF (decide (tx ≠ emp)) ⟨112, tx⟩) 112 = tx := by
      rw [pre _ (by decide) (by decide) (by decide) (by decide), getV_opt']
      by_cases e : tx = emp <;> simp [e]
    simp only [ofL, fieldsP, if_true, hh, n1, Int.reduceEq, if_false, or_true]
  · obtain rfl := noex (by decide); obtain rfl := gap (by decide); obtain rfl := notext (by decide) (by decide)
    have hh := head [numF 7 a, numF 16 b'] (by rintro t (rfl | rfl | rfl) <;> simp [getV_cons, numF_tag, getV_nil])
    have n1 := numV_of (l := [⟨35, kindS 4⟩, numF 34 sq, numF 52 tm] ++ optF cp ⟨43, yS⟩ ++ [numF 7 a, numF 16 b']) (t := 7) (n := a) (by rw [pre _ (by decide) (by decide) (by decide) (by decide)]; simp [getV_cons, numF_tag, numF_val]) ha
    have n2 := numV_of (l := [⟨35, kindS 4⟩, numF 34 sq, numF 52 tm] ++ optF cp ⟨43, yS⟩ ++ [numF 7 a, numF 16 b']) (t := 16) (n := b') (by rw [pre _ (by decide) (by decide) (by decide) (by decide)]; simp [getV_cons, numF_tag, numF_val]) hb
    simp only [ofL, fieldsP, if_true, hh, n1, n2, Int.reduceEq, if_false, or_self]
  · obtain rfl := noex (by decide); obtain rfl := nob (by decide); obtain rfl := notext (by decide) (by decide)
    have hh := head (optF g ⟨123, yS⟩ ++ [numF 36 a]) (by rintro t (rfl | rfl | rfl) <;> simp [getV_opt, getV_cons, numF_tag, getV_nil])
    have n1 := numV_of (l := [⟨35, kindS 5⟩, numF 34 sq, numF 52 tm] ++ optF cp ⟨43, yS⟩ ++ (optF g ⟨123, yS⟩ ++ [numF 36 a])) (t := 36) (n := a) (by rw [pre _ (by decide) (by decide) (by decide) (by decide)]; simp [getV_opt, getV_cons, numF_tag, numF_val]) ha
    have n2 : decide (getV ([⟨35, kindS 5⟩, numF 34 sq, numF 52 tm] ++ optF cp ⟨43, yS⟩ ++ (optF g ⟨123, yS⟩ ++ [numF 36 a])) 123 = yS) = g := by
      rw [pre _ (by decide) (by decide) (by decide) (by decide), getV_opt, getV_cons, numF_tag, getV_nil]
      simp only [true_and, Int.reduceEq, if_false, yes_of]
    simp only [ofL, fieldsP, if_true, hh, n1, n2, Int.reduceEq, if_false, or_self]
  · obtain rfl := noex (by decide); obtain rfl := gap (by decide); obtain rfl := nob (by decide); obtain rfl := notext (by decide) (by decide); obtain rfl := noa (by decide) (by decide) (by decide)
    have hh := head [] (fun t _ => getV_nil t)
    simp only [ofL, fieldsP, hh, Int.reduceEq, if_false, or_self]
  · obtain rfl := gap (by decide); obtain rfl := nob (by decide); obtain rfl := notext (by decide) (by decide); obtain rfl := noa (by decide) (by decide) (by decide)
    have hh := head (execF x) (by rintro t (rfl | rfl | rfl) <;> (unfold execF; rw [List.append_assoc, List.cons_append, List.nil_append, getV_cons, getV_opt]; simp [getV_cons, numF_tag, getV_nil]))
    have n1 := of_exec (ex rfl) _ pre
    simp only [ofL, fieldsP, if_true, hh, n1, Int.reduceEq, if_false, or_self]

/-- what is read, as the program finds it -/
theorem read_found {b : List UInt8} {l : List F} (h : parseL b = (l, 0)) (K : Int) (hK : ∀ k, 1 ≤ k → k ≤ 7 → getV l 35 = kindS k → K = k) :
    readB b = if rightM (ofL K l) = true ∧ putB (fieldsM (ofL K l)) = b then (ofL K l, 0) else (noMs, 3) := by
  unfold readB
  rw [h, if_neg (by simp)]
  dsimp only
  by_cases hr : rightM (ofL K l) = true ∧ putB (fieldsM (ofL K l)) = b
  · rw [if_pos hr]
    have e := parse_said hr.1
    rw [hr.2, h] at e
    have e1 : l = fieldsM (ofL K l) := (Prod.mk.injEq .. ▸ e : _ ∧ _).1
    have := read_back hr.1
    rw [← e1] at this
    exact this
  · rw [if_neg hr]
    have hl := (putE_ok (parse_back h).1).2
    by_cases hm : readM l = ((readM l).1, 0)
    · exfalso
      have ⟨r1, r2⟩ := read_forth hl hm
      clear hm
      generalize (readM l).1 = M at r1 r2
      have p := parts r1
      have hk : K = M.kind := hK _ p.k1 p.k7 (by
        obtain ⟨r, e⟩ := said_first (m := M)
        have q : getV (fieldsM M) 35 = kindS M.kind := e ▸ (getV_cons _ _ _).trans (if_pos rfl)
        exact r2 ▸ q)
      have o := of_fields r1
      rw [r2, ← hk] at o
      apply hr
      rw [o, r2]
      exact ⟨r1, (parse_back h).2⟩
    · unfold readM at hm ⊢
      dsimp only at hm ⊢
      split
      · rfl
      · rename_i hc
        rw [if_neg hc] at hm
        exact absurd rfl hm

end Msg
end Go.Proofs.Ytnmmokdkngccjaa
