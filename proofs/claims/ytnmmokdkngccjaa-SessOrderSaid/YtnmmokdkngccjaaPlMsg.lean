/-
  PLAIN: what layer 5 (msg) comes to, as Lean functions on records and fields. No program in sight.
-/
import Derived.Test.YtnmmokdkngccjaaPlField
namespace Go.Proofs.Ytnmmokdkngccjaa
namespace Msg
open Num Fld

/-- an execution, a message -/
structure Ex where
  id : ByteArray
  ref : ByteArray
  order : ByteArray
  account : ByteArray
  symbol : ByteArray
  kind : Int
  buy : Bool
  qty : Int
  price : Int
  time : Int
structure Ms where
  kind : Int
  seq : Int
  time : Int
  copy : Bool
  a : Int
  b : Int
  gap : Bool
  text : ByteArray
  exec : Ex
def emp : ByteArray := ⟨#[]⟩
def noEx : Ex := ⟨emp, emp, emp, emp, emp, 0, false, 0, 0, 0⟩
def noMs : Ms := ⟨0, 0, 0, false, 0, 0, false, emp, noEx⟩

def nameC (c : UInt8) : Bool := (decide (65 ≤ c.toNat) && decide (c.toNat ≤ 90)) || (decide (97 ≤ c.toNat) && decide (c.toNat ≤ 122)) || (decide (48 ≤ c.toNat) && decide (c.toNat ≤ 57))
def nameB (s : ByteArray) : Bool := s.data.toList.all nameC && decide (0 < s.size) && decide (s.size ≤ 16)
def smallB (n : Int) : Bool := decide (0 ≤ n) && decide (n ≤ 1099511627776)
def timeB (n : Int) : Bool := decide (0 ≤ n) && decide (n ≤ 4611686018427387904)
def textB (s : ByteArray) : Bool := (s.data.toList.all fun c => c != 1) && decide (s.size ≤ 64)
def refK (k : Int) : Bool := k == 4 || k == 7 || k == 8
def execB (x : Ex) : Bool :=
  decide (1 ≤ x.kind) && decide (x.kind ≤ 8) && nameB x.id && nameB x.order && nameB x.account && nameB x.symbol && (if refK x.kind = true then nameB x.ref else decide (x.ref = emp)) && smallB x.qty && smallB x.price && timeB x.time
instance : DecidableEq Ex := fun x y => by
  cases x; cases y
  rw [Ex.mk.injEq]
  infer_instance
instance : DecidableEq Ms := fun x y => by
  cases x; cases y
  rw [Ms.mk.injEq]
  infer_instance
def kindA (m : Ms) : Bool :=
  if m.kind = 1 then true else if m.kind = 2 then decide (m.a = 0) else if m.kind = 3 then decide (m.a = 0) && decide (m.text ≠ emp) else if m.kind = 4 ∨ m.kind = 5 then decide (0 < m.a) else decide (m.a = 0)
def rightM (m : Ms) : Bool :=
  decide (1 ≤ m.kind) && decide (m.kind ≤ 7) && decide (m.seq ≠ 0) && smallB m.seq && timeB m.time && smallB m.a && smallB m.b && textB m.text &&
  (if m.kind = 7 then execB m.exec else decide (m.exec = noEx)) && (decide (m.kind = 5) || !m.gap) && (decide (m.kind = 4) || decide (m.b = 0)) && (decide (m.kind = 2) || decide (m.kind = 3) || decide (m.text = emp)) && kindA m

/-- the sign of a kind -/
def kindS (k : Int) : ByteArray := if k = 1 then ⟨#[65]⟩ else if k = 2 then ⟨#[48]⟩ else if k = 3 then ⟨#[49]⟩ else if k = 4 then ⟨#[50]⟩ else if k = 5 then ⟨#[52]⟩ else if k = 6 then ⟨#[53]⟩ else ⟨#[56]⟩
def yS : ByteArray := ⟨#[89]⟩
def numF (t : Int) (n : Int) : F := ⟨t, showS n⟩
def optF (b : Bool) (f : F) : List F := if b = true then [f] else []
def execF (x : Ex) : List F := [⟨17, x.id⟩] ++ optF (decide (x.ref ≠ emp)) ⟨19, x.ref⟩ ++ [⟨11, x.order⟩, ⟨1, x.account⟩, ⟨55, x.symbol⟩, numF 54 (if x.buy = true then 1 else 2), numF 150 x.kind, numF 32 x.qty, numF 31 x.price, numF 60 x.time]
/-- a message's fields -/
def fieldsM (m : Ms) : List F :=
  [⟨35, kindS m.kind⟩, numF 34 m.seq, numF 52 m.time] ++ optF m.copy ⟨43, yS⟩ ++ optF (decide (m.kind = 1)) (numF 108 m.a) ++ optF (decide (m.text ≠ emp)) ⟨112, m.text⟩ ++
  (if m.kind = 4 then [numF 7 m.a, numF 16 m.b] else []) ++ optF m.gap ⟨123, yS⟩ ++ optF (decide (m.kind = 5)) (numF 36 m.a) ++ (if m.kind = 7 then execF m.exec else [])

/-! ### reading fields one behind the other: what is left, and whether something was wrong -/
abbrev Tk := List F × Bool
def take (t : Int) (s : Tk) : ByteArray × Tk := match s.1 with
  | [] => (emp, [], true)
  | f :: r => if f.tag = t then (f.val, r, s.2) else (emp, f :: r, true)
def maybe (t : Int) (s : Tk) : ByteArray × Tk := match s.1 with
  | [] => (emp, s)
  | f :: r => if f.tag = t then (f.val, r, s.2) else (emp, s)
def number (t : Int) (s : Tk) : Int × Tk :=
  let v := take t s
  (parseV v.1.data.toList, v.2.1, v.2.2 || decide (parseE v.1.data.toList ≠ 0))
def yes (t : Int) (s : Tk) : Bool × Tk :=
  let v := maybe t s
  (decide (v.1 = yS), v.2.1, v.2.2 || (decide (v.1 ≠ emp) && decide (v.1 ≠ yS)))

theorem take_hit (t : Int) (v : ByteArray) (r : List F) (b : Bool) : take t (⟨t, v⟩ :: r, b) = (v, r, b) := by unfold take; simp
theorem maybe_hit (t : Int) (v : ByteArray) (r : List F) (b : Bool) : maybe t (⟨t, v⟩ :: r, b) = (v, r, b) := by unfold maybe; simp
theorem number_hit (t n : Int) (h : rightB n = true) (r : List F) (b : Bool) : number t (numF t n :: r, b) = (n, r, b) := by
  unfold number numF
  rw [take_hit]
  have ⟨h1, h2⟩ := show_parse n h
  show (parseV (showL n), r, b || decide (parseE (showL n) ≠ 0)) = _
  rw [h1, h2]
  simp
theorem yes_hit (t : Int) (r : List F) (b : Bool) : yes t (⟨t, yS⟩ :: r, b) = (true, r, b) := by
  unfold yes
  rw [maybe_hit]
  simp
/-- another tag stands there, or none -/
def Not (t : Int) (l : List F) : Prop := ∀ f, l.head? = some f → f.tag ≠ t
theorem maybe_miss {t : Int} {l : List F} (h : Not t l) (b : Bool) : maybe t (l, b) = (emp, l, b) := by
  unfold maybe
  cases l with
  | nil => rfl
  | cons f r =>
    have := h f rfl
    simp [this]
theorem yes_miss {t : Int} {l : List F} (h : Not t l) (b : Bool) : yes t (l, b) = (false, l, b) := by
  unfold yes
  rw [maybe_miss h]
  have h1 : emp ≠ yS := by decide
  simp [h1]

def execR (s : Tk) : Ex × Tk :=
  let id := take 17 s
  let ref := maybe 19 id.2
  let order := take 11 ref.2
  let account := take 1 order.2
  let symbol := take 55 account.2
  let side := take 54 symbol.2
  let kind := number 150 (side.2.1, side.2.2 || (decide (side.1 ≠ ⟨#[49]⟩) && decide (side.1 ≠ ⟨#[50]⟩)))
  let bad := decide (kind.1 < 1) || decide (8 < kind.1)
  let qty := number 32 (kind.2.1, kind.2.2 || bad)
  let price := number 31 qty.2
  let time := number 60 price.2
  (⟨id.1, ref.1, order.1, account.1, symbol.1, if bad = true then 0 else kind.1, decide (side.1 = ⟨#[49]⟩), qty.1, price.1, time.1⟩, time.2)
def kindR (s : ByteArray) : Int := if s = ⟨#[65]⟩ then 1 else if s = ⟨#[48]⟩ then 2 else if s = ⟨#[49]⟩ then 3 else if s = ⟨#[50]⟩ then 4 else if s = ⟨#[52]⟩ then 5 else if s = ⟨#[53]⟩ then 6 else if s = ⟨#[56]⟩ then 7 else 0

theorem kind_back {k : Int} (h1 : 1 ≤ k) (h2 : k ≤ 7) : kindR (kindS k) = k := by
  have h : k = 1 ∨ k = 2 ∨ k = 3 ∨ k = 4 ∨ k = 5 ∨ k = 6 ∨ k = 7 := by omega
  rcases h with rfl | rfl | rfl | rfl | rfl | rfl | rfl <;> decide
theorem kind_forth {s : ByteArray} (h : kindR s ≠ 0) : kindS (kindR s) = s ∧ 1 ≤ kindR s ∧ kindR s ≤ 7 := by
  unfold kindR at *
  by_cases h1 : s = ⟨#[65]⟩
  · subst h1; decide
  by_cases h2 : s = ⟨#[48]⟩
  · subst h2; decide
  by_cases h3 : s = ⟨#[49]⟩
  · subst h3; decide
  by_cases h4 : s = ⟨#[50]⟩
  · subst h4; decide
  by_cases h5 : s = ⟨#[52]⟩
  · subst h5; decide
  by_cases h6 : s = ⟨#[53]⟩
  · subst h6; decide
  by_cases h7 : s = ⟨#[56]⟩
  · subst h7; decide
  · rw [if_neg h1, if_neg h2, if_neg h3, if_neg h4, if_neg h5, if_neg h6, if_neg h7] at h
    exact absurd rfl h

/-! ### reading a whole message -/
def tailR (m : Ms) (s : Tk) : Ms × Tk :=
  if m.kind = 1 then let a := number 108 s; ({m with a := a.1}, a.2)
  else if m.kind = 2 ∨ m.kind = 3 then let t := maybe 112 s; ({m with text := t.1}, t.2)
  else if m.kind = 4 then let a := number 7 s; let b := number 16 a.2; ({m with a := a.1, b := b.1}, b.2)
  else if m.kind = 5 then let g := yes 123 s; let a := number 36 g.2; ({m with gap := g.1, a := a.1}, a.2)
  else if m.kind = 7 then let x := execR s; ({m with exec := x.1}, x.2)
  else (m, s)
def headR (l : List F) : Ms × Tk :=
  let kind := take 35 (l, false)
  let seq := number 34 kind.2
  let time := number 52 seq.2
  let copy := yes 43 time.2
  ({noMs with kind := kindR kind.1, seq := seq.1, time := time.1, copy := copy.1}, copy.2)
def readP (l : List F) : Ms × Tk := tailR (headR l).1 (headR l).2
def readM (l : List F) : Ms × Int := let r := readP l; if r.2.2 = true ∨ r.2.1 ≠ [] ∨ rightM r.1 = false then (noMs, 3) else (r.1, 0)
def tailF (m : Ms) : List F :=
  optF (decide (m.kind = 1)) (numF 108 m.a) ++ optF (decide (m.text ≠ emp)) ⟨112, m.text⟩ ++
  (if m.kind = 4 then [numF 7 m.a, numF 16 m.b] else []) ++ optF m.gap ⟨123, yS⟩ ++ optF (decide (m.kind = 5)) (numF 36 m.a) ++ (if m.kind = 7 then execF m.exec else [])
def headF (m : Ms) : List F := [⟨35, kindS m.kind⟩, numF 34 m.seq, numF 52 m.time] ++ optF m.copy ⟨43, yS⟩
theorem fields_eq (m : Ms) : fieldsM m = headF m ++ tailF m := by unfold fieldsM headF tailF; simp only [List.append_assoc]

/-! ### what is said is read as it was -/
structure Parts (m : Ms) : Prop where
  k1 : 1 ≤ m.kind
  k7 : m.kind ≤ 7
  seq : rightB m.seq = true
  time : rightB m.time = true
  a : rightB m.a = true
  b : rightB m.b = true
  text : textB m.text = true
  exec : m.kind = 7 → execB m.exec = true
  noexec : m.kind ≠ 7 → m.exec = noEx
  gap : m.kind ≠ 5 → m.gap = false
  nob : m.kind ≠ 4 → m.b = 0
  notext : m.kind ≠ 2 → m.kind ≠ 3 → m.text = emp
  noa : m.kind ≠ 1 → m.kind ≠ 4 → m.kind ≠ 5 → m.a = 0
theorem small_right {n : Int} (h : smallB n = true) : rightB n = true := by
  unfold smallB at h
  simp only [Bool.and_eq_true, decide_eq_true_eq] at h
  exact (Num.right_iff n).2 (by omega)
theorem time_right {n : Int} (h : timeB n = true) : rightB n = true := by
  unfold timeB at h
  simp only [Bool.and_eq_true, decide_eq_true_eq] at h
  exact (Num.right_iff n).2 (by omega)
theorem parts {m : Ms} (h : rightM m = true) : Parts m := by
  unfold rightM at h
  simp only [Bool.and_eq_true, decide_eq_true_eq, Bool.or_eq_true, Bool.not_eq_true'] at h
  obtain ⟨⟨⟨⟨⟨⟨⟨⟨⟨⟨⟨⟨h1, h2⟩, _⟩, h3⟩, h4⟩, h5⟩, h6⟩, h7⟩, h8⟩, h9⟩, h10⟩, h11⟩, h12⟩ := h
  refine ⟨h1, h2, small_right h3, time_right h4, small_right h5, small_right h6, h7, ?_, ?_, ?_, ?_, ?_, ?_⟩
  · intro k; rw [if_pos k] at h8; exact h8
  · intro k; rw [if_neg k] at h8; simpa using h8
  · intro k; exact h9.resolve_left k
  · intro k; exact h10.resolve_left k
  · intro k k'
    rcases h11 with (h | h) | h
    · exact absurd h k
    · exact absurd h k'
    · exact h
  · intro k k' k''
    unfold kindA at h12
    rw [if_neg k] at h12
    by_cases e2 : m.kind = 2
    · rw [if_pos e2] at h12; simpa using h12
    by_cases e3 : m.kind = 3
    · rw [if_neg e2, if_pos e3, Bool.and_eq_true] at h12; simpa using h12.1
    · rw [if_neg e2, if_neg e3, if_neg (by omega)] at h12; simpa using h12

theorem take_num (t n : Int) (r : List F) (b : Bool) : take t (numF t n :: r, b) = (showS n, r, b) := by unfold numF; exact take_hit _ _ _ _
theorem exec_back {x : Ex} (h : execB x = true) (b : Bool) : execR (execF x, b) = (x, [], b) := by
  unfold execB at h
  simp only [Bool.and_eq_true, decide_eq_true_eq] at h
  obtain ⟨⟨⟨⟨⟨⟨⟨⟨⟨h1, h2⟩, _⟩, _⟩, _⟩, _⟩, _⟩, h3⟩, h4⟩, h5⟩ := h
  have n1 := number_hit 150 x.kind ((Num.right_iff _).2 (by omega))
  have n2 := number_hit 32 x.qty (small_right h3)
  have n3 := number_hit 31 x.price (small_right h4)
  have n4 := number_hit 60 x.time (time_right h5)
  have s1 : showS 1 = ⟨#[49]⟩ := by decide +kernel
  have s2 : showS 2 = ⟨#[50]⟩ := by decide +kernel
  have r : maybe 19 (optF (decide (x.ref ≠ emp)) ⟨19, x.ref⟩ ++ [⟨11, x.order⟩, ⟨1, x.account⟩, ⟨55, x.symbol⟩, numF 54 (if x.buy = true then 1 else 2), numF 150 x.kind, numF 32 x.qty, numF 31 x.price, numF 60 x.time], b) =
      (x.ref, [⟨11, x.order⟩, ⟨1, x.account⟩, ⟨55, x.symbol⟩, numF 54 (if x.buy = true then 1 else 2), numF 150 x.kind, numF 32 x.qty, numF 31 x.price, numF 60 x.time], b) := by
    by_cases e : x.ref = emp
    · rw [maybe_miss (by rw [e]; intro f hf; simp [optF] at hf; subst hf; simp), e]; simp [optF]
    · simp only [optF, ne_eq, e, not_false_eq_true, decide_true, if_true, List.cons_append, List.nil_append, maybe_hit]
  unfold execR execF
  rw [List.append_assoc, List.cons_append, List.nil_append]
  simp only [take_hit, r, take_num, n1, n2, n3, n4]
  have bad : (decide (x.kind < 1) || decide (8 < x.kind)) = false := by simp; omega
  have sd : (decide (showS (if x.buy = true then 1 else 2) ≠ ⟨#[49]⟩) && decide (showS (if x.buy = true then 1 else 2) ≠ ⟨#[50]⟩)) = false := by
    cases x.buy
    · simp [s2]
    · simp [s1]
  have by' : decide (showS (if x.buy = true then 1 else 2) = ⟨#[49]⟩) = x.buy := by
    cases x.buy
    · simp only [Bool.false_eq_true, if_false, s2]; decide
    · simp [s1]
  rw [bad, sd, by']
  simp

theorem tail_back {m : Ms} (h : Parts m) (b : Bool) : tailR {m with a := 0, b := 0, gap := false, text := emp, exec := noEx} (tailF m, b) = (m, [], b) := by
  have na := fun t => number_hit t m.a h.a
  have nb := fun t => number_hit t m.b h.b
  obtain ⟨k1, k7, _, _, _, _, _, ex, noex, gap, nob, notext, noa⟩ := h
  obtain ⟨k, sq, tm, cp, a, b', g, tx, x⟩ := m
  simp only at *
  have hk : k = 1 ∨ k = 2 ∨ k = 3 ∨ k = 4 ∨ k = 5 ∨ k = 6 ∨ k = 7 := by omega
  rcases hk with rfl | rfl | rfl | rfl | rfl | rfl | rfl
  · obtain rfl := noex (by decide); obtain rfl := gap (by decide); obtain rfl := nob (by decide); obtain rfl := notext (by decide) (by decide)
    simp [tailR, tailF, optF, na]
  · obtain rfl := noex (by decide); obtain rfl := gap (by decide); obtain rfl := nob (by decide); obtain rfl := noa (by decide) (by decide) (by decide)
    by_cases e : tx = emp
    · subst e; simp [tailR, tailF, optF, maybe]
    · simp [tailR, tailF, optF, e, maybe_hit]
  · obtain rfl := noex (by decide); obtain rfl := gap (by decide); obtain rfl := nob (by decide); obtain rfl := noa (by decide) (by decide) (by decide)
    by_cases e : tx = emp
    · subst e; simp [tailR, tailF, optF, maybe]
    · simp [tailR, tailF, optF, e, maybe_hit]
  · obtain rfl := noex (by decide); obtain rfl := gap (by decide); obtain rfl := notext (by decide) (by decide)
    simp [tailR, tailF, optF, na, nb]
  · obtain rfl := noex (by decide); obtain rfl := nob (by decide); obtain rfl := notext (by decide) (by decide)
    cases g
    · have : yes 123 ([numF 36 a], b) = (false, [numF 36 a], b) := yes_miss (by intro f hf; simp at hf; subst hf; simp [numF]) b
      simp [tailR, tailF, optF, na, this]
    · simp [tailR, tailF, optF, na, yes_hit]
  · obtain rfl := noex (by decide); obtain rfl := gap (by decide); obtain rfl := nob (by decide); obtain rfl := notext (by decide) (by decide); obtain rfl := noa (by decide) (by decide) (by decide)
    simp [tailR, tailF, optF]
  · obtain rfl := gap (by decide); obtain rfl := nob (by decide); obtain rfl := notext (by decide) (by decide); obtain rfl := noa (by decide) (by decide) (by decide)
    simp [tailR, tailF, optF, exec_back (ex rfl)]

theorem tail_not {m : Ms} : Not 43 (tailF m) := by
  intro f hf
  have key : ∀ f ∈ tailF m, f.tag ≠ 43 := by
    intro f hf
    unfold tailF optF execF optF numF at hf
    simp only [List.mem_append] at hf
    rcases hf with ((((hf | hf) | hf) | hf) | hf) | hf
    all_goals (split at hf <;> simp at hf <;> try (subst hf; simp))
    · rcases hf with rfl | rfl <;> simp
    · rcases hf with rfl | ⟨_, rfl⟩ | rfl | rfl | rfl | rfl | rfl | rfl | rfl | rfl <;> simp
  exact key f (List.mem_of_mem_head? hf)
theorem head_back {m : Ms} (h : Parts m) : headR (fieldsM m) = ({m with a := 0, b := 0, gap := false, text := emp, exec := noEx}, tailF m, false) := by
  rw [fields_eq]
  unfold headR headF
  have n1 := number_hit 34 m.seq h.seq
  have n2 := number_hit 52 m.time h.time
  have c : yes 43 (optF m.copy ⟨43, yS⟩ ++ tailF m, false) = (m.copy, tailF m, false) := by
    cases hc : m.copy with
    | false => simp only [optF, Bool.false_eq_true, if_false, List.nil_append]; exact yes_miss tail_not false
    | true => simp only [optF, if_true, List.cons_append, List.nil_append]; exact yes_hit 43 _ _
  simp only [List.cons_append, List.nil_append, take_hit, n1, n2, c, kind_back h.k1 h.k7]
  rfl
theorem read_back {m : Ms} (h : rightM m = true) : readM (fieldsM m) = (m, 0) := by
  have p := parts h
  have e : readP (fieldsM m) = (m, [], false) := by
    unfold readP
    rw [head_back p]
    exact tail_back p false
  unfold readM
  simp [e, h]

/-! ### what is read was said in just these fields -/
theorem take_forth {t : Int} {s : Tk} {v : ByteArray} {r : List F} (h : take t s = (v, r, false)) : s = (⟨t, v⟩ :: r, false) := by
  obtain ⟨l, b⟩ := s
  cases l with
  | nil => simp [take] at h
  | cons f l =>
    unfold take at h
    simp only at h
    split at h
    · rename_i e
      simp only [Prod.mk.injEq] at h
      obtain ⟨rfl, rfl, rfl⟩ := h
      subst e
      rfl
    · simp at h
theorem number_forth {t n : Int} {s : Tk} {r : List F} (h : number t s = (n, r, false)) : s = (numF t n :: r, false) := by
  unfold number at h
  rcases e : take t s with ⟨v, r', b'⟩
  rw [e] at h
  simp only [Prod.mk.injEq, Bool.or_eq_false_iff, decide_eq_false_iff_not, ne_eq, Classical.not_not] at h
  obtain ⟨rfl, rfl, rfl, he⟩ := h
  rw [take_forth e]
  unfold numF showS
  rw [parse_show _ he]
theorem maybe_forth {t : Int} {s : Tk} {v : ByteArray} {r : List F} {b : Bool} (h : maybe t s = (v, r, b)) (hr : s.1.all rightF = true) : s = (optF (decide (v ≠ emp)) ⟨t, v⟩ ++ r, b) := by
  obtain ⟨l, b0⟩ := s
  cases l with
  | nil =>
    simp only [maybe, Prod.mk.injEq] at h
    obtain ⟨rfl, rfl, rfl⟩ := h
    simp [optF]
  | cons f l =>
    unfold maybe at h
    simp only at h
    split at h
    · rename_i e
      simp only [Prod.mk.injEq] at h
      obtain ⟨rfl, rfl, rfl⟩ := h
      subst e
      have hne : f.val ≠ emp := by
        intro e
        simp only [List.all_cons, Bool.and_eq_true] at hr
        have := ((Fld.right_iff f).1 hr.1).2.2.1
        rw [e] at this
        exact absurd this (by decide)
      simp [optF, hne]
    · simp only [Prod.mk.injEq] at h
      obtain ⟨rfl, rfl, rfl⟩ := h
      simp [optF]
theorem yes_forth {t : Int} {s : Tk} {y : Bool} {r : List F} (h : yes t s = (y, r, false)) (hr : s.1.all rightF = true) : s = (optF y ⟨t, yS⟩ ++ r, false) := by
  unfold yes at h
  rcases e : maybe t s with ⟨v, r', b'⟩
  rw [e] at h
  have h1 : emp ≠ yS := by decide
  simp only [Prod.mk.injEq, Bool.or_eq_false_iff] at h
  obtain ⟨hy, rfl, rfl, hv⟩ := h
  rw [maybe_forth e hr]
  subst hy
  by_cases hv' : v = yS
  · subst hv'
    have : yS ≠ emp := fun e => h1 e.symm
    simp [this]
  · have : v = emp := by simpa [hv'] using hv
    subst this
    simp [h1, optF]

theorem take_all (t : Int) {s : Tk} (hr : s.1.all rightF = true) : (take t s).2.1.all rightF = true := by
  obtain ⟨l, b⟩ := s
  cases l with
  | nil => rfl
  | cons f l =>
    unfold take
    simp only
    split
    · simp only [List.all_cons, Bool.and_eq_true] at hr
      exact hr.2
    · exact hr
theorem maybe_all (t : Int) {s : Tk} (hr : s.1.all rightF = true) : (maybe t s).2.1.all rightF = true := by
  obtain ⟨l, b⟩ := s
  cases l with
  | nil => rfl
  | cons f l =>
    unfold maybe
    simp only
    split
    · simp only [List.all_cons, Bool.and_eq_true] at hr
      exact hr.2
    · exact hr
theorem number_all (t : Int) {s : Tk} (hr : s.1.all rightF = true) : (number t s).2.1.all rightF = true := take_all t hr
theorem yes_all (t : Int) {s : Tk} (hr : s.1.all rightF = true) : (yes t s).2.1.all rightF = true := maybe_all t hr

theorem exec_forth {s : Tk} {x : Ex} {r : List F} (h : execR s = (x, r, false)) (hr : s.1.all rightF = true) : s = (execF x ++ r, false) := by
  unfold execR at h
  rcases e1 : take 17 s with ⟨id, r1, b1⟩
  rcases e2 : maybe 19 (r1, b1) with ⟨ref, r2, b2⟩
  rcases e3 : take 11 (r2, b2) with ⟨order, r3, b3⟩
  rcases e4 : take 1 (r3, b3) with ⟨account, r4, b4⟩
  rcases e5 : take 55 (r4, b4) with ⟨symbol, r5, b5⟩
  rcases e6 : take 54 (r5, b5) with ⟨side, r6, b6⟩
  simp only [e1, e2, e3, e4, e5, e6] at h
  rcases e7 : number 150 (r6, b6 || (decide (side ≠ ⟨#[49]⟩) && decide (side ≠ ⟨#[50]⟩))) with ⟨kind, r7, b7⟩
  simp only [e7] at h
  rcases e8 : number 32 (r7, b7 || (decide (kind < 1) || decide (8 < kind))) with ⟨qty, r8, b8⟩
  simp only [e8] at h
  rcases e9 : number 31 (r8, b8) with ⟨price, r9, b9⟩
  simp only [e9] at h
  rcases e10 : number 60 (r9, b9) with ⟨time, r10, b10⟩
  simp only [e10, Prod.mk.injEq] at h
  obtain ⟨rfl, rfl, rfl⟩ := h
  have f10 := number_forth e10
  simp only [Prod.mk.injEq] at f10
  obtain ⟨rfl, rfl⟩ := f10
  have f9 := number_forth e9
  simp only [Prod.mk.injEq] at f9
  obtain ⟨rfl, rfl⟩ := f9
  have f8 := number_forth e8
  rw [Prod.mk.injEq, Bool.or_eq_false_iff] at f8
  obtain ⟨rfl, rfl, bad⟩ := f8
  have f7 := number_forth e7
  rw [Prod.mk.injEq, Bool.or_eq_false_iff] at f7
  obtain ⟨rfl, rfl, sd⟩ := f7
  have f6 := take_forth e6
  simp only [Prod.mk.injEq] at f6
  obtain ⟨rfl, rfl⟩ := f6
  have f5 := take_forth e5
  simp only [Prod.mk.injEq] at f5
  obtain ⟨rfl, rfl⟩ := f5
  have f4 := take_forth e4
  simp only [Prod.mk.injEq] at f4
  obtain ⟨rfl, rfl⟩ := f4
  have f3 := take_forth e3
  simp only [Prod.mk.injEq] at f3
  obtain ⟨rfl, rfl⟩ := f3
  have hr1 : r1.all rightF = true := by
    have := take_all 17 hr
    rw [e1] at this
    exact this
  have f2 := maybe_forth e2 hr1
  rw [Prod.mk.injEq] at f2
  obtain ⟨rfl, rfl⟩ := f2
  rw [take_forth e1, bad]
  unfold execF
  have s1 : showS 1 = ⟨#[49]⟩ := by decide +kernel
  have s2 : showS 2 = ⟨#[50]⟩ := by decide +kernel
  have side' : numF 54 (if decide (side = ⟨#[49]⟩) = true then 1 else 2) = ⟨54, side⟩ := by
    unfold numF
    by_cases h1 : side = ⟨#[49]⟩
    · subst h1; simp [s1]
    · have : side = ⟨#[50]⟩ := by simpa [h1] using sd
      subst this
      have h2 : ¬((⟨#[50]⟩ : ByteArray) = ⟨#[49]⟩) := by decide
      simp [h2, s2]
  simp only [side']
  simp

theorem all_tail {a r : List F} (h : (a ++ r).all rightF = true) : r.all rightF = true := by
  rw [List.all_append, Bool.and_eq_true] at h
  exact h.2

theorem tail_forth {m0 m : Ms} {s : Tk} {r : List F} (h0 : m0 = {noMs with kind := m0.kind, seq := m0.seq, time := m0.time, copy := m0.copy}) (h : tailR m0 s = (m, r, false)) (hr : s.1.all rightF = true) :
    s = (tailF m ++ r, false) ∧ m.kind = m0.kind ∧ m.seq = m0.seq ∧ m.time = m0.time ∧ m.copy = m0.copy := by
  obtain ⟨k, sq, tm, cp, a, b, g, tx, x⟩ := m0
  simp only [noMs, Ms.mk.injEq, true_and] at h0
  obtain ⟨rfl, rfl, rfl, rfl, rfl⟩ := h0
  unfold tailR at h
  simp only at h
  by_cases k1 : k = 1
  · subst k1
    rw [if_pos rfl] at h
    rcases e : number 108 s with ⟨a, r1, b1⟩
    simp only [e, Prod.mk.injEq] at h
    obtain ⟨rfl, rfl, rfl⟩ := h
    rw [number_forth e]
    simp [tailF, optF]
  rw [if_neg k1] at h
  by_cases k2 : k = 2 ∨ k = 3
  · rw [if_pos k2] at h
    rcases e : maybe 112 s with ⟨a, r1, b1⟩
    simp only [e, Prod.mk.injEq] at h
    obtain ⟨rfl, rfl, rfl⟩ := h
    rw [maybe_forth e hr]
    have k4 : k ≠ 4 := by omega
    have k5 : k ≠ 5 := by omega
    have k7 : k ≠ 7 := by omega
    simp [tailF, optF, k1, k4, k5, k7]
  rw [if_neg k2] at h
  by_cases k4 : k = 4
  · subst k4
    rw [if_pos rfl] at h
    rcases e : number 7 s with ⟨a, r1, b1⟩
    rcases e' : number 16 (r1, b1) with ⟨b, r2, b2⟩
    simp only [e, e', Prod.mk.injEq] at h
    obtain ⟨rfl, rfl, rfl⟩ := h
    have f := number_forth e'
    simp only [Prod.mk.injEq] at f
    obtain ⟨rfl, rfl⟩ := f
    rw [number_forth e]
    simp [tailF, optF]
  rw [if_neg k4] at h
  by_cases k5 : k = 5
  · subst k5
    rw [if_pos rfl] at h
    rcases e : yes 123 s with ⟨g, r1, b1⟩
    rcases e' : number 36 (r1, b1) with ⟨b, r2, b2⟩
    simp only [e, e', Prod.mk.injEq] at h
    obtain ⟨rfl, rfl, rfl⟩ := h
    have f := number_forth e'
    simp only [Prod.mk.injEq] at f
    obtain ⟨rfl, rfl⟩ := f
    rw [yes_forth e hr]
    simp [tailF, optF]
  rw [if_neg k5] at h
  by_cases k7 : k = 7
  · subst k7
    rw [if_pos rfl] at h
    rcases e : execR s with ⟨x, r1, b1⟩
    simp only [e, Prod.mk.injEq] at h
    obtain ⟨rfl, rfl, rfl⟩ := h
    rw [exec_forth e hr]
    simp [tailF, optF]
  rw [if_neg k7] at h
  simp only [Prod.mk.injEq] at h
  obtain ⟨rfl, rfl⟩ := h
  simp [tailF, optF, k1, k4, k5, k7]
theorem read_forth {l : List F} {m : Ms} (hr : l.all rightF = true) (h : readM l = (m, 0)) : rightM m = true ∧ fieldsM m = l := by
  unfold readM at h
  simp only at h
  split at h
  · simp at h
  rename_i hn
  simp only [not_or, Bool.not_eq_true, ne_eq, Classical.not_not, Bool.not_eq_false] at hn
  obtain ⟨n1, n2, n3⟩ := hn
  simp only [Prod.mk.injEq, and_true] at h
  subst h
  refine ⟨n3, ?_⟩
  rcases e : readP l with ⟨m, r, b⟩
  rw [e] at n1 n2 n3
  simp only at n1 n2 n3
  subst n1 n2
  have p := parts n3
  unfold readP at e
  unfold headR at e
  rcases e1 : take 35 (l, false) with ⟨kd, r1, b1⟩
  rcases e2 : number 34 (r1, b1) with ⟨sq, r2, b2⟩
  rcases e3 : number 52 (r2, b2) with ⟨tm, r3, b3⟩
  rcases e4 : yes 43 (r3, b3) with ⟨cp, r4, b4⟩
  simp only [e1, e2, e3, e4] at e
  have a1 : r1.all rightF = true := by
    have := take_all 35 (s := (l, false)) hr
    rw [e1] at this; exact this
  have a2 : r2.all rightF = true := by
    have := number_all 34 (s := (r1, b1)) a1
    rw [e2] at this; exact this
  have a3 : r3.all rightF = true := by
    have := number_all 52 (s := (r2, b2)) a2
    rw [e3] at this; exact this
  have a4 : r4.all rightF = true := by
    have := yes_all 43 (s := (r3, b3)) a3
    rw [e4] at this; exact this
  have ⟨t1, t2, t3, t4, t5⟩ := tail_forth rfl e a4
  simp only [Prod.mk.injEq] at t1
  obtain ⟨rfl, rfl⟩ := t1
  have f4 := yes_forth e4 a3
  simp only [Prod.mk.injEq] at f4
  obtain ⟨rfl, rfl⟩ := f4
  have f3 := number_forth e3
  simp only [Prod.mk.injEq] at f3
  obtain ⟨rfl, rfl⟩ := f3
  have f2 := number_forth e2
  simp only [Prod.mk.injEq] at f2
  obtain ⟨rfl, rfl⟩ := f2
  have f1 := take_forth e1
  simp only [Prod.mk.injEq, and_true] at f1
  simp only at t2 t3 t4 t5
  have hk := (kind_forth (s := kd) (by rw [← t2]; have := p.k1; omega)).1
  rw [fields_eq, f1]
  unfold headF
  rw [t2, t3, t4, t5, hk]
  simp

/-! ### a message's fields may be put -/
theorem num_may (t n : Int) (h0 : 0 < t) (h1 : t < 10000) (hn : 0 ≤ n) (hr : rightB n = true) : rightF (numF t n) = true := by
  have e : showL n = Lib.decDigits n.toNat := by
    unfold showL
    rw [if_pos hr, itoa_nn n hn]
  have hb := (Num.right_iff n).1 hr
  have hl : (showS n).data.toList = Lib.decDigits n.toNat := by unfold showS; rw [e]
  have hs : (showS n).size = (Lib.decDigits n.toNat).length := by rw [← hl, Array.length_toList]; rfl
  refine (Fld.right_iff _).2 ⟨h0, h1, ?_, ?_, ?_⟩
  · show 0 < (showS n).size
    obtain ⟨d, r, e', _⟩ := dec_head n.toNat
    rw [hs, e']; simp
  · show (showS n).size ≤ 256
    rw [hs, Lib.decDigits_length]
    have := nDigits_le 18 n.toNat (by have : (10 : Nat) ^ (18 + 1) = 10000000000000000000 := by decide
                                      omega)
    omega
  · show ∀ c ∈ (showS n).data.toList, c ≠ 1
    rw [hl]
    intro c hc
    exact isD_ne_one (List.all_eq_true.1 (dec_all _) c hc)
theorem name_may (t : Int) (s : ByteArray) (h0 : 0 < t) (h1 : t < 10000) (h : nameB s = true) : rightF ⟨t, s⟩ = true := by
  unfold nameB at h
  simp only [Bool.and_eq_true, decide_eq_true_eq, List.all_eq_true] at h
  refine (Fld.right_iff _).2 ⟨h0, h1, h.1.2, ?_, ?_⟩
  · have := h.2; show s.size ≤ 256; omega
  · intro c hc e
    have := h.1.1 c hc
    subst e
    exact absurd this (by decide)
theorem size_pos {s : ByteArray} (h : s ≠ emp) : 0 < s.size := by
  apply Nat.pos_of_ne_zero
  intro e
  apply h
  obtain ⟨⟨l⟩⟩ := s
  have : l = [] := by simpa [ByteArray.size] using e
  subst this
  rfl
theorem text_may (t : Int) (s : ByteArray) (h0 : 0 < t) (h1 : t < 10000) (h : textB s = true) (hne : s ≠ emp) : rightF ⟨t, s⟩ = true := by
  unfold textB at h
  simp only [Bool.and_eq_true, decide_eq_true_eq, List.all_eq_true, bne_iff_ne] at h
  refine (Fld.right_iff _).2 ⟨h0, h1, size_pos hne, ?_, h.1⟩
  have := h.2; show s.size ≤ 256; omega
theorem opt_may {b : Bool} {f : F} (h : b = true → rightF f = true) : (optF b f).all rightF = true := by
  unfold optF
  cases b with
  | false => rfl
  | true => simp [h rfl]
theorem opt_len (b : Bool) (f : F) : (optF b f).length ≤ 1 := by
  unfold optF; split <;> simp

structure Nn (m : Ms) : Prop where
  seq : 0 ≤ m.seq
  time : 0 ≤ m.time
  a : 0 ≤ m.a
  b : 0 ≤ m.b
theorem nn {m : Ms} (h : rightM m = true) : Nn m := by
  unfold rightM smallB timeB at h
  simp only [Bool.and_eq_true, decide_eq_true_eq] at h
  obtain ⟨⟨⟨⟨⟨⟨⟨⟨⟨⟨_, h3⟩, h4⟩, h5⟩, h6⟩, _⟩, _⟩, _⟩, _⟩, _⟩, _⟩ := h
  exact ⟨h3.1, h4.1, h5.1, h6.1⟩
theorem exec_may {x : Ex} (h : execB x = true) : (execF x).all rightF = true ∧ (execF x).length ≤ 10 := by
  have hb := h
  unfold execB at h
  simp only [Bool.and_eq_true, decide_eq_true_eq] at h
  obtain ⟨⟨⟨⟨⟨⟨⟨⟨⟨h1, h2⟩, i1⟩, i2⟩, i3⟩, i4⟩, i5⟩, h3⟩, h4⟩, h5⟩ := h
  have q := small_right h3
  have p := small_right h4
  have t := time_right h5
  unfold smallB at h3 h4
  unfold timeB at h5
  simp only [Bool.and_eq_true, decide_eq_true_eq] at h3 h4 h5
  have sd : rightF (numF 54 (if x.buy = true then 1 else 2)) = true := by
    cases x.buy
    · exact num_may _ _ (by decide) (by decide) (by decide) (by decide)
    · exact num_may _ _ (by decide) (by decide) (by decide) (by decide)
  have rf : (optF (decide (x.ref ≠ emp)) ⟨19, x.ref⟩).all rightF = true := opt_may fun hr => by
    have hr := of_decide_eq_true hr
    split at i5
    · exact name_may _ _ (by decide) (by decide) i5
    · exact absurd (of_decide_eq_true i5) hr
  constructor
  · unfold execF
    simp only [List.all_append, List.all_cons, List.all_nil, Bool.and_true, Bool.and_eq_true]
    exact ⟨⟨name_may _ _ (by decide) (by decide) i1, rf⟩, name_may _ _ (by decide) (by decide) i2, name_may _ _ (by decide) (by decide) i3, name_may _ _ (by decide) (by decide) i4, sd,
      num_may _ _ (by decide) (by decide) (by omega) ((Num.right_iff _).2 (by omega)), num_may _ _ (by decide) (by decide) h3.1 q, num_may _ _ (by decide) (by decide) h4.1 p, num_may _ _ (by decide) (by decide) h5.1 t⟩
  · unfold execF
    have := opt_len (decide (x.ref ≠ emp)) ⟨19, x.ref⟩
    simp only [List.length_append, List.length_cons, List.length_nil]
    omega
theorem yS_may (t : Int) (h0 : 0 < t) (h1 : t < 10000) : rightF ⟨t, yS⟩ = true := (Fld.right_iff _).2 ⟨h0, h1, by show 0 < yS.size; decide, by show yS.size ≤ 256; decide, by show ∀ c ∈ yS.data.toList, c ≠ 1; decide⟩
theorem kindS_may (k : Int) : rightF ⟨35, kindS k⟩ = true := by
  unfold kindS
  repeat' split
  all_goals decide
theorem fields_may {m : Ms} (h : rightM m = true) : (fieldsM m).all rightF = true ∧ 3 ≤ (fieldsM m).length ∧ (fieldsM m).length ≤ 20 := by
  have p := parts h
  have n := nn h
  have e : (if m.kind = 7 then execF m.exec else []).all rightF = true ∧ (if m.kind = 7 then execF m.exec else []).length ≤ 10 := by
    by_cases k : m.kind = 7
    · rw [if_pos k]; exact exec_may (p.exec k)
    · rw [if_neg k]; exact ⟨rfl, Nat.zero_le _⟩
  have two : (if m.kind = 4 then [numF 7 m.a, numF 16 m.b] else []).all rightF = true ∧ (if m.kind = 4 then [numF 7 m.a, numF 16 m.b] else []).length ≤ 2 := by
    by_cases k : m.kind = 4
    · rw [if_pos k]
      simp only [List.all_cons, List.all_nil, Bool.and_true, Bool.and_eq_true]
      exact ⟨⟨num_may _ _ (by decide) (by decide) n.a p.a, num_may _ _ (by decide) (by decide) n.b p.b⟩, by simp⟩
    · rw [if_neg k]; exact ⟨rfl, Nat.zero_le _⟩
  constructor
  · unfold fieldsM
    simp only [List.all_append, List.all_cons, List.all_nil, Bool.and_true, Bool.and_eq_true]
    refine ⟨⟨⟨⟨⟨⟨⟨⟨kindS_may _, num_may _ _ (by decide) (by decide) n.seq p.seq, num_may _ _ (by decide) (by decide) n.time p.time⟩, ?_⟩, ?_⟩, ?_⟩, two.1⟩, ?_⟩, ?_⟩, e.1⟩
    · exact opt_may fun _ => yS_may _ (by decide) (by decide)
    · exact opt_may fun _ => num_may _ _ (by decide) (by decide) n.a p.a
    · exact opt_may fun ht => text_may _ _ (by decide) (by decide) p.text (of_decide_eq_true ht)
    · exact opt_may fun _ => yS_may _ (by decide) (by decide)
    · exact opt_may fun _ => num_may _ _ (by decide) (by decide) n.a p.a
  · unfold fieldsM
    have o1 := opt_len m.copy ⟨43, yS⟩
    have o2 := opt_len (decide (m.kind = 1)) (numF 108 m.a)
    have o3 := opt_len (decide (m.text ≠ emp)) ⟨112, m.text⟩
    have o4 := opt_len m.gap ⟨123, yS⟩
    have o5 := opt_len (decide (m.kind = 5)) (numF 36 m.a)
    have e2 := e.2
    have two2 := two.2
    simp only [List.length_append, List.length_cons, List.length_nil]
    omega
theorem fields_put {m : Ms} (h : rightM m = true) : putE (fieldsM m) = 0 ∧ putB (fieldsM m) = bytesL (fieldsM m) := by
  have ⟨a, _, b⟩ := fields_may h
  have : putE (fieldsM m) = 0 := by
    unfold putE
    rw [if_neg (by omega), if_pos a]
  refine ⟨this, ?_⟩
  unfold putB
  rw [if_pos this]

/-! ### the whole of it: bytes -/
def putM (m : Ms) : List UInt8 × Int := if rightM m = true then (putB (fieldsM m), 0) else ([], 1)
def readB (b : List UInt8) : Ms × Int := if (parseL b).2 ≠ 0 then (noMs, (parseL b).2) else readM (parseL b).1
/-- what is said is read as it was -/
theorem said {m : Ms} (h : (putM m).2 = 0) : rightM m = true ∧ readB (putM m).1 = (m, 0) := by
  unfold putM at *
  by_cases hr : rightM m = true
  · rw [if_pos hr]
    refine ⟨hr, ?_⟩
    have ⟨p1, p2⟩ := fields_put hr
    have hb : parseL (putB (fieldsM m)) = (fieldsM m, 0) := by
      have := back_two (a := fieldsM m) (b := []) p1 (by decide) (by have := (fields_may hr).2.2; simp only [List.length_nil]; omega)
      simpa [show putB ([] : List F) = [] from by decide] using this
    unfold readB
    simp only [hb, read_back hr]
    simp
  · rw [if_neg hr] at h
    simp at h
/-- what is read was said in just these bytes -/
theorem heard {b : List UInt8} {m : Ms} (h : readB b = (m, 0)) : rightM m = true ∧ putM m = (b, 0) := by
  unfold readB at h
  split at h
  · rename_i hne
    simp only [Prod.mk.injEq] at h
    exact absurd h.2 hne
  rename_i he
  have he : (parseL b).2 = 0 := Classical.not_not.1 he
  have ⟨p1, p2⟩ := parse_back (b := b) (l := (parseL b).1) (by rw [← he])
  have hall : ((parseL b).1).all rightF = true := by
    unfold putE at p1
    split at p1
    · simp at p1
    split at p1
    · assumption
    · simp at p1
  have ⟨r1, r2⟩ := read_forth hall h
  refine ⟨r1, ?_⟩
  unfold putM
  rw [if_pos r1, r2, p2]
theorem unheard {b : List UInt8} (h : (readB b).2 ≠ 0) : (readB b).1 = noMs := by
  unfold readB at *
  split at h
  · rename_i hne; rw [if_pos hne]
  · rename_i he
    rw [if_neg he]
    unfold readM at *
    simp only at *
    split at h
    · rename_i hc; rw [if_pos hc]
    · simp at h

end Msg
end Go.Proofs.Ytnmmokdkngccjaa
