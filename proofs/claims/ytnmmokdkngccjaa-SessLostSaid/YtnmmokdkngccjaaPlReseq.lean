/-
  PLAIN: what layer 6 (reseq) comes to, as Lean functions on items. No program in sight.
-/
import Derived.Test.YtnmmokdkngccjaaTools
import Derived.Test.YtnmmokdkngccjaaPlMsg
namespace Go.Proofs.Ytnmmokdkngccjaa
namespace Rsq

structure It where
  fr : Int
  to : Int
  m : Msg.Ms
deriving DecidableEq
structure Li where
  next : Int
  held : List It
def top : Int := 2199023255552
def mayI (x : It) : Bool := decide (0 < x.fr) && decide (x.fr < x.to) && decide (x.to ≤ top)
theorem may_iff (x : It) : mayI x = true ↔ 0 < x.fr ∧ x.fr < x.to ∧ x.to ≤ top := by
  unfold mayI; simp only [Bool.and_eq_true, decide_eq_true_eq, and_assoc]
/-- items that may be, their From's rising, all above lo -/
def riseB : Int → List It → Bool
  | _, [] => true
  | lo, y :: r => mayI y && decide (lo < y.fr) && riseB y.fr r
def rightL (l : Li) : Bool := decide (0 < l.next) && decide (l.next ≤ top) && decide (l.held.length ≤ 64) && riseB l.next l.held
theorem right_iff (l : Li) : rightL l = true ↔ 0 < l.next ∧ l.next ≤ top ∧ l.held.length ≤ 64 ∧ riseB l.next l.held = true := by
  unfold rightL; simp only [Bool.and_eq_true, decide_eq_true_eq, and_assoc]
theorem rise_cons {lo : Int} {y : It} {r : List It} : riseB lo (y :: r) = true ↔ mayI y = true ∧ lo < y.fr ∧ riseB y.fr r = true := by
  simp only [riseB, Bool.and_eq_true, decide_eq_true_eq, and_assoc]
theorem rise_low : ∀ {lo lo' : Int} {h : List It}, lo' ≤ lo → riseB lo h = true → riseB lo' h = true
  | _, _, [], _, _ => rfl
  | lo, lo', y :: r, hl, h => by
    rw [rise_cons] at h ⊢
    exact ⟨h.1, by omega, h.2.2⟩
theorem rise_mem : ∀ {lo : Int} {h : List It}, riseB lo h = true → ∀ y ∈ h, mayI y = true ∧ lo < y.fr
  | _, [], _, y, hy => by simp at hy
  | lo, z :: r, h, y, hy => by
    rw [rise_cons] at h
    rcases List.mem_cons.1 hy with rfl | hy
    · exact ⟨h.1, h.2.1⟩
    · have := rise_mem h.2.2 y hy
      exact ⟨this.1, by omega⟩

/-- x in its place -/
def ins (x : It) : List It → List It
  | [] => [x]
  | y :: r => if x.fr < y.fr then x :: y :: r else y :: ins x r
theorem ins_len (x : It) : ∀ h : List It, (ins x h).length = h.length + 1
  | [] => rfl
  | y :: r => by
    unfold ins
    split
    · simp
    · rw [List.length_cons, ins_len x r, List.length_cons]
theorem ins_rise {x : It} (hx : mayI x = true) : ∀ {lo : Int} {h : List It}, lo < x.fr → riseB lo h = true → (∀ y ∈ h, y.fr ≠ x.fr) → riseB lo (ins x h) = true
  | lo, [], hl, _, _ => by unfold ins; rw [rise_cons]; exact ⟨hx, hl, rfl⟩
  | lo, y :: r, hl, h, hn => by
    have h' := rise_cons.1 h
    have hne := hn y (by simp)
    unfold ins
    split
    · rename_i c
      rw [rise_cons, rise_cons]
      exact ⟨hx, hl, h'.1, c, h'.2.2⟩
    · rw [rise_cons]
      exact ⟨h'.1, h'.2.1, ins_rise hx (by omega) h'.2.2 (fun z hz => hn z (by simp [hz]))⟩
theorem ins_mem {x y : It} : ∀ {h : List It}, y ∈ ins x h ↔ y = x ∨ y ∈ h
  | [] => by simp [ins]
  | z :: r => by
    unfold ins
    split
    · simp
    · rw [List.mem_cons, ins_mem, List.mem_cons]
      constructor
      · rintro (h | h | h)
        · exact Or.inr (Or.inl h)
        · exact Or.inl h
        · exact Or.inr (Or.inr h)
      · rintro (h | h | h)
        · exact Or.inr (Or.inl h)
        · exact Or.inl h
        · exact Or.inr (Or.inr h)

/-- what goes out of Held: told, the next number, what is left -/
def drain : Int → List It → List It × Int × List It
  | n, [] => ([], n, [])
  | n, y :: r => if n < y.fr then ([], n, y :: r) else if n < y.to then (y :: (drain y.to r).1, (drain y.to r).2) else drain n r
/-- the same, looked for in all of Held -/
def sift : Int → List It → List It × Int × List It
  | n, [] => ([], n, [])
  | n, y :: r => if n < y.fr then ((sift n r).1, (sift n r).2.1, y :: (sift n r).2.2) else if n < y.to then (y :: (sift y.to r).1, (sift y.to r).2) else sift n r
theorem sift_above : ∀ {n : Int} {h : List It}, riseB n h = true → sift n h = ([], n, h)
  | _, [], _ => rfl
  | n, y :: r, h => by
    rw [rise_cons] at h
    unfold sift
    rw [if_pos h.2.1, sift_above (rise_low (by omega) h.2.2)]
theorem sift_eq : ∀ {lo n : Int} {h : List It}, riseB lo h = true → sift n h = drain n h
  | _, _, [], _ => rfl
  | lo, n, y :: r, h => by
    have h' := rise_cons.1 h
    unfold drain
    split
    · rename_i c
      unfold sift
      rw [if_pos c, sift_above (rise_low (by omega) h'.2.2)]
    · rename_i c
      unfold sift
      rw [if_neg c, sift_eq h'.2.2, sift_eq h'.2.2]

/-- told one behind the other, without a hole, from n to m -/
def Chain : Int → List It → Int → Prop
  | n, [], m => n = m
  | n, y :: r, m => y.fr ≤ n ∧ n < y.to ∧ Chain y.to r m
theorem drain_facts : ∀ {lo n : Int} {h : List It}, riseB lo h = true → 0 < n → n ≤ top →
    Chain n (drain n h).1 (drain n h).2.1 ∧ n ≤ (drain n h).2.1 ∧ (drain n h).2.1 ≤ top ∧ riseB (drain n h).2.1 (drain n h).2.2 = true ∧ (drain n h).2.2.length ≤ h.length ∧ (drain n h).1.length ≤ h.length
  | _, n, [], _, h0, h1 => ⟨rfl, Int.le_refl _, h1, rfl, Nat.le_refl _, Nat.le_refl _⟩
  | lo, n, y :: r, h, h0, h1 => by
    have h' := rise_cons.1 h
    have hy := (may_iff y).1 h'.1
    unfold drain
    split
    · rename_i c
      refine ⟨rfl, Int.le_refl _, h1, ?_, Nat.le_refl _, Nat.zero_le _⟩
      show riseB n (y :: r) = true
      rw [rise_cons]
      exact ⟨h'.1, c, h'.2.2⟩
    · rename_i c
      split
      · rename_i d
        have ⟨f1, f2, f3, f4, f5, f6⟩ := drain_facts (n := y.to) h'.2.2 (by omega) hy.2.2
        refine ⟨⟨by omega, d, f1⟩, ?_, f3, f4, ?_, ?_⟩
        · show n ≤ (drain y.to r).2.1
          omega
        · show (drain y.to r).2.2.length ≤ (y :: r).length
          rw [List.length_cons]; omega
        · show (y :: (drain y.to r).1).length ≤ (y :: r).length
          rw [List.length_cons, List.length_cons]; omega
      · have ⟨f1, f2, f3, f4, f5, f6⟩ := drain_facts (n := n) h'.2.2 h0 h1
        refine ⟨f1, f2, f3, f4, ?_, ?_⟩
        · rw [List.length_cons]; omega
        · rw [List.length_cons]; omega

def has (x : It) (h : List It) : Bool := h.any fun y => y.fr == x.fr
def come (l : Li) (x : It) : Li × List It × Int :=
  if rightL l = false ∨ mayI x = false then (l, [], 0)
  else if x.to ≤ l.next then (l, [], 3)
  else if l.next < x.fr then (if has x l.held = true then (l, [], 3) else if 64 ≤ l.held.length then (l, [], 4) else (⟨l.next, ins x l.held⟩, [], 2))
  else (⟨(drain x.to l.held).2.1, (drain x.to l.held).2.2⟩, x :: (drain x.to l.held).1, 1)
/-- a step: the line stays right, what is told goes on without a hole, and nothing is told but when an item is taken -/
theorem come_step {l : Li} (h : rightL l = true) (x : It) : rightL (come l x).1 = true ∧ Chain l.next (come l x).2.1 (come l x).1.next ∧
    ((come l x).2.2 ≠ 1 → (come l x).2.1 = [] ∧ (come l x).1.next = l.next) ∧ ((come l x).2.2 = 0 → mayI x = false ∧ (come l x).1 = l) := by
  have ⟨r1, r2, r3, r4⟩ := (right_iff l).1 h
  unfold come
  split
  · rename_i c
    refine ⟨h, rfl, fun _ => ⟨rfl, rfl⟩, fun _ => ⟨?_, rfl⟩⟩
    rcases c with c | c
    · rw [h] at c; cases c
    · exact c
  rename_i c
  have hx : mayI x = true := by
    cases e : mayI x with
    | true => rfl
    | false => exact absurd (Or.inr e) c
  have hx' := (may_iff x).1 hx
  split
  · exact ⟨h, rfl, fun _ => ⟨rfl, rfl⟩, fun e => by simp at e⟩
  rename_i c1
  split
  · rename_i c2
    split
    · exact ⟨h, rfl, fun _ => ⟨rfl, rfl⟩, fun e => by simp at e⟩
    rename_i c3
    split
    · exact ⟨h, rfl, fun _ => ⟨rfl, rfl⟩, fun e => by simp at e⟩
    rename_i c4
    refine ⟨(right_iff _).2 ⟨r1, r2, ?_, ?_⟩, rfl, fun _ => ⟨rfl, rfl⟩, fun e => by simp at e⟩
    · show (ins x l.held).length ≤ 64
      rw [ins_len]; omega
    · refine ins_rise hx c2 r4 fun y hy e => c3 ?_
      unfold has
      rw [List.any_eq_true]
      exact ⟨y, hy, by simp [e]⟩
  · rename_i c2
    have ⟨f1, f2, f3, f4, f5, f6⟩ := drain_facts (n := x.to) r4 (by omega) hx'.2.2
    refine ⟨(right_iff _).2 ⟨?_, f3, ?_, f4⟩, ⟨by omega, by omega, f1⟩, fun e => absurd rfl e, fun e => by simp at e⟩
    · show 0 < (drain x.to l.held).2.1
      omega
    · show (drain x.to l.held).2.2.length ≤ 64
      omega

/-! ### items of one number each -/
theorem drain_units : ∀ {lo n : Int} {h : List It}, riseB lo h = true → (∀ y ∈ h, y.to = y.fr + 1 ∧ n ≤ y.fr) →
    (∀ y ∈ (drain n h).1, y ∈ h) ∧ (∀ y ∈ (drain n h).2.2, y ∈ h ∧ (drain n h).2.1 < y.fr) ∧ (∀ y ∈ h, (drain n h).2.1 < y.fr → y ∈ (drain n h).2.2) ∧
    (∀ k, n ≤ k → k < (drain n h).2.1 → ∃ y ∈ h, y.fr = k) ∧ (∀ y ∈ h, y.fr ≠ (drain n h).2.1) ∧ n ≤ (drain n h).2.1
  | _, n, [], _, _ => ⟨by simp [drain], by simp [drain], by simp, fun k a b => by simp only [drain] at b; omega, by simp, Int.le_refl _⟩
  | lo, n, y :: r, h, hu => by
    have h' := rise_cons.1 h
    have ⟨u1, u2⟩ := hu y (by simp)
    unfold drain
    split
    · rename_i c
      have hr : riseB n (y :: r) = true := rise_cons.2 ⟨h'.1, c, h'.2.2⟩
      refine ⟨by simp, fun z hz => ⟨hz, (rise_mem hr z hz).2⟩, fun z hz _ => hz, fun k a b => ?_, fun z hz => ?_, Int.le_refl _⟩
      · have b' : k < n := b
        omega
      · have := (rise_mem hr z hz).2
        show z.fr ≠ n
        omega
    · rename_i c
      rw [if_pos (by omega)]
      have ⟨f1, f2, f3, f4, f5, f6⟩ := drain_units (n := y.to) (h := r) h'.2.2 (fun z hz => ⟨(hu z (by simp [hz])).1, by
        have := (rise_mem h'.2.2 z hz).2
        omega⟩)
      refine ⟨fun z hz => ?_, fun z hz => ?_, fun z hz hm => ?_, fun k a b => ?_, fun z hz => ?_, ?_⟩
      · rcases List.mem_cons.1 hz with rfl | hz
        · simp
        · exact List.mem_cons_of_mem _ (f1 z hz)
      · exact ⟨List.mem_cons_of_mem _ (f2 z hz).1, (f2 z hz).2⟩
      · have hm' : (drain y.to r).2.1 < z.fr := hm
        rcases List.mem_cons.1 hz with rfl | hz
        · omega
        · exact f3 z hz hm'
      · have b' : k < (drain y.to r).2.1 := b
        by_cases e : k = n
        · exact ⟨y, by simp, by omega⟩
        · obtain ⟨z, hz, e2⟩ := f4 k (by omega) b'
          exact ⟨z, List.mem_cons_of_mem _ hz, e2⟩
      · show z.fr ≠ (drain y.to r).2.1
        rcases List.mem_cons.1 hz with rfl | hz
        · omega
        · exact f5 z hz
      · show n ≤ (drain y.to r).2.1
        omega
theorem rise_len : ∀ {lo : Int} {h : List It}, riseB lo h = true → (∀ y ∈ h, y.fr ≤ 60) → h = [] ∨ lo + h.length ≤ 60
  | _, [], _, _ => Or.inl rfl
  | lo, y :: r, h, hu => by
    have h' := rise_cons.1 h
    have hy := hu y (by simp)
    right
    rw [List.length_cons]
    rcases rise_len h'.2.2 (fun z hz => hu z (by simp [hz])) with rfl | h2
    · simp only [List.length_nil]; omega
    · omega

/-- which numbers came -/
def upd (c : Int → Bool) (n : Int) : Int → Bool := fun k => if k = n then true else c k
def Dom (c : Int → Bool) : Prop := ∀ k, c k = true → 0 < k ∧ k ≤ 60
theorem Dom.upd {c : Int → Bool} (h : Dom c) {n : Int} (h1 : 0 < n) (h2 : n ≤ 60) : Dom (upd c n) := by
  intro k hk
  unfold Rsq.upd at hk
  split at hk
  · omega
  · exact h k hk
structure Inv (c : Int → Bool) (l : Li) : Prop where
  right : rightL l = true
  unit : ∀ y ∈ l.held, y.to = y.fr + 1 ∧ c y.fr = true
  held : ∀ n, l.next < n → c n = true → ∃ y ∈ l.held, y.fr = n
  below : ∀ n, 0 < n → n < l.next → c n = true
  missing : c l.next = false
theorem inv_zero : Inv (fun _ => false) ⟨1, []⟩ := ⟨by decide, by simp, by simp, fun n a b => by simp only at b; omega, rfl⟩
theorem upd_old {c : Int → Bool} {n : Int} (h : c n = true) : upd c n = c := by
  funext k
  unfold upd
  split
  · rename_i e; rw [e, h]
  · rfl
theorem order_step {c : Int → Bool} {l : Li} {n : Int} (dom : Dom c) (hi : Inv c l) (m : Msg.Ms) (h1 : 0 < n) (h2 : n ≤ 60) :
    Inv (upd c n) (come l ⟨n, n + 1, m⟩).1 ∧ ((come l ⟨n, n + 1, m⟩).2.2 = 3 ↔ c n = true) ∧ (come l ⟨n, n + 1, m⟩).2.2 ≠ 4 ∧ (come l ⟨n, n + 1, m⟩).2.2 ≠ 0 ∧
    ((come l ⟨n, n + 1, m⟩).2.2 = 1 ↔ (come l ⟨n, n + 1, m⟩).2.1 ≠ []) ∧ ∀ y ∈ (come l ⟨n, n + 1, m⟩).2.1, y.to = y.fr + 1 ∧ upd c n y.fr = true := by
  have hx : mayI ⟨n, n + 1, m⟩ = true := (may_iff _).2 ⟨h1, by show n < n + 1; omega, by show n + 1 ≤ 2199023255552; omega⟩
  have hs := (come_step hi.right ⟨n, n + 1, m⟩).1
  have ⟨r1, r2, r3, r4⟩ := (right_iff l).1 hi.right
  have hc : come l ⟨n, n + 1, m⟩ = if n + 1 ≤ l.next then (l, [], 3)
      else if l.next < n then (if has ⟨n, n + 1, m⟩ l.held = true then (l, [], 3) else if 64 ≤ l.held.length then (l, [], 4) else (⟨l.next, ins ⟨n, n + 1, m⟩ l.held⟩, [], 2))
      else (⟨(drain (n + 1) l.held).2.1, (drain (n + 1) l.held).2.2⟩, ⟨n, n + 1, m⟩ :: (drain (n + 1) l.held).1, 1) := by
    unfold come
    rw [if_neg (by rw [hi.right, hx]; simp)]
  rw [hc] at hs ⊢
  by_cases c1 : n + 1 ≤ l.next
  · have e := hi.below n h1 (by omega)
    rw [if_pos c1, upd_old e]
    exact ⟨hi, by simp [e], by simp, by simp, by simp, by simp⟩
  rw [if_neg c1] at hs ⊢
  by_cases c2 : l.next < n
  · rw [if_pos c2] at hs ⊢
    by_cases c3 : has ⟨n, n + 1, m⟩ l.held = true
    · have e : c n = true := by
        unfold has at c3
        rw [List.any_eq_true] at c3
        obtain ⟨y, hy, he⟩ := c3
        have := (hi.unit y hy).2
        rw [beq_iff_eq] at he
        rw [he] at this
        exact this
      rw [if_pos c3, upd_old e]
      exact ⟨hi, by simp [e], by simp, by simp, by simp, by simp⟩
    · have e : c n = false := by
        cases e : c n with
        | false => rfl
        | true =>
          refine absurd ?_ c3
          unfold has
          rw [List.any_eq_true]
          obtain ⟨y, hy, hf⟩ := hi.held n c2 e
          exact ⟨y, hy, by simp [hf]⟩
      have hl : ¬64 ≤ l.held.length := by
        rcases rise_len r4 (fun y hy => (dom _ (hi.unit y hy).2).2) with h | h
        · rw [h]; simp
        · omega
      rw [if_neg c3, if_neg hl] at hs ⊢
      refine ⟨⟨hs, ?_, ?_, ?_, ?_⟩, by simp [e], by simp, by simp, by simp, by simp⟩
      · intro y hy
        rcases ins_mem.1 hy with rfl | hy
        · exact ⟨rfl, by simp [upd]⟩
        · refine ⟨(hi.unit y hy).1, ?_⟩
          unfold upd
          split
          · rfl
          · exact (hi.unit y hy).2
      · intro k a b
        unfold upd at b
        split at b
        · rename_i ek
          exact ⟨_, ins_mem.2 (.inl rfl), ek.symm⟩
        · obtain ⟨y, hy, hf⟩ := hi.held k a b
          exact ⟨y, ins_mem.2 (.inr hy), hf⟩
      · intro k a b
        unfold upd
        split
        · rfl
        · exact hi.below k a b
      · show upd c n l.next = false
        unfold upd
        rw [if_neg (by omega)]
        exact hi.missing
  · have en : n = l.next := by omega
    have e : c n = false := by rw [en]; exact hi.missing
    rw [if_neg c2] at hs ⊢
    have ⟨f1, f2, f3, f4, f5, f6⟩ := drain_units (n := n + 1) r4 (fun y hy => ⟨(hi.unit y hy).1, by
      have := (rise_mem r4 y hy).2
      omega⟩)
    have up : ∀ y ∈ l.held, upd c n y.fr = true := fun y hy => by
      unfold upd
      split
      · rfl
      · exact (hi.unit y hy).2
    refine ⟨⟨hs, ?_, ?_, ?_, ?_⟩, by simp [e], by simp, by simp, by simp, ?_⟩
    · intro y hy
      exact ⟨(hi.unit y (f2 y hy).1).1, up y (f2 y hy).1⟩
    · intro k a b
      have a' : (drain (n + 1) l.held).2.1 < k := a
      unfold upd at b
      rw [if_neg (by omega)] at b
      obtain ⟨y, hy, hf⟩ := hi.held k (by omega) b
      exact ⟨y, f3 y hy (by rw [hf]; exact a'), hf⟩
    · intro k a b
      have b' : k < (drain (n + 1) l.held).2.1 := b
      unfold upd
      split
      · rfl
      · rename_i kn
        by_cases kl : k < l.next
        · exact hi.below k a kl
        · obtain ⟨y, hy, hf⟩ := f4 k (by omega) b'
          have := (hi.unit y hy).2
          rwa [hf] at this
    · show upd c n (drain (n + 1) l.held).2.1 = false
      unfold upd
      rw [if_neg (by omega)]
      cases em : c (drain (n + 1) l.held).2.1 with
      | false => rfl
      | true =>
        obtain ⟨y, hy, hf⟩ := hi.held _ (by omega) em
        exact absurd hf (f5 y hy)
    · intro y hy
      rcases List.mem_cons.1 hy with rfl | hy
      · exact ⟨rfl, by simp [upd]⟩
      · exact ⟨(hi.unit y (f1 y hy)).1, up y (f1 y hy)⟩

/-- how many of m, m + 1, .. came -/
def cnt (c : Int → Bool) : Nat → Int → Nat
  | 0, _ => 0
  | f + 1, m => (if c m = true then 1 else 0) + cnt c f (m + 1)
theorem cnt_held {c : Int → Bool} (dom : Dom c) : ∀ (f : Nat) (lo : Int) (h : List It), riseB lo h = true → (∀ y ∈ h, c y.fr = true) → (∀ k, lo < k → c k = true → ∃ y ∈ h, y.fr = k) → 60 ≤ lo + f →
    h.length = cnt c f (lo + 1)
  | 0, lo, h, hr, hc, _, hf => by
    cases h with
    | nil => rfl
    | cons y r =>
      have h1 := (rise_cons.1 hr).2.1
      have h2 := (dom _ (hc y (by simp))).2
      omega
  | f + 1, lo, h, hr, hc, hk, hf => by
    unfold cnt
    by_cases e : c (lo + 1) = true
    · rw [if_pos e]
      obtain ⟨ym, hm, hmf⟩ := hk (lo + 1) (by omega) e
      cases h with
      | nil => simp at hm
      | cons y r =>
        have h' := rise_cons.1 hr
        have hy : y.fr = lo + 1 := by
          rcases List.mem_cons.1 hm with rfl | hm
          · exact hmf
          · have h3 := (rise_mem h'.2.2 _ hm).2
            have h4 := h'.2.1
            omega
        have hr' := h'.2.2
        rw [hy] at hr'
        rw [List.length_cons, cnt_held dom f (lo + 1) r hr' (fun z hz => hc z (by simp [hz])) (fun k a b => by
          obtain ⟨z, hz, hf⟩ := hk k (by omega) b
          rcases List.mem_cons.1 hz with rfl | hz
          · omega
          · exact ⟨z, hz, hf⟩) (by omega)]
        omega
    · rw [if_neg e]
      have hr' : riseB (lo + 1) h = true := by
        cases h with
        | nil => rfl
        | cons y r =>
          have h' := rise_cons.1 hr
          rw [rise_cons]
          refine ⟨h'.1, ?_, h'.2.2⟩
          have h1 := h'.2.1
          have h2 := hc y (by simp)
          by_cases e2 : y.fr = lo + 1
          · rw [e2] at h2; exact absurd h2 e
          · omega
      rw [cnt_held dom f (lo + 1) h hr' hc (fun k a b => hk k (by omega) b) (by omega)]
      omega
/-- as many wait as came beyond the next number -/
theorem Inv.waits {c : Int → Bool} {l : Li} (dom : Dom c) (hi : Inv c l) : l.held.length = cnt c (60 - l.next).toNat (l.next + 1) := by
  have ⟨r1, r2, r3, r4⟩ := (right_iff l).1 hi.right
  exact cnt_held dom _ l.next l.held r4 (fun y hy => (hi.unit y hy).2) hi.held (by omega)
theorem Inv.next_le {c : Int → Bool} {l : Li} (dom : Dom c) (hi : Inv c l) : l.next ≤ 61 := by
  have ⟨r1, _, _, _⟩ := (right_iff l).1 hi.right
  apply Int.not_lt.1
  intro h
  have := (dom _ (hi.below 61 (by decide) h)).2
  omega

/-! ### the reference's ways, a step at a time -/
theorem sift_snoc (y : It) : ∀ (n : Int) (h : List It), sift n (h ++ [y]) =
    if (sift n h).2.1 < y.fr then ((sift n h).1, (sift n h).2.1, (sift n h).2.2 ++ [y]) else if (sift n h).2.1 < y.to then ((sift n h).1 ++ [y], y.to, (sift n h).2.2) else sift n h
  | n, [] => by
    simp only [List.nil_append, sift]
    rfl
  | n, z :: r => by
    have h1 := sift_snoc y n r
    have h2 := sift_snoc y z.to r
    rw [List.cons_append]
    unfold sift
    by_cases c1 : n < z.fr
    · simp only [if_pos c1]
      rw [h1]
      split
      · rfl
      · split <;> rfl
    · by_cases c2 : n < z.to
      · simp only [if_neg c1, if_pos c2]
        rw [h2]
        split
        · rfl
        · split <;> rfl
      · simp only [if_neg c1, if_neg c2]
        rw [h1]
/-- x stands in its place already: one more behind -/
theorem ins_snoc {x y : It} : ∀ {h : List It}, (∃ z ∈ h, x.fr < z.fr) → ins x (h ++ [y]) = ins x h ++ [y]
  | [], ⟨_, hz, _⟩ => by cases hz
  | q :: r, ⟨z, hz, hlt⟩ => by
    rw [List.cons_append]
    unfold ins
    by_cases c : x.fr < q.fr
    · rw [if_pos c, if_pos c]; rfl
    · rw [if_neg c, if_neg c]
      have hr : ∃ z ∈ r, x.fr < z.fr := by
        rcases List.mem_cons.1 hz with rfl | h
        · exact absurd hlt c
        · exact ⟨z, h, hlt⟩
      rw [ins_snoc hr]
      rfl
/-- x comes to stand ahead of the last -/
theorem ins_last {x y : It} (hy : x.fr < y.fr) : ∀ {h : List It}, (∀ z ∈ h, z.fr < x.fr) → ins x (h ++ [y]) = h ++ [x] ++ [y]
  | [], _ => by
    simp [ins, hy]
  | q :: r, hh => by
    rw [List.cons_append]
    unfold ins
    have := hh q (by simp)
    rw [if_neg (by omega), ins_last hy fun z hz => hh z (by simp [hz])]
    rfl

/-! ### numbers far ahead, one behind the other -/
def run (m : Msg.Ms) : Int → Nat → List It
  | _, 0 => []
  | f, k + 1 => ⟨f, f + 1, m⟩ :: run m (f + 1) k
theorem run_len (m : Msg.Ms) : ∀ (f : Int) (k : Nat), (run m f k).length = k
  | _, 0 => rfl
  | f, k + 1 => by unfold run; rw [List.length_cons, run_len m (f + 1) k]
theorem run_mem (m : Msg.Ms) : ∀ {f : Int} {k : Nat} {y : It}, y ∈ run m f k → f ≤ y.fr ∧ y.fr < f + k ∧ y.to = y.fr + 1
  | _, 0, y, h => by cases h
  | f, k + 1, y, h => by
    unfold run at h
    rcases List.mem_cons.1 h with rfl | h
    · exact ⟨Int.le_refl _, by show f < f + ((k + 1 : Nat) : Int); omega, rfl⟩
    · have := run_mem m h
      exact ⟨by omega, by omega, this.2.2⟩
theorem run_rise (m : Msg.Ms) : ∀ {lo f : Int} {k : Nat}, lo < f → 0 < f → f + k ≤ top → riseB lo (run m f k) = true
  | _, _, 0, _, _, _ => rfl
  | lo, f, k + 1, h, h0, ht => by
    unfold run
    rw [rise_cons]
    refine ⟨(may_iff _).2 ⟨h0, by show f < f + 1; omega, by show f + 1 ≤ top; omega⟩, h, run_rise m (by show f < f + 1; omega) (by omega) (by omega)⟩
theorem run_snoc (m : Msg.Ms) : ∀ (f : Int) (k : Nat), run m f k ++ [⟨f + k, f + k + 1, m⟩] = run m f (k + 1)
  | f, 0 => by simp [run]
  | f, k + 1 => by
    have h := run_snoc m (f + 1) k
    have e : f + 1 + (k : Int) = f + ((k + 1 : Nat) : Int) := by omega
    rw [e] at h
    show ⟨f, f + 1, m⟩ :: (run m (f + 1) k ++ [⟨f + ((k + 1 : Nat) : Int), f + ((k + 1 : Nat) : Int) + 1, m⟩]) = _
    rw [h]
    rfl
theorem ins_end {x : It} : ∀ {h : List It}, (∀ y ∈ h, y.fr < x.fr) → ins x h = h ++ [x]
  | [], _ => rfl
  | y :: r, h => by
    unfold ins
    rw [if_neg (by have := h y (by simp); omega), ins_end fun z hz => h z (by simp [hz])]
    rfl
theorem drain_run (m : Msg.Ms) : ∀ (f : Int) (k : Nat), drain f (run m f k) = (run m f k, f + k, [])
  | f, 0 => by simp [run, drain]
  | f, k + 1 => by
    unfold run drain
    dsimp only
    rw [if_neg (by omega), if_pos (by omega), drain_run m (f + 1) k]
    dsimp only
    rw [show f + 1 + (k : Int) = f + ((k + 1 : Nat) : Int) by omega]
theorem run_right (m : Msg.Ms) {nx : Int} {k : Nat} (h0 : 0 < nx) (h1 : nx ≤ 1000000) (hk : k ≤ 64) : rightL ⟨nx, run m (nx + 1) k⟩ = true :=
  (right_iff _).2 ⟨h0, by show nx ≤ 2199023255552; omega, by show (run m (nx + 1) k).length ≤ 64; rw [run_len]; exact hk, run_rise m (by show nx < nx + 1; omega) (by omega) (by show nx + 1 + (k : Int) ≤ 2199023255552; omega)⟩
/-- the next of them comes: kept, or there is no room -/
theorem room_step (m : Msg.Ms) {nx : Int} {k : Nat} (h0 : 0 < nx) (h1 : nx ≤ 1000000) (hk : k ≤ 64) (j : Nat) (hj : k = min j 64) (hj2 : j ≤ 1000) :
    come ⟨nx, run m (nx + 1) k⟩ ⟨nx + 1 + j, nx + 1 + j + 1, m⟩ = if j < 64 then (⟨nx, run m (nx + 1) (k + 1)⟩, [], 2) else (⟨nx, run m (nx + 1) k⟩, [], 4) := by
  have hr := run_right m h0 h1 hk
  have hm : mayI ⟨nx + 1 + j, nx + 1 + j + 1, m⟩ = true := (may_iff _).2 ⟨by show 0 < nx + 1 + (j : Int); omega, by show nx + 1 + (j : Int) < nx + 1 + j + 1; omega, by show nx + 1 + (j : Int) + 1 ≤ 2199023255552; omega⟩
  have hh : has ⟨nx + 1 + j, nx + 1 + j + 1, m⟩ (run m (nx + 1) k) = false := by
    unfold has
    rw [List.any_eq_false]
    intro y hy
    have := run_mem m hy
    simp only [beq_iff_eq]
    omega
  unfold come
  rw [if_neg (by rw [hr, hm]; simp)]
  dsimp only
  rw [if_neg (by omega), if_pos (by omega), hh, if_neg (by simp), run_len]
  by_cases c : j < 64
  · obtain rfl : k = j := by omega
    rw [if_pos c, if_neg (by omega), ins_end (fun y hy => (run_mem m hy).2.1), run_snoc]
  · rw [if_neg c, if_pos (by omega)]
/-- the one that is missing comes -/
theorem room_joins (m : Msg.Ms) {nx : Int} {k : Nat} (h0 : 0 < nx) (h1 : nx ≤ 1000000) (hk : k ≤ 64) :
    come ⟨nx, run m (nx + 1) k⟩ ⟨nx, nx + 1, m⟩ = (⟨nx + 1 + k, []⟩, ⟨nx, nx + 1, m⟩ :: run m (nx + 1) k, 1) := by
  have hr := run_right m h0 h1 hk
  have hm : mayI ⟨nx, nx + 1, m⟩ = true := (may_iff _).2 ⟨h0, by show nx < nx + 1; omega, by show nx + 1 ≤ 2199023255552; omega⟩
  unfold come
  rw [if_neg (by rw [hr, hm]; simp)]
  dsimp only
  rw [if_neg (by omega), if_neg (by omega), drain_run]
/-- one that was told comes again -/
theorem room_old (m : Msg.Ms) {nx : Int} {k : Nat} (h0 : 0 < nx) (h1 : nx ≤ 1000000) (hk : k ≤ 64) :
    come ⟨nx, run m (nx + 1) k⟩ ⟨nx - 1, nx, m⟩ = (⟨nx, run m (nx + 1) k⟩, [], if nx = 1 then 0 else 3) := by
  have hr := run_right m h0 h1 hk
  unfold come
  by_cases c : nx = 1
  · have hm : mayI ⟨nx - 1, nx, m⟩ = false := by
      rw [c]; rfl
    rw [if_pos (.inr hm), if_pos c]
  · have hm : mayI ⟨nx - 1, nx, m⟩ = true := (may_iff _).2 ⟨by show 0 < nx - 1; omega, by show nx - 1 < nx; omega, by show nx ≤ 2199023255552; omega⟩
    rw [if_neg (by rw [hr, hm]; simp), if_neg c]
    dsimp only
    rw [if_pos (Int.le_refl _)]

end Rsq
end Go.Proofs.Ytnmmokdkngccjaa
