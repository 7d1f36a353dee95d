/-
  PLAIN: what layer 7 (sess) comes to, as Lean functions. No program in sight. (Begun: the functions alone.)
  PLAIN: layer 7: what it is to be right; dropped and connected again (SessKeeps); silence (SessLost).
  PLAIN: layer 7: whatever is done with a session: what is told rises, what is said may be said and rises (SessOrder).
  PLAIN: layer 7: what is lost is asked for, batch by batch, till all is told (SessFills).
  PLAIN: layer 7: how much an act tells and says at most.
-/
import Derived.Test.YtnmmokdkngccjaaPlReseq
import Derived.Test.YtnmmokdkngccjaaRsqG

namespace Go.Proofs.Ytnmmokdkngccjaa
namespace Ses
open Num

/-- a session -/
structure Se where
  state : Int
  inn : Rsq.Li
  out : Int
  every : Int
  heard : Int
  said : Int
  asked : Int
  when : Int
  tested : Bool
def timeS (n : Int) : Bool := decide (0 ≤ n) && decide (n ≤ 4611686018427387904)
def rightS (s : Se) : Bool :=
  (decide (s.state = 0) || decide (s.state = 1) || decide (s.state = 2)) && Rsq.rightL s.inn && decide (0 < s.out) && decide (s.out ≤ 1099511627776) && decide (0 < s.every) && decide (s.every ≤ 1048576) &&
  timeS s.heard && timeS s.said && timeS s.asked && timeS s.when
def say (s : Se) (said : List Msg.Ms) (m : Msg.Ms) (now : Int) : Se × List Msg.Ms :=
  if 1099511627776 ≤ s.out then (s, said) else ({s with out := s.out + 1, said := now}, said ++ [{m with seq := s.out, time := now}])
/-- the lesser of the last missing one and nine more -/
def upTo (f t : Int) : Int := if f + 9 < t then f + 9 else t
def ask (s : Se) (said : List Msg.Ms) (now : Int) : Se × List Msg.Ms :=
  match s.inn.held with
  | [] => (s, said)
  | y :: _ =>
    if s.state ≠ 2 then (s, said)
    else if s.inn.next ≤ s.asked then (s, said)
    else
      let b := upTo s.inn.next (y.fr - 1)
      let r := say s said {Msg.noMs with kind := 4, a := s.inn.next, b := b} now
      ({r.1 with asked := b, when := now}, r.2)
def connect (s : Se) (now : Int) : Se × List Msg.Ms × Int :=
  if rightS s = false ∨ timeS now = false then (s, [], 1)
  else if s.state ≠ 0 then (s, [], 8)
  else
    let r := say {s with state := 1, heard := now, asked := 0, tested := false} [] {Msg.noMs with kind := 1, a := s.every} now
    (r.1, r.2, 0)
/-- the item of a message -/
def itemS (m : Msg.Ms) : Rsq.It := ⟨m.seq, if m.kind = 5 ∧ m.seq + 1 < m.a then m.a else m.seq + 1, m⟩
def reports (l : List Rsq.It) : List Msg.Ms := (l.filter fun i => decide (i.m.kind = 7)).map Rsq.It.m
def comeS (s : Se) (m : Msg.Ms) (now : Int) : Se × List Msg.Ms × List Msg.Ms × Bool × Int :=
  if rightS s = false ∨ Msg.rightM m = false ∨ timeS now = false then (s, [], [], false, 1)
  else if s.state = 0 ∨ (s.state = 1 ∧ m.kind ≠ 1) then (s, [], [], false, 8)
  else
    let s1 := {s with state := 2, heard := now, tested := false}
    if m.kind = 5 ∧ m.gap = false then ({s1 with state := 0}, [], [], true, 0)
    else
      let r1 := if m.kind = 3 then say s1 [] {Msg.noMs with kind := 2, text := m.text} now else (s1, [])
      let said := if m.kind = 4 ∧ m.a < r1.1.out then r1.2 ++ [{Msg.noMs with kind := 5, seq := m.a, time := now, copy := true, a := r1.1.out, gap := true}] else r1.2
      let c := Rsq.come r1.1.inn (itemS m)
      let r2 := ask {r1.1 with inn := c.1} said now
      (if m.kind = 6 then {r2.1 with state := 0} else r2.1, r2.2, reports c.2.1, false, 0)
def tick (s : Se) (now : Int) : Se × List Msg.Ms × Int :=
  if rightS s = false ∨ timeS now = false then (s, [], 1)
  else if s.state = 0 then (s, [], 0)
  else if 3 * s.every ≤ now - s.heard then ({s with state := 0}, [], 0)
  else if s.state = 1 then (s, [], 0)
  else
    let r1 := if 2 * s.every ≤ now - s.heard ∧ s.tested = false then
        let r := say s [] {Msg.noMs with kind := 3, text := ⟨#[116]⟩} now
        ({r.1 with tested := true}, r.2)
      else (s, [])
    let r2 := if r1.1.every ≤ now - r1.1.said then say r1.1 r1.2 {Msg.noMs with kind := 2} now else r1
    let r3 := if r2.1.inn.held ≠ [] ∧ r2.1.every ≤ now - r2.1.when then ask {r2.1 with asked := 0} r2.2 now else r2
    (r3.1, r3.2, 0)
def drop (s : Se) : Se := if rightS s = true then {s with state := 0, inn := ⟨s.inn.next, []⟩} else s
def newS (every : Int) : Se × Int := if 0 < every ∧ every ≤ 1048576 then (⟨0, ⟨1, []⟩, 1, every, 0, 0, 0, 0, false⟩, 0) else (⟨0, ⟨0, []⟩, 0, 0, 0, 0, 0, 0, false⟩, 1)

/-! ### first facts -/
theorem say_inn (s : Se) (l : List Msg.Ms) (m : Msg.Ms) (now : Int) : (say s l m now).1.inn = s.inn ∧ (say s l m now).1.state = s.state ∧ s.out ≤ (say s l m now).1.out := by
  unfold say
  split
  · exact ⟨rfl, rfl, Int.le_refl _⟩
  · exact ⟨rfl, rfl, by show s.out ≤ s.out + 1; omega⟩
theorem ask_inn (s : Se) (l : List Msg.Ms) (now : Int) : (ask s l now).1.inn = s.inn ∧ (ask s l now).1.state = s.state ∧ s.out ≤ (ask s l now).1.out := by
  unfold ask
  split
  · exact ⟨rfl, rfl, Int.le_refl _⟩
  · split
    · exact ⟨rfl, rfl, Int.le_refl _⟩
    · split
      · exact ⟨rfl, rfl, Int.le_refl _⟩
      · exact say_inn _ _ _ _

end Ses
end Go.Proofs.Ytnmmokdkngccjaa

namespace Go.Proofs.Ytnmmokdkngccjaa
namespace Ses
open Num

def timeP (n : Int) : Prop := 0 ≤ n ∧ n ≤ 4611686018427387904
theorem timeS_iff (n : Int) : timeS n = true ↔ timeP n := by
  unfold timeS timeP
  simp only [Bool.and_eq_true, decide_eq_true_eq]
theorem rightS_iff (s : Se) : rightS s = true ↔ (s.state = 0 ∨ s.state = 1 ∨ s.state = 2) ∧ Rsq.rightL s.inn = true ∧ 0 < s.out ∧ s.out ≤ 1099511627776 ∧ 0 < s.every ∧ s.every ≤ 1048576 ∧
    timeP s.heard ∧ timeP s.said ∧ timeP s.asked ∧ timeP s.when := by
  unfold rightS
  simp only [Bool.and_eq_true, Bool.or_eq_true, decide_eq_true_eq, timeS_iff, and_assoc, or_assoc]
theorem rightL_nil {nx : Int} (h0 : 0 < nx) (h1 : nx ≤ 2199023255552) : Rsq.rightL ⟨nx, []⟩ = true := (Rsq.right_iff _).2 ⟨h0, h1, Nat.zero_le _, rfl⟩

/-! ### dropped, and connected again -/
def bare (s : Se) : Se := {s with state := 0, inn := ⟨s.inn.next, []⟩}
theorem drop_right {s : Se} (h : rightS s = true) : drop s = bare s := by
  unfold drop
  rw [if_pos h]
  rfl
theorem drop_wrong {s : Se} (h : rightS s = false) : drop s = s := by
  unfold drop
  rw [if_neg (by rw [h]; simp)]
theorem bare_right {s : Se} (h : rightS s = true) : rightS (bare s) = true := by
  have ⟨_, h2, h3⟩ := (rightS_iff s).1 h
  have ⟨l1, l2, _, _⟩ := (Rsq.right_iff _).1 h2
  exact (rightS_iff _).2 ⟨.inl rfl, rightL_nil l1 l2, h3⟩
/-- the session that asks for a logon -/
def asks (s : Se) (now : Int) : Se := {s with state := 1, heard := now, asked := 0, tested := false}
theorem connect_off {s : Se} {now : Int} (h : rightS s = true) (h0 : s.state = 0) (hn : timeS now = true) :
    connect s now = ((say (asks s now) [] {Msg.noMs with kind := 1, a := s.every} now).1, (say (asks s now) [] {Msg.noMs with kind := 1, a := s.every} now).2, 0) := by
  unfold connect
  rw [if_neg (by rw [h, hn]; simp), if_neg (by omega)]
  rfl
theorem connect_full {s : Se} {now : Int} (h : rightS s = true) (h0 : s.state = 0) (hn : timeS now = true) (ho : s.out = 1099511627776) : connect s now = (asks s now, [], 0) := by
  rw [connect_off h h0 hn]
  unfold say
  rw [if_pos (by show 1099511627776 ≤ s.out; omega)]
theorem connect_says {s : Se} {now : Int} (h : rightS s = true) (h0 : s.state = 0) (hn : timeS now = true) (ho : s.out ≠ 1099511627776) :
    connect s now = ({asks s now with out := s.out + 1, said := now}, [{Msg.noMs with kind := 1, a := s.every, seq := s.out, time := now}], 0) := by
  have hb := ((rightS_iff s).1 h).2.2.2.1
  rw [connect_off h h0 hn]
  unfold say
  rw [if_neg (by show ¬ 1099511627776 ≤ s.out; omega)]
  rfl

/-! ### silence -/
/-- behind the logon, with nothing missing: what was said last, and when, and whether it has tested -/
def lostS (n out sd : Int) (td : Bool) : Se := ⟨2, ⟨2, []⟩, out, n, 0, sd, 0, 0, td⟩
theorem timeP_zero : timeP 0 := ⟨by decide, by decide⟩
theorem lost_right {n out sd : Int} {td : Bool} (h1 : 0 < n) (h2 : n ≤ 1048576) (h3 : 0 < out) (h4 : out ≤ 1099511627776) (h5 : timeP sd) : rightS (lostS n out sd td) = true :=
  (rightS_iff _).2 ⟨.inr (.inr rfl), rfl, h3, h4, h1, h2, timeP_zero, h5, timeP_zero, timeP_zero⟩
def testM (out now : Int) : Msg.Ms := {Msg.noMs with kind := 3, text := ⟨#[116]⟩, seq := out, time := now}
def beatM (out now : Int) : Msg.Ms := {Msg.noMs with kind := 2, seq := out, time := now}
def lostT (n now : Int) (td : Bool) : Bool := decide (2 * n ≤ now) && !td
def lostD (n sd now : Int) (td : Bool) : Int := if lostT n now td = true then now else sd
def lostB (n sd now : Int) (td : Bool) : Bool := decide (n ≤ now - lostD n sd now td)
def lostO (n out now : Int) (td : Bool) : Int := if lostT n now td = true then out + 1 else out
/-- what a tick makes of it -/
def lostN (n out sd now : Int) (td : Bool) : Se :=
  lostS n (if lostB n sd now td = true then lostO n out now td + 1 else lostO n out now td) (if lostB n sd now td = true then now else lostD n sd now td) (td || lostT n now td)
def lostM (n out sd now : Int) (td : Bool) : List Msg.Ms := (if lostT n now td = true then [testM out now] else []) ++ (if lostB n sd now td = true then [beatM (lostO n out now td) now] else [])
theorem tick_lost {n out sd now : Int} {td : Bool} (h1 : 0 < n) (h2 : n ≤ 1048576) (h3 : 0 < out) (h4 : out + 1 < 1099511627776) (h5 : timeP sd) (h6 : timeP now) (h7 : now < 3 * n) :
    tick (lostS n out sd td) now = (lostN n out sd now td, lostM n out sd now td, 0) := by
  have hr := lost_right (td := td) h1 h2 h3 (by omega) h5
  have ht := (timeS_iff now).2 h6
  unfold tick
  rw [if_neg (by rw [hr, ht]; simp), if_neg (show ¬ (lostS n out sd td).state = 0 by show ¬ (2 : Int) = 0; decide), if_neg (show ¬ 3 * (lostS n out sd td).every ≤ now - (lostS n out sd td).heard by show ¬ 3 * n ≤ now - 0; omega),
    if_neg (show ¬ (lostS n out sd td).state = 1 by show ¬ (2 : Int) = 1; decide)]
  have e1 : (if 2 * (lostS n out sd td).every ≤ now - (lostS n out sd td).heard ∧ (lostS n out sd td).tested = false then
        (({(say (lostS n out sd td) [] {Msg.noMs with kind := 3, text := ⟨#[116]⟩} now).1 with tested := true} : Se), (say (lostS n out sd td) [] {Msg.noMs with kind := 3, text := ⟨#[116]⟩} now).2)
      else (lostS n out sd td, [])) = (lostS n (lostO n out now td) (lostD n sd now td) (td || lostT n now td), if lostT n now td = true then [testM out now] else []) := by
    have hT : lostT n now td = true ↔ 2 * n ≤ now ∧ td = false := by
      unfold lostT
      simp only [Bool.and_eq_true, decide_eq_true_eq, Bool.not_eq_true']
    unfold lostO lostD
    by_cases c : 2 * n ≤ now ∧ td = false
    · have hc := hT.2 c
      rw [if_pos (by show 2 * n ≤ now - 0 ∧ td = false; exact ⟨by omega, c.2⟩), if_pos hc, if_pos hc, if_pos hc, hc]
      unfold say
      rw [if_neg (by show ¬ 1099511627776 ≤ out; omega), c.2]
      rfl
    · have hc : lostT n now td = false := by
        cases e : lostT n now td
        · rfl
        · exact absurd (hT.1 e) c
      rw [if_neg (by show ¬ (2 * n ≤ now - 0 ∧ td = false); intro h; exact c ⟨by omega, h.2⟩), if_neg (by rw [hc]; simp), if_neg (by rw [hc]; simp), if_neg (by rw [hc]; simp), hc, Bool.or_false]
  dsimp only
  rw [e1]
  have e2 : (if (lostS n (lostO n out now td) (lostD n sd now td) (td || lostT n now td)).every ≤ now - (lostS n (lostO n out now td) (lostD n sd now td) (td || lostT n now td)).said then
        say (lostS n (lostO n out now td) (lostD n sd now td) (td || lostT n now td)) (if lostT n now td = true then [testM out now] else []) {Msg.noMs with kind := 2} now
      else (lostS n (lostO n out now td) (lostD n sd now td) (td || lostT n now td), if lostT n now td = true then [testM out now] else [])) = (lostN n out sd now td, lostM n out sd now td) := by
    have hB : lostB n sd now td = true ↔ n ≤ now - lostD n sd now td := by
      unfold lostB
      rw [decide_eq_true_eq]
    have hO : lostO n out now td ≤ out + 1 := by unfold lostO; split <;> omega
    unfold lostN lostM
    by_cases c : n ≤ now - lostD n sd now td
    · have hc := hB.2 c
      rw [if_pos (by exact c), if_pos hc, if_pos hc, if_pos hc]
      unfold say
      rw [if_neg (by show ¬ 1099511627776 ≤ lostO n out now td; omega)]
      rfl
    · have hc : lostB n sd now td = false := by
        cases e : lostB n sd now td
        · rfl
        · exact absurd (hB.1 e) c
      rw [if_neg (by exact c)]
      simp only [hc, Bool.false_eq_true, if_false, List.append_nil]
  dsimp only at e2 ⊢
  rw [e2]
  rw [if_neg (by intro h; exact h.1 (by unfold lostN lostS; rfl))]
/-- how many of this kind -/
def countK (k : Int) (l : List Msg.Ms) : Nat := (l.filter fun m => decide (m.kind = k)).length
theorem countK_snoc (k : Int) (l : List Msg.Ms) (m : Msg.Ms) : countK k (l ++ [m]) = countK k l + (if m.kind = k then 1 else 0) := by
  unfold countK
  rw [List.filter_append, List.length_append]
  by_cases h : m.kind = k
  · rw [if_pos h, List.filter_cons_of_pos (by simpa using h)]; rfl
  · rw [if_neg h, List.filter_cons_of_neg (by simpa using h)]; rfl
theorem lostM_count (n out sd now : Int) (td : Bool) : countK 3 (lostM n out sd now td) = (if lostT n now td = true then 1 else 0) ∧ countK 2 (lostM n out sd now td) = (if lostB n sd now td = true then 1 else 0) := by
  unfold lostM
  cases lostT n now td <;> cases lostB n sd now td <;> exact ⟨rfl, rfl⟩
/-- how it stands at the beginning of a round: so many tests, so many beats -/
structure Lost (n now out sd : Int) (td : Bool) (tests beats : Nat) : Prop where
  fo : 0 < out ∧ out ≤ 2 * now
  fd : 0 ≤ sd ∧ sd < now
  ft : td = decide (2 * n < now)
  fs : tests = if td = true then 1 else 0
  fe : now ≤ n → sd = 0
  fb : n < now → 1 ≤ beats
  fm : beats ≤ now.toNat
theorem Lost.start {n : Int} (h : 0 < n) : Lost n 1 2 0 false 0 0 := ⟨by omega, by omega, by rw [eq_comm, decide_eq_false_iff_not]; omega, rfl, fun _ => rfl, fun h => by omega, by omega⟩
theorem Lost.next {n now out sd : Int} {td : Bool} {tests beats : Nat} (h : Lost n now out sd td tests beats) (hn : 0 < n) :
    Lost n (now + 1) (lostN n out sd now td).out (lostN n out sd now td).said (lostN n out sd now td).tested (tests + countK 3 (lostM n out sd now td)) (beats + countK 2 (lostM n out sd now td)) ∧
      (lostN n out sd now td).tested = decide (2 * n ≤ now) := by
  obtain ⟨⟨o1, o2⟩, ⟨d1, d2⟩, ht, hs, he, hb, hm⟩ := h
  have ⟨c1, c2⟩ := lostM_count n out sd now td
  rw [c1, c2]
  have hT : lostT n now td = true ↔ now = 2 * n := by
    unfold lostT
    rw [ht]
    simp only [Bool.and_eq_true, decide_eq_true_eq, Bool.not_eq_true', decide_eq_false_iff_not]
    omega
  have hB : lostB n sd now td = true ↔ n ≤ now - lostD n sd now td := by
    unfold lostB
    rw [decide_eq_true_eq]
  have e0 : (lostN n out sd now td).tested = (td || lostT n now td) := rfl
  have e1 : (lostN n out sd now td).out = if lostB n sd now td = true then lostO n out now td + 1 else lostO n out now td := rfl
  have e2 : (lostN n out sd now td).said = if lostB n sd now td = true then now else lostD n sd now td := rfl
  have e3 : (td || lostT n now td) = decide (2 * n ≤ now) := by
    rw [Bool.eq_iff_iff, Bool.or_eq_true, hT, ht, decide_eq_true_eq, decide_eq_true_eq]
    omega
  rw [e0, e1, e2]
  refine ⟨?_, e3⟩
  unfold lostO lostD at *
  by_cases c : now = 2 * n
  · have hc := hT.2 c
    have htd : td = false := by rw [ht, decide_eq_false_iff_not]; omega
    simp only [hc, if_true] at hB ⊢
    have hB' : lostB n sd now td = false := by
      cases e : lostB n sd now td
      · rfl
      · have := hB.1 e; omega
    simp only [hB', Bool.false_eq_true, if_false]
    rw [htd] at hs ⊢
    simp only [Bool.false_eq_true, if_false] at hs
    refine ⟨by omega, by omega, ?_, by rw [hs]; rfl, fun h => by omega, fun _ => ?_, by omega⟩
    · rw [Bool.false_or, eq_comm, decide_eq_true_eq]; omega
    · have := hb (by omega); omega
  · have hc : lostT n now td = false := by
      cases e : lostT n now td
      · rfl
      · exact absurd (hT.1 e) c
    simp only [hc, Bool.false_eq_true, if_false] at hB ⊢
    rw [hc] at e3
    rw [Bool.or_false] at e3 ⊢
    by_cases c2 : n ≤ now - sd
    · have hB' := hB.2 c2
      simp only [hB', if_true]
      refine ⟨by omega, by omega, ?_, by rw [hs, Nat.add_zero], fun h => by omega, fun _ => by omega, by omega⟩
      rw [e3, Bool.eq_iff_iff, decide_eq_true_eq, decide_eq_true_eq]; omega
    · have hB' : lostB n sd now td = false := by
        cases e : lostB n sd now td
        · rfl
        · exact absurd (hB.1 e) c2
      simp only [hB', Bool.false_eq_true, if_false]
      refine ⟨by omega, by omega, ?_, by rw [hs, Nat.add_zero], fun h => he (by omega), fun h => ?_, by omega⟩
      · rw [e3, Bool.eq_iff_iff, decide_eq_true_eq, decide_eq_true_eq]; omega
      · rcases Int.lt_or_le n now with h1 | h1
        · have := hb h1; omega
        · have := he h1; omega
/-- too long ago -/
theorem tick_gone {n out sd now : Int} {td : Bool} (h1 : 0 < n) (h2 : n ≤ 1048576) (h3 : 0 < out) (h4 : out ≤ 1099511627776) (h5 : timeP sd) (h6 : timeP now) (h7 : 3 * n ≤ now) :
    tick (lostS n out sd td) now = ({lostS n out sd td with state := 0}, [], 0) := by
  have hr := lost_right (td := td) h1 h2 h3 h4 h5
  have ht := (timeS_iff now).2 h6
  unfold tick
  rw [if_neg (by rw [hr, ht]; simp), if_neg (show ¬ (lostS n out sd td).state = 0 by show ¬ (2 : Int) = 0; decide), if_pos (show 3 * (lostS n out sd td).every ≤ now - (lostS n out sd td).heard by show 3 * n ≤ now - 0; omega)]

end Ses
end Go.Proofs.Ytnmmokdkngccjaa

namespace Go.Proofs.Ytnmmokdkngccjaa
namespace Ses
open Num Rsq

/-! ### messages that a session says may be -/
theorem small_of {n : Int} (h0 : 0 ≤ n) (h1 : n ≤ 1099511627776) : Msg.smallB n = true := by
  unfold Msg.smallB
  rw [decide_eq_true h0, decide_eq_true h1]; rfl
theorem time_of {n : Int} (h : timeP n) : Msg.timeB n = true := by
  unfold Msg.timeB
  rw [decide_eq_true h.1, decide_eq_true h.2]; rfl
theorem textB_emp : Msg.textB Msg.emp = true := by decide
theorem textB_t : Msg.textB ⟨#[116]⟩ = true := by decide
theorem right_logon {o now e : Int} (h0 : 0 < o) (h1 : o ≤ 1099511627776) (hn : timeP now) (e0 : 0 < e) (e1 : e ≤ 1048576) : Msg.rightM {Msg.noMs with kind := 1, a := e, seq := o, time := now} = true := by
  have hs := small_of (Int.le_of_lt h0) h1
  have ha := small_of (n := e) (Int.le_of_lt e0) (by omega)
  have hz : o ≠ 0 := by omega
  simp [Msg.rightM, Msg.noMs, hs, ha, time_of hn, textB_emp, hz, Msg.kindA]
  try decide
theorem right_beat {o now : Int} {t : ByteArray} (h0 : 0 < o) (h1 : o ≤ 1099511627776) (hn : timeP now) (ht : Msg.textB t = true) : Msg.rightM {Msg.noMs with kind := 2, text := t, seq := o, time := now} = true := by
  have hs := small_of (Int.le_of_lt h0) h1
  have hz : o ≠ 0 := by omega
  simp [Msg.rightM, Msg.noMs, hs, time_of hn, ht, hz, Msg.kindA]
  try decide
theorem right_test {o now : Int} (h0 : 0 < o) (h1 : o ≤ 1099511627776) (hn : timeP now) : Msg.rightM {Msg.noMs with kind := 3, text := ⟨#[116]⟩, seq := o, time := now} = true := by
  have hs := small_of (Int.le_of_lt h0) h1
  have hz : o ≠ 0 := by omega
  simp [Msg.rightM, Msg.noMs, hs, time_of hn, textB_t, hz, Msg.kindA]
  try decide
theorem right_resend {o now a b : Int} (h0 : 0 < o) (h1 : o ≤ 1099511627776) (hn : timeP now) (a0 : 0 < a) (a1 : a ≤ 1099511627776) (b0 : 0 ≤ b) (b1 : b ≤ 1099511627776) :
    Msg.rightM {Msg.noMs with kind := 4, a := a, b := b, seq := o, time := now} = true := by
  have hs := small_of (Int.le_of_lt h0) h1
  have ha := small_of (Int.le_of_lt a0) a1
  have hb := small_of b0 b1
  have hz : o ≠ 0 := by omega
  simp [Msg.rightM, Msg.noMs, hs, ha, hb, time_of hn, textB_emp, hz, Msg.kindA, a0]
  try decide
theorem right_reset {o now a : Int} (h0 : 0 < o) (h1 : o ≤ 1099511627776) (hn : timeP now) (a0 : 0 < a) (a1 : a ≤ 1099511627776) :
    Msg.rightM {Msg.noMs with kind := 5, seq := o, time := now, copy := true, a := a, gap := true} = true := by
  have hs := small_of (Int.le_of_lt h0) h1
  have ha := small_of (Int.le_of_lt a0) a1
  have hz : o ≠ 0 := by omega
  simp [Msg.rightM, Msg.noMs, hs, ha, time_of hn, textB_emp, hz, Msg.kindA, a0]
  try decide
/-- what a message that may be has -/
structure Fair (m : Msg.Ms) : Prop where
  seq : 0 < m.seq ∧ m.seq ≤ 1099511627776
  a : 0 ≤ m.a ∧ m.a ≤ 1099511627776
  text : Msg.textB m.text = true
  ask : m.kind = 4 → 0 < m.a
theorem fair_of {m : Msg.Ms} (h : Msg.rightM m = true) : Fair m := by
  unfold Msg.rightM Msg.smallB at h
  simp only [Bool.and_eq_true, decide_eq_true_eq] at h
  obtain ⟨⟨⟨⟨⟨⟨⟨⟨⟨⟨⟨⟨_, _⟩, h3⟩, h4⟩, _⟩, h6⟩, _⟩, h8⟩, _⟩, _⟩, _⟩, _⟩, h13⟩ := h
  refine ⟨⟨by omega, h4.2⟩, h6, h8, fun hk => ?_⟩
  unfold Msg.kindA at h13
  rw [if_neg (by omega), if_neg (by omega), if_neg (by omega), if_pos (.inl hk)] at h13
  exact of_decide_eq_true h13

/-! ### what is said: numbers that rise by one, but answers -/
def Said (now : Int) : Int → List Msg.Ms → Int → Prop
  | o, [], p => o = p
  | o, m :: r, p => Msg.rightM m = true ∧ m.time = now ∧ ((m.kind = 5 ∧ Said now o r p) ∨ (m.kind ≠ 5 ∧ m.seq = o + 1 ∧ Said now (o + 1) r p))
theorem Said.snoc {now : Int} {m : Msg.Ms} : ∀ {o p : Int} {l : List Msg.Ms}, Said now o l p → Msg.rightM m = true → m.time = now → m.kind ≠ 5 → m.seq = p + 1 → Said now o (l ++ [m]) (p + 1)
  | _, _, [], h, h1, h2, h3, h4 => by
    obtain rfl : _ = _ := h
    exact ⟨h1, h2, .inr ⟨h3, h4, rfl⟩⟩
  | _, _, _ :: _, ⟨g1, g2, g3⟩, h1, h2, h3, h4 => by
    rcases g3 with ⟨g3, g4⟩ | ⟨g3, g4, g5⟩
    · exact ⟨g1, g2, .inl ⟨g3, g4.snoc h1 h2 h3 h4⟩⟩
    · exact ⟨g1, g2, .inr ⟨g3, g4, g5.snoc h1 h2 h3 h4⟩⟩
theorem Said.answer {now : Int} {m : Msg.Ms} : ∀ {o p : Int} {l : List Msg.Ms}, Said now o l p → Msg.rightM m = true → m.time = now → m.kind = 5 → Said now o (l ++ [m]) p
  | _, _, [], h, h1, h2, h3 => by
    obtain rfl : _ = _ := h
    exact ⟨h1, h2, .inl ⟨h3, rfl⟩⟩
  | _, _, _ :: _, ⟨g1, g2, g3⟩, h1, h2, h3 => by
    rcases g3 with ⟨g3, g4⟩ | ⟨g3, g4, g5⟩
    · exact ⟨g1, g2, .inl ⟨g3, g4.answer h1 h2 h3⟩⟩
    · exact ⟨g1, g2, .inr ⟨g3, g4, g5.answer h1 h2 h3⟩⟩

/-! ### what is told: Reports whose numbers rise -/
def Told : Int → List Msg.Ms → Int → Prop
  | last, [], nx => last < nx
  | last, m :: r, nx => m.kind = 7 ∧ last < m.seq ∧ m.seq < nx ∧ Told m.seq r nx
def ItOk (y : It) : Prop := y.m.seq = y.fr ∧ y.fr ≤ 1099511627776 ∧ (y.m.kind = 7 → y.to = y.fr + 1)
theorem chain_le : ∀ {l : List It} {n m : Int}, Chain n l m → n ≤ m
  | [], _, _, h => by obtain rfl : _ = _ := h; exact Int.le_refl _
  | _ :: _, _, _, h => by have := chain_le h.2.2; have := h.2.1; omega
theorem chain_told : ∀ {l : List It} {n m last : Int}, Chain n l m → (∀ y ∈ l, ItOk y) → last < n → Told last (reports l) m
  | [], _, _, _, h, _, hl => by obtain rfl : _ = _ := h; exact hl
  | y :: r, n, m, last, ⟨h1, h2, h3⟩, hy, hl => by
    have ⟨k1, k2, k3⟩ := hy y (by simp)
    have hr : ∀ z ∈ r, ItOk z := fun z hz => hy z (by simp [hz])
    have hle := chain_le h3
    unfold reports
    by_cases c : y.m.kind = 7
    · have hto := k3 c
      rw [List.filter_cons_of_pos (by simpa using c), List.map_cons]
      refine ⟨c, by omega, by omega, ?_⟩
      exact chain_told h3 hr (by omega)
    · rw [List.filter_cons_of_neg (by simpa using c)]
      exact chain_told h3 hr (by omega)
theorem drain_in : ∀ {n : Int} {h : List It}, (∀ y ∈ (Rsq.drain n h).1, y ∈ h) ∧ (∀ y ∈ (Rsq.drain n h).2.2, y ∈ h)
  | n, [] => ⟨by simp [Rsq.drain], by simp [Rsq.drain]⟩
  | n, y :: r => by
    unfold Rsq.drain
    split
    · exact ⟨by simp, fun z hz => hz⟩
    · split
      · have ⟨h1, h2⟩ := drain_in (n := y.to) (h := r)
        refine ⟨fun z hz => ?_, fun z hz => List.mem_cons_of_mem _ (h2 z hz)⟩
        rcases List.mem_cons.1 hz with rfl | hz
        · simp
        · exact List.mem_cons_of_mem _ (h1 z hz)
      · have ⟨h1, h2⟩ := drain_in (n := n) (h := r)
        exact ⟨fun z hz => List.mem_cons_of_mem _ (h1 z hz), fun z hz => List.mem_cons_of_mem _ (h2 z hz)⟩
theorem come_in (l : Li) (x : It) : (∀ y ∈ (come l x).1.held, y = x ∨ y ∈ l.held) ∧ (∀ y ∈ (come l x).2.1, y = x ∨ y ∈ l.held) := by
  unfold come
  split
  · exact ⟨fun y hy => .inr hy, by simp⟩
  split
  · exact ⟨fun y hy => .inr hy, by simp⟩
  split
  · split
    · exact ⟨fun y hy => .inr hy, by simp⟩
    · split
      · exact ⟨fun y hy => .inr hy, by simp⟩
      · exact ⟨fun y hy => ins_mem.1 hy, by simp⟩
  · have ⟨h1, h2⟩ := drain_in (n := x.to) (h := l.held)
    refine ⟨fun y hy => .inr (h2 y hy), fun y hy => ?_⟩
    rcases List.mem_cons.1 hy with rfl | hy
    · exact .inl rfl
    · exact .inr (h1 y hy)
theorem itemS_ok {m : Msg.Ms} (h : Fair m) : ItOk (itemS m) := by
  refine ⟨rfl, h.seq.2, fun hk => ?_⟩
  have hk : m.kind = 7 := hk
  unfold itemS
  rw [if_neg (by omega)]

/-! ### a session, act by act -/
/-- how a session stands between acts: told up to last, said up to out -/
structure Fit (s : Se) (last out : Int) : Prop where
  right : rightS s = true
  out : s.out = out + 1
  last : last < s.inn.next
  held : ∀ y ∈ s.inn.held, ItOk y
/-- what an act makes of it -/
structure Next (s : Se) (last out now : Int) (n : Se) (said told : List Msg.Ms) : Prop where
  right : rightS n = true
  next : s.inn.next ≤ n.inn.next
  held : ∀ y ∈ n.inn.held, ItOk y
  said : Said now out said (n.out - 1)
  told : Told last told n.inn.next
  most : n.out ≤ s.out + 3
theorem Fit.same {s : Se} {last out : Int} (h : Fit s last out) (now : Int) : Next s last out now s [] [] :=
  ⟨h.right, Int.le_refl _, h.held, by have := h.out; show out = s.out - 1; omega, h.last, by omega⟩
theorem say_small {s : Se} {l : List Msg.Ms} {m : Msg.Ms} {now : Int} (h : s.out < 1099511627776) : say s l m now = ({s with out := s.out + 1, said := now}, l ++ [{m with seq := s.out, time := now}]) := by
  unfold say
  rw [if_neg (by omega)]
theorem right_said {s : Se} {now : Int} (h : rightS s = true) (ho : s.out < 1099511627776) (hn : timeP now) : rightS {s with out := s.out + 1, said := now} = true := by
  have ⟨h1, h2, h3, h4, h5, h6, h7, h8, h9, h10⟩ := (rightS_iff s).1 h
  exact (rightS_iff _).2 ⟨h1, h2, by show 0 < s.out + 1; omega, by show s.out + 1 ≤ 1099511627776; omega, h5, h6, h7, hn, h9, h10⟩
/-- asking -/
theorem ask_next {s : Se} {l : List Msg.Ms} {now o : Int} (hr : rightS s = true) (ho : s.out < 1099511627776) (hn : timeP now) (hh : ∀ y ∈ s.inn.held, ItOk y) (hl : Said now o l (s.out - 1)) :
    rightS (ask s l now).1 = true ∧ Said now o (ask s l now).2 ((ask s l now).1.out - 1) ∧ (ask s l now).1.out ≤ s.out + 1 := by
  have ⟨h1, h2, h3, h4, h5, h6, h7, h8, h9, h10⟩ := (rightS_iff s).1 hr
  unfold ask
  split
  · exact ⟨hr, hl, by show s.out ≤ s.out + 1; omega⟩
  · rename_i y r hy
    split
    · exact ⟨hr, hl, by show s.out ≤ s.out + 1; omega⟩
    · split
      · exact ⟨hr, hl, by show s.out ≤ s.out + 1; omega⟩
      · have ⟨l1, l2, l3, l4⟩ := (Rsq.right_iff _).1 h2
        rw [hy, rise_cons] at l4
        have hy2 := (hh y (by rw [hy]; simp)).2.1
        have hb : s.inn.next ≤ upTo s.inn.next (y.fr - 1) ∧ upTo s.inn.next (y.fr - 1) ≤ y.fr - 1 := by
          unfold upTo
          split <;> omega
        dsimp only
        rw [say_small ho]
        refine ⟨?_, ?_, by show s.out + 1 ≤ s.out + 1; omega⟩
        · exact (rightS_iff _).2 ⟨h1, h2, by show 0 < s.out + 1; omega, by show s.out + 1 ≤ 1099511627776; omega, h5, h6, h7, hn, ⟨by show 0 ≤ upTo _ _; omega, by show upTo _ _ ≤ 4611686018427387904; omega⟩, hn⟩
        · have := hl.snoc (m := {Msg.noMs with kind := 4, a := s.inn.next, b := upTo s.inn.next (y.fr - 1), seq := s.out, time := now}) (right_resend h3 h4 hn l1 (by omega) (by omega) (by omega)) rfl (by show (4 : Int) ≠ 5; decide) (by show s.out = s.out - 1 + 1; omega)
          rw [show s.out - 1 + 1 = s.out + 1 - 1 by omega] at this
          exact this
theorem connect_next {s : Se} {last out now : Int} (h : Fit s last out) (hb : s.out < 1099511627776) : Next s last out now (connect s now).1 (connect s now).2.1 [] := by
  unfold connect
  split
  · exact h.same now
  · rename_i c
    split
    · exact h.same now
    · have hn : timeP now := (timeS_iff now).1 (by
        cases e : timeS now
        · exact absurd (.inr e) c
        · rfl)
      have ⟨h1, h2, h3, h4, h5, h6, h7, h8, h9, h10⟩ := (rightS_iff s).1 h.right
      have hr1 : rightS {s with state := 1, heard := now, asked := 0, tested := false} = true := (rightS_iff _).2 ⟨.inr (.inl rfl), h2, h3, h4, h5, h6, hn, h8, timeP_zero, h10⟩
      dsimp only
      rw [say_small (by exact hb)]
      refine ⟨right_said hr1 hb hn, Int.le_refl _, h.held, ?_, h.last, by show s.out + 1 ≤ s.out + 3; omega⟩
      refine ⟨right_logon h3 h4 hn h5 h6, rfl, .inr ⟨by show (1 : Int) ≠ 5; decide, h.out, ?_⟩⟩
      show out + 1 = s.out + 1 - 1
      have := h.out
      omega
theorem drop_next {s : Se} {last out now : Int} (h : Fit s last out) : Next s last out now (drop s) [] [] := by
  rw [drop_right h.right]
  exact ⟨bare_right h.right, Int.le_refl _, (by intro y hy; cases hy), by have := h.out; show out = s.out - 1; omega, h.last, by show s.out ≤ s.out + 3; omega⟩
theorem come_next {s : Se} {m : Msg.Ms} {last out now : Int} (h : Fit s last out) (hb : s.out + 3 < 1099511627776) : Next s last out now (comeS s m now).1 (comeS s m now).2.1 (comeS s m now).2.2.1 := by
  unfold comeS
  split
  · exact h.same now
  · rename_i c
    split
    · exact h.same now
    · have hn : timeP now := (timeS_iff now).1 (by
        cases e : timeS now
        · exact absurd (.inr (.inr e)) c
        · rfl)
      have hm : Fair m := fair_of (by
        cases e : Msg.rightM m
        · exact absurd (.inr (.inl e)) c
        · rfl)
      have ⟨h1, h2, h3, h4, h5, h6, h7, h8, h9, h10⟩ := (rightS_iff s).1 h.right
      have hout := h.out
      split
      · refine ⟨(rightS_iff _).2 ⟨.inl rfl, h2, h3, h4, h5, h6, hn, h8, h9, h10⟩, Int.le_refl _, h.held, ?_, h.last, by show s.out ≤ s.out + 3; omega⟩
        show out = s.out - 1
        omega
      · -- what is answered to a Test
        obtain ⟨r1, hr1⟩ : ∃ r1, (if m.kind = 3 then say {s with state := 2, heard := now, tested := false} [] {Msg.noMs with kind := 2, text := m.text} now else ({s with state := 2, heard := now, tested := false}, [])) = r1 := ⟨_, rfl⟩
        have hR : rightS {s with state := 2, heard := now, tested := false} = true := (rightS_iff _).2 ⟨.inr (.inr rfl), h2, h3, h4, h5, h6, hn, h8, h9, h10⟩
        have g : rightS r1.1 = true ∧ r1.1.inn = s.inn ∧ Said now out r1.2 (r1.1.out - 1) ∧ r1.1.out ≤ s.out + 1 ∧ 0 < r1.1.out := by
          rw [← hr1]
          split
          · rw [say_small (by show s.out < 1099511627776; omega)]
            refine ⟨right_said hR (by show s.out < 1099511627776; omega) hn, rfl, ?_, by show s.out + 1 ≤ s.out + 1; omega, by show 0 < s.out + 1; omega⟩
            refine ⟨right_beat h3 h4 hn hm.text, rfl, .inr ⟨by show (2 : Int) ≠ 5; decide, hout, ?_⟩⟩
            show out + 1 = s.out + 1 - 1
            omega
          · refine ⟨hR, rfl, ?_, by show s.out ≤ s.out + 1; omega, h3⟩
            show out = s.out - 1
            omega
        dsimp only
        rw [hr1]
        obtain ⟨g1, g2, g3, g4, g5⟩ := g
        -- and to a Resend
        obtain ⟨sd, hsd⟩ : ∃ sd, (if m.kind = 4 ∧ m.a < r1.1.out then r1.2 ++ [{Msg.noMs with kind := 5, seq := m.a, time := now, copy := true, a := r1.1.out, gap := true}] else r1.2) = sd := ⟨_, rfl⟩
        have gs : Said now out sd (r1.1.out - 1) := by
          rw [← hsd]
          split
          · rename_i ck
            exact g3.answer (right_reset (hm.ask ck.1) hm.a.2 hn g5 (by omega)) rfl rfl
          · exact g3
        rw [hsd]
        clear hsd
        have hst := come_step (l := r1.1.inn) (by rw [g2]; exact h2) (itemS m)
        have ⟨i1, i2⟩ := come_in r1.1.inn (itemS m)
        obtain ⟨q, hq⟩ : ∃ q, come r1.1.inn (itemS m) = q := ⟨_, rfl⟩
        rw [hq] at hst i1 i2 ⊢
        have hall : ∀ y, y = itemS m ∨ y ∈ r1.1.inn.held → ItOk y := fun y hy => by
          rcases hy with rfl | hy
          · exact itemS_ok hm
          · exact h.held y (by rw [← g2]; exact hy)
        have hqh : ∀ y ∈ q.1.held, ItOk y := fun y hy => hall y (i1 y hy)
        have ⟨k1, k2, k3, k4, k5, k6, k7, k8, k9, k10⟩ := (rightS_iff r1.1).1 g1
        have hR2 : rightS {r1.1 with inn := q.1} = true := (rightS_iff _).2 ⟨k1, hst.1, k3, k4, k5, k6, k7, k8, k9, k10⟩
        have ⟨a1, a2, a3⟩ := ask_next (s := {r1.1 with inn := q.1}) (l := sd) (o := out) hR2 (by show r1.1.out < 1099511627776; omega) hn hqh gs
        have ⟨b1, b2, b3⟩ := ask_inn {r1.1 with inn := q.1} sd now
        obtain ⟨r2, hr2⟩ : ∃ r2, ask {r1.1 with inn := q.1} sd now = r2 := ⟨_, rfl⟩
        rw [hr2] at a1 a2 a3 b1 b2 b3 ⊢
        have b1 : r2.1.inn = q.1 := b1
        have a3 : r2.1.out ≤ r1.1.out + 1 := a3
        have hct := chain_told hst.2.1 (fun y hy => hall y (i2 y hy)) (by rw [g2]; exact h.last)
        have hle := chain_le hst.2.1
        rw [g2] at hle
        have e : (if m.kind = 6 then {r2.1 with state := 0} else r2.1).inn = q.1 ∧ (if m.kind = 6 then {r2.1 with state := 0} else r2.1).out = r2.1.out ∧ rightS (if m.kind = 6 then {r2.1 with state := 0} else r2.1) = true := by
          split
          · have ⟨_, u⟩ := (rightS_iff r2.1).1 a1
            exact ⟨b1, rfl, (rightS_iff _).2 ⟨.inl rfl, u⟩⟩
          · exact ⟨b1, rfl, a1⟩
        obtain ⟨e1, e2, e3⟩ := e
        exact ⟨e3, by rw [e1]; exact hle, by rw [e1]; exact hqh, by rw [e2]; exact a2, by rw [e1]; exact hct, by rw [e2]; omega⟩
theorem tick_next {s : Se} {last out now : Int} (h : Fit s last out) (hb : s.out + 3 < 1099511627776) : Next s last out now (tick s now).1 (tick s now).2.1 [] := by
  have ⟨h1, h2, h3, h4, h5, h6, h7, h8, h9, h10⟩ := (rightS_iff s).1 h.right
  have hout := h.out
  unfold tick
  split
  · exact h.same now
  · rename_i c
    have hn : timeP now := (timeS_iff now).1 (by
      cases e : timeS now
      · exact absurd (.inr e) c
      · rfl)
    split
    · exact h.same now
    split
    · refine ⟨(rightS_iff _).2 ⟨.inl rfl, h2, h3, h4, h5, h6, h7, h8, h9, h10⟩, Int.le_refl _, h.held, ?_, h.last, by show s.out ≤ s.out + 3; omega⟩
      show out = s.out - 1
      omega
    split
    · exact h.same now
    · obtain ⟨r1, hr1⟩ : ∃ r1, (if 2 * s.every ≤ now - s.heard ∧ s.tested = false then
          (({(say s [] {Msg.noMs with kind := 3, text := ⟨#[116]⟩} now).1 with tested := true} : Se), (say s [] {Msg.noMs with kind := 3, text := ⟨#[116]⟩} now).2)
        else (s, [])) = r1 := ⟨_, rfl⟩
      have g : rightS r1.1 = true ∧ r1.1.inn = s.inn ∧ Said now out r1.2 (r1.1.out - 1) ∧ r1.1.out ≤ s.out + 1 := by
        rw [← hr1]
        split
        · rw [say_small (by omega)]
          have hq := right_said h.right (by omega) hn
          refine ⟨?_, rfl, ?_, by show s.out + 1 ≤ s.out + 1; omega⟩
          · have u := (rightS_iff _).1 hq
            exact (rightS_iff _).2 u
          · refine ⟨right_test h3 h4 hn, rfl, .inr ⟨by show (3 : Int) ≠ 5; decide, hout, ?_⟩⟩
            show out + 1 = s.out + 1 - 1
            omega
        · refine ⟨h.right, rfl, ?_, by show s.out ≤ s.out + 1; omega⟩
          show out = s.out - 1
          omega
      dsimp only at hr1 ⊢
      rw [hr1]
      clear hr1
      obtain ⟨g1, g2, g3, g4⟩ := g
      obtain ⟨r2, hr2⟩ : ∃ r2, (if r1.1.every ≤ now - r1.1.said then say r1.1 r1.2 {Msg.noMs with kind := 2} now else r1) = r2 := ⟨_, rfl⟩
      have g' : rightS r2.1 = true ∧ r2.1.inn = s.inn ∧ Said now out r2.2 (r2.1.out - 1) ∧ r2.1.out ≤ s.out + 2 := by
        have ⟨k1, k2, k3, k4, k5, k6, k7, k8, k9, k10⟩ := (rightS_iff r1.1).1 g1
        rw [← hr2]
        split
        · rw [say_small (by omega)]
          refine ⟨right_said g1 (by omega) hn, g2, ?_, by show r1.1.out + 1 ≤ s.out + 2; omega⟩
          have := g3.snoc (m := {Msg.noMs with kind := 2, seq := r1.1.out, time := now}) (right_beat k3 k4 hn textB_emp) rfl (by show (2 : Int) ≠ 5; decide) (by show r1.1.out = r1.1.out - 1 + 1; omega)
          rw [show r1.1.out - 1 + 1 = r1.1.out + 1 - 1 by omega] at this
          exact this
        · exact ⟨g1, g2, g3, by omega⟩
      rw [hr2]
      clear hr2
      obtain ⟨f1, f2, f3, f4⟩ := g'
      have hh : ∀ y ∈ r2.1.inn.held, ItOk y := by rw [f2]; exact h.held
      split
      · have ⟨k1, k2, k3, k4, k5, k6, k7, k8, k9, k10⟩ := (rightS_iff r2.1).1 f1
        have hR : rightS {r2.1 with asked := 0} = true := (rightS_iff _).2 ⟨k1, k2, k3, k4, k5, k6, k7, k8, timeP_zero, k10⟩
        have ⟨a1, a2, a3⟩ := ask_next (s := {r2.1 with asked := 0}) (l := r2.2) (o := out) hR (by show r2.1.out < 1099511627776; omega) hn hh f3
        have ⟨b1, _, _⟩ := ask_inn {r2.1 with asked := 0} r2.2 now
        have b1 : (ask {r2.1 with asked := 0} r2.2 now).1.inn = s.inn := b1.trans f2
        have a3 : (ask {r2.1 with asked := 0} r2.2 now).1.out ≤ r2.1.out + 1 := a3
        obtain ⟨r3, hr3⟩ : ∃ r3, ask {r2.1 with asked := 0} r2.2 now = r3 := ⟨_, rfl⟩
        rw [hr3] at a1 a2 a3 b1 ⊢
        exact ⟨a1, by rw [b1]; exact Int.le_refl _, by rw [b1]; exact h.held, a2, by rw [b1]; exact h.last, by omega⟩
      · exact ⟨f1, by rw [f2]; exact Int.le_refl _, by rw [f2]; exact h.held, f3, by rw [f2]; exact h.last, by omega⟩
/-- an act -/
def doS (k : Int) (s : Se) (m : Msg.Ms) (now : Int) : Se × List Msg.Ms × List Msg.Ms :=
  if k % 4 = 0 then ((connect s now).1, (connect s now).2.1, [])
  else if k % 4 = 1 then ((comeS s m now).1, (comeS s m now).2.1, (comeS s m now).2.2.1)
  else if k % 4 = 2 then ((tick s now).1, (tick s now).2.1, [])
  else (drop s, [], [])
theorem do_next {s : Se} {m : Msg.Ms} {last out now k : Int} (h : Fit s last out) (hb : s.out + 3 < 1099511627776) : Next s last out now (doS k s m now).1 (doS k s m now).2.1 (doS k s m now).2.2 := by
  unfold doS
  split
  · exact connect_next h (by omega)
  split
  · exact come_next h hb
  split
  · exact tick_next h hb
  · exact drop_next h
theorem new_fit {e : Int} (h0 : 0 < e) (h1 : e ≤ 1048576) : newS e = (⟨0, ⟨1, []⟩, 1, e, 0, 0, 0, 0, false⟩, 0) ∧ Fit ⟨0, ⟨1, []⟩, 1, e, 0, 0, 0, 0, false⟩ 0 0 := by
  refine ⟨by unfold newS; rw [if_pos ⟨h0, h1⟩], ⟨?_, rfl, by show (0 : Int) < 1; decide, (by intro y hy; cases hy)⟩⟩
  exact (rightS_iff _).2 ⟨.inl rfl, rfl, by show (0 : Int) < 1; decide, by show (1 : Int) ≤ 1099511627776; decide, h0, h1, timeP_zero, timeP_zero, timeP_zero, timeP_zero⟩

end Ses
end Go.Proofs.Ytnmmokdkngccjaa

namespace Go.Proofs.Ytnmmokdkngccjaa
namespace Ses
open Num Rsq

def xE : Msg.Ex := ⟨⟨#[101]⟩, Msg.emp, ⟨#[111]⟩, ⟨#[97]⟩, ⟨#[115]⟩, 1, false, 0, 0, 0⟩
/-- a Report, a Beat, a Resend -/
def repM (k : Int) (cp : Bool) : Msg.Ms := {Msg.noMs with kind := 7, seq := k, copy := cp, exec := xE}
def finM (k : Int) : Msg.Ms := {Msg.noMs with kind := 2, seq := k}
def resM (o a b : Int) : Msg.Ms := {Msg.noMs with kind := 4, a := a, b := b, seq := o, time := 0}
theorem xE_may : Msg.execB xE = true := by decide +kernel
theorem rep_may {k : Int} (cp : Bool) (h0 : 0 < k) (h1 : k ≤ 1000) : Msg.rightM (repM k cp) = true := by
  have hs := small_of (n := k) (by omega) (by omega)
  have hz : k ≠ 0 := by omega
  have hx := xE_may
  simp [Msg.rightM, repM, Msg.noMs, hs, hz, textB_emp, Msg.kindA, hx]
  try decide
theorem fin_may {k : Int} (h0 : 0 < k) (h1 : k ≤ 1000) : Msg.rightM (finM k) = true := by
  have hs := small_of (n := k) (by omega) (by omega)
  have hz : k ≠ 0 := by omega
  simp [Msg.rightM, finM, Msg.noMs, hs, hz, textB_emp, Msg.kindA]
  try decide

/-- a session that is On, at the time 0 -/
def fS (l : Li) (out asked : Int) : Se := ⟨2, l, out, 30, 0, 0, asked, 0, false⟩
theorem fS_right {l : Li} {out asked : Int} (hl : rightL l = true) (h0 : 0 < out) (h1 : out ≤ 1099511627776) (ha : timeP asked) : rightS (fS l out asked) = true :=
  (rightS_iff _).2 ⟨.inr (.inr rfl), hl, h0, h1, by show (0 : Int) < 30; decide, by show (30 : Int) ≤ 1048576; decide, timeP_zero, timeP_zero, ha, timeP_zero⟩
/-- what it asks for behind a message: its number then, up to what it has asked, what it says -/
def askF (l : Li) (out asked : Int) : Int × Int × List Msg.Ms := match l.held with
  | [] => (out, asked, [])
  | y :: _ => if l.next ≤ asked then (out, asked, []) else (out + 1, upTo l.next (y.fr - 1), [resM out l.next (upTo l.next (y.fr - 1))])
theorem ask_is {l : Li} {out asked : Int} (h1 : out < 1099511627776) : ask (fS l out asked) [] 0 = (fS l (askF l out asked).1 (askF l out asked).2.1, (askF l out asked).2.2) := by
  obtain ⟨nx, h⟩ := l
  cases h with
  | nil => rfl
  | cons y r =>
    have e1 : ask (fS ⟨nx, y :: r⟩ out asked) [] 0 = if (2 : Int) ≠ 2 then (fS ⟨nx, y :: r⟩ out asked, []) else if nx ≤ asked then (fS ⟨nx, y :: r⟩ out asked, []) else
      (({(say (fS ⟨nx, y :: r⟩ out asked) [] {Msg.noMs with kind := 4, a := nx, b := upTo nx (y.fr - 1)} 0).1 with asked := upTo nx (y.fr - 1), when := 0} : Se), (say (fS ⟨nx, y :: r⟩ out asked) [] {Msg.noMs with kind := 4, a := nx, b := upTo nx (y.fr - 1)} 0).2) := rfl
    have e2 : askF ⟨nx, y :: r⟩ out asked = if nx ≤ asked then (out, asked, []) else (out + 1, upTo nx (y.fr - 1), [resM out nx (upTo nx (y.fr - 1))]) := rfl
    rw [e1, e2, if_neg (by simp)]
    by_cases c : nx ≤ asked
    · rw [if_pos c, if_pos c]
    · rw [if_neg c, if_neg c, say_small (by exact h1)]
      rfl
theorem fill_step {l : Li} {out asked : Int} {m : Msg.Ms} (hl : rightL l = true) (h0 : 0 < out) (h1 : out < 1099511627776) (ha : timeP asked) (hm : Msg.rightM m = true) (hk : m.kind = 7 ∨ m.kind = 2) :
    comeS (fS l out asked) m 0 = (fS (come l (itemS m)).1 (askF (come l (itemS m)).1 out asked).1 (askF (come l (itemS m)).1 out asked).2.1, (askF (come l (itemS m)).1 out asked).2.2, reports (come l (itemS m)).2.1, false, 0) := by
  have hr := fS_right hl h0 (Int.le_of_lt h1) ha
  have ht : timeS 0 = true := by decide
  unfold comeS
  rw [if_neg (by rw [hr, hm, ht]; simp), if_neg (by show ¬ ((2 : Int) = 0 ∨ ((2 : Int) = 1 ∧ m.kind ≠ 1)); simp)]
  dsimp only
  rw [if_neg (by omega), if_neg (by omega : ¬ m.kind = 3), if_neg (by omega : ¬ (m.kind = 4 ∧ _)), if_neg (by omega : ¬ m.kind = 6)]
  have e : ({({(fS l out asked) with state := 2, heard := 0, tested := false} : Se) with inn := (come l (itemS m)).1} : Se) = fS (come l (itemS m)).1 out asked := rfl
  have e2 : ({(fS l out asked) with state := 2, heard := 0, tested := false} : Se).inn = l := rfl
  dsimp only at e e2
  rw [e2, e, ask_is h1]
theorem item_rep (k : Int) (cp : Bool) : itemS (repM k cp) = ⟨k, k + 1, repM k cp⟩ := by
  unfold itemS
  rw [if_neg (by show ¬ ((7 : Int) = 5 ∧ _); simp)]
  rfl
theorem item_fin (k : Int) : itemS (finM k) = ⟨k, k + 1, finM k⟩ := by
  unfold itemS
  rw [if_neg (by show ¬ ((2 : Int) = 5 ∧ _); simp)]
  rfl

/-- items of one number each, up to n: all Reports but the last one -/
def Un (n : Int) (h : List It) : Prop := ∀ y ∈ h, y.to = y.fr + 1 ∧ y.fr ≤ n ∧ (y.m.kind = 7 ↔ y.fr < n)
theorem rise_len : ∀ {h : List It} {lo m : Int}, riseB lo h = true → (∀ y ∈ h, y.fr ≤ m) → (h.length : Int) ≤ if lo ≤ m then m - lo else 0
  | [], lo, m, _, _ => by split <;> simp only [List.length_nil] <;> omega
  | y :: r, lo, m, h, hy => by
    have h' := rise_cons.1 h
    have h1 := hy y (by simp)
    have := rise_len h'.2.2 (fun z hz => hy z (by simp [hz]))
    rw [if_pos h1] at this
    rw [if_pos (by omega), List.length_cons]
    omega
theorem count_chain : ∀ {l : List It} {a b n : Int}, Chain a l b → (∀ y ∈ l, y.to = y.fr + 1 ∧ y.fr ≤ n ∧ (y.m.kind = 7 ↔ y.fr < n)) → ((reports l).length : Int) = min b n - min a n
  | [], a, b, n, h, _ => by
    obtain rfl : a = b := h
    show (0 : Int) = _
    omega
  | y :: r, a, b, n, ⟨h1, h2, h3⟩, hu => by
    have ⟨u1, u2, u3⟩ := hu y (by simp)
    have ih := count_chain h3 (fun z hz => hu z (by simp [hz]))
    unfold reports at ih ⊢
    by_cases c : y.m.kind = 7
    · rw [List.filter_cons_of_pos (by simpa using c), List.map_cons, List.length_cons]
      have := u3.1 c
      omega
    · rw [List.filter_cons_of_neg (by simpa using c)]
      have : ¬ y.fr < n := fun h => c (u3.2 h)
      omega

/-- between two batches: all is told up to the next number; what waits was asked for, as far as a batch goes; or all is told -/
structure Rnd (n : Int) (l : Li) (out asked : Int) (asks : List Msg.Ms) (i : Nat) (count : Int) : Prop where
  right : rightL l = true
  units : Un n l.held
  low : 1 < l.next ∧ l.next ≤ n + 1
  count : count = min l.next n - 2
  out : out = 2 + asks.length
  prog : (i : Int) + 2 ≤ l.next
  st : (l.held = [] ∧ l.next = n + 1 ∧ asks.length = i) ∨
    (∃ y r o, l.held = y :: r ∧ (∃ z ∈ l.held, z.fr = n) ∧ asks.length = i + 1 ∧ asks[i]? = some (resM o l.next asked) ∧ asked = upTo l.next (y.fr - 1))
/-- in the middle of one -/
structure Mid1 (n : Int) (l : Li) (out asked : Int) (asks : List Msg.Ms) (i : Nat) (count k : Int) : Prop where
  right : rightL l = true
  units : Un n l.held
  low : 1 < k ∧ l.next = k
  count : count = k - 2
  out : out = 2 + asks.length
  prog : (i : Int) + 2 ≤ k
  len : asks.length = i + 1
  ahead : ∃ y r, l.held = y :: r ∧ (∃ z ∈ l.held, z.fr = n) ∧ asked < y.fr
def Mid (n : Int) (l : Li) (out asked : Int) (asks : List Msg.Ms) (i : Nat) (count k b : Int) : Prop :=
  (k ≤ b ∧ asked = b ∧ Mid1 n l out asked asks i count k) ∨ (k = b + 1 ∧ Rnd n l out asked asks (i + 1) count)
theorem upTo_le {a b : Int} (h : a ≤ b) : a ≤ upTo a b ∧ upTo a b ≤ b ∧ upTo a b ≤ a + 9 := by
  unfold upTo
  split <;> omega
theorem head_low {l : Li} {y : It} {r : List It} (hr : rightL l = true) (hh : l.held = y :: r) : l.next < y.fr := by
  have ⟨_, _, _, r4⟩ := (Rsq.right_iff _).1 hr
  rw [hh] at r4
  exact (rise_cons.1 r4).2.1
/-- where a batch is opened -/
theorem Rnd.open {n : Int} {l : Li} {out asked : Int} {asks : List Msg.Ms} {i : Nat} {count : Int} (h : Rnd n l out asked asks i count) (hi : i < asks.length) :
    ∃ o, asks[i]? = some (resM o l.next asked) ∧ l.next ≤ asked ∧ asked ≤ l.next + 9 ∧ asked < n ∧ Mid n l out asked asks i count l.next asked := by
  obtain ⟨h1, h2, h3, h4, h5, h6, h7⟩ := h
  rcases h7 with ⟨_, _, h⟩ | ⟨y, r, o, g1, g2, g3, g4, g5⟩
  · omega
  · have hlo := head_low h1 g1
    have hy := (h2 y (by rw [g1]; simp)).2.1
    have ⟨u1, u2, u3⟩ := upTo_le (a := l.next) (b := y.fr - 1) (by omega)
    refine ⟨o, g4, by omega, by omega, by omega, .inl ⟨by omega, rfl, h1, h2, ⟨h3.1, rfl⟩, by omega, h5, h6, g3, y, r, g1, g2, by omega⟩⟩
theorem Rnd.done {n : Int} {l : Li} {out asked : Int} {asks : List Msg.Ms} {i : Nat} {count : Int} (h : Rnd n l out asked asks i count) (hn : n ≤ 62) (hi : ¬ (i < asks.length ∧ i < 200)) : l.held = [] ∧ l.next = n + 1 ∧ count = n - 2 := by
  obtain ⟨h1, h2, h3, h4, h5, h6, h7⟩ := h
  rcases h7 with ⟨g1, g2, g3⟩ | ⟨y, r, o, g1, g2, g3, g4, g5⟩
  · exact ⟨g1, g2, by omega⟩
  · have := head_low h1 g1
    have := (h2 y (by rw [g1]; simp)).2.1
    omega
theorem Rnd.small {n : Int} {l : Li} {out asked : Int} {asks : List Msg.Ms} {i : Nat} {count : Int} (h : Rnd n l out asked asks i count) (hn : n ≤ 62) : asks.length ≤ 62 ∧ i ≤ 61 := by
  obtain ⟨h1, h2, h3, h4, h5, h6, h7⟩ := h
  rcases h7 with ⟨_, _, h⟩ | ⟨_, _, _, _, _, h, _⟩ <;> omega
/-- what a Report that is the next one does: the items that are told with it, and those that wait still -/
theorem come_next_is {l : Li} {k : Int} {cp : Bool} (hr : rightL l = true) (hk : l.next = k) (h1 : k ≤ 1000) :
    come l (itemS (repM k cp)) = (⟨(Rsq.drain (k + 1) l.held).2.1, (Rsq.drain (k + 1) l.held).2.2⟩, ⟨k, k + 1, repM k cp⟩ :: (Rsq.drain (k + 1) l.held).1, 1) := by
  have ⟨r1, r2, r3, r4⟩ := (Rsq.right_iff _).1 hr
  rw [item_rep]
  have hm : mayI ⟨k, k + 1, repM k cp⟩ = true := (may_iff _).2 ⟨by show 0 < k; omega, by show k < k + 1; omega, by show k + 1 ≤ 2199023255552; omega⟩
  unfold come
  rw [if_neg (by rw [hr, hm]; simp), if_neg (by show ¬ k + 1 ≤ l.next; omega), if_neg (by show ¬ l.next < k; omega)]
theorem mid_step {n : Int} {l : Li} {out asked : Int} {asks : List Msg.Ms} {i : Nat} {count k b : Int} (hn : n ≤ 62) (hb : b < n) (h : Mid n l out asked asks i count k b) (hk : k ≤ b) :
    let c := come l (itemS (repM k true))
    Mid n c.1 (askF c.1 out asked).1 (askF c.1 out asked).2.1 (asks ++ (askF c.1 out asked).2.2) i (count + (reports c.2.1).length) (k + 1) b := by
  rcases h with ⟨_, rfl, h⟩ | ⟨h, _⟩
  rotate_left
  · omega
  obtain ⟨h1, h2, ⟨h3, h4⟩, h5, h6, h7, h8, y, r, g1, g2, g3⟩ := h
  have ⟨r1, r2, r3, r4⟩ := (Rsq.right_iff _).1 h1
  have hst := come_step h1 (itemS (repM k true))
  have hci := come_next_is (cp := true) h1 h4 (by omega)
  rw [hci] at hst ⊢
  dsimp only at hst ⊢
  obtain ⟨s1, -, -, -⟩ := hst
  have hun : ∀ z ∈ l.held, z.to = z.fr + 1 ∧ k + 1 ≤ z.fr := fun z hz => ⟨(h2 z hz).1, by have := (rise_mem r4 z hz).2; omega⟩
  have ⟨d1, d2, d3, d4, d5, d6⟩ := drain_units r4 hun
  have ⟨f1, f2, f3, f4, f5, f6⟩ := drain_facts (n := k + 1) r4 (by omega) (by unfold top; omega)
  have hrl : ((reports (⟨k, k + 1, repM k true⟩ :: (Rsq.drain (k + 1) l.held).1)).length : Int) = 1 + (min (Rsq.drain (k + 1) l.held).2.1 n - (k + 1)) := by
    have e : reports (⟨k, k + 1, repM k true⟩ :: (Rsq.drain (k + 1) l.held).1) = repM k true :: reports (Rsq.drain (k + 1) l.held).1 := by
      unfold reports
      rw [List.filter_cons_of_pos (by show decide ((7 : Int) = 7) = true; decide), List.map_cons]
    rw [e, List.length_cons]
    have := count_chain f1 (fun z hz => h2 z (d1 z hz))
    omega
  rw [hrl]
  clear hrl hci
  obtain ⟨z, hz, hzn⟩ := g2
  have hnx : (Rsq.drain (k + 1) l.held).2.1 ≤ n + 1 := by
    rcases Int.lt_or_le (k + 1) (Rsq.drain (k + 1) l.held).2.1 with hlt | hle
    · obtain ⟨v, hv, hve⟩ := d4 ((Rsq.drain (k + 1) l.held).2.1 - 1) (by omega) (by omega)
      have := (h2 v hv).2.1
      omega
    · omega
  have hus : Un n (Rsq.drain (k + 1) l.held).2.2 := fun v hv => h2 v (d2 v hv).1
  by_cases c : k < asked
  · -- the hole goes on
    have hdr : Rsq.drain (k + 1) l.held = ([], k + 1, l.held) := by
      rw [g1]
      unfold Rsq.drain
      rw [if_pos (by omega)]
    rw [hdr] at s1 ⊢
    dsimp only at s1 ⊢
    have ha : askF ⟨k + 1, l.held⟩ out asked = (out, asked, []) := by
      unfold askF
      rw [g1]
      dsimp only
      rw [if_pos (by omega)]
    rw [ha]
    dsimp only
    rw [List.append_nil]
    refine .inl ⟨by omega, rfl, s1, h2, ⟨by omega, rfl⟩, by omega, h6, by omega, h8, y, r, g1, ⟨z, hz, hzn⟩, g3⟩
  · obtain rfl : k = asked := by omega
    refine .inr ⟨rfl, ?_⟩
    generalize hD : Rsq.drain (k + 1) l.held = D at s1 d1 d2 d3 d4 d5 d6 f1 f2 f3 f4 f5 f6 hnx hus ⊢
    obtain ⟨os, nx, hs⟩ := D
    dsimp only at s1 d1 d2 d3 d4 d5 d6 f1 f2 f3 f4 f5 f6 hnx hus ⊢
    have hzx : z.fr ≠ nx := d5 z hz
    cases hs with
    | nil =>
      have hz2 : ¬ nx < z.fr := fun h => by have := d3 z hz h; cases this
      refine ⟨s1, hus, ⟨by show 1 < nx; omega, hnx⟩, by show _ = min nx n - 2; omega, ?_, by show ((i + 1 : Nat) : Int) + 2 ≤ nx; omega, .inl ⟨rfl, by show nx = n + 1; omega, ?_⟩⟩
      · show out = 2 + ((asks ++ []).length : Int)
        rw [List.append_nil]; exact h6
      · show (asks ++ []).length = i + 1
        rw [List.append_nil]; exact h8
    | cons v q =>
      have hv := (d2 v (by simp)).2
      have hvn := (hus v (by simp)).2.1
      have ha : askF ⟨nx, v :: q⟩ out k = (out + 1, upTo nx (v.fr - 1), [resM out nx (upTo nx (v.fr - 1))]) := by
        unfold askF
        dsimp only
        rw [if_neg (by omega)]
      rw [ha]
      dsimp only
      refine ⟨s1, hus, ⟨by show 1 < nx; omega, hnx⟩, by show _ = min nx n - 2; omega, ?_, by show ((i + 1 : Nat) : Int) + 2 ≤ nx; omega, .inr ⟨v, q, out, rfl, ⟨z, d3 z hz (by omega), hzn⟩, ?_, ?_, rfl⟩⟩
      · rw [List.length_append, List.length_cons, List.length_nil]; omega
      · rw [List.length_append, List.length_cons, List.length_nil]; omega
      · rw [List.getElem?_append_right (by omega), h8, Nat.sub_self]
        rfl

/-! ### the first way through -/
structure Ph (n : Int) (i : Nat) (l : Li) (out asked : Int) (asks : List Msg.Ms) (count : Int) : Prop where
  right : rightL l = true
  units : Un n l.held
  far : ∀ y ∈ l.held, y.fr ≤ (i : Int) + 1
  low : 1 < l.next ∧ l.next ≤ (i : Int) + 2
  count : count = l.next - 2
  out : out = 2 + asks.length
  st : (l.held = [] ∧ asks = [] ∧ asked = 0) ∨ (∃ y r, l.held = y :: r ∧ asks = [resM 2 l.next asked] ∧ asked = upTo l.next (y.fr - 1))
theorem Ph.start (n : Int) : Ph n 0 ⟨2, []⟩ 2 0 [] 0 :=
  ⟨by decide, fun y hy => (by cases hy), fun y hy => (by cases hy), ⟨by show (1 : Int) < 2; decide, by show (2 : Int) ≤ 0 + 2; decide⟩, rfl, rfl, .inl ⟨rfl, rfl, rfl⟩⟩
theorem Ph.lost {n : Int} {i : Nat} {l : Li} {out asked : Int} {asks : List Msg.Ms} {count : Int} (h : Ph n i l out asked asks count) : Ph n (i + 1) l out asked asks count := by
  obtain ⟨h1, h2, h3, h4, h5, h6, h7⟩ := h
  exact ⟨h1, h2, fun y hy => by have := h3 y hy; omega, ⟨h4.1, by omega⟩, h5, h6, h7⟩
/-- what is behind the next number is kept -/
theorem come_keep {l : Li} {m : Msg.Ms} {k : Int} (hr : rightL l = true) (hi : itemS m = ⟨k, k + 1, m⟩) (h0 : l.next < k) (hf : ∀ y ∈ l.held, y.fr < k) (h1 : k ≤ 62) : come l (itemS m) = (⟨l.next, ins ⟨k, k + 1, m⟩ l.held⟩, [], 2) := by
  have ⟨r1, r2, r3, r4⟩ := (Rsq.right_iff _).1 hr
  rw [hi]
  have hm : mayI ⟨k, k + 1, m⟩ = true := (may_iff _).2 ⟨by show 0 < k; omega, by show k < k + 1; omega, by show k + 1 ≤ 2199023255552; omega⟩
  have hh : has ⟨k, k + 1, m⟩ l.held = false := by
    unfold has
    rw [List.any_eq_false]
    intro y hy
    have := hf y hy
    show ¬ (y.fr == k) = true
    rw [beq_iff_eq]
    omega
  have hl := rise_len r4 (m := k) (fun y hy => by have := hf y hy; omega)
  rw [if_pos (by omega)] at hl
  unfold come
  rw [if_neg (by rw [hr, hm]; simp), if_neg (by show ¬ k + 1 ≤ l.next; omega), if_pos (by exact h0), if_neg (by rw [hh]; simp), if_neg (by omega)]
/-- what is the next one is taken, where nothing waits -/
theorem come_take1 {l : Li} {m : Msg.Ms} {k : Int} (hr : rightL l = true) (hi : itemS m = ⟨k, k + 1, m⟩) (h0 : l.next = k) (hh : l.held = []) (h1 : k ≤ 62) : come l (itemS m) = (⟨k + 1, []⟩, [⟨k, k + 1, m⟩], 1) := by
  have ⟨r1, r2, r3, r4⟩ := (Rsq.right_iff _).1 hr
  rw [hi]
  have hm : mayI ⟨k, k + 1, m⟩ = true := (may_iff _).2 ⟨by show 0 < k; omega, by show k < k + 1; omega, by show k + 1 ≤ 2199023255552; omega⟩
  unfold come
  rw [if_neg (by rw [hr, hm]; simp), if_neg (by show ¬ k + 1 ≤ l.next; omega), if_neg (by show ¬ l.next < k; omega), hh]
  rfl
theorem ins_head {x y : It} {r : List It} (h : y.fr < x.fr) : ins x (y :: r) = y :: ins x r := by
  show (if x.fr < y.fr then x :: y :: r else y :: ins x r) = _
  rw [if_neg (by omega)]
theorem Ph.step {n : Int} {i : Nat} {l : Li} {out asked : Int} {asks : List Msg.Ms} {count : Int} (h : Ph n i l out asked asks count) (hn : n ≤ 62) (hi : (i : Int) + 2 < n) :
    let c := come l (itemS (repM ((i : Int) + 2) false))
    Ph n (i + 1) c.1 (askF c.1 out asked).1 (askF c.1 out asked).2.1 (asks ++ (askF c.1 out asked).2.2) (count + (reports c.2.1).length) := by
  obtain ⟨h1, h2, h3, h4, h5, h6, h7⟩ := h
  have ⟨r1, r2, r3, r4⟩ := (Rsq.right_iff _).1 h1
  have hst := (come_step h1 (itemS (repM ((i : Int) + 2) false))).1
  by_cases c : l.next = (i : Int) + 2
  · have hh : l.held = [] := by
      rcases h7 with ⟨h, _⟩ | ⟨y, r, g, _⟩
      · exact h
      · have := head_low h1 g
        have := h3 y (by rw [g]; simp)
        omega
    rw [come_take1 h1 (item_rep _ _) c hh (by omega)] at hst ⊢
    dsimp only at hst ⊢
    have ha : askF ⟨(i : Int) + 2 + 1, []⟩ out asked = (out, asked, []) := rfl
    rw [ha]
    dsimp only
    rw [List.append_nil]
    have hq : asks = [] ∧ asked = 0 := by
      rcases h7 with ⟨_, h⟩ | ⟨y, r, g, _⟩
      · exact h
      · rw [hh] at g; cases g
    have hrp : ((reports [(⟨(i : Int) + 2, (i : Int) + 2 + 1, repM ((i : Int) + 2) false⟩ : It)]).length : Int) = 1 := rfl
    rw [hrp]
    exact ⟨hst, fun y hy => (by cases hy), fun y hy => (by cases hy), ⟨by show 1 < (i : Int) + 2 + 1; omega, by show (i : Int) + 2 + 1 ≤ ((i + 1 : Nat) : Int) + 2; omega⟩, by show _ = (i : Int) + 2 + 1 - 2; omega, h6, .inl ⟨rfl, hq⟩⟩
  · rw [come_keep h1 (item_rep _ _) (by omega) (fun y hy => by have := h3 y hy; omega) (by omega)] at hst ⊢
    dsimp only at hst ⊢
    have hrp : ((reports ([] : List It)).length : Int) = 0 := rfl
    rw [hrp, Int.add_zero]
    have hu : Un n (ins ⟨(i : Int) + 2, (i : Int) + 2 + 1, repM ((i : Int) + 2) false⟩ l.held) := fun y hy => by
      rcases ins_mem.1 hy with rfl | hy
      · exact ⟨rfl, by show (i : Int) + 2 ≤ n; omega, fun _ => hi, fun _ => rfl⟩
      · exact h2 y hy
    have hfar : ∀ y ∈ ins ⟨(i : Int) + 2, (i : Int) + 2 + 1, repM ((i : Int) + 2) false⟩ l.held, y.fr ≤ ((i + 1 : Nat) : Int) + 1 := fun y hy => by
      rcases ins_mem.1 hy with rfl | hy
      · show (i : Int) + 2 ≤ _; omega
      · have := h3 y hy; omega
    rcases h7 with ⟨g1, g2, g3⟩ | ⟨y, r, g1, g2, g3⟩
    · subst g2 g3
      rw [g1] at hst hu hfar ⊢
      have ha : askF ⟨l.next, ins ⟨(i : Int) + 2, (i : Int) + 2 + 1, repM ((i : Int) + 2) false⟩ []⟩ out 0 = (out + 1, upTo l.next ((i : Int) + 2 - 1), [resM out l.next (upTo l.next ((i : Int) + 2 - 1))]) := by
        show (if l.next ≤ 0 then _ else _) = _
        rw [if_neg (by omega)]
      rw [ha]
      dsimp only
      have ho : out = 2 := h6
      subst ho
      exact ⟨hst, hu, hfar, ⟨h4.1, by show l.next ≤ _; omega⟩, h5, rfl, .inr ⟨_, _, rfl, rfl, rfl⟩⟩
    · have hy := h3 y (by rw [g1]; simp)
      have hlo := head_low h1 g1
      have hih : ins ⟨(i : Int) + 2, (i : Int) + 2 + 1, repM ((i : Int) + 2) false⟩ l.held = y :: ins ⟨(i : Int) + 2, (i : Int) + 2 + 1, repM ((i : Int) + 2) false⟩ r := by
        rw [g1]
        exact ins_head (by show y.fr < (i : Int) + 2; omega)
      have ⟨u1, _, _⟩ := upTo_le (a := l.next) (b := y.fr - 1) (by omega)
      have ha : askF ⟨l.next, ins ⟨(i : Int) + 2, (i : Int) + 2 + 1, repM ((i : Int) + 2) false⟩ l.held⟩ out asked = (out, asked, []) := by
        unfold askF
        rw [hih]
        dsimp only
        rw [if_pos (by omega)]
      rw [ha]
      dsimp only
      rw [List.append_nil]
      exact ⟨hst, hu, hfar, ⟨h4.1, by show l.next ≤ _; omega⟩, h5, h6, .inr ⟨y, _, hih, g2, g3⟩⟩
/-- the last one tells that there was something -/
theorem Ph.last {n : Int} {i : Nat} {l : Li} {out asked : Int} {asks : List Msg.Ms} {count : Int} (h : Ph n i l out asked asks count) (hn : n ≤ 62) (hi : n = (i : Int) + 2) :
    let c := come l (itemS (finM n))
    Rnd n c.1 (askF c.1 out asked).1 (askF c.1 out asked).2.1 (asks ++ (askF c.1 out asked).2.2) 0 (count + (reports c.2.1).length) := by
  obtain ⟨h1, h2, h3, h4, h5, h6, h7⟩ := h
  have ⟨r1, r2, r3, r4⟩ := (Rsq.right_iff _).1 h1
  have hst := (come_step h1 (itemS (finM n))).1
  by_cases c : l.next = n
  · have hh : l.held = [] := by
      rcases h7 with ⟨h, _⟩ | ⟨y, r, g, _⟩
      · exact h
      · have := head_low h1 g
        have := h3 y (by rw [g]; simp)
        omega
    rw [come_take1 h1 (item_fin _) c hh (by omega)] at hst ⊢
    dsimp only at hst ⊢
    have ha : askF ⟨n + 1, []⟩ out asked = (out, asked, []) := rfl
    rw [ha]
    dsimp only
    rw [List.append_nil]
    have hq : asks = [] ∧ asked = 0 := by
      rcases h7 with ⟨_, h⟩ | ⟨y, r, g, _⟩
      · exact h
      · rw [hh] at g; cases g
    have hrp : ((reports [(⟨n, n + 1, finM n⟩ : It)]).length : Int) = 0 := rfl
    rw [hrp]
    exact ⟨hst, fun y hy => (by cases hy), ⟨by show 1 < n + 1; omega, Int.le_refl _⟩, by show _ = min (n + 1) n - 2; omega, h6, by show ((0 : Nat) : Int) + 2 ≤ n + 1; omega, .inl ⟨rfl, rfl, by rw [hq.1]; rfl⟩⟩
  · rw [come_keep h1 (item_fin _) (by omega) (fun y hy => by have := h3 y hy; omega) (by omega)] at hst ⊢
    dsimp only at hst ⊢
    have hrp : ((reports ([] : List It)).length : Int) = 0 := rfl
    rw [hrp, Int.add_zero]
    have hu : Un n (ins ⟨n, n + 1, finM n⟩ l.held) := fun y hy => by
      rcases ins_mem.1 hy with rfl | hy
      · exact ⟨rfl, Int.le_refl _, fun h => absurd h (by show ¬ (2 : Int) = 7; decide), fun h => absurd h (Int.lt_irrefl _)⟩
      · exact h2 y hy
    have hin : ∃ z ∈ ins ⟨n, n + 1, finM n⟩ l.held, z.fr = n := ⟨_, ins_mem.2 (.inl rfl), rfl⟩
    rcases h7 with ⟨g1, g2, g3⟩ | ⟨y, r, g1, g2, g3⟩
    · subst g2 g3
      rw [g1] at hst hu hin ⊢
      have ha : askF ⟨l.next, ins ⟨n, n + 1, finM n⟩ []⟩ out 0 = (out + 1, upTo l.next (n - 1), [resM out l.next (upTo l.next (n - 1))]) := by
        show (if l.next ≤ 0 then _ else _) = _
        rw [if_neg (by omega)]
      rw [ha]
      dsimp only
      have ho : out = 2 := h6
      subst ho
      exact ⟨hst, hu, ⟨h4.1, by show l.next ≤ n + 1; omega⟩, by show count = min l.next n - 2; omega, rfl, by show ((0 : Nat) : Int) + 2 ≤ l.next; omega, .inr ⟨_, _, 2, rfl, hin, rfl, rfl, rfl⟩⟩
    · have hy := h3 y (by rw [g1]; simp)
      have hlo := head_low h1 g1
      have hih : ins ⟨n, n + 1, finM n⟩ l.held = y :: ins ⟨n, n + 1, finM n⟩ r := by
        rw [g1]
        exact ins_head (by show y.fr < n; omega)
      have ⟨u1, _, _⟩ := upTo_le (a := l.next) (b := y.fr - 1) (by omega)
      have ha : askF ⟨l.next, ins ⟨n, n + 1, finM n⟩ l.held⟩ out asked = (out, asked, []) := by
        unfold askF
        rw [hih]
        dsimp only
        rw [if_pos (by omega)]
      rw [ha]
      dsimp only
      rw [List.append_nil]
      exact ⟨hst, hu, ⟨h4.1, by show l.next ≤ n + 1; omega⟩, by show count = min l.next n - 2; omega, h6, by show ((0 : Nat) : Int) + 2 ≤ l.next; omega, .inr ⟨y, _, 2, hih, hin, by rw [g2]; rfl, by rw [g2]; rfl, g3⟩⟩

end Ses
end Go.Proofs.Ytnmmokdkngccjaa

namespace Go.Proofs.Ytnmmokdkngccjaa
namespace Ses
open Num Rsq

theorem say_len (s : Se) (l : List Msg.Ms) (m : Msg.Ms) (now : Int) : (say s l m now).2.length ≤ l.length + 1 := by
  unfold say
  split
  · exact Nat.le_succ _
  · simp
theorem ask_len (s : Se) (l : List Msg.Ms) (now : Int) : (ask s l now).2.length ≤ l.length + 1 := by
  unfold ask
  split
  · exact Nat.le_succ _
  · split
    · exact Nat.le_succ _
    · split
      · exact Nat.le_succ _
      · exact say_len _ _ _ _
theorem connect_len (s : Se) (now : Int) : (connect s now).2.1.length ≤ 5 := by
  unfold connect
  split
  · exact Nat.zero_le _
  · split
    · exact Nat.zero_le _
    · exact Nat.le_trans (say_len _ _ _ _) (by decide)
theorem reports_len (l : List It) : (reports l).length ≤ l.length := by
  unfold reports
  rw [List.length_map]
  exact List.length_filter_le _ _
theorem comeS_len (s : Se) (m : Msg.Ms) (now : Int) : (comeS s m now).2.1.length ≤ 5 ∧ (comeS s m now).2.2.1.length ≤ 65 := by
  unfold comeS
  split
  · exact ⟨Nat.zero_le _, Nat.zero_le _⟩
  · rename_i c
    split
    · exact ⟨Nat.zero_le _, Nat.zero_le _⟩
    · split
      · exact ⟨Nat.zero_le _, Nat.zero_le _⟩
      · have hr : rightS s = true := by
          cases e : rightS s
          · exact absurd (.inl e) c
          · rfl
        have ⟨_, h2, _⟩ := (rightS_iff s).1 hr
        have ⟨_, _, h64, _⟩ := (Rsq.right_iff _).1 h2
        obtain ⟨r1, hr1⟩ : ∃ r1, (if m.kind = 3 then say {s with state := 2, heard := now, tested := false} [] {Msg.noMs with kind := 2, text := m.text} now else ({s with state := 2, heard := now, tested := false}, [])) = r1 := ⟨_, rfl⟩
        have g1 : r1.2.length ≤ 1 := by
          rw [← hr1]
          split
          · exact say_len _ _ _ _
          · exact Nat.zero_le _
        have g2 : r1.1.inn = s.inn := by
          rw [← hr1]
          split
          · exact (say_inn _ _ _ _).1
          · rfl
        dsimp only
        rw [hr1]
        obtain ⟨sd, hsd⟩ : ∃ sd, (if m.kind = 4 ∧ m.a < r1.1.out then r1.2 ++ [{Msg.noMs with kind := 5, seq := m.a, time := now, copy := true, a := r1.1.out, gap := true}] else r1.2) = sd := ⟨_, rfl⟩
        have g3 : sd.length ≤ 2 := by
          rw [← hsd]
          split
          · rw [List.length_append, List.length_cons, List.length_nil]; omega
          · omega
        rw [hsd]
        refine ⟨Nat.le_trans (ask_len _ _ _) (by omega), ?_⟩
        have h1 := come_len (l := r1.1.inn) (by rw [g2]; exact h2) (itemS m)
        have h2 := reports_len (come r1.1.inn (itemS m)).2.1
        rw [g2] at h1 h2
        rw [g2]
        omega
theorem tick_len (s : Se) (now : Int) : (tick s now).2.1.length ≤ 5 := by
  unfold tick
  split
  · exact Nat.zero_le _
  split
  · exact Nat.zero_le _
  split
  · exact Nat.zero_le _
  split
  · exact Nat.zero_le _
  · obtain ⟨r1, hr1⟩ : ∃ r1, (if 2 * s.every ≤ now - s.heard ∧ s.tested = false then
        (({(say s [] {Msg.noMs with kind := 3, text := ⟨#[116]⟩} now).1 with tested := true} : Se), (say s [] {Msg.noMs with kind := 3, text := ⟨#[116]⟩} now).2)
      else (s, [])) = r1 := ⟨_, rfl⟩
    have g1 : r1.2.length ≤ 1 := by
      rw [← hr1]
      split
      · exact say_len _ _ _ _
      · exact Nat.zero_le _
    dsimp only at hr1 ⊢
    rw [hr1]
    obtain ⟨r2, hr2⟩ : ∃ r2, (if r1.1.every ≤ now - r1.1.said then say r1.1 r1.2 {Msg.noMs with kind := 2} now else r1) = r2 := ⟨_, rfl⟩
    have g2 : r2.2.length ≤ 2 := by
      rw [← hr2]
      split
      · exact Nat.le_trans (say_len _ _ _ _) (by omega)
      · omega
    rw [hr2]
    split
    · exact Nat.le_trans (ask_len _ _ _) (by omega)
    · omega
theorem do_len (k : Int) (s : Se) (m : Msg.Ms) (now : Int) : (doS k s m now).2.1.length ≤ 5 ∧ (doS k s m now).2.2.length ≤ 65 := by
  unfold doS
  split
  · exact ⟨connect_len _ _, Nat.zero_le _⟩
  split
  · exact comeS_len _ _ _
  split
  · exact ⟨tick_len _ _, Nat.zero_le _⟩
  · exact ⟨Nat.zero_le _, Nat.zero_le _⟩

end Ses
end Go.Proofs.Ytnmmokdkngccjaa
