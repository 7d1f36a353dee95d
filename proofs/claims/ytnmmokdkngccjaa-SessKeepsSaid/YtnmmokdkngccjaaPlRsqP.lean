/-
  PLAIN: the ways of the program's layer 6: the place of an item in Held by halves, and what goes out at its head.
-/
import Derived.Test.YtnmmokdkngccjaaRsqG
namespace Go.Proofs.Ytnmmokdkngccjaa
open Go.RowKit
namespace Rsq
open Num
open Msg (I64)

theorem rise_lt : ∀ {lo : Int} {h : List It}, riseB lo h = true → ∀ {i j : Nat} {a b : It}, h[i]? = some a → h[j]? = some b → i < j → a.fr < b.fr
  | _, [], _, _, _, _, _, h1, _, _ => by simp at h1
  | _, _ :: _, _, _, 0, _, _, _, _, h3 => absurd h3 (Nat.not_lt_zero _)
  | _, y :: r, h, 0, j + 1, a, b, h1, h2, _ => by
    rw [List.getElem?_cons_zero] at h1
    obtain rfl := Option.some.inj h1
    rw [List.getElem?_cons_succ] at h2
    exact (rise_mem (rise_cons.1 h).2.2 b (List.mem_of_getElem? h2)).2
  | _, y :: r, h, i + 1, j + 1, a, b, h1, h2, h3 => by
    rw [List.getElem?_cons_succ] at h1 h2
    exact rise_lt (rise_cons.1 h).2.2 h1 h2 (by omega)

/-- all ahead of lo lie below k, and none from hi on -/
def Cut (k : Int) (h : List It) (lo hi : Nat) : Prop := ∀ j y, h[j]? = some y → (j < lo → y.fr < k) ∧ (hi ≤ j → k ≤ y.fr)
theorem Cut.start (k : Int) (h : List It) : Cut k h 0 h.length := fun j y hy => ⟨fun hj => absurd hj (Nat.not_lt_zero _), fun hj => by
  rw [List.getElem?_eq_none hj] at hy
  cases hy⟩
theorem Cut.up {k lw : Int} {h : List It} {lo hi m : Nat} {y : It} (hc : Cut k h lo hi) (hr : riseB lw h = true) (hy : h[m]? = some y) (hlt : y.fr < k) : Cut k h (m + 1) hi := fun j z hz => ⟨fun hj => by
  rcases Nat.lt_or_ge j m with h1 | h1
  · have := rise_lt hr hz hy h1
    omega
  · obtain rfl : j = m := by omega
    rw [hy] at hz
    obtain rfl := Option.some.inj hz
    exact hlt, (hc j z hz).2⟩
theorem Cut.down {k lw : Int} {h : List It} {lo hi m : Nat} {y : It} (hc : Cut k h lo hi) (hr : riseB lw h = true) (hy : h[m]? = some y) (hge : k ≤ y.fr) : Cut k h lo m := fun j z hz => ⟨(hc j z hz).1, fun hj => by
  rcases Nat.lt_or_ge m j with h1 | h1
  · have := rise_lt hr hy hz h1
    omega
  · obtain rfl : j = m := by omega
    rw [hy] at hz
    obtain rfl := Option.some.inj hz
    exact hge⟩
theorem cut_ins {x : It} : ∀ {h : List It} {i : Nat}, i ≤ h.length → Cut x.fr h i i → (∀ y, h[i]? = some y → y.fr ≠ x.fr) → ins x h = h.take i ++ x :: h.drop i
  | [], i, hi, _, _ => by
    obtain rfl : i = 0 := by simpa using hi
    rfl
  | y :: r, 0, _, hc, hn => by
    have h1 := (hc 0 y rfl).2 (Nat.le_refl _)
    have h2 := hn y rfl
    unfold ins
    rw [if_pos (by omega)]
    rfl
  | y :: r, i + 1, hi, hc, hn => by
    have h1 := (hc 0 y rfl).1 (Nat.succ_pos _)
    unfold ins
    rw [if_neg (by omega), cut_ins (i := i) (by simpa using hi) (fun j z hz => ?_) (fun z hz => hn z (by rw [List.getElem?_cons_succ]; exact hz))]
    · rfl
    · have := hc (j + 1) z (by rw [List.getElem?_cons_succ]; exact hz)
      exact ⟨fun hj => this.1 (by omega), fun hj => this.2 (by omega)⟩
theorem cut_has {x y : It} {h : List It} {i : Nat} (hy : h[i]? = some y) (he : y.fr = x.fr) : has x h = true := by
  unfold has
  rw [List.any_eq_true]
  exact ⟨y, List.mem_of_getElem? hy, by simp [he]⟩
theorem cut_hasnt {x : It} {lw : Int} {h : List It} {i : Nat} (hr : riseB lw h = true) (hc : Cut x.fr h i i) (hn : ∀ y, h[i]? = some y → y.fr ≠ x.fr) : has x h = false := by
  cases e : has x h
  · rfl
  · unfold has at e
    rw [List.any_eq_true] at e
    obtain ⟨z, hz, hze⟩ := e
    have hze : z.fr = x.fr := by simpa using hze
    obtain ⟨j, hj⟩ := List.getElem?_of_mem hz
    rcases Nat.lt_trichotomy j i with h1 | h1 | h1
    · have := (hc j z hj).1 h1
      omega
    · subst h1
      exact absurd hze (hn z hj)
    · have hil : i < h.length := Nat.lt_trans h1 (List.getElem?_eq_some_iff.1 hj).1
      have h2 := rise_lt hr (List.getElem?_eq_getElem hil) hj h1
      have h3 := (hc i _ (List.getElem?_eq_getElem hil)).2 (Nat.le_refl _)
      omega

/-- what has gone out at the head, and what is still to go -/
def Out (n : Int) (h : List It) (os : List It) (nx : Int) (hs : List It) : Prop := drain n h = (os ++ (drain nx hs).1, (drain nx hs).2)
theorem Out.start (n : Int) (h : List It) : Out n h [] n h := rfl
theorem Out.told {n nx : Int} {h os r : List It} {y : It} (ho : Out n h os nx (y :: r)) (h1 : y.fr ≤ nx) (h2 : nx < y.to) : Out n h (os ++ [y]) y.to r := by
  unfold Out at ho ⊢
  rw [ho, drain, if_neg (by omega), if_pos h2, List.append_assoc]
  rfl
theorem Out.old {n nx : Int} {h os r : List It} {y : It} (ho : Out n h os nx (y :: r)) (h1 : y.fr ≤ nx) (h2 : ¬ nx < y.to) : Out n h os nx r := by
  unfold Out at ho ⊢
  rw [ho, drain, if_neg (by omega), if_neg h2]
theorem Out.stop {n nx : Int} {h os : List It} {y : It} {r : List It} (ho : Out n h os nx (y :: r)) (h1 : ¬ y.fr ≤ nx) : drain n h = (os, nx, y :: r) := by
  unfold Out at ho
  rw [ho, drain, if_pos (by omega), List.append_nil]
theorem Out.dry {n nx : Int} {h os : List It} (ho : Out n h os nx []) : drain n h = (os, nx, []) := by
  unfold Out at ho
  rw [ho, drain, List.append_nil]

/-- take -/
def takeL (l : Li) (x : It) : Li × List It := (⟨(drain x.to l.held).2.1, (drain x.to l.held).2.2⟩, x :: (drain x.to l.held).1)
theorem come_take {l : Li} {x : It} (hr : rightL l = true) (hm : mayI x = true) (h1 : ¬ x.to ≤ l.next) (h2 : ¬ l.next < x.fr) : come l x = ((takeL l x).1, (takeL l x).2, 1) := by
  unfold come
  rw [if_neg (by rw [hr, hm]; simp), if_neg h1, if_neg h2]
  rfl

/-- Right, item by item, as the program has it: last goes on from item to item -/
theorem rise_last {lo : Int} {h : List It} {k : Nat} {x : It} {last : Int} (hl : last = ((h.take k).getLast?.map (·.fr)).getD lo) (hr : riseB lo (h.take k) = true) (hx : h[k]? = some x) :
    riseB lo (h.take (k + 1)) = true ↔ mayI x = true ∧ last < x.fr := by
  rw [show h.take (k + 1) = h.take k ++ [x] from by rw [List.take_add_one, hx]; rfl, rise_snoc]
  cases e : (h.take k).getLast? with
  | none =>
    rw [e] at hl
    simp only [Option.map_none, Option.getD_none] at hl
    subst hl
    simp [hr]
  | some y =>
    rw [e] at hl
    simp only [Option.map_some, Option.getD_some] at hl
    subst hl
    have := (rise_mem hr y (List.mem_of_getLast? e)).2
    constructor
    · rintro ⟨_, h2, _, h4⟩
      exact ⟨h2, h4 y rfl⟩
    · rintro ⟨h2, h4⟩
      exact ⟨hr, h2, by omega, fun z hz => by obtain rfl := Option.some.inj hz; exact h4⟩

end Rsq
end Go.Proofs.Ytnmmokdkngccjaa
