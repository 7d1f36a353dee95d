/-
  The reference's small tests of layer 5: a name, a small number, a time, a text, an execution.
-/
import Derived.Test.YtnmmokdkngccjaaPlMsg
import Derived.Test.YtnmmokdkngccjaaFlat
import Derived.Test.YtnmmokdkngccjaaMem
import Derived.WalkSpells
import Derived.WalkLawsBesides
import Derived.BigQuiet
namespace Go.Proofs.Ytnmmokdkngccjaa
open Go.RowKit
namespace Msg
open Num

theorem nameC_t (c : UInt8) : nameC c = true ↔ ((65 ≤ (c.toNat : Int) ∧ (c.toNat : Int) ≤ 90) ∨ (97 ≤ (c.toNat : Int) ∧ (c.toNat : Int) ≤ 122)) ∨ (48 ≤ (c.toNat : Int) ∧ (c.toNat : Int) ≤ 57) := by
  unfold nameC
  simp only [Bool.or_eq_true, Bool.and_eq_true, decide_eq_true_eq]
  omega
theorem nameC_f (c : UInt8) : nameC c = false ↔ ¬ (((65 ≤ (c.toNat : Int) ∧ (c.toNat : Int) ≤ 90) ∨ (97 ≤ (c.toNat : Int) ∧ (c.toNat : Int) ≤ 122)) ∨ (48 ≤ (c.toNat : Int) ∧ (c.toNat : Int) ≤ 57)) := by
  rw [← nameC_t]
  cases nameC c <;> simp
/-- so far all are letters or digits -/
def NameTo (s : ByteArray) (k : Nat) : Prop := k ≤ s.size ∧ (s.data.toList.take k).all nameC = true
theorem size_list (s : ByteArray) : s.data.toList.length = s.size := rfl
theorem byteAt (s : ByteArray) (k : Nat) (h : k < s.size) : s.data.toList[k]'(by rw [size_list]; exact h) = s[k] := by
  rw [Array.getElem_toList]; rfl
theorem name_step {s : ByteArray} {k : Nat} (h : NameTo s k) (hk : k < s.size) (hc : nameC s[k] = true) : NameTo s (k + 1) := by
  refine ⟨by omega, ?_⟩
  rw [List.take_succ_eq_append_getElem (by rw [size_list]; exact hk), List.all_append, h.2, byteAt s k hk]
  simpa using hc
theorem name_bad {s : ByteArray} {k : Nat} (hk : k < s.size) (hc : nameC s[k] = false) : nameB s = false := by
  have : s.data.toList.all nameC = false := by
    rw [List.all_eq_false]
    exact ⟨s[k], by rw [← byteAt s k hk]; exact List.getElem_mem _, by rw [hc]; simp⟩
  unfold nameB
  rw [this]
  rfl
theorem name_end {s : ByteArray} (h : NameTo s s.size) : nameB s = (decide (0 < s.size) && decide (s.size ≤ 16)) := by
  have h2 := h.2
  rw [← size_list, List.take_length] at h2
  unfold nameB
  rw [h2, Bool.true_and]

/-- so far no byte is 1 -/
def TextTo (s : ByteArray) (k : Nat) : Prop := k ≤ s.size ∧ ((s.data.toList.take k).all fun c => c != 1) = true
theorem text_step {s : ByteArray} {k : Nat} (h : TextTo s k) (hk : k < s.size) (hc : s[k] ≠ 1) : TextTo s (k + 1) := by
  refine ⟨by omega, ?_⟩
  rw [List.take_succ_eq_append_getElem (by rw [size_list]; exact hk), List.all_append, h.2, byteAt s k hk]
  simpa using hc
theorem text_bad {s : ByteArray} {k : Nat} (hk : k < s.size) (hc : s[k] = 1) : textB s = false := by
  have : (s.data.toList.all fun c => c != 1) = false := by
    rw [List.all_eq_false]
    exact ⟨s[k], by rw [← byteAt s k hk]; exact List.getElem_mem _, by rw [hc]; simp⟩
  unfold textB
  rw [this]
  rfl
theorem text_end {s : ByteArray} (h : TextTo s s.size) : textB s = decide (s.size ≤ 64) := by
  have h2 := h.2
  rw [← size_list, List.take_length] at h2
  unfold textB
  rw [h2, Bool.true_and]
/-! ### the cells of an execution, of a message -/
def Ex.cells (x : Ex) : Array Value := #[.string x.id, .string x.ref, .string x.order, .string x.account, .string x.symbol, .int .i64 x.kind, .bool x.buy, .int .i64 x.qty, .int .i64 x.price, .int .i64 x.time]
def Ms.cells (m : Ms) : Array Value := #[.int .i64 m.kind, .int .i64 m.seq, .int .i64 m.time, .bool m.copy, .int .i64 m.a, .int .i64 m.b, .bool m.gap, .string m.text,
  .string m.exec.id, .string m.exec.ref, .string m.exec.order, .string m.exec.account, .string m.exec.symbol, .int .i64 m.exec.kind, .bool m.exec.buy, .int .i64 m.exec.qty, .int .i64 m.exec.price, .int .i64 m.exec.time]
def flEx : Fl := .cons .s (.cons .s (.cons .s (.cons .s (.cons .s (.cons .i (.cons .b (.cons .i (.cons .i (.cons .i .nil)))))))))
def flMs : Fl := .cons .i (.cons .i (.cons .i (.cons .b (.cons .i (.cons .i (.cons .b (.cons .s (.cons flEx .nil))))))))
theorem fitsEx : fitsT Try.prog flEx 34 = true := by kernel_rfl
theorem fitsMs : fitsT Try.prog flMs 36 = true := by kernel_rfl
def I64 (n : Int) : Prop := -9223372036854775808 ≤ n ∧ n ≤ 9223372036854775807
def Str (s : ByteArray) : Prop := s.size ≤ 9223372036854775807
structure Ex.Fits (x : Ex) : Prop where
  id : Str x.id
  ref : Str x.ref
  order : Str x.order
  account : Str x.account
  symbol : Str x.symbol
  kind : I64 x.kind
  qty : I64 x.qty
  price : I64 x.price
  time : I64 x.time
structure Ms.Fits (m : Ms) : Prop where
  kind : I64 m.kind
  seq : I64 m.seq
  time : I64 m.time
  a : I64 m.a
  b : I64 m.b
  text : Str m.text
  exec : m.exec.Fits
theorem Ex.cs {x : Ex} (h : x.Fits) : Cs flEx x.cells.toList :=
  .cons (u := [_]) (.s _ h.id) (.cons (u := [_]) (.s _ h.ref) (.cons (u := [_]) (.s _ h.order) (.cons (u := [_]) (.s _ h.account) (.cons (u := [_]) (.s _ h.symbol) (.cons (u := [_]) (.i _ h.kind) (.cons (u := [_]) (.b _) (.cons (u := [_]) (.i _ h.qty) (.cons (u := [_]) (.i _ h.price) (.cons (u := [_]) (.i _ h.time) .nil)))))))))
theorem Ms.cs {m : Ms} (h : m.Fits) : Cs flMs m.cells.toList :=
  .cons (u := [_]) (.i _ h.kind) (.cons (u := [_]) (.i _ h.seq) (.cons (u := [_]) (.i _ h.time) (.cons (u := [_]) (.b _) (.cons (u := [_]) (.i _ h.a) (.cons (u := [_]) (.i _ h.b) (.cons (u := [_]) (.b _) (.cons (u := [_]) (.s _ h.text) (.cons (u := m.exec.cells.toList) (Ex.cs h.exec) .nil))))))))
theorem ex_of {u : List Value} (h : Cs flEx u) : ∃ x : Ex, u = x.cells.toList ∧ x.Fits := by
  obtain ⟨_, _, rfl, k1, g1⟩ := h.cons_inv
  obtain ⟨a0, rfl, f0⟩ := k1.s_inv
  obtain ⟨_, _, rfl, k2, g2⟩ := g1.cons_inv
  obtain ⟨a1, rfl, f1⟩ := k2.s_inv
  obtain ⟨_, _, rfl, k3, g3⟩ := g2.cons_inv
  obtain ⟨a2, rfl, f2⟩ := k3.s_inv
  obtain ⟨_, _, rfl, k4, g4⟩ := g3.cons_inv
  obtain ⟨a3, rfl, f3⟩ := k4.s_inv
  obtain ⟨_, _, rfl, k5, g5⟩ := g4.cons_inv
  obtain ⟨a4, rfl, f4⟩ := k5.s_inv
  obtain ⟨_, _, rfl, k6, g6⟩ := g5.cons_inv
  obtain ⟨a5, rfl, f5⟩ := k6.i_inv
  obtain ⟨_, _, rfl, k7, g7⟩ := g6.cons_inv
  obtain ⟨a6, rfl⟩ := k7.b_inv
  obtain ⟨_, _, rfl, k8, g8⟩ := g7.cons_inv
  obtain ⟨a7, rfl, f7⟩ := k8.i_inv
  obtain ⟨_, _, rfl, k9, g9⟩ := g8.cons_inv
  obtain ⟨a8, rfl, f8⟩ := k9.i_inv
  obtain ⟨_, _, rfl, k10, g10⟩ := g9.cons_inv
  obtain ⟨a9, rfl, f9⟩ := k10.i_inv
  obtain rfl := g10.nil_inv
  exact ⟨⟨a0, a1, a2, a3, a4, a5, a6, a7, a8, a9⟩, rfl, f0, f1, f2, f3, f4, f5, f7, f8, f9⟩
theorem ms_of {u : List Value} (h : Cs flMs u) : ∃ m : Ms, u = m.cells.toList ∧ m.Fits := by
  obtain ⟨_, _, rfl, k1, g1⟩ := h.cons_inv
  obtain ⟨a0, rfl, f0⟩ := k1.i_inv
  obtain ⟨_, _, rfl, k2, g2⟩ := g1.cons_inv
  obtain ⟨a1, rfl, f1⟩ := k2.i_inv
  obtain ⟨_, _, rfl, k3, g3⟩ := g2.cons_inv
  obtain ⟨a2, rfl, f2⟩ := k3.i_inv
  obtain ⟨_, _, rfl, k4, g4⟩ := g3.cons_inv
  obtain ⟨a3, rfl⟩ := k4.b_inv
  obtain ⟨_, _, rfl, k5, g5⟩ := g4.cons_inv
  obtain ⟨a4, rfl, f4⟩ := k5.i_inv
  obtain ⟨_, _, rfl, k6, g6⟩ := g5.cons_inv
  obtain ⟨a5, rfl, f5⟩ := k6.i_inv
  obtain ⟨_, _, rfl, k7, g7⟩ := g6.cons_inv
  obtain ⟨a6, rfl⟩ := k7.b_inv
  obtain ⟨_, _, rfl, k8, g8⟩ := g7.cons_inv
  obtain ⟨a7, rfl, f7⟩ := k8.s_inv
  obtain ⟨_, _, rfl, k9, g9⟩ := g8.cons_inv
  obtain ⟨x, rfl, fx⟩ := ex_of k9
  obtain rfl := g9.nil_inv
  exact ⟨⟨a0, a1, a2, a3, a4, a5, a6, a7, x⟩, rfl, f0, f1, f2, f4, f5, f7, fx⟩
theorem str_eq (a b : ByteArray) : (a.toList == b.toList) = decide (a = b) := by
  rw [Bool.eq_iff_iff, beq_iff_eq, decide_eq_true_eq, ByteArray.toList_eq, ByteArray.toList_eq]
  constructor
  · intro h
    obtain ⟨⟨x⟩⟩ := a
    obtain ⟨⟨y⟩⟩ := b
    simpa using h
  · intro h; rw [h]
theorem ex_same (x y : Ex) : sameC x.cells.toList y.cells.toList = decide (x = y) := by
  obtain ⟨a0, a1, a2, a3, a4, a5, a6, a7, a8, a9⟩ := x
  obtain ⟨b0, b1, b2, b3, b4, b5, b6, b7, b8, b9⟩ := y
  rw [Bool.eq_iff_iff, decide_eq_true_eq, Ex.mk.injEq]
  simp only [Ex.cells, sameC, str_eq, Bool.and_eq_true, decide_eq_true_eq, beq_iff_eq]
  simp
theorem ms_same (x y : Ms) : sameC x.cells.toList y.cells.toList = decide (x = y) := by
  obtain ⟨c0, c1, c2, c3, c4, c5, c6, c7, ⟨a0, a1, a2, a3, a4, a5, a6, a7, a8, a9⟩⟩ := x
  obtain ⟨d0, d1, d2, d3, d4, d5, d6, d7, ⟨b0, b1, b2, b3, b4, b5, b6, b7, b8, b9⟩⟩ := y
  rw [Bool.eq_iff_iff, decide_eq_true_eq, Ms.mk.injEq, Ex.mk.injEq]
  simp only [Ms.cells, sameC, str_eq, Bool.and_eq_true, decide_eq_true_eq, beq_iff_eq]
  simp
theorem emp_fits : Str emp := by unfold Str; decide
theorem zero_fits : I64 0 := by unfold I64; decide
theorem noEx_fits : noEx.Fits := ⟨emp_fits, emp_fits, emp_fits, emp_fits, emp_fits, zero_fits, zero_fits, zero_fits, zero_fits⟩

end Msg
end Go.Proofs.Ytnmmokdkngccjaa
