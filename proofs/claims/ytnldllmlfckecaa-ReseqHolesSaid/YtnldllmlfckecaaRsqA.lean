/-
  The reference's May of layer 6, and what a line is in memory.
-/
import Derived.Test.YtnldllmlfckecaaOpenFl
import Derived.Test.YtnldllmlfckecaaGen
import Derived.WalkSpells
import Derived.WalkLawsBesides
import Derived.BigQuiet
import Derived.Deep.CutBlock
import Derived.Deep.DeepCutAuto
import Derived.Deep.Cut
namespace Go.Proofs.Ytnldllmlfckecaa
open Go.RowKit
namespace Rsq
open Num
open Msg (I64)

theorem fitsIt : fitsT Try.prog flIt 30 = true := by kernel_rfl
/-- an item's cells, as a value has them -/
def It.arr (x : It) : Array Value := #[.int .i64 x.fr, .int .i64 x.to, .int .i64 x.m.kind, .int .i64 x.m.seq, .int .i64 x.m.time, .bool x.m.copy, .int .i64 x.m.a, .int .i64 x.m.b, .bool x.m.gap, .string x.m.text,
  .string x.m.exec.id, .string x.m.exec.ref, .string x.m.exec.order, .string x.m.exec.account, .string x.m.exec.symbol, .int .i64 x.m.exec.kind, .bool x.m.exec.buy, .int .i64 x.m.exec.qty, .int .i64 x.m.exec.price, .int .i64 x.m.exec.time]
theorem It.arr_list (x : It) : x.arr.toList = x.cells := rfl
theorem It.arr_size (x : It) : x.arr.size = 20 := rfl

theorem rmay_any (x : It) (w : World) : Calls Try.prog 13 #[.agg x.arr] w fun e w' => e = .returned (.bool (mayI x)) ∧ Below w.heap.size w w' := by
  have HM : Hid (mayI x = (decide (0 < x.fr) && decide (x.fr < x.to) && decide (x.to ≤ 2199023255552))) := Lib.hid rfl
  have HX0 : Hid ((w.alloc (.cells x.arr 30)).heap[w.heap.size]? = some (.cells x.arr 30 (0, 0))) := Lib.hid (heap_alloc_new w _)
  have HB0 : Hid (Below w.heap.size w (w.alloc (.cells x.arr 30))) := Lib.hid ((Below.refl _ _).alloc (Nat.le_refl _) _)
  have a0 : x.arr[0]? = some (.int .i64 x.fr) := rfl
  have a1 : x.arr[1]? = some (.int .i64 x.to) := rfl
  obtain ⟨C, hC⟩ : ∃ C, x.arr = C := ⟨_, rfl⟩
  rw [hC] at HX0 HB0 a0 a1 ⊢
  clear hC
  go_enter Try.func13, Try.ntmps13
  go_upto_region 1 with fail
  generalize w.alloc (.cells C 30) = w0 at HX0 HB0 ⊢
  have c0 := cell_at HX0.out a0
  have c1 := cell_at HX0.out a1
  clear a0 a1
  generalize hp1 : decide (0 < x.fr) = p1 at HM
  generalize hp2 : decide (x.fr < x.to) = p2 at HM
  generalize hp3 : decide (x.to ≤ 2199023255552) = p3 at HM
  cases p1 <;> cases p2 <;> cases p3
  all_goals
    go_wp2_with fail
    go_ret
    exact ⟨ret_b (by rw [HM.out]; rfl), HB0.out⟩

/-- the prefix of a rising list rises -/
theorem rise_take : ∀ {lo : Int} {h : List It} (k : Nat), riseB lo h = true → riseB lo (h.take k) = true
  | _, _, 0, _ => rfl
  | _, [], _ + 1, _ => rfl
  | lo, y :: r, k + 1, h => by
    have h' := rise_cons.1 h
    rw [List.take_succ_cons, rise_cons]
    exact ⟨h'.1, h'.2.1, rise_take k h'.2.2⟩
/-- one more: it may be, and lies above the one ahead of it -/
theorem rise_snoc {x : It} : ∀ {lo : Int} {h : List It}, riseB lo (h ++ [x]) = true ↔ riseB lo h = true ∧ mayI x = true ∧ lo < x.fr ∧ ∀ y, h.getLast? = some y → y.fr < x.fr
  | lo, [] => by
    rw [List.nil_append, rise_cons]
    simp [riseB]
  | lo, y :: r => by
    rw [List.cons_append, rise_cons, rise_cons, rise_snoc]
    constructor
    · rintro ⟨h1, h2, h3, h4, h5, h6⟩
      refine ⟨⟨h1, h2, h3⟩, h4, by omega, fun z hz => ?_⟩
      cases r with
      | nil =>
        rw [List.getLast?_singleton] at hz
        obtain rfl := Option.some.inj hz
        exact h5
      | cons q r =>
        rw [List.getLast?_cons_cons] at hz
        exact h6 z hz
    · rintro ⟨⟨h1, h2, h3⟩, h4, h5, h6⟩
      refine ⟨h1, h2, h3, h4, ?_, fun z hz => ?_⟩
      · cases r with
        | nil => exact h6 y rfl
        | cons q r =>
          have h7 := h6 _ (List.getLast?_eq_some_getLast (l := y :: q :: r) (by simp))
          have h8 : (y :: q :: r).getLast (by simp) ∈ q :: r := by
            rw [List.getLast_cons (by simp)]
            exact List.getLast_mem _
          have := (rise_mem h3 _ h8).2
          omega
      · cases r with
        | nil => cases hz
        | cons q r => exact h6 z (by rw [List.getLast?_cons_cons]; exact hz)

end Rsq
end Go.Proofs.Ytnldllmlfckecaa
