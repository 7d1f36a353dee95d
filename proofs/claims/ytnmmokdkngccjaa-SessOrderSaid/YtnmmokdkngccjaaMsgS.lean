/-
  The reference's Short of layer 5.
-/
import Derived.Test.YtnmmokdkngccjaaMsgU
import Derived.Deep.CutBlock
import Derived.Deep.DeepCutAuto
import Derived.Deep.Cut
namespace Go.Proofs.Ytnmmokdkngccjaa
open Go.RowKit
namespace Msg
open Num

/-- texts of at most 300 bytes -/
def shortM (m : Ms) : Bool := decide ((m.text.size : Int) ≤ 300) && decide ((m.exec.id.size : Int) ≤ 300) && decide ((m.exec.ref.size : Int) ≤ 300) && decide ((m.exec.order.size : Int) ≤ 300) && decide ((m.exec.account.size : Int) ≤ 300) && decide ((m.exec.symbol.size : Int) ≤ 300)

set_option maxRecDepth 100000 in
set_option maxHeartbeats 2000000 in
theorem rshort_any (m : Ms) (hm : m.Fits) (w : World) :
    Calls Try.prog 9 #[.agg m.cells] w fun e w' => e = .returned (.bool (shortM m)) ∧ Below w.heap.size w w' := by
  have ht := hm.text
  have h0 := hm.exec.id
  have h1 := hm.exec.ref
  have h2 := hm.exec.order
  have h3 := hm.exec.account
  have h4 := hm.exec.symbol
  unfold Str at ht h0 h1 h2 h3 h4
  clear hm
  have HBOX := Lib.hid (BoxM.made w m 36)
  have HB0 : Hid (Below w.heap.size w (w.alloc (.cells m.cells 36))) := Lib.hid ((Below.refl _ _).alloc (Nat.le_refl _) _)
  unfold Ms.cells at HBOX HB0 ⊢
  unfold shortM
  generalize hp1 : decide ((m.text.size : Int) ≤ 300) = p1
  generalize hp2 : decide ((m.exec.id.size : Int) ≤ 300) = p2
  generalize hp3 : decide ((m.exec.ref.size : Int) ≤ 300) = p3
  generalize hp4 : decide ((m.exec.order.size : Int) ≤ 300) = p4
  generalize hp5 : decide ((m.exec.account.size : Int) ≤ 300) = p5
  generalize hp6 : decide ((m.exec.symbol.size : Int) ≤ 300) = p6
  go_enter Try.func9, Try.ntmps9
  go_upto_region 1 with fail
  generalize hW : w.alloc (.cells _ 36) = w0 at HBOX HB0 ⊢
  generalize Value.agg #[.int .i64 m.kind, .int .i64 m.seq, .int .i64 m.time, .bool m.copy, .int .i64 m.a, .int .i64 m.b, .bool m.gap, .string m.text, .string m.exec.id, .string m.exec.ref, .string m.exec.order, .string m.exec.account, .string m.exec.symbol, .int .i64 m.exec.kind, .bool m.exec.buy, .int .i64 m.exec.qty, .int .i64 m.exec.price, .int .i64 m.exec.time] = v0
  clear hW
  have c7 := HBOX.out.c7
  have c8 := HBOX.out.c8
  have c9 := HBOX.out.c9
  have c10 := HBOX.out.c10
  have c11 := HBOX.out.c11
  have c12 := HBOX.out.c12
  go_wp2_with fail
  all_goals
    go_ret
    refine ⟨ret_b ?_, HB0.out⟩
    simp [*]

end Msg
end Go.Proofs.Ytnmmokdkngccjaa
