/-
  The reference's Exec and Right of layer 5.
-/
import Derived.Test.YtddblaiahgjbaaaGreatDoorMsgU
import Derived.Deep.CutBlock
import Derived.Deep.DeepCutAuto
import Derived.Deep.Cut
namespace Go.Proofs.YtddblaiahgjbaaaGreatDoor
open Go.RowKit
namespace Msg
open Num

theorem name_h {s : ByteArray} {o : Bool} (h : nameB s = o) (w : World) (hs : Str s) : Calls Tryz.prog 14 #[.string s] w fun e w' => e = .returned (.bool o) ∧ w' = w := by rw [← h]; exact rname_any s w hs
theorem exec_kind {x : Ex} (h : ¬ (1 ≤ x.kind ∧ x.kind ≤ 8)) : execB x = false := by
  unfold execB
  have : (decide (1 ≤ x.kind) && decide (x.kind ≤ 8)) = false := by
    rw [Bool.and_eq_false_iff, decide_eq_false_iff_not, decide_eq_false_iff_not]
    omega
  rw [this]; simp

set_option maxRecDepth 100000 in
set_option maxHeartbeats 4000000 in
theorem rexec_any (x : Ex) (hx : x.Fits) (w : World) :
    Calls Tryz.prog 12 #[.agg x.cells] w fun e w' => e = .returned (.bool (execB x)) ∧ Below w.heap.size w w' := by
  have HF := Lib.hid hx
  have HB : Hid (Below w.heap.size w (w.alloc (.cells x.cells 23))) := Lib.hid ((Below.refl _ _).alloc (Nat.le_refl _) _)
  have hk := hx.kind
  unfold I64 at hk
  clear hx
  unfold Ex.cells at HB ⊢
  have HE : Hid (execB x = (decide (1 ≤ x.kind) && decide (x.kind ≤ 8) && nameB x.id && nameB x.order && nameB x.account && nameB x.symbol && (if refK x.kind = true then nameB x.ref else decide (x.ref = emp)) && smallB x.qty && smallB x.price && timeB x.time)) := Lib.hid rfl
  obtain ⟨o, ho⟩ : ∃ o, execB x = o := ⟨_, rfl⟩
  rw [ho] at HE ⊢
  clear ho
  go_enter Tryz.func12, Tryz.ntmps12
  go_wp2_with (first
    | (refine (rname_any _ _ (by first | exact HF.out.id | exact HF.out.order | exact HF.out.account | exact HF.out.symbol | exact HF.out.ref)).mono ?_; rintro e w' ⟨rfl, rfl⟩)
    | (refine (rsmall_any _ _).mono ?_; rintro e w' ⟨rfl, rfl⟩)
    | (refine (rtime_any _ _).mono ?_; rintro e w' ⟨rfl, rfl⟩))
  all_goals
    go_ret
    refine ⟨ret_b ?_, (Below.refl _ _).alloc (Nat.le_refl _) _⟩
    rw [HE.out]
    clear HE HB HF hk
    try simp only [empty_is] at *
    first
      | (simp_all [refK]; done)
      | grind [refK]
      | (trace_state; fail)

end Msg
end Go.Proofs.YtddblaiahgjbaaaGreatDoor
