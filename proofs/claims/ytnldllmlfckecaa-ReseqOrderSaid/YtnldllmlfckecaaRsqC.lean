/-
  The reference's Items and Same of layer 6.
-/
import Derived.Test.YtnldllmlfckecaaRsqB
namespace Go.Proofs.Ytnldllmlfckecaa
open Go.RowKit
namespace Rsq
open Num
open Msg (I64)

theorem it_same (x y : It) : sameC x.arr.toList y.arr.toList = decide (x = y) := by
  obtain ⟨f0, f1, m⟩ := x
  obtain ⟨g0, g1, k⟩ := y
  have h := Msg.ms_same m k
  have e : sameC (It.arr ⟨f0, f1, m⟩).toList (It.arr ⟨g0, g1, k⟩).toList = (f0 == g0 && (f1 == g1 && sameC m.cells.toList k.cells.toList)) := rfl
  rw [e, h, Bool.eq_iff_iff, decide_eq_true_eq, It.mk.injEq]
  simp only [Bool.and_eq_true, decide_eq_true_eq, beq_iff_eq]
theorem it_cs {x : It} (h : x.Fits) : Cs flIt x.arr.toList := by
  have e : x.arr.toList = [.int .i64 x.fr] ++ ([.int .i64 x.to] ++ (x.m.cells.toList ++ [])) := rfl
  rw [e]
  exact .cons (.i _ h.fr) (.cons (.i _ h.to) (.cons (Msg.Ms.cs h.m) .nil))
theorem neq_item {xs ys : Array Value} {w : World} (hx : Cs flIt xs.toList) (hy : Cs flIt ys.toList) : (binOp .neq 30 (.agg xs) (.agg ys)).run Try.prog w = .ok (.bool (!(sameC xs.toList ys.toList))) w := run_flat_neq fitsIt (by decide) hx hy w
theorem item_guard (op : BinOp) (x y : Operand) (a b : Array Value) (w : World) : (eqGuard op 30 x y (.agg a) (.agg b)).run Try.prog w = .ok () w := run_eqGuard_agg w op _ _ _ _ _ (by kernel_rfl)
attribute [local go_sem ↓] load_item neq_item
attribute [local go_sem] blkOf_ptr offOf_ptr item_guard

set_option maxRecDepth 100000 in
set_option maxHeartbeats 4000000 in
theorem ritems_any (x y : List It) (fx : ∀ i ∈ x, i.Fits) (fy : ∀ i ∈ y, i.Fits) (a0 : Option Addr) (cap0 n : Nat) (a1 : Option Addr) (cap1 m : Nat) (hn : x.length = n) (hm : y.length = m) (hn9 : n ≤ 100000000) (hm9 : m ≤ 100000000) (w : World)
    (h0 : RowAt encI w a0 cap0 x) (h1 : RowAt encI w a1 cap1 y) :
    Calls Try.prog 16 #[.slice a0 n cap0, .slice a1 m cap1] w fun e w' => e = .returned (.bool (decide (x = y))) ∧ Below w.heap.size w w' := by
  have H0 := Lib.hid h0
  have H1 := Lib.hid h1
  have HN := Lib.hid hn
  have HM := Lib.hid hm
  have HFX := Lib.hid fx
  have HFY := Lib.hid fy
  clear h0 h1 hn hm fx fy
  by_cases hnm : n = m
  · subst hnm
    go_enter Try.func16, Try.ntmps16
    go_wp2_with fail
    go_loopw [5] (fun i_ wr => ∃ k : Nat, i_ = .int .i64 k ∧ k ≤ n ∧ x.take k = y.take k ∧ Below w.heap.size w wr) (fun i_ _ => n - (intOf i_).toNat)
    case atStart => exact ⟨0, rfl, Nat.zero_le _, rfl, Below.refl _ _⟩
    case round =>
      obtain ⟨k, rfl, hkn, htk, hbel⟩ := hrel
      have HB := Lib.hid hbel
      have HTK := Lib.hid htk
      clear hbel htk
      by_cases hlt : k < n
      · obtain ⟨xk, hx⟩ : ∃ z, x[k]? = some z := ⟨x[k]'(by rw [HN.out]; exact hlt), List.getElem?_eq_getElem _⟩
        obtain ⟨yk, hy⟩ : ∃ z, y[k]? = some z := ⟨y[k]'(by rw [HM.out]; exact hlt), List.getElem?_eq_getElem _⟩
        obtain ⟨b0, o0, rfl, _⟩ := H0.out.at (by rw [HN.out]; omega) (by decide)
        obtain ⟨b1, o1, rfl, _⟩ := H1.out.at (by rw [HM.out]; omega) (by decide)
        have hc0 : n ≤ cap0 := by
          rcases H0.out with ⟨h, _⟩ | ⟨_, _, h, _⟩
          · cases h
          · rwa [HN.out] at h
        have hc1 : n ≤ cap1 := by
          rcases H1.out with ⟨h, _⟩ | ⟨_, _, h, _⟩
          · cases h
          · rwa [HM.out] at h
        have HEL : Hid (∀ W, Below w.heap.size w W → CellsOk W b0 (o0 + k * 20) 20 ∧ cellsAt W b0 (o0 + k * 20) 20 = xk.arr ∧ CellsOk W b1 (o1 + k * 20) 20 ∧ cellsAt W b1 (o1 + k * 20) 20 = yk.arr) := Lib.hid fun W hW => by
          have ⟨g1, g2⟩ := CellsOk.of (item_at (H0.out.later hW) hx)
          have ⟨g3, g4⟩ := CellsOk.of (item_at (H1.out.later hW) hy)
          exact ⟨g1, g2, g3, g4⟩
        have cx := it_cs (HFX.out xk (List.mem_of_getElem? hx))
        have cy := it_cs (HFY.out yk (List.mem_of_getElem? hy))
        obtain ⟨q, hq⟩ : ∃ q, decide (xk = yk) = q := ⟨_, rfl⟩
        have hs := it_same xk yk
        rw [hq] at hs
        obtain ⟨xa, hxa⟩ : ∃ c, xk.arr = c := ⟨_, rfl⟩
        obtain ⟨ya, hya⟩ : ∃ c, yk.arr = c := ⟨_, rfl⟩
        rw [hxa, hya] at HEL hs
        rw [hxa] at cx
        rw [hya] at cy
        have HQ := Lib.hid hq
        have HX := Lib.hid hx
        have HY := Lib.hid hy
        clear hxa hya hq hx hy
        go_upto_region 6 with fail
        go_region_held3 (fun w' => Below w.heap.size w w' ∧ CellsOk w' b0 (o0 + k * 20) 20 ∧ cellsAt w' b0 (o0 + k * 20) 20 = xa ∧ CellsOk w' b1 (o1 + k * 20) 20 ∧ cellsAt w' b1 (o1 + k * 20) 20 = ya)
          (exact ⟨HB.out.drew, HEL.out _ HB.out.drew⟩)
          (fail)
        cases q
        · go_wp2_with fail
          go_ret
          refine ⟨ret_b ?_, HB.out.drew⟩
          have hne := of_decide_eq_false HQ.out
          refine (decide_eq_false fun e => hne ?_).symm
          have h2 := HX.out
          rw [e, HY.out] at h2
          exact (Option.some.inj h2).symm
        · go_wp2_with fail
          go_roundw
          case rel =>
            refine ⟨k + 1, congrArg (Value.int .i64) (by omega), by omega, ?_, HB.out.drew⟩
            rw [List.take_add_one, List.take_add_one, HTK.out, HX.out, HY.out, of_decide_eq_true HQ.out]
          case measure => simp [intOf]; omega
      · have hall : x = y := by
          have h := HTK.out
          rwa [List.take_of_length_le (by rw [HN.out]; omega), List.take_of_length_le (by rw [HM.out]; omega)] at h
        have HE := Lib.hid hall
        clear hall
        go_wp2_with fail
        go_ret
        exact ⟨ret_b (decide_eq_true HE.out).symm, HB.out⟩
  · have HE : Hid (decide (x = y) = false) := Lib.hid (decide_eq_false fun e => hnm (by rw [← HN.out, ← HM.out, e]))
    go_enter Try.func16, Try.ntmps16
    go_wp2_with fail
    go_ret
    exact ⟨ret_b HE.out.symm, Below.refl _ _⟩

end Rsq
end Go.Proofs.Ytnldllmlfckecaa
