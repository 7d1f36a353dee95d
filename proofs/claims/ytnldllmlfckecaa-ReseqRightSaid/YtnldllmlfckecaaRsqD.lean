/-
  The reference's Same of layer 6.
-/
import Derived.Test.YtnldllmlfckecaaRsqC
namespace Go.Proofs.Ytnldllmlfckecaa
open Go.RowKit
namespace Rsq
open Num
open Msg (I64)

set_option maxRecDepth 100000 in
set_option maxHeartbeats 2000000 in
theorem rsame_any (x y : Li) (fx : ∀ i ∈ x.held, i.Fits) (fy : ∀ i ∈ y.held, i.Fits) (a0 : Option Addr) (cap0 n : Nat) (a1 : Option Addr) (cap1 m : Nat) (hn : x.held.length = n) (hm : y.held.length = m) (hn9 : n ≤ 100000000) (hm9 : m ≤ 100000000) (w : World)
    (h0 : RowAt encI w a0 cap0 x.held) (h1 : RowAt encI w a1 cap1 y.held) :
    Calls Try.prog 15 #[.agg #[.int .i64 x.next, .slice a0 n cap0], .agg #[.int .i64 y.next, .slice a1 m cap1]] w fun e w' => e = .returned (.bool (decide (x.next = y.next) && decide (x.held = y.held))) ∧ Below w.heap.size w w' := by
  obtain ⟨X, hX⟩ : ∃ X : Array Value, #[.int .i64 x.next, .slice a0 n cap0] = X := ⟨_, rfl⟩
  obtain ⟨Y, hY⟩ : ∃ Y : Array Value, #[.int .i64 y.next, .slice a1 m cap1] = Y := ⟨_, rfl⟩
  have hb : Below w.heap.size w ((w.alloc (.cells X 24)).alloc (.cells Y 24)) := ((Below.refl _ _).alloc (Nat.le_refl _) _).alloc (by simp) _
  have HX0 : Hid (((w.alloc (.cells X 24)).alloc (.cells Y 24)).heap[w.heap.size]? = some (.cells X 24 (0, 0)) ∧ ((w.alloc (.cells X 24)).alloc (.cells Y 24)).heap[w.heap.size + 1]? = some (.cells Y 24 (0, 0))) := Lib.hid ⟨alloc_block (heap_alloc_new w _), by
    have h := heap_alloc_new (w.alloc (.cells X 24)) (.cells Y 24)
    rwa [show (w.alloc (.cells X 24)).heap.size = w.heap.size + 1 by simp] at h⟩
  have HB0 := Lib.hid hb
  have HC := Lib.hid fun W g0 g1 => ritems_any x.held y.held fx fy a0 cap0 n a1 cap1 m hn hm hn9 hm9 W g0 g1
  have H0 := Lib.hid (h0.later hb)
  have H1 := Lib.hid (h1.later hb)
  have x0 : X[0]? = some (.int .i64 x.next) := by rw [← hX]; rfl
  have x1 : X[1]? = some (.slice a0 n cap0) := by rw [← hX]; rfl
  have y0 : Y[0]? = some (.int .i64 y.next) := by rw [← hY]; rfl
  have y1 : Y[1]? = some (.slice a1 m cap1) := by rw [← hY]; rfl
  rw [hX, hY]
  clear hX hY hb h0 h1 hn hm hn9 hm9 fx fy
  go_enter Try.func15, Try.ntmps15
  go_upto_region 1 with fail
  generalize (w.alloc (.cells X 24)).alloc (.cells Y 24) = w0 at HX0 HB0 H0 H1 ⊢
  have c0 := cell_at HX0.out.1 x0
  have c1 := cell_at HX0.out.1 x1
  have c2 := cell_at HX0.out.2 y0
  have c3 := cell_at HX0.out.2 y1
  clear x0 x1 y0 y1
  cases d : decide (x.next = y.next)
  · have d2 : (x.next == y.next) = false := d
    go_wp2_with fail
    go_ret
    exact ⟨ret_b (by rw [d]; rfl), HB0.out⟩
  · have d2 : (x.next == y.next) = true := d
    go_wp2_with fail
    refine (HC.out _ H0.out H1.out).mono ?_
    rintro e w1 ⟨rfl, hb1⟩
    have HB1 := Lib.hid (HB0.out.trans (hb1.mono HB0.out.size))
    clear hb1
    go_wp2_with fail
    go_ret
    exact ⟨ret_b (by rw [d]; rfl), HB1.out⟩

end Rsq
end Go.Proofs.Ytnldllmlfckecaa
