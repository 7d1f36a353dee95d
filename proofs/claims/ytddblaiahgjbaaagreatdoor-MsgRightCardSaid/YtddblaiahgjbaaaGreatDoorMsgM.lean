/-
  The walk of layer 5's laws: MsgRight.
-/
import Derived.Test.YtddblaiahgjbaaaGreatDoorMsgL
import Derived.Test.YtddblaiahgjbaaaGreatDoorMsgD
import Derived.Test.YtddblaiahgjbaaaGreatDoorPlMsgB
import Derived.Test.YtddblaiahgjbaaaGreatDoorLdRow

namespace Go.Proofs.YtddblaiahgjbaaaGreatDoor
open Go.RowKit
namespace Msg
open Num
open Fld (F)

attribute [local go_sem ↓] load_msg load_exec
attribute [local go_sem] blkOf_ptr offOf_ptr

theorem rput_is (c : Array Value) (m : Ms) (hc : c = m.cells) (hm : m.Fits) (w : World) (y : List UInt8) (n : Int) (hp : putM m = (y, n)) : Calls Tryz.prog 8 #[.agg c] w (GotBytes w y n) := by
  subst hc
  have h := rput_any m hm w
  rw [hp] at h
  exact h.mono fun _ _ h => h.got
theorem right_i (c : Array Value) (m : Ms) (hc : c = m.cells) (hm : m.Fits) (w4 w : World) (hl : ∀ W, Below w4.heap.size w4 W → Laid W) (hb : Below w4.heap.size w4 w) : Calls Tryz.prog 9 #[.agg c] w fun e w' => e = .returned (.bool (rightM m)) ∧ Below w4.heap.size w4 w' := by
  subst hc
  exact (right_any m hm w (hl _ hb)).mono fun _ _ h => ⟨h.1, hb.trans (h.2.mono hb.size)⟩
theorem rright_i (c : Array Value) (m : Ms) (hc : c = m.cells) (hm : m.Fits) (w4 w : World) (hb : Below w4.heap.size w4 w) : Calls Tryz.prog 10 #[.agg c] w fun e w' => e = .returned (.bool (rightM m)) ∧ Below w4.heap.size w4 w' := by
  subst hc
  exact (rright_any m hm w).mono fun _ _ h => ⟨h.1, hb.trans (h.2.mono hb.size)⟩
theorem exec_i (c : Array Value) (m : Ex) (hc : c = m.cells) (hm : m.Fits) (w4 w : World) (hl : ∀ W, Below w4.heap.size w4 W → Laid W) (hb : Below w4.heap.size w4 w) : Calls Tryz.prog 11 #[.agg c] w fun e w' => e = .returned (.bool (execB m)) ∧ Below w4.heap.size w4 w' := by
  subst hc
  exact (exec_any m hm w (hl _ hb)).mono fun _ _ h => ⟨h.1, hb.trans (h.2.mono hb.size)⟩
theorem rexec_i (c : Array Value) (m : Ex) (hc : c = m.cells) (hm : m.Fits) (w4 w : World) (hb : Below w4.heap.size w4 w) : Calls Tryz.prog 12 #[.agg c] w fun e w' => e = .returned (.bool (execB m)) ∧ Below w4.heap.size w4 w' := by
  subst hc
  exact (rexec_any m hm w).mono fun _ _ h => ⟨h.1, hb.trans (h.2.mono hb.size)⟩
theorem name_i (s : ByteArray) (hs : Str s) (w4 w : World) (hl : ∀ W, Below w4.heap.size w4 W → Laid W) (hb : Below w4.heap.size w4 w) : Calls Tryz.prog 13 #[.string s] w fun e w' => e = .returned (.bool (nameB s)) ∧ Below w4.heap.size w4 w' :=
  (name_any s hs w (hl _ hb)).mono fun _ _ h => ⟨h.1, hb.trans (h.2.mono hb.size)⟩
theorem rname_i (s : ByteArray) (hs : Str s) (w4 w : World) (hb : Below w4.heap.size w4 w) : Calls Tryz.prog 14 #[.string s] w fun e w' => e = .returned (.bool (nameB s)) ∧ Below w4.heap.size w4 w' :=
  (rname_any s w hs).mono fun _ _ h => ⟨h.1, by rw [h.2]; exact hb⟩

set_option maxRecDepth 100000 in
set_option maxHeartbeats 4000000 in
theorem law_MsgRight (m : Ms) (w : World) (hm : m.Fits) (hl : Laid w) :
    Calls Tryz.prog 3 #[.agg m.cells] w fun e w' => e = .returned (.bool true) ∧ Below w.heap.size w w' := by
  have HF := Lib.hid hm
  have HL := Lib.hid hl
  clear hm hl
  obtain ⟨C, hC⟩ : ∃ C, m.cells = C := ⟨_, rfl⟩
  have hi : (Tryz.prog.info? 25).map (·.size) = some C.size := by rw [← hC]; kernel_rfl
  have hiX : (Tryz.prog.info? 23).map (·.size) = some m.exec.cells.size := by kernel_rfl
  have HX0 : Hid ((w.alloc (.cells C 25)).heap[w.heap.size]? = some (.cells C 25 (0, 0))) := Lib.hid (heap_alloc_new w _)
  have HB0 : Hid (Below w.heap.size w (w.alloc (.cells C 25))) := Lib.hid ((Below.refl _ _).alloc (Nat.le_refl _) _)
  have HC := Lib.hid hC
  rw [hC]
  clear hC
  go_enter Tryz.func3, Tryz.ntmps3
  go_upto_region 1 with fail
  generalize w.alloc (.cells C 25) = w0 at HX0 HB0 ⊢
  go_wp2_with fail
  refine (awake5_any _ (HL.out.below HB0.out)).mono ?_
  rintro e w1 ⟨rfl, hb1⟩
  have HB1 := Lib.hid (HB0.out.trans (hb1.mono HB0.out.size))
  have HX1 := Lib.hid (below_block HX0.out hb1)
  have HR1 := Lib.hid (block_range HX1.out)
  clear hb1 HX0
  go_wp2_with (refine wpList_load_arr_g (by rfl) 25 _ rfl w.heap.size 0 rfl C _ HR1.out Tryz.underlying25 rfl hi ?_)
  refine (short_is C m HC.out.symm HF.out _).mono ?_
  rintro e w2 ⟨rfl, hb2⟩
  have HB2 := Lib.hid (HB1.out.trans (hb2.mono HB1.out.size))
  have HX2 := Lib.hid (below_block HX1.out hb2)
  have HR2 := Lib.hid (block_range HX2.out)
  clear hb2 HX1 HR1
  cases hsh : shortM m
  · go_wp2_with fail
    go_ret
    exact ⟨rfl, HB2.out⟩
  · clear hsh
    obtain ⟨y, n, hp⟩ : ∃ y n, putM m = (y, n) := ⟨_, _, rfl⟩
    have hyl := put_len m
    rw [hp] at hyl
    have HP := Lib.hid hp
    clear hp
    simp only at hyl
    go_wp2_with (refine wpList_load_arr_g (by rfl) 25 _ rfl w.heap.size 0 rfl C _ HR2.out Tryz.underlying25 rfl hi ?_)
    refine (put_is C m HC.out.symm HF.out _ (HL.out.below HB2.out) _ _ HP.out).mono ?_
    rintro e w3 ⟨⟨a1, c1, rfl, hy1⟩, hb3⟩
    have HB3 := Lib.hid (HB2.out.trans (hb3.mono HB2.out.size))
    have HX3 := Lib.hid (below_block HX2.out hb3)
    have HR3 := Lib.hid (block_range HX3.out)
    have HY1 := Lib.hid hy1
    clear hy1 hb3 HX2 HR2
    go_wp2_with (refine wpList_load_arr_g (by rfl) 25 _ rfl w.heap.size 0 rfl C _ HR3.out Tryz.underlying25 rfl hi ?_)
    refine (rput_is C m HC.out.symm HF.out _ _ _ HP.out).mono ?_
    rintro e w4 ⟨⟨a2, c2, rfl, hy2⟩, hb4⟩
    have HB4 := Lib.hid (HB3.out.trans (hb4.mono HB3.out.size))
    have HX4 := Lib.hid (below_block HX3.out hb4)
    have HY2 := Lib.hid hy2
    have HY3 := Lib.hid (HY1.out.later hb4)
    clear hy2 hb4 HX3 HR3
    have HXC : Hid (C.extract 8 18 = m.exec.cells ∧ C.extract 0 18 = C ∧ C.size = 18) := Lib.hid (by rw [← HC.out]; exact ⟨rfl, rfl, rfl⟩)
    have HS : Hid (∀ W, Below w4.heap.size w4 W → w4.heap.size ≤ W.heap.size ∧ RowOk W w.heap.size 18 ∧ rowAt W w.heap.size = C ∧ W.cell? ⟨w.heap.size, 7, none⟩ = some (.string m.text)) := Lib.hid fun W hW => by
      have hx := below_block HX4.out hW
      have ⟨h1, h2⟩ := RowOk.of hx HXC.out.2.2
      exact ⟨hW.size, h1, h2, cell_at hx (by rw [← HC.out]; rfl)⟩
    have cv : ∀ W, Below w4.heap.size w4 W → ∀ (k : Nat), k = y.length → ((convert 28 9 (.slice a1 k c1)).run Tryz.prog W = .ok (.string ⟨y.toArray⟩) W) ∧ ((convert 28 9 (.slice a2 k c2)).run Tryz.prog W = .ok (.string ⟨y.toArray⟩) W) := fun W hW k hk => by
      subst hk
      exact ⟨string_of (P := Tryz.prog) Tryz.underlying28 Tryz.underlying5 Tryz.underlying9 (HY3.out.later hW) _ rfl, string_of (P := Tryz.prog) Tryz.underlying28 Tryz.underlying5 Tryz.underlying9 (HY2.out.later hW) _ rfl⟩
    obtain ⟨q, hq⟩ : ∃ q, y.length = q := ⟨_, rfl⟩
    have HCV := Lib.hid (fun W hW => cv W hW q hq.symm)
    rw [hq]
    clear cv hq
    have HLW : Hid (∀ W, Below w4.heap.size w4 W → Laid W) := Lib.hid fun W hW => HL.out.below (HB4.out.trans (hW.mono HB4.out.size))
    go_upto_region 7 with fail
    have hbq := Below.refl w4.heap.size w4
    have ⟨s1, s2, s3, s4⟩ := HS.out _ hbq
    have ⟨x1, x2, x3⟩ := HXC.out
    obtain ⟨X, hX⟩ : ∃ X, m.exec.cells = X := ⟨_, rfl⟩
    have HXE := Lib.hid hX
    rw [hX] at x1
    clear hi hiX hX x3
    go_region_held3 (fun w' => Below w4.heap.size w4 w' ∧ w4.heap.size ≤ w'.heap.size ∧ RowOk w' w.heap.size 18 ∧ rowAt w' w.heap.size = C ∧ w'.cell? ⟨w.heap.size, 7, none⟩ = some (.string m.text) ∧ (convert 28 9 (.slice a1 q c1)).run Tryz.prog w' = .ok (.string ⟨y.toArray⟩) w' ∧ (convert 28 9 (.slice a2 q c2)).run Tryz.prog w' = .ok (.string ⟨y.toArray⟩) w')
      (((try dsimp only); (repeat' apply And.intro); all_goals (first | exact hbq.drew | assumption | exact (HS.out _ hbq.drew).1 | exact (HS.out _ hbq.drew).2.1 | exact (HS.out _ hbq.drew).2.2.1 | exact (HS.out _ hbq.drew).2.2.2 | exact (HCV.out _ hbq.drew).1 | exact (HCV.out _ hbq.drew).2 | go_keep)))
      (first
        | (go_at_call 9; refine (right_i C m HC.out.symm HF.out w4 _ HLW.out (by first | assumption | exact hbq.drew)).mono ?_; rintro e w6 ⟨rfl, hb6⟩; have ⟨t1, t2, t3, t4⟩ := HS.out _ hb6; have ⟨t5, t6⟩ := HCV.out _ hb6)
        | (go_at_call 10; refine (rright_i C m HC.out.symm HF.out w4 _ (by first | assumption | exact hbq.drew)).mono ?_; rintro e w6 ⟨rfl, hb6⟩; have ⟨t1, t2, t3, t4⟩ := HS.out _ hb6; have ⟨t5, t6⟩ := HCV.out _ hb6)
        | (go_at_call 11; refine (exec_i X m.exec HXE.out.symm HF.out.exec w4 _ HLW.out (by first | assumption | exact hbq.drew)).mono ?_; rintro e w6 ⟨rfl, hb6⟩; have ⟨t1, t2, t3, t4⟩ := HS.out _ hb6; have ⟨t5, t6⟩ := HCV.out _ hb6)
        | (go_at_call 12; refine (rexec_i X m.exec HXE.out.symm HF.out.exec w4 _ (by first | assumption | exact hbq.drew)).mono ?_; rintro e w6 ⟨rfl, hb6⟩; have ⟨t1, t2, t3, t4⟩ := HS.out _ hb6; have ⟨t5, t6⟩ := HCV.out _ hb6)
        | (go_at_call 13; refine (name_i m.text HF.out.text w4 _ HLW.out (by first | assumption | exact hbq.drew)).mono ?_; rintro e w6 ⟨rfl, hb6⟩; have ⟨t1, t2, t3, t4⟩ := HS.out _ hb6; have ⟨t5, t6⟩ := HCV.out _ hb6)
        | (go_at_call 14; refine (rname_i m.text HF.out.text w4 _ (by first | assumption | exact hbq.drew)).mono ?_; rintro e w6 ⟨rfl, hb6⟩; have ⟨t1, t2, t3, t4⟩ := HS.out _ hb6; have ⟨t5, t6⟩ := HCV.out _ hb6))
    all_goals
      go_wp2_with fail
      go_ret
      exact ⟨by simp, HB4.out.trans (hb6.mono HB4.out.size)⟩

end Msg
end Go.Proofs.YtddblaiahgjbaaaGreatDoor
