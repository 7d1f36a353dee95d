/-
  The walk of layer 5's laws: MsgApart.
-/
import Derived.Test.YtddblaiahgjbaaaDoorMsgL
import Derived.Test.YtddblaiahgjbaaaDoorLdRow
import Derived.Deep.QuietTactic

namespace Go.Proofs.YtddblaiahgjbaaaDoor
open Go.RowKit
namespace Msg
open Num
open Fld (F)

theorem eql_msg {xs ys : Array Value} {w : World} (hx : Cs flMs xs.toList) (hy : Cs flMs ys.toList) : (binOp .eql 25 (.agg xs) (.agg ys)).run Tryd.prog w = .ok (.bool (sameC xs.toList ys.toList)) w := run_flat_eql fitsMs (by decide) hx hy w
attribute [local go_sem ↓] load_msg load_exec eql_msg
attribute [local go_sem] blkOf_ptr offOf_ptr eq_guard

theorem drewn_below (w : World) (q : Nat) : Below w.heap.size w (w.drewN q) := ⟨rfl, rfl, rfl, Nat.le_refl _, fun _ _ => rfl⟩
theorem put_two (m : Ms) : (rightM m = true ∧ putM m = (Fld.bytesL (fieldsM m), 0)) ∨ (rightM m = false ∧ putM m = ([], 1)) := by
  unfold putM
  cases h : rightM m
  · exact .inr ⟨rfl, if_neg (by simp)⟩
  · refine .inl ⟨rfl, ?_⟩
    rw [if_pos rfl, (fields_put h).2]
theorem apart_b {a b : Ms} (ha : rightM a = true) (hb : rightM b = true) : (Fld.bytesL (fieldsM a) == Fld.bytesL (fieldsM b)) = decide (a = b) := by
  have h := apart ha hb
  rw [(fields_put ha).2, (fields_put hb).2] at h
  rw [Bool.eq_iff_iff, beq_iff_eq, decide_eq_true_eq]
  exact h
theorem copy_lens (m : Ms) : (m.copy = false → (Fld.bytesL (fieldsM {m with copy := !m.copy})).length = (Fld.bytesL (fieldsM m)).length + 5) ∧ (m.copy = true → (Fld.bytesL (fieldsM m)).length = (Fld.bytesL (fieldsM {m with copy := !m.copy})).length + 5) := by
  have h := copy_len m
  obtain ⟨k, s, t, c, a, b, g, x, e⟩ := m
  constructor
  · rintro rfl
    exact h
  · rintro rfl
    exact h

set_option maxRecDepth 100000 in
set_option maxHeartbeats 4000000 in
theorem law_MsgApart (a b : Ms) (w : World) (ha : a.Fits) (hb : b.Fits) (hl : Laid w) :
    Calls Tryd.prog 4 #[.agg a.cells, .agg b.cells] w fun e w' => e = .returned (.bool true) ∧ Below w.heap.size w w' := by
  have HL := Lib.hid hl
  have HFA := Lib.hid ha
  have HFB := Lib.hid hb
  have HSM : Hid (sameC a.cells.toList b.cells.toList = decide (a = b)) := Lib.hid (ms_same a b)
  have hca := Ms.cs ha
  have hcb := Ms.cs hb
  clear hl ha hb
  obtain ⟨A, hA⟩ : ∃ A, a.cells = A := ⟨_, rfl⟩
  obtain ⟨B, hB⟩ : ∃ B, b.cells = B := ⟨_, rfl⟩
  have hi : (Tryd.prog.info? 25).map (·.size) = some A.size := by rw [← hA]; kernel_rfl
  have hiB : (Tryd.prog.info? 25).map (·.size) = some B.size := by rw [← hB]; kernel_rfl
  have HZ : Hid (A.size = 18 ∧ B.size = 18 ∧ A.extract 0 18 = A ∧ B.extract 0 18 = B) := Lib.hid (by rw [← hA, ← hB]; exact ⟨rfl, rfl, rfl, rfl⟩)
  have HA := Lib.hid hA
  have HB := Lib.hid hB
  rw [hA, hB] at HSM ⊢
  rw [hA] at hca
  rw [hB] at hcb
  have HCA := Lib.hid hca
  have HCB := Lib.hid hcb
  clear hA hB hca hcb
  have HX0 : Hid (((w.alloc (.cells A 25)).alloc (.cells B 25)).heap[w.heap.size]? = some (.cells A 25 (0, 0)) ∧ ((w.alloc (.cells A 25)).alloc (.cells B 25)).heap[w.heap.size + 1]? = some (.cells B 25 (0, 0))) := Lib.hid ⟨alloc_block (heap_alloc_new w _), by
    have h := heap_alloc_new (w.alloc (.cells A 25)) (.cells B 25)
    rwa [show (w.alloc (.cells A 25)).heap.size = w.heap.size + 1 by simp] at h⟩
  have HB0 : Hid (Below w.heap.size w ((w.alloc (.cells A 25)).alloc (.cells B 25))) := Lib.hid (alloc_below2 _ _)
  go_enter Tryd.func4, Tryd.ntmps4
  go_upto_region 1 with fail
  have HS0 : Hid (w.heap.size + 2 ≤ ((w.alloc (.cells A 25)).alloc (.cells B 25)).heap.size) := Lib.hid (by simp)
  generalize (w.alloc (.cells A 25)).alloc (.cells B 25) = w0 at HX0 HB0 HS0 ⊢
  have HK : Hid (∀ W, Below w0.heap.size w0 W → Below w.heap.size w W ∧ W.heap[w.heap.size]? = some (.cells A 25 (0, 0)) ∧ W.heap[w.heap.size + 1]? = some (.cells B 25 (0, 0)) ∧ W.rangeAt w.heap.size 0 A.toList ∧ W.rangeAt (w.heap.size + 1) 0 B.toList ∧ Laid W) := Lib.hid fun W hW => by
    have h1 := below_block HX0.out.1 hW
    have h2 := below_block HX0.out.2 hW
    have h3 := HB0.out.trans (hW.mono HB0.out.size)
    exact ⟨h3, h1, h2, block_range h1, block_range h2, HL.out.below h3⟩
  go_wp2_with fail
  refine (awake5_any _ (HK.out _ (Below.refl _ _)).2.2.2.2.2).mono ?_
  rintro e w1 ⟨rfl, hb1⟩
  have HB1 := Lib.hid hb1
  clear hb1
  go_wp2_with (refine wpList_load_arr_g (by rfl) 25 _ rfl w.heap.size 0 rfl A _ (HK.out _ HB1.out).2.2.2.1 Tryd.underlying25 rfl hi ?_)
  refine (short_is A a HA.out.symm HFA.out _).mono ?_
  rintro e w2 ⟨rfl, hb2⟩
  have HB2 := Lib.hid (HB1.out.trans (hb2.mono HB1.out.size))
  clear hb2
  cases hsa : shortM a
  · go_wp2_with fail
    go_ret
    exact ⟨rfl, (HK.out _ HB2.out).1⟩
  clear hsa
  go_wp2_with (refine wpList_load_arr_g (by rfl) 25 _ rfl (w.heap.size + 1) 0 rfl B _ (HK.out _ HB2.out).2.2.2.2.1 Tryd.underlying25 rfl hiB ?_)
  refine (short_is B b HB.out.symm HFB.out _).mono ?_
  rintro e w3 ⟨rfl, hb3⟩
  have HB3 := Lib.hid (HB2.out.trans (hb3.mono HB2.out.size))
  clear hb3
  cases hsb : shortM b
  · go_wp2_with fail
    go_ret
    exact ⟨rfl, (HK.out _ HB3.out).1⟩
  clear hsb
  obtain ⟨ya, na, hpa⟩ : ∃ y n, putM a = (y, n) := ⟨_, _, rfl⟩
  obtain ⟨yb, nb, hpb⟩ : ∃ y n, putM b = (y, n) := ⟨_, _, rfl⟩
  have HPA := Lib.hid hpa
  have HPB := Lib.hid hpb
  clear hpa hpb
  go_wp2_with (refine wpList_load_arr_g (by rfl) 25 _ rfl w.heap.size 0 rfl A _ (HK.out _ HB3.out).2.2.2.1 Tryd.underlying25 rfl hi ?_)
  refine (put_is A a HA.out.symm HFA.out _ (HK.out _ HB3.out).2.2.2.2.2 _ _ HPA.out).mono ?_
  rintro e w4 ⟨⟨a1, c1, rfl, hy1⟩, hb4⟩
  have HB4 := Lib.hid (HB3.out.trans (hb4.mono HB3.out.size))
  have HY1 := Lib.hid hy1
  clear hy1 hb4
  go_wp2_with (refine wpList_load_arr_g (by rfl) 25 _ rfl (w.heap.size + 1) 0 rfl B _ (HK.out _ HB4.out).2.2.2.2.1 Tryd.underlying25 rfl hiB ?_)
  refine (put_is B b HB.out.symm HFB.out _ (HK.out _ HB4.out).2.2.2.2.2 _ _ HPB.out).mono ?_
  rintro e w5 ⟨⟨a2, c2, rfl, hy2⟩, hb5⟩
  have HB5 := Lib.hid (HB4.out.trans (hb5.mono HB4.out.size))
  have HY2 := Lib.hid hy2
  have HY3 := Lib.hid (HY1.out.later hb5)
  clear hy2 hb5 HY1
  have HRA := Lib.hid (put_two a)
  have HRB := Lib.hid (put_two b)
  rw [HPA.out] at HRA
  rw [HPB.out] at HRB
  obtain ⟨qa, hqa⟩ : ∃ n, ya.length = n := ⟨_, rfl⟩
  obtain ⟨qb, hqb⟩ : ∃ n, yb.length = n := ⟨_, rfl⟩
  have HQA := Lib.hid hqa
  have HQB := Lib.hid hqb
  rw [hqa, hqb]
  clear hqa hqb
  go_upto_region 7 with fail
  go_cut [48] (fun s48 wx => s48 = .bool false ∧ Below w5.heap.size w5 wx)
  case first =>
    have hbq := Below.refl w5.heap.size w5
    have HS : Hid (∀ W, Below w5.heap.size w5 W → RowOk W w.heap.size 18 ∧ rowAt W w.heap.size = A ∧ RowOk W (w.heap.size + 1) 18 ∧ rowAt W (w.heap.size + 1) = B) := Lib.hid fun W hW => by
      have h := HK.out W (HB5.out.trans (hW.mono HB5.out.size))
      have ⟨h1, h2⟩ := RowOk.of h.2.1 HZ.out.1
      have ⟨h3, h4⟩ := RowOk.of h.2.2.1 HZ.out.2.1
      exact ⟨h1, h2, h3, h4⟩
    have ⟨s1, s2, s3, s4⟩ := HS.out _ hbq
    have ⟨z1, z2, z3, z4⟩ := HZ.out
    have hca := HCA.out
    have hcb := HCB.out
    obtain ⟨q, hq⟩ : ∃ q, decide (a = b) = q := ⟨_, rfl⟩
    have hsm := HSM.out
    rw [hq] at hsm
    have HCV : Hid (∀ W, Below w5.heap.size w5 W → ((convert 26 9 (.slice a1 qa c1)).run Tryd.prog W = .ok (.string ⟨ya.toArray⟩) W) ∧ ((convert 26 9 (.slice a2 qb c2)).run Tryd.prog W = .ok (.string ⟨yb.toArray⟩) W)) := Lib.hid fun W hW =>
      ⟨string_of (P := Tryd.prog) Tryd.underlying26 Tryd.underlying5 Tryd.underlying9 (HY3.out.later hW) _ HQA.out, string_of (P := Tryd.prog) Tryd.underlying26 Tryd.underlying5 Tryd.underlying9 (HY2.out.later hW) _ HQB.out⟩
    have ⟨v1, v2⟩ := HCV.out _ hbq
    clear hi hiB
    have HRA2 := HRA.out
    have HRB2 := HRB.out
    rcases HRA2 with ⟨ra, h1⟩ | ⟨ra, h1⟩
    · rcases HRB2 with ⟨rb, h2⟩ | ⟨rb, h2⟩
      · have hst := apart_b ra rb
        obtain ⟨rfl, rfl⟩ := Prod.mk.inj h1
        obtain ⟨rfl, rfl⟩ := Prod.mk.inj h2
        clear h1 h2
        rw [hq] at hst
        have HST := Lib.hid hst
        clear hst
        go_region_held3 (fun w' => Below w5.heap.size w5 w' ∧ RowOk w' w.heap.size 18 ∧ rowAt w' w.heap.size = A ∧ RowOk w' (w.heap.size + 1) 18 ∧ rowAt w' (w.heap.size + 1) = B ∧ (convert 26 9 (.slice a1 qa c1)).run Tryd.prog w' = .ok (.string ⟨(Fld.bytesL (fieldsM a)).toArray⟩) w' ∧ (convert 26 9 (.slice a2 qb c2)).run Tryd.prog w' = .ok (.string ⟨(Fld.bytesL (fieldsM b)).toArray⟩) w')
          (((try dsimp only); (repeat' apply And.intro); all_goals (first | exact hbq.drew | assumption | exact (HS.out _ hbq.drew).1 | exact (HS.out _ hbq.drew).2.1 | exact (HS.out _ hbq.drew).2.2.1 | exact (HS.out _ hbq.drew).2.2.2 | exact (HCV.out _ hbq.drew).1 | exact (HCV.out _ hbq.drew).2 | go_keep)))
          (fail)
        go_wp2_with fail
        go_meet
        exact ⟨by rw [HST.out]; simp, hbq.drew⟩
      · obtain ⟨_, rfl⟩ := Prod.mk.inj h1
        obtain ⟨_, rfl⟩ := Prod.mk.inj h2
        clear h1 h2
        go_quiet (fail)
        go_wp2_with fail
        go_meet
        exact ⟨rfl, drewn_below w5 _⟩
    · obtain ⟨_, rfl⟩ := Prod.mk.inj h1
      clear h1
      go_quiet (fail)
      go_wp2_with fail
      go_meet
      exact ⟨rfl, drewn_below w5 _⟩
  case rest =>
    obtain ⟨rfl, hbc⟩ := hcut
    have HBC := Lib.hid (HB5.out.trans (hbc.mono HB5.out.size))
    have hwc : w0.heap.size ≤ wc.heap.size := HBC.out.size
    have hw0 : w.heap.size + 2 ≤ w0.heap.size := HS0.out
    clear hbc
    have hone : A.all (·.oneCell') = true := by rw [← HA.out]; exact ms_one a
    go_upto_region 10 with (first | (refine wpList_load_arr_g (by rfl) 25 _ rfl w.heap.size 0 rfl A _ (HK.out _ HBC.out).2.2.2.1 Tryd.underlying25 rfl hi ?_) | (refine wpList_store_row rfl 25 _ _ rfl _ A rfl rfl _ _ (heap_alloc_last _ _) hi (by rw [HZ.out.1]; rfl) hone ?_; rw [World.setRow_alloc_new]))
    have HX6 : Hid ((wc.alloc (.cells A 25)).heap[wc.heap.size]? = some (.cells A 25 (0, 0))) := Lib.hid (heap_alloc_new wc _)
    have HB6 : Hid (Below w0.heap.size w0 (wc.alloc (.cells A 25))) := Lib.hid (HBC.out.alloc HBC.out.size _)
    have hA3 : A[3]? = some (.bool a.copy) := by rw [← HA.out]; rfl
    have x1 := cell_at HX6.out hA3
    have x2 := frozen_of_row _ _ 3 _ _ HX6.out
    have x3 := (Array.getElem?_eq_some_iff.1 HX6.out).1
    have x4 := cell_at (HK.out _ HB6.out).2.1 hA3
    obtain ⟨gc, hgc⟩ : ∃ g, wc.heap.size = g := ⟨_, rfl⟩
    rw [hgc] at HX6 x1 x2 x3 hwc ⊢
    generalize wc.alloc (.cells A 25) = w6 at HX6 HB6 x1 x2 x3 x4 ⊢
    go_upto_region 11 with fail
    have HX7 : Hid ((w6.setCell ⟨gc, 3, none⟩ (.bool (!a.copy))).heap[gc]? = some (.cells (A.setIfInBounds 3 (.bool (!a.copy))) 25 (0, 0))) := Lib.hid (heap_setCell_same w6 gc 3 _ _ _ HX6.out)
    have HB7 : Hid (Below w0.heap.size w0 (w6.setCell ⟨gc, 3, none⟩ (.bool (!a.copy)))) := Lib.hid (HB6.out.setCell (p := ⟨gc, 3, none⟩) hwc _)
    generalize w6.setCell ⟨gc, 3, none⟩ (.bool (!a.copy)) = w7 at HX7 HB7 ⊢
    have HD : Hid (A.setIfInBounds 3 (.bool (!a.copy)) = Ms.cells {a with copy := !a.copy}) := Lib.hid (by rw [← HA.out]; rfl)
    have HFD : Hid (Ms.Fits {a with copy := !a.copy}) := Lib.hid ⟨HFA.out.kind, HFA.out.seq, HFA.out.time, HFA.out.a, HFA.out.b, HFA.out.text, HFA.out.exec⟩
    have HRC := Lib.hid (put_two {a with copy := !a.copy})
    have HLN := Lib.hid (copy_lens a)
    obtain ⟨D, hD⟩ : ∃ D, A.setIfInBounds 3 (.bool (!a.copy)) = D := ⟨_, rfl⟩
    rw [hD] at HX7 HD
    clear hD x1 x2 x3 x4 hone
    obtain ⟨cM, hcM⟩ : ∃ c : Ms, {a with copy := !a.copy} = c := ⟨_, rfl⟩
    have HRR : Hid (rightM cM = rightM a) := Lib.hid (by rw [← hcM]; rfl)
    have HCC : Hid (cM.copy = !a.copy) := Lib.hid (by rw [← hcM])
    rw [hcM] at HD HFD HRC HLN
    clear hcM
    have hiD : (Tryd.prog.info? 25).map (·.size) = some D.size := by rw [HD.out]; kernel_rfl
    have HRD := Lib.hid (block_range HX7.out)
    obtain ⟨yc, nc, hpc⟩ : ∃ y n, putM cM = (y, n) := ⟨_, _, rfl⟩
    have HPC := Lib.hid hpc
    rw [hpc] at HRC
    clear hpc
    go_wp2_with (refine wpList_load_arr_g (by rfl) 25 _ rfl gc 0 rfl D _ HRD.out Tryd.underlying25 rfl hiD ?_)
    refine (put_is D cM HD.out HFD.out _ (HK.out _ HB7.out).2.2.2.2.2 _ _ HPC.out).mono ?_
    rintro e w8 ⟨⟨a3, c3, rfl, hy3⟩, hb8⟩
    have HB8 := Lib.hid (HB7.out.trans (hb8.mono HB7.out.size))
    have x5 : w8.cell? ⟨gc, 3, none⟩ = some (.bool (!a.copy)) := cell_at (below_block HX7.out hb8) (by rw [HD.out, ← HCC.out]; rfl)
    have x6 := cell_at (HK.out _ HB8.out).2.1 hA3
    have HBW := Lib.hid (HK.out _ HB8.out).1
    clear hy3 hb8 hA3
    obtain ⟨qc, hqc⟩ : ∃ n, yc.length = n := ⟨_, rfl⟩
    have hqa9 : qa ≤ 100000 := by have := put_len a; rw [HPA.out] at this; rw [← HQA.out]; exact this
    have hqc9 : qc ≤ 100000 := by have := put_len cM; rw [HPC.out] at this; rw [← hqc]; exact this
    rw [hqc]
    rcases HRA.out with ⟨ra, h1⟩ | ⟨ra, h1⟩
    · rcases HRC.out with ⟨rc, h2⟩ | ⟨rc, _⟩
      · obtain ⟨rfl, rfl⟩ := Prod.mk.inj h1
        obtain ⟨rfl, rfl⟩ := Prod.mk.inj h2
        have l1 := HLN.out.1
        have l2 := HLN.out.2
        rw [hqc, HQA.out] at l1 l2
        clear h1 h2 hqc
        cases hcp : a.copy <;> rw [hcp] at x5 x6
        · have hl := l1 hcp
          have d1 : ((qc : Int) - (qa : Int) == 5) = true := by rw [beq_iff_eq]; omega
          clear l1 l2 hl
          go_wp2_with fail
          go_ret
          exact ⟨rfl, HBW.out⟩
        · have hl := l2 hcp
          have d1 : ((qc : Int) - (qa : Int) == 5) = false := by rw [beq_eq_false_iff_ne]; omega
          have d2 : ((qa : Int) - (qc : Int) == 5) = true := by rw [beq_iff_eq]; omega
          clear l1 l2 hl
          go_wp2_with fail
          go_ret
          exact ⟨rfl, HBW.out⟩
      · rw [HRR.out, ra] at rc; cases rc
    · rcases HRC.out with ⟨rc, _⟩ | ⟨rc, h2⟩
      · rw [HRR.out, ra] at rc; cases rc
      · obtain ⟨_, rfl⟩ := Prod.mk.inj h1
        obtain ⟨_, rfl⟩ := Prod.mk.inj h2
        clear h1 h2
        go_wp2_with fail
        go_ret
        exact ⟨rfl, HBW.out⟩

end Msg
end Go.Proofs.YtddblaiahgjbaaaDoor
