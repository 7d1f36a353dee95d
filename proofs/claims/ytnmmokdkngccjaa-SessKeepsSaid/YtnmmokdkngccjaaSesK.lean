/-
  The walk of layer 7's laws: SessKeeps.
-/
import Derived.Test.YtnmmokdkngccjaaSesL
import Derived.Test.YtnmmokdkngccjaaSesT
import Derived.OpenShut
namespace Go.Proofs.Ytnmmokdkngccjaa
open Go.RowKit
namespace Ses
open Num
open Msg (I64)

set_option maxRecDepth 100000 in
set_option maxHeartbeats 16000000 in
theorem law_SessKeeps (s : Se) (a : Option Addr) (n cap : Nat) (now : Int) (w : World) (hs : IsSe w s a n cap) (_hn : (Lit.int .i64 now).wf = true) (hl : Laid w) :
    Calls Try.prog 6 #[.agg (s.arr a n cap), .int .i64 now] w fun e w' => e = .returned (.bool true) ∧ Below w.heap.size w w' := by
  have HL := Lib.hid hl
  have HN := Lib.hid hs.2.1
  have HR0 := Lib.hid hs.2.2.2.1
  clear hl hs
  have HG0 := Lib.hid (SeAt.made w s a n cap)
  have HB0 : Hid (Below w.heap.size w (w.alloc (.cells (s.arr a n cap) 28))) := Lib.hid ((Below.refl _ _).alloc (Nat.le_refl _) _)
  go_enter Try.func6, Try.ntmps6
  go_upto_region 1 with fail
  obtain ⟨g, hg⟩ : ∃ g, w.heap.size = g := ⟨_, rfl⟩
  rw [hg] at HG0 ⊢
  generalize w.alloc (.cells (s.arr a n cap) 28) = w0 at HG0 HB0 ⊢
  clear hg
  go_wp2_with fail
  refine (awake7_any _ (HL.out.below HB0.out)).mono ?_
  rintro e w1 ⟨rfl, hb1⟩
  have HG1 := Lib.hid (HG0.out.later hb1)
  have HB1 := Lib.hid (HB0.out.trans (hb1.mono HB0.out.size))
  have HR1 := Lib.hid (HR0.out.later HB1.out)
  clear hb1 HG0 HB0
  obtain ⟨-, z1, z2, z3, -, -, -⟩ := HG1.out.cells
  obtain ⟨b8, d8⟩ : ∃ b, decide ((80 : Int) < n) = b := ⟨_, rfl⟩
  cases b8
  rotate_left
  · go_wp2_with fail
    go_ret
    exact ⟨rfl, HB1.out⟩
  have hn8 : n ≤ 80 := by have := of_decide_eq_false d8; omega
  obtain ⟨br, hbr⟩ : ∃ b, rightS s = b := ⟨_, rfl⟩
  go_wp2_with (refine wpList_load_arr_g (by rfl) 28 _ rfl g 0 rfl (s.arr a n cap) _ HG1.out.range Try.underlying28 rfl (arr_info _ _ _ _) ?_)
  refine (right_is _ s a cap n rfl HN.out (by omega) _ HR1.out (HL.out.below HB1.out) _ hbr).mono ?_
  rintro e w2 ⟨rfl, hb2⟩
  have HG2 := Lib.hid (HG1.out.later hb2)
  have HB2 := Lib.hid (HB1.out.trans (hb2.mono HB1.out.size))
  have HR2 := Lib.hid (HR1.out.later hb2)
  clear hb2 HG1 HB1 HR1 z1 z2 z3
  cases br
  · clear hbr
    go_wp2_with fail
    go_ret
    exact ⟨rfl, HB2.out⟩
  by_cases c1 : now < 0
  · clear hbr
    go_wp2_with fail
    go_ret
    exact ⟨rfl, HB2.out⟩
  by_cases c2 : 4611686018427387904 < now
  · clear hbr
    go_wp2_with fail
    go_ret
    exact ⟨rfl, HB2.out⟩
  have HRB := Lib.hid (bare_right hbr)
  have HDR := Lib.hid (drop_right hbr)
  have HTI : Hid (timeS now = true) := Lib.hid ((timeS_iff now).2 ⟨by omega, by omega⟩)
  have ho : s.out ≤ 1099511627776 := ((rightS_iff s).1 hbr).2.2.2.1
  have ho1 : 0 < s.out := ((rightS_iff s).1 hbr).2.2.1
  clear hbr
  generalize hbs : bare s = bs at HRB HDR
  have HBS : Hid (bs.state = 0 ∧ bs.inn = ⟨s.inn.next, []⟩ ∧ bs.out = s.out) := Lib.hid (by rw [← hbs]; exact ⟨rfl, rfl, rfl⟩)
  clear hbs
  go_wp2_with (refine wpList_load_arr_g (by rfl) 28 _ rfl g 0 rfl (s.arr a n cap) _ HG2.out.range Try.underlying28 rfl (arr_info _ _ _ _) ?_)
  refine (drop_is _ s a cap n rfl HN.out (by omega) _ HR2.out (HL.out.below HB2.out) bs 0 HDR.out (by rw [HBS.out.2.1]; rfl)).mono ?_
  rintro e w3 ⟨a3, c3, rfl, hr, hb⟩
  go_upto_region 6 with (refine wpList_store_row rfl 28 _ _ rfl w3.heap.size (bs.arr a3 0 c3) rfl rfl _ _ (heap_alloc_last _ _) (arr_info _ _ _ _) rfl (arr_one _ _ _ _) ?_; rw [World.setRow_alloc_new])
  have hbl : Below w3.heap.size w3 (w3.alloc (.cells (bs.arr a3 0 c3) 28)) := (Below.refl _ _).alloc (Nat.le_refl _) _
  have hb2 := HB2.out.trans (hb.mono HB2.out.size)
  have HG4 := Lib.hid ((HG2.out.later hb).later hbl)
  have HP4 := Lib.hid (SeAt.made w3 bs a3 0 c3)
  have HR4 := Lib.hid (hr.later hbl)
  have HB4 := Lib.hid (hb2.trans (hbl.mono hb2.size))
  obtain ⟨p, hp⟩ : ∃ p, w3.heap.size = p := ⟨_, rfl⟩
  rw [hp] at HP4 ⊢
  clear hbl hb2 hb hr HG2 HB2 HR2 hp
  generalize w3.alloc (.cells (bs.arr a3 0 c3) 28) = w4 at HG4 HP4 HR4 HB4 ⊢
  obtain ⟨-, z1, -, z3, -, -, -⟩ := HG4.out.cells
  have y0 : w4.cell? ⟨p, 0, none⟩ = some (.int .i64 0) := by have := HP4.out.cells.c0; rw [HBS.out.1] at this; exact this
  have y1 : w4.cell? ⟨p, 1, none⟩ = some (.int .i64 s.inn.next) := by have := HP4.out.cells.c1; rw [HBS.out.2.1] at this; exact this
  have y2 := HP4.out.cells.c2
  have y3 : w4.cell? ⟨p, 3, none⟩ = some (.int .i64 s.out) := by have := HP4.out.cells.c3; rw [HBS.out.2.2] at this; exact this
  go_wp2_with (refine wpList_load_arr_g (by rfl) 28 _ rfl p 0 rfl (bs.arr a3 0 c3) _ HP4.out.range Try.underlying28 rfl (arr_info _ _ _ _) ?_)
  refine (right_is _ bs a3 c3 0 rfl (by rw [HBS.out.2.1]; rfl) (by decide) _ HR4.out (HL.out.below HB4.out) true HRB.out).mono ?_
  rintro e w5 ⟨rfl, hb⟩
  have HG5 := Lib.hid (HG4.out.later hb)
  have HP5 := Lib.hid (HP4.out.later hb)
  have HR5 := Lib.hid (HR4.out.later hb)
  have HB5 := Lib.hid (HB4.out.trans (hb.mono HB4.out.size))
  clear hb HG4 HP4 HR4 HB4 z1 z3 y0 y1 y2 y3
  by_cases hfull : s.out = 1099511627776
  · have HCO := Lib.hid (connect_full HRB.out HBS.out.1 HTI.out (by rw [HBS.out.2.2]; exact hfull))
    generalize hr1 : asks bs now = r at HCO
    have HRR : Hid (r.state = 1 ∧ r.inn = ⟨s.inn.next, []⟩ ∧ r.out = s.out ∧ r.heard = now ∧ r.asked = 0) := Lib.hid (by rw [← hr1]; exact ⟨rfl, HBS.out.2.1, HBS.out.2.2, rfl, rfl⟩)
    have qf : (s.out == 1099511627776) = true := by rw [beq_iff_eq]; exact hfull
    clear hr1 hfull ho ho1
    go_wp2_with (refine wpList_load_arr_g (by rfl) 28 _ rfl p 0 rfl (bs.arr a3 0 c3) _ HP5.out.range Try.underlying28 rfl (arr_info _ _ _ _) ?_)
    refine (connect_is _ bs now a3 c3 0 rfl (by rw [HBS.out.2.1]; rfl) (by decide) _ HR5.out (HL.out.below HB5.out) r [] 0 0 0 HCO.out (by rw [HRR.out.2.1]; rfl) rfl).mono ?_
    rintro e w6 ⟨a6, c6, b6, d6, rfl, -, -, hb⟩
    go_upto_region 9 with (refine wpList_store_row rfl 28 _ _ rfl w6.heap.size (r.arr a6 0 c6) rfl rfl _ _ (heap_alloc_last _ _) (arr_info _ _ _ _) rfl (arr_one _ _ _ _) ?_; rw [World.setRow_alloc_new])
    have hbl : Below w6.heap.size w6 (w6.alloc (.cells (r.arr a6 0 c6) 28)) := (Below.refl _ _).alloc (Nat.le_refl _) _
    have hb2 := HB5.out.trans (hb.mono HB5.out.size)
    have HG7 := Lib.hid ((HG5.out.later hb).later hbl)
    have HP7 := Lib.hid (SeAt.made w6 r a6 0 c6)
    have HB7 := Lib.hid (hb2.trans (hbl.mono hb2.size))
    obtain ⟨u, hu⟩ : ∃ u, w6.heap.size = u := ⟨_, rfl⟩
    rw [hu] at HP7 ⊢
    clear hbl hb2 hb HG5 HP5 HR5 HB5 hu
    generalize w6.alloc (.cells (r.arr a6 0 c6) 28) = w7 at HG7 HP7 HB7 ⊢
    obtain ⟨-, z1, -, z3, -, -, -⟩ := HG7.out.cells
    have y0 : w7.cell? ⟨u, 0, none⟩ = some (.int .i64 1) := by have := HP7.out.cells.c0; rw [HRR.out.1] at this; exact this
    have y1 : w7.cell? ⟨u, 1, none⟩ = some (.int .i64 s.inn.next) := by have := HP7.out.cells.c1; rw [HRR.out.2.1] at this; exact this
    have y3 : w7.cell? ⟨u, 3, none⟩ = some (.int .i64 (s.out)) := by have := HP7.out.cells.c3; rw [HRR.out.2.2.1] at this; exact this
    have y5 : w7.cell? ⟨u, 5, none⟩ = some (.int .i64 now) := by have := HP7.out.cells.c5; rw [HRR.out.2.2.2.1] at this; exact this
    have y7 : w7.cell? ⟨u, 7, none⟩ = some (.int .i64 0) := by have := HP7.out.cells.c7; rw [HRR.out.2.2.2.2] at this; exact this
    go_wp2_with fail
    go_ret
    exact ⟨rfl, HB7.out⟩
  · have HCO := Lib.hid (connect_says HRB.out HBS.out.1 HTI.out (by rw [HBS.out.2.2]; exact hfull))
    generalize hml : ({Msg.noMs with kind := 1, a := bs.every, seq := bs.out, time := now} : Msg.Ms) = ml at HCO
    have HML : Hid (ml.kind = 1 ∧ ml.seq = s.out) := Lib.hid (by rw [← hml]; exact ⟨rfl, HBS.out.2.2⟩)
    clear hml
    generalize hr1 : ({asks bs now with out := bs.out + 1, said := now} : Se) = r at HCO
    have HRR : Hid (r.state = 1 ∧ r.inn = ⟨s.inn.next, []⟩ ∧ r.out = s.out + 1 ∧ r.heard = now ∧ r.asked = 0) := Lib.hid (by rw [← hr1]; exact ⟨rfl, HBS.out.2.1, congrArg (· + 1) HBS.out.2.2, rfl, rfl⟩)
    have qf : (s.out == 1099511627776) = false := by rw [beq_eq_false_iff_ne]; exact hfull
    have ew : IntKind.i64.wrap (s.out + 1) = s.out + 1 := by rw [IntKind.wrap_i64]; omega
    clear hr1 hfull
    go_wp2_with (refine wpList_load_arr_g (by rfl) 28 _ rfl p 0 rfl (bs.arr a3 0 c3) _ HP5.out.range Try.underlying28 rfl (arr_info _ _ _ _) ?_)
    refine (connect_is _ bs now a3 c3 0 rfl (by rw [HBS.out.2.1]; rfl) (by decide) _ HR5.out (HL.out.below HB5.out) r [ml] 0 0 1 HCO.out (by rw [HRR.out.2.1]; rfl) rfl).mono ?_
    rintro e w6 ⟨a6, c6, b6, d6, rfl, -, hm, hb⟩
    go_upto_region 9 with (refine wpList_store_row rfl 28 _ _ rfl w6.heap.size (r.arr a6 0 c6) rfl rfl _ _ (heap_alloc_last _ _) (arr_info _ _ _ _) rfl (arr_one _ _ _ _) ?_; rw [World.setRow_alloc_new])
    have hbl : Below w6.heap.size w6 (w6.alloc (.cells (r.arr a6 0 c6) 28)) := (Below.refl _ _).alloc (Nat.le_refl _) _
    have hb2 := HB5.out.trans (hb.mono HB5.out.size)
    have HG7 := Lib.hid ((HG5.out.later hb).later hbl)
    have HP7 := Lib.hid (SeAt.made w6 r a6 0 c6)
    have HM7 := Lib.hid (hm.later hbl)
    have HB7 := Lib.hid (hb2.trans (hbl.mono hb2.size))
    obtain ⟨u, hu⟩ : ∃ u, w6.heap.size = u := ⟨_, rfl⟩
    rw [hu] at HP7 ⊢
    clear hbl hb2 hb hm HG5 HP5 HR5 HB5 hu
    generalize w6.alloc (.cells (r.arr a6 0 c6) 28) = w7 at HG7 HP7 HM7 HB7 ⊢
    obtain ⟨-, z1, -, z3, -, -, -⟩ := HG7.out.cells
    have y0 : w7.cell? ⟨u, 0, none⟩ = some (.int .i64 1) := by have := HP7.out.cells.c0; rw [HRR.out.1] at this; exact this
    have y1 : w7.cell? ⟨u, 1, none⟩ = some (.int .i64 s.inn.next) := by have := HP7.out.cells.c1; rw [HRR.out.2.1] at this; exact this
    have y3 : w7.cell? ⟨u, 3, none⟩ = some (.int .i64 (s.out + 1)) := by have := HP7.out.cells.c3; rw [HRR.out.2.2.1] at this; exact this
    have y5 : w7.cell? ⟨u, 5, none⟩ = some (.int .i64 now) := by have := HP7.out.cells.c5; rw [HRR.out.2.2.2.1] at this; exact this
    have y7 : w7.cell? ⟨u, 7, none⟩ = some (.int .i64 0) := by have := HP7.out.cells.c7; rw [HRR.out.2.2.2.2] at this; exact this
    obtain ⟨x, y, rfl, -⟩ := HM7.out.at (by simp) (by decide)
    have hd : 1 ≤ d6 := by
      rcases HM7.out with ⟨h, _⟩ | ⟨_, _, h, _⟩
      · cases h
      · exact h
    obtain ⟨m0, m1, -, -, -⟩ := msg_cells HM7.out (k := 0) (m := ml) rfl
    rw [Nat.zero_mul, Nat.add_zero, HML.out.1] at m0
    rw [Nat.zero_mul, Nat.add_zero, HML.out.2] at m1
    go_upto_region 13 with fail
    go_quiet (fail)
    have HB8 : Hid (Below w.heap.size w (w7.drewN nq)) := Lib.hid (HB7.out.trans ⟨rfl, rfl, rfl, Nat.le_refl _, fun _ _ => rfl⟩)
    generalize w7.drewN nq = w8 at HB8 ⊢
    go_wp2_with fail
    go_ret
    exact ⟨rfl, HB8.out⟩

end Ses
end Go.Proofs.Ytnmmokdkngccjaa
