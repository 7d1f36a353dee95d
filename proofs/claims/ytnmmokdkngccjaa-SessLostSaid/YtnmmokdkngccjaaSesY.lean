/-
  The program's layer 7: Right.
  The program's layer 7: New, Connect, Drop, Tick.
  The program's layer 7: New, Drop.
  The program's layer 7: Come.
  The contracts of the program's layer 7.
-/
import Derived.Test.YtnmmokdkngccjaaSesX
import Derived.Test.YtnmmokdkngccjaaRsqQ
import Derived.Test.YtnmmokdkngccjaaMsgQ

namespace Go.Proofs.Ytnmmokdkngccjaa
open Go.RowKit
namespace Ses
open Num
open Msg (I64)

theorem rightS_is (s : Se) : rightS s = (decide (0 ≤ s.state) && decide (s.state ≤ 2) && Rsq.rightL s.inn && decide (1 ≤ s.out) && decide (s.out ≤ 1099511627776) && everyB s.every && timeS s.heard && timeS s.said && timeS s.asked && timeS s.when) := by
  unfold rightS everyB
  have h1 : (decide (s.state = 0) || decide (s.state = 1) || decide (s.state = 2)) = (decide (0 ≤ s.state) && decide (s.state ≤ 2)) := by
    rw [Bool.eq_iff_iff]
    simp only [Bool.or_eq_true, Bool.and_eq_true, decide_eq_true_eq]
    omega
  rw [h1]
  have h2 : decide (0 < s.out) = decide (1 ≤ s.out) := decide_eq_decide.2 (by omega)
  have h3 : decide (0 < s.every) = decide (1 ≤ s.every) := decide_eq_decide.2 (by omega)
  rw [h2, h3]
  simp only [Bool.and_assoc]

set_option maxRecDepth 100000 in
set_option maxHeartbeats 8000000 in
theorem right_any (s : Se) (a : Option Addr) (cap n : Nat) (hn : s.inn.held.length = n) (hn9 : n ≤ 100000000) (w : World) (hr : RowAt Rsq.encI w a cap s.inn.held) (hl : Laid w) :
    Calls Try.prog 12 #[.agg (s.arr a n cap)] w fun e w' => e = .returned (.bool (rightS s)) ∧ Below w.heap.size w w' := by
  have HM := Lib.hid (rightS_is s)
  have HN := Lib.hid hn
  have HR0 := Lib.hid (hr.later (w' := w.alloc (.cells (s.arr a n cap) 28)) ((Below.refl _ _).alloc (Nat.le_refl _) _))
  have HL0 := Lib.hid (hl.below (w' := w.alloc (.cells (s.arr a n cap) 28)) ((Below.refl _ _).alloc (Nat.le_refl _) _))
  have HB0 : Hid (Below w.heap.size w (w.alloc (.cells (s.arr a n cap) 28))) := Lib.hid ((Below.refl _ _).alloc (Nat.le_refl _) _)
  have HG0 : Hid (SeAt (w.alloc (.cells (s.arr a n cap) 28)) w.heap.size s a n cap) := Lib.hid (SeAt.made w s a n cap)
  obtain ⟨SA, hSA⟩ : ∃ X, s.arr a n cap = X := ⟨_, rfl⟩
  rw [hSA] at HR0 HB0 HG0 HL0 ⊢
  clear hn hr hl hSA
  go_enter Try.func12, Try.ntmps12
  go_upto_region 1 with fail
  generalize w.alloc (.cells SA 28) = w0 at HR0 HB0 HG0 HL0 ⊢
  have c0 := HG0.out.cells.c0
  have c1 := HG0.out.cells.c1
  have c2 := HG0.out.cells.c2
  generalize hp1 : decide (0 ≤ s.state) = p1 at HM
  generalize hp2 : decide (s.state ≤ 2) = p2 at HM
  generalize hpr : Rsq.rightL s.inn = pr at HM
  generalize hp3 : decide (1 ≤ s.out) = p3 at HM
  generalize hp4 : decide (s.out ≤ 1099511627776) = p4 at HM
  generalize hp5 : everyB s.every = p5 at HM
  generalize hp6 : timeS s.heard = p6 at HM
  generalize hp7 : timeS s.said = p7 at HM
  generalize hp8 : timeS s.asked = p8 at HM
  generalize hp9 : timeS s.when = p9 at HM
  have HPR := Lib.hid hpr
  clear hpr
  cases p1
  · go_wp2_with fail
    go_ret
    exact ⟨ret_b (by rw [HM.out]; rfl), HB0.out⟩
  cases p2
  · go_wp2_with fail
    go_ret
    exact ⟨ret_b (by rw [HM.out]; rfl), HB0.out⟩
  go_wp2_with fail
  refine (Rsq.right_c _ s.inn a cap n rfl HN.out hn9 _ HR0.out HL0.out pr HPR.out).mono ?_
  rintro e w1 ⟨rfl, hb1⟩
  have HG1 := Lib.hid (HG0.out.later hb1)
  have HB1 := Lib.hid (HB0.out.trans (hb1.mono HB0.out.size))
  clear hb1 HG0 HB0 HR0 HL0 c0 c1 c2
  have c3 := HG1.out.cells.c3
  have c4 : w1.cell? ⟨w.heap.size, 4, none⟩ = some (.int .i64 s.every) := cell_at HG1.out rfl
  have c5 := HG1.out.cells.c5
  have c6 : w1.cell? ⟨w.heap.size, 6, none⟩ = some (.int .i64 s.said) := cell_at HG1.out rfl
  have c7 := HG1.out.cells.c7
  have c8 : w1.cell? ⟨w.heap.size, 8, none⟩ = some (.int .i64 s.when) := cell_at HG1.out rfl
  cases pr
  · go_wp2_with fail
    go_ret
    exact ⟨ret_b (by rw [HM.out]; rfl), HB1.out⟩
  cases p3
  · go_wp2_with fail
    go_ret
    exact ⟨ret_b (by rw [HM.out]; rfl), HB1.out⟩
  cases p4
  · go_wp2_with fail
    go_ret
    exact ⟨ret_b (by rw [HM.out]; rfl), HB1.out⟩
  go_wp2_with fail
  refine (every_any s.every _).mono ?_
  rintro e w2 ⟨rfl, rfl⟩
  rw [hp5]
  cases p5
  · go_wp2_with fail
    go_ret
    exact ⟨ret_b (by rw [HM.out]; rfl), HB1.out⟩
  go_wp2_with fail
  refine (time_any s.heard _).mono ?_
  rintro e w2 ⟨rfl, rfl⟩
  rw [hp6]
  cases p6
  · go_wp2_with fail
    go_ret
    exact ⟨ret_b (by rw [HM.out]; rfl), HB1.out⟩
  go_wp2_with fail
  refine (time_any s.said _).mono ?_
  rintro e w2 ⟨rfl, rfl⟩
  rw [hp7]
  cases p7
  · go_wp2_with fail
    go_ret
    exact ⟨ret_b (by rw [HM.out]; rfl), HB1.out⟩
  go_wp2_with fail
  refine (time_any s.asked _).mono ?_
  rintro e w2 ⟨rfl, rfl⟩
  rw [hp8]
  cases p8
  · go_wp2_with fail
    go_ret
    exact ⟨ret_b (by rw [HM.out]; rfl), HB1.out⟩
  go_wp2_with fail
  refine (time_any s.when _).mono ?_
  rintro e w2 ⟨rfl, rfl⟩
  rw [hp9]
  cases p9
  · go_wp2_with fail
    go_ret
    exact ⟨ret_b (by rw [HM.out]; rfl), HB1.out⟩
  go_wp2_with fail
  go_ret
  exact ⟨ret_b (by rw [HM.out]; rfl), HB1.out⟩
end Ses
end Go.Proofs.Ytnmmokdkngccjaa

namespace Go.Proofs.Ytnmmokdkngccjaa
open Go.RowKit
namespace Ses
open Num
open Msg (I64 alloc_below2 results_row_one)
attribute [local go_sem ↓] load_sess
attribute [local go_sem] blkOf_ptr offOf_ptr

/-- a session of zeros -/
def q7 : Se := ⟨0, ⟨0, []⟩, 0, 0, 0, 0, 0, 0, false⟩
theorem end_tri {fn : Func} {p u v : Tmp} (h : fn.results = #[.cell p 28, .tmp u, .tmp v]) (g : Nat) (W : World) (cs old : Array Value) (tmps : Array Value) (hw : W.heap[g]? = some (.cells old 28 (0, 0))) (hcs : (Try.prog.info? 28).map (·.size) = some cs.size)
    (hp : tmps.getD p undef = .pointer (some ⟨g, 0, none⟩)) : (results fn tmps).run Try.prog (W.setRow g cs) = .ok (.tuple #[.agg cs, tmps.getD u undef, tmps.getD v undef]) (W.setRow g cs) := by
  have hl := run_loadVar_mid (P := Try.prog) (W.setRow g cs) g 0 28 cs.toList _ (block_range (setRow_heap W g old cs _ _ hw)) Try.underlying28 rfl (by simpa using hcs)
  rw [Array.toArray_toList] at hl
  simp only [results, h]
  simp [Sem.run_bind, Result.andThen] at hp ⊢
  simp [hp, asAddr, hl]

theorem begin_is (s : Se) (now : Int) (a : Option Addr) (cap n : Nat) (SA : Array Value) (hSA : s.arr a n cap = SA) (hn : s.inn.held.length = n) (hn9 : n ≤ 100000000) (w : World) (hr : RowAt Rsq.encI w a cap s.inn.held) :
    Calls Try.prog 24 #[.agg SA, .int .i64 now] w fun e w' => ∃ g a' cap', e = .returned (.pointer (some ⟨g, 0, none⟩)) ∧ Tk w' w.heap.size g s a' n cap' now none 0 [] ∧ Below w.heap.size w w' := by
  subst hSA
  exact begin_any s now a cap n hn hn9 w hr
theorem right_is7 (s : Se) (a : Option Addr) (cap n : Nat) (SA : Array Value) (hSA : s.arr a n cap = SA) (hn : s.inn.held.length = n) (hn9 : n ≤ 100000000) (w : World) (hr : RowAt Rsq.encI w a cap s.inn.held) (hl : Laid w) (o : Bool) (ho : rightS s = o) :
    Calls Try.prog 12 #[.agg SA] w fun e w' => e = .returned (.bool o) ∧ Below w.heap.size w w' := by
  subst hSA ho
  exact right_any s a cap n hn hn9 w hr hl
theorem time_is (n : Int) (o : Bool) (ho : timeS n = o) (w : World) : Calls Try.prog 23 #[.int .i64 n] w fun en w' => en = .returned (.bool o) ∧ w' = w := by
  subst ho
  exact time_any n w
/-- what is handed back: the talk's session, what it says -/
theorem fin_S {w W : World} {B g z : Nat} {r : Se} {a : Option Addr} {n cap : Nat} {now : Int} {b : Option Addr} {q : Nat} {l : List Msg.Ms} {u : Se} (hT : Tk W B g r a n cap now b q l) (hZ : SeAt W z u none 0 0) (hB : Below w.heap.size w W) (hz : w.heap.size ≤ z) (k : Int) (RA : Array Value) (hRA : r.arr a n cap = RA) :
    GotS w (r, l, k) (.returned (.tuple #[.agg RA, .slice b l.length q, .int .i64 k])) (W.setRow z RA) := by
  subst hRA
  obtain ⟨b', q', e, ho⟩ := hT.own.row
  injection e with e1 _ e2
  subst e1 e2
  refine ⟨a, cap, b, q, ?_, hZ.row (by decide) hT.row _, hZ.row (by decide) ho _, below_setRow hB hz _⟩
  rw [hT.len]
theorem fin_0 {w W : World} {B g z : Nat} {r : Se} {a : Option Addr} {n cap : Nat} {now : Int} {b : Option Addr} {q : Nat} {l : List Msg.Ms} {u : Se} (hT : Tk W B g r a n cap now b q l) (hZ : SeAt W z u none 0 0) (hB : Below w.heap.size w W) (hz : w.heap.size ≤ z) (k : Int) (RA : Array Value) (hRA : r.arr a n cap = RA) :
    GotS w (r, [], k) (.returned (.tuple #[.agg RA, .slice none 0 0, .int .i64 k])) (W.setRow z RA) := by
  subst hRA
  refine ⟨a, cap, none, 0, ?_, hZ.row (by decide) hT.row _, .inl ⟨rfl, rfl, rfl⟩, below_setRow hB hz _⟩
  rw [hT.len]
  rfl
theorem SeAt.below {w w' : World} {B g : Nat} {s : Se} {a : Option Addr} {n cap : Nat} (h : SeAt w g s a n cap) (hb : Below B w w') (hg : g < B) : SeAt w' g s a n cap := (hb.block g hg).trans h

theorem SeAt.cell {w : World} {z g j : Nat} {s : Se} {a : Option Addr} {n cap : Nat} (h : SeAt w z s a n cap) (hne : z ≠ g) (v : Value) : SeAt (w.setCell ⟨g, j, none⟩ v) z s a n cap := (heap_setCell_other w ⟨g, j, none⟩ z v (fun e => hne e)).trans h
theorem Tk.setRow {w : World} {B g z : Nat} {s u : Se} {a : Option Addr} {n cap : Nat} {now : Int} {b : Option Addr} {q : Nat} {l : List Msg.Ms} (h : Tk w B g s a n cap now b q l) (hz : SeAt w z u none 0 0) (hb : z < B) (cs : Array Value) : Tk (w.setRow z cs) B g s a n cap now b q l :=
  ⟨(setRow_other w z g cs (fun e => by have := h.lo; omega)).trans h.blk, h.len, hz.row (by decide) h.row cs, h.ty.setRow z cs, h.own.setRow cs hb, h.lo⟩
theorem right_out {s : Se} (h : rightS s = true) : 0 < s.out ∧ s.out ≤ 1099511627776 := by
  unfold rightS at h
  simp only [Bool.and_eq_true, decide_eq_true_eq] at h
  exact ⟨h.1.1.1.1.1.1.1.2, h.1.1.1.1.1.1.2⟩
theorem sess_one (s : Se) (a : Option Addr) (n cap : Nat) : (s.arr a n cap).all (·.oneCell') = true := arr_one s a n cap

set_option maxRecDepth 100000 in
set_option maxHeartbeats 8000000 in
theorem connect_any (s : Se) (now : Int) (a : Option Addr) (cap n : Nat) (hn : s.inn.held.length = n) (hn9 : n ≤ 100000000) (w : World) (hr : RowAt Rsq.encI w a cap s.inn.held) (hl : Laid w) :
    Calls Try.prog 13 #[.agg (s.arr a n cap), .int .i64 now] w (GotS w (connect s now)) := by
  have HN := Lib.hid hn
  have HPL := Lib.hid hl
  have HR := Lib.hid hr
  obtain ⟨SA, hSA⟩ : ∃ X, s.arr a n cap = X := ⟨_, rfl⟩
  have HSA := Lib.hid hSA
  have HSI : Hid ((Try.prog.info? 28).map (·.size) = some SA.size) := Lib.hid (hSA ▸ arr_info s a n cap)
  rw [hSA]
  clear hn hr hl
  go_enter Try.func13, Try.ntmps13
  go_upto_region 1 with fail
  obtain ⟨ZS, hZS⟩ : ∃ X : Array Value, #[.int .i64 0, .int .i64 0, .slice none 0 0, .int .i64 0, .int .i64 0, .int .i64 0, .int .i64 0, .int .i64 0, .int .i64 0, .bool false] = X := ⟨_, rfl⟩
  have e1 : (w.alloc (.cells SA 28)).heap.size = w.heap.size + 1 := by simp
  have HG0 : Hid (SeAt ((w.alloc (.cells SA 28)).alloc (.cells ZS 28)) w.heap.size s a n cap) := Lib.hid (by
    have h : ((w.alloc (.cells SA 28)).alloc (.cells ZS 28)).heap[w.heap.size]? = some (.cells SA 28 (0, 0)) := alloc_block (heap_alloc_new w _)
    rw [← hSA] at h ⊢
    exact h)
  have HZ0 : Hid (SeAt ((w.alloc (.cells SA 28)).alloc (.cells ZS 28)) (w.heap.size + 1) q7 none 0 0) := Lib.hid (by
    have h := heap_alloc_new (w.alloc (.cells SA 28)) (.cells ZS 28)
    rw [e1] at h
    rw [← hZS] at h ⊢
    exact h)
  have HB0 : Hid (Below w.heap.size w ((w.alloc (.cells SA 28)).alloc (.cells ZS 28))) := Lib.hid (alloc_below2 _ _)
  have HE0 : Hid (((w.alloc (.cells SA 28)).alloc (.cells ZS 28)).heap.size = w.heap.size + 2) := Lib.hid (by simp)
  try rw [hZS]
  clear hZS e1
  generalize (w.alloc (.cells SA 28)).alloc (.cells ZS 28) = w0 at HG0 HZ0 HB0 HE0 ⊢
  have HX0 : Hid (w0.rangeAt w.heap.size 0 SA.toList) := Lib.hid (by rw [← hSA]; exact block_range HG0.out)
  clear hSA
  go_wp2_with (refine wpList_load_arr_g (by rfl) 28 _ rfl w.heap.size 0 rfl SA _ HX0.out Try.underlying28 rfl HSI.out ?_)
  refine (begin_is s now a cap n SA HSA.out HN.out hn9 _ (HR.out.later HB0.out)).mono ?_
  rintro e w1 ⟨g, a2, q2, rfl, ht, hb⟩
  obtain ⟨B, hB⟩ : ∃ B, w0.heap.size = B := ⟨_, rfl⟩
  rw [hB] at ht hb HE0
  have HT1 := Lib.hid ht
  have HG1 := Lib.hid (HG0.out.below hb (by have := HE0.out; omega))
  have HZ1 := Lib.hid (HZ0.out.below hb (by have := HE0.out; omega))
  have HB1 := Lib.hid (HB0.out.trans (hb.mono (by have := HE0.out; omega)))
  clear ht hb HG0 HZ0 HB0 HX0 hB
  have HX1 : Hid (w1.rangeAt w.heap.size 0 SA.toList) := Lib.hid (by rw [← HSA.out]; exact block_range HG1.out)
  obtain ⟨br, hbr⟩ : ∃ b, rightS s = b := ⟨_, rfl⟩
  have HBR := Lib.hid hbr
  clear hbr
  go_wp2_with (refine wpList_load_arr_g (by rfl) 28 _ rfl w.heap.size 0 rfl SA _ HX1.out Try.underlying28 rfl HSI.out ?_)
  refine (right_is7 s a cap n SA HSA.out HN.out hn9 _ (HR.out.later HB1.out) (HPL.out.below HB1.out) br HBR.out).mono ?_
  rintro e w2 ⟨rfl, hb⟩
  have HT2 := Lib.hid (HT1.out.later hb)
  have HG2 := Lib.hid (HG1.out.later hb)
  have HZ2 := Lib.hid (HZ1.out.later hb)
  have HB2 := Lib.hid (HB1.out.trans (hb.mono HB1.out.size))
  clear hb HT1 HG1 HZ1 HB1 HX1
  obtain ⟨bt, hbt⟩ : ∃ b, timeS now = b := ⟨_, rfl⟩
  have HBT := Lib.hid hbt
  clear hbt
  obtain ⟨SA2, hSA2⟩ : ∃ X, s.arr a2 n q2 = X := ⟨_, rfl⟩
  have HSA2 := Lib.hid hSA2
  have HSI2 : Hid ((Try.prog.info? 28).map (·.size) = some SA2.size) := Lib.hid (hSA2 ▸ arr_info s a2 n q2)
  have HSI2S : Hid ((q7.arr none 0 0).size = SA2.size) := Lib.hid (hSA2 ▸ rfl)
  have HSO2 : Hid (SA2.all (·.oneCell') = true) := Lib.hid (hSA2 ▸ arr_one s a2 n q2)
  clear hSA2
  have HBAD : Hid ((br = false ∨ bt = false) → connect s now = (s, [], 1)) := Lib.hid fun h => by unfold connect; rw [if_pos (by rw [HBR.out, HBT.out]; exact h)]
  cases br
  · have HX3 : Hid (w2.rangeAt g 0 SA2.toList) := Lib.hid (by rw [← HSA2.out]; exact HT2.out.range)
    have l2 := HT2.out.lt
    go_wp2_with (first | (refine wpList_load_arr_g (by rfl) 28 _ rfl g 0 rfl SA2 _ HX3.out Try.underlying28 rfl HSI2.out ?_) | (refine wpList_store_row rfl 28 _ _ rfl (w.heap.size + 1) SA2 rfl rfl _ _ HZ2.out HSI2.out HSI2S.out HSO2.out ?_))
    refine bodyPost_ret (end_tri rfl (w.heap.size + 1) _ _ _ _ HZ2.out HSI2.out rfl) rfl ?_
    rw [HBAD.out (by simp)]
    exact fin_0 HT2.out HZ2.out HB2.out (Nat.le_succ _) 1 SA2 HSA2.out
  go_wp2_with fail
  refine (time_is now bt HBT.out _).mono ?_
  rintro e w2 ⟨rfl, rfl⟩
  cases bt
  · have HX3 : Hid (w2.rangeAt g 0 SA2.toList) := Lib.hid (by rw [← HSA2.out]; exact HT2.out.range)
    have l2 := HT2.out.lt
    go_wp2_with (first | (refine wpList_load_arr_g (by rfl) 28 _ rfl g 0 rfl SA2 _ HX3.out Try.underlying28 rfl HSI2.out ?_) | (refine wpList_store_row rfl 28 _ _ rfl (w.heap.size + 1) SA2 rfl rfl _ _ HZ2.out HSI2.out HSI2S.out HSO2.out ?_))
    refine bodyPost_ret (end_tri rfl (w.heap.size + 1) _ _ _ _ HZ2.out HSI2.out rfl) rfl ?_
    rw [HBAD.out (by simp)]
    exact fin_0 HT2.out HZ2.out HB2.out (Nat.le_succ _) 1 SA2 HSA2.out
  have d0 := HG2.out.cells.c0
  have HCN : Hid (connect s now = if s.state ≠ 0 then (s, [], 8) else ((say {s with state := 1, heard := now, asked := 0, tested := false} [] {Msg.noMs with kind := 1, a := s.every} now).1, (say {s with state := 1, heard := now, asked := 0, tested := false} [] {Msg.noMs with kind := 1, a := s.every} now).2, 0)) := Lib.hid (by unfold connect; rw [if_neg (by rw [HBR.out, HBT.out]; simp)])
  clear HBAD
  obtain ⟨bs, hbs⟩ : ∃ b, (s.state != 0) = b := ⟨_, rfl⟩
  have HBS := Lib.hid hbs
  cases bs
  rotate_left
  · have HEQ : Hid (connect s now = (s, [], 8)) := Lib.hid (by rw [HCN.out, if_pos (by simpa using HBS.out)])
    have HX3 : Hid (w2.rangeAt g 0 SA2.toList) := Lib.hid (by rw [← HSA2.out]; exact HT2.out.range)
    have l2 := HT2.out.lt
    go_wp2_with (first | (refine wpList_load_arr_g (by rfl) 28 _ rfl g 0 rfl SA2 _ HX3.out Try.underlying28 rfl HSI2.out ?_) | (refine wpList_store_row rfl 28 _ _ rfl (w.heap.size + 1) SA2 rfl rfl _ _ HZ2.out HSI2.out HSI2S.out HSO2.out ?_))
    refine bodyPost_ret (end_tri rfl (w.heap.size + 1) _ _ _ _ HZ2.out HSI2.out rfl) rfl ?_
    rw [HEQ.out]
    exact fin_0 HT2.out HZ2.out HB2.out (Nat.le_succ _) 8 SA2 HSA2.out
  · obtain ⟨r, hr⟩ : ∃ r, say {s with state := 1, heard := now, asked := 0, tested := false} [] {Msg.noMs with kind := 1, a := s.every} now = r := ⟨_, rfl⟩
    have HSR := Lib.hid hr
    have HEQ : Hid (connect s now = (r.1, r.2, 0)) := Lib.hid (by rw [HCN.out, if_neg (by simpa using HBS.out), hr])
    clear hr
    have ⟨o1, o2⟩ := right_out HBR.out
    have HOU := Lib.hid (And.intro o1 o2)
    clear o1 o2 HG2 HPL HR HN
    have c0 := HT2.out.cells.c0
    have c5 := HT2.out.cells.c5
    have c7 := HT2.out.cells.c7
    have c9 := HT2.out.cells.c9
    have f0 := HT2.out.frz 0
    have f5 := HT2.out.frz 5
    have f7 := HT2.out.frz 7
    have f9 := HT2.out.frz 9
    have l2 := HT2.out.lt
    go_upto_region 7 with fail
    have HGZ : Hid (w.heap.size + 1 ≠ g ∧ w.heap.size ≤ g) := Lib.hid (by have h1 := HT2.out.lo; have h2 := HE0.out; omega)
    have HT3 := Lib.hid ((((HT2.out.set 0 (.int .i64 1) {s with state := 1} rfl rfl).set 5 (.int .i64 now) {s with state := 1, heard := now} rfl rfl).set 7 (.int .i64 0) {s with state := 1, heard := now, asked := 0} rfl rfl).set 9 (.bool false) {s with state := 1, heard := now, asked := 0, tested := false} rfl rfl)
    have HZ3 := Lib.hid ((((HZ2.out.cell (j := 0) HGZ.out.1 (.int .i64 1)).cell (j := 5) HGZ.out.1 (.int .i64 now)).cell (j := 7) HGZ.out.1 (.int .i64 0)).cell (j := 9) HGZ.out.1 (.bool false))
    have HB3 := Lib.hid (set_below (j := 9) (v := .bool false) (set_below (j := 7) (v := .int .i64 0) (set_below (j := 5) (v := .int .i64 now) (set_below (j := 0) (v := .int .i64 1) HB2.out HGZ.out.2) HGZ.out.2) HGZ.out.2) HGZ.out.2)
    generalize (((w2.setCell ⟨g, 0, none⟩ (.int .i64 1)).setCell ⟨g, 5, none⟩ (.int .i64 now)).setCell ⟨g, 7, none⟩ (.int .i64 0)).setCell ⟨g, 9, none⟩ (.bool false) = w3 at HT3 HZ3 HB3 ⊢
    clear c0 c5 c7 c9 f0 f5 f7 f9 l2 HT2 HZ2 HB2 d0
    have c4 : w3.cell? ⟨g, 4, none⟩ = some (.int .i64 s.every) := HT3.out.cells.c4
    have l3 := HT3.out.lt
    go_wp2_with fail
    refine (say_is B g {s with state := 1, heard := now, asked := 0, tested := false} a2 n q2 now none 0 [] {Msg.noMs with kind := 1, a := s.every} _ rfl r HSR.out _ HT3.out (by simp) HOU.out.1 HOU.out.2).mono ?_
    rintro e w4 ⟨rfl, ⟨b4, q4, ht⟩, hb, -⟩
    have HT4 := Lib.hid ht
    have HZ4 := Lib.hid (HZ3.out.below hb (by have := HE0.out; omega))
    have HB4 := Lib.hid (HB3.out.trans (hb.mono (by have := HE0.out; omega)))
    clear ht hb HT3 HZ3 HB3 c4 l3
    go_upto_region 8 with fail
    obtain ⟨RA, hRA⟩ : ∃ X, r.1.arr a2 n q2 = X := ⟨_, rfl⟩
    have HRA := Lib.hid hRA
    have HRI : Hid ((Try.prog.info? 28).map (·.size) = some RA.size) := Lib.hid (hRA ▸ arr_info _ _ _ _)
    have HRS : Hid ((q7.arr none 0 0).size = RA.size) := Lib.hid (hRA ▸ rfl)
    have HRO : Hid (RA.all (·.oneCell') = true) := Lib.hid (hRA ▸ arr_one _ _ _ _)
    clear hRA
    have HCK : Hid (∀ W : World, Tk W B g r.1 a2 n q2 now b4 q4 r.2 → CellsOk W g 0 10 ∧ cellsAt W g 0 10 = RA ∧ W.cell? ⟨g, 11, none⟩ = some (.slice b4 r.2.length q4)) := Lib.hid fun W h => by
      have h1 := CellsOk.of h.range
      rw [HRA.out] at h1
      have h2 : RA.size = 10 := by rw [← HRA.out]; rfl
      rw [h2] at h1
      exact ⟨h1.1, h1.2, h.cells.c11⟩
    have HTD := Lib.hid HT4.out.drew
    have HZD : Hid (SeAt w4.drew (w.heap.size + 1) q7 none 0 0) := Lib.hid HZ4.out
    have HBD : Hid (Below w.heap.size w w4.drew) := Lib.hid (HB4.out.trans ⟨rfl, rfl, rfl, Nat.le_refl _, fun _ _ => rfl⟩)
    refine wp_region_held_drew (S := (fun w' => CellsOk w' g 0 10 ∧ cellsAt w' g 0 10 = RA ∧ w'.cell? ⟨g, 11, none⟩ = some (.slice b4 r.2.length q4))) (by kernel_rfl) ?hs0 (fun hHeld => ?_)
    case hs0 => exact HCK.out _ HTD.out
    generalize w4.drew = wd at HTD HZD HBD hHeld ⊢
    refine' wpAnyH_take (i := 0) (oi := _) (v := _) rfl (by kernel_rfl) (by kernel_rfl) (by kernel_rfl) (fun _ _ _ h => h) (Or.inl ⟨by rfl, ?hy⟩) (by assumption) ?_
    case hy => (intro w hSw; (try dsimp only at hSw); (try simp only [List.getElem_toArray, List.getElem_cons_zero]); go_simp; try with_reducible rfl)
    try simp only [List.getElem_toArray, List.getElem_cons_zero, Act.put, List.setIfInBounds_toArray, List.set_cons_zero, List.set_cons_succ]
    refine' wpAnyH_take (i := 1) (oi := _) (v := _) rfl (by kernel_rfl) (by kernel_rfl) (by kernel_rfl) (fun _ _ _ h => h) (Or.inl ⟨by rfl, ?hy⟩) (by assumption) ?_
    case hy => (intro w hSw; (try dsimp only at hSw); (try simp only [List.getElem_toArray, List.getElem_cons_zero, List.getElem_cons_succ]); go_simp; try with_reducible rfl)
    try simp only [List.getElem_toArray, List.getElem_cons_zero, List.getElem_cons_succ, Act.put, List.setIfInBounds_toArray, List.set_cons_zero, List.set_cons_succ]
    refine' wpAnyH_take (i := 2) (oi := _) (v := _) rfl (by kernel_rfl) (by kernel_rfl) (by kernel_rfl) (fun _ _ _ h => h) (Or.inl ⟨by rfl, ?hy⟩) (by assumption) ?_
    case hy => (intro w hSw; (try dsimp only at hSw); (try simp only [List.getElem_toArray, List.getElem_cons_zero, List.getElem_cons_succ]); go_simp; try with_reducible rfl)
    try simp only [List.getElem_toArray, List.getElem_cons_zero, List.getElem_cons_succ, Act.put, List.setIfInBounds_toArray, List.set_cons_zero, List.set_cons_succ]
    refine' wpAnyH_take (i := 3) (oi := _) (v := _) rfl (by kernel_rfl) (by kernel_rfl) (by kernel_rfl) (fun _ _ _ h => h) (Or.inl ⟨by rfl, ?hy⟩) (by assumption) ?_
    case hy => (intro w hSw; (try dsimp only at hSw); (try simp only [List.getElem_toArray, List.getElem_cons_zero, List.getElem_cons_succ]); go_simp; try with_reducible rfl)
    try simp only [List.getElem_toArray, List.getElem_cons_zero, List.getElem_cons_succ, Act.put, List.setIfInBounds_toArray, List.set_cons_zero, List.set_cons_succ]
    refine' wpAnyH_take (i := 4) (oi := _) (v := _) rfl (by kernel_rfl) (by kernel_rfl) (by kernel_rfl) (fun _ _ _ h => h) (Or.inl ⟨by rfl, ?hy⟩) (by assumption) ?_
    case hy => (intro w hSw; (try dsimp only at hSw); (try simp only [List.getElem_toArray, List.getElem_cons_zero, List.getElem_cons_succ]); go_simp; try with_reducible rfl)
    try simp only [List.getElem_toArray, List.getElem_cons_zero, List.getElem_cons_succ, Act.put, List.setIfInBounds_toArray, List.set_cons_zero, List.set_cons_succ]
    refine' wpAnyH_take (i := 5) (oi := _) (v := _) rfl (by kernel_rfl) (by kernel_rfl) (by kernel_rfl) (fun _ _ _ h => h) (Or.inl ⟨by rfl, ?hy⟩) (by assumption) ?_
    case hy => (intro w hSw; (try dsimp only at hSw); (try simp only [List.getElem_toArray, List.getElem_cons_zero, List.getElem_cons_succ]); go_simp; try with_reducible rfl)
    try simp only [List.getElem_toArray, List.getElem_cons_zero, List.getElem_cons_succ, Act.put, List.setIfInBounds_toArray, List.set_cons_zero, List.set_cons_succ]
    refine' wpAnyH_take (i := 6) (oi := _) (v := _) rfl (by kernel_rfl) (by kernel_rfl) (by kernel_rfl) (fun _ _ _ h => h) (Or.inl ⟨by rfl, ?hy⟩) (by assumption) ?_
    case hy => (intro w hSw; (try dsimp only at hSw); (try simp only [List.getElem_toArray, List.getElem_cons_zero, List.getElem_cons_succ]); go_simp; try with_reducible rfl)
    try simp only [List.getElem_toArray, List.getElem_cons_zero, List.getElem_cons_succ, Act.put, List.setIfInBounds_toArray, List.set_cons_zero, List.set_cons_succ]
    refine' wpAnyH_take (i := 7) (oi := _) (v := _) rfl (by kernel_rfl) (by kernel_rfl) (by kernel_rfl) (fun _ _ _ h => h) (Or.inl ⟨by rfl, ?hy⟩) (by assumption) ?_
    case hy => (intro w hSw; (try dsimp only at hSw); (try simp only [List.getElem_toArray, List.getElem_cons_zero, List.getElem_cons_succ]); go_simp; try with_reducible rfl)
    try simp only [List.getElem_toArray, List.getElem_cons_zero, List.getElem_cons_succ, Act.put, List.setIfInBounds_toArray, List.set_cons_zero, List.set_cons_succ]
    refine wpAnyH_ready (rs := [8]) (by kernel_rfl) (by simp) ?_
    refine AllReadyH.cons (o := _) rfl (fun K hK => ?_) AllReadyH.nil
    try simp only [List.getElem_toArray, List.getElem_cons_zero, List.getElem_cons_succ, Act.put]
    refine step_store_row rfl 28 (.tmp 4) (.tmp 60) rfl (w.heap.size + 1) RA rfl rfl _ _ HZD.out HRI.out HRS.out HRO.out ?_
    have HTE := Lib.hid (HTD.out.setRow HZD.out (by have := HE0.out; omega) RA)
    refine hK.out _ _ ?hs1 (fun hHeld => ?_)
    case hs1 => exact HCK.out _ HTE.out
    clear hK K
    try simp only [Act.put]
    refine' wpAnyH_take (i := 9) (oi := _) (v := _) rfl (by kernel_rfl) (by kernel_rfl) (by kernel_rfl) (fun _ _ _ h => h) (Or.inl ⟨by rfl, ?hy⟩) (by assumption) ?_
    case hy => (intro w hSw; (try dsimp only at hSw); (try simp only [List.getElem_toArray, List.getElem_cons_zero, List.getElem_cons_succ]); go_simp; try with_reducible rfl)
    try simp only [List.getElem_toArray, List.getElem_cons_zero, List.getElem_cons_succ, Act.put, List.setIfInBounds_toArray, List.set_cons_zero, List.set_cons_succ]
    refine' wpAnyH_take (i := 10) (oi := _) (v := _) rfl (by kernel_rfl) (by kernel_rfl) (by kernel_rfl) (fun _ _ _ h => h) (Or.inl ⟨by rfl, ?hy⟩) (by assumption) ?_
    case hy => (intro w hSw; (try dsimp only at hSw); (try simp only [List.getElem_toArray, List.getElem_cons_zero, List.getElem_cons_succ]); go_simp; try with_reducible rfl)
    try simp only [List.getElem_toArray, List.getElem_cons_zero, List.getElem_cons_succ, Act.put, List.setIfInBounds_toArray, List.set_cons_zero, List.set_cons_succ]
    refine wpAnyH_done (by kernel_rfl) ?_ _
    go_wp2_with fail
    refine bodyPost_ret (end_tri rfl (w.heap.size + 1) _ _ _ _ HZD.out HRI.out rfl) rfl ?_
    rw [HEQ.out]
    exact fin_S HTD.out HZD.out HBD.out (Nat.le_succ _) 0 RA HRA.out

theorem right_parts {s : Se} (h : rightS s = true) : Good s s ∧ (0 < s.every ∧ s.every ≤ 1048576) ∧ (0 ≤ s.heard ∧ s.heard ≤ 4611686018427387904) ∧ (0 ≤ s.when ∧ s.when ≤ 4611686018427387904) ∧ Rsq.rightL s.inn = true ∧ (s.state = 0 ∨ s.state = 1 ∨ s.state = 2) := by
  unfold rightS timeS at h
  simp only [Bool.and_eq_true, Bool.or_eq_true, decide_eq_true_eq] at h
  obtain ⟨⟨⟨⟨⟨⟨⟨⟨⟨h1, h2⟩, h3⟩, h4⟩, h5⟩, h6⟩, h7⟩, h8⟩, h9⟩, h10⟩ := h
  exact ⟨⟨rfl, rfl, rfl, rfl, ⟨h3, h4⟩, h8⟩, ⟨h5, h6⟩, h7, h10, h2, by omega⟩
theorem tick_wait {s : Se} {now : Int} (h : rightS s = true) (ht : timeS now = true) (h2 : s.state = 2) (h3 : ¬ 3 * s.every ≤ now - s.heard) (x1 x2 x3 : Se × List Msg.Ms) (e1 : waitA s [] now = x1) (e2 : waitB x1.1 x1.2 now = x2) (e3 : waitC x2.1 x2.2 now = x3) : tick s now = (x3.1, x3.2, 0) := by
  unfold tick
  rw [if_neg (by rw [h, ht]; simp), if_neg (by omega), if_neg h3, if_neg (by omega)]
  have k1 : (if 2 * s.every ≤ now - s.heard ∧ s.tested = false then
      let r := say s [] {Msg.noMs with kind := 3, text := ⟨#[116]⟩} now
      ({r.1 with tested := true}, r.2)
    else (s, [])) = x1 := by
    rw [← e1]
    unfold waitA
    by_cases c : 2 * s.every ≤ now - s.heard ∧ s.tested = false
    · rw [if_pos c, if_pos (by rw [decide_eq_true c.1, c.2]; rfl)]
    · rw [if_neg c, if_neg (by
        intro e
        simp only [Bool.and_eq_true, decide_eq_true_eq, Bool.not_eq_true'] at e
        exact c e)]
  have k2 : (if x1.1.every ≤ now - x1.1.said then say x1.1 x1.2 {Msg.noMs with kind := 2} now else x1) = x2 := by
    rw [← e2]
    unfold waitB
    by_cases c : x1.1.every ≤ now - x1.1.said
    · rw [if_pos c, if_pos (decide_eq_true c)]
    · rw [if_neg c, if_neg (by rw [decide_eq_false c]; simp)]
  have k3 : (if x2.1.inn.held ≠ [] ∧ x2.1.every ≤ now - x2.1.when then ask {x2.1 with asked := 0} x2.2 now else x2) = x3 := e3
  dsimp only
  dsimp only at k1
  rw [k1, k2, k3]

set_option maxRecDepth 100000 in
set_option maxHeartbeats 16000000 in
theorem tick_any (s : Se) (now : Int) (a : Option Addr) (cap n : Nat) (hn : s.inn.held.length = n) (hn9 : n ≤ 100000000) (w : World) (hr : RowAt Rsq.encI w a cap s.inn.held) (hl : Laid w) :
    Calls Try.prog 15 #[.agg (s.arr a n cap), .int .i64 now] w (GotS w (tick s now)) := by
  have HN := Lib.hid hn
  have HPL := Lib.hid hl
  have HR := Lib.hid hr
  obtain ⟨SA, hSA⟩ : ∃ X, s.arr a n cap = X := ⟨_, rfl⟩
  have HSA := Lib.hid hSA
  have HSI : Hid ((Try.prog.info? 28).map (·.size) = some SA.size) := Lib.hid (hSA ▸ arr_info s a n cap)
  rw [hSA]
  clear hn hr hl
  go_enter Try.func15, Try.ntmps15
  go_upto_region 1 with fail
  obtain ⟨ZS, hZS⟩ : ∃ X : Array Value, #[.int .i64 0, .int .i64 0, .slice none 0 0, .int .i64 0, .int .i64 0, .int .i64 0, .int .i64 0, .int .i64 0, .int .i64 0, .bool false] = X := ⟨_, rfl⟩
  have e1 : (w.alloc (.cells SA 28)).heap.size = w.heap.size + 1 := by simp
  have HG0 : Hid (SeAt ((w.alloc (.cells SA 28)).alloc (.cells ZS 28)) w.heap.size s a n cap) := Lib.hid (by
    have h : ((w.alloc (.cells SA 28)).alloc (.cells ZS 28)).heap[w.heap.size]? = some (.cells SA 28 (0, 0)) := alloc_block (heap_alloc_new w _)
    rw [← hSA] at h ⊢
    exact h)
  have HZ0 : Hid (SeAt ((w.alloc (.cells SA 28)).alloc (.cells ZS 28)) (w.heap.size + 1) q7 none 0 0) := Lib.hid (by
    have h := heap_alloc_new (w.alloc (.cells SA 28)) (.cells ZS 28)
    rw [e1] at h
    rw [← hZS] at h ⊢
    exact h)
  have HB0 : Hid (Below w.heap.size w ((w.alloc (.cells SA 28)).alloc (.cells ZS 28))) := Lib.hid (alloc_below2 _ _)
  have HE0 : Hid (((w.alloc (.cells SA 28)).alloc (.cells ZS 28)).heap.size = w.heap.size + 2) := Lib.hid (by simp)
  try rw [hZS]
  clear hZS e1
  generalize (w.alloc (.cells SA 28)).alloc (.cells ZS 28) = w0 at HG0 HZ0 HB0 HE0 ⊢
  have HX0 : Hid (w0.rangeAt w.heap.size 0 SA.toList) := Lib.hid (by rw [← hSA]; exact block_range HG0.out)
  clear hSA
  go_wp2_with (refine wpList_load_arr_g (by rfl) 28 _ rfl w.heap.size 0 rfl SA _ HX0.out Try.underlying28 rfl HSI.out ?_)
  refine (begin_is s now a cap n SA HSA.out HN.out hn9 _ (HR.out.later HB0.out)).mono ?_
  rintro e w1 ⟨g, a2, q2, rfl, ht, hb⟩
  obtain ⟨B, hB⟩ : ∃ B, w0.heap.size = B := ⟨_, rfl⟩
  rw [hB] at ht hb HE0
  have HT1 := Lib.hid ht
  have HG1 := Lib.hid (HG0.out.below hb (by have := HE0.out; omega))
  have HZ1 := Lib.hid (HZ0.out.below hb (by have := HE0.out; omega))
  have HB1 := Lib.hid (HB0.out.trans (hb.mono (by have := HE0.out; omega)))
  clear ht hb HG0 HZ0 HB0 HX0 hB
  have HX1 : Hid (w1.rangeAt w.heap.size 0 SA.toList) := Lib.hid (by rw [← HSA.out]; exact block_range HG1.out)
  obtain ⟨br, hbr⟩ : ∃ b, rightS s = b := ⟨_, rfl⟩
  have HBR := Lib.hid hbr
  clear hbr
  go_wp2_with (refine wpList_load_arr_g (by rfl) 28 _ rfl w.heap.size 0 rfl SA _ HX1.out Try.underlying28 rfl HSI.out ?_)
  refine (right_is7 s a cap n SA HSA.out HN.out hn9 _ (HR.out.later HB1.out) (HPL.out.below HB1.out) br HBR.out).mono ?_
  rintro e w2 ⟨rfl, hb⟩
  have HT2 := Lib.hid (HT1.out.later hb)
  have HG2 := Lib.hid (HG1.out.later hb)
  have HZ2 := Lib.hid (HZ1.out.later hb)
  have HB2 := Lib.hid (HB1.out.trans (hb.mono HB1.out.size))
  clear hb HT1 HG1 HZ1 HB1 HX1
  obtain ⟨bt, hbt⟩ : ∃ b, timeS now = b := ⟨_, rfl⟩
  have HBT := Lib.hid hbt
  clear hbt
  obtain ⟨SA2, hSA2⟩ : ∃ X, s.arr a2 n q2 = X := ⟨_, rfl⟩
  have HSA2 := Lib.hid hSA2
  have HSI2 : Hid ((Try.prog.info? 28).map (·.size) = some SA2.size) := Lib.hid (hSA2 ▸ arr_info s a2 n q2)
  have HSI2S : Hid ((q7.arr none 0 0).size = SA2.size) := Lib.hid (hSA2 ▸ rfl)
  have HSO2 : Hid (SA2.all (·.oneCell') = true) := Lib.hid (hSA2 ▸ arr_one s a2 n q2)
  clear hSA2
  have HBAD : Hid ((br = false ∨ bt = false) → tick s now = (s, [], 1)) := Lib.hid fun h => by unfold tick; rw [if_pos (by rw [HBR.out, HBT.out]; exact h)]
  cases br
  · have HX3 : Hid (w2.rangeAt g 0 SA2.toList) := Lib.hid (by rw [← HSA2.out]; exact HT2.out.range)
    have l2 := HT2.out.lt
    go_wp2_with (first | (refine wpList_load_arr_g (by rfl) 28 _ rfl g 0 rfl SA2 _ HX3.out Try.underlying28 rfl HSI2.out ?_) | (refine wpList_store_row rfl 28 _ _ rfl (w.heap.size + 1) SA2 rfl rfl _ _ HZ2.out HSI2.out HSI2S.out HSO2.out ?_))
    refine bodyPost_ret (end_tri rfl (w.heap.size + 1) _ _ _ _ HZ2.out HSI2.out rfl) rfl ?_
    rw [HBAD.out (by simp)]
    exact fin_0 HT2.out HZ2.out HB2.out (Nat.le_succ _) 1 SA2 HSA2.out
  go_wp2_with fail
  refine (time_is now bt HBT.out _).mono ?_
  rintro e w2 ⟨rfl, rfl⟩
  cases bt
  · have HX3 : Hid (w2.rangeAt g 0 SA2.toList) := Lib.hid (by rw [← HSA2.out]; exact HT2.out.range)
    have l2 := HT2.out.lt
    go_wp2_with (first | (refine wpList_load_arr_g (by rfl) 28 _ rfl g 0 rfl SA2 _ HX3.out Try.underlying28 rfl HSI2.out ?_) | (refine wpList_store_row rfl 28 _ _ rfl (w.heap.size + 1) SA2 rfl rfl _ _ HZ2.out HSI2.out HSI2S.out HSO2.out ?_))
    refine bodyPost_ret (end_tri rfl (w.heap.size + 1) _ _ _ _ HZ2.out HSI2.out rfl) rfl ?_
    rw [HBAD.out (by simp)]
    exact fin_0 HT2.out HZ2.out HB2.out (Nat.le_succ _) 1 SA2 HSA2.out
  have d0 := HG2.out.cells.c0
  have HPT := Lib.hid (right_parts HBR.out)
  have HNW : Hid (0 ≤ now ∧ now ≤ 4611686018427387904) := Lib.hid (by
    have h := HBT.out
    unfold timeS at h
    simpa using h)
  have HTN : Hid (tick s now = if s.state = 0 then (s, [], 0) else if 3 * s.every ≤ now - s.heard then ({s with state := 0}, [], 0) else if s.state = 1 then (s, [], 0) else tick s now) := Lib.hid (by
    unfold tick
    rw [if_neg (by rw [HBR.out, HBT.out]; simp)]
    split
    · rfl
    · split
      · rfl
      · split
        · rfl
        · rfl)
  clear HBAD
  obtain ⟨b0, hb0⟩ : ∃ b, (s.state == 0) = b := ⟨_, rfl⟩
  have HB0 := Lib.hid hb0
  cases b0
  rotate_left
  · have HEQ : Hid (tick s now = (s, [], 0)) := Lib.hid (by rw [HTN.out, if_pos (by simpa using HB0.out)])
    obtain ⟨r, hr⟩ : ∃ r : Se × List Msg.Ms, (s, []) = r := ⟨_, rfl⟩
    obtain ⟨b4, q4, ht⟩ : ∃ b4 q4, Tk w2 B g r.1 a2 n q2 now b4 q4 r.2 := ⟨none, 0, by rw [← hr]; exact HT2.out⟩
    have HT4 := Lib.hid ht
    have HEQ2 : Hid (tick s now = (r.1, r.2, 0)) := Lib.hid (by rw [HEQ.out, ← hr])
    clear ht hr
    go_upto_region 9 with fail
    obtain ⟨RA, hRA⟩ : ∃ X, r.1.arr a2 n q2 = X := ⟨_, rfl⟩
    have HRA := Lib.hid hRA
    have HRI : Hid ((Try.prog.info? 28).map (·.size) = some RA.size) := Lib.hid (hRA ▸ arr_info _ _ _ _)
    have HRS : Hid ((q7.arr none 0 0).size = RA.size) := Lib.hid (hRA ▸ rfl)
    have HRO : Hid (RA.all (·.oneCell') = true) := Lib.hid (hRA ▸ arr_one _ _ _ _)
    clear hRA
    have HCK : Hid (∀ W : World, Tk W B g r.1 a2 n q2 now b4 q4 r.2 → CellsOk W g 0 10 ∧ cellsAt W g 0 10 = RA ∧ W.cell? ⟨g, 11, none⟩ = some (.slice b4 r.2.length q4)) := Lib.hid fun W h => by
      have h1 := CellsOk.of h.range
      rw [HRA.out] at h1
      have h2 : RA.size = 10 := by rw [← HRA.out]; rfl
      rw [h2] at h1
      exact ⟨h1.1, h1.2, h.cells.c11⟩
    have HTD := Lib.hid HT4.out.drew
    have HZD : Hid (SeAt w2.drew (w.heap.size + 1) q7 none 0 0) := Lib.hid HZ2.out
    have HBD : Hid (Below w.heap.size w w2.drew) := Lib.hid (HB2.out.trans ⟨rfl, rfl, rfl, Nat.le_refl _, fun _ _ => rfl⟩)
    refine wp_region_held_drew (S := (fun w' => CellsOk w' g 0 10 ∧ cellsAt w' g 0 10 = RA ∧ w'.cell? ⟨g, 11, none⟩ = some (.slice b4 r.2.length q4))) (by kernel_rfl) ?hs0 (fun hHeld => ?_)
    case hs0 => exact HCK.out _ HTD.out
    generalize w2.drew = wd at HTD HZD HBD hHeld ⊢
    refine' wpAnyH_take (i := 0) (oi := _) (v := _) rfl (by kernel_rfl) (by kernel_rfl) (by kernel_rfl) (fun _ _ _ h => h) (Or.inl ⟨by rfl, ?hy⟩) (by assumption) ?_
    case hy => (intro w hSw; (try dsimp only at hSw); (try simp only [List.getElem_toArray, List.getElem_cons_zero]); go_simp; try with_reducible rfl)
    try simp only [List.getElem_toArray, List.getElem_cons_zero, Act.put, List.setIfInBounds_toArray, List.set_cons_zero, List.set_cons_succ]
    refine' wpAnyH_take (i := 1) (oi := _) (v := _) rfl (by kernel_rfl) (by kernel_rfl) (by kernel_rfl) (fun _ _ _ h => h) (Or.inl ⟨by rfl, ?hy⟩) (by assumption) ?_
    case hy => (intro w hSw; (try dsimp only at hSw); (try simp only [List.getElem_toArray, List.getElem_cons_zero, List.getElem_cons_succ]); go_simp; try with_reducible rfl)
    try simp only [List.getElem_toArray, List.getElem_cons_zero, List.getElem_cons_succ, Act.put, List.setIfInBounds_toArray, List.set_cons_zero, List.set_cons_succ]
    refine' wpAnyH_take (i := 2) (oi := _) (v := _) rfl (by kernel_rfl) (by kernel_rfl) (by kernel_rfl) (fun _ _ _ h => h) (Or.inl ⟨by rfl, ?hy⟩) (by assumption) ?_
    case hy => (intro w hSw; (try dsimp only at hSw); (try simp only [List.getElem_toArray, List.getElem_cons_zero, List.getElem_cons_succ]); go_simp; try with_reducible rfl)
    try simp only [List.getElem_toArray, List.getElem_cons_zero, List.getElem_cons_succ, Act.put, List.setIfInBounds_toArray, List.set_cons_zero, List.set_cons_succ]
    refine' wpAnyH_take (i := 3) (oi := _) (v := _) rfl (by kernel_rfl) (by kernel_rfl) (by kernel_rfl) (fun _ _ _ h => h) (Or.inl ⟨by rfl, ?hy⟩) (by assumption) ?_
    case hy => (intro w hSw; (try dsimp only at hSw); (try simp only [List.getElem_toArray, List.getElem_cons_zero, List.getElem_cons_succ]); go_simp; try with_reducible rfl)
    try simp only [List.getElem_toArray, List.getElem_cons_zero, List.getElem_cons_succ, Act.put, List.setIfInBounds_toArray, List.set_cons_zero, List.set_cons_succ]
    refine' wpAnyH_take (i := 4) (oi := _) (v := _) rfl (by kernel_rfl) (by kernel_rfl) (by kernel_rfl) (fun _ _ _ h => h) (Or.inl ⟨by rfl, ?hy⟩) (by assumption) ?_
    case hy => (intro w hSw; (try dsimp only at hSw); (try simp only [List.getElem_toArray, List.getElem_cons_zero, List.getElem_cons_succ]); go_simp; try with_reducible rfl)
    try simp only [List.getElem_toArray, List.getElem_cons_zero, List.getElem_cons_succ, Act.put, List.setIfInBounds_toArray, List.set_cons_zero, List.set_cons_succ]
    refine' wpAnyH_take (i := 5) (oi := _) (v := _) rfl (by kernel_rfl) (by kernel_rfl) (by kernel_rfl) (fun _ _ _ h => h) (Or.inl ⟨by rfl, ?hy⟩) (by assumption) ?_
    case hy => (intro w hSw; (try dsimp only at hSw); (try simp only [List.getElem_toArray, List.getElem_cons_zero, List.getElem_cons_succ]); go_simp; try with_reducible rfl)
    try simp only [List.getElem_toArray, List.getElem_cons_zero, List.getElem_cons_succ, Act.put, List.setIfInBounds_toArray, List.set_cons_zero, List.set_cons_succ]
    refine' wpAnyH_take (i := 6) (oi := _) (v := _) rfl (by kernel_rfl) (by kernel_rfl) (by kernel_rfl) (fun _ _ _ h => h) (Or.inl ⟨by rfl, ?hy⟩) (by assumption) ?_
    case hy => (intro w hSw; (try dsimp only at hSw); (try simp only [List.getElem_toArray, List.getElem_cons_zero, List.getElem_cons_succ]); go_simp; try with_reducible rfl)
    try simp only [List.getElem_toArray, List.getElem_cons_zero, List.getElem_cons_succ, Act.put, List.setIfInBounds_toArray, List.set_cons_zero, List.set_cons_succ]
    refine' wpAnyH_take (i := 7) (oi := _) (v := _) rfl (by kernel_rfl) (by kernel_rfl) (by kernel_rfl) (fun _ _ _ h => h) (Or.inl ⟨by rfl, ?hy⟩) (by assumption) ?_
    case hy => (intro w hSw; (try dsimp only at hSw); (try simp only [List.getElem_toArray, List.getElem_cons_zero, List.getElem_cons_succ]); go_simp; try with_reducible rfl)
    try simp only [List.getElem_toArray, List.getElem_cons_zero, List.getElem_cons_succ, Act.put, List.setIfInBounds_toArray, List.set_cons_zero, List.set_cons_succ]
    refine wpAnyH_ready (rs := [8]) (by kernel_rfl) (by simp) ?_
    refine AllReadyH.cons (o := _) rfl (fun K hK => ?_) AllReadyH.nil
    try simp only [List.getElem_toArray, List.getElem_cons_zero, List.getElem_cons_succ, Act.put]
    refine step_store_row rfl 28 (.tmp 4) (.tmp 48) rfl (w.heap.size + 1) RA rfl rfl _ _ HZD.out HRI.out HRS.out HRO.out ?_
    have HTE := Lib.hid (HTD.out.setRow HZD.out (by have := HE0.out; omega) RA)
    refine hK.out _ _ ?hs1 (fun hHeld => ?_)
    case hs1 => exact HCK.out _ HTE.out
    clear hK K
    try simp only [Act.put]
    refine' wpAnyH_take (i := 9) (oi := _) (v := _) rfl (by kernel_rfl) (by kernel_rfl) (by kernel_rfl) (fun _ _ _ h => h) (Or.inl ⟨by rfl, ?hy⟩) (by assumption) ?_
    case hy => (intro w hSw; (try dsimp only at hSw); (try simp only [List.getElem_toArray, List.getElem_cons_zero, List.getElem_cons_succ]); go_simp; try with_reducible rfl)
    try simp only [List.getElem_toArray, List.getElem_cons_zero, List.getElem_cons_succ, Act.put, List.setIfInBounds_toArray, List.set_cons_zero, List.set_cons_succ]
    refine' wpAnyH_take (i := 10) (oi := _) (v := _) rfl (by kernel_rfl) (by kernel_rfl) (by kernel_rfl) (fun _ _ _ h => h) (Or.inl ⟨by rfl, ?hy⟩) (by assumption) ?_
    case hy => (intro w hSw; (try dsimp only at hSw); (try simp only [List.getElem_toArray, List.getElem_cons_zero, List.getElem_cons_succ]); go_simp; try with_reducible rfl)
    try simp only [List.getElem_toArray, List.getElem_cons_zero, List.getElem_cons_succ, Act.put, List.setIfInBounds_toArray, List.set_cons_zero, List.set_cons_succ]
    refine wpAnyH_done (by kernel_rfl) ?_ _
    go_wp2_with fail
    refine bodyPost_ret (end_tri rfl (w.heap.size + 1) _ _ _ _ HZD.out HRI.out rfl) rfl ?_
    rw [HEQ2.out]
    exact fin_S HTD.out HZD.out HBD.out (Nat.le_succ _) 0 RA HRA.out
  · obtain ⟨b3, hb3⟩ : ∃ b, decide (3 * s.every ≤ now - s.heard) = b := ⟨_, rfl⟩
    have HB3' := Lib.hid hb3
    clear hb3
    have c5 := HT2.out.cells.c5
    have l2 := HT2.out.lt
    go_wp2_with fail
    refine (ago_any B g s a2 n q2 now none 0 [] s.heard 3 b3 HB3'.out _ HT2.out (by omega) HNW.out HPT.out.2.2.1 HPT.out.2.1).mono ?_
    rintro e w3 ⟨rfl, hb⟩
    have HT3 := Lib.hid (HT2.out.later hb)
    have HG3 := Lib.hid (HG2.out.later hb)
    have HZ3 := Lib.hid (HZ2.out.later hb)
    have HB3 := Lib.hid (HB2.out.trans (hb.mono HB2.out.size))
    clear hb HT2 HG2 HZ2 HB2 c5 l2 d0
    have HN0 : Hid (¬ s.state = 0) := Lib.hid (by simpa using HB0.out)
    have HGZ : Hid (w.heap.size + 1 ≠ g ∧ w.heap.size ≤ g) := Lib.hid (by have h1 := HT3.out.lo; have h2 := HE0.out; omega)
    cases b3
    rotate_left
    · obtain ⟨r, hr⟩ : ∃ r : Se × List Msg.Ms, ({s with state := 0}, []) = r := ⟨_, rfl⟩
      have HEQ2 : Hid (tick s now = (r.1, r.2, 0)) := Lib.hid (by rw [HTN.out, if_neg HN0.out, if_pos (of_decide_eq_true HB3'.out), ← hr])
      have c0 := HT3.out.cells.c0
      have f0 := HT3.out.frz 0
      have l3 := HT3.out.lt
      go_upto_region 9 with fail
      obtain ⟨b4, q4, ht⟩ : ∃ b4 q4, Tk (w3.setCell ⟨g, 0, none⟩ (.int .i64 0)) B g r.1 a2 n q2 now b4 q4 r.2 := ⟨none, 0, by rw [← hr]; exact HT3.out.set 0 (.int .i64 0) {s with state := 0} rfl rfl⟩
      have HT4 := Lib.hid ht
      have HZ4 := Lib.hid (HZ3.out.cell (j := 0) HGZ.out.1 (.int .i64 0))
      have HB4 := Lib.hid (set_below (j := 0) (v := .int .i64 0) HB3.out HGZ.out.2)
      generalize w3.setCell ⟨g, 0, none⟩ (.int .i64 0) = w4 at HT4 HZ4 HB4 ⊢
      clear ht hr c0 f0 l3 HT3 HZ3 HB3
      obtain ⟨RA, hRA⟩ : ∃ X, r.1.arr a2 n q2 = X := ⟨_, rfl⟩
      have HRA := Lib.hid hRA
      have HRI : Hid ((Try.prog.info? 28).map (·.size) = some RA.size) := Lib.hid (hRA ▸ arr_info _ _ _ _)
      have HRS : Hid ((q7.arr none 0 0).size = RA.size) := Lib.hid (hRA ▸ rfl)
      have HRO : Hid (RA.all (·.oneCell') = true) := Lib.hid (hRA ▸ arr_one _ _ _ _)
      clear hRA
      have HCK : Hid (∀ W : World, Tk W B g r.1 a2 n q2 now b4 q4 r.2 → CellsOk W g 0 10 ∧ cellsAt W g 0 10 = RA ∧ W.cell? ⟨g, 11, none⟩ = some (.slice b4 r.2.length q4)) := Lib.hid fun W h => by
        have h1 := CellsOk.of h.range
        rw [HRA.out] at h1
        have h2 : RA.size = 10 := by rw [← HRA.out]; rfl
        rw [h2] at h1
        exact ⟨h1.1, h1.2, h.cells.c11⟩
      have HTD := Lib.hid HT4.out.drew
      have HZD : Hid (SeAt w4.drew (w.heap.size + 1) q7 none 0 0) := Lib.hid HZ4.out
      have HBD : Hid (Below w.heap.size w w4.drew) := Lib.hid (HB4.out.trans ⟨rfl, rfl, rfl, Nat.le_refl _, fun _ _ => rfl⟩)
      refine wp_region_held_drew (S := (fun w' => CellsOk w' g 0 10 ∧ cellsAt w' g 0 10 = RA ∧ w'.cell? ⟨g, 11, none⟩ = some (.slice b4 r.2.length q4))) (by kernel_rfl) ?hs0 (fun hHeld => ?_)
      case hs0 => exact HCK.out _ HTD.out
      generalize w4.drew = wd at HTD HZD HBD hHeld ⊢
      refine' wpAnyH_take (i := 0) (oi := _) (v := _) rfl (by kernel_rfl) (by kernel_rfl) (by kernel_rfl) (fun _ _ _ h => h) (Or.inl ⟨by rfl, ?hy⟩) (by assumption) ?_
      case hy => (intro w hSw; (try dsimp only at hSw); (try simp only [List.getElem_toArray, List.getElem_cons_zero]); go_simp; try with_reducible rfl)
      try simp only [List.getElem_toArray, List.getElem_cons_zero, Act.put, List.setIfInBounds_toArray, List.set_cons_zero, List.set_cons_succ]
      refine' wpAnyH_take (i := 1) (oi := _) (v := _) rfl (by kernel_rfl) (by kernel_rfl) (by kernel_rfl) (fun _ _ _ h => h) (Or.inl ⟨by rfl, ?hy⟩) (by assumption) ?_
      case hy => (intro w hSw; (try dsimp only at hSw); (try simp only [List.getElem_toArray, List.getElem_cons_zero, List.getElem_cons_succ]); go_simp; try with_reducible rfl)
      try simp only [List.getElem_toArray, List.getElem_cons_zero, List.getElem_cons_succ, Act.put, List.setIfInBounds_toArray, List.set_cons_zero, List.set_cons_succ]
      refine' wpAnyH_take (i := 2) (oi := _) (v := _) rfl (by kernel_rfl) (by kernel_rfl) (by kernel_rfl) (fun _ _ _ h => h) (Or.inl ⟨by rfl, ?hy⟩) (by assumption) ?_
      case hy => (intro w hSw; (try dsimp only at hSw); (try simp only [List.getElem_toArray, List.getElem_cons_zero, List.getElem_cons_succ]); go_simp; try with_reducible rfl)
      try simp only [List.getElem_toArray, List.getElem_cons_zero, List.getElem_cons_succ, Act.put, List.setIfInBounds_toArray, List.set_cons_zero, List.set_cons_succ]
      refine' wpAnyH_take (i := 3) (oi := _) (v := _) rfl (by kernel_rfl) (by kernel_rfl) (by kernel_rfl) (fun _ _ _ h => h) (Or.inl ⟨by rfl, ?hy⟩) (by assumption) ?_
      case hy => (intro w hSw; (try dsimp only at hSw); (try simp only [List.getElem_toArray, List.getElem_cons_zero, List.getElem_cons_succ]); go_simp; try with_reducible rfl)
      try simp only [List.getElem_toArray, List.getElem_cons_zero, List.getElem_cons_succ, Act.put, List.setIfInBounds_toArray, List.set_cons_zero, List.set_cons_succ]
      refine' wpAnyH_take (i := 4) (oi := _) (v := _) rfl (by kernel_rfl) (by kernel_rfl) (by kernel_rfl) (fun _ _ _ h => h) (Or.inl ⟨by rfl, ?hy⟩) (by assumption) ?_
      case hy => (intro w hSw; (try dsimp only at hSw); (try simp only [List.getElem_toArray, List.getElem_cons_zero, List.getElem_cons_succ]); go_simp; try with_reducible rfl)
      try simp only [List.getElem_toArray, List.getElem_cons_zero, List.getElem_cons_succ, Act.put, List.setIfInBounds_toArray, List.set_cons_zero, List.set_cons_succ]
      refine' wpAnyH_take (i := 5) (oi := _) (v := _) rfl (by kernel_rfl) (by kernel_rfl) (by kernel_rfl) (fun _ _ _ h => h) (Or.inl ⟨by rfl, ?hy⟩) (by assumption) ?_
      case hy => (intro w hSw; (try dsimp only at hSw); (try simp only [List.getElem_toArray, List.getElem_cons_zero, List.getElem_cons_succ]); go_simp; try with_reducible rfl)
      try simp only [List.getElem_toArray, List.getElem_cons_zero, List.getElem_cons_succ, Act.put, List.setIfInBounds_toArray, List.set_cons_zero, List.set_cons_succ]
      refine' wpAnyH_take (i := 6) (oi := _) (v := _) rfl (by kernel_rfl) (by kernel_rfl) (by kernel_rfl) (fun _ _ _ h => h) (Or.inl ⟨by rfl, ?hy⟩) (by assumption) ?_
      case hy => (intro w hSw; (try dsimp only at hSw); (try simp only [List.getElem_toArray, List.getElem_cons_zero, List.getElem_cons_succ]); go_simp; try with_reducible rfl)
      try simp only [List.getElem_toArray, List.getElem_cons_zero, List.getElem_cons_succ, Act.put, List.setIfInBounds_toArray, List.set_cons_zero, List.set_cons_succ]
      refine' wpAnyH_take (i := 7) (oi := _) (v := _) rfl (by kernel_rfl) (by kernel_rfl) (by kernel_rfl) (fun _ _ _ h => h) (Or.inl ⟨by rfl, ?hy⟩) (by assumption) ?_
      case hy => (intro w hSw; (try dsimp only at hSw); (try simp only [List.getElem_toArray, List.getElem_cons_zero, List.getElem_cons_succ]); go_simp; try with_reducible rfl)
      try simp only [List.getElem_toArray, List.getElem_cons_zero, List.getElem_cons_succ, Act.put, List.setIfInBounds_toArray, List.set_cons_zero, List.set_cons_succ]
      refine wpAnyH_ready (rs := [8]) (by kernel_rfl) (by simp) ?_
      refine AllReadyH.cons (o := _) rfl (fun K hK => ?_) AllReadyH.nil
      try simp only [List.getElem_toArray, List.getElem_cons_zero, List.getElem_cons_succ, Act.put]
      refine step_store_row rfl 28 (.tmp 4) (.tmp 48) rfl (w.heap.size + 1) RA rfl rfl _ _ HZD.out HRI.out HRS.out HRO.out ?_
      have HTE := Lib.hid (HTD.out.setRow HZD.out (by have := HE0.out; omega) RA)
      refine hK.out _ _ ?hs1 (fun hHeld => ?_)
      case hs1 => exact HCK.out _ HTE.out
      clear hK K
      try simp only [Act.put]
      refine' wpAnyH_take (i := 9) (oi := _) (v := _) rfl (by kernel_rfl) (by kernel_rfl) (by kernel_rfl) (fun _ _ _ h => h) (Or.inl ⟨by rfl, ?hy⟩) (by assumption) ?_
      case hy => (intro w hSw; (try dsimp only at hSw); (try simp only [List.getElem_toArray, List.getElem_cons_zero, List.getElem_cons_succ]); go_simp; try with_reducible rfl)
      try simp only [List.getElem_toArray, List.getElem_cons_zero, List.getElem_cons_succ, Act.put, List.setIfInBounds_toArray, List.set_cons_zero, List.set_cons_succ]
      refine' wpAnyH_take (i := 10) (oi := _) (v := _) rfl (by kernel_rfl) (by kernel_rfl) (by kernel_rfl) (fun _ _ _ h => h) (Or.inl ⟨by rfl, ?hy⟩) (by assumption) ?_
      case hy => (intro w hSw; (try dsimp only at hSw); (try simp only [List.getElem_toArray, List.getElem_cons_zero, List.getElem_cons_succ]); go_simp; try with_reducible rfl)
      try simp only [List.getElem_toArray, List.getElem_cons_zero, List.getElem_cons_succ, Act.put, List.setIfInBounds_toArray, List.set_cons_zero, List.set_cons_succ]
      refine wpAnyH_done (by kernel_rfl) ?_ _
      go_wp2_with fail
      refine bodyPost_ret (end_tri rfl (w.heap.size + 1) _ _ _ _ HZD.out HRI.out rfl) rfl ?_
      rw [HEQ2.out]
      exact fin_S HTD.out HZD.out HBD.out (Nat.le_succ _) 0 RA HRA.out
    · have HN3 : Hid (¬ 3 * s.every ≤ now - s.heard) := Lib.hid (of_decide_eq_false HB3'.out)
      have d0 := HG3.out.cells.c0
      obtain ⟨b2, hb2⟩ : ∃ b, (s.state == 2) = b := ⟨_, rfl⟩
      have HB2 := Lib.hid hb2
      cases b2
      · obtain ⟨r, hr⟩ : ∃ r : Se × List Msg.Ms, (s, []) = r := ⟨_, rfl⟩
        have HEQ2 : Hid (tick s now = (r.1, r.2, 0)) := Lib.hid (by
          have h2 : ¬ s.state = 2 := by simpa using HB2.out
          have h1 := HPT.out.2.2.2.2.2
          have h0 := HN0.out
          rw [HTN.out, if_neg h0, if_neg HN3.out, if_pos (by omega), ← hr])
        obtain ⟨b4, q4, ht⟩ : ∃ b4 q4, Tk w3 B g r.1 a2 n q2 now b4 q4 r.2 := ⟨none, 0, by rw [← hr]; exact HT3.out⟩
        have HT4 := Lib.hid ht
        clear ht hr
        go_upto_region 9 with fail
        obtain ⟨RA, hRA⟩ : ∃ X, r.1.arr a2 n q2 = X := ⟨_, rfl⟩
        have HRA := Lib.hid hRA
        have HRI : Hid ((Try.prog.info? 28).map (·.size) = some RA.size) := Lib.hid (hRA ▸ arr_info _ _ _ _)
        have HRS : Hid ((q7.arr none 0 0).size = RA.size) := Lib.hid (hRA ▸ rfl)
        have HRO : Hid (RA.all (·.oneCell') = true) := Lib.hid (hRA ▸ arr_one _ _ _ _)
        clear hRA
        have HCK : Hid (∀ W : World, Tk W B g r.1 a2 n q2 now b4 q4 r.2 → CellsOk W g 0 10 ∧ cellsAt W g 0 10 = RA ∧ W.cell? ⟨g, 11, none⟩ = some (.slice b4 r.2.length q4)) := Lib.hid fun W h => by
          have h1 := CellsOk.of h.range
          rw [HRA.out] at h1
          have h2 : RA.size = 10 := by rw [← HRA.out]; rfl
          rw [h2] at h1
          exact ⟨h1.1, h1.2, h.cells.c11⟩
        have HTD := Lib.hid HT4.out.drew
        have HZD : Hid (SeAt w3.drew (w.heap.size + 1) q7 none 0 0) := Lib.hid HZ3.out
        have HBD : Hid (Below w.heap.size w w3.drew) := Lib.hid (HB3.out.trans ⟨rfl, rfl, rfl, Nat.le_refl _, fun _ _ => rfl⟩)
        refine wp_region_held_drew (S := (fun w' => CellsOk w' g 0 10 ∧ cellsAt w' g 0 10 = RA ∧ w'.cell? ⟨g, 11, none⟩ = some (.slice b4 r.2.length q4))) (by kernel_rfl) ?hs0 (fun hHeld => ?_)
        case hs0 => exact HCK.out _ HTD.out
        generalize w3.drew = wd at HTD HZD HBD hHeld ⊢
        refine' wpAnyH_take (i := 0) (oi := _) (v := _) rfl (by kernel_rfl) (by kernel_rfl) (by kernel_rfl) (fun _ _ _ h => h) (Or.inl ⟨by rfl, ?hy⟩) (by assumption) ?_
        case hy => (intro w hSw; (try dsimp only at hSw); (try simp only [List.getElem_toArray, List.getElem_cons_zero]); go_simp; try with_reducible rfl)
        try simp only [List.getElem_toArray, List.getElem_cons_zero, Act.put, List.setIfInBounds_toArray, List.set_cons_zero, List.set_cons_succ]
        refine' wpAnyH_take (i := 1) (oi := _) (v := _) rfl (by kernel_rfl) (by kernel_rfl) (by kernel_rfl) (fun _ _ _ h => h) (Or.inl ⟨by rfl, ?hy⟩) (by assumption) ?_
        case hy => (intro w hSw; (try dsimp only at hSw); (try simp only [List.getElem_toArray, List.getElem_cons_zero, List.getElem_cons_succ]); go_simp; try with_reducible rfl)
        try simp only [List.getElem_toArray, List.getElem_cons_zero, List.getElem_cons_succ, Act.put, List.setIfInBounds_toArray, List.set_cons_zero, List.set_cons_succ]
        refine' wpAnyH_take (i := 2) (oi := _) (v := _) rfl (by kernel_rfl) (by kernel_rfl) (by kernel_rfl) (fun _ _ _ h => h) (Or.inl ⟨by rfl, ?hy⟩) (by assumption) ?_
        case hy => (intro w hSw; (try dsimp only at hSw); (try simp only [List.getElem_toArray, List.getElem_cons_zero, List.getElem_cons_succ]); go_simp; try with_reducible rfl)
        try simp only [List.getElem_toArray, List.getElem_cons_zero, List.getElem_cons_succ, Act.put, List.setIfInBounds_toArray, List.set_cons_zero, List.set_cons_succ]
        refine' wpAnyH_take (i := 3) (oi := _) (v := _) rfl (by kernel_rfl) (by kernel_rfl) (by kernel_rfl) (fun _ _ _ h => h) (Or.inl ⟨by rfl, ?hy⟩) (by assumption) ?_
        case hy => (intro w hSw; (try dsimp only at hSw); (try simp only [List.getElem_toArray, List.getElem_cons_zero, List.getElem_cons_succ]); go_simp; try with_reducible rfl)
        try simp only [List.getElem_toArray, List.getElem_cons_zero, List.getElem_cons_succ, Act.put, List.setIfInBounds_toArray, List.set_cons_zero, List.set_cons_succ]
        refine' wpAnyH_take (i := 4) (oi := _) (v := _) rfl (by kernel_rfl) (by kernel_rfl) (by kernel_rfl) (fun _ _ _ h => h) (Or.inl ⟨by rfl, ?hy⟩) (by assumption) ?_
        case hy => (intro w hSw; (try dsimp only at hSw); (try simp only [List.getElem_toArray, List.getElem_cons_zero, List.getElem_cons_succ]); go_simp; try with_reducible rfl)
        try simp only [List.getElem_toArray, List.getElem_cons_zero, List.getElem_cons_succ, Act.put, List.setIfInBounds_toArray, List.set_cons_zero, List.set_cons_succ]
        refine' wpAnyH_take (i := 5) (oi := _) (v := _) rfl (by kernel_rfl) (by kernel_rfl) (by kernel_rfl) (fun _ _ _ h => h) (Or.inl ⟨by rfl, ?hy⟩) (by assumption) ?_
        case hy => (intro w hSw; (try dsimp only at hSw); (try simp only [List.getElem_toArray, List.getElem_cons_zero, List.getElem_cons_succ]); go_simp; try with_reducible rfl)
        try simp only [List.getElem_toArray, List.getElem_cons_zero, List.getElem_cons_succ, Act.put, List.setIfInBounds_toArray, List.set_cons_zero, List.set_cons_succ]
        refine' wpAnyH_take (i := 6) (oi := _) (v := _) rfl (by kernel_rfl) (by kernel_rfl) (by kernel_rfl) (fun _ _ _ h => h) (Or.inl ⟨by rfl, ?hy⟩) (by assumption) ?_
        case hy => (intro w hSw; (try dsimp only at hSw); (try simp only [List.getElem_toArray, List.getElem_cons_zero, List.getElem_cons_succ]); go_simp; try with_reducible rfl)
        try simp only [List.getElem_toArray, List.getElem_cons_zero, List.getElem_cons_succ, Act.put, List.setIfInBounds_toArray, List.set_cons_zero, List.set_cons_succ]
        refine' wpAnyH_take (i := 7) (oi := _) (v := _) rfl (by kernel_rfl) (by kernel_rfl) (by kernel_rfl) (fun _ _ _ h => h) (Or.inl ⟨by rfl, ?hy⟩) (by assumption) ?_
        case hy => (intro w hSw; (try dsimp only at hSw); (try simp only [List.getElem_toArray, List.getElem_cons_zero, List.getElem_cons_succ]); go_simp; try with_reducible rfl)
        try simp only [List.getElem_toArray, List.getElem_cons_zero, List.getElem_cons_succ, Act.put, List.setIfInBounds_toArray, List.set_cons_zero, List.set_cons_succ]
        refine wpAnyH_ready (rs := [8]) (by kernel_rfl) (by simp) ?_
        refine AllReadyH.cons (o := _) rfl (fun K hK => ?_) AllReadyH.nil
        try simp only [List.getElem_toArray, List.getElem_cons_zero, List.getElem_cons_succ, Act.put]
        refine step_store_row rfl 28 (.tmp 4) (.tmp 48) rfl (w.heap.size + 1) RA rfl rfl _ _ HZD.out HRI.out HRS.out HRO.out ?_
        have HTE := Lib.hid (HTD.out.setRow HZD.out (by have := HE0.out; omega) RA)
        refine hK.out _ _ ?hs1 (fun hHeld => ?_)
        case hs1 => exact HCK.out _ HTE.out
        clear hK K
        try simp only [Act.put]
        refine' wpAnyH_take (i := 9) (oi := _) (v := _) rfl (by kernel_rfl) (by kernel_rfl) (by kernel_rfl) (fun _ _ _ h => h) (Or.inl ⟨by rfl, ?hy⟩) (by assumption) ?_
        case hy => (intro w hSw; (try dsimp only at hSw); (try simp only [List.getElem_toArray, List.getElem_cons_zero, List.getElem_cons_succ]); go_simp; try with_reducible rfl)
        try simp only [List.getElem_toArray, List.getElem_cons_zero, List.getElem_cons_succ, Act.put, List.setIfInBounds_toArray, List.set_cons_zero, List.set_cons_succ]
        refine' wpAnyH_take (i := 10) (oi := _) (v := _) rfl (by kernel_rfl) (by kernel_rfl) (by kernel_rfl) (fun _ _ _ h => h) (Or.inl ⟨by rfl, ?hy⟩) (by assumption) ?_
        case hy => (intro w hSw; (try dsimp only at hSw); (try simp only [List.getElem_toArray, List.getElem_cons_zero, List.getElem_cons_succ]); go_simp; try with_reducible rfl)
        try simp only [List.getElem_toArray, List.getElem_cons_zero, List.getElem_cons_succ, Act.put, List.setIfInBounds_toArray, List.set_cons_zero, List.set_cons_succ]
        refine wpAnyH_done (by kernel_rfl) ?_ _
        go_wp2_with fail
        refine bodyPost_ret (end_tri rfl (w.heap.size + 1) _ _ _ _ HZD.out HRI.out rfl) rfl ?_
        rw [HEQ2.out]
        exact fin_S HTD.out HZD.out HBD.out (Nat.le_succ _) 0 RA HRA.out
      · obtain ⟨x1, e1⟩ : ∃ x, waitA s [] now = x := ⟨_, rfl⟩
        obtain ⟨x2, e2⟩ : ∃ x, waitB x1.1 x1.2 now = x := ⟨_, rfl⟩
        obtain ⟨r, e3⟩ : ∃ x, waitC x2.1 x2.2 now = x := ⟨_, rfl⟩
        have HX1 := Lib.hid e1
        have HX2 := Lib.hid e2
        have HX3 := Lib.hid e3
        have HS2 : Hid (s.state = 2) := Lib.hid (by simpa using HB2.out)
        have HEQ2 : Hid (tick s now = (r.1, r.2, 0)) := Lib.hid (tick_wait HBR.out HBT.out HS2.out HN3.out x1 x2 r e1 e2 e3)
        clear e1 e2 e3
        go_wp2_with fail
        refine (waitA_cut B g s a2 n q2 now none 0 [] _ HT3.out HPT.out.2.2.2.2.1 HS2.out (by simp) HPT.out.1 HPT.out.2.1 HNW.out HPT.out.2.2.1 HPT.out.2.2.2.1 (HPL.out.below HB3.out) x1 x2 r HX1.out HX2.out HX3.out).mono ?_
        rintro e w4 ⟨rfl, ⟨b4, q4, ht⟩, hb⟩
        have HT4 := Lib.hid ht
        have HZ4 := Lib.hid (HZ3.out.below hb (by have := HE0.out; omega))
        have HB4 := Lib.hid (HB3.out.trans (hb.mono (by have := HE0.out; omega)))
        clear ht hb HT3 HZ3 HB3 d0
        go_upto_region 9 with fail
        obtain ⟨RA, hRA⟩ : ∃ X, r.1.arr a2 n q2 = X := ⟨_, rfl⟩
        have HRA := Lib.hid hRA
        have HRI : Hid ((Try.prog.info? 28).map (·.size) = some RA.size) := Lib.hid (hRA ▸ arr_info _ _ _ _)
        have HRS : Hid ((q7.arr none 0 0).size = RA.size) := Lib.hid (hRA ▸ rfl)
        have HRO : Hid (RA.all (·.oneCell') = true) := Lib.hid (hRA ▸ arr_one _ _ _ _)
        clear hRA
        have HCK : Hid (∀ W : World, Tk W B g r.1 a2 n q2 now b4 q4 r.2 → CellsOk W g 0 10 ∧ cellsAt W g 0 10 = RA ∧ W.cell? ⟨g, 11, none⟩ = some (.slice b4 r.2.length q4)) := Lib.hid fun W h => by
          have h1 := CellsOk.of h.range
          rw [HRA.out] at h1
          have h2 : RA.size = 10 := by rw [← HRA.out]; rfl
          rw [h2] at h1
          exact ⟨h1.1, h1.2, h.cells.c11⟩
        have HTD := Lib.hid HT4.out.drew
        have HZD : Hid (SeAt w4.drew (w.heap.size + 1) q7 none 0 0) := Lib.hid HZ4.out
        have HBD : Hid (Below w.heap.size w w4.drew) := Lib.hid (HB4.out.trans ⟨rfl, rfl, rfl, Nat.le_refl _, fun _ _ => rfl⟩)
        refine wp_region_held_drew (S := (fun w' => CellsOk w' g 0 10 ∧ cellsAt w' g 0 10 = RA ∧ w'.cell? ⟨g, 11, none⟩ = some (.slice b4 r.2.length q4))) (by kernel_rfl) ?hs0 (fun hHeld => ?_)
        case hs0 => exact HCK.out _ HTD.out
        generalize w4.drew = wd at HTD HZD HBD hHeld ⊢
        refine' wpAnyH_take (i := 0) (oi := _) (v := _) rfl (by kernel_rfl) (by kernel_rfl) (by kernel_rfl) (fun _ _ _ h => h) (Or.inl ⟨by rfl, ?hy⟩) (by assumption) ?_
        case hy => (intro w hSw; (try dsimp only at hSw); (try simp only [List.getElem_toArray, List.getElem_cons_zero]); go_simp; try with_reducible rfl)
        try simp only [List.getElem_toArray, List.getElem_cons_zero, Act.put, List.setIfInBounds_toArray, List.set_cons_zero, List.set_cons_succ]
        refine' wpAnyH_take (i := 1) (oi := _) (v := _) rfl (by kernel_rfl) (by kernel_rfl) (by kernel_rfl) (fun _ _ _ h => h) (Or.inl ⟨by rfl, ?hy⟩) (by assumption) ?_
        case hy => (intro w hSw; (try dsimp only at hSw); (try simp only [List.getElem_toArray, List.getElem_cons_zero, List.getElem_cons_succ]); go_simp; try with_reducible rfl)
        try simp only [List.getElem_toArray, List.getElem_cons_zero, List.getElem_cons_succ, Act.put, List.setIfInBounds_toArray, List.set_cons_zero, List.set_cons_succ]
        refine' wpAnyH_take (i := 2) (oi := _) (v := _) rfl (by kernel_rfl) (by kernel_rfl) (by kernel_rfl) (fun _ _ _ h => h) (Or.inl ⟨by rfl, ?hy⟩) (by assumption) ?_
        case hy => (intro w hSw; (try dsimp only at hSw); (try simp only [List.getElem_toArray, List.getElem_cons_zero, List.getElem_cons_succ]); go_simp; try with_reducible rfl)
        try simp only [List.getElem_toArray, List.getElem_cons_zero, List.getElem_cons_succ, Act.put, List.setIfInBounds_toArray, List.set_cons_zero, List.set_cons_succ]
        refine' wpAnyH_take (i := 3) (oi := _) (v := _) rfl (by kernel_rfl) (by kernel_rfl) (by kernel_rfl) (fun _ _ _ h => h) (Or.inl ⟨by rfl, ?hy⟩) (by assumption) ?_
        case hy => (intro w hSw; (try dsimp only at hSw); (try simp only [List.getElem_toArray, List.getElem_cons_zero, List.getElem_cons_succ]); go_simp; try with_reducible rfl)
        try simp only [List.getElem_toArray, List.getElem_cons_zero, List.getElem_cons_succ, Act.put, List.setIfInBounds_toArray, List.set_cons_zero, List.set_cons_succ]
        refine' wpAnyH_take (i := 4) (oi := _) (v := _) rfl (by kernel_rfl) (by kernel_rfl) (by kernel_rfl) (fun _ _ _ h => h) (Or.inl ⟨by rfl, ?hy⟩) (by assumption) ?_
        case hy => (intro w hSw; (try dsimp only at hSw); (try simp only [List.getElem_toArray, List.getElem_cons_zero, List.getElem_cons_succ]); go_simp; try with_reducible rfl)
        try simp only [List.getElem_toArray, List.getElem_cons_zero, List.getElem_cons_succ, Act.put, List.setIfInBounds_toArray, List.set_cons_zero, List.set_cons_succ]
        refine' wpAnyH_take (i := 5) (oi := _) (v := _) rfl (by kernel_rfl) (by kernel_rfl) (by kernel_rfl) (fun _ _ _ h => h) (Or.inl ⟨by rfl, ?hy⟩) (by assumption) ?_
        case hy => (intro w hSw; (try dsimp only at hSw); (try simp only [List.getElem_toArray, List.getElem_cons_zero, List.getElem_cons_succ]); go_simp; try with_reducible rfl)
        try simp only [List.getElem_toArray, List.getElem_cons_zero, List.getElem_cons_succ, Act.put, List.setIfInBounds_toArray, List.set_cons_zero, List.set_cons_succ]
        refine' wpAnyH_take (i := 6) (oi := _) (v := _) rfl (by kernel_rfl) (by kernel_rfl) (by kernel_rfl) (fun _ _ _ h => h) (Or.inl ⟨by rfl, ?hy⟩) (by assumption) ?_
        case hy => (intro w hSw; (try dsimp only at hSw); (try simp only [List.getElem_toArray, List.getElem_cons_zero, List.getElem_cons_succ]); go_simp; try with_reducible rfl)
        try simp only [List.getElem_toArray, List.getElem_cons_zero, List.getElem_cons_succ, Act.put, List.setIfInBounds_toArray, List.set_cons_zero, List.set_cons_succ]
        refine' wpAnyH_take (i := 7) (oi := _) (v := _) rfl (by kernel_rfl) (by kernel_rfl) (by kernel_rfl) (fun _ _ _ h => h) (Or.inl ⟨by rfl, ?hy⟩) (by assumption) ?_
        case hy => (intro w hSw; (try dsimp only at hSw); (try simp only [List.getElem_toArray, List.getElem_cons_zero, List.getElem_cons_succ]); go_simp; try with_reducible rfl)
        try simp only [List.getElem_toArray, List.getElem_cons_zero, List.getElem_cons_succ, Act.put, List.setIfInBounds_toArray, List.set_cons_zero, List.set_cons_succ]
        refine wpAnyH_ready (rs := [8]) (by kernel_rfl) (by simp) ?_
        refine AllReadyH.cons (o := _) rfl (fun K hK => ?_) AllReadyH.nil
        try simp only [List.getElem_toArray, List.getElem_cons_zero, List.getElem_cons_succ, Act.put]
        refine step_store_row rfl 28 (.tmp 4) (.tmp 48) rfl (w.heap.size + 1) RA rfl rfl _ _ HZD.out HRI.out HRS.out HRO.out ?_
        have HTE := Lib.hid (HTD.out.setRow HZD.out (by have := HE0.out; omega) RA)
        refine hK.out _ _ ?hs1 (fun hHeld => ?_)
        case hs1 => exact HCK.out _ HTE.out
        clear hK K
        try simp only [Act.put]
        refine' wpAnyH_take (i := 9) (oi := _) (v := _) rfl (by kernel_rfl) (by kernel_rfl) (by kernel_rfl) (fun _ _ _ h => h) (Or.inl ⟨by rfl, ?hy⟩) (by assumption) ?_
        case hy => (intro w hSw; (try dsimp only at hSw); (try simp only [List.getElem_toArray, List.getElem_cons_zero, List.getElem_cons_succ]); go_simp; try with_reducible rfl)
        try simp only [List.getElem_toArray, List.getElem_cons_zero, List.getElem_cons_succ, Act.put, List.setIfInBounds_toArray, List.set_cons_zero, List.set_cons_succ]
        refine' wpAnyH_take (i := 10) (oi := _) (v := _) rfl (by kernel_rfl) (by kernel_rfl) (by kernel_rfl) (fun _ _ _ h => h) (Or.inl ⟨by rfl, ?hy⟩) (by assumption) ?_
        case hy => (intro w hSw; (try dsimp only at hSw); (try simp only [List.getElem_toArray, List.getElem_cons_zero, List.getElem_cons_succ]); go_simp; try with_reducible rfl)
        try simp only [List.getElem_toArray, List.getElem_cons_zero, List.getElem_cons_succ, Act.put, List.setIfInBounds_toArray, List.set_cons_zero, List.set_cons_succ]
        refine wpAnyH_done (by kernel_rfl) ?_ _
        go_wp2_with fail
        refine bodyPost_ret (end_tri rfl (w.heap.size + 1) _ _ _ _ HZD.out HRI.out rfl) rfl ?_
        rw [HEQ2.out]
        exact fin_S HTD.out HZD.out HBD.out (Nat.le_succ _) 0 RA HRA.out
end Ses
end Go.Proofs.Ytnmmokdkngccjaa

namespace Go.Proofs.Ytnmmokdkngccjaa
open Go.RowKit
namespace Ses
open Num
open Msg (I64 alloc_below2 results_row_one)

set_option maxRecDepth 100000 in
set_option maxHeartbeats 8000000 in
theorem new_any (e : Int) (w : World) (_hl : Laid w) : Calls Try.prog 8 #[.int .i64 e] w (GotN w (newS e)) := by
  have HM : Hid (newS e = if 0 < e ∧ e ≤ 1048576 then (⟨0, ⟨1, []⟩, 1, e, 0, 0, 0, 0, false⟩, 0) else (⟨0, ⟨0, []⟩, 0, 0, 0, 0, 0, 0, false⟩, 1)) := Lib.hid rfl
  go_enter Try.func8, Try.ntmps8
  go_upto_region 1 with fail
  have HZ0 : Hid (SeAt (w.alloc (.cells (#[.int .i64 0, .int .i64 0, .slice none 0 0, .int .i64 0, .int .i64 0, .int .i64 0, .int .i64 0, .int .i64 0, .int .i64 0, .bool false]) 28)) w.heap.size q7 none 0 0) := Lib.hid (heap_alloc_new w _)
  have HB0 : Hid (Below w.heap.size w (w.alloc (.cells (#[.int .i64 0, .int .i64 0, .slice none 0 0, .int .i64 0, .int .i64 0, .int .i64 0, .int .i64 0, .int .i64 0, .int .i64 0, .bool false]) 28))) := Lib.hid ((Below.refl _ _).alloc (Nat.le_refl _) _)
  generalize w.alloc (.cells (#[.int .i64 0, .int .i64 0, .slice none 0 0, .int .i64 0, .int .i64 0, .int .i64 0, .int .i64 0, .int .i64 0, .int .i64 0, .bool false]) 28) = w0 at HZ0 HB0 ⊢
  obtain ⟨b, hb⟩ : ∃ b, everyB e = b := ⟨_, rfl⟩
  have HEV := Lib.hid hb
  go_wp2_with fail
  refine (every_any e _).mono ?_
  rintro _ w0 ⟨rfl, rfl⟩
  rw [hb]
  clear hb
  cases b
  · go_wp2_with (refine wpList_store_row rfl 28 _ _ rfl w.heap.size (#[.int .i64 0, .int .i64 0, .slice none 0 0, .int .i64 0, .int .i64 0, .int .i64 0, .int .i64 0, .int .i64 0, .int .i64 0, .bool false]) rfl rfl _ _ HZ0.out (arr_info q7 none 0 0) rfl (arr_one q7 none 0 0) ?_)
    refine bodyPost_ret (results_row_tmp rfl _ _ _ w.heap.size 28 _ (0, 0) _ rfl (setRow_heap w0 _ _ _ _ _ HZ0.out) Try.underlying28 rfl (arr_info q7 none 0 0)) rfl ?_
    have h : newS e = (q7, 1) := by
      rw [HM.out, if_neg]
      · rfl
      · intro h
        have := HEV.out
        unfold everyB at this
        simp at this
        omega
    rw [h]
    exact ⟨none, 0, rfl, .inl ⟨rfl, rfl, rfl⟩, below_setRow HB0.out (Nat.le_refl _) _⟩
  · go_wp2_with (refine wpList_store_row rfl 28 _ _ rfl w.heap.size (#[.int .i64 0, .int .i64 1, .slice none 0 0, .int .i64 1, .int .i64 e, .int .i64 0, .int .i64 0, .int .i64 0, .int .i64 0, .bool false]) rfl rfl _ _ HZ0.out (arr_info ⟨0, ⟨1, []⟩, 1, e, 0, 0, 0, 0, false⟩ none 0 0) rfl (arr_one ⟨0, ⟨1, []⟩, 1, e, 0, 0, 0, 0, false⟩ none 0 0) ?_)
    refine bodyPost_ret (results_row_tmp rfl _ _ _ w.heap.size 28 _ (0, 0) _ rfl (setRow_heap w0 _ _ _ _ _ HZ0.out) Try.underlying28 rfl (arr_info ⟨0, ⟨1, []⟩, 1, e, 0, 0, 0, 0, false⟩ none 0 0)) rfl ?_
    have h : newS e = (⟨0, ⟨1, []⟩, 1, e, 0, 0, 0, 0, false⟩, 0) := by
      rw [HM.out, if_pos]
      have := HEV.out
      unfold everyB at this
      simp at this
      omega
    rw [h]
    exact ⟨none, 0, rfl, .inl ⟨rfl, rfl, rfl⟩, below_setRow HB0.out (Nat.le_refl _) _⟩

set_option maxRecDepth 100000 in
set_option maxHeartbeats 8000000 in
theorem drop_any (s : Se) (a : Option Addr) (cap n : Nat) (hn : s.inn.held.length = n) (hn9 : n ≤ 100000000) (w : World) (hr : RowAt Rsq.encI w a cap s.inn.held) (hl : Laid w) :
    Calls Try.prog 16 #[.agg (s.arr a n cap)] w (GotD w (drop s)) := by
  have HN := Lib.hid hn
  have HPL := Lib.hid hl
  have HR := Lib.hid hr
  obtain ⟨SA, hSA⟩ : ∃ X, s.arr a n cap = X := ⟨_, rfl⟩
  have HSA := Lib.hid hSA
  have HSI : Hid ((Try.prog.info? 28).map (·.size) = some SA.size) := Lib.hid (hSA ▸ arr_info s a n cap)
  rw [hSA]
  clear hn hr hl
  go_enter Try.func16, Try.ntmps16
  go_upto_region 1 with fail
  obtain ⟨ZS, hZS⟩ : ∃ X : Array Value, #[.int .i64 0, .int .i64 0, .slice none 0 0, .int .i64 0, .int .i64 0, .int .i64 0, .int .i64 0, .int .i64 0, .int .i64 0, .bool false] = X := ⟨_, rfl⟩
  have e1 : (w.alloc (.cells SA 28)).heap.size = w.heap.size + 1 := by simp
  have HG0 : Hid (SeAt ((w.alloc (.cells SA 28)).alloc (.cells ZS 28)) w.heap.size s a n cap) := Lib.hid (by
    have h : ((w.alloc (.cells SA 28)).alloc (.cells ZS 28)).heap[w.heap.size]? = some (.cells SA 28 (0, 0)) := alloc_block (heap_alloc_new w _)
    rw [← hSA] at h ⊢
    exact h)
  have HZ0 : Hid (SeAt ((w.alloc (.cells SA 28)).alloc (.cells ZS 28)) (w.heap.size + 1) q7 none 0 0) := Lib.hid (by
    have h := heap_alloc_new (w.alloc (.cells SA 28)) (.cells ZS 28)
    rw [e1] at h
    rw [← hZS] at h ⊢
    exact h)
  have HB0 : Hid (Below w.heap.size w ((w.alloc (.cells SA 28)).alloc (.cells ZS 28))) := Lib.hid (alloc_below2 _ _)
  have HE0 : Hid (((w.alloc (.cells SA 28)).alloc (.cells ZS 28)).heap.size = w.heap.size + 2) := Lib.hid (by simp)
  try rw [hZS]
  clear hZS e1
  generalize (w.alloc (.cells SA 28)).alloc (.cells ZS 28) = w0 at HG0 HZ0 HB0 HE0 ⊢
  have HX0 : Hid (w0.rangeAt w.heap.size 0 SA.toList) := Lib.hid (by rw [← hSA]; exact block_range HG0.out)
  clear hSA
  obtain ⟨br, hbr⟩ : ∃ b, rightS s = b := ⟨_, rfl⟩
  have HBR := Lib.hid hbr
  clear hbr
  go_wp2_with (refine wpList_load_arr_g (by rfl) 28 _ rfl w.heap.size 0 rfl SA _ HX0.out Try.underlying28 rfl HSI.out ?_)
  refine (right_is7 s a cap n SA HSA.out HN.out hn9 _ (HR.out.later HB0.out) (HPL.out.below HB0.out) br HBR.out).mono ?_
  rintro e w2 ⟨rfl, hb⟩
  have HG2 := Lib.hid (HG0.out.later hb)
  have HZ2 := Lib.hid (HZ0.out.later hb)
  have HB2 := Lib.hid (HB0.out.trans (hb.mono HB0.out.size))
  clear hb HG0 HZ0 HB0 HX0
  cases br
  · have HEQ : Hid (drop s = s) := Lib.hid (by unfold drop; rw [if_neg (by rw [HBR.out]; simp)])
    have HX2 : Hid (w2.rangeAt w.heap.size 0 SA.toList) := Lib.hid (by rw [← HSA.out]; exact block_range HG2.out)
    go_wp2_with (refine wpList_load_arr_g (by rfl) 28 _ rfl w.heap.size 0 rfl SA _ HX2.out Try.underlying28 rfl HSI.out ?_)
    refine (begin_is s 0 a cap n SA HSA.out HN.out hn9 _ (HR.out.later HB2.out)).mono ?_
    rintro e w3 ⟨g, a2, q2, rfl, ht, hb⟩
    have HT3 := Lib.hid ht
    have HZ3 := Lib.hid (HZ2.out.later hb)
    have HB3 := Lib.hid (HB2.out.trans (hb.mono HB2.out.size))
    clear ht hb HG2 HZ2 HB2 HX2
    obtain ⟨SA2, hSA2⟩ : ∃ X, s.arr a2 n q2 = X := ⟨_, rfl⟩
    have HSA2 := Lib.hid hSA2
    have HSI2 : Hid ((Try.prog.info? 28).map (·.size) = some SA2.size) := Lib.hid (hSA2 ▸ arr_info s a2 n q2)
    have HSI2S : Hid ((q7.arr none 0 0).size = SA2.size) := Lib.hid (hSA2 ▸ rfl)
    have HSO2 : Hid (SA2.all (·.oneCell') = true) := Lib.hid (hSA2 ▸ arr_one s a2 n q2)
    clear hSA2
    have HX3 : Hid (w3.rangeAt g 0 SA2.toList) := Lib.hid (by rw [← HSA2.out]; exact HT3.out.range)
    have l3 := HT3.out.lt
    go_wp2_with (first | (refine wpList_load_arr_g (by rfl) 28 _ rfl g 0 rfl SA2 _ HX3.out Try.underlying28 rfl HSI2.out ?_) | (refine wpList_store_row rfl 28 _ _ rfl (w.heap.size + 1) SA2 rfl rfl _ _ HZ3.out HSI2.out HSI2S.out HSO2.out ?_))
    refine bodyPost_ret (results_row_one rfl _ _ _ (w.heap.size + 1) 28 _ (0, 0) _ rfl (setRow_heap w3 _ _ _ _ _ HZ3.out) Try.underlying28 rfl HSI2.out) rfl ?_
    rw [HEQ.out, ← HSA2.out]
    exact ⟨a2, q2, by rw [HT3.out.len], HZ3.out.row (by decide) HT3.out.row _, below_setRow HB3.out (Nat.le_succ _) _⟩
  · have HEQ : Hid (drop s = {s with state := 0, inn := ⟨s.inn.next, []⟩}) := Lib.hid (by unfold drop; rw [if_pos HBR.out])
    have d0 := HG2.out.cells.c0
    have d2 := HG2.out.cells.c2
    have e0 := frozen_of_row w2 w.heap.size 0 _ _ HG2.out
    have e2 := frozen_of_row w2 w.heap.size 2 _ _ HG2.out
    have lg := HG2.out.lt
    go_upto_region 4 with fail
    have HG3 : Hid (SeAt ((w2.setCell ⟨w.heap.size, 0, none⟩ (.int .i64 0)).setCell ⟨w.heap.size, 2, none⟩ (.slice none 0 0)) w.heap.size {s with state := 0, inn := ⟨s.inn.next, []⟩} none 0 0) := Lib.hid (heap_setCell_same _ w.heap.size 2 _ _ (.slice none 0 0) (heap_setCell_same w2 w.heap.size 0 _ _ (.int .i64 0) HG2.out))
    have HZ3 := Lib.hid ((HZ2.out.cell (j := 0) (g := w.heap.size) (by omega) (.int .i64 0)).cell (j := 2) (g := w.heap.size) (by omega) (.slice none 0 0))
    have HB3 := Lib.hid (set_below (j := 2) (v := .slice none 0 0) (set_below (j := 0) (v := .int .i64 0) HB2.out (Nat.le_refl w.heap.size)) (Nat.le_refl w.heap.size))
    generalize (w2.setCell ⟨w.heap.size, 0, none⟩ (.int .i64 0)).setCell ⟨w.heap.size, 2, none⟩ (.slice none 0 0) = w3 at HG3 HZ3 HB3 ⊢
    clear d0 d2 e0 e2 lg HG2 HZ2 HB2
    obtain ⟨SA2, hSA2⟩ : ∃ X, Se.arr {s with state := 0, inn := ⟨s.inn.next, []⟩} none 0 0 = X := ⟨_, rfl⟩
    have HSA2 := Lib.hid hSA2
    have HSI2 : Hid ((Try.prog.info? 28).map (·.size) = some SA2.size) := Lib.hid (hSA2 ▸ arr_info _ _ _ _)
    have HSI2S : Hid ((q7.arr none 0 0).size = SA2.size) := Lib.hid (hSA2 ▸ rfl)
    have HSO2 : Hid (SA2.all (·.oneCell') = true) := Lib.hid (hSA2 ▸ arr_one _ _ _ _)
    have HX3 : Hid (w3.rangeAt w.heap.size 0 SA2.toList) := Lib.hid (by rw [← hSA2]; exact block_range HG3.out)
    clear hSA2
    go_wp2_with (first | (refine wpList_load_arr_g (by rfl) 28 _ rfl w.heap.size 0 rfl SA2 _ HX3.out Try.underlying28 rfl HSI2.out ?_) | (refine wpList_store_row rfl 28 _ _ rfl (w.heap.size + 1) SA2 rfl rfl _ _ HZ3.out HSI2.out HSI2S.out HSO2.out ?_))
    refine bodyPost_ret (results_row_one rfl _ _ _ (w.heap.size + 1) 28 _ (0, 0) _ rfl (setRow_heap w3 _ _ _ _ _ HZ3.out) Try.underlying28 rfl HSI2.out) rfl ?_
    rw [HEQ.out, ← HSA2.out]
    exact ⟨none, 0, rfl, .inl ⟨rfl, rfl, rfl⟩, below_setRow HB3.out (Nat.le_succ _) _⟩

end Ses
end Go.Proofs.Ytnmmokdkngccjaa

namespace Go.Proofs.Ytnmmokdkngccjaa
open Go.RowKit
namespace Ses
open Num
open Msg (I64 results_row_one)
attribute [local go_sem ↓] load_sess
attribute [local go_sem] blkOf_ptr offOf_ptr

theorem end_pent {fn : Func} {p u v x y : Tmp} (h : fn.results = #[.cell p 28, .tmp u, .tmp v, .tmp x, .tmp y]) (g : Nat) (W : World) (cs old : Array Value) (tmps : Array Value) (hw : W.heap[g]? = some (.cells old 28 (0, 0))) (hcs : (Try.prog.info? 28).map (·.size) = some cs.size)
    (hp : tmps.getD p undef = .pointer (some ⟨g, 0, none⟩)) : (results fn tmps).run Try.prog (W.setRow g cs) = .ok (.tuple #[.agg cs, tmps.getD u undef, tmps.getD v undef, tmps.getD x undef, tmps.getD y undef]) (W.setRow g cs) := by
  have hl := run_loadVar_mid (P := Try.prog) (W.setRow g cs) g 0 28 cs.toList _ (block_range (setRow_heap W g old cs _ _ hw)) Try.underlying28 rfl (by simpa using hcs)
  rw [Array.toArray_toList] at hl
  simp only [results, h]
  simp [Sem.run_bind, Result.andThen] at hp ⊢
  simp [hp, asAddr, hl]
theorem mright_is (m : Msg.Ms) (MA : Array Value) (hMA : m.cells = MA) (hm : m.Fits) (w : World) (hl : Laid w) (o : Bool) (ho : Msg.rightM m = o) : Calls Try.prog 11 #[.agg MA] w fun e w' => e = .returned (.bool o) ∧ Below w.heap.size w w' := by
  subst hMA ho
  exact Msg.right_any m hm w hl
theorem answer_is (B g : Nat) (s : Se) (a : Option Addr) (n cap : Nat) (now : Int) (b : Option Addr) (q : Nat) (l : List Msg.Ms) (m : Msg.Ms) (MA : Array Value) (hMA : m.cells = MA) (r : Se × List Msg.Ms) (hr : answerP s l m now = r) (w : World) (h : Tk w B g s a n cap now b q l) (hl : l.length ≤ 999) (h0 : 0 < s.out) (h9 : s.out ≤ 1099511627776) :
    Calls Try.prog 26 #[.pointer (some ⟨g, 0, none⟩), .agg MA] w fun e w' => e = .returned (.tuple #[]) ∧ (∃ b' q', Tk w' B g r.1 a n cap now b' q' r.2) ∧ Below B w w' := by
  subst hMA hr
  exact answer_any B g s a n cap now b q l m w h hl h0 h9
theorem hear_is (B g : Nat) (s : Se) (a : Option Addr) (n cap : Nat) (now : Int) (b : Option Addr) (q : Nat) (l : List Msg.Ms) (m : Msg.Ms) (MA : Array Value) (hMA : m.cells = MA) (w : World) (h : Tk w B g s a n cap now b q l) (hr : Rsq.rightL s.inn = true) (h1 : 0 ≤ m.seq ∧ m.seq ≤ 4611686018427387904) (hl : Laid w) (c : Rsq.Li) (os : List Rsq.It) (k : Int) (hc : Rsq.come s.inn (itemS m) = (c, os, k)) :
    Calls Try.prog 27 #[.pointer (some ⟨g, 0, none⟩), .agg MA] w (GotH w B g s now b q l c (reports os)) := by
  subst hMA
  exact hear_any B g s a n cap now b q l m w h hr h1 hl c os k hc
/-- what hear told stands beside what is said later -/
theorem told_spare {w6 w7 : World} {base g d : Nat} {t : Option Addr} {u : Value} {ts : List Msg.Ms} (ho : OwnE encM 36 w6 base (.slice t ts.length d) ts) (hs : Spare w6 w7 g u) (hg : g < base) (hu : ∀ k, u.ownBlock = some k → k < base) : RowAt encM w7 t d ts := by
  have hr := ho.at.2
  rcases hr with h | ⟨x, rfl, hl, hc⟩
  · exact .inl h
  · refine .inr ⟨x, rfl, hl, fun j v hj => Eq.trans (World.cell?_of_block (w := w6) ?_) (hc j v hj)⟩
    rw [block_add]
    have hlt := cell_lt (hc j v hj)
    rw [block_add] at hlt
    unfold OwnE at ho
    rcases ho.2 with ⟨h0, _⟩ | ⟨g', _, cur, he, hb, hg', _⟩
    · cases h0
    · injection he with he
      injection he with he
      subst he
      exact hs.2 g' hlt (fun e => by omega) (fun e => by have := hu g' e; omega)
theorem msgs_cell {w : World} {g cap j : Nat} {a : Option Addr} {h : List Msg.Ms} {cs : Array Value} {t : TypeId} {fz : Nat × Nat} (hr : RowAt encM w a cap h) (hg : w.heap[g]? = some (.cells cs t fz)) (hs : cs.size < 18) (v : Value) : RowAt encM (w.setCell ⟨g, j, none⟩ v) a cap h :=
  hr.grown (grown_set1 w g j v) (hr.apart (by decide) hg hs)
theorem ty_safe {b : Nat} {w : World} {a : Option Addr} {l : List Rsq.It} (h : Ty 67 w a) : SafeR b w a l := fun _ x hx => .inr (h x hx)
theorem fin_F {w W : World} {B g z : Nat} {r : Se} {a : Option Addr} {n cap : Nat} {now : Int} {b : Option Addr} {q : Nat} {l : List Msg.Ms} {u : Se} {t : Option Addr} {d : Nat} {ts : List Msg.Ms} (b0 : Nat) (hT : Tk W B g r a n cap now b q l) (ht : RowAt encM W t d ts) (hZ : SeAt W z u none 0 0) (hB : Below w.heap.size w W) (hz : w.heap.size ≤ z) (bb : Bool) (k : Int) (RA : Array Value) (hRA : r.arr a n cap = RA) :
    GotF w b0 (r, l, ts, bb, k) (.returned (.tuple #[.agg RA, .slice b l.length q, .slice t ts.length d, .bool bb, .int .i64 k])) (W.setRow z RA) := by
  subst hRA
  obtain ⟨b', q', e, ho⟩ := hT.own.row
  injection e with e1 _ e2
  subst e1 e2
  refine ⟨a, cap, b, q, t, d, k, ?_, rfl, hZ.row (by decide) hT.row _, ty_safe (hT.ty.setRow z _), hZ.row (by decide) ho _, hZ.row (by decide) ht _, below_setRow hB hz _⟩
  rw [hT.len]
theorem fin_F0 {w W : World} {B g z : Nat} {r : Se} {a : Option Addr} {n cap : Nat} {now : Int} {b : Option Addr} {q : Nat} {l : List Msg.Ms} {u : Se} (b0 : Nat) (hT : Tk W B g r a n cap now b q l) (hZ : SeAt W z u none 0 0) (hB : Below w.heap.size w W) (hz : w.heap.size ≤ z) (bb : Bool) (k : Int) (RA : Array Value) (hRA : r.arr a n cap = RA) :
    GotF w b0 (r, [], [], bb, k) (.returned (.tuple #[.agg RA, .slice none 0 0, .slice none 0 0, .bool bb, .int .i64 k])) (W.setRow z RA) := by
  subst hRA
  refine ⟨a, cap, none, 0, none, 0, k, ?_, rfl, hZ.row (by decide) hT.row _, ty_safe (hT.ty.setRow z _), .inl ⟨rfl, rfl, rfl⟩, .inl ⟨rfl, rfl, rfl⟩, below_setRow hB hz _⟩
  rw [hT.len]
  rfl

/-- a session that hears -/
def woke (s : Se) (now : Int) : Se := {s with state := 2, heard := now, tested := false}
theorem come_plain {s : Se} {m : Msg.Ms} {now : Int} (h1 : rightS s = true) (h2 : Msg.rightM m = true) (h3 : timeS now = true) (h4 : ¬ (s.state = 0 ∨ (s.state = 1 ∧ m.kind ≠ 1))) (h5 : ¬ (m.kind = 5 ∧ m.gap = false)) (x1 x2 : Se × List Msg.Ms) (c : Rsq.Li) (os : List Rsq.It) (k : Int)
    (e1 : answerP (woke s now) [] m now = x1) (e2 : Rsq.come x1.1.inn (itemS m) = (c, os, k)) (e3 : ask {x1.1 with inn := c} x1.2 now = x2) : comeS s m now = (if m.kind = 6 then {x2.1 with state := 0} else x2.1, x2.2, reports os, false, 0) := by
  unfold comeS
  rw [if_neg (by rw [h1, h2, h3]; simp), if_neg h4]
  dsimp only
  rw [if_neg h5]
  have k1 : (if m.kind = 3 then say {s with state := 2, heard := now, tested := false} [] {Msg.noMs with kind := 2, text := m.text} now else ({s with state := 2, heard := now, tested := false}, [])).1 = x1.1 := by
    rw [← e1]
    unfold answerP woke
    by_cases h : m.kind = 3
    · rw [if_pos h, if_pos h]
    · rw [if_neg h, if_neg h]
      split <;> rfl
  have k2 : (if m.kind = 4 ∧ m.a < (if m.kind = 3 then say {s with state := 2, heard := now, tested := false} [] {Msg.noMs with kind := 2, text := m.text} now else ({s with state := 2, heard := now, tested := false}, [])).1.out then
      (if m.kind = 3 then say {s with state := 2, heard := now, tested := false} [] {Msg.noMs with kind := 2, text := m.text} now else ({s with state := 2, heard := now, tested := false}, [])).2 ++ [{Msg.noMs with kind := 5, seq := m.a, time := now, copy := true, a := (if m.kind = 3 then say {s with state := 2, heard := now, tested := false} [] {Msg.noMs with kind := 2, text := m.text} now else ({s with state := 2, heard := now, tested := false}, [])).1.out, gap := true}]
      else (if m.kind = 3 then say {s with state := 2, heard := now, tested := false} [] {Msg.noMs with kind := 2, text := m.text} now else ({s with state := 2, heard := now, tested := false}, [])).2) = x1.2 := by
    rw [← e1]
    unfold answerP woke
    by_cases h : m.kind = 3
    · simp only [if_pos h]
      rw [if_neg (by omega)]
    · simp only [if_neg h]
      split <;> rfl
  rw [k2, k1, e2, e3]
theorem answer_keeps (s : Se) (m : Msg.Ms) (now : Int) (h0 : 0 < s.out) (h9 : s.out ≤ 1099511627776) : (answerP s [] m now).1.inn = s.inn ∧ (answerP s [] m now).1.state = s.state ∧ (0 < (answerP s [] m now).1.out ∧ (answerP s [] m now).1.out ≤ 1099511627776) ∧ (answerP s [] m now).2.length ≤ 1 := by
  unfold answerP
  split
  · have h1 := say_inn s [] {Msg.noMs with kind := 2, text := m.text} now
    exact ⟨h1.1, h1.2.1, say_out _ _ _ _ h0 h9, say_len _ _ _ _⟩
  · split
    · exact ⟨rfl, rfl, ⟨h0, h9⟩, Nat.le_refl _⟩
    · exact ⟨rfl, rfl, ⟨h0, h9⟩, Nat.zero_le _⟩

set_option maxRecDepth 100000 in
set_option maxHeartbeats 16000000 in
theorem come_safe7 (b0 : Nat) (s : Se) (m : Msg.Ms) (hm : m.Fits) (now : Int) (a : Option Addr) (cap n : Nat) (hn : s.inn.held.length = n) (hn9 : n ≤ 100000000) (w : World) (hr : RowAt Rsq.encI w a cap s.inn.held) (hl : Laid w) :
    Calls Try.prog 14 #[.agg (s.arr a n cap), .agg m.cells, .int .i64 now] w (GotF w b0 (comeS s m now)) := by
  have HN := Lib.hid hn
  have HPL := Lib.hid hl
  have HR := Lib.hid hr
  have HFM := Lib.hid hm
  obtain ⟨SA, hSA⟩ : ∃ X, s.arr a n cap = X := ⟨_, rfl⟩
  have HSA := Lib.hid hSA
  have HSI : Hid ((Try.prog.info? 28).map (·.size) = some SA.size) := Lib.hid (hSA ▸ arr_info s a n cap)
  obtain ⟨MA, hMA⟩ : ∃ X, m.cells = X := ⟨_, rfl⟩
  have HMA := Lib.hid hMA
  have HMI : Hid ((Try.prog.info? 36).map (·.size) = some MA.size) := Lib.hid (hMA ▸ pmsg_info m)
  rw [hSA, hMA]
  clear hn hr hl hm
  go_enter Try.func14, Try.ntmps14
  go_upto_region 1 with fail
  obtain ⟨ZS, hZS⟩ : ∃ X : Array Value, #[.int .i64 0, .int .i64 0, .slice none 0 0, .int .i64 0, .int .i64 0, .int .i64 0, .int .i64 0, .int .i64 0, .int .i64 0, .bool false] = X := ⟨_, rfl⟩
  obtain ⟨u1, hu1⟩ : ∃ u, w.alloc (.cells SA 28) = u := ⟨_, rfl⟩
  obtain ⟨u2, hu2⟩ : ∃ u, u1.alloc (.cells MA 36) = u := ⟨_, rfl⟩
  have z1 : u1.heap.size = w.heap.size + 1 := by rw [← hu1]; simp
  have z2 : u2.heap.size = w.heap.size + 2 := by rw [← hu2]; simp [z1]
  have a1 : Below w.heap.size w u1 := hu1 ▸ (Below.refl _ _).alloc (Nat.le_refl _) _
  have a2 : Below u1.heap.size u1 u2 := hu2 ▸ (Below.refl _ _).alloc (Nat.le_refl _) _
  have a3 : Below u2.heap.size u2 (u2.alloc (.cells ZS 28)) := (Below.refl _ _).alloc (Nat.le_refl _) _
  have g1 : u1.heap[w.heap.size]? = some (.cells SA 28 (0, 0)) := hu1 ▸ heap_alloc_new w _
  have g2 : u2.heap[w.heap.size + 1]? = some (.cells MA 36 (0, 0)) := by rw [← z1, ← hu2]; exact heap_alloc_new u1 _
  have g3 : (u2.alloc (.cells ZS 28)).heap[w.heap.size + 2]? = some (.cells ZS 28 (0, 0)) := by rw [← z2]; exact heap_alloc_new u2 _
  have HG0 : Hid (SeAt (u2.alloc (.cells ZS 28)) w.heap.size s a n cap) := Lib.hid (by
    have h := below_block (below_block g1 a2) a3
    rw [← hSA] at h
    exact h)
  have HM0 := Lib.hid (below_block g2 a3)
  have HZ0 : Hid (SeAt (u2.alloc (.cells ZS 28)) (w.heap.size + 2) q7 none 0 0) := Lib.hid (by
    have h := g3
    rw [← hZS] at h ⊢
    exact h)
  have HB0 := Lib.hid ((a1.trans (a2.mono a1.size)).trans (a3.mono (Nat.le_trans a1.size a2.size)))
  have HE0 : Hid ((u2.alloc (.cells ZS 28)).heap.size = w.heap.size + 3) := Lib.hid (by simp [z2])
  try rw [hu1]
  try rw [hu2]
  try rw [hZS]
  clear hZS a1 a2 a3 g1 g2 g3 z1 z2 hu1 hu2
  generalize u2.alloc (.cells ZS 28) = w0 at HG0 HM0 HZ0 HB0 HE0 ⊢
  have HX0 : Hid (w0.rangeAt w.heap.size 0 SA.toList) := Lib.hid (by rw [← hSA]; exact block_range HG0.out)
  clear hSA hMA
  go_wp2_with (refine wpList_load_arr_g (by rfl) 28 _ rfl w.heap.size 0 rfl SA _ HX0.out Try.underlying28 rfl HSI.out ?_)
  refine (begin_is s now a cap n SA HSA.out HN.out hn9 _ (HR.out.later HB0.out)).mono ?_
  rintro e w1 ⟨g, a2, q2, rfl, ht, hb⟩
  obtain ⟨B, hB⟩ : ∃ B, w0.heap.size = B := ⟨_, rfl⟩
  rw [hB] at ht hb HE0
  have HT1 := Lib.hid ht
  have HG1 := Lib.hid (HG0.out.below hb (by have := HE0.out; omega))
  have HM1 := Lib.hid ((hb.block (w.heap.size + 1) (by have := HE0.out; omega)).trans HM0.out)
  have HZ1 := Lib.hid (HZ0.out.below hb (by have := HE0.out; omega))
  have HB1 := Lib.hid (HB0.out.trans (hb.mono (by have := HE0.out; omega)))
  clear ht hb HG0 HM0 HZ0 HB0 HX0 hB
  have HX1 : Hid (w1.rangeAt w.heap.size 0 SA.toList) := Lib.hid (by rw [← HSA.out]; exact block_range HG1.out)
  obtain ⟨br, hbr⟩ : ∃ b, rightS s = b := ⟨_, rfl⟩
  have HBR := Lib.hid hbr
  clear hbr
  go_wp2_with (refine wpList_load_arr_g (by rfl) 28 _ rfl w.heap.size 0 rfl SA _ HX1.out Try.underlying28 rfl HSI.out ?_)
  refine (right_is7 s a cap n SA HSA.out HN.out hn9 _ (HR.out.later HB1.out) (HPL.out.below HB1.out) br HBR.out).mono ?_
  rintro e w2 ⟨rfl, hb⟩
  have HT2 := Lib.hid (HT1.out.later hb)
  have HG2 := Lib.hid (HG1.out.later hb)
  have HM2 := Lib.hid (below_block HM1.out hb)
  have HZ2 := Lib.hid (HZ1.out.later hb)
  have HB2 := Lib.hid (HB1.out.trans (hb.mono HB1.out.size))
  clear hb HT1 HG1 HM1 HZ1 HB1 HX1
  obtain ⟨bm, hbm⟩ : ∃ b, Msg.rightM m = b := ⟨_, rfl⟩
  have HBM := Lib.hid hbm
  obtain ⟨bt, hbt⟩ : ∃ b, timeS now = b := ⟨_, rfl⟩
  have HBT := Lib.hid hbt
  clear hbt hbm
  obtain ⟨SA2, hSA2⟩ : ∃ X, s.arr a2 n q2 = X := ⟨_, rfl⟩
  have HSA2 := Lib.hid hSA2
  have HSI2 : Hid ((Try.prog.info? 28).map (·.size) = some SA2.size) := Lib.hid (hSA2 ▸ arr_info s a2 n q2)
  have HSI2S : Hid ((q7.arr none 0 0).size = SA2.size) := Lib.hid (hSA2 ▸ rfl)
  have HSO2 : Hid (SA2.all (·.oneCell') = true) := Lib.hid (hSA2 ▸ arr_one s a2 n q2)
  clear hSA2
  have HBAD : Hid ((br = false ∨ bm = false ∨ bt = false) → comeS s m now = (s, [], [], false, 1)) := Lib.hid fun h => by unfold comeS; rw [if_pos (by rw [HBR.out, HBM.out, HBT.out]; exact h)]
  cases br
  · have HX3 : Hid (w2.rangeAt g 0 SA2.toList) := Lib.hid (by rw [← HSA2.out]; exact HT2.out.range)
    have l2 := HT2.out.lt
    go_wp2_with (first | (refine wpList_load_arr_g (by rfl) 28 _ rfl g 0 rfl SA2 _ HX3.out Try.underlying28 rfl HSI2.out ?_) | (refine wpList_store_row rfl 28 _ _ rfl (w.heap.size + 2) SA2 rfl rfl _ _ HZ2.out HSI2.out HSI2S.out HSO2.out ?_))
    refine bodyPost_ret (end_pent rfl (w.heap.size + 2) _ _ _ _ HZ2.out HSI2.out rfl) rfl ?_
    rw [HBAD.out (by simp)]
    exact fin_F0 b0 HT2.out HZ2.out HB2.out (Nat.le_add_right _ 2) false 1 SA2 HSA2.out
  have HXM : Hid (w2.rangeAt (w.heap.size + 1) 0 MA.toList) := Lib.hid (block_range HM2.out)
  go_wp2_with (refine wpList_load_arr_g (by rfl) 36 _ rfl (w.heap.size + 1) 0 rfl MA _ HXM.out Try.underlying36 rfl HMI.out ?_)
  refine (mright_is m MA HMA.out HFM.out _ (HPL.out.below HB2.out) bm HBM.out).mono ?_
  clear HXM
  rintro e w3 ⟨rfl, hb⟩
  have HT3 := Lib.hid (HT2.out.later hb)
  have HG3 := Lib.hid (HG2.out.later hb)
  have HM3 := Lib.hid (below_block HM2.out hb)
  have HZ3 := Lib.hid (HZ2.out.later hb)
  have HB3 := Lib.hid (HB2.out.trans (hb.mono HB2.out.size))
  clear hb HT2 HG2 HM2 HZ2 HB2
  cases bm
  · have HX3 : Hid (w3.rangeAt g 0 SA2.toList) := Lib.hid (by rw [← HSA2.out]; exact HT3.out.range)
    have l2 := HT3.out.lt
    go_wp2_with (first | (refine wpList_load_arr_g (by rfl) 28 _ rfl g 0 rfl SA2 _ HX3.out Try.underlying28 rfl HSI2.out ?_) | (refine wpList_store_row rfl 28 _ _ rfl (w.heap.size + 2) SA2 rfl rfl _ _ HZ3.out HSI2.out HSI2S.out HSO2.out ?_))
    refine bodyPost_ret (end_pent rfl (w.heap.size + 2) _ _ _ _ HZ3.out HSI2.out rfl) rfl ?_
    rw [HBAD.out (by simp)]
    exact fin_F0 b0 HT3.out HZ3.out HB3.out (Nat.le_add_right _ 2) false 1 SA2 HSA2.out
  go_wp2_with fail
  refine (time_is now bt HBT.out _).mono ?_
  rintro e w3 ⟨rfl, rfl⟩
  cases bt
  · have HX3 : Hid (w3.rangeAt g 0 SA2.toList) := Lib.hid (by rw [← HSA2.out]; exact HT3.out.range)
    have l2 := HT3.out.lt
    go_wp2_with (first | (refine wpList_load_arr_g (by rfl) 28 _ rfl g 0 rfl SA2 _ HX3.out Try.underlying28 rfl HSI2.out ?_) | (refine wpList_store_row rfl 28 _ _ rfl (w.heap.size + 2) SA2 rfl rfl _ _ HZ3.out HSI2.out HSI2S.out HSO2.out ?_))
    refine bodyPost_ret (end_pent rfl (w.heap.size + 2) _ _ _ _ HZ3.out HSI2.out rfl) rfl ?_
    rw [HBAD.out (by simp)]
    exact fin_F0 b0 HT3.out HZ3.out HB3.out (Nat.le_add_right _ 2) false 1 SA2 HSA2.out
  clear HBAD
  obtain ⟨be, hbe⟩ : ∃ b, ((s.state == 0) || ((s.state == 1) && (m.kind != 1))) = b := ⟨_, rfl⟩
  have HBE := Lib.hid hbe
  have HES : Hid (be = true → comeS s m now = (s, [], [], false, 8)) := Lib.hid fun h => by
    have h2 := HBE.out
    rw [h] at h2
    unfold comeS
    rw [if_neg (by rw [HBR.out, HBM.out, HBT.out]; simp), if_pos (by simpa using h2)]
  have HEN : Hid (be = false → ¬ (s.state = 0 ∨ (s.state = 1 ∧ m.kind ≠ 1))) := Lib.hid fun h => by
    have h2 := HBE.out
    rw [h] at h2
    simpa using h2
  clear hbe
  go_upto_region 4 with fail
  go_cut [34] (fun c_ wx => c_ = .bool be ∧ wx = w3)
  case first =>
    have d0 := HG3.out.cells.c0
    have m0 : w3.cell? ⟨w.heap.size + 1, 0, none⟩ = some (.int .i64 m.kind) := cell_at HM3.out (by rw [← HMA.out]; rfl)
    obtain ⟨b1, hb1⟩ : ∃ b, (s.state == 0) = b := ⟨_, rfl⟩
    obtain ⟨b2, hb2⟩ : ∃ b, (s.state == 1) = b := ⟨_, rfl⟩
    obtain ⟨b3, hb3⟩ : ∃ b, (m.kind != 1) = b := ⟨_, rfl⟩
    have H1 := Lib.hid hb1
    have H2 := Lib.hid hb2
    have H3 := Lib.hid hb3
    cases b1 <;> cases b2 <;> cases b3
    all_goals
      go_wp2_with fail
      go_meet
      exact ⟨congrArg Value.bool (by rw [← HBE.out, H1.out, H2.out, H3.out]; rfl), rfl⟩
  case rest =>
    obtain ⟨rfl, rfl⟩ := hcut
    cases be
    rotate_left
    · have HX3 : Hid (wc.rangeAt g 0 SA2.toList) := Lib.hid (by rw [← HSA2.out]; exact HT3.out.range)
      have l2 := HT3.out.lt
      go_wp2_with (first | (refine wpList_load_arr_g (by rfl) 28 _ rfl g 0 rfl SA2 _ HX3.out Try.underlying28 rfl HSI2.out ?_) | (refine wpList_store_row rfl 28 _ _ rfl (w.heap.size + 2) SA2 rfl rfl _ _ HZ3.out HSI2.out HSI2S.out HSO2.out ?_))
      refine bodyPost_ret (end_pent rfl (w.heap.size + 2) _ _ _ _ HZ3.out HSI2.out rfl) rfl ?_
      rw [HES.out (by simp)]
      exact fin_F0 b0 HT3.out HZ3.out HB3.out (Nat.le_add_right _ 2) false 8 SA2 HSA2.out
    · have HNE := Lib.hid (HEN.out (by simp))
      have HPT := Lib.hid (right_parts HBR.out)
      have HNW : Hid (0 ≤ now ∧ now ≤ 4611686018427387904) := Lib.hid (by
        have h := HBT.out
        unfold timeS at h
        simpa using h)
      clear HES HEN HBE HG3 HR HN
      have HGZ : Hid (w.heap.size + 2 ≠ g ∧ w.heap.size ≤ g ∧ w.heap.size + 1 ≠ g) := Lib.hid (by have h1 := HT3.out.lo; have h2 := HE0.out; omega)
      have c0 := HT3.out.cells.c0
      have c5 := HT3.out.cells.c5
      have c9 := HT3.out.cells.c9
      have f0 := HT3.out.frz 0
      have f5 := HT3.out.frz 5
      have f9 := HT3.out.frz 9
      have l3 := HT3.out.lt
      go_upto_region 7 with fail
      have HT4 : Hid (Tk (((wc.setCell ⟨g, 0, none⟩ (.int .i64 2)).setCell ⟨g, 5, none⟩ (.int .i64 now)).setCell ⟨g, 9, none⟩ (.bool false)) B g (woke s now) a2 n q2 now none 0 []) := Lib.hid (((HT3.out.set 0 (.int .i64 2) {s with state := 2} rfl rfl).set 5 (.int .i64 now) {s with state := 2, heard := now} rfl rfl).set 9 (.bool false) (woke s now) rfl rfl)
      have HZ4 := Lib.hid (((HZ3.out.cell (j := 0) HGZ.out.1 (.int .i64 2)).cell (j := 5) HGZ.out.1 (.int .i64 now)).cell (j := 9) HGZ.out.1 (.bool false))
      have HM4 := Lib.hid ((heap_setCell_other _ ⟨g, 9, none⟩ (w.heap.size + 1) (.bool false) (fun e => HGZ.out.2.2 e)).trans ((heap_setCell_other _ ⟨g, 5, none⟩ (w.heap.size + 1) (.int .i64 now) (fun e => HGZ.out.2.2 e)).trans ((heap_setCell_other wc ⟨g, 0, none⟩ (w.heap.size + 1) (.int .i64 2) (fun e => HGZ.out.2.2 e)).trans HM3.out)))
      have HB4 := Lib.hid (set_below (j := 9) (v := .bool false) (set_below (j := 5) (v := .int .i64 now) (set_below (j := 0) (v := .int .i64 2) HB3.out HGZ.out.2.1) HGZ.out.2.1) HGZ.out.2.1)
      generalize ((wc.setCell ⟨g, 0, none⟩ (.int .i64 2)).setCell ⟨g, 5, none⟩ (.int .i64 now)).setCell ⟨g, 9, none⟩ (.bool false) = w4 at HT4 HZ4 HM4 HB4 ⊢
      clear c0 c5 c9 f0 f5 f9 l3 HT3 HZ3 HM3 HB3
      obtain ⟨b5, hb5⟩ : ∃ b, ((m.kind == 5) && !m.gap) = b := ⟨_, rfl⟩
      have HB5 := Lib.hid hb5
      clear hb5
      go_cut [72] (fun c_ wx => c_ = .bool b5 ∧ wx = w4)
      case first =>
        have m0 : w4.cell? ⟨w.heap.size + 1, 0, none⟩ = some (.int .i64 m.kind) := cell_at HM4.out (by rw [← HMA.out]; rfl)
        have m6 : w4.cell? ⟨w.heap.size + 1, 6, none⟩ = some (.bool m.gap) := cell_at HM4.out (by rw [← HMA.out]; rfl)
        obtain ⟨b1, hb1⟩ : ∃ b, (m.kind == 5) = b := ⟨_, rfl⟩
        obtain ⟨b2, hb2⟩ : ∃ b, m.gap = b := ⟨_, rfl⟩
        have H1 := Lib.hid hb1
        have H2 := Lib.hid hb2
        cases b1 <;> cases b2
        all_goals
          go_wp2_with fail
          go_meet
          exact ⟨congrArg Value.bool (by rw [← HB5.out, H1.out, H2.out]; rfl), rfl⟩
      case rest =>
        obtain ⟨rfl, rfl⟩ := hcut
        cases b5
        rotate_left
        · have HEQ : Hid (comeS s m now = ({woke s now with state := 0}, [], [], true, 0)) := Lib.hid (by
            have h5 : m.kind = 5 ∧ m.gap = false := by simpa using HB5.out
            unfold comeS
            rw [if_neg (by rw [HBR.out, HBM.out, HBT.out]; simp), if_neg HNE.out]
            dsimp only
            rw [if_pos h5]
            rfl)
          have c0 := HT4.out.cells.c0
          have f0 := HT4.out.frz 0
          have l4 := HT4.out.lt
          go_upto_region 9 with fail
          have HT5 := Lib.hid (HT4.out.set 0 (.int .i64 0) {woke s now with state := 0} rfl rfl)
          have HZ5 := Lib.hid (HZ4.out.cell (j := 0) HGZ.out.1 (.int .i64 0))
          have HB6 := Lib.hid (set_below (j := 0) (v := .int .i64 0) HB4.out HGZ.out.2.1)
          generalize wc.setCell ⟨g, 0, none⟩ (.int .i64 0) = w5 at HT5 HZ5 HB6 ⊢
          clear c0 f0 l4 HT4 HZ4 HB4 HM4 HSA2 HSI2 HSI2S HSO2 SA2
          obtain ⟨SA2, hSA2⟩ : ∃ X, Se.arr {woke s now with state := 0} a2 n q2 = X := ⟨_, rfl⟩
          have HSA2 := Lib.hid hSA2
          have HSI2 : Hid ((Try.prog.info? 28).map (·.size) = some SA2.size) := Lib.hid (hSA2 ▸ arr_info _ _ _ _)
          have HSI2S : Hid ((q7.arr none 0 0).size = SA2.size) := Lib.hid (hSA2 ▸ rfl)
          have HSO2 : Hid (SA2.all (·.oneCell') = true) := Lib.hid (hSA2 ▸ arr_one _ _ _ _)
          clear hSA2
    
          have HX3 : Hid (w5.rangeAt g 0 SA2.toList) := Lib.hid (by rw [← HSA2.out]; exact HT5.out.range)
          have l2 := HT5.out.lt
          go_wp2_with (first | (refine wpList_load_arr_g (by rfl) 28 _ rfl g 0 rfl SA2 _ HX3.out Try.underlying28 rfl HSI2.out ?_) | (refine wpList_store_row rfl 28 _ _ rfl (w.heap.size + 2) SA2 rfl rfl _ _ HZ5.out HSI2.out HSI2S.out HSO2.out ?_))
          refine bodyPost_ret (end_pent rfl (w.heap.size + 2) _ _ _ _ HZ5.out HSI2.out rfl) rfl ?_
          rw [HEQ.out]
          exact fin_F0 b0 HT5.out HZ5.out HB6.out (Nat.le_add_right _ 2) true 0 SA2 HSA2.out
        · have HN5 : Hid (¬ (m.kind = 5 ∧ m.gap = false)) := Lib.hid (by simpa using HB5.out)
          obtain ⟨x1, e1⟩ : ∃ x, answerP (woke s now) [] m now = x := ⟨_, rfl⟩
          have hkp := answer_keeps (woke s now) m now HPT.out.1.out.1 HPT.out.1.out.2
          rw [e1] at hkp
          have HKP := Lib.hid hkp
          have HX1 := Lib.hid e1
          have HRI : Hid (Rsq.rightL x1.1.inn = true) := Lib.hid (by rw [hkp.1]; exact HPT.out.2.2.2.2.1)
          obtain ⟨⟨c, os, k⟩, e2⟩ : ∃ x, Rsq.come x1.1.inn (itemS m) = x := ⟨_, rfl⟩
          have HX2 := Lib.hid e2
          have HRC : Hid (Rsq.rightL c = true) := Lib.hid (by
            have h := (Rsq.come_step HRI.out (itemS m)).1
            rw [e2] at h
            exact h)
          obtain ⟨x2, e3⟩ : ∃ x, ask {x1.1 with inn := c} x1.2 now = x := ⟨_, rfl⟩
          have HX3 := Lib.hid e3
          have HEQ := Lib.hid (come_plain HBR.out HBM.out HBT.out HNE.out HN5.out x1 x2 c os k e1 e2 e3)
          have HSQ : Hid (0 ≤ m.seq ∧ m.seq ≤ 4611686018427387904) := Lib.hid (by
            have h := HBM.out
            unfold Msg.rightM Msg.smallB at h
            simp only [Bool.and_eq_true, decide_eq_true_eq] at h
            omega)
          clear hkp e1 e2 e3
          have HXM : Hid (wc.rangeAt (w.heap.size + 1) 0 MA.toList) := Lib.hid (block_range HM4.out)
          go_wp2_with (refine wpList_load_arr_g (by rfl) 36 _ rfl (w.heap.size + 1) 0 rfl MA _ HXM.out Try.underlying36 rfl HMI.out ?_)
          refine (answer_is B g (woke s now) a2 n q2 now none 0 [] m MA HMA.out x1 HX1.out _ HT4.out (by simp) HPT.out.1.out.1 HPT.out.1.out.2).mono ?_
          rintro e w5 ⟨rfl, ⟨b5, q5, ht⟩, hb⟩
          have HT5 := Lib.hid ht
          have HZ5 := Lib.hid (HZ4.out.below hb (by have := HE0.out; omega))
          have HM5 := Lib.hid ((hb.block (w.heap.size + 1) (by have := HE0.out; omega)).trans HM4.out)
          have HB6 := Lib.hid (HB4.out.trans (hb.mono (by have := HE0.out; omega)))
          clear ht hb HT4 HZ4 HM4 HB4 HXM
          have HXM : Hid (w5.rangeAt (w.heap.size + 1) 0 MA.toList) := Lib.hid (block_range HM5.out)
          go_wp2_with (refine wpList_load_arr_g (by rfl) 36 _ rfl (w.heap.size + 1) 0 rfl MA _ HXM.out Try.underlying36 rfl HMI.out ?_)
          refine (hear_is B g x1.1 a2 n q2 now b5 q5 x1.2 m MA HMA.out _ HT5.out HRI.out HSQ.out (HPL.out.below HB6.out) c os k HX2.out).mono ?_
          rintro e w6 ⟨t, d, a6, c6, rfl, hto, ht, hb⟩
          have HOWN : Hid ((∀ k, (Value.slice b5 x1.2.length q5).ownBlock = some k → k < w5.heap.size) ∧ g < w5.heap.size) := Lib.hid ⟨fun k hk => (HT5.out.own.lt k hk).2, HT5.out.lt⟩
          have HTO := Lib.hid hto
          have HT6 := Lib.hid ht
          have HZ6 := Lib.hid (HZ5.out.below hb (by have := HE0.out; omega))
          have HM6 := Lib.hid ((hb.block (w.heap.size + 1) (by have := HE0.out; omega)).trans HM5.out)
          have HB7 := Lib.hid (HB6.out.trans (hb.mono (by have := HE0.out; omega)))
          clear hto ht hb HT5 HZ5 HM5 HB6 HXM
          obtain ⟨n6, hn6⟩ : ∃ x, c.held.length = x := ⟨_, rfl⟩
          have HN6 := Lib.hid hn6
          rw [hn6] at HT6
          clear hn6
          go_wp2_with fail
          refine (ask_any B g {x1.1 with inn := c} a6 n6 c6 now b5 q5 x1.2 _ HT6.out HRC.out HKP.out.2.1 (by have := HKP.out.2.2.2; omega) HKP.out.2.2.1.1 HKP.out.2.2.1.2 (HPL.out.below HB7.out)).mono ?_
          rw [HX3.out]
          rintro e w7 ⟨rfl, ⟨b4, q4, ht⟩, hb, hs⟩
          have HTL := Lib.hid (told_spare HTO.out hs HOWN.out.2 HOWN.out.1)
          have HT7 := Lib.hid ht
          have HZ7 := Lib.hid (HZ6.out.below hb (by have := HE0.out; omega))
          have HM7 := Lib.hid ((hb.block (w.heap.size + 1) (by have := HE0.out; omega)).trans HM6.out)
          have HB8 := Lib.hid (HB7.out.trans (hb.mono (by have := HE0.out; omega)))
          clear ht hb hs HT6 HZ6 HM6 HB7 HTO HOWN
          have m0 : w7.cell? ⟨w.heap.size + 1, 0, none⟩ = some (.int .i64 m.kind) := cell_at HM7.out (by rw [← HMA.out]; rfl)
          obtain ⟨b6, hb6⟩ : ∃ b, (m.kind == 6) = b := ⟨_, rfl⟩
          have HB9 := Lib.hid hb6
          cases b6
          · obtain ⟨r, hr⟩ : ∃ r : Se × List Msg.Ms, x2 = r := ⟨_, rfl⟩
            have HEQ2 : Hid (comeS s m now = (r.1, r.2, reports os, false, 0)) := Lib.hid (by
              rw [HEQ.out, if_neg (by simpa using HB9.out), ← hr])
            rw [hr] at HT7
            clear hr
            go_upto_region 15 with fail
            obtain ⟨RA, hRA⟩ : ∃ X, r.1.arr a6 n6 c6 = X := ⟨_, rfl⟩
            have HRA := Lib.hid hRA
            have HRIA : Hid ((Try.prog.info? 28).map (·.size) = some RA.size) := Lib.hid (hRA ▸ arr_info _ _ _ _)
            have HRS : Hid ((q7.arr none 0 0).size = RA.size) := Lib.hid (hRA ▸ rfl)
            have HRO : Hid (RA.all (·.oneCell') = true) := Lib.hid (hRA ▸ arr_one _ _ _ _)
            clear hRA
            have HCK : Hid (∀ W : World, Tk W B g r.1 a6 n6 c6 now b4 q4 r.2 → CellsOk W g 0 10 ∧ cellsAt W g 0 10 = RA ∧ W.cell? ⟨g, 11, none⟩ = some (.slice b4 r.2.length q4)) := Lib.hid fun W h => by
              have h1 := CellsOk.of h.range
              rw [HRA.out] at h1
              have h2 : RA.size = 10 := by rw [← HRA.out]; rfl
              rw [h2] at h1
              exact ⟨h1.1, h1.2, h.cells.c11⟩
            have HTD := Lib.hid HT7.out.drew
            have HZD : Hid (SeAt w7.drew (w.heap.size + 2) q7 none 0 0) := Lib.hid HZ7.out
            have HBD : Hid (Below w.heap.size w w7.drew) := Lib.hid (HB8.out.trans ⟨rfl, rfl, rfl, Nat.le_refl _, fun _ _ => rfl⟩)
            refine wp_region_held_drew (S := (fun w' => CellsOk w' g 0 10 ∧ cellsAt w' g 0 10 = RA ∧ w'.cell? ⟨g, 11, none⟩ = some (.slice b4 r.2.length q4))) (by kernel_rfl) ?hs0 (fun hHeld => ?_)
            case hs0 => exact HCK.out _ HTD.out
            have HKD : Hid (RowAt encM w7.drew t d (reports os)) := Lib.hid (HTL.out.later ⟨rfl, rfl, rfl, Nat.le_refl _, fun _ _ => rfl⟩)
            generalize w7.drew = wd at HTD HZD HBD HKD hHeld ⊢
            refine' wpAnyH_take (i := 0) (oi := _) (v := _) rfl (by kernel_rfl) (by kernel_rfl) (by kernel_rfl) (fun _ _ _ h => h) (Or.inl ⟨by rfl, ?hy⟩) (by assumption) ?_
            case hy => (intro w hSw; (try dsimp only at hSw); (try simp only [List.getElem_toArray, List.getElem_cons_zero]); go_simp; try with_reducible rfl)
            try simp only [List.getElem_toArray, List.getElem_cons_zero, Act.put, List.setIfInBounds_toArray, List.set_cons_zero, List.set_cons_succ]
            refine' wpAnyH_take (i := 1) (oi := _) (v := _) rfl (by kernel_rfl) (by kernel_rfl) (by kernel_rfl) (fun _ _ _ h => h) (Or.inl ⟨by rfl, ?hy⟩) (by assumption) ?_
            case hy => (intro w hSw; (try dsimp only at hSw); (try simp only [List.getElem_toArray, List.getElem_cons_zero, List.getElem_cons_succ]); go_simp; try with_reducible rfl)
            try simp only [List.getElem_toArray, List.getElem_cons_zero, List.getElem_cons_succ, Act.put, List.setIfInBounds_toArray, List.set_cons_zero, List.set_cons_succ]
            refine' wpAnyH_take (i := 2) (oi := _) (v := _) rfl (by kernel_rfl) (by kernel_rfl) (by kernel_rfl) (fun _ _ _ h => h) (Or.inl ⟨by rfl, ?hy⟩) (by assumption) ?_
            case hy => (intro w hSw; (try dsimp only at hSw); (try simp only [List.getElem_toArray, List.getElem_cons_zero, List.getElem_cons_succ]); go_simp; try with_reducible rfl)
            try simp only [List.getElem_toArray, List.getElem_cons_zero, List.getElem_cons_succ, Act.put, List.setIfInBounds_toArray, List.set_cons_zero, List.set_cons_succ]
            refine' wpAnyH_take (i := 3) (oi := _) (v := _) rfl (by kernel_rfl) (by kernel_rfl) (by kernel_rfl) (fun _ _ _ h => h) (Or.inl ⟨by rfl, ?hy⟩) (by assumption) ?_
            case hy => (intro w hSw; (try dsimp only at hSw); (try simp only [List.getElem_toArray, List.getElem_cons_zero, List.getElem_cons_succ]); go_simp; try with_reducible rfl)
            try simp only [List.getElem_toArray, List.getElem_cons_zero, List.getElem_cons_succ, Act.put, List.setIfInBounds_toArray, List.set_cons_zero, List.set_cons_succ]
            refine' wpAnyH_take (i := 4) (oi := _) (v := _) rfl (by kernel_rfl) (by kernel_rfl) (by kernel_rfl) (fun _ _ _ h => h) (Or.inl ⟨by rfl, ?hy⟩) (by assumption) ?_
            case hy => (intro w hSw; (try dsimp only at hSw); (try simp only [List.getElem_toArray, List.getElem_cons_zero, List.getElem_cons_succ]); go_simp; try with_reducible rfl)
            try simp only [List.getElem_toArray, List.getElem_cons_zero, List.getElem_cons_succ, Act.put, List.setIfInBounds_toArray, List.set_cons_zero, List.set_cons_succ]
            refine' wpAnyH_take (i := 5) (oi := _) (v := _) rfl (by kernel_rfl) (by kernel_rfl) (by kernel_rfl) (fun _ _ _ h => h) (Or.inl ⟨by rfl, ?hy⟩) (by assumption) ?_
            case hy => (intro w hSw; (try dsimp only at hSw); (try simp only [List.getElem_toArray, List.getElem_cons_zero, List.getElem_cons_succ]); go_simp; try with_reducible rfl)
            try simp only [List.getElem_toArray, List.getElem_cons_zero, List.getElem_cons_succ, Act.put, List.setIfInBounds_toArray, List.set_cons_zero, List.set_cons_succ]
            refine' wpAnyH_take (i := 6) (oi := _) (v := _) rfl (by kernel_rfl) (by kernel_rfl) (by kernel_rfl) (fun _ _ _ h => h) (Or.inl ⟨by rfl, ?hy⟩) (by assumption) ?_
            case hy => (intro w hSw; (try dsimp only at hSw); (try simp only [List.getElem_toArray, List.getElem_cons_zero, List.getElem_cons_succ]); go_simp; try with_reducible rfl)
            try simp only [List.getElem_toArray, List.getElem_cons_zero, List.getElem_cons_succ, Act.put, List.setIfInBounds_toArray, List.set_cons_zero, List.set_cons_succ]
            refine' wpAnyH_take (i := 7) (oi := _) (v := _) rfl (by kernel_rfl) (by kernel_rfl) (by kernel_rfl) (fun _ _ _ h => h) (Or.inl ⟨by rfl, ?hy⟩) (by assumption) ?_
            case hy => (intro w hSw; (try dsimp only at hSw); (try simp only [List.getElem_toArray, List.getElem_cons_zero, List.getElem_cons_succ]); go_simp; try with_reducible rfl)
            try simp only [List.getElem_toArray, List.getElem_cons_zero, List.getElem_cons_succ, Act.put, List.setIfInBounds_toArray, List.set_cons_zero, List.set_cons_succ]
            refine' wpAnyH_take (i := 8) (oi := _) (v := _) rfl (by kernel_rfl) (by kernel_rfl) (by kernel_rfl) (fun _ _ _ h => h) (Or.inl ⟨by rfl, ?hy⟩) (by assumption) ?_
            case hy => (intro w hSw; (try dsimp only at hSw); (try simp only [List.getElem_toArray, List.getElem_cons_zero, List.getElem_cons_succ]); go_simp; try with_reducible rfl)
            try simp only [List.getElem_toArray, List.getElem_cons_zero, List.getElem_cons_succ, Act.put, List.setIfInBounds_toArray, List.set_cons_zero, List.set_cons_succ]
            refine wpAnyH_ready (rs := [9]) (by kernel_rfl) (by simp) ?_
            refine AllReadyH.cons (o := _) rfl (fun K hK => ?_) AllReadyH.nil
            try simp only [List.getElem_toArray, List.getElem_cons_zero, List.getElem_cons_succ, Act.put]
            refine step_store_row rfl 28 (.tmp 6) (.tmp 99) rfl (w.heap.size + 2) RA rfl rfl _ _ HZD.out HRIA.out HRS.out HRO.out ?_
            have HTE := Lib.hid (HTD.out.setRow HZD.out (by have := HE0.out; omega) RA)
            refine hK.out _ _ ?hs1 (fun hHeld => ?_)
            case hs1 => exact HCK.out _ HTE.out
            clear hK K
            try simp only [Act.put]
            refine' wpAnyH_take (i := 10) (oi := _) (v := _) rfl (by kernel_rfl) (by kernel_rfl) (by kernel_rfl) (fun _ _ _ h => h) (Or.inl ⟨by rfl, ?hy⟩) (by assumption) ?_
            case hy => (intro w hSw; (try dsimp only at hSw); (try simp only [List.getElem_toArray, List.getElem_cons_zero, List.getElem_cons_succ]); go_simp; try with_reducible rfl)
            try simp only [List.getElem_toArray, List.getElem_cons_zero, List.getElem_cons_succ, Act.put, List.setIfInBounds_toArray, List.set_cons_zero, List.set_cons_succ]
            refine' wpAnyH_take (i := 11) (oi := _) (v := _) rfl (by kernel_rfl) (by kernel_rfl) (by kernel_rfl) (fun _ _ _ h => h) (Or.inl ⟨by rfl, ?hy⟩) (by assumption) ?_
            case hy => (intro w hSw; (try dsimp only at hSw); (try simp only [List.getElem_toArray, List.getElem_cons_zero, List.getElem_cons_succ]); go_simp; try with_reducible rfl)
            try simp only [List.getElem_toArray, List.getElem_cons_zero, List.getElem_cons_succ, Act.put, List.setIfInBounds_toArray, List.set_cons_zero, List.set_cons_succ]
            refine' wpAnyH_take (i := 12) (oi := _) (v := _) rfl (by kernel_rfl) (by kernel_rfl) (by kernel_rfl) (fun _ _ _ h => h) (Or.inl ⟨by rfl, ?hy⟩) (by assumption) ?_
            case hy => (intro w hSw; (try dsimp only at hSw); (try simp only [List.getElem_toArray, List.getElem_cons_zero, List.getElem_cons_succ]); go_simp; try with_reducible rfl)
            try simp only [List.getElem_toArray, List.getElem_cons_zero, List.getElem_cons_succ, Act.put, List.setIfInBounds_toArray, List.set_cons_zero, List.set_cons_succ]
            refine' wpAnyH_take (i := 13) (oi := _) (v := _) rfl (by kernel_rfl) (by kernel_rfl) (by kernel_rfl) (fun _ _ _ h => h) (Or.inl ⟨by rfl, ?hy⟩) (by assumption) ?_
            case hy => (intro w hSw; (try dsimp only at hSw); (try simp only [List.getElem_toArray, List.getElem_cons_zero, List.getElem_cons_succ]); go_simp; try with_reducible rfl)
            try simp only [List.getElem_toArray, List.getElem_cons_zero, List.getElem_cons_succ, Act.put, List.setIfInBounds_toArray, List.set_cons_zero, List.set_cons_succ]
            refine wpAnyH_done (by kernel_rfl) ?_ _
            go_wp2_with fail
            refine bodyPost_ret (end_pent rfl (w.heap.size + 2) _ _ _ _ HZD.out HRIA.out rfl) rfl ?_
            rw [HEQ2.out]
            exact fin_F b0 HTD.out HKD.out HZD.out HBD.out (Nat.le_add_right _ 2) false 0 RA HRA.out
          · obtain ⟨r, hr⟩ : ∃ r : Se × List Msg.Ms, ({x2.1 with state := 0}, x2.2) = r := ⟨_, rfl⟩
            have HEQ2 : Hid (comeS s m now = (r.1, r.2, reports os, false, 0)) := Lib.hid (by
              rw [HEQ.out, if_pos (by simpa using HB9.out), ← hr])
            have c0 := HT7.out.cells.c0
            have f0 := HT7.out.frz 0
            have l7 := HT7.out.lt
            go_upto_region 15 with fail
            have HTL8 := Lib.hid (msgs_cell (j := 0) HTL.out HT7.out.blk (show 12 < 18 by decide) (.int .i64 0))
            have HT8 : Hid (Tk (w7.setCell ⟨g, 0, none⟩ (.int .i64 0)) B g r.1 a6 n6 c6 now b4 q4 r.2) := Lib.hid (by
              rw [← hr]
              exact HT7.out.set 0 (.int .i64 0) {x2.1 with state := 0} rfl rfl)
            have HZ8 := Lib.hid (HZ7.out.cell (j := 0) HGZ.out.1 (.int .i64 0))
            have HB10 := Lib.hid (set_below (j := 0) (v := .int .i64 0) HB8.out HGZ.out.2.1)
            generalize w7.setCell ⟨g, 0, none⟩ (.int .i64 0) = w8 at HTL8 HT8 HZ8 HB10 ⊢
            clear c0 f0 l7 hr HT7 HZ7 HB8 HTL HM7 m0
            obtain ⟨RA, hRA⟩ : ∃ X, r.1.arr a6 n6 c6 = X := ⟨_, rfl⟩
            have HRA := Lib.hid hRA
            have HRIA : Hid ((Try.prog.info? 28).map (·.size) = some RA.size) := Lib.hid (hRA ▸ arr_info _ _ _ _)
            have HRS : Hid ((q7.arr none 0 0).size = RA.size) := Lib.hid (hRA ▸ rfl)
            have HRO : Hid (RA.all (·.oneCell') = true) := Lib.hid (hRA ▸ arr_one _ _ _ _)
            clear hRA
            have HCK : Hid (∀ W : World, Tk W B g r.1 a6 n6 c6 now b4 q4 r.2 → CellsOk W g 0 10 ∧ cellsAt W g 0 10 = RA ∧ W.cell? ⟨g, 11, none⟩ = some (.slice b4 r.2.length q4)) := Lib.hid fun W h => by
              have h1 := CellsOk.of h.range
              rw [HRA.out] at h1
              have h2 : RA.size = 10 := by rw [← HRA.out]; rfl
              rw [h2] at h1
              exact ⟨h1.1, h1.2, h.cells.c11⟩
            have HTD := Lib.hid HT8.out.drew
            have HZD : Hid (SeAt w8.drew (w.heap.size + 2) q7 none 0 0) := Lib.hid HZ8.out
            have HBD : Hid (Below w.heap.size w w8.drew) := Lib.hid (HB10.out.trans ⟨rfl, rfl, rfl, Nat.le_refl _, fun _ _ => rfl⟩)
            refine wp_region_held_drew (S := (fun w' => CellsOk w' g 0 10 ∧ cellsAt w' g 0 10 = RA ∧ w'.cell? ⟨g, 11, none⟩ = some (.slice b4 r.2.length q4))) (by kernel_rfl) ?hs0 (fun hHeld => ?_)
            case hs0 => exact HCK.out _ HTD.out
            have HKD : Hid (RowAt encM w8.drew t d (reports os)) := Lib.hid (HTL8.out.later ⟨rfl, rfl, rfl, Nat.le_refl _, fun _ _ => rfl⟩)
            generalize w8.drew = wd at HTD HZD HBD HKD hHeld ⊢
            refine' wpAnyH_take (i := 0) (oi := _) (v := _) rfl (by kernel_rfl) (by kernel_rfl) (by kernel_rfl) (fun _ _ _ h => h) (Or.inl ⟨by rfl, ?hy⟩) (by assumption) ?_
            case hy => (intro w hSw; (try dsimp only at hSw); (try simp only [List.getElem_toArray, List.getElem_cons_zero]); go_simp; try with_reducible rfl)
            try simp only [List.getElem_toArray, List.getElem_cons_zero, Act.put, List.setIfInBounds_toArray, List.set_cons_zero, List.set_cons_succ]
            refine' wpAnyH_take (i := 1) (oi := _) (v := _) rfl (by kernel_rfl) (by kernel_rfl) (by kernel_rfl) (fun _ _ _ h => h) (Or.inl ⟨by rfl, ?hy⟩) (by assumption) ?_
            case hy => (intro w hSw; (try dsimp only at hSw); (try simp only [List.getElem_toArray, List.getElem_cons_zero, List.getElem_cons_succ]); go_simp; try with_reducible rfl)
            try simp only [List.getElem_toArray, List.getElem_cons_zero, List.getElem_cons_succ, Act.put, List.setIfInBounds_toArray, List.set_cons_zero, List.set_cons_succ]
            refine' wpAnyH_take (i := 2) (oi := _) (v := _) rfl (by kernel_rfl) (by kernel_rfl) (by kernel_rfl) (fun _ _ _ h => h) (Or.inl ⟨by rfl, ?hy⟩) (by assumption) ?_
            case hy => (intro w hSw; (try dsimp only at hSw); (try simp only [List.getElem_toArray, List.getElem_cons_zero, List.getElem_cons_succ]); go_simp; try with_reducible rfl)
            try simp only [List.getElem_toArray, List.getElem_cons_zero, List.getElem_cons_succ, Act.put, List.setIfInBounds_toArray, List.set_cons_zero, List.set_cons_succ]
            refine' wpAnyH_take (i := 3) (oi := _) (v := _) rfl (by kernel_rfl) (by kernel_rfl) (by kernel_rfl) (fun _ _ _ h => h) (Or.inl ⟨by rfl, ?hy⟩) (by assumption) ?_
            case hy => (intro w hSw; (try dsimp only at hSw); (try simp only [List.getElem_toArray, List.getElem_cons_zero, List.getElem_cons_succ]); go_simp; try with_reducible rfl)
            try simp only [List.getElem_toArray, List.getElem_cons_zero, List.getElem_cons_succ, Act.put, List.setIfInBounds_toArray, List.set_cons_zero, List.set_cons_succ]
            refine' wpAnyH_take (i := 4) (oi := _) (v := _) rfl (by kernel_rfl) (by kernel_rfl) (by kernel_rfl) (fun _ _ _ h => h) (Or.inl ⟨by rfl, ?hy⟩) (by assumption) ?_
            case hy => (intro w hSw; (try dsimp only at hSw); (try simp only [List.getElem_toArray, List.getElem_cons_zero, List.getElem_cons_succ]); go_simp; try with_reducible rfl)
            try simp only [List.getElem_toArray, List.getElem_cons_zero, List.getElem_cons_succ, Act.put, List.setIfInBounds_toArray, List.set_cons_zero, List.set_cons_succ]
            refine' wpAnyH_take (i := 5) (oi := _) (v := _) rfl (by kernel_rfl) (by kernel_rfl) (by kernel_rfl) (fun _ _ _ h => h) (Or.inl ⟨by rfl, ?hy⟩) (by assumption) ?_
            case hy => (intro w hSw; (try dsimp only at hSw); (try simp only [List.getElem_toArray, List.getElem_cons_zero, List.getElem_cons_succ]); go_simp; try with_reducible rfl)
            try simp only [List.getElem_toArray, List.getElem_cons_zero, List.getElem_cons_succ, Act.put, List.setIfInBounds_toArray, List.set_cons_zero, List.set_cons_succ]
            refine' wpAnyH_take (i := 6) (oi := _) (v := _) rfl (by kernel_rfl) (by kernel_rfl) (by kernel_rfl) (fun _ _ _ h => h) (Or.inl ⟨by rfl, ?hy⟩) (by assumption) ?_
            case hy => (intro w hSw; (try dsimp only at hSw); (try simp only [List.getElem_toArray, List.getElem_cons_zero, List.getElem_cons_succ]); go_simp; try with_reducible rfl)
            try simp only [List.getElem_toArray, List.getElem_cons_zero, List.getElem_cons_succ, Act.put, List.setIfInBounds_toArray, List.set_cons_zero, List.set_cons_succ]
            refine' wpAnyH_take (i := 7) (oi := _) (v := _) rfl (by kernel_rfl) (by kernel_rfl) (by kernel_rfl) (fun _ _ _ h => h) (Or.inl ⟨by rfl, ?hy⟩) (by assumption) ?_
            case hy => (intro w hSw; (try dsimp only at hSw); (try simp only [List.getElem_toArray, List.getElem_cons_zero, List.getElem_cons_succ]); go_simp; try with_reducible rfl)
            try simp only [List.getElem_toArray, List.getElem_cons_zero, List.getElem_cons_succ, Act.put, List.setIfInBounds_toArray, List.set_cons_zero, List.set_cons_succ]
            refine' wpAnyH_take (i := 8) (oi := _) (v := _) rfl (by kernel_rfl) (by kernel_rfl) (by kernel_rfl) (fun _ _ _ h => h) (Or.inl ⟨by rfl, ?hy⟩) (by assumption) ?_
            case hy => (intro w hSw; (try dsimp only at hSw); (try simp only [List.getElem_toArray, List.getElem_cons_zero, List.getElem_cons_succ]); go_simp; try with_reducible rfl)
            try simp only [List.getElem_toArray, List.getElem_cons_zero, List.getElem_cons_succ, Act.put, List.setIfInBounds_toArray, List.set_cons_zero, List.set_cons_succ]
            refine wpAnyH_ready (rs := [9]) (by kernel_rfl) (by simp) ?_
            refine AllReadyH.cons (o := _) rfl (fun K hK => ?_) AllReadyH.nil
            try simp only [List.getElem_toArray, List.getElem_cons_zero, List.getElem_cons_succ, Act.put]
            refine step_store_row rfl 28 (.tmp 6) (.tmp 99) rfl (w.heap.size + 2) RA rfl rfl _ _ HZD.out HRIA.out HRS.out HRO.out ?_
            have HTE := Lib.hid (HTD.out.setRow HZD.out (by have := HE0.out; omega) RA)
            refine hK.out _ _ ?hs1 (fun hHeld => ?_)
            case hs1 => exact HCK.out _ HTE.out
            clear hK K
            try simp only [Act.put]
            refine' wpAnyH_take (i := 10) (oi := _) (v := _) rfl (by kernel_rfl) (by kernel_rfl) (by kernel_rfl) (fun _ _ _ h => h) (Or.inl ⟨by rfl, ?hy⟩) (by assumption) ?_
            case hy => (intro w hSw; (try dsimp only at hSw); (try simp only [List.getElem_toArray, List.getElem_cons_zero, List.getElem_cons_succ]); go_simp; try with_reducible rfl)
            try simp only [List.getElem_toArray, List.getElem_cons_zero, List.getElem_cons_succ, Act.put, List.setIfInBounds_toArray, List.set_cons_zero, List.set_cons_succ]
            refine' wpAnyH_take (i := 11) (oi := _) (v := _) rfl (by kernel_rfl) (by kernel_rfl) (by kernel_rfl) (fun _ _ _ h => h) (Or.inl ⟨by rfl, ?hy⟩) (by assumption) ?_
            case hy => (intro w hSw; (try dsimp only at hSw); (try simp only [List.getElem_toArray, List.getElem_cons_zero, List.getElem_cons_succ]); go_simp; try with_reducible rfl)
            try simp only [List.getElem_toArray, List.getElem_cons_zero, List.getElem_cons_succ, Act.put, List.setIfInBounds_toArray, List.set_cons_zero, List.set_cons_succ]
            refine' wpAnyH_take (i := 12) (oi := _) (v := _) rfl (by kernel_rfl) (by kernel_rfl) (by kernel_rfl) (fun _ _ _ h => h) (Or.inl ⟨by rfl, ?hy⟩) (by assumption) ?_
            case hy => (intro w hSw; (try dsimp only at hSw); (try simp only [List.getElem_toArray, List.getElem_cons_zero, List.getElem_cons_succ]); go_simp; try with_reducible rfl)
            try simp only [List.getElem_toArray, List.getElem_cons_zero, List.getElem_cons_succ, Act.put, List.setIfInBounds_toArray, List.set_cons_zero, List.set_cons_succ]
            refine' wpAnyH_take (i := 13) (oi := _) (v := _) rfl (by kernel_rfl) (by kernel_rfl) (by kernel_rfl) (fun _ _ _ h => h) (Or.inl ⟨by rfl, ?hy⟩) (by assumption) ?_
            case hy => (intro w hSw; (try dsimp only at hSw); (try simp only [List.getElem_toArray, List.getElem_cons_zero, List.getElem_cons_succ]); go_simp; try with_reducible rfl)
            try simp only [List.getElem_toArray, List.getElem_cons_zero, List.getElem_cons_succ, Act.put, List.setIfInBounds_toArray, List.set_cons_zero, List.set_cons_succ]
            refine wpAnyH_done (by kernel_rfl) ?_ _
            go_wp2_with fail
            refine bodyPost_ret (end_pent rfl (w.heap.size + 2) _ _ _ _ HZD.out HRIA.out rfl) rfl ?_
            rw [HEQ2.out]
            exact fin_F b0 HTD.out HKD.out HZD.out HBD.out (Nat.le_add_right _ 2) false 0 RA HRA.out
end Ses
end Go.Proofs.Ytnmmokdkngccjaa

namespace Go.Proofs.Ytnmmokdkngccjaa
open Go.RowKit
namespace Ses
open Num
open Msg (I64)

theorem come_safe (b : Nat) (s : Se) (m : Msg.Ms) (hm : m.Fits) (now : Int) (a : Option Addr) (cap n : Nat) (hn : s.inn.held.length = n) (hn9 : n ≤ 100000000) (w : World) (hr : RowAt Rsq.encI w a cap s.inn.held) (_hs : SafeR b w a s.inn.held) (hl : Laid w) :
    Calls Try.prog 14 #[.agg (s.arr a n cap), .agg m.cells, .int .i64 now] w (GotF w b (comeS s m now)) := come_safe7 b s m hm now a cap n hn hn9 w hr hl
theorem come_any (s : Se) (m : Msg.Ms) (hm : m.Fits) (now : Int) (a : Option Addr) (cap n : Nat) (hn : s.inn.held.length = n) (hn9 : n ≤ 100000000) (w : World) (hr : RowAt Rsq.encI w a cap s.inn.held) (hl : Laid w) :
    Calls Try.prog 14 #[.agg (s.arr a n cap), .agg m.cells, .int .i64 now] w (GotC w (comeS s m now)) :=
  (come_safe7 0 s m hm now a cap n hn hn9 w hr hl).mono fun _ _ ⟨a, c, d, f, p, q, _, he, hk, h1, _, h2, h3, h4⟩ => ⟨a, c, d, f, p, q, by rw [he, hk], h1, h2, h3, h4⟩

end Ses
end Go.Proofs.Ytnmmokdkngccjaa
