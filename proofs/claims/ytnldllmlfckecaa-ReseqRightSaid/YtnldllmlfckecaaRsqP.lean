/-
  The program's layer 6: Come and Gap.
-/
import Derived.Test.YtnldllmlfckecaaRsqPb
import Derived.Test.YtnldllmlfckecaaRsqPc
import Derived.Test.YtnldllmlfckecaaRsqPd
namespace Go.Proofs.Ytnldllmlfckecaa
open Go.RowKit
namespace Rsq
open Num
open Msg (I64)

theorem take_is (l : Li) (x : It) (LA XA : Array Value) (a : Option Addr) (cap n : Nat) (hLA : #[.int .i64 l.next, .slice a n cap] = LA) (hXA : x.arr = XA) (hn : l.held.length = n) (hn9 : n ≤ 1000) (r : Li × List It) (hr : takeL l x = r) (w : World) (hrow : RowAt encI w a cap l.held) :
    Calls Try.prog 18 #[.agg LA, .agg XA] w (GotT w r) := by
  subst hr
  exact take_any l x LA XA a cap n hLA hXA hn hn9 w hrow
theorem right_c (c : Array Value) (l : Li) (a : Option Addr) (cap n : Nat) (hc : #[.int .i64 l.next, .slice a n cap] = c) (hn : l.held.length = n) (hn9 : n ≤ 100000000) (w : World) (hr : RowAt encI w a cap l.held) (hl : Laid w) (o : Bool) (ho : rightL l = o) :
    Calls Try.prog 14 #[.agg c] w fun e w' => e = .returned (.bool o) ∧ Below w.heap.size w w' := by
  subst hc ho
  exact right_any l a cap n hn hn9 w hr hl
theorem grown_setRow (w : World) (g : Nat) (cs : Array Value) : w.grownBy (w.setRow g cs) (some g) := ⟨rfl, rfl, rfl, by simp [World.setRow], fun j _ hj => setRow_other w g j cs (fun e => hj (by rw [e]))⟩
/-- rows of items stand over a store into a line's block -/
theorem row_line {w : World} {g cap : Nat} {a : Option Addr} {h : List It} {cs : Array Value} {t : TypeId} {fz : Nat × Nat} (hr : RowAt encI w a cap h) (hg : w.heap[g]? = some (.cells cs t fz)) (hs : cs.size = 2) (new : Array Value) : RowAt encI (w.setRow g new) a cap h :=
  hr.grown (grown_setRow w g new) (hr.apart (by decide) hg (by rw [hs]; decide))

set_option maxRecDepth 100000 in
set_option maxHeartbeats 16000000 in
theorem come_any (l : Li) (x : It) (a : Option Addr) (cap n : Nat) (hn : l.held.length = n) (hn9 : n ≤ 100000000) (w : World) (hr : RowAt encI w a cap l.held) (hl : Laid w) :
    Calls Try.prog 8 #[.agg #[.int .i64 l.next, .slice a n cap], .agg x.arr] w (GotC w (come l x)) := by
  obtain ⟨nx, h⟩ := l
  dsimp only at hn hr ⊢
  have HR := Lib.hid hr
  have HN := Lib.hid hn
  have HL := Lib.hid hl
  obtain ⟨LA, hLA⟩ : ∃ X : Array Value, #[.int .i64 nx, .slice a n cap] = X := ⟨_, rfl⟩
  obtain ⟨XA, hXA⟩ : ∃ X, x.arr = X := ⟨_, rfl⟩
  have hiX : (Try.prog.info? 30).map (·.size) = some XA.size := by rw [← hXA]; kernel_rfl
  have HLA := Lib.hid hLA
  have HXA := Lib.hid hXA
  have HXF : Hid (20 = XA.size ∧ XA.toList = encI.of x) := Lib.hid (by rw [← hXA]; exact ⟨rfl, rfl⟩)
  have HXV : Hid (XA[0]? = some (.int .i64 x.fr) ∧ XA[1]? = some (.int .i64 x.to)) := Lib.hid (by rw [← hXA]; exact ⟨rfl, rfl⟩)
  have hxs : XA.size = 20 := HXF.out.1.symm
  rw [hLA, hXA]
  clear hr hn hl hLA hXA
  have e1 : (w.alloc (.cells LA 24)).heap.size = w.heap.size + 1 := by simp
  have e2 : ((w.alloc (.cells LA 24)).alloc (.cells XA 30)).heap.size = w.heap.size + 2 := by simp
  obtain ⟨ZL, hZL⟩ : ∃ Z : Array Value, #[.int .i64 0, .slice none 0 0] = Z := ⟨_, rfl⟩
  have HB0 : Hid (Below w.heap.size w (((w.alloc (.cells LA 24)).alloc (.cells XA 30)).alloc (.cells ZL 24))) := Lib.hid ((((Below.refl _ _).alloc (Nat.le_refl _) _).alloc (by rw [e1]; omega) _).alloc (by rw [e2]; omega) _)
  have HX0 : Hid ((((w.alloc (.cells LA 24)).alloc (.cells XA 30)).alloc (.cells ZL 24)).heap[w.heap.size]? = some (.cells LA 24 (0, 0)) ∧
      (((w.alloc (.cells LA 24)).alloc (.cells XA 30)).alloc (.cells ZL 24)).heap[w.heap.size + 1]? = some (.cells XA 30 (0, 0)) ∧
      (((w.alloc (.cells LA 24)).alloc (.cells XA 30)).alloc (.cells ZL 24)).heap[w.heap.size + 2]? = some (.cells ZL 24 (0, 0))) := Lib.hid
    ⟨alloc_block (alloc_block (heap_alloc_new w _)), alloc_block (by have h := heap_alloc_new (w.alloc (.cells LA 24)) (.cells XA 30); rwa [e1] at h), by
      have h := heap_alloc_new ((w.alloc (.cells LA 24)).alloc (.cells XA 30)) (.cells ZL 24)
      rwa [e2] at h⟩
  have HS0 : Hid (w.heap.size + 3 ≤ (((w.alloc (.cells LA 24)).alloc (.cells XA 30)).alloc (.cells ZL 24)).heap.size) := Lib.hid (by simp)
  clear e1 e2
  go_enter Try.func8, Try.ntmps8
  go_upto_region 1 with fail
  try rw [hZL]
  generalize ((w.alloc (.cells LA 24)).alloc (.cells XA 30)).alloc (.cells ZL 24) = w0 at HB0 HX0 HS0 ⊢
  have HSZ3 : Hid (ZL.size = 2) := Lib.hid (by rw [← hZL]; rfl)
  clear hZL
  have S0 : Hid (Lp w w0 w0.heap.size #[.int .i64 nx, .slice a n cap] XA ZL) := Lib.hid ⟨HB0.out, by rw [HLA.out]; exact HX0.out.1, HX0.out.2.1, HX0.out.2.2, Nat.le_refl _, HS0.out⟩
  have z1 : w0.cell? ⟨w.heap.size, 1, none⟩ = some (.slice a n cap) := (S0.out.cell 1).1
  clear HB0 HX0 HS0 HLA
  go_wp2_with fail
  refine (clone_any h a cap n HN.out hn9 _ (HR.out.later S0.out.b)).mono ?_
  rintro e w1 ⟨v, rfl, hown, hb1⟩
  obtain ⟨a2, c2, hv, -⟩ := hown.row
  rw [HN.out] at hv
  subst hv
  have HO1 := Lib.hid hown
  have S1 := Lib.hid (S0.out.later hb1)
  clear hown hb1 z1 S0 HR
  obtain ⟨zz1, f1, s1⟩ := S1.out.cell 1
  have z1 : w1.cell? ⟨w.heap.size, 1, none⟩ = some (.slice a n cap) := zz1
  clear zz1
  have S2 := Lib.hid (S1.out.set 1 (.slice a2 n c2) #[.int .i64 nx, .slice a2 n c2] rfl)
  have HO2 := Lib.hid (HO1.out.set (g := w.heap.size) (i := 1) (u := .slice a2 n c2) (by have := S1.out.t; omega))
  go_upto_region 2 with fail
  generalize w1.setCell ⟨w.heap.size, 1, none⟩ (.slice a2 n c2) = w2 at S2 HO2 ⊢
  clear z1 f1 s1 S1 HO1
  have hiB : (Try.prog.info? 24).map (·.size) = some (#[.int .i64 nx, .slice a2 n c2] : Array Value).size := by kernel_rfl
  obtain ⟨br, hbr⟩ : ∃ b, rightL ⟨nx, h⟩ = b := ⟨_, rfl⟩
  obtain ⟨bm, hbm⟩ : ∃ b, mayI x = b := ⟨_, rfl⟩
  go_wp2_with (refine wpList_load_arr_g (by rfl) 24 _ rfl w.heap.size 0 rfl #[.int .i64 nx, .slice a2 n c2] _ (block_range S2.out.l) Try.underlying24 rfl hiB ?_)
  refine (right_c _ ⟨nx, h⟩ a2 c2 n rfl HN.out hn9 _ HO2.out.at.2 (HL.out.below S2.out.b) _ hbr).mono ?_
  rintro e w3 ⟨rfl, hb3⟩
  have S3 := Lib.hid (S2.out.later (hb3.mono S2.out.s))
  have HO3 := Lib.hid (HO2.out.kept hb3)
  clear hb3 S2 HO2
  cases br
  · have HC : Hid (come ⟨nx, h⟩ x = (⟨nx, h⟩, [], 0)) := Lib.hid (by unfold come; rw [if_pos (.inl hbr)])
    clear hbr hbm
    go_wp2_with (first | (refine wpList_load_arr_g (by rfl) 24 _ rfl w.heap.size 0 rfl #[.int .i64 nx, .slice a2 n c2] _ (block_range S3.out.l) Try.underlying24 rfl hiB ?_) | (refine wpList_store_row rfl 24 _ _ rfl (w.heap.size + 1 + 1) #[.int .i64 nx, .slice a2 n c2] rfl rfl _ _ S3.out.z hiB HSZ3.out (li_one _ _ _ _) ?_))
    refine bodyPost_ret (line_end rfl (w.heap.size + 1 + 1) _ _ _ _ S3.out.z rfl rfl) rfl ?_
    exact S3.out.told HO3.out (OwnE.nil _ _ _ _) HC.out _
  go_wp2_with (refine wpList_load_arr_g (by rfl) 30 _ rfl (w.heap.size + 1) 0 rfl XA _ (block_range S3.out.x) Try.underlying30 rfl hiX ?_)
  refine (pmay_is XA x HXA.out.symm _ hbm _ (HL.out.below S3.out.b)).mono ?_
  rintro e w4 ⟨rfl, hb4⟩
  have S4 := Lib.hid (S3.out.later (hb4.mono S3.out.s))
  have HO4 := Lib.hid (HO3.out.kept hb4)
  clear hb4 S3 HO3
  cases bm
  · have HC : Hid (come ⟨nx, h⟩ x = (⟨nx, h⟩, [], 0)) := Lib.hid (by unfold come; rw [if_pos (.inr hbm)])
    clear hbr hbm
    go_wp2_with (first | (refine wpList_load_arr_g (by rfl) 24 _ rfl w.heap.size 0 rfl #[.int .i64 nx, .slice a2 n c2] _ (block_range S4.out.l) Try.underlying24 rfl hiB ?_) | (refine wpList_store_row rfl 24 _ _ rfl (w.heap.size + 1 + 1) #[.int .i64 nx, .slice a2 n c2] rfl rfl _ _ S4.out.z hiB HSZ3.out (li_one _ _ _ _) ?_))
    refine bodyPost_ret (line_end rfl (w.heap.size + 1 + 1) _ _ _ _ S4.out.z rfl rfl) rfl ?_
    exact S4.out.told HO4.out (OwnE.nil _ _ _ _) HC.out _
  have HCM : Hid (come ⟨nx, h⟩ x = if x.to ≤ nx then (⟨nx, h⟩, [], 3)
      else if nx < x.fr then (if has x h = true then (⟨nx, h⟩, [], 3) else if 64 ≤ h.length then (⟨nx, h⟩, [], 4) else (⟨nx, ins x h⟩, [], 2))
      else (⟨(drain x.to h).2.1, (drain x.to h).2.2⟩, x :: (drain x.to h).1, 1)) := Lib.hid (by unfold come; rw [if_neg (by rw [hbr, hbm]; simp)])
  have ⟨_, _, r3, r4⟩ := (right_iff _).1 hbr
  have HRI := Lib.hid r4
  have hn6 : n ≤ 64 := by rw [← HN.out]; exact r3
  clear hbr hbm r3 r4
  have k0 : w4.cell? ⟨w.heap.size, 0, none⟩ = some (.int .i64 nx) := (S4.out.cell 0).1
  have k2 : w4.cell? ⟨w.heap.size + 1, 0, none⟩ = some (.int .i64 x.fr) := cell_at S4.out.x HXV.out.1
  have k3 : w4.cell? ⟨w.heap.size + 1, 1, none⟩ = some (.int .i64 x.to) := cell_at S4.out.x HXV.out.2
  by_cases q1 : x.to ≤ nx
  · have HC : Hid (come ⟨nx, h⟩ x = (⟨nx, h⟩, [], 3)) := Lib.hid (by rw [HCM.out, if_pos q1])
    go_wp2_with (first | (refine wpList_load_arr_g (by rfl) 24 _ rfl w.heap.size 0 rfl #[.int .i64 nx, .slice a2 n c2] _ (block_range S4.out.l) Try.underlying24 rfl hiB ?_) | (refine wpList_store_row rfl 24 _ _ rfl (w.heap.size + 1 + 1) #[.int .i64 nx, .slice a2 n c2] rfl rfl _ _ S4.out.z hiB HSZ3.out (li_one _ _ _ _) ?_))
    refine bodyPost_ret (line_end rfl (w.heap.size + 1 + 1) _ _ _ _ S4.out.z rfl rfl) rfl ?_
    exact S4.out.told HO4.out (OwnE.nil _ _ _ _) HC.out _
  by_cases q2 : x.fr ≤ nx
  · obtain ⟨r, hrr⟩ : ∃ r, takeL ⟨nx, h⟩ x = r := ⟨_, rfl⟩
    have HC : Hid (come ⟨nx, h⟩ x = (r.1, r.2, 1)) := Lib.hid (by rw [HCM.out, if_neg q1, if_neg (by omega), ← hrr]; rfl)
    have HTR := Lib.hid hrr
    clear hrr
    go_wp2_with (first | (refine wpList_load_arr_g (by rfl) 24 _ rfl w.heap.size 0 rfl #[.int .i64 nx, .slice a2 n c2] _ (block_range S4.out.l) Try.underlying24 rfl hiB ?_) | (refine wpList_load_arr_g (by rfl) 30 _ rfl (w.heap.size + 1) 0 rfl XA _ (block_range S4.out.x) Try.underlying30 rfl hiX ?_))
    refine (take_is ⟨nx, h⟩ x _ XA a2 c2 n rfl HXA.out HN.out (by omega) r HTR.out _ HO4.out.at.2).mono ?_
    obtain ⟨⟨nx2, hs2⟩, os2⟩ := r
    rintro e w5 ⟨ta, tc, tb, td, rfl, hr1, hr2, hb5⟩
    dsimp only at hr1 hr2 ⊢
    have HR1 := Lib.hid hr1
    have HR2 := Lib.hid hr2
    have S5 := Lib.hid (S4.out.later (hb5.mono S4.out.s))
    clear hr1 hr2 hb5 S4 HO4 k0 k2 k3
    obtain ⟨m1, hm1⟩ : ∃ m, hs2.length = m := ⟨_, rfl⟩
    obtain ⟨m2, hm2⟩ : ∃ m, os2.length = m := ⟨_, rfl⟩
    have HM1 := Lib.hid hm1
    have HM2 := Lib.hid hm2
    rw [hm1, hm2]
    clear hm1 hm2
    obtain ⟨TL, hTL⟩ : ∃ T : Array Value, #[.int .i64 nx2, .slice ta m1 tc] = T := ⟨_, rfl⟩
    have hiT : (Try.prog.info? 24).map (·.size) = some TL.size := by rw [← hTL]; kernel_rfl
    have HT2 : Hid (2 = TL.size ∧ TL.all (·.oneCell') = true ∧ TL.size = 2) := Lib.hid (by rw [← hTL]; exact ⟨rfl, li_one _ _ _ _, rfl⟩)
    have HTL := Lib.hid hTL
    rw [hTL]
    clear hTL
    go_upto_region 8 with (refine wpList_store_row rfl 24 _ _ rfl w5.heap.size TL rfl rfl _ _ (heap_alloc_last _ _) hiT HT2.out.1 HT2.out.2.1 ?_; rw [World.setRow_alloc_new])
    obtain ⟨p, hp⟩ : ∃ p, w5.heap.size = p := ⟨_, rfl⟩
    have HPB : Hid ((w5.alloc (.cells TL 24)).heap[p]? = some (.cells TL 24 (0, 0))) := Lib.hid (hp ▸ heap_alloc_new _ _)
    have hbl : Below w5.heap.size w5 (w5.alloc (.cells TL 24)) := (Below.refl _ _).alloc (Nat.le_refl _) _
    have S6 := Lib.hid (S5.out.later (hbl.mono S5.out.s))
    have HR3 := Lib.hid (HR1.out.later hbl)
    have HR4 := Lib.hid (HR2.out.later hbl)
    clear hbl S5 HR1 HR2
    rw [hp]
    generalize w5.alloc (.cells TL 24) = w6 at HPB S6 HR3 HR4 ⊢
    clear hp
    have HPR := Lib.hid (block_range HPB.out)
    have HZT : Hid (ZL.size = TL.size) := Lib.hid (by rw [HSZ3.out, HT2.out.2.2])
    go_wp2_with (first | (refine wpList_load_arr_g (by rfl) 24 _ rfl p 0 rfl TL _ HPR.out Try.underlying24 rfl hiT ?_) | (refine wpList_store_row rfl 24 _ _ rfl (w.heap.size + 1 + 1) TL rfl rfl _ _ S6.out.z hiT HZT.out HT2.out.2.1 ?_))
    refine bodyPost_ret (line_end rfl (w.heap.size + 1 + 1) _ TL _ _ S6.out.z HT2.out.2.2 rfl) rfl ?_
    rw [← HTL.out, HC.out]
    refine ⟨ta, tc, tb, td, ?_, row_line HR3.out S6.out.z HSZ3.out _, row_line HR4.out S6.out.z HSZ3.out _, below_setRow S6.out.b (by omega) _⟩
    dsimp only
    rw [HM1.out, HM2.out]
    rfl
  have k1 : w4.cell? ⟨w.heap.size, 1, none⟩ = some (.slice a2 n c2) := (S4.out.cell 1).1
  go_wp2_with (refine wpList_load_arr_g (by rfl) 30 _ rfl (w.heap.size + 1) 0 rfl XA _ (block_range S4.out.x) Try.underlying30 rfl hiX ?_)
  refine (bsf_any h nx HRI.out x XA HXA.out.symm a2 c2 n HN.out hn9 _ HO4.out.at.2).mono ?_
  rintro e w5 ⟨i, f, rfl, hi, hcu, hf1, hf2, hb5⟩
  have S5 := Lib.hid (S4.out.later (hb5.mono S4.out.s))
  have HO5 := Lib.hid (HO4.out.kept hb5)
  have HCU := Lib.hid hcu
  have HF := Lib.hid (And.intro hf1 hf2)
  clear hb5 S4 HO4 k0 k1 k2 k3 hcu hf1 hf2
  cases f
  · have HNO : Hid (has x h = false) := Lib.hid (cut_hasnt HRI.out HCU.out (HF.out.2 rfl))
    have HIN : Hid (ins x h = h.take i ++ x :: h.drop i) := Lib.hid (cut_ins (by rw [HN.out]; exact hi) HCU.out (HF.out.2 rfl))
    have k1 : w5.cell? ⟨w.heap.size, 1, none⟩ = some (.slice a2 n c2) := (S5.out.cell 1).1
    obtain ⟨b4, q4⟩ : ∃ b, ((n : Int) == 64) = b := ⟨_, rfl⟩
    have HQ : Hid ((b4 = true → n = 64) ∧ (b4 = false → n ≠ 64)) := Lib.hid (by
      subst q4
      exact ⟨fun e => by have : (n : Int) = 64 := by simpa using e
                         omega, fun e => by have : ¬ (n : Int) = 64 := by simpa using e
                                            omega⟩)
    cases b4
    rotate_left
    · have HC : Hid (come ⟨nx, h⟩ x = (⟨nx, h⟩, [], 4)) := Lib.hid (by rw [HCM.out, if_neg (by omega), if_pos (by omega), if_neg (by rw [HNO.out]; simp), if_pos (by rw [HN.out, HQ.out.1 rfl]; exact Nat.le_refl _)])
      go_wp2_with (first | (refine wpList_load_arr_g (by rfl) 24 _ rfl w.heap.size 0 rfl #[.int .i64 nx, .slice a2 n c2] _ (block_range S5.out.l) Try.underlying24 rfl hiB ?_) | (refine wpList_store_row rfl 24 _ _ rfl (w.heap.size + 1 + 1) #[.int .i64 nx, .slice a2 n c2] rfl rfl _ _ S5.out.z hiB HSZ3.out (li_one _ _ _ _) ?_))
      refine bodyPost_ret (line_end rfl (w.heap.size + 1 + 1) _ _ _ _ S5.out.z rfl rfl) rfl ?_
      exact S5.out.told HO5.out (OwnE.nil _ _ _ _) HC.out _
    · have HC : Hid (come ⟨nx, h⟩ x = (⟨nx, ins x h⟩, [], 2)) := Lib.hid (by rw [HCM.out, if_neg (by omega), if_pos (by omega), if_neg (by rw [HNO.out]; simp), if_neg (by have := HQ.out.2 rfl; rw [HN.out]; omega)])
      go_wp2_with (refine wpList_load_arr_g (by rfl) 30 _ rfl (w.heap.size + 1) 0 rfl XA _ (block_range S5.out.x) Try.underlying30 rfl hiX ?_)
      rw [fill_all (k := 20) (Y := XA) rfl hxs]
      have hbl : Below w5.heap.size w5 (w5.alloc (.cells XA 30)) := (Below.refl _ _).alloc (Nat.le_refl _) _
      refine (insert_any h x XA HXF.out.2 n i HN.out hi (by omega) a2 c2 _ w0.heap.size (Nat.le_trans S5.out.s (by simp)) (HO5.out.kept hbl) w5.heap.size (heap_alloc_new _ _) (fun e => Nat.lt_irrefl _ (HO5.out.lt _ e).2)).mono ?_
      rintro e w6 ⟨v, rfl, hown, hb6⟩
      rw [← HIN.out] at hown
      have S6 := Lib.hid ((S5.out.later (hbl.mono S5.out.s)).later hb6)
      obtain ⟨a3, c3, rfl, -⟩ := hown.row
      obtain ⟨m, hm⟩ : ∃ m, (ins x h).length = m := ⟨_, rfl⟩
      rw [hm] at hown ⊢
      have HO6 := Lib.hid hown
      clear hown hb6 hbl hm k1 S5 HO5
      obtain ⟨zz1, f1, s1⟩ := S6.out.cell 1
      have z1 : w6.cell? ⟨w.heap.size, 1, none⟩ = some (.slice a2 n c2) := zz1
      clear zz1
      have S7 := Lib.hid (S6.out.set 1 (.slice a3 m c3) #[.int .i64 nx, .slice a3 m c3] rfl)
      have HO7 := Lib.hid (HO6.out.set (g := w.heap.size) (i := 1) (u := .slice a3 m c3) (by have := S6.out.t; omega))
      go_upto_region 15 with fail
      generalize w6.setCell ⟨w.heap.size, 1, none⟩ (.slice a3 m c3) = w7 at S7 HO7 ⊢
      clear z1 f1 s1 S6 HO6
      have hiC : (Try.prog.info? 24).map (·.size) = some (#[.int .i64 nx, .slice a3 m c3] : Array Value).size := by kernel_rfl
      go_wp2_with (first | (refine wpList_load_arr_g (by rfl) 24 _ rfl w.heap.size 0 rfl #[.int .i64 nx, .slice a3 m c3] _ (block_range S7.out.l) Try.underlying24 rfl hiC ?_) | (refine wpList_store_row rfl 24 _ _ rfl (w.heap.size + 1 + 1) #[.int .i64 nx, .slice a3 m c3] rfl rfl _ _ S7.out.z hiC HSZ3.out (li_one _ _ _ _) ?_))
      refine bodyPost_ret (line_end rfl (w.heap.size + 1 + 1) _ _ _ _ S7.out.z rfl rfl) rfl ?_
      exact S7.out.told HO7.out (OwnE.nil _ _ _ _) HC.out _
  · have HC : Hid (come ⟨nx, h⟩ x = (⟨nx, h⟩, [], 3)) := Lib.hid (by
      obtain ⟨y, hy, he⟩ := HF.out.1 rfl
      rw [HCM.out, if_neg (by omega), if_pos (by omega), if_pos (cut_has hy he)])
    go_wp2_with (first | (refine wpList_load_arr_g (by rfl) 24 _ rfl w.heap.size 0 rfl #[.int .i64 nx, .slice a2 n c2] _ (block_range S5.out.l) Try.underlying24 rfl hiB ?_) | (refine wpList_store_row rfl 24 _ _ rfl (w.heap.size + 1 + 1) #[.int .i64 nx, .slice a2 n c2] rfl rfl _ _ S5.out.z hiB HSZ3.out (li_one _ _ _ _) ?_))
    refine bodyPost_ret (line_end rfl (w.heap.size + 1 + 1) _ _ _ _ S5.out.z rfl rfl) rfl ?_
    exact S5.out.told HO5.out (OwnE.nil _ _ _ _) HC.out _

set_option maxRecDepth 100000 in
set_option maxHeartbeats 4000000 in
theorem gap_any (l : Li) (a : Option Addr) (cap n : Nat) (hn : l.held.length = n) (hn9 : n ≤ 100000000) (w : World) (hr : RowAt encI w a cap l.held) (hl : Laid w) :
    Calls Try.prog 10 #[.agg #[.int .i64 l.next, .slice a n cap]] w (GotG w (gapL l)) := by
  obtain ⟨nx, h⟩ := l
  dsimp only at hn hr ⊢
  have HR := Lib.hid hr
  have HN := Lib.hid hn
  have HL := Lib.hid hl
  have hiB : (Try.prog.info? 24).map (·.size) = some (#[.int .i64 nx, .slice a n cap] : Array Value).size := by kernel_rfl
  obtain ⟨LA, hLA⟩ : ∃ X : Array Value, #[.int .i64 nx, .slice a n cap] = X := ⟨_, rfl⟩
  rw [hLA] at hiB ⊢
  have HLA := Lib.hid hLA
  have l0 : LA[0]? = some (.int .i64 nx) := by rw [← hLA]; rfl
  have l1 : LA[1]? = some (.slice a n cap) := by rw [← hLA]; rfl
  clear hr hn hl hLA
  have HX0 : Hid ((w.alloc (.cells LA 24)).heap[w.heap.size]? = some (.cells LA 24 (0, 0))) := Lib.hid (heap_alloc_new w _)
  have HB0 : Hid (Below w.heap.size w (w.alloc (.cells LA 24))) := Lib.hid ((Below.refl _ _).alloc (Nat.le_refl _) _)
  go_enter Try.func10, Try.ntmps10
  go_upto_region 1 with fail
  generalize w.alloc (.cells LA 24) = w0 at HX0 HB0 ⊢
  obtain ⟨br, hbr⟩ : ∃ b, rightL ⟨nx, h⟩ = b := ⟨_, rfl⟩
  have HXR := Lib.hid (block_range HX0.out)
  go_wp2_with (refine wpList_load_arr_g (by rfl) 24 _ rfl w.heap.size 0 rfl LA _ HXR.out Try.underlying24 rfl hiB ?_)
  refine (right_c LA ⟨nx, h⟩ a cap n HLA.out HN.out hn9 _ (HR.out.later HB0.out) (HL.out.below HB0.out) _ hbr).mono ?_
  rintro e w1 ⟨rfl, hb1⟩
  have HB1 := Lib.hid (HB0.out.trans (hb1.mono HB0.out.size))
  have k0 := cell_at (below_block HX0.out hb1) l0
  have k1 := cell_at (below_block HX0.out hb1) l1
  clear hb1 l0 l1
  cases br
  · have HG : Hid (gapL ⟨nx, h⟩ = (0, 0, false)) := Lib.hid (gap_none hbr)
    clear hbr
    go_wp2_with fail
    go_ret3
    exact ⟨congrArg (fun r : Int × Int × Bool => Ending.returned (.tuple #[.int .i64 r.1, .int .i64 r.2.1, .bool r.2.2])) HG.out.symm, HB1.out⟩
  · cases h with
    | nil =>
      have HG : Hid (gapL ⟨nx, []⟩ = (0, 0, false)) := Lib.hid (gap_nil rfl)
      obtain rfl : 0 = n := HN.out
      clear hbr
      go_wp2_with fail
      go_ret3
      exact ⟨congrArg (fun r : Int × Int × Bool => Ending.returned (.tuple #[.int .i64 r.1, .int .i64 r.2.1, .bool r.2.2])) HG.out.symm, HB1.out⟩
    | cons y r =>
      have HG : Hid (gapL ⟨nx, y :: r⟩ = (nx, y.fr - 1, true)) := Lib.hid (gap_some hbr rfl)
      have ⟨_, _, _, r4⟩ := (right_iff _).1 hbr
      have ⟨m1, m2, m3⟩ := (may_iff y).1 (rise_cons.1 r4).1
      unfold top at m3
      have q1 : ((n : Int) == 0) = false := by
        have := HN.out
        rw [List.length_cons] at this
        rw [beq_eq_false_iff_ne]
        omega
      have q2 : 0 < n := by
        have := HN.out
        rw [List.length_cons] at this
        omega
      have hcap : n ≤ cap := by
        rcases HR.out with ⟨_, h, _⟩ | ⟨_, _, h, _⟩
        · cases h
        · rwa [HN.out] at h
      obtain ⟨b, off, rfl, _⟩ := HR.out.at (by simp) (by decide)
      have k4 : w1.cell? ⟨b, off, none⟩ = some (.int .i64 y.fr) := by
        have := item_at (HR.out.later HB1.out) (k := 0) (x := y) rfl 0 _ rfl
        rwa [Nat.zero_mul, Nat.add_zero] at this
      clear hbr r4
      go_upto_region 3 with fail
      go_quiet (fail)
      have HB2 : Hid (Below w.heap.size w (w1.drewN nq)) := Lib.hid (HB1.out.trans ⟨rfl, rfl, rfl, Nat.le_refl _, fun _ _ => rfl⟩)
      generalize w1.drewN nq = w2 at HB2 ⊢
      go_wp2_with fail
      go_ret3
      exact ⟨congrArg (fun r : Int × Int × Bool => Ending.returned (.tuple #[.int .i64 r.1, .int .i64 r.2.1, .bool r.2.2])) HG.out.symm, HB2.out⟩

end Rsq
end Go.Proofs.Ytnldllmlfckecaa
