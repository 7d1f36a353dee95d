/-
  The program's layer 6: slices.Insert of one item into a row of the call's own: at the end, in place, in new memory.
-/
import Derived.Test.YtnldllmlfckecaaRsqPa
import Derived.Test.YtnldllmlfckecaaCpy
import Derived.Lib.Overlaps
import Derived.Lib.AppendZerosOnto
import Derived.Laws.NewBlocks
namespace Go.Proofs.Ytnldllmlfckecaa
open Go.RowKit
namespace Rsq
open Num
open Msg (I64)

/-- what Insert tells: a row of the call's own with x at its place -/
def GotI (w : World) (base : Nat) (l : List It) (e : Ending) (w' : World) : Prop := ∃ v, e = .returned v ∧ OwnE encI 30 w' base v l ∧ Below base w w'

set_option maxRecDepth 100000 in
set_option maxHeartbeats 8000000 in
/-- at the end -/
theorem insert_end (h : List It) (x : It) (XA : Array Value) (hX : XA.toList = encI.of x) (n : Nat) (hn : h.length = n) (hn9 : n ≤ 1000) (a : Option Addr) (cap : Nat) (w : World) (base : Nat) (hb : base ≤ w.heap.size)
    (ho : OwnE encI 30 w base (.slice a n cap) h) (vb : Nat) (hv : w.heap[vb]? = some (.cells XA 30 (0, 0))) :
    Calls Try.prog 21 #[.slice a n cap, .int .i64 n, .slice (some ⟨vb, 0, none⟩) 1 1] w (GotI w base (h ++ [x])) := by
  obtain ⟨j0, hi0, hz0, hz1, hz2⟩ := info_parts infoI
  have HJ0 := Lib.hid hi0
  have HY0 := Lib.hid hz0
  have HY1 := Lib.hid hz1
  have HY2 := Lib.hid hz2
  have HO := Lib.hid ho
  have HN := Lib.hid hn
  have HV : Hid (RowAt encI w (some ⟨vb, 0, none⟩) 1 [x]) := Lib.hid (row_block encI hv [x] (by rw [hX]; simp) 1 (by simp))
  have hc := ho.at.2
  clear hi0 hz0 hz1 hz2 ho hn hv
  have hnil : a = none → n = 0 ∧ cap = 0 := fun e => by
    rcases hc with ⟨_, h2, h3⟩ | ⟨_, h2, _⟩
    · exact ⟨by rw [← HN.out, h2]; rfl, h3⟩
    · rw [e] at h2; cases h2
  have hcap : n ≤ cap := by
    rcases hc with ⟨_, h2, _⟩ | ⟨_, _, h2, _⟩
    · have := HN.out; rw [h2] at this; simp at this; omega
    · rwa [HN.out] at h2
  clear hc
  cases a with
  | none =>
    obtain ⟨rfl, rfl⟩ := hnil rfl
    go_enter Try.func21, Try.ntmps21
    go_wp2_with (at_builtin; refine wpList_append_row encI (by decide) rfl (.tmp 23) (.tmp 24) _ rfl base 30 j0 _ 208 Try.underlying22 HJ0.out HY0.out HY1.out HY2.out (by rfl) _ h rfl HO.out _ _ _ [x] rfl (by rfl) HV.out (by rw [HN.out]; simp only [List.length_cons, List.length_nil, maxLen]; omega) (by rw [HN.out]; simp only [List.length_cons, List.length_nil]; omega) hb ?_; intro v2 w2 hown2 hb2; have HO2 := Lib.hid hown2; have HB2 := Lib.hid hb2; clear hown2 hb2)
    go_ret
    exact ⟨_, rfl, HO2.out, HB2.out⟩
  | some y =>
    clear hnil
    obtain ⟨yb, yo, ys⟩ := y
    by_cases hcn : cap = n
    · subst hcn
      go_enter Try.func21, Try.ntmps21
      go_wp2_with (at_builtin; refine wpList_append_row encI (by decide) rfl (.tmp 23) (.tmp 24) _ rfl base 30 j0 _ 208 Try.underlying22 HJ0.out HY0.out HY1.out HY2.out (by rfl) _ h rfl HO.out _ _ _ [x] rfl (by rfl) HV.out (by rw [HN.out]; simp only [List.length_cons, List.length_nil, maxLen]; omega) (by rw [HN.out]; simp only [List.length_cons, List.length_nil]; omega) hb ?_; intro v2 w2 hown2 hb2; have HO2 := Lib.hid hown2; have HB2 := Lib.hid hb2; clear hown2 hb2)
      go_ret
      exact ⟨_, rfl, HO2.out, HB2.out⟩
    · go_enter Try.func21, Try.ntmps21
      go_wp2_with (at_builtin; refine wpList_append_row encI (by decide) rfl (.tmp 23) (.tmp 24) _ rfl base 30 j0 _ 208 Try.underlying22 HJ0.out HY0.out HY1.out HY2.out (by rfl) _ h rfl HO.out _ _ _ [x] rfl (by rfl) HV.out (by rw [HN.out]; simp only [List.length_cons, List.length_nil, maxLen]; omega) (by rw [HN.out]; simp only [List.length_cons, List.length_nil]; omega) hb ?_; intro v2 w2 hown2 hb2; have HO2 := Lib.hid hown2; have HB2 := Lib.hid hb2; clear hown2 hb2)
      go_ret
      exact ⟨_, rfl, HO2.out, HB2.out⟩

theorem nmin {a b c : Nat} (h : min a b = c) : Nat.min a b = c := h
theorem flat_ins (h : List It) (x : It) (i : Nat) : (h.take i ++ x :: h.drop i).flatMap encI.of = (h.take i).flatMap encI.of ++ (encI.of x ++ (h.drop i).flatMap encI.of) := by
  rw [List.flatMap_append, List.flatMap_cons]
theorem flat_take (h : List It) (i : Nat) (hi : i ≤ h.length) {L : List Value} {n : Nat} (hn : h.length = n) (hL : L.take (n * 20) = h.flatMap encI.of) : L.take (i * 20) = (h.take i).flatMap encI.of := by
  have e : h.flatMap encI.of = (h.take i).flatMap encI.of ++ (h.drop i).flatMap encI.of := by rw [← List.flatMap_append, List.take_append_drop]
  have l1 : ((h.take i).flatMap encI.of).length = i * 20 := by rw [encI.flat_len, List.length_take, Nat.min_eq_left hi]; rfl
  have h2 : (L.take (n * 20)).take (i * 20) = (h.take i).flatMap encI.of := by rw [hL, e, List.take_append_of_le_length (by omega), List.take_of_length_le (by omega)]
  rw [List.take_take, Nat.min_eq_left (by omega)] at h2
  exact h2

theorem flat_drop {h : List It} {n i j : Nat} {L : List Value} {v : Value} (hn : h.length = n) (hi : i ≤ n) (hL : L.take (n * 20) = h.flatMap encI.of) (hj : ((h.drop i).flatMap encI.of)[j]? = some v) : L[i * 20 + j]? = some v := by
  have e : h.flatMap encI.of = (h.take i).flatMap encI.of ++ (h.drop i).flatMap encI.of := by rw [← List.flatMap_append, List.take_append_drop]
  have l1 : ((h.take i).flatMap encI.of).length = i * 20 := by rw [encI.flat_len, List.length_take, hn, Nat.min_eq_left hi]; rfl
  refine take_get (m := n * 20) ?_
  rw [hL, e, List.getElem?_append_right (by omega), l1, Nat.add_sub_cancel_left]
  exact hj

set_option maxRecDepth 100000 in
set_option maxHeartbeats 8000000 in
/-- in place -/
theorem insert_room (h : List It) (x : It) (XA : Array Value) (hX : XA.toList = encI.of x) (n i : Nat) (hn : h.length = n) (hi : i < n) (hn9 : n ≤ 1000) (g cap : Nat) (w : World) (base : Nat) (hbg : base ≤ g)
    (cur : List Value) (hg : w.heap[g]? = some (.cells cur.toArray 30 (0, 0))) (hcap : n + 1 ≤ cap) (hmx : cap ≤ maxLen) (hcur : cur.length = cap * 20) (htk : cur.take (n * 20) = h.flatMap encI.of)
    (vb : Nat) (hv : w.heap[vb]? = some (.cells XA 30 (0, 0))) (hne : vb ≠ g) :
    Calls Try.prog 21 #[.slice (some ⟨g, 0, none⟩) n cap, .int .i64 i, .slice (some ⟨vb, 0, none⟩) 1 1] w (GotI w base (h.take i ++ x :: h.drop i)) := by
  have hsz : (Try.prog.info? 30).map (·.size) = some 20 := by kernel_rfl
  have hS : ∀ w, (Go.sizeOf 30).run Try.prog w = .ok 20 w := Try.sizeOf30
  have HG := Lib.hid hg
  have HV := Lib.hid hv
  have HX := Lib.hid hX
  have HTK := Lib.hid htk
  have HCU := Lib.hid hcur
  have HN := Lib.hid hn
  have hXl : XA.size = 20 := by rw [← Array.length_toList, hX]; rfl
  have HD : Hid (((h.drop i).flatMap encI.of).length = (n - i) * 20) := Lib.hid (by rw [encI.flat_len, List.length_drop, hn]; rfl)
  have HA := Lib.hid (flat_take h i (by omega) hn htk)
  have HSV : Hid (w.shape? vb = some (30, 20) ∧ w.shape? g = some (30, cap * 20) ∧ w.frozen? ⟨vb, 0, none⟩ = false ∧ w.frozen? ⟨vb, 20, none⟩ = false) := Lib.hid
    ⟨by simp [World.shape?, hv, hXl], by simp [World.shape?, hg, hcur], frozen_of_row w vb 0 _ _ hv, frozen_of_row w vb 20 _ _ hv⟩
  have HOV : Hid (∀ o lb cb, (callFunc 23 #[.slice (some ⟨vb, 0, none⟩) 1 1, .slice (some ⟨g, o, none⟩) lb cb]).run Try.prog w = .ok (.value (.bool false)) w) := Lib.hid fun o lb cb => by
    rw [run_callFunc_extern Try.func23 (by kernel_rfl) (by kernel_rfl) (by kernel_rfl) (e := Extern.SlicesOverlaps.overlaps #[22, 22] #[4]) (by kernel_rfl),
      Lib.run_overlaps_apart w 22 4 30 Try.underlying22 20 hS ⟨vb, 0, none⟩ ⟨g, o, none⟩ 1 1 lb cb hne 30 30 20 (cap * 20) HSV.out.1 HSV.out.2.1 (by omega) HSV.out.2.2.1 HSV.out.2.2.2]
    rfl
  have hov := HOV.out
  clear hg hv hX htk hcur hn hXl hS
  unfold maxLen at hmx
  have hi' : i ≤ n := Nat.le_of_lt hi
  have e1 : ¬ ((i : Int) = (n : Int)) := by omega
  have e2 : ¬ ((cap : Int) < (n : Int) + 1) := by omega
  have e3 : ¬ (cap = i) := by omega
  have e4 : ¬ (cap = i + 1) := by omega
  go_enter Try.func21, Try.ntmps21
  go_upto_region 14 with fail
  go_upto_region 15 with (simp only [hov])
  clear hov HOV HSV
  have hw1 : IntKind.i64.wrap ((i : Int) + 1) = (i : Int) + 1 := by rw [IntKind.wrap_i64]; omega
  have hb1 : (0 : Int) ≤ (i : Int) + 1 := by omega
  have htn : ((i : Int) + 1).toNat = i + 1 := by omega
  have hb3 : (i : Int) ≤ (n : Int) + 1 := by omega
  have HP3 : Hid (Nat.min (n + 1 - i) (n - i) = n - i) := Lib.hid (nmin (by omega))
  have HP4 : Hid (∀ j v, ((h.drop i).flatMap encI.of)[j]? = some v → w.drew.cell? ((⟨g, i * 20, none⟩ : Addr).add j) = some v) := Lib.hid fun j v hj => by
    rw [add_none]
    exact (cell_of_row w g _ _ _ _ HG.out).trans (by rw [List.getElem?_toArray]; exact flat_drop HN.out hi' HTK.out hj)
  have HP5 : Hid ((i + 1) * 20 + ((h.drop i).flatMap encI.of).length ≤ cur.length) := Lib.hid (by rw [HD.out, HCU.out]; omega)
  have HP6 : Hid (w.drew.heap[g]? = some (.cells cur.toArray 30 (0, 0))) := HG
  go_region_law (refine step_copy_k 20 rfl (.tmp 73) (.tmp 76) 22 22 rfl 30 Try.underlying22 hsz g ((i + 1) * 20) (n - i) (cap - (i + 1)) ⟨g, i * 20, none⟩ (n + 1 - i) (cap - i) (by simp [Act.eval, Act.put]) (by simp [Act.eval, Act.put]) cur 30 HP6.out ((h.drop i).flatMap encI.of) (n - i) HP3.out HD.out HP4.out HP5.out (encI.flat_one _) ?_; intro w4 hc4; have HC4 := Lib.hid hc4; clear hc4)
  have HL4 : Hid ((splice cur ((i + 1) * 20) ((h.drop i).flatMap encI.of)).length = cap * 20) := Lib.hid (by rw [length_splice _ _ _ (by rw [HD.out, HCU.out]; omega), HCU.out])
  go_wp2_with (refine wpList_copy_k 20 rfl (.tmp 80) (.tmp 81) 22 22 rfl 30 Try.underlying22 hsz g (i * 20) _ _ ⟨vb, 0, none⟩ _ _ rfl rfl (splice cur ((i + 1) * 20) ((h.drop i).flatMap encI.of)) 30 HC4.out.row (encI.of x) 1 (nmin (by omega)) (encI.len x) (fun j v hj => by rw [add_none, Nat.zero_add, HC4.out.cell (x := ⟨vb, j, none⟩) hne]; exact (cell_of_row w vb j _ _ _ HV.out).trans (by rw [← Array.getElem?_toList, HX.out]; exact hj)) (by rw [HL4.out, encI.len]; show i * 20 + 20 ≤ cap * 20; omega) (encI.one x) ?_; intro w5 hc5; have HC5 := Lib.hid hc5; clear hc5)
  go_ret
  refine ⟨_, rfl, own_of encI (by rw [List.length_append, List.length_cons, List.length_take, List.length_drop, HN.out]; omega) HC5.out.row hbg hcap (by unfold maxLen; omega) (by rw [length_splice _ _ _ (by rw [HL4.out, encI.len]; show i * 20 + 20 ≤ cap * 20; omega), HL4.out]; rfl) ?_, ((Below.refl base w).drew.trans (HC4.out.below hbg)).trans (HC5.out.below hbg)⟩
  rw [flat_ins]
  have hq := splice_back (a := i * 20) (b := 20) (d := (n - i) * 20) HA.out (encI.len x) HD.out (by rw [HCU.out]; omega)
  rw [show i * 20 + 20 = (i + 1) * 20 by omega, show (i + 1) * 20 + (n - i) * 20 = (n + 1) * 20 by omega] at hq
  exact hq

set_option maxRecDepth 100000 in
set_option maxHeartbeats 8000000 in
/-- in new memory -/
theorem insert_grow (h : List It) (x : It) (XA : Array Value) (hX : XA.toList = encI.of x) (n i : Nat) (hn : h.length = n) (hi : i < n) (hn9 : n ≤ 1000) (g cap : Nat) (w : World) (base : Nat) (hbw : base ≤ w.heap.size)
    (cur : List Value) (hg : w.heap[g]? = some (.cells cur.toArray 30 (0, 0))) (hnc : n ≤ cap) (hcap : cap < n + 1) (htk : cur.take (n * 20) = h.flatMap encI.of)
    (vb : Nat) (hv : w.heap[vb]? = some (.cells XA 30 (0, 0))) :
    Calls Try.prog 21 #[.slice (some ⟨g, 0, none⟩) n cap, .int .i64 i, .slice (some ⟨vb, 0, none⟩) 1 1] w (GotI w base (h.take i ++ x :: h.drop i)) := by
  have hsz : (Try.prog.info? 30).map (·.size) = some 20 := by kernel_rfl
  obtain ⟨j0, hi0, hz0, hz1, hz2⟩ := info_parts infoI
  have HG := Lib.hid hg
  have HV := Lib.hid hv
  have HX := Lib.hid hX
  have HTK := Lib.hid htk
  have HN := Lib.hid hn
  have HD : Hid (((h.drop i).flatMap encI.of).length = (n - i) * 20) := Lib.hid (by rw [encI.flat_len, List.length_drop, hn]; rfl)
  have HA := Lib.hid (flat_take h i (by omega) hn htk)
  have HAL : Hid (((h.take i).flatMap encI.of).length = i * 20) := Lib.hid (by rw [encI.flat_len, List.length_take, hn, Nat.min_eq_left (by omega)]; rfl)
  have hgl : g < w.heap.size := (Array.getElem?_eq_some_iff.1 hg).1
  have hvl : vb < w.heap.size := (Array.getElem?_eq_some_iff.1 hv).1
  have hkk : (n : Int) + 1 - (i : Int) = ((n + 1 - i : Nat) : Int) := by omega
  have hik : i + (n + 1 - i) = n + 1 := by omega
  have hold : (Builtin.firstCells j0.size i (.slice (some ⟨g, 0, none⟩) i cap)).run Try.prog w.drew = .ok ((h.take i).flatMap encI.of).toArray w.drew := by
    rw [hz1]
    exact run_firstCells_some w.drew 20 i ⟨g, 0, none⟩ i cap _ HAL.out (fun j v hj => by
      rw [add_none, Nat.zero_add]
      refine (cell_of_row w g j _ _ _ hg).trans ?_
      rw [List.getElem?_toArray]
      rw [← HA.out] at hj
      exact take_get hj)
  obtain ⟨G, hG⟩ : ∃ G, grownCap w (n + 1) cap 30 = G := ⟨_, rfl⟩
  obtain ⟨R, hR⟩ : ∃ R : List Value, (((h.take i).flatMap encI.of).toArray ++ Builtin.zeroCells zeroI.cells (n + 1 - i) ++ Builtin.zeroCells zeroI.cells (G - (n + 1))).toList = R := ⟨_, rfl⟩
  have hGn : n + 1 ≤ G := by rw [← hG]; exact grownCap_ge w _ _ _
  have hG63 := grownCap_le_maxLen w (n + 1) cap 30 (by unfold maxLen; omega)
  rw [hG] at hG63
  have hzl : ∀ k, (Builtin.zeroCells zeroI.cells k).size = k * 20 := fun k => by rw [size_zeroCells]; rfl
  have HRL : Hid (R.length = G * 20) := Lib.hid (by
    rw [← hR, Array.length_toList, Array.size_append, Array.size_append, hzl, hzl, List.size_toArray, HAL.out]
    omega)
  have HRT : Hid (R.take (i * 20) = (h.take i).flatMap encI.of) := Lib.hid (by
    rw [← hR, Array.toList_append, Array.toList_append, List.append_assoc, List.take_append_of_le_length (by show i * 20 ≤ ((h.take i).flatMap encI.of).length; rw [HAL.out]; exact Nat.le_refl _), List.take_of_length_le (by show ((h.take i).flatMap encI.of).length ≤ i * 20; rw [HAL.out]; exact Nat.le_refl _)])
  have HRZ : Hid (∀ ty, (Builtin.append_ #[22, 3] ty #[.slice (some ⟨g, 0, none⟩) i cap, .int .i64 ((n : Int) + 1 - (i : Int))]).run Try.prog w =
      .ok (.slice (some ⟨w.heap.size, 0, none⟩) (n + 1) G) (w.drew.alloc (.cells R.toArray 30))) := Lib.hid fun ty => by
    have h := Lib.run_append_grow_zeros w 22 3 ty 30 j0 _ .i64 .i64 Try.underlying22 Try.underlying3 hi0 hz0 (some ⟨g, 0, none⟩) i cap _ hold (n + 1 - i) (by omega) (by rw [hz1]; decide) (by omega) (by omega) (by rw [hz2]; omega) (by rw [hz2, hik]; exact growslice_fits hcap (by omega))
    rw [hik, hG] at h
    rw [hkk, ← hR]
    exact h
  clear hg hv hX htk hn hi0 hz0 hz1 hz2 hold hG hR hkk hik hzl
  unfold maxLen at hG63
  have hi' : i ≤ n := Nat.le_of_lt hi
  have e1 : ¬ ((i : Int) = (n : Int)) := by omega
  have e2 : (cap : Int) < (n : Int) + 1 := by omega
  have e3 : ¬ (cap = i) := by omega
  have e4 : ¬ (G = i + 1) := by omega
  have e5 : ¬ (G = i) := by omega
  go_enter Try.func21, Try.ntmps21
  go_upto_region 10 with (at_builtin; refine Lib.wpList_append_run _ rfl _ _ _ _ rfl _ _ rfl rfl _ _ (HRZ.out _) ?_)
  have HB1 : Hid (Below base w (w.alloc (.cells R.toArray 30)).drew) := Lib.hid ((Below.refl base w).alloc hbw _).drew
  have HR1 : Hid ((w.alloc (.cells R.toArray 30)).drew.heap[w.heap.size]? = some (.cells R.toArray 30 (0, 0))) := Lib.hid (heap_alloc_new w _)
  have HG1 : Hid ((w.alloc (.cells R.toArray 30)).drew.heap[g]? = some (.cells cur.toArray 30 (0, 0))) := Lib.hid (alloc_block HG.out)
  have HV1 : Hid ((w.alloc (.cells R.toArray 30)).drew.heap[vb]? = some (.cells XA 30 (0, 0))) := Lib.hid (alloc_block HV.out)
  have hNg : g ≠ w.heap.size := Nat.ne_of_lt hgl
  have hNv : vb ≠ w.heap.size := Nat.ne_of_lt hvl
  obtain ⟨N, hN⟩ : ∃ N, w.heap.size = N := ⟨_, rfl⟩
  rw [hN] at HR1 hNg hNv hbw ⊢
  generalize (w.alloc (.cells R.toArray 30)).drew = w1 at HB1 HR1 HG1 HV1 ⊢
  clear hN hgl hvl HRZ
  go_upto_region 11 with (refine wpList_copy_k 20 rfl (.tmp 43) (.tmp 44) 22 22 rfl 30 Try.underlying22 hsz N (i * 20) _ _ ⟨vb, 0, none⟩ _ _ rfl rfl R 30 HR1.out (encI.of x) 1 (nmin (by omega)) (encI.len x) (fun j v hj => by rw [add_none, Nat.zero_add]; exact (cell_of_row w1 vb j _ _ _ HV1.out).trans (by rw [← Array.getElem?_toList, HX.out]; exact hj)) (by rw [HRL.out, encI.len]; show i * 20 + 20 ≤ G * 20; omega) (encI.one x) ?_; intro w4 hc4; have HC4 := Lib.hid hc4; clear hc4)
  have HL4 : Hid ((splice R (i * 20) (encI.of x)).length = G * 20) := Lib.hid (by rw [length_splice _ _ _ (by rw [HRL.out, encI.len]; show i * 20 + 20 ≤ G * 20; omega), HRL.out])
  have hw1 : IntKind.i64.wrap ((i : Int) + 1) = (i : Int) + 1 := by rw [IntKind.wrap_i64]; omega
  have hb1 : (0 : Int) ≤ (i : Int) + 1 := by omega
  have htn : ((i : Int) + 1).toNat = i + 1 := by omega
  have hb3 : (i : Int) ≤ (n : Int) + 1 := by omega
  have HP3 : Hid (Nat.min (n - i) (n - i) = n - i) := Lib.hid (nmin (by omega))
  have HP4 : Hid (∀ j v, ((h.drop i).flatMap encI.of)[j]? = some v → w4.drew.cell? ((⟨g, i * 20, none⟩ : Addr).add j) = some v) := Lib.hid fun j v hj => by
    rw [add_none]
    exact (HC4.out.cell (x := ⟨g, i * 20 + j, none⟩) hNg).trans ((cell_of_row w1 g _ _ _ _ HG1.out).trans (by rw [List.getElem?_toArray]; exact flat_drop HN.out hi' HTK.out hj))
  have HP5 : Hid ((i + 1) * 20 + ((h.drop i).flatMap encI.of).length ≤ (splice R (i * 20) (encI.of x)).length) := Lib.hid (by rw [HD.out, HL4.out]; omega)
  have HP6 : Hid (w4.drew.heap[N]? = some (.cells (splice R (i * 20) (encI.of x)).toArray 30 (0, 0))) := Lib.hid HC4.out.row
  go_region_law (refine step_copy_k 20 rfl (.tmp 50) (.tmp 53) 22 22 rfl 30 Try.underlying22 hsz N ((i + 1) * 20) (n - i) (G - (i + 1)) ⟨g, i * 20, none⟩ (n - i) (cap - i) (by simp [Act.eval, Act.put]) (by simp [Act.eval, Act.put]) (splice R (i * 20) (encI.of x)) 30 HP6.out ((h.drop i).flatMap encI.of) (n - i) HP3.out HD.out HP4.out HP5.out (encI.flat_one _) ?_; intro w5 hc5; have HC5 := Lib.hid hc5; clear hc5)
  go_wp2_with fail
  go_ret
  refine ⟨_, rfl, own_of encI (by rw [List.length_append, List.length_cons, List.length_take, List.length_drop, HN.out]; omega) HC5.out.row hbw hGn (by unfold maxLen; omega) (by rw [length_splice _ _ _ (by rw [HD.out, HL4.out]; omega), HL4.out]; rfl) ?_, (HB1.out.trans ((HC4.out.below hbw).drew)).trans (HC5.out.below hbw)⟩
  rw [flat_ins]
  have hq := splice_mid (a := i * 20) (b := 20) (d := (n - i) * 20) HRT.out (encI.len x) HD.out (by rw [HRL.out]; omega)
  rw [show i * 20 + 20 = (i + 1) * 20 by omega, show (i + 1) * 20 + (n - i) * 20 = (n + 1) * 20 by omega] at hq
  exact hq

/-- Insert of one item into a row of the call's own, at a place in it -/
theorem insert_any (h : List It) (x : It) (XA : Array Value) (hX : XA.toList = encI.of x) (n i : Nat) (hn : h.length = n) (hi : i ≤ n) (hn9 : n ≤ 1000) (a : Option Addr) (cap : Nat) (w : World) (base : Nat) (hb : base ≤ w.heap.size)
    (ho : OwnE encI 30 w base (.slice a n cap) h) (vb : Nat) (hv : w.heap[vb]? = some (.cells XA 30 (0, 0))) (hne : (Value.slice a n cap).ownBlock ≠ some vb) :
    Calls Try.prog 21 #[.slice a n cap, .int .i64 i, .slice (some ⟨vb, 0, none⟩) 1 1] w (GotI w base (h.take i ++ x :: h.drop i)) := by
  rcases Nat.lt_or_ge i n with hlt | hge
  · have ho' := ho
    unfold OwnE at ho'
    obtain ⟨_, ⟨h1, h2⟩ | ⟨g, c, cur, he, hbg, hg, hnc, hmx, hcs, htk⟩⟩ := ho'
    · omega
    · injection he with e1 e2 e3
      subst e1 e3
      rw [hn] at hnc htk
      have hg' : w.heap[g]? = some (.cells cur.toList.toArray 30 (0, 0)) := by rw [Array.toArray_toList]; exact hg
      have hvg : vb ≠ g := fun e => hne (by rw [e]; rfl)
      have hcs' : cur.toList.length = cap * 20 := by rw [Array.length_toList]; exact hcs
      rcases Nat.lt_or_ge cap (n + 1) with hc | hc
      · exact insert_grow h x XA hX n i hn hlt hn9 g cap w base hb cur.toList hg' hnc hc htk vb hv
      · exact insert_room h x XA hX n i hn hlt hn9 g cap w base hbg cur.toList hg' hc hmx hcs' htk vb hv hvg
  · obtain rfl : i = n := Nat.le_antisymm hi hge
    have := insert_end h x XA hX i hn hn9 a cap w base hb ho vb hv
    rw [List.take_of_length_le (by omega), List.drop_eq_nil_of_le (by omega)]
    exact this

end Rsq
end Go.Proofs.Ytnldllmlfckecaa
