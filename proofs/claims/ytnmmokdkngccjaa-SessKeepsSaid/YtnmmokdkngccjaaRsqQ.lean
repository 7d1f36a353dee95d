/-
  The program's layer 6: May, Right, byFrom; cmp.Compare at int64 and slices.Clone at items.
  The program's layer 6: slices.BinarySearchFunc over items that rise, by byFrom.
  The program's layer 6: slices.Insert of one item into a row of the call's own: at the end, in place, in new memory.
  The program's layer 6: take: what goes out at Held's head.
  The program's layer 6: Come and Gap.
-/
import Derived.Test.YtnmmokdkngccjaaPlRsqP
import Derived.Test.YtnmmokdkngccjaaOwn2
import Derived.Deep.QuietTactic
import Derived.Test.YtnmmokdkngccjaaLaid
import Derived.Test.YtnmmokdkngccjaaCpy
import Derived.Lib.Overlaps
import Derived.Lib.AppendZerosOnto
import Derived.Laws.NewBlocks
import Derived.Test.YtnmmokdkngccjaaRsqR
import Derived.Deep.LoopGhost

namespace Go.Proofs.Ytnmmokdkngccjaa
open Go.RowKit
namespace Rsq
open Num
open Msg (I64)

theorem may_any (x : It) (w : World) (_hl : Laid w) : Calls Try.prog 34 #[.agg x.arr] w fun e w' => e = .returned (.bool (mayI x)) ∧ Below w.heap.size w w' := by
  have HM : Hid (mayI x = (decide (1 ≤ x.fr) && decide (x.fr < x.to) && decide (x.to ≤ 2199023255552))) := Lib.hid (by
    unfold mayI
    rw [show decide (0 < x.fr) = decide (1 ≤ x.fr) from decide_eq_decide.2 (by omega)]
    rfl)
  have HX0 : Hid ((w.alloc (.cells x.arr 67)).heap[w.heap.size]? = some (.cells x.arr 67 (0, 0))) := Lib.hid (heap_alloc_new w _)
  have HB0 : Hid (Below w.heap.size w (w.alloc (.cells x.arr 67))) := Lib.hid ((Below.refl _ _).alloc (Nat.le_refl _) _)
  have a0 : x.arr[0]? = some (.int .i64 x.fr) := rfl
  have a1 : x.arr[1]? = some (.int .i64 x.to) := rfl
  obtain ⟨C, hC⟩ : ∃ C, x.arr = C := ⟨_, rfl⟩
  rw [hC] at HX0 HB0 a0 a1 ⊢
  clear hC
  go_enter Try.func34, Try.ntmps34
  go_upto_region 1 with fail
  generalize w.alloc (.cells C 67) = w0 at HX0 HB0 ⊢
  have c0 := cell_at HX0.out a0
  have c1 := cell_at HX0.out a1
  clear a0 a1
  generalize hp1 : decide (1 ≤ x.fr) = p1 at HM
  generalize hp2 : decide (x.fr < x.to) = p2 at HM
  generalize hp3 : decide (x.to ≤ 2199023255552) = p3 at HM
  cases p1 <;> cases p2 <;> cases p3
  all_goals
    go_wp2_with fail
    go_ret
    exact ⟨ret_b (by rw [HM.out]; rfl), HB0.out⟩
theorem pmay_is (c : Array Value) (x : It) (hc : c = x.arr) (o : Bool) (ho : mayI x = o) (w : World) (hl : Laid w) : Calls Try.prog 34 #[.agg c] w fun e w' => e = .returned (.bool o) ∧ Below w.heap.size w w' := by
  subst hc ho
  exact may_any x w hl

set_option maxRecDepth 100000 in
set_option maxHeartbeats 8000000 in
theorem right_any (l : Li) (a : Option Addr) (cap n : Nat) (hn : l.held.length = n) (hn9 : n ≤ 100000000) (w : World) (hr : RowAt encI w a cap l.held) (hl : Laid w) :
    Calls Try.prog 22 #[.agg #[.int .i64 l.next, .slice a n cap]] w fun e w' => e = .returned (.bool (rightL l)) ∧ Below w.heap.size w w' := by
  obtain ⟨nx, h⟩ := l
  dsimp only at hn hr ⊢
  have HM : Hid (rightL ⟨nx, h⟩ = (decide (0 < nx) && decide (nx ≤ 2199023255552) && decide (n ≤ 64) && riseB nx h)) := Lib.hid (by rw [← hn]; rfl)
  have HN := Lib.hid hn
  have HL := Lib.hid hl
  have HX0 : Hid ((w.alloc (.cells #[.int .i64 nx, .slice a n cap] 26)).heap[w.heap.size]? = some (.cells #[.int .i64 nx, .slice a n cap] 26 (0, 0))) := Lib.hid (heap_alloc_new w _)
  have HB0 : Hid (Below w.heap.size w (w.alloc (.cells #[.int .i64 nx, .slice a n cap] 26))) := Lib.hid ((Below.refl _ _).alloc (Nat.le_refl _) _)
  have HR0 : Hid (RowAt encI (w.alloc (.cells #[.int .i64 nx, .slice a n cap] 26)) a cap h) := Lib.hid (hr.later ((Below.refl _ _).alloc (Nat.le_refl _) _))
  clear hn hr hl
  go_enter Try.func22, Try.ntmps22
  go_upto_region 1 with fail
  generalize w.alloc (.cells #[.int .i64 nx, .slice a n cap] 26) = w0 at HX0 HB0 HR0 ⊢
  have b0 : w0.cell? ⟨w.heap.size, 0, none⟩ = some (.int .i64 nx) := cell_at HX0.out rfl
  have b1 : w0.cell? ⟨w.heap.size, 1, none⟩ = some (.slice a n cap) := cell_at HX0.out rfl
  by_cases h1 : nx < 1
  · go_wp2_with fail
    go_ret
    exact ⟨ret_b (by rw [HM.out, decide_eq_false (by omega : ¬ 0 < nx)]; rfl), HB0.out⟩
  by_cases h2 : 2199023255552 < nx
  · go_wp2_with fail
    go_ret
    exact ⟨ret_b (by rw [HM.out, decide_eq_false (by omega : ¬ nx ≤ 2199023255552)]; simp), HB0.out⟩
  by_cases h3 : (64 : Int) < n
  · go_wp2_with fail
    go_ret
    exact ⟨ret_b (by rw [HM.out, decide_eq_false (by omega : ¬ n ≤ 64)]; simp), HB0.out⟩
  have HM2 : Hid (rightL ⟨nx, h⟩ = riseB nx h) := Lib.hid (by rw [HM.out, decide_eq_true (by omega : 0 < nx), decide_eq_true (by omega : nx ≤ 2199023255552), decide_eq_true (by omega : n ≤ 64)]; rfl)
  have hn6 : n ≤ 64 := by omega
  clear HM
  go_wp2_with fail
  go_loopw [3, 25] (fun last_ i_ wr => ∃ (k : Nat) (last : Int), last_ = .int .i64 last ∧ i_ = .int .i64 k ∧ k ≤ n ∧ Hid (last = ((h.take k).getLast?.map (·.fr)).getD nx) ∧ Hid (riseB nx (h.take k) = true) ∧ Below w0.heap.size w0 wr) (fun _ i_ _ => n - (intOf i_).toNat)
  case atStart => exact ⟨0, nx, rfl, rfl, Nat.zero_le _, rfl, rfl, Below.refl _ _⟩
  case round =>
    obtain ⟨k, last, rfl, rfl, hkn, HLA, HRI, hbel⟩ := hrel
    have HB := Lib.hid hbel
    clear hbel b0 b1
    by_cases hlt : k < n
    · obtain ⟨x, hx⟩ : ∃ x, h[k]? = some x := ⟨h[k]'(by rw [HN.out]; exact hlt), List.getElem?_eq_getElem _⟩
      have HSN := Lib.hid (rise_last HLA.out HRI.out hx)
      have HL2 : Hid (x.fr = ((h.take (k + 1)).getLast?.map (·.fr)).getD nx) := Lib.hid (by
        rw [show h.take (k + 1) = h.take k ++ [x] from by rw [List.take_add_one, hx]; rfl, List.getLast?_append]
        rfl)
      obtain ⟨b, off, rfl, _⟩ := HR0.out.at (by rw [HN.out]; omega) (by decide)
      have hcap : n ≤ cap := by
        rcases HR0.out with ⟨h, _⟩ | ⟨_, _, h, _⟩
        · cases h
        · rwa [HN.out] at h
      have HBAD : Hid (¬ (mayI x = true ∧ last < x.fr) → riseB nx h = false) := Lib.hid fun g => by
        cases e : riseB nx h
        · rfl
        · exact absurd (HSN.out.1 (rise_take (k + 1) e)) g
      have HEL := Lib.hid (item_at (HR0.out.later HB.out) hx)
      obtain ⟨YA, hYA⟩ : ∃ X, x.arr = X := ⟨_, rfl⟩
      have hiY : (Try.prog.info? 67).map (·.size) = some YA.size := by rw [← hYA]; kernel_rfl
      rw [hYA] at HEL
      have HYF : Hid (20 = YA.size ∧ YA = x.arr ∧ YA.all (·.oneCell') = true ∧ YA[0]? = some (.int .i64 x.fr)) := Lib.hid (by rw [← hYA]; exact ⟨rfl, rfl, by unfold It.arr; simp [Value.oneCell'], rfl⟩)
      have hys : YA.size = 20 := HYF.out.1.symm
      clear hYA hx
      go_upto_region 7 with (first | (refine wpList_load_arr_g (by rfl) 67 _ rfl b (off + k * 20) rfl YA _ HEL.out Try.underlying67 rfl hiY ?_) | (refine wpList_store_row rfl 67 _ _ rfl wr.heap.size YA rfl rfl _ _ (heap_alloc_last _ _) hiY HYF.out.1 HYF.out.2.2.1 ?_; rw [World.setRow_alloc_new]))
      obtain ⟨p, hp⟩ : ∃ p, wr.heap.size = p := ⟨_, rfl⟩
      have HYB : Hid ((wr.alloc (.cells YA 67)).heap[p]? = some (.cells YA 67 (0, 0))) := Lib.hid (hp ▸ heap_alloc_new _ _)
      have HB5 := Lib.hid (HB.out.alloc HB.out.size (.cells YA 67))
      rw [hp]
      generalize wr.alloc (.cells YA 67) = w5 at HYB HB5 ⊢
      clear hp HEL HB
      have HYR := Lib.hid (block_range HYB.out)
      obtain ⟨bm, hbm⟩ : ∃ b, mayI x = b := ⟨_, rfl⟩
      go_wp2_with (refine wpList_load_arr_g (by rfl) 67 _ rfl p 0 rfl YA _ HYR.out Try.underlying67 rfl hiY ?_)
      refine (pmay_is YA x HYF.out.2.1 _ hbm _ ((HL.out.below HB0.out).below HB5.out)).mono ?_
      rintro e w6 ⟨rfl, hb6⟩
      have HB6 := Lib.hid (HB5.out.trans (hb6.mono HB5.out.size))
      have y0 : w6.cell? ⟨p, 0, none⟩ = some (.int .i64 x.fr) := cell_at (below_block HYB.out hb6) HYF.out.2.2.2
      clear hb6
      cases bm
      · clear y0
        have HNO : Hid (riseB nx h = false) := Lib.hid (HBAD.out (by rw [hbm]; simp))
        clear hbm
        go_wp2_with fail
        go_ret
        exact ⟨ret_b (by rw [HM2.out, HNO.out]), HB0.out.trans (HB6.out.mono HB0.out.size)⟩
      · by_cases hc : x.fr ≤ last
        · have HNO : Hid (riseB nx h = false) := Lib.hid (HBAD.out (by omega))
          clear hbm
          go_wp2_with fail
          go_ret
          exact ⟨ret_b (by rw [HM2.out, HNO.out]), HB0.out.trans (HB6.out.mono HB0.out.size)⟩
        · have HYES : Hid (riseB nx (h.take (k + 1)) = true) := Lib.hid (HSN.out.2 ⟨hbm, by omega⟩)
          clear hbm
          go_wp2_with fail
          go_roundw
          case rel => exact ⟨k + 1, x.fr, rfl, congrArg (Value.int .i64) (by omega), by omega, HL2, HYES, HB6.out⟩
          case measure => simp [intOf]; omega
    · obtain rfl : k = n := by omega
      have HYES : Hid (riseB nx h = true) := Lib.hid (by
        have := HRI.out
        rwa [List.take_of_length_le (by rw [HN.out]; exact Nat.le_refl _)] at this)
      go_wp2_with fail
      go_ret
      exact ⟨ret_b (by rw [HM2.out, HYES.out]), HB0.out.trans (HB.out.mono HB0.out.size)⟩

/-- what byFrom tells -/
def cmpI (a b : Int) : Int := if a < b then -1 else if b < a then 1 else 0
theorem nan_any (c : Int) (w : World) : Calls Try.prog 52 #[.int .i64 c] w fun e w' => e = .returned (.bool false) ∧ w' = w := by
  go_enter Try.func52, Try.ntmps52
  go_wp2_with fail
  go_ret
  exact ⟨by simp, rfl⟩
theorem cmp_any (a b : Int) (w : World) : Calls Try.prog 48 #[.int .i64 a, .int .i64 b] w fun e w' => e = .returned (.int .i64 (cmpI a b)) ∧ w' = w := by
  by_cases h1 : a < b
  · have HC : Hid (cmpI a b = -1) := Lib.hid (if_pos h1)
    go_enter Try.func48, Try.ntmps48
    go_wp2_with fail
    refine (nan_any a _).mono ?_
    rintro e w1 ⟨rfl, rfl⟩
    go_wp2_with fail
    refine (nan_any b _).mono ?_
    rintro e w1 ⟨rfl, rfl⟩
    go_wp2_with fail
    go_ret
    exact ⟨congrArg (fun r : Int => Ending.returned (.int .i64 r)) HC.out.symm, rfl⟩
  · by_cases h2 : b < a
    · have HC : Hid (cmpI a b = 1) := Lib.hid (by unfold cmpI; rw [if_neg h1, if_pos h2])
      go_enter Try.func48, Try.ntmps48
      go_wp2_with fail
      refine (nan_any a _).mono ?_
      rintro e w1 ⟨rfl, rfl⟩
      go_wp2_with fail
      refine (nan_any b _).mono ?_
      rintro e w1 ⟨rfl, rfl⟩
      go_wp2_with fail
      go_ret
      exact ⟨congrArg (fun r : Int => Ending.returned (.int .i64 r)) HC.out.symm, rfl⟩
    · have HC : Hid (cmpI a b = 0) := Lib.hid (by unfold cmpI; rw [if_neg h1, if_neg h2])
      go_enter Try.func48, Try.ntmps48
      go_wp2_with fail
      refine (nan_any a _).mono ?_
      rintro e w1 ⟨rfl, rfl⟩
      go_wp2_with fail
      refine (nan_any b _).mono ?_
      rintro e w1 ⟨rfl, rfl⟩
      go_wp2_with fail
      go_ret
      exact ⟨congrArg (fun r : Int => Ending.returned (.int .i64 r)) HC.out.symm, rfl⟩

theorem by_any (x y : It) (XA YA : Array Value) (hX : XA = x.arr) (hY : YA = y.arr) (r : Int) (hr : cmpI x.fr y.fr = r) (w : World) :
    Calls Try.prog 44 #[.agg XA, .agg YA] w fun e w' => e = .returned (.int .i64 r) ∧ Below w.heap.size w w' := by
  have x0 : XA[0]? = some (.int .i64 x.fr) := by rw [hX]; rfl
  have y0 : YA[0]? = some (.int .i64 y.fr) := by rw [hY]; rfl
  have HR := Lib.hid hr
  clear hX hY hr
  have e1 : (w.alloc (.cells XA 67)).heap.size = w.heap.size + 1 := by simp
  have HB0 : Hid (Below w.heap.size w ((w.alloc (.cells XA 67)).alloc (.cells YA 67))) := Lib.hid (((Below.refl _ _).alloc (Nat.le_refl _) _).alloc (by rw [e1]; omega) _)
  have HX0 : Hid (((w.alloc (.cells XA 67)).alloc (.cells YA 67)).heap[w.heap.size]? = some (.cells XA 67 (0, 0)) ∧
      ((w.alloc (.cells XA 67)).alloc (.cells YA 67)).heap[w.heap.size + 1]? = some (.cells YA 67 (0, 0))) := Lib.hid
    ⟨alloc_block (heap_alloc_new w _), by have h := heap_alloc_new (w.alloc (.cells XA 67)) (.cells YA 67); rwa [e1] at h⟩
  clear e1
  go_enter Try.func44, Try.ntmps44
  go_upto_region 1 with fail
  generalize (w.alloc (.cells XA 67)).alloc (.cells YA 67) = w0 at HB0 HX0 ⊢
  have c0 := cell_at HX0.out.1 x0
  have c1 := cell_at HX0.out.2 y0
  clear x0 y0
  go_wp2_with fail
  refine (cmp_any x.fr y.fr _).mono ?_
  rintro e w1 ⟨rfl, rfl⟩
  go_wp2_with fail
  go_ret
  exact ⟨congrArg (fun r : Int => Ending.returned (.int .i64 r)) HR.out, HB0.out⟩

/-- a copy of a row of items: new memory, or none -/
theorem clone_any (h : List It) (a : Option Addr) (cap n : Nat) (hn : h.length = n) (hn9 : n ≤ 100000000) (w : World) (hr : RowAt encI w a cap h) :
    Calls Try.prog 35 #[.slice a n cap] w fun e w' => ∃ v, e = .returned v ∧ OwnE encI 67 w' w.heap.size v h ∧ Below w.heap.size w w' := by
  obtain ⟨j0, hi0, hz0, hz1, hz2⟩ := info_parts infoI
  have HJ0 := Lib.hid hi0
  have HY0 := Lib.hid hz0
  have HY1 := Lib.hid hz1
  have HY2 := Lib.hid hz2
  clear hi0 hz0 hz1 hz2
  have HR := Lib.hid hr
  have HN := Lib.hid hn
  have qT : ∀ (w : World) (a : Option Addr) (n c n' c' : Nat), (binOp .eql 24 (.slice a n c) (.slice none n' c')).run Try.prog w = .ok (.bool a.isNone) w := fun w a n c n' c' => Lib.run_eql_slice_nil w _ _ a n c n' c' Try.underlying24
  rcases hr with ⟨rfl, rfl, rfl⟩ | ⟨x, rfl, _⟩
  · clear hn
    go_enter Try.func35, Try.ntmps35
    go_wp2_with fail
    go_ret
    exact ⟨_, rfl, OwnE.nil _ _ _ _, Below.refl _ _⟩
  · clear hn
    go_enter Try.func35, Try.ntmps35
    go_wp2_with (at_builtin; refine wpList_append_row encI (by decide) rfl (.tmp 5) (.tmp 6) _ rfl w.heap.size 67 j0 _ 208 Try.underlying24 HJ0.out HY0.out HY1.out HY2.out (by rfl) _ [] rfl (ownE_empty encI w 67 w.heap.size (Nat.le_refl _)) _ _ _ h rfl HN.out (HR.out.later ((Below.refl _ _).alloc (Nat.le_refl _) _)) (by rw [HN.out]; simp only [List.length_nil, maxLen]; omega) (by rw [HN.out]; simp only [List.length_nil]; omega) (by simp) ?_; intro v2 w2 hown2 hb2; have HO2 := Lib.hid hown2; have HB2 := Lib.hid (((Below.refl _ _).alloc (Nat.le_refl _) _).trans hb2); clear hown2 hb2)
    go_ret
    exact ⟨_, rfl, HO2.out, HB2.out⟩

end Rsq
end Go.Proofs.Ytnmmokdkngccjaa

namespace Go.Proofs.Ytnmmokdkngccjaa
open Go.RowKit
namespace Rsq
open Num
open Msg (I64)
attribute [local go_sem ↓] load_item
attribute [local go_sem] blkOf_ptr offOf_ptr

/-- what the search tells: x's place, and whether it is taken there -/
def GotB (w : World) (x : It) (h : List It) (n : Nat) (e : Ending) (w' : World) : Prop :=
  ∃ (i : Nat) (f : Bool), e = .returned (.tuple #[.int .i64 i, .bool f]) ∧ i ≤ n ∧ Cut x.fr h i i ∧ (f = true → ∃ y, h[i]? = some y ∧ y.fr = x.fr) ∧ (f = false → ∀ y, h[i]? = some y → y.fr ≠ x.fr) ∧ Below w.heap.size w w'

set_option maxRecDepth 100000 in
set_option maxHeartbeats 8000000 in
theorem bsf_any (h : List It) (lw : Int) (hri : riseB lw h = true) (x : It) (XA : Array Value) (hX : XA = x.arr) (a : Option Addr) (cap n : Nat) (hn : h.length = n) (hn9 : n ≤ 100000000) (w : World) (hr : RowAt encI w a cap h) :
    Calls Try.prog 43 #[.slice a n cap, .agg XA, .func (.func 44) #[] #[]] w (GotB w x h n) := by
  have HN := Lib.hid hn
  have HRI := Lib.hid hri
  have HXA := Lib.hid hX
  have HX0 : Hid ((w.alloc (.cells XA 67)).heap[w.heap.size]? = some (.cells XA 67 (0, 0))) := Lib.hid (heap_alloc_new w _)
  have HB0 : Hid (Below w.heap.size w (w.alloc (.cells XA 67))) := Lib.hid ((Below.refl _ _).alloc (Nat.le_refl _) _)
  have HR0 : Hid (RowAt encI (w.alloc (.cells XA 67)) a cap h) := Lib.hid (hr.later ((Below.refl _ _).alloc (Nat.le_refl _) _))
  have HXS : Hid (20 = XA.size) := Lib.hid (by rw [hX]; rfl)
  clear hn hri hX hr
  go_enter Try.func43, Try.ntmps43
  go_upto_region 1 with fail
  generalize w.alloc (.cells XA 67) = w0 at HX0 HB0 HR0 ⊢
  have HXK : Hid (∀ W, Below w0.heap.size w0 W → CellsOk W w.heap.size 0 20 ∧ cellsAt W w.heap.size 0 20 = XA) := Lib.hid fun W hW => by
    have := CellsOk.of (block_range (below_block HX0.out hW))
    rwa [← HXS.out] at this
  have HYK : Hid (∀ (k : Nat) (y : It), h[k]? = some y → ∃ b off, a = some ⟨b, off, none⟩ ∧ n ≤ cap ∧ ∀ W, Below w0.heap.size w0 W → CellsOk W b (off + k * 20) 20 ∧ cellsAt W b (off + k * 20) 20 = y.arr) := Lib.hid fun k y hy => by
    obtain ⟨b, off, rfl, _⟩ := HR0.out.at (Nat.lt_of_le_of_lt (Nat.zero_le _) (List.getElem?_eq_some_iff.1 hy).1) (by decide)
    refine ⟨b, off, rfl, ?_, fun W hW => CellsOk.of (item_at (HR0.out.later hW) hy)⟩
    rcases HR0.out with ⟨h, _⟩ | ⟨_, _, h, _⟩
    · cases h
    · rwa [HN.out] at h
  go_wp2_with fail
  go_loopw [9, 10] (fun i_ j_ wr => ∃ lo hi : Nat, i_ = .int .i64 lo ∧ j_ = .int .i64 hi ∧ lo ≤ hi ∧ hi ≤ n ∧ Hid (Cut x.fr h lo hi) ∧ Below w0.heap.size w0 wr) (fun i_ j_ _ => (intOf j_ - intOf i_).toNat)
  case atStart => exact ⟨0, n, rfl, rfl, Nat.zero_le _, Nat.le_refl _, Lib.hid (by have := Cut.start x.fr h; rwa [HN.out] at this), Below.refl _ _⟩
  case round =>
    obtain ⟨lo, hi, rfl, rfl, hlh, hhn, HCU, hbel⟩ := hrel
    have HB := Lib.hid hbel
    clear hbel
    by_cases hlt : lo < hi
    · obtain ⟨m, hm⟩ : ∃ m, (lo + hi) / 2 = m := ⟨_, rfl⟩
      have hm1 : lo ≤ m ∧ m < hi := by omega
      have hmi : ((lo : Int) + (hi : Int)) / 2 = (m : Int) := by omega
      obtain ⟨y, hy⟩ : ∃ z, h[m]? = some z := ⟨h[m]'(by rw [HN.out]; omega), List.getElem?_eq_getElem _⟩
      have HYY := Lib.hid hy
      obtain ⟨b, off, rfl, hcap, hyk⟩ := HYK.out m y hy
      obtain ⟨YA, hYA⟩ : ∃ X, y.arr = X := ⟨_, rfl⟩
      rw [hYA] at hyk
      have HYA := Lib.hid hYA
      have HKK : Hid (∀ W, Below w0.heap.size w0 W → CellsOk W b (off + m * 20) 20 ∧ cellsAt W b (off + m * 20) 20 = YA ∧ CellsOk W w.heap.size 0 20 ∧ cellsAt W w.heap.size 0 20 = XA) := Lib.hid fun W hW => ⟨(hyk W hW).1, (hyk W hW).2, HXK.out W hW⟩
      clear hyk hYA hy
      go_upto_region 5 with fail
      have hml : m < n := by omega
      clear hm hmi
      obtain ⟨hm2, hm3⟩ := hm1
      obtain ⟨r, hr⟩ : ∃ r, cmpI y.fr x.fr = r := ⟨_, rfl⟩
      have HRR := Lib.hid hr
      clear hr
      have ⟨k1, k2, k3, k4⟩ := HKK.out _ HB.out
      refine wp_region_held_drew (S := (fun w' => Below w0.heap.size w0 w' ∧ CellsOk w' b (off + m * 20) 20 ∧ cellsAt w' b (off + m * 20) 20 = YA ∧ CellsOk w' w.heap.size 0 20 ∧ cellsAt w' w.heap.size 0 20 = XA)) (by kernel_rfl) ?hs0 (fun hHeld => ?_)
      case hs0 => (exact ⟨HB.out.drew, HKK.out _ HB.out.drew⟩)
      refine' wpAnyH_take (i := 0) (oi := _) (v := _) rfl (by kernel_rfl) (by kernel_rfl) (by kernel_rfl) (fun _ _ _ h => h) (Or.inl ⟨by rfl, ?hy⟩) (by assumption) ?_
      case hy => (intro w hSw; (try dsimp only at hSw); (try simp only [List.getElem_toArray, List.getElem_cons_zero]); go_simp; try with_reducible rfl)
      try simp only [List.getElem_toArray, List.getElem_cons_zero, Act.put, List.setIfInBounds_toArray, List.set_cons_zero, List.set_cons_succ]
      refine' wpAnyH_take (i := 1) (oi := _) (v := _) rfl (by kernel_rfl) (by kernel_rfl) (by kernel_rfl) (fun _ _ _ h => h) (Or.inl ⟨by rfl, ?hy⟩) (by assumption) ?_
      case hy => (intro w hSw; (try dsimp only at hSw); (try simp only [List.getElem_toArray, List.getElem_cons_zero, List.getElem_cons_succ]); go_simp; try with_reducible rfl)
      try simp only [List.getElem_toArray, List.getElem_cons_zero, List.getElem_cons_succ, Act.put, List.setIfInBounds_toArray, List.set_cons_zero, List.set_cons_succ]
      refine' wpAnyH_take (i := 2) (oi := _) (v := _) rfl (by kernel_rfl) (by kernel_rfl) (by kernel_rfl) (fun _ _ _ h => h) (Or.inl ⟨by rfl, ?hy⟩) (by assumption) ?_
      case hy => (intro w hSw; (try dsimp only at hSw); (try simp only [List.getElem_toArray, List.getElem_cons_zero, List.getElem_cons_succ]); go_simp; try with_reducible rfl)
      try simp only [List.getElem_toArray, List.getElem_cons_zero, List.getElem_cons_succ, Act.put, List.setIfInBounds_toArray, List.set_cons_zero, List.set_cons_succ]
      refine' wpAnyH_take (i := 3) (oi := _) (v := _) rfl (by kernel_rfl) (by kernel_rfl) (by kernel_rfl) (fun _ _ _ h => h) (Or.inl ⟨by rfl, ?hy⟩) (by assumption) ?_
      case hy => (intro w hSw; (try dsimp only at hSw); (try simp only [List.getElem_toArray, List.getElem_cons_zero, List.getElem_cons_succ]); go_simp; try with_reducible rfl)
      try simp only [List.getElem_toArray, List.getElem_cons_zero, List.getElem_cons_succ, Act.put, List.setIfInBounds_toArray, List.set_cons_zero, List.set_cons_succ]
      refine' wpAnyH_take (i := 4) (oi := _) (v := _) rfl (by kernel_rfl) (by kernel_rfl) (by kernel_rfl) (fun _ _ _ h => h) (Or.inl ⟨by rfl, ?hy⟩) (by assumption) ?_
      case hy => (intro w hSw; (try dsimp only at hSw); (try simp only [List.getElem_toArray, List.getElem_cons_zero, List.getElem_cons_succ]); go_simp; try with_reducible rfl)
      try simp only [List.getElem_toArray, List.getElem_cons_zero, List.getElem_cons_succ, Act.put, List.setIfInBounds_toArray, List.set_cons_zero, List.set_cons_succ]
      refine' wpAnyH_take (i := 5) (oi := _) (v := _) rfl (by kernel_rfl) (by kernel_rfl) (by kernel_rfl) (fun _ _ _ h => h) (Or.inl ⟨by rfl, ?hy⟩) (by assumption) ?_
      case hy => (intro w hSw; (try dsimp only at hSw); (try simp only [List.getElem_toArray, List.getElem_cons_zero, List.getElem_cons_succ]); go_simp; try with_reducible rfl)
      try simp only [List.getElem_toArray, List.getElem_cons_zero, List.getElem_cons_succ, Act.put, List.setIfInBounds_toArray, List.set_cons_zero, List.set_cons_succ]
      refine wpAnyH_ready (rs := [6]) (by kernel_rfl) (by simp) ?_
      refine AllReadyH.cons (o := _) rfl (fun K hK => ?_) AllReadyH.nil
      try simp only [List.getElem_toArray, List.getElem_cons_zero, List.getElem_cons_succ, Act.put, List.setIfInBounds_toArray, List.set_cons_zero, List.set_cons_succ]
      go_simp
      (refine (by_any y x YA XA HYA.out.symm HXA.out r HRR.out _).mono ?_; rintro e w6 ⟨rfl, hb6⟩)
      go_wp2_with fail
      refine hK.out _ _ ?hs1 (fun hHeld => ?_)
      case hs1 => (have hb7 := HB.out.drew.trans (hb6.mono HB.out.size); exact ⟨hb7, HKK.out _ hb7⟩)
      clear hK K
      try simp only [List.getElem_toArray, List.getElem_cons_zero, List.getElem_cons_succ, Act.put, List.setIfInBounds_toArray, List.set_cons_zero, List.set_cons_succ]
      refine' wpAnyH_take (i := 7) (oi := _) (v := _) rfl (by kernel_rfl) (by kernel_rfl) (by kernel_rfl) (fun _ _ _ h => h) (Or.inl ⟨by rfl, ?hy⟩) (by assumption) ?_
      case hy => (intro w hSw; (try dsimp only at hSw); (try simp only [List.getElem_toArray, List.getElem_cons_zero, List.getElem_cons_succ]); go_simp; try with_reducible rfl)
      try simp only [List.getElem_toArray, List.getElem_cons_zero, List.getElem_cons_succ, Act.put, List.setIfInBounds_toArray, List.set_cons_zero, List.set_cons_succ]
      refine wpAnyH_done (by kernel_rfl) ?_ _
      have HB6 := Lib.hid (HB.out.drew.trans (hb6.mono HB.out.size))
      cases d : decide (r < 0)
      · have HGE : Hid (x.fr ≤ y.fr) := Lib.hid (by
          have h1 := HRR.out
          have h2 : ¬ r < 0 := by simpa using d
          unfold cmpI at h1
          split at h1 <;> omega)
        have HC2 := Lib.hid (HCU.out.down HRI.out HYY.out HGE.out)
        go_wp2_with fail
        go_roundw
        case rel => exact ⟨lo, m, rfl, rfl, hm2, Nat.le_trans (Nat.le_of_lt hm3) hhn, HC2, HB6.out⟩
        case measure => simp [intOf]; omega
      · have HLT : Hid (y.fr < x.fr) := Lib.hid (by
          have h1 := HRR.out
          have h2 : r < 0 := by simpa using d
          unfold cmpI at h1
          split at h1
          · assumption
          · split at h1 <;> omega)
        have HC2 := Lib.hid (HCU.out.up HRI.out HYY.out HLT.out)
        go_wp2_with fail
        go_roundw
        case rel => exact ⟨m + 1, hi, congrArg (Value.int .i64) (by omega), rfl, hm3, hhn, HC2, HB6.out⟩
        case measure => simp [intOf]; omega
    · obtain rfl : lo = hi := by omega
      by_cases hln : lo < n
      · obtain ⟨y, hy⟩ : ∃ z, h[lo]? = some z := ⟨h[lo]'(by rw [HN.out]; omega), List.getElem?_eq_getElem _⟩
        have HYY := Lib.hid hy
        obtain ⟨b, off, rfl, hcap, hyk⟩ := HYK.out lo y hy
        obtain ⟨YA, hYA⟩ : ∃ X, y.arr = X := ⟨_, rfl⟩
        rw [hYA] at hyk
        have HYA := Lib.hid hYA
        have HKK : Hid (∀ W, Below w0.heap.size w0 W → CellsOk W b (off + lo * 20) 20 ∧ cellsAt W b (off + lo * 20) 20 = YA ∧ CellsOk W w.heap.size 0 20 ∧ cellsAt W w.heap.size 0 20 = XA) := Lib.hid fun W hW => ⟨(hyk W hW).1, (hyk W hW).2, HXK.out W hW⟩
        clear hyk hYA hy
        obtain ⟨r, hr⟩ : ∃ r, cmpI y.fr x.fr = r := ⟨_, rfl⟩
        have HRR := Lib.hid hr
        clear hr
        obtain ⟨f, hf⟩ : ∃ f, (r == 0) = f := ⟨_, rfl⟩
        have HFE : Hid ((f = true → y.fr = x.fr) ∧ (f = false → y.fr ≠ x.fr)) := Lib.hid (by
          have h1 := HRR.out
          unfold cmpI at h1
          subst hf
          constructor
          · intro h2
            have h2 : r = 0 := by simpa using h2
            split at h1
            · omega
            · split at h1 <;> omega
          · intro h2 h3
            have h2 : ¬ r = 0 := by simpa using h2
            rw [if_neg (by omega), if_neg (by omega)] at h1
            omega)
        have q1 : (lo : Int) < n := by omega
        have ⟨k1, k2, k3, k4⟩ := HKK.out _ HB.out
        go_upto_region 8 with fail
        refine wp_region_held_drew (S := (fun w' => Below w0.heap.size w0 w' ∧ CellsOk w' b (off + lo * 20) 20 ∧ cellsAt w' b (off + lo * 20) 20 = YA ∧ CellsOk w' w.heap.size 0 20 ∧ cellsAt w' w.heap.size 0 20 = XA)) (by kernel_rfl) ?hs0 (fun hHeld => ?_)
        case hs0 => (exact ⟨HB.out.drew, HKK.out _ HB.out.drew⟩)
        refine' wpAnyH_take (i := 0) (oi := _) (v := _) rfl (by kernel_rfl) (by kernel_rfl) (by kernel_rfl) (fun _ _ _ h => h) (Or.inl ⟨by rfl, ?hy⟩) (by assumption) ?_
        case hy => (intro w hSw; (try dsimp only at hSw); (try simp only [List.getElem_toArray, List.getElem_cons_zero]); go_simp; try with_reducible rfl)
        try simp only [List.getElem_toArray, List.getElem_cons_zero, Act.put, List.setIfInBounds_toArray, List.set_cons_zero, List.set_cons_succ]
        refine' wpAnyH_take (i := 1) (oi := _) (v := _) rfl (by kernel_rfl) (by kernel_rfl) (by kernel_rfl) (fun _ _ _ h => h) (Or.inl ⟨by rfl, ?hy⟩) (by assumption) ?_
        case hy => (intro w hSw; (try dsimp only at hSw); (try simp only [List.getElem_toArray, List.getElem_cons_zero, List.getElem_cons_succ]); go_simp; try with_reducible rfl)
        try simp only [List.getElem_toArray, List.getElem_cons_zero, List.getElem_cons_succ, Act.put, List.setIfInBounds_toArray, List.set_cons_zero, List.set_cons_succ]
        refine' wpAnyH_take (i := 2) (oi := _) (v := _) rfl (by kernel_rfl) (by kernel_rfl) (by kernel_rfl) (fun _ _ _ h => h) (Or.inl ⟨by rfl, ?hy⟩) (by assumption) ?_
        case hy => (intro w hSw; (try dsimp only at hSw); (try simp only [List.getElem_toArray, List.getElem_cons_zero, List.getElem_cons_succ]); go_simp; try with_reducible rfl)
        try simp only [List.getElem_toArray, List.getElem_cons_zero, List.getElem_cons_succ, Act.put, List.setIfInBounds_toArray, List.set_cons_zero, List.set_cons_succ]
        refine' wpAnyH_take (i := 3) (oi := _) (v := _) rfl (by kernel_rfl) (by kernel_rfl) (by kernel_rfl) (fun _ _ _ h => h) (Or.inl ⟨by rfl, ?hy⟩) (by assumption) ?_
        case hy => (intro w hSw; (try dsimp only at hSw); (try simp only [List.getElem_toArray, List.getElem_cons_zero, List.getElem_cons_succ]); go_simp; try with_reducible rfl)
        try simp only [List.getElem_toArray, List.getElem_cons_zero, List.getElem_cons_succ, Act.put, List.setIfInBounds_toArray, List.set_cons_zero, List.set_cons_succ]
        refine' wpAnyH_take (i := 4) (oi := _) (v := _) rfl (by kernel_rfl) (by kernel_rfl) (by kernel_rfl) (fun _ _ _ h => h) (Or.inl ⟨by rfl, ?hy⟩) (by assumption) ?_
        case hy => (intro w hSw; (try dsimp only at hSw); (try simp only [List.getElem_toArray, List.getElem_cons_zero, List.getElem_cons_succ]); go_simp; try with_reducible rfl)
        try simp only [List.getElem_toArray, List.getElem_cons_zero, List.getElem_cons_succ, Act.put, List.setIfInBounds_toArray, List.set_cons_zero, List.set_cons_succ]
        refine' wpAnyH_take (i := 5) (oi := _) (v := _) rfl (by kernel_rfl) (by kernel_rfl) (by kernel_rfl) (fun _ _ _ h => h) (Or.inl ⟨by rfl, ?hy⟩) (by assumption) ?_
        case hy => (intro w hSw; (try dsimp only at hSw); (try simp only [List.getElem_toArray, List.getElem_cons_zero, List.getElem_cons_succ]); go_simp; try with_reducible rfl)
        try simp only [List.getElem_toArray, List.getElem_cons_zero, List.getElem_cons_succ, Act.put, List.setIfInBounds_toArray, List.set_cons_zero, List.set_cons_succ]
        refine' wpAnyH_take (i := 6) (oi := _) (v := _) rfl (by kernel_rfl) (by kernel_rfl) (by kernel_rfl) (fun _ _ _ h => h) (Or.inl ⟨by rfl, ?hy⟩) (by assumption) ?_
        case hy => (intro w hSw; (try dsimp only at hSw); (try simp only [List.getElem_toArray, List.getElem_cons_zero, List.getElem_cons_succ]); go_simp; try with_reducible rfl)
        try simp only [List.getElem_toArray, List.getElem_cons_zero, List.getElem_cons_succ, Act.put, List.setIfInBounds_toArray, List.set_cons_zero, List.set_cons_succ]
        refine' wpAnyH_take (i := 7) (oi := _) (v := _) rfl (by kernel_rfl) (by kernel_rfl) (by kernel_rfl) (fun _ _ _ h => h) (Or.inl ⟨by rfl, ?hy⟩) (by assumption) ?_
        case hy => (intro w hSw; (try dsimp only at hSw); (try simp only [List.getElem_toArray, List.getElem_cons_zero, List.getElem_cons_succ]); go_simp; try with_reducible rfl)
        try simp only [List.getElem_toArray, List.getElem_cons_zero, List.getElem_cons_succ, Act.put, List.setIfInBounds_toArray, List.set_cons_zero, List.set_cons_succ]
        refine' wpAnyH_take (i := 8) (oi := _) (v := _) rfl (by kernel_rfl) (by kernel_rfl) (by kernel_rfl) (fun _ _ _ h => h) (Or.inl ⟨by rfl, ?hy⟩) (by assumption) ?_
        case hy => (intro w hSw; (try dsimp only at hSw); (try simp only [List.getElem_toArray, List.getElem_cons_zero, List.getElem_cons_succ]); go_simp; try with_reducible rfl)
        try simp only [List.getElem_toArray, List.getElem_cons_zero, List.getElem_cons_succ, Act.put, List.setIfInBounds_toArray, List.set_cons_zero, List.set_cons_succ]
        refine' wpAnyH_take (i := 9) (oi := _) (v := _) rfl (by kernel_rfl) (by kernel_rfl) (by kernel_rfl) (fun _ _ _ h => h) (Or.inl ⟨by rfl, ?hy⟩) (by assumption) ?_
        case hy => (intro w hSw; (try dsimp only at hSw); (try simp only [List.getElem_toArray, List.getElem_cons_zero, List.getElem_cons_succ]); go_simp; try with_reducible rfl)
        try simp only [List.getElem_toArray, List.getElem_cons_zero, List.getElem_cons_succ, Act.put, List.setIfInBounds_toArray, List.set_cons_zero, List.set_cons_succ]
        refine' wpAnyH_take (i := 10) (oi := _) (v := _) rfl (by kernel_rfl) (by kernel_rfl) (by kernel_rfl) (fun _ _ _ h => h) (Or.inl ⟨by rfl, ?hy⟩) (by assumption) ?_
        case hy => (intro w hSw; (try dsimp only at hSw); (try simp only [List.getElem_toArray, List.getElem_cons_zero, List.getElem_cons_succ]); go_simp; try with_reducible rfl)
        try simp only [List.getElem_toArray, List.getElem_cons_zero, List.getElem_cons_succ, Act.put, List.setIfInBounds_toArray, List.set_cons_zero, List.set_cons_succ]
        refine wpAnyH_ready (rs := [11]) (by kernel_rfl) (by simp) ?_
        refine AllReadyH.cons (o := _) rfl (fun K hK => ?_) AllReadyH.nil
        try simp only [List.getElem_toArray, List.getElem_cons_zero, List.getElem_cons_succ, Act.put, List.setIfInBounds_toArray, List.set_cons_zero, List.set_cons_succ]
        go_simp
        (refine (by_any y x YA XA HYA.out.symm HXA.out r HRR.out _).mono ?_; rintro e w6 ⟨rfl, hb6⟩)
        go_wp2_with fail
        refine hK.out _ _ ?hs1 (fun hHeld => ?_)
        case hs1 => (have hb7 := HB.out.drew.trans (hb6.mono HB.out.size); exact ⟨hb7, HKK.out _ hb7⟩)
        clear hK K
        try simp only [List.getElem_toArray, List.getElem_cons_zero, List.getElem_cons_succ, Act.put, List.setIfInBounds_toArray, List.set_cons_zero, List.set_cons_succ]
        refine' wpAnyH_take (i := 12) (oi := _) (v := _) rfl (by kernel_rfl) (by kernel_rfl) (by kernel_rfl) (fun _ _ _ h => h) (Or.inl ⟨by rfl, ?hy⟩) (by assumption) ?_
        case hy => (intro w hSw; (try dsimp only at hSw); (try simp only [List.getElem_toArray, List.getElem_cons_zero, List.getElem_cons_succ]); go_simp; try with_reducible rfl)
        try simp only [List.getElem_toArray, List.getElem_cons_zero, List.getElem_cons_succ, Act.put, List.setIfInBounds_toArray, List.set_cons_zero, List.set_cons_succ]
        refine' wpAnyH_take (i := 13) (oi := _) (v := _) rfl (by kernel_rfl) (by kernel_rfl) (by kernel_rfl) (fun _ _ _ h => h) (Or.inl ⟨by rfl, ?hy⟩) (by assumption) ?_
        case hy => (intro w hSw; (try dsimp only at hSw); (try simp only [List.getElem_toArray, List.getElem_cons_zero, List.getElem_cons_succ]); go_simp; try with_reducible rfl)
        try simp only [List.getElem_toArray, List.getElem_cons_zero, List.getElem_cons_succ, Act.put, List.setIfInBounds_toArray, List.set_cons_zero, List.set_cons_succ]
        refine' wpAnyH_take (i := 14) (oi := _) (v := _) rfl (by kernel_rfl) (by kernel_rfl) (by kernel_rfl) (fun _ _ _ h => h) (Or.inl ⟨by rfl, ?hy⟩) (by assumption) ?_
        case hy => (intro w hSw; (try dsimp only at hSw); (try simp only [List.getElem_toArray, List.getElem_cons_zero, List.getElem_cons_succ]); go_simp; try with_reducible rfl)
        try simp only [List.getElem_toArray, List.getElem_cons_zero, List.getElem_cons_succ, Act.put, List.setIfInBounds_toArray, List.set_cons_zero, List.set_cons_succ]
        refine' wpAnyH_take (i := 15) (oi := _) (v := _) rfl (by kernel_rfl) (by kernel_rfl) (by kernel_rfl) (fun _ _ _ h => h) (Or.inl ⟨by rfl, ?hy⟩) (by assumption) ?_
        case hy => (intro w hSw; (try dsimp only at hSw); (try simp only [List.getElem_toArray, List.getElem_cons_zero, List.getElem_cons_succ]); go_simp; try with_reducible rfl)
        try simp only [List.getElem_toArray, List.getElem_cons_zero, List.getElem_cons_succ, Act.put, List.setIfInBounds_toArray, List.set_cons_zero, List.set_cons_succ]
        refine wpAnyH_done (by kernel_rfl) ?_ _
        have HB6 := Lib.hid (HB.out.drew.trans (hb6.mono HB.out.size))
        go_wp2_with fail
        go_ret2
        exact ⟨lo, f, rfl, hhn, HCU.out, fun hf => ⟨y, HYY.out, HFE.out.1 hf⟩, fun hf z hz => by rw [HYY.out] at hz; obtain rfl := Option.some.inj hz; exact HFE.out.2 hf, HB0.out.trans (HB6.out.mono HB0.out.size)⟩
      · have q1 : decide ((lo : Int) < n) = false := by rw [decide_eq_false_iff_not]; omega
        have q2 : (lo < n) = False := by rw [eq_iff_iff]; exact ⟨hln, False.elim⟩
        have hbq := HB.out
        go_upto_region 8 with fail
        refine wp_region_held_drew (S := (fun w' => Below w0.heap.size w0 w')) (by kernel_rfl) ?hs0 (fun hHeld => ?_)
        case hs0 => (exact HB.out.drew)
        refine' wpAnyH_take (i := 0) (oi := _) (v := _) rfl (by kernel_rfl) (by kernel_rfl) (by kernel_rfl) (fun _ _ _ h => h) (Or.inl ⟨by rfl, ?hy⟩) (by assumption) ?_
        case hy => (intro w hSw; (try dsimp only at hSw); (try simp only [List.getElem_toArray, List.getElem_cons_zero]); go_simp; try with_reducible rfl)
        try simp only [List.getElem_toArray, List.getElem_cons_zero, Act.put, List.setIfInBounds_toArray, List.set_cons_zero, List.set_cons_succ]
        refine' wpAnyH_take (i := 1) (oi := _) (v := _) rfl (by kernel_rfl) (by kernel_rfl) (by kernel_rfl) (fun _ _ _ h => h) (Or.inl ⟨by rfl, ?hy⟩) (by assumption) ?_
        case hy => (intro w hSw; (try dsimp only at hSw); (try simp only [List.getElem_toArray, List.getElem_cons_zero, List.getElem_cons_succ]); go_simp; try with_reducible rfl)
        try simp only [List.getElem_toArray, List.getElem_cons_zero, List.getElem_cons_succ, Act.put, List.setIfInBounds_toArray, List.set_cons_zero, List.set_cons_succ]
        refine' wpAnyH_take (i := 2) (oi := _) (v := _) rfl (by kernel_rfl) (by kernel_rfl) (by kernel_rfl) (fun _ _ _ h => h) (Or.inl ⟨by rfl, ?hy⟩) (by assumption) ?_
        case hy => (intro w hSw; (try dsimp only at hSw); (try simp only [List.getElem_toArray, List.getElem_cons_zero, List.getElem_cons_succ]); go_simp; try with_reducible rfl)
        try simp only [List.getElem_toArray, List.getElem_cons_zero, List.getElem_cons_succ, Act.put, List.setIfInBounds_toArray, List.set_cons_zero, List.set_cons_succ]
        refine' wpAnyH_take (i := 3) (oi := _) (v := _) rfl (by kernel_rfl) (by kernel_rfl) (by kernel_rfl) (fun _ _ _ h => h) (Or.inl ⟨by rfl, ?hy⟩) (by assumption) ?_
        case hy => (intro w hSw; (try dsimp only at hSw); (try simp only [List.getElem_toArray, List.getElem_cons_zero, List.getElem_cons_succ]); go_simp; try with_reducible rfl)
        try simp only [List.getElem_toArray, List.getElem_cons_zero, List.getElem_cons_succ, Act.put, List.setIfInBounds_toArray, List.set_cons_zero, List.set_cons_succ]
        refine' wpAnyH_take (i := 4) (oi := _) (v := _) rfl (by kernel_rfl) (by kernel_rfl) (by kernel_rfl) (fun _ _ _ h => h) (Or.inl ⟨by rfl, ?hy⟩) (by assumption) ?_
        case hy => (intro w hSw; (try dsimp only at hSw); (try simp only [List.getElem_toArray, List.getElem_cons_zero, List.getElem_cons_succ]); go_simp; try with_reducible rfl)
        try simp only [List.getElem_toArray, List.getElem_cons_zero, List.getElem_cons_succ, Act.put, List.setIfInBounds_toArray, List.set_cons_zero, List.set_cons_succ]
        refine' wpAnyH_take (i := 5) (oi := _) (v := _) rfl (by kernel_rfl) (by kernel_rfl) (by kernel_rfl) (fun _ _ _ h => h) (Or.inr ⟨by rfl, rfl⟩) (by assumption) ?_
        try simp only [List.getElem_toArray, List.getElem_cons_zero, List.getElem_cons_succ, Act.put, List.setIfInBounds_toArray, List.set_cons_zero, List.set_cons_succ]
        refine' wpAnyH_take (i := 6) (oi := _) (v := _) rfl (by kernel_rfl) (by kernel_rfl) (by kernel_rfl) (fun _ _ _ h => h) (Or.inr ⟨by rfl, rfl⟩) (by assumption) ?_
        try simp only [List.getElem_toArray, List.getElem_cons_zero, List.getElem_cons_succ, Act.put, List.setIfInBounds_toArray, List.set_cons_zero, List.set_cons_succ]
        refine' wpAnyH_take (i := 7) (oi := _) (v := _) rfl (by kernel_rfl) (by kernel_rfl) (by kernel_rfl) (fun _ _ _ h => h) (Or.inr ⟨by rfl, rfl⟩) (by assumption) ?_
        try simp only [List.getElem_toArray, List.getElem_cons_zero, List.getElem_cons_succ, Act.put, List.setIfInBounds_toArray, List.set_cons_zero, List.set_cons_succ]
        refine' wpAnyH_take (i := 8) (oi := _) (v := _) rfl (by kernel_rfl) (by kernel_rfl) (by kernel_rfl) (fun _ _ _ h => h) (Or.inr ⟨by rfl, rfl⟩) (by assumption) ?_
        try simp only [List.getElem_toArray, List.getElem_cons_zero, List.getElem_cons_succ, Act.put, List.setIfInBounds_toArray, List.set_cons_zero, List.set_cons_succ]
        refine' wpAnyH_take (i := 9) (oi := _) (v := _) rfl (by kernel_rfl) (by kernel_rfl) (by kernel_rfl) (fun _ _ _ h => h) (Or.inr ⟨by rfl, rfl⟩) (by assumption) ?_
        try simp only [List.getElem_toArray, List.getElem_cons_zero, List.getElem_cons_succ, Act.put, List.setIfInBounds_toArray, List.set_cons_zero, List.set_cons_succ]
        refine' wpAnyH_take (i := 10) (oi := _) (v := _) rfl (by kernel_rfl) (by kernel_rfl) (by kernel_rfl) (fun _ _ _ h => h) (Or.inr ⟨by rfl, rfl⟩) (by assumption) ?_
        try simp only [List.getElem_toArray, List.getElem_cons_zero, List.getElem_cons_succ, Act.put, List.setIfInBounds_toArray, List.set_cons_zero, List.set_cons_succ]
        refine' wpAnyH_take (i := 11) (oi := _) (v := _) rfl (by kernel_rfl) (by kernel_rfl) (by kernel_rfl) (fun _ _ _ h => h) (Or.inr ⟨by rfl, rfl⟩) (by assumption) ?_
        try simp only [List.getElem_toArray, List.getElem_cons_zero, List.getElem_cons_succ, Act.put, List.setIfInBounds_toArray, List.set_cons_zero, List.set_cons_succ]
        refine' wpAnyH_take (i := 12) (oi := _) (v := _) rfl (by kernel_rfl) (by kernel_rfl) (by kernel_rfl) (fun _ _ _ h => h) (Or.inr ⟨by rfl, rfl⟩) (by assumption) ?_
        try simp only [List.getElem_toArray, List.getElem_cons_zero, List.getElem_cons_succ, Act.put, List.setIfInBounds_toArray, List.set_cons_zero, List.set_cons_succ]
        refine' wpAnyH_take (i := 13) (oi := _) (v := _) rfl (by kernel_rfl) (by kernel_rfl) (by kernel_rfl) (fun _ _ _ h => h) (Or.inl ⟨by rfl, ?hy⟩) (by assumption) ?_
        case hy => (intro w hSw; (try dsimp only at hSw); (try simp only [List.getElem_toArray, List.getElem_cons_zero, List.getElem_cons_succ]); go_simp; try with_reducible rfl)
        try simp only [List.getElem_toArray, List.getElem_cons_zero, List.getElem_cons_succ, Act.put, List.setIfInBounds_toArray, List.set_cons_zero, List.set_cons_succ]
        refine' wpAnyH_take (i := 14) (oi := _) (v := _) rfl (by kernel_rfl) (by kernel_rfl) (by kernel_rfl) (fun _ _ _ h => h) (Or.inl ⟨by rfl, ?hy⟩) (by assumption) ?_
        case hy => (intro w hSw; (try dsimp only at hSw); (try simp only [List.getElem_toArray, List.getElem_cons_zero, List.getElem_cons_succ]); go_simp; try with_reducible rfl)
        try simp only [List.getElem_toArray, List.getElem_cons_zero, List.getElem_cons_succ, Act.put, List.setIfInBounds_toArray, List.set_cons_zero, List.set_cons_succ]
        refine' wpAnyH_take (i := 15) (oi := _) (v := _) rfl (by kernel_rfl) (by kernel_rfl) (by kernel_rfl) (fun _ _ _ h => h) (Or.inl ⟨by rfl, ?hy⟩) (by assumption) ?_
        case hy => (intro w hSw; (try dsimp only at hSw); (try simp only [List.getElem_toArray, List.getElem_cons_zero, List.getElem_cons_succ]); go_simp; try with_reducible rfl)
        try simp only [List.getElem_toArray, List.getElem_cons_zero, List.getElem_cons_succ, Act.put, List.setIfInBounds_toArray, List.set_cons_zero, List.set_cons_succ]
        refine wpAnyH_done (by kernel_rfl) ?_ _
        have HB6 := Lib.hid HB.out.drew
        go_wp2_with fail
        go_ret2
        exact ⟨lo, false, rfl, hhn, HCU.out, fun hf => (by cases hf), fun _ z hz => absurd (List.getElem?_eq_some_iff.1 hz).1 (by rw [HN.out]; exact hln), HB0.out.trans (HB6.out.mono HB0.out.size)⟩

end Rsq
end Go.Proofs.Ytnmmokdkngccjaa

namespace Go.Proofs.Ytnmmokdkngccjaa
open Go.RowKit
namespace Rsq
open Num
open Msg (I64)

/-- what Insert tells: a row of the call's own with x at its place -/
def GotI (w : World) (base : Nat) (l : List It) (e : Ending) (w' : World) : Prop := ∃ v, e = .returned v ∧ OwnE encI 67 w' base v l ∧ Below base w w'

set_option maxRecDepth 100000 in
set_option maxHeartbeats 8000000 in
/-- at the end -/
theorem insert_end (h : List It) (x : It) (XA : Array Value) (hX : XA.toList = encI.of x) (n : Nat) (hn : h.length = n) (hn9 : n ≤ 1000) (a : Option Addr) (cap : Nat) (w : World) (base : Nat) (hb : base ≤ w.heap.size)
    (ho : OwnE encI 67 w base (.slice a n cap) h) (vb : Nat) (hv : w.heap[vb]? = some (.cells XA 67 (0, 0))) :
    Calls Try.prog 45 #[.slice a n cap, .int .i64 n, .slice (some ⟨vb, 0, none⟩) 1 1] w (GotI w base (h ++ [x])) := by
  obtain ⟨j0, hi0, hz0, hz1, hz2⟩ := info_parts infoI
  have HJ0 := Lib.hid hi0
  have HY0 := Lib.hid hz0
  have HY1 := Lib.hid hz1
  have HY2 := Lib.hid hz2
  have HO := Lib.hid ho
  have HN := Lib.hid hn
  have HV : Hid (RowAt encI w (some ⟨vb, 0, none⟩) 1 [x]) := Lib.hid (row_block encI hv [x] (by rw [hX]; simp) 1 (by simp))
  have hc := ho.at.2
  clear hi0 hz0 hz1 hz2 ho hn hv
  have hnil : a = none → n = 0 ∧ cap = 0 := fun e => by
    rcases hc with ⟨_, h2, h3⟩ | ⟨_, h2, _⟩
    · exact ⟨by rw [← HN.out, h2]; rfl, h3⟩
    · rw [e] at h2; cases h2
  have hcap : n ≤ cap := by
    rcases hc with ⟨_, h2, _⟩ | ⟨_, _, h2, _⟩
    · have := HN.out; rw [h2] at this; simp at this; omega
    · rwa [HN.out] at h2
  clear hc
  cases a with
  | none =>
    obtain ⟨rfl, rfl⟩ := hnil rfl
    go_enter Try.func45, Try.ntmps45
    go_wp2_with (at_builtin; refine wpList_append_row encI (by decide) rfl (.tmp 23) (.tmp 24) _ rfl base 67 j0 _ 208 Try.underlying24 HJ0.out HY0.out HY1.out HY2.out (by rfl) _ h rfl HO.out _ _ _ [x] rfl (by rfl) HV.out (by rw [HN.out]; simp only [List.length_cons, List.length_nil, maxLen]; omega) (by rw [HN.out]; simp only [List.length_cons, List.length_nil]; omega) hb ?_; intro v2 w2 hown2 hb2; have HO2 := Lib.hid hown2; have HB2 := Lib.hid hb2; clear hown2 hb2)
    go_ret
    exact ⟨_, rfl, HO2.out, HB2.out⟩
  | some y =>
    clear hnil
    obtain ⟨yb, yo, ys⟩ := y
    by_cases hcn : cap = n
    · subst hcn
      go_enter Try.func45, Try.ntmps45
      go_wp2_with (at_builtin; refine wpList_append_row encI (by decide) rfl (.tmp 23) (.tmp 24) _ rfl base 67 j0 _ 208 Try.underlying24 HJ0.out HY0.out HY1.out HY2.out (by rfl) _ h rfl HO.out _ _ _ [x] rfl (by rfl) HV.out (by rw [HN.out]; simp only [List.length_cons, List.length_nil, maxLen]; omega) (by rw [HN.out]; simp only [List.length_cons, List.length_nil]; omega) hb ?_; intro v2 w2 hown2 hb2; have HO2 := Lib.hid hown2; have HB2 := Lib.hid hb2; clear hown2 hb2)
      go_ret
      exact ⟨_, rfl, HO2.out, HB2.out⟩
    · go_enter Try.func45, Try.ntmps45
      go_wp2_with (at_builtin; refine wpList_append_row encI (by decide) rfl (.tmp 23) (.tmp 24) _ rfl base 67 j0 _ 208 Try.underlying24 HJ0.out HY0.out HY1.out HY2.out (by rfl) _ h rfl HO.out _ _ _ [x] rfl (by rfl) HV.out (by rw [HN.out]; simp only [List.length_cons, List.length_nil, maxLen]; omega) (by rw [HN.out]; simp only [List.length_cons, List.length_nil]; omega) hb ?_; intro v2 w2 hown2 hb2; have HO2 := Lib.hid hown2; have HB2 := Lib.hid hb2; clear hown2 hb2)
      go_ret
      exact ⟨_, rfl, HO2.out, HB2.out⟩

theorem nmin {a b c : Nat} (h : min a b = c) : Nat.min a b = c := h
theorem flat_ins (h : List It) (x : It) (i : Nat) : (h.take i ++ x :: h.drop i).flatMap encI.of = (h.take i).flatMap encI.of ++ (encI.of x ++ (h.drop i).flatMap encI.of) := by
  rw [List.flatMap_append, List.flatMap_cons]
theorem flat_take (h : List It) (i : Nat) (hi : i ≤ h.length) {L : List Value} {n : Nat} (hn : h.length = n) (hL : L.take (n * 20) = h.flatMap encI.of) : L.take (i * 20) = (h.take i).flatMap encI.of := by
  have e : h.flatMap encI.of = (h.take i).flatMap encI.of ++ (h.drop i).flatMap encI.of := by rw [← List.flatMap_append, List.take_append_drop]
  have l1 : ((h.take i).flatMap encI.of).length = i * 20 := by rw [encI.flat_len, List.length_take, Nat.min_eq_left hi]; rfl
  have h2 : (L.take (n * 20)).take (i * 20) = (h.take i).flatMap encI.of := by rw [hL, e, List.take_append_of_le_length (by omega), List.take_of_length_le (by omega)]
  rw [List.take_take, Nat.min_eq_left (by omega)] at h2
  exact h2

theorem flat_drop {h : List It} {n i j : Nat} {L : List Value} {v : Value} (hn : h.length = n) (hi : i ≤ n) (hL : L.take (n * 20) = h.flatMap encI.of) (hj : ((h.drop i).flatMap encI.of)[j]? = some v) : L[i * 20 + j]? = some v := by
  have e : h.flatMap encI.of = (h.take i).flatMap encI.of ++ (h.drop i).flatMap encI.of := by rw [← List.flatMap_append, List.take_append_drop]
  have l1 : ((h.take i).flatMap encI.of).length = i * 20 := by rw [encI.flat_len, List.length_take, hn, Nat.min_eq_left hi]; rfl
  refine take_get (m := n * 20) ?_
  rw [hL, e, List.getElem?_append_right (by omega), l1, Nat.add_sub_cancel_left]
  exact hj

set_option maxRecDepth 100000 in
set_option maxHeartbeats 8000000 in
/-- in place -/
theorem insert_room (h : List It) (x : It) (XA : Array Value) (hX : XA.toList = encI.of x) (n i : Nat) (hn : h.length = n) (hi : i < n) (hn9 : n ≤ 1000) (g cap : Nat) (w : World) (base : Nat) (hbg : base ≤ g)
    (cur : List Value) (hg : w.heap[g]? = some (.cells cur.toArray 67 (0, 0))) (hcap : n + 1 ≤ cap) (hmx : cap ≤ maxLen) (hcur : cur.length = cap * 20) (htk : cur.take (n * 20) = h.flatMap encI.of)
    (vb : Nat) (hv : w.heap[vb]? = some (.cells XA 67 (0, 0))) (hne : vb ≠ g) :
    Calls Try.prog 45 #[.slice (some ⟨g, 0, none⟩) n cap, .int .i64 i, .slice (some ⟨vb, 0, none⟩) 1 1] w (GotI w base (h.take i ++ x :: h.drop i)) := by
  have hsz : (Try.prog.info? 67).map (·.size) = some 20 := by kernel_rfl
  have hS : ∀ w, (Go.sizeOf 67).run Try.prog w = .ok 20 w := Try.sizeOf67
  have HG := Lib.hid hg
  have HV := Lib.hid hv
  have HX := Lib.hid hX
  have HTK := Lib.hid htk
  have HCU := Lib.hid hcur
  have HN := Lib.hid hn
  have hXl : XA.size = 20 := by rw [← Array.length_toList, hX]; rfl
  have HD : Hid (((h.drop i).flatMap encI.of).length = (n - i) * 20) := Lib.hid (by rw [encI.flat_len, List.length_drop, hn]; rfl)
  have HA := Lib.hid (flat_take h i (by omega) hn htk)
  have HSV : Hid (w.shape? vb = some (67, 20) ∧ w.shape? g = some (67, cap * 20) ∧ w.frozen? ⟨vb, 0, none⟩ = false ∧ w.frozen? ⟨vb, 20, none⟩ = false) := Lib.hid
    ⟨by simp [World.shape?, hv, hXl], by simp [World.shape?, hg, hcur], frozen_of_row w vb 0 _ _ hv, frozen_of_row w vb 20 _ _ hv⟩
  have HOV : Hid (∀ o lb cb, (callFunc 49 #[.slice (some ⟨vb, 0, none⟩) 1 1, .slice (some ⟨g, o, none⟩) lb cb]).run Try.prog w = .ok (.value (.bool false)) w) := Lib.hid fun o lb cb => by
    rw [run_callFunc_extern Try.func49 (by kernel_rfl) (by kernel_rfl) (by kernel_rfl) (e := Extern.SlicesOverlaps.overlaps #[24, 24] #[4]) (by kernel_rfl),
      Lib.run_overlaps_apart w 24 4 67 Try.underlying24 20 hS ⟨vb, 0, none⟩ ⟨g, o, none⟩ 1 1 lb cb hne 67 67 20 (cap * 20) HSV.out.1 HSV.out.2.1 (by omega) HSV.out.2.2.1 HSV.out.2.2.2]
    rfl
  have hov := HOV.out
  clear hg hv hX htk hcur hn hXl hS
  unfold maxLen at hmx
  have hi' : i ≤ n := Nat.le_of_lt hi
  have e1 : ¬ ((i : Int) = (n : Int)) := by omega
  have e2 : ¬ ((cap : Int) < (n : Int) + 1) := by omega
  have e3 : ¬ (cap = i) := by omega
  have e4 : ¬ (cap = i + 1) := by omega
  go_enter Try.func45, Try.ntmps45
  go_upto_region 14 with fail
  go_upto_region 15 with (simp only [hov])
  clear hov HOV HSV
  have hw1 : IntKind.i64.wrap ((i : Int) + 1) = (i : Int) + 1 := by rw [IntKind.wrap_i64]; omega
  have hb1 : (0 : Int) ≤ (i : Int) + 1 := by omega
  have htn : ((i : Int) + 1).toNat = i + 1 := by omega
  have hb3 : (i : Int) ≤ (n : Int) + 1 := by omega
  have HP3 : Hid (Nat.min (n + 1 - i) (n - i) = n - i) := Lib.hid (nmin (by omega))
  have HP4 : Hid (∀ j v, ((h.drop i).flatMap encI.of)[j]? = some v → w.drew.cell? ((⟨g, i * 20, none⟩ : Addr).add j) = some v) := Lib.hid fun j v hj => by
    rw [add_none]
    exact (cell_of_row w g _ _ _ _ HG.out).trans (by rw [List.getElem?_toArray]; exact flat_drop HN.out hi' HTK.out hj)
  have HP5 : Hid ((i + 1) * 20 + ((h.drop i).flatMap encI.of).length ≤ cur.length) := Lib.hid (by rw [HD.out, HCU.out]; omega)
  have HP6 : Hid (w.drew.heap[g]? = some (.cells cur.toArray 67 (0, 0))) := HG
  go_region_law (refine step_copy_k 20 rfl (.tmp 73) (.tmp 76) 24 24 rfl 67 Try.underlying24 hsz g ((i + 1) * 20) (n - i) (cap - (i + 1)) ⟨g, i * 20, none⟩ (n + 1 - i) (cap - i) (by simp [Act.eval, Act.put]) (by simp [Act.eval, Act.put]) cur 67 HP6.out ((h.drop i).flatMap encI.of) (n - i) HP3.out HD.out HP4.out HP5.out (encI.flat_one _) ?_; intro w4 hc4; have HC4 := Lib.hid hc4; clear hc4)
  have HL4 : Hid ((splice cur ((i + 1) * 20) ((h.drop i).flatMap encI.of)).length = cap * 20) := Lib.hid (by rw [length_splice _ _ _ (by rw [HD.out, HCU.out]; omega), HCU.out])
  go_wp2_with (refine wpList_copy_k 20 rfl (.tmp 80) (.tmp 81) 24 24 rfl 67 Try.underlying24 hsz g (i * 20) _ _ ⟨vb, 0, none⟩ _ _ rfl rfl (splice cur ((i + 1) * 20) ((h.drop i).flatMap encI.of)) 67 HC4.out.row (encI.of x) 1 (nmin (by omega)) (encI.len x) (fun j v hj => by rw [add_none, Nat.zero_add, HC4.out.cell (x := ⟨vb, j, none⟩) hne]; exact (cell_of_row w vb j _ _ _ HV.out).trans (by rw [← Array.getElem?_toList, HX.out]; exact hj)) (by rw [HL4.out, encI.len]; show i * 20 + 20 ≤ cap * 20; omega) (encI.one x) ?_; intro w5 hc5; have HC5 := Lib.hid hc5; clear hc5)
  go_ret
  refine ⟨_, rfl, own_of encI (by rw [List.length_append, List.length_cons, List.length_take, List.length_drop, HN.out]; omega) HC5.out.row hbg hcap (by unfold maxLen; omega) (by rw [length_splice _ _ _ (by rw [HL4.out, encI.len]; show i * 20 + 20 ≤ cap * 20; omega), HL4.out]; rfl) ?_, ((Below.refl base w).drew.trans (HC4.out.below hbg)).trans (HC5.out.below hbg)⟩
  rw [flat_ins]
  have hq := splice_back (a := i * 20) (b := 20) (d := (n - i) * 20) HA.out (encI.len x) HD.out (by rw [HCU.out]; omega)
  rw [show i * 20 + 20 = (i + 1) * 20 by omega, show (i + 1) * 20 + (n - i) * 20 = (n + 1) * 20 by omega] at hq
  exact hq

set_option maxRecDepth 100000 in
set_option maxHeartbeats 8000000 in
/-- in new memory -/
theorem insert_grow (h : List It) (x : It) (XA : Array Value) (hX : XA.toList = encI.of x) (n i : Nat) (hn : h.length = n) (hi : i < n) (hn9 : n ≤ 1000) (g cap : Nat) (w : World) (base : Nat) (hbw : base ≤ w.heap.size)
    (cur : List Value) (hg : w.heap[g]? = some (.cells cur.toArray 67 (0, 0))) (hnc : n ≤ cap) (hcap : cap < n + 1) (htk : cur.take (n * 20) = h.flatMap encI.of)
    (vb : Nat) (hv : w.heap[vb]? = some (.cells XA 67 (0, 0))) :
    Calls Try.prog 45 #[.slice (some ⟨g, 0, none⟩) n cap, .int .i64 i, .slice (some ⟨vb, 0, none⟩) 1 1] w (GotI w base (h.take i ++ x :: h.drop i)) := by
  have hsz : (Try.prog.info? 67).map (·.size) = some 20 := by kernel_rfl
  obtain ⟨j0, hi0, hz0, hz1, hz2⟩ := info_parts infoI
  have HG := Lib.hid hg
  have HV := Lib.hid hv
  have HX := Lib.hid hX
  have HTK := Lib.hid htk
  have HN := Lib.hid hn
  have HD : Hid (((h.drop i).flatMap encI.of).length = (n - i) * 20) := Lib.hid (by rw [encI.flat_len, List.length_drop, hn]; rfl)
  have HA := Lib.hid (flat_take h i (by omega) hn htk)
  have HAL : Hid (((h.take i).flatMap encI.of).length = i * 20) := Lib.hid (by rw [encI.flat_len, List.length_take, hn, Nat.min_eq_left (by omega)]; rfl)
  have hgl : g < w.heap.size := (Array.getElem?_eq_some_iff.1 hg).1
  have hvl : vb < w.heap.size := (Array.getElem?_eq_some_iff.1 hv).1
  have hkk : (n : Int) + 1 - (i : Int) = ((n + 1 - i : Nat) : Int) := by omega
  have hik : i + (n + 1 - i) = n + 1 := by omega
  have hold : (Builtin.firstCells j0.size i (.slice (some ⟨g, 0, none⟩) i cap)).run Try.prog w.drew = .ok ((h.take i).flatMap encI.of).toArray w.drew := by
    rw [hz1]
    exact run_firstCells_some w.drew 20 i ⟨g, 0, none⟩ i cap _ HAL.out (fun j v hj => by
      rw [add_none, Nat.zero_add]
      refine (cell_of_row w g j _ _ _ hg).trans ?_
      rw [List.getElem?_toArray]
      rw [← HA.out] at hj
      exact take_get hj)
  obtain ⟨G, hG⟩ : ∃ G, grownCap w (n + 1) cap 67 = G := ⟨_, rfl⟩
  obtain ⟨R, hR⟩ : ∃ R : List Value, (((h.take i).flatMap encI.of).toArray ++ Builtin.zeroCells zeroI.cells (n + 1 - i) ++ Builtin.zeroCells zeroI.cells (G - (n + 1))).toList = R := ⟨_, rfl⟩
  have hGn : n + 1 ≤ G := by rw [← hG]; exact grownCap_ge w _ _ _
  have hG63 := grownCap_le_maxLen w (n + 1) cap 67 (by unfold maxLen; omega)
  rw [hG] at hG63
  have hzl : ∀ k, (Builtin.zeroCells zeroI.cells k).size = k * 20 := fun k => by rw [size_zeroCells]; rfl
  have HRL : Hid (R.length = G * 20) := Lib.hid (by
    rw [← hR, Array.length_toList, Array.size_append, Array.size_append, hzl, hzl, List.size_toArray, HAL.out]
    omega)
  have HRT : Hid (R.take (i * 20) = (h.take i).flatMap encI.of) := Lib.hid (by
    rw [← hR, Array.toList_append, Array.toList_append, List.append_assoc, List.take_append_of_le_length (by show i * 20 ≤ ((h.take i).flatMap encI.of).length; rw [HAL.out]; exact Nat.le_refl _), List.take_of_length_le (by show ((h.take i).flatMap encI.of).length ≤ i * 20; rw [HAL.out]; exact Nat.le_refl _)])
  have HRZ : Hid (∀ ty, (Builtin.append_ #[24, 3] ty #[.slice (some ⟨g, 0, none⟩) i cap, .int .i64 ((n : Int) + 1 - (i : Int))]).run Try.prog w =
      .ok (.slice (some ⟨w.heap.size, 0, none⟩) (n + 1) G) (w.drew.alloc (.cells R.toArray 67))) := Lib.hid fun ty => by
    have h := Lib.run_append_grow_zeros w 24 3 ty 67 j0 _ .i64 .i64 Try.underlying24 Try.underlying3 hi0 hz0 (some ⟨g, 0, none⟩) i cap _ hold (n + 1 - i) (by omega) (by rw [hz1]; decide) (by omega) (by omega) (by rw [hz2]; omega) (by rw [hz2, hik]; exact growslice_fits hcap (by omega))
    rw [hik, hG] at h
    rw [hkk, ← hR]
    exact h
  clear hg hv hX htk hn hi0 hz0 hz1 hz2 hold hG hR hkk hik hzl
  unfold maxLen at hG63
  have hi' : i ≤ n := Nat.le_of_lt hi
  have e1 : ¬ ((i : Int) = (n : Int)) := by omega
  have e2 : (cap : Int) < (n : Int) + 1 := by omega
  have e3 : ¬ (cap = i) := by omega
  have e4 : ¬ (G = i + 1) := by omega
  have e5 : ¬ (G = i) := by omega
  go_enter Try.func45, Try.ntmps45
  go_upto_region 10 with (at_builtin; refine Lib.wpList_append_run _ rfl _ _ _ _ rfl _ _ rfl rfl _ _ (HRZ.out _) ?_)
  have HB1 : Hid (Below base w (w.alloc (.cells R.toArray 67)).drew) := Lib.hid ((Below.refl base w).alloc hbw _).drew
  have HR1 : Hid ((w.alloc (.cells R.toArray 67)).drew.heap[w.heap.size]? = some (.cells R.toArray 67 (0, 0))) := Lib.hid (heap_alloc_new w _)
  have HG1 : Hid ((w.alloc (.cells R.toArray 67)).drew.heap[g]? = some (.cells cur.toArray 67 (0, 0))) := Lib.hid (alloc_block HG.out)
  have HV1 : Hid ((w.alloc (.cells R.toArray 67)).drew.heap[vb]? = some (.cells XA 67 (0, 0))) := Lib.hid (alloc_block HV.out)
  have hNg : g ≠ w.heap.size := Nat.ne_of_lt hgl
  have hNv : vb ≠ w.heap.size := Nat.ne_of_lt hvl
  obtain ⟨N, hN⟩ : ∃ N, w.heap.size = N := ⟨_, rfl⟩
  rw [hN] at HR1 hNg hNv hbw ⊢
  generalize (w.alloc (.cells R.toArray 67)).drew = w1 at HB1 HR1 HG1 HV1 ⊢
  clear hN hgl hvl HRZ
  go_upto_region 11 with (refine wpList_copy_k 20 rfl (.tmp 43) (.tmp 44) 24 24 rfl 67 Try.underlying24 hsz N (i * 20) _ _ ⟨vb, 0, none⟩ _ _ rfl rfl R 67 HR1.out (encI.of x) 1 (nmin (by omega)) (encI.len x) (fun j v hj => by rw [add_none, Nat.zero_add]; exact (cell_of_row w1 vb j _ _ _ HV1.out).trans (by rw [← Array.getElem?_toList, HX.out]; exact hj)) (by rw [HRL.out, encI.len]; show i * 20 + 20 ≤ G * 20; omega) (encI.one x) ?_; intro w4 hc4; have HC4 := Lib.hid hc4; clear hc4)
  have HL4 : Hid ((splice R (i * 20) (encI.of x)).length = G * 20) := Lib.hid (by rw [length_splice _ _ _ (by rw [HRL.out, encI.len]; show i * 20 + 20 ≤ G * 20; omega), HRL.out])
  have hw1 : IntKind.i64.wrap ((i : Int) + 1) = (i : Int) + 1 := by rw [IntKind.wrap_i64]; omega
  have hb1 : (0 : Int) ≤ (i : Int) + 1 := by omega
  have htn : ((i : Int) + 1).toNat = i + 1 := by omega
  have hb3 : (i : Int) ≤ (n : Int) + 1 := by omega
  have HP3 : Hid (Nat.min (n - i) (n - i) = n - i) := Lib.hid (nmin (by omega))
  have HP4 : Hid (∀ j v, ((h.drop i).flatMap encI.of)[j]? = some v → w4.drew.cell? ((⟨g, i * 20, none⟩ : Addr).add j) = some v) := Lib.hid fun j v hj => by
    rw [add_none]
    exact (HC4.out.cell (x := ⟨g, i * 20 + j, none⟩) hNg).trans ((cell_of_row w1 g _ _ _ _ HG1.out).trans (by rw [List.getElem?_toArray]; exact flat_drop HN.out hi' HTK.out hj))
  have HP5 : Hid ((i + 1) * 20 + ((h.drop i).flatMap encI.of).length ≤ (splice R (i * 20) (encI.of x)).length) := Lib.hid (by rw [HD.out, HL4.out]; omega)
  have HP6 : Hid (w4.drew.heap[N]? = some (.cells (splice R (i * 20) (encI.of x)).toArray 67 (0, 0))) := Lib.hid HC4.out.row
  go_region_law (refine step_copy_k 20 rfl (.tmp 50) (.tmp 53) 24 24 rfl 67 Try.underlying24 hsz N ((i + 1) * 20) (n - i) (G - (i + 1)) ⟨g, i * 20, none⟩ (n - i) (cap - i) (by simp [Act.eval, Act.put]) (by simp [Act.eval, Act.put]) (splice R (i * 20) (encI.of x)) 67 HP6.out ((h.drop i).flatMap encI.of) (n - i) HP3.out HD.out HP4.out HP5.out (encI.flat_one _) ?_; intro w5 hc5; have HC5 := Lib.hid hc5; clear hc5)
  go_wp2_with fail
  go_ret
  refine ⟨_, rfl, own_of encI (by rw [List.length_append, List.length_cons, List.length_take, List.length_drop, HN.out]; omega) HC5.out.row hbw hGn (by unfold maxLen; omega) (by rw [length_splice _ _ _ (by rw [HD.out, HL4.out]; omega), HL4.out]; rfl) ?_, (HB1.out.trans ((HC4.out.below hbw).drew)).trans (HC5.out.below hbw)⟩
  rw [flat_ins]
  have hq := splice_mid (a := i * 20) (b := 20) (d := (n - i) * 20) HRT.out (encI.len x) HD.out (by rw [HRL.out]; omega)
  rw [show i * 20 + 20 = (i + 1) * 20 by omega, show (i + 1) * 20 + (n - i) * 20 = (n + 1) * 20 by omega] at hq
  exact hq

/-- Insert of one item into a row of the call's own, at a place in it -/
theorem insert_any (h : List It) (x : It) (XA : Array Value) (hX : XA.toList = encI.of x) (n i : Nat) (hn : h.length = n) (hi : i ≤ n) (hn9 : n ≤ 1000) (a : Option Addr) (cap : Nat) (w : World) (base : Nat) (hb : base ≤ w.heap.size)
    (ho : OwnE encI 67 w base (.slice a n cap) h) (vb : Nat) (hv : w.heap[vb]? = some (.cells XA 67 (0, 0))) (hne : (Value.slice a n cap).ownBlock ≠ some vb) :
    Calls Try.prog 45 #[.slice a n cap, .int .i64 i, .slice (some ⟨vb, 0, none⟩) 1 1] w (GotI w base (h.take i ++ x :: h.drop i)) := by
  rcases Nat.lt_or_ge i n with hlt | hge
  · have ho' := ho
    unfold OwnE at ho'
    obtain ⟨_, ⟨h1, h2⟩ | ⟨g, c, cur, he, hbg, hg, hnc, hmx, hcs, htk⟩⟩ := ho'
    · omega
    · injection he with e1 e2 e3
      subst e1 e3
      rw [hn] at hnc htk
      have hg' : w.heap[g]? = some (.cells cur.toList.toArray 67 (0, 0)) := by rw [Array.toArray_toList]; exact hg
      have hvg : vb ≠ g := fun e => hne (by rw [e]; rfl)
      have hcs' : cur.toList.length = cap * 20 := by rw [Array.length_toList]; exact hcs
      rcases Nat.lt_or_ge cap (n + 1) with hc | hc
      · exact insert_grow h x XA hX n i hn hlt hn9 g cap w base hb cur.toList hg' hnc hc htk vb hv
      · exact insert_room h x XA hX n i hn hlt hn9 g cap w base hbg cur.toList hg' hc hmx hcs' htk vb hv hvg
  · obtain rfl : i = n := Nat.le_antisymm hi hge
    have := insert_end h x XA hX i hn hn9 a cap w base hb ho vb hv
    rw [List.take_of_length_le (by omega), List.drop_eq_nil_of_le (by omega)]
    exact this

end Rsq
end Go.Proofs.Ytnmmokdkngccjaa

namespace Go.Proofs.Ytnmmokdkngccjaa
open Go.RowKit
namespace Rsq
open Num
open Msg (I64)

/-- what take tells: the line, and what is told -/
def GotT (w : World) (a0 : Option Addr) (r : Li × List It) (e : Ending) (w' : World) : Prop :=
  ∃ a c b d, (∀ x, a = some x → ∃ y, a0 = some y ∧ x.block = y.block) ∧ Ty 67 w' b ∧ e = .returned (.tuple #[.agg #[.int .i64 r.1.next, .slice a r.1.held.length c], .slice b r.2.length d]) ∧ RowAt encI w' a c r.1.held ∧ RowAt encI w' b d r.2 ∧ Below w.heap.size w w'
theorem line_end2 {fn : Func} (hfn : fn.results = #[.cell 4 26, .tmp 5]) (g : Nat) (W : World) (cs old : Array Value) (tmps : Array Value) (hw : W.heap[g]? = some (.cells old 26 (0, 0))) (hcs : cs.size = 2)
    (ht : tmps.getD 4 undef = .pointer (some ⟨g, 0, none⟩)) : (results fn tmps).run Try.prog (W.setRow g cs) = .ok (.tuple #[.agg cs, tmps.getD 5 undef]) (W.setRow g cs) := by
  have hl := run_loadVar_mid (P := Try.prog) (W.setRow g cs) g 0 26 cs.toList _ (block_range (setRow_heap W g old cs _ _ hw)) Try.underlying26 rfl (by rw [Array.length_toList, hcs]; kernel_rfl)
  rw [Array.toArray_toList] at hl
  simp only [results, hfn]
  simp [Sem.run_bind, Result.andThen] at ht ⊢
  simp [ht, asAddr, hl]
/-- the end: the line, as it stands, and what is told -/
theorem Lp.told2 {w W : World} {B : Nat} {XA ZL : Array Value} {nx : Int} {ha hb : Option Addr} {q c p d : Nat} {hs os : List It} {r : Li × List It} (h : Lp w W B #[.int .i64 nx, .slice ha q c] XA ZL)
    (h1 : RowAt encI w ha c hs) (hq : hs.length = q) (h2 : OwnE encI 67 W B (.slice hb p d) os) (hr : r = (⟨nx, hs⟩, os)) {a0 : Option Addr} (ha0 : ∀ x, ha = some x → ∃ y, a0 = some y ∧ x.block = y.block) (cs : Array Value) :
    GotT w a0 r (.returned (.tuple #[.agg #[.int .i64 nx, .slice ha q c], .slice hb p d])) (W.setRow (w.heap.size + 1 + 1) cs) := by
  have hlt : w.heap.size + 1 + 1 < B := by have := h.t; omega
  have hb1 := below_setRow (B := w.heap.size) (g := w.heap.size + 1 + 1) h.b (by omega) cs
  have g2 := (h2.setRow cs hlt).at
  have g3 := (h2.setRow cs hlt).ty
  obtain ⟨rfl, g2⟩ := g2
  subst hr hq
  exact ⟨ha, c, hb, d, ha0, g3, rfl, h1.later hb1, g2, hb1⟩
/-- Held without its first item -/
theorem row_tail {w : World} {b off cap : Nat} {y : It} {r : List It} (h : RowAt encI w (some ⟨b, off, none⟩) cap (y :: r)) : RowAt encI w (some ⟨b, off + 20, none⟩) (cap - 1) r := by
  rcases h with ⟨h, _⟩ | ⟨z, hz, hl, hc⟩
  · cases h
  · obtain rfl := Option.some.inj hz
    rw [List.length_cons] at hl
    refine .inr ⟨_, rfl, by omega, fun j u hj => ?_⟩
    have h1 := hc (20 + j) u (by
      rw [List.flatMap_cons, List.getElem?_append_right (by rw [encI.len]; exact Nat.le_add_right _ _), encI.len]
      show (r.flatMap encI.of)[20 + j - 20]? = some u
      rw [Nat.add_sub_cancel_left]
      exact hj)
    rw [add_none] at h1 ⊢
    rw [Nat.add_assoc]
    exact h1

set_option maxRecDepth 100000 in
set_option maxHeartbeats 16000000 in
theorem take_any (l : Li) (x : It) (LA XA : Array Value) (a : Option Addr) (cap n : Nat) (hLA : #[.int .i64 l.next, .slice a n cap] = LA) (hXA : x.arr = XA) (hn : l.held.length = n) (hn9 : n ≤ 1000) (w : World) (hr : RowAt encI w a cap l.held) :
    Calls Try.prog 42 #[.agg LA, .agg XA] w (GotT w a (takeL l x)) := by
  have HR := Lib.hid hr
  have HN := Lib.hid hn
  have hiX : (Try.prog.info? 67).map (·.size) = some XA.size := by rw [← hXA]; kernel_rfl
  have HLA := Lib.hid hLA
  have HXF : Hid (20 = XA.size ∧ XA.toList = encI.of x) := Lib.hid (by rw [← hXA]; exact ⟨rfl, rfl⟩)
  have HXV : Hid (XA[0]? = some (.int .i64 x.fr) ∧ XA[1]? = some (.int .i64 x.to)) := Lib.hid (by rw [← hXA]; exact ⟨rfl, rfl⟩)
  have hxs : XA.size = 20 := HXF.out.1.symm
  clear hr hn hLA hXA
  have e1 : (w.alloc (.cells LA 26)).heap.size = w.heap.size + 1 := by simp
  have e2 : ((w.alloc (.cells LA 26)).alloc (.cells XA 67)).heap.size = w.heap.size + 2 := by simp
  obtain ⟨ZL, hZL⟩ : ∃ Z : Array Value, #[.int .i64 0, .slice none 0 0] = Z := ⟨_, rfl⟩
  have HB0 : Hid (Below w.heap.size w (((w.alloc (.cells LA 26)).alloc (.cells XA 67)).alloc (.cells ZL 26))) := Lib.hid ((((Below.refl _ _).alloc (Nat.le_refl _) _).alloc (by rw [e1]; omega) _).alloc (by rw [e2]; omega) _)
  have HX0 : Hid ((((w.alloc (.cells LA 26)).alloc (.cells XA 67)).alloc (.cells ZL 26)).heap[w.heap.size]? = some (.cells LA 26 (0, 0)) ∧
      (((w.alloc (.cells LA 26)).alloc (.cells XA 67)).alloc (.cells ZL 26)).heap[w.heap.size + 1]? = some (.cells XA 67 (0, 0)) ∧
      (((w.alloc (.cells LA 26)).alloc (.cells XA 67)).alloc (.cells ZL 26)).heap[w.heap.size + 2]? = some (.cells ZL 26 (0, 0))) := Lib.hid
    ⟨alloc_block (alloc_block (heap_alloc_new w _)), alloc_block (by have h := heap_alloc_new (w.alloc (.cells LA 26)) (.cells XA 67); rwa [e1] at h), by
      have h := heap_alloc_new ((w.alloc (.cells LA 26)).alloc (.cells XA 67)) (.cells ZL 26)
      rwa [e2] at h⟩
  have HS0 : Hid (w.heap.size + 3 ≤ (((w.alloc (.cells LA 26)).alloc (.cells XA 67)).alloc (.cells ZL 26)).heap.size) := Lib.hid (by simp)
  clear e1 e2
  go_enter Try.func42, Try.ntmps42
  go_upto_region 1 with fail
  try rw [hZL]
  generalize ((w.alloc (.cells LA 26)).alloc (.cells XA 67)).alloc (.cells ZL 26) = w0 at HB0 HX0 HS0 ⊢
  have HSZ3 : Hid (ZL.size = 2) := Lib.hid (by rw [← hZL]; rfl)
  clear hZL
  have S0 : Hid (Lp w w0 w0.heap.size #[.int .i64 l.next, .slice a n cap] XA ZL) := Lib.hid ⟨HB0.out, by rw [HLA.out]; exact HX0.out.1, HX0.out.2.1, HX0.out.2.2, Nat.le_refl _, HS0.out⟩
  clear HB0 HX0 HS0
  go_upto_region 2 with (refine wpList_load_arr_g (by rfl) 67 _ rfl (w.heap.size + 1) 0 rfl XA _ (block_range S0.out.x) Try.underlying67 rfl hiX ?_)
  rw [fill_all (k := 20) (Y := XA) rfl hxs]
  have HO3 : Hid (OwnE encI 67 (w0.alloc (.cells XA 67)) w0.heap.size (.slice (some ⟨w0.heap.size, 0, none⟩) 1 1) [x]) := Lib.hid (row_own encI w0 67 [x] XA (by rw [HXF.out.2]; simp) 1 rfl (by simp [maxLen]) w0.heap.size (Nat.le_refl _))
  have S3 : Hid (Lp w (w0.alloc (.cells XA 67)) w0.heap.size #[.int .i64 l.next, .slice a n cap] XA ZL) := Lib.hid (S0.out.later ((Below.refl _ w0).alloc (Nat.le_refl _) _))
  generalize (.slice (some ⟨w0.heap.size, 0, none⟩) 1 1 : Value) = ov at HO3 ⊢
  generalize hw3 : w0.alloc (.cells XA 67) = w3 at HO3 S3 ⊢
  clear hw3 S0
  have k3 : w3.cell? ⟨w.heap.size + 1, 1, none⟩ = some (.int .i64 x.to) := cell_at S3.out.x HXV.out.2
  obtain ⟨y3, f3, s3⟩ := S3.out.cell 0
  have z3 : w3.cell? ⟨w.heap.size, 0, none⟩ = some (.int .i64 l.next) := y3
  clear y3
  have S4 := Lib.hid (S3.out.set 0 (.int .i64 x.to) #[.int .i64 x.to, .slice a n cap] rfl)
  have HO4 := Lib.hid (HO3.out.set (g := w.heap.size) (i := 0) (u := .int .i64 x.to) (by have := S3.out.t; omega))
  go_wp2_with fail
  generalize w3.setCell ⟨w.heap.size, 0, none⟩ (.int .i64 x.to) = w4 at S4 HO4 ⊢
  clear k3 z3 f3 s3 S3 HO3
  obtain ⟨j0, hi0, hz0, hz1, hz2⟩ := info_parts infoI
  have HJ0 := Lib.hid hi0
  have HY0 := Lib.hid hz0
  have HY1 := Lib.hid hz1
  have HY2 := Lib.hid hz2
  clear hi0 hz0 hz1 hz2
  go_loopg [6] n (fun k o_ wr => ∃ (nx : Int) (os hs : List It) (ha : Option Addr) (hc q : Nat), hs.length = q ∧ q ≤ k ∧ os.length + q ≤ n ∧ Hid (Out x.to l.held os nx hs) ∧ Hid (OwnE encI 67 wr w0.heap.size o_ (x :: os)) ∧ Hid (RowAt encI w ha hc hs) ∧ Hid (∀ x, ha = some x → ∃ y, a = some y ∧ x.block = y.block) ∧ Hid (Lp w wr w0.heap.size #[.int .i64 nx, .slice ha q hc] XA ZL))
  case atStart => exact ⟨x.to, [], l.held, a, cap, n, HN.out, Nat.le_refl _, by simp, Out.start _ _, HO4.out, HR.out, fun x hx => ⟨x, hx, rfl⟩, S4.out⟩
  case round =>
    obtain ⟨nx, os, hs, ha, hc, q, hq, hqk, hoq, HOU, HO, HRK, HAA, S⟩ := hrel
    clear S4 HO4
    obtain ⟨zz0, f0, s0⟩ := S.out.cell 0
    have z0 : wr.cell? ⟨w.heap.size, 0, none⟩ = some (.int .i64 nx) := zz0
    obtain ⟨zz1, f1, -⟩ := S.out.cell 1
    have z1 : wr.cell? ⟨w.heap.size, 1, none⟩ = some (.slice ha q hc) := zz1
    clear zz0 zz1
    cases hs with
    | nil =>
      obtain rfl : 0 = q := hq
      have HT : Hid (takeL l x = (⟨nx, []⟩, x :: os)) := Lib.hid (by unfold takeL; rw [HOU.out.dry])
      go_upto_region 3 with fail
      go_quiet (fail)
      have HD : Hid (Below wr.heap.size wr (wr.drewN nq)) := Lib.hid ⟨rfl, rfl, rfl, Nat.le_refl _, fun _ _ => rfl⟩
      generalize wr.drewN nq = w5 at HD ⊢
      have S5 := Lib.hid (S.out.later (HD.out.mono S.out.s))
      have HO5 := Lib.hid (HO.out.kept HD.out)
      clear z0 z1 f0 f1 s0 S HO
      obtain ⟨oa, oc, rfl, _⟩ := HO5.out.row
      generalize (x :: os).length = q2 at HO5 ⊢
      have hiB : (Try.prog.info? 26).map (·.size) = some (#[.int .i64 nx, .slice ha 0 hc] : Array Value).size := by kernel_rfl
      have HLR := Lib.hid (block_range S5.out.l)
      go_wp2_with (first | (refine wpList_load_arr_g (by rfl) 26 _ rfl w.heap.size 0 rfl #[.int .i64 nx, .slice ha 0 hc] _ HLR.out Try.underlying26 rfl hiB ?_) | (refine wpList_store_row rfl 26 _ _ rfl (w.heap.size + 1 + 1) #[.int .i64 nx, .slice ha 0 hc] rfl rfl _ _ S5.out.z hiB HSZ3.out (li_one _ _ _ _) ?_))
      refine bodyPost_ret (line_end2 rfl (w.heap.size + 1 + 1) _ _ _ _ S5.out.z rfl rfl) rfl ?_
      exact S5.out.told2 HRK.out rfl HO5.out HT.out HAA.out _
    | cons y r =>
      rw [List.length_cons] at hq
      obtain ⟨b, off, rfl, _⟩ := HRK.out.at (by simp) (by decide)
      have hcq : q ≤ hc := by
        rcases HRK.out with ⟨h, _⟩ | ⟨_, _, h, _⟩
        · cases h
        · rw [List.length_cons, hq] at h; exact h
      have HEL : Hid (wr.rangeAt b off y.arr.toList) := Lib.hid (by
        have := item_at (HRK.out.later S.out.b) (k := 0) (x := y) rfl
        rwa [Nat.zero_mul, Nat.add_zero] at this)
      have k4 : wr.cell? ⟨b, off, none⟩ = some (.int .i64 y.fr) := by
        have := HEL.out 0 _ rfl
        rwa [Nat.add_zero] at this
      have q1 : (0 : Int) < q := by omega
      have q2 : 0 < q := by omega
      by_cases c1 : y.fr ≤ nx
      · go_upto_region 3 with fail
        go_quiet (fail)
        have HD : Hid (Below wr.heap.size wr (wr.drewN nq)) := Lib.hid ⟨rfl, rfl, rfl, Nat.le_refl _, fun _ _ => rfl⟩
        generalize wr.drewN nq = w5 at HD ⊢
        have S5 := Lib.hid (S.out.later (HD.out.mono S.out.s))
        have HO5 := Lib.hid (HO.out.kept HD.out)
        have HEL5 : Hid (w5.rangeAt b off y.arr.toList) := Lib.hid (by
          have := item_at (HRK.out.later S5.out.b) (k := 0) (x := y) rfl
          rwa [Nat.zero_mul, Nat.add_zero] at this)
        clear z0 z1 f0 f1 s0 S HO HEL k4 HD
        obtain ⟨YA, hYA⟩ : ∃ X, y.arr = X := ⟨_, rfl⟩
        have hiY : (Try.prog.info? 67).map (·.size) = some YA.size := by rw [← hYA]; kernel_rfl
        rw [hYA] at HEL5
        have HYF : Hid (20 = YA.size ∧ YA.toList = encI.of y ∧ YA.all (·.oneCell') = true ∧ YA[0]? = some (.int .i64 y.fr) ∧ YA[1]? = some (.int .i64 y.to)) := Lib.hid (by rw [← hYA]; exact ⟨rfl, rfl, by unfold It.arr; simp [Value.oneCell'], rfl, rfl⟩)
        have hys : YA.size = 20 := HYF.out.1.symm
        clear hYA
        obtain ⟨zz1, f1, s1⟩ := S5.out.cell 1
        have z1 : w5.cell? ⟨w.heap.size, 1, none⟩ = some (.slice (some ⟨b, off, none⟩) q hc) := zz1
        clear zz1
        go_upto_region 5 with (first | (refine wpList_load_arr_g (by rfl) 67 _ rfl b off rfl YA _ HEL5.out Try.underlying67 rfl hiY ?_) | (refine wpList_store_row rfl 67 _ _ rfl w5.heap.size YA rfl rfl _ _ (heap_alloc_last _ _) hiY HYF.out.1 HYF.out.2.2.1 ?_; rw [World.setRow_alloc_new]))
        obtain ⟨p, hp⟩ : ∃ p, w5.heap.size = p := ⟨_, rfl⟩
        have HYB : Hid ((w5.alloc (.cells YA 67)).heap[p]? = some (.cells YA 67 (0, 0))) := Lib.hid (hp ▸ heap_alloc_new _ _)
        have HPB : Hid (w0.heap.size ≤ p) := Lib.hid (hp ▸ S5.out.s)
        have S6 := Lib.hid (S5.out.later ((Below.refl _ w5).alloc S5.out.s (.cells YA 67)))
        have HO6 := Lib.hid (HO5.out.kept ((Below.refl _ _).alloc (Nat.le_refl _) (.cells YA 67)))
        have HOL := Lib.hid (fun g hg => Nat.lt_of_lt_of_eq (HO5.out.lt g hg).2 hp)
        rw [hp]
        generalize w5.alloc (.cells YA 67) = w6 at HYB S6 HO6 ⊢
        clear hp z1 f1 s1 S5 HO5 HEL5
        obtain ⟨zz1, f1, s1⟩ := S6.out.cell 1
        have z1 : w6.cell? ⟨w.heap.size, 1, none⟩ = some (.slice (some ⟨b, off, none⟩) q hc) := zz1
        clear zz1
        by_cases hc1 : hc = 1
        · subst hc1
          obtain rfl : q = 1 := by omega
          obtain rfl : r = [] := List.length_eq_zero_iff.1 (by omega)
          have HRT : Hid (RowAt encI w (some ⟨b, off, none⟩) 0 []) := Lib.hid (.inr ⟨_, rfl, Nat.le_refl _, fun j u hj => by simp at hj⟩)
          have S7 := Lib.hid (S6.out.set 1 (.slice (some ⟨b, off, none⟩) 0 0) #[.int .i64 nx, .slice (some ⟨b, off, none⟩) 0 0] rfl)
          have HO7 := Lib.hid (HO6.out.set (g := w.heap.size) (i := 1) (u := .slice (some ⟨b, off, none⟩) 0 0) (by have := S6.out.t; omega))
          have HYB7 : Hid ((w6.setCell ⟨w.heap.size, 1, none⟩ (.slice (some ⟨b, off, none⟩) 0 0)).heap[p]? = some (.cells YA 67 (0, 0))) := Lib.hid ((heap_setCell_other w6 _ _ _ (fun e => by have h1 : w.heap.size = p := e.symm; have h2 := S6.out.t; have h3 := HPB.out; omega)).trans HYB.out)
          go_upto_region 6 with fail
          generalize w6.setCell ⟨w.heap.size, 1, none⟩ (.slice (some ⟨b, off, none⟩) 0 0) = w7 at S7 HO7 HYB7 ⊢
          clear z1 f1 s1 S6 HO6 HYB
          have hPs : p < w7.heap.size := (Array.getElem?_eq_some_iff.1 HYB7.out).1
          have HPS := Lib.hid hPs
          clear hPs
          have HYR := Lib.hid (block_range HYB7.out)
          have y1 : w7.cell? ⟨p, 1, none⟩ = some (.int .i64 y.to) := cell_at HYB7.out HYF.out.2.2.2.2
          obtain ⟨zz0, f0, s0⟩ := S7.out.cell 0
          have z0 : w7.cell? ⟨w.heap.size, 0, none⟩ = some (.int .i64 nx) := zz0
          clear zz0
          by_cases c4 : nx < y.to
          · have HOU2 := Lib.hid (HOU.out.told c1 c4)
            go_upto_region 8 with (first | (at_builtin; refine wpList_append_row2 encI (by decide) rfl (.tmp 40) (.tmp 42) _ rfl w0.heap.size 67 j0 _ 208 Try.underlying24 HJ0.out HY0.out HY1.out HY2.out (by rfl) _ (x :: os) rfl (HO7.out.kept ((Below.refl _ _).alloc (Nat.le_refl _) _)) _ _ _ [y] rfl (by rfl) (one_row encI _ 67 _ _ (by rw [fill_all (k := 20)]; exact HYF.out.2.1; rfl; exact HYF.out.1.symm)) (by simp only [List.length_cons, List.length_nil, maxLen]; omega) (by simp only [List.length_cons, List.length_nil]; omega) (Nat.le_trans S7.out.s (by simp)) ?_; intro v2 w8 hown2 hgr hat; have HB8 := Lib.hid (below_grown (HO7.out.kept ((Below.refl _ _).alloc (Nat.le_refl _) _)) (Nat.le_trans S7.out.s (by simp)) hgr); have S8 := Lib.hid ((S7.out.later ((Below.refl _ _).alloc S7.out.s _)).later HB8.out); have HO8 := Lib.hid hown2; have HY8 : Hid (w8.heap[p]? = some (.cells YA 67 (0, 0))) := Lib.hid ((hgr.block p (by have := HPS.out; simp; omega) (fun e => Nat.lt_irrefl _ (HOL.out p e.symm))).trans (alloc_block HYB7.out)); clear hown2 hgr hat) | (refine wpList_load_arr_g (by rfl) 67 _ rfl p 0 rfl YA _ HYR.out Try.underlying67 rfl hiY ?_))
            have y8 : w8.cell? ⟨p, 1, none⟩ = some (.int .i64 y.to) := cell_at HY8.out HYF.out.2.2.2.2
            clear y1 z0 f0 s0
            obtain ⟨zz0, f0, s0⟩ := S8.out.cell 0
            have z0 : w8.cell? ⟨w.heap.size, 0, none⟩ = some (.int .i64 nx) := zz0
            clear zz0
            have S9 := Lib.hid (S8.out.set 0 (.int .i64 y.to) #[.int .i64 y.to, .slice (some ⟨b, off, none⟩) 0 0] rfl)
            have HO9 := Lib.hid (HO8.out.set (g := w.heap.size) (i := 0) (u := .int .i64 y.to) (by have := S8.out.t; omega))
            go_wp2_with fail
            go_roundg (0)
            case measure => omega
            case rel => exact ⟨y.to, os ++ [y], [], (some ⟨b, off, none⟩), 0, 0, rfl, Nat.le_refl _, by rw [List.length_append, List.length_cons, List.length_nil]; omega, HOU2, HO9, HRT, HAA, S9⟩
          · have HOU2 := Lib.hid (HOU.out.old c1 c4)
            go_wp2_with fail
            go_roundg (0)
            case measure => omega
            case rel => exact ⟨nx, os, [], (some ⟨b, off, none⟩), 0, 0, rfl, Nat.le_refl _, by omega, HOU2, HO7, HRT, HAA, S7⟩
        · have HRT := Lib.hid (row_tail HRK.out)
          have hr1 : r.length = q - 1 := by omega
          have hcc : ¬ 1 = hc := fun e => hc1 e.symm
          have S7 := Lib.hid (S6.out.set 1 (.slice (some ⟨b, off + 20, none⟩) (q - 1) (hc - 1)) #[.int .i64 nx, .slice (some ⟨b, off + 20, none⟩) (q - 1) (hc - 1)] rfl)
          have HO7 := Lib.hid (HO6.out.set (g := w.heap.size) (i := 1) (u := .slice (some ⟨b, off + 20, none⟩) (q - 1) (hc - 1)) (by have := S6.out.t; omega))
          have HYB7 : Hid ((w6.setCell ⟨w.heap.size, 1, none⟩ (.slice (some ⟨b, off + 20, none⟩) (q - 1) (hc - 1))).heap[p]? = some (.cells YA 67 (0, 0))) := Lib.hid ((heap_setCell_other w6 _ _ _ (fun e => by have h1 : w.heap.size = p := e.symm; have h2 := S6.out.t; have h3 := HPB.out; omega)).trans HYB.out)
          go_upto_region 6 with fail
          generalize w6.setCell ⟨w.heap.size, 1, none⟩ (.slice (some ⟨b, off + 20, none⟩) (q - 1) (hc - 1)) = w7 at S7 HO7 HYB7 ⊢
          clear z1 f1 s1 S6 HO6 HYB
          have hPs : p < w7.heap.size := (Array.getElem?_eq_some_iff.1 HYB7.out).1
          have HPS := Lib.hid hPs
          clear hPs
          have HYR := Lib.hid (block_range HYB7.out)
          have y1 : w7.cell? ⟨p, 1, none⟩ = some (.int .i64 y.to) := cell_at HYB7.out HYF.out.2.2.2.2
          obtain ⟨zz0, f0, s0⟩ := S7.out.cell 0
          have z0 : w7.cell? ⟨w.heap.size, 0, none⟩ = some (.int .i64 nx) := zz0
          clear zz0
          by_cases c4 : nx < y.to
          · have HOU2 := Lib.hid (HOU.out.told c1 c4)
            go_upto_region 8 with (first | (at_builtin; refine wpList_append_row2 encI (by decide) rfl (.tmp 40) (.tmp 42) _ rfl w0.heap.size 67 j0 _ 208 Try.underlying24 HJ0.out HY0.out HY1.out HY2.out (by rfl) _ (x :: os) rfl (HO7.out.kept ((Below.refl _ _).alloc (Nat.le_refl _) _)) _ _ _ [y] rfl (by rfl) (one_row encI _ 67 _ _ (by rw [fill_all (k := 20)]; exact HYF.out.2.1; rfl; exact HYF.out.1.symm)) (by simp only [List.length_cons, List.length_nil, maxLen]; omega) (by simp only [List.length_cons, List.length_nil]; omega) (Nat.le_trans S7.out.s (by simp)) ?_; intro v2 w8 hown2 hgr hat; have HB8 := Lib.hid (below_grown (HO7.out.kept ((Below.refl _ _).alloc (Nat.le_refl _) _)) (Nat.le_trans S7.out.s (by simp)) hgr); have S8 := Lib.hid ((S7.out.later ((Below.refl _ _).alloc S7.out.s _)).later HB8.out); have HO8 := Lib.hid hown2; have HY8 : Hid (w8.heap[p]? = some (.cells YA 67 (0, 0))) := Lib.hid ((hgr.block p (by have := HPS.out; simp; omega) (fun e => Nat.lt_irrefl _ (HOL.out p e.symm))).trans (alloc_block HYB7.out)); clear hown2 hgr hat) | (refine wpList_load_arr_g (by rfl) 67 _ rfl p 0 rfl YA _ HYR.out Try.underlying67 rfl hiY ?_))
            have y8 : w8.cell? ⟨p, 1, none⟩ = some (.int .i64 y.to) := cell_at HY8.out HYF.out.2.2.2.2
            clear y1 z0 f0 s0
            obtain ⟨zz0, f0, s0⟩ := S8.out.cell 0
            have z0 : w8.cell? ⟨w.heap.size, 0, none⟩ = some (.int .i64 nx) := zz0
            clear zz0
            have S9 := Lib.hid (S8.out.set 0 (.int .i64 y.to) #[.int .i64 y.to, .slice (some ⟨b, off + 20, none⟩) (q - 1) (hc - 1)] rfl)
            have HO9 := Lib.hid (HO8.out.set (g := w.heap.size) (i := 0) (u := .int .i64 y.to) (by have := S8.out.t; omega))
            go_wp2_with fail
            go_roundg ((q - 1))
            case measure => omega
            case rel => exact ⟨y.to, os ++ [y], r, (some ⟨b, off + 20, none⟩), (hc - 1), (q - 1), hr1, Nat.le_refl _, by rw [List.length_append, List.length_cons, List.length_nil]; omega, HOU2, HO9, HRT, (fun x hx => by obtain rfl := Option.some.inj hx; exact HAA.out ⟨b, off, none⟩ rfl), S9⟩
          · have HOU2 := Lib.hid (HOU.out.old c1 c4)
            go_wp2_with fail
            go_roundg ((q - 1))
            case measure => omega
            case rel => exact ⟨nx, os, r, (some ⟨b, off + 20, none⟩), (hc - 1), (q - 1), hr1, Nat.le_refl _, by omega, HOU2, HO7, HRT, (fun x hx => by obtain rfl := Option.some.inj hx; exact HAA.out ⟨b, off, none⟩ rfl), S7⟩
      · have HT : Hid (takeL l x = (⟨nx, y :: r⟩, x :: os)) := Lib.hid (by unfold takeL; rw [HOU.out.stop c1])
        go_upto_region 3 with fail
        go_quiet (fail)
        have HD : Hid (Below wr.heap.size wr (wr.drewN nq)) := Lib.hid ⟨rfl, rfl, rfl, Nat.le_refl _, fun _ _ => rfl⟩
        generalize wr.drewN nq = w5 at HD ⊢
        have S5 := Lib.hid (S.out.later (HD.out.mono S.out.s))
        have HO5 := Lib.hid (HO.out.kept HD.out)
        clear z0 z1 f0 f1 s0 S HO HEL k4
        obtain ⟨oa, oc, rfl, _⟩ := HO5.out.row
        generalize (x :: os).length = q2 at HO5 ⊢
        have hiB : (Try.prog.info? 26).map (·.size) = some (#[.int .i64 nx, .slice (some ⟨b, off, none⟩) q hc] : Array Value).size := by kernel_rfl
        have HLR := Lib.hid (block_range S5.out.l)
        go_wp2_with (first | (refine wpList_load_arr_g (by rfl) 26 _ rfl w.heap.size 0 rfl #[.int .i64 nx, .slice (some ⟨b, off, none⟩) q hc] _ HLR.out Try.underlying26 rfl hiB ?_) | (refine wpList_store_row rfl 26 _ _ rfl (w.heap.size + 1 + 1) #[.int .i64 nx, .slice (some ⟨b, off, none⟩) q hc] rfl rfl _ _ S5.out.z hiB HSZ3.out (li_one _ _ _ _) ?_))
        refine bodyPost_ret (line_end2 rfl (w.heap.size + 1 + 1) _ _ _ _ S5.out.z rfl rfl) rfl ?_
        exact S5.out.told2 HRK.out hq HO5.out HT.out HAA.out _

end Rsq
end Go.Proofs.Ytnmmokdkngccjaa

namespace Go.Proofs.Ytnmmokdkngccjaa
open Go.RowKit
namespace Rsq
open Num
open Msg (I64)

theorem take_is (l : Li) (x : It) (LA XA : Array Value) (a : Option Addr) (cap n : Nat) (hLA : #[.int .i64 l.next, .slice a n cap] = LA) (hXA : x.arr = XA) (hn : l.held.length = n) (hn9 : n ≤ 1000) (r : Li × List It) (hr : takeL l x = r) (w : World) (hrow : RowAt encI w a cap l.held) :
    Calls Try.prog 42 #[.agg LA, .agg XA] w (GotT w a r) := by
  subst hr
  exact take_any l x LA XA a cap n hLA hXA hn hn9 w hrow
theorem right_c (c : Array Value) (l : Li) (a : Option Addr) (cap n : Nat) (hc : #[.int .i64 l.next, .slice a n cap] = c) (hn : l.held.length = n) (hn9 : n ≤ 100000000) (w : World) (hr : RowAt encI w a cap l.held) (hl : Laid w) (o : Bool) (ho : rightL l = o) :
    Calls Try.prog 22 #[.agg c] w fun e w' => e = .returned (.bool o) ∧ Below w.heap.size w w' := by
  subst hc ho
  exact right_any l a cap n hn hn9 w hr hl
theorem grown_setRow (w : World) (g : Nat) (cs : Array Value) : w.grownBy (w.setRow g cs) (some g) := ⟨rfl, rfl, rfl, by simp [World.setRow], fun j _ hj => setRow_other w g j cs (fun e => hj (by rw [e]))⟩
/-- rows of items stand over a store into a line's block -/
theorem row_line {w : World} {g cap : Nat} {a : Option Addr} {h : List It} {cs : Array Value} {t : TypeId} {fz : Nat × Nat} (hr : RowAt encI w a cap h) (hg : w.heap[g]? = some (.cells cs t fz)) (hs : cs.size = 2) (new : Array Value) : RowAt encI (w.setRow g new) a cap h :=
  hr.grown (grown_setRow w g new) (hr.apart (by decide) hg (by rw [hs]; decide))

/-- what Come tells, and that it lies in blocks of items -/
def GotCt (w : World) (r : Li × List It × Int) (e : Ending) (w' : World) : Prop :=
  ∃ a c b d, Ty 67 w' a ∧ Ty 67 w' b ∧ e = .returned (.tuple #[.agg #[.int .i64 r.1.next, .slice a r.1.held.length c], .slice b r.2.1.length d, .int .i64 r.2.2]) ∧ RowAt encI w' a c r.1.held ∧ RowAt encI w' b d r.2.1 ∧ Below w.heap.size w w'
theorem Lp.toldT {w W : World} {B : Nat} {XA ZL : Array Value} {nx : Int} {ha hb : Option Addr} {q c p d : Nat} {hs os : List It} {k : Int} {r : Li × List It × Int} (h : Lp w W B #[.int .i64 nx, .slice ha q c] XA ZL)
    (h1 : OwnE encI 67 W B (.slice ha q c) hs) (h2 : OwnE encI 67 W B (.slice hb p d) os) (hr : r = (⟨nx, hs⟩, os, k)) (cs : Array Value) :
    GotCt w r (.returned (.tuple #[.agg #[.int .i64 nx, .slice ha q c], .slice hb p d, .int .i64 k])) (W.setRow (w.heap.size + 1 + 1) cs) := by
  have hlt : w.heap.size + 1 + 1 < B := by have := h.t; omega
  have g1 := (h1.setRow cs hlt).at
  have g2 := (h2.setRow cs hlt).at
  have t1 := (h1.setRow cs hlt).ty
  have t2 := (h2.setRow cs hlt).ty
  obtain ⟨rfl, g1⟩ := g1
  obtain ⟨rfl, g2⟩ := g2
  subst hr
  exact ⟨ha, c, hb, d, t1, t2, rfl, g1, g2, below_setRow h.b (by omega) _⟩

set_option maxRecDepth 100000 in
set_option maxHeartbeats 16000000 in
theorem come_typed (l : Li) (x : It) (a : Option Addr) (cap n : Nat) (hn : l.held.length = n) (hn9 : n ≤ 100000000) (w : World) (hr : RowAt encI w a cap l.held) (hl : Laid w) :
    Calls Try.prog 36 #[.agg #[.int .i64 l.next, .slice a n cap], .agg x.arr] w (GotCt w (come l x)) := by
  obtain ⟨nx, h⟩ := l
  dsimp only at hn hr ⊢
  have HR := Lib.hid hr
  have HN := Lib.hid hn
  have HL := Lib.hid hl
  obtain ⟨LA, hLA⟩ : ∃ X : Array Value, #[.int .i64 nx, .slice a n cap] = X := ⟨_, rfl⟩
  obtain ⟨XA, hXA⟩ : ∃ X, x.arr = X := ⟨_, rfl⟩
  have hiX : (Try.prog.info? 67).map (·.size) = some XA.size := by rw [← hXA]; kernel_rfl
  have HLA := Lib.hid hLA
  have HXA := Lib.hid hXA
  have HXF : Hid (20 = XA.size ∧ XA.toList = encI.of x) := Lib.hid (by rw [← hXA]; exact ⟨rfl, rfl⟩)
  have HXV : Hid (XA[0]? = some (.int .i64 x.fr) ∧ XA[1]? = some (.int .i64 x.to)) := Lib.hid (by rw [← hXA]; exact ⟨rfl, rfl⟩)
  have hxs : XA.size = 20 := HXF.out.1.symm
  rw [hLA, hXA]
  clear hr hn hl hLA hXA
  have e1 : (w.alloc (.cells LA 26)).heap.size = w.heap.size + 1 := by simp
  have e2 : ((w.alloc (.cells LA 26)).alloc (.cells XA 67)).heap.size = w.heap.size + 2 := by simp
  obtain ⟨ZL, hZL⟩ : ∃ Z : Array Value, #[.int .i64 0, .slice none 0 0] = Z := ⟨_, rfl⟩
  have HB0 : Hid (Below w.heap.size w (((w.alloc (.cells LA 26)).alloc (.cells XA 67)).alloc (.cells ZL 26))) := Lib.hid ((((Below.refl _ _).alloc (Nat.le_refl _) _).alloc (by rw [e1]; omega) _).alloc (by rw [e2]; omega) _)
  have HX0 : Hid ((((w.alloc (.cells LA 26)).alloc (.cells XA 67)).alloc (.cells ZL 26)).heap[w.heap.size]? = some (.cells LA 26 (0, 0)) ∧
      (((w.alloc (.cells LA 26)).alloc (.cells XA 67)).alloc (.cells ZL 26)).heap[w.heap.size + 1]? = some (.cells XA 67 (0, 0)) ∧
      (((w.alloc (.cells LA 26)).alloc (.cells XA 67)).alloc (.cells ZL 26)).heap[w.heap.size + 2]? = some (.cells ZL 26 (0, 0))) := Lib.hid
    ⟨alloc_block (alloc_block (heap_alloc_new w _)), alloc_block (by have h := heap_alloc_new (w.alloc (.cells LA 26)) (.cells XA 67); rwa [e1] at h), by
      have h := heap_alloc_new ((w.alloc (.cells LA 26)).alloc (.cells XA 67)) (.cells ZL 26)
      rwa [e2] at h⟩
  have HS0 : Hid (w.heap.size + 3 ≤ (((w.alloc (.cells LA 26)).alloc (.cells XA 67)).alloc (.cells ZL 26)).heap.size) := Lib.hid (by simp)
  clear e1 e2
  go_enter Try.func36, Try.ntmps36
  go_upto_region 1 with fail
  try rw [hZL]
  generalize ((w.alloc (.cells LA 26)).alloc (.cells XA 67)).alloc (.cells ZL 26) = w0 at HB0 HX0 HS0 ⊢
  have HSZ3 : Hid (ZL.size = 2) := Lib.hid (by rw [← hZL]; rfl)
  clear hZL
  have S0 : Hid (Lp w w0 w0.heap.size #[.int .i64 nx, .slice a n cap] XA ZL) := Lib.hid ⟨HB0.out, by rw [HLA.out]; exact HX0.out.1, HX0.out.2.1, HX0.out.2.2, Nat.le_refl _, HS0.out⟩
  have z1 : w0.cell? ⟨w.heap.size, 1, none⟩ = some (.slice a n cap) := (S0.out.cell 1).1
  clear HB0 HX0 HS0 HLA
  go_wp2_with fail
  refine (clone_any h a cap n HN.out hn9 _ (HR.out.later S0.out.b)).mono ?_
  rintro e w1 ⟨v, rfl, hown, hb1⟩
  obtain ⟨a2, c2, hv, -⟩ := hown.row
  rw [HN.out] at hv
  subst hv
  have HO1 := Lib.hid hown
  have S1 := Lib.hid (S0.out.later hb1)
  clear hown hb1 z1 S0 HR
  obtain ⟨zz1, f1, s1⟩ := S1.out.cell 1
  have z1 : w1.cell? ⟨w.heap.size, 1, none⟩ = some (.slice a n cap) := zz1
  clear zz1
  have S2 := Lib.hid (S1.out.set 1 (.slice a2 n c2) #[.int .i64 nx, .slice a2 n c2] rfl)
  have HO2 := Lib.hid (HO1.out.set (g := w.heap.size) (i := 1) (u := .slice a2 n c2) (by have := S1.out.t; omega))
  go_upto_region 2 with fail
  generalize w1.setCell ⟨w.heap.size, 1, none⟩ (.slice a2 n c2) = w2 at S2 HO2 ⊢
  clear z1 f1 s1 S1 HO1
  have hiB : (Try.prog.info? 26).map (·.size) = some (#[.int .i64 nx, .slice a2 n c2] : Array Value).size := by kernel_rfl
  obtain ⟨br, hbr⟩ : ∃ b, rightL ⟨nx, h⟩ = b := ⟨_, rfl⟩
  obtain ⟨bm, hbm⟩ : ∃ b, mayI x = b := ⟨_, rfl⟩
  go_wp2_with (refine wpList_load_arr_g (by rfl) 26 _ rfl w.heap.size 0 rfl #[.int .i64 nx, .slice a2 n c2] _ (block_range S2.out.l) Try.underlying26 rfl hiB ?_)
  refine (right_c _ ⟨nx, h⟩ a2 c2 n rfl HN.out hn9 _ HO2.out.at.2 (HL.out.below S2.out.b) _ hbr).mono ?_
  rintro e w3 ⟨rfl, hb3⟩
  have S3 := Lib.hid (S2.out.later (hb3.mono S2.out.s))
  have HO3 := Lib.hid (HO2.out.kept hb3)
  clear hb3 S2 HO2
  cases br
  · have HC : Hid (come ⟨nx, h⟩ x = (⟨nx, h⟩, [], 0)) := Lib.hid (by unfold come; rw [if_pos (.inl hbr)])
    clear hbr hbm
    go_wp2_with (first | (refine wpList_load_arr_g (by rfl) 26 _ rfl w.heap.size 0 rfl #[.int .i64 nx, .slice a2 n c2] _ (block_range S3.out.l) Try.underlying26 rfl hiB ?_) | (refine wpList_store_row rfl 26 _ _ rfl (w.heap.size + 1 + 1) #[.int .i64 nx, .slice a2 n c2] rfl rfl _ _ S3.out.z hiB HSZ3.out (li_one _ _ _ _) ?_))
    refine bodyPost_ret (line_end rfl (w.heap.size + 1 + 1) _ _ _ _ S3.out.z rfl rfl) rfl ?_
    exact S3.out.toldT HO3.out (OwnE.nil _ _ _ _) HC.out _
  go_wp2_with (refine wpList_load_arr_g (by rfl) 67 _ rfl (w.heap.size + 1) 0 rfl XA _ (block_range S3.out.x) Try.underlying67 rfl hiX ?_)
  refine (pmay_is XA x HXA.out.symm _ hbm _ (HL.out.below S3.out.b)).mono ?_
  rintro e w4 ⟨rfl, hb4⟩
  have S4 := Lib.hid (S3.out.later (hb4.mono S3.out.s))
  have HO4 := Lib.hid (HO3.out.kept hb4)
  clear hb4 S3 HO3
  cases bm
  · have HC : Hid (come ⟨nx, h⟩ x = (⟨nx, h⟩, [], 0)) := Lib.hid (by unfold come; rw [if_pos (.inr hbm)])
    clear hbr hbm
    go_wp2_with (first | (refine wpList_load_arr_g (by rfl) 26 _ rfl w.heap.size 0 rfl #[.int .i64 nx, .slice a2 n c2] _ (block_range S4.out.l) Try.underlying26 rfl hiB ?_) | (refine wpList_store_row rfl 26 _ _ rfl (w.heap.size + 1 + 1) #[.int .i64 nx, .slice a2 n c2] rfl rfl _ _ S4.out.z hiB HSZ3.out (li_one _ _ _ _) ?_))
    refine bodyPost_ret (line_end rfl (w.heap.size + 1 + 1) _ _ _ _ S4.out.z rfl rfl) rfl ?_
    exact S4.out.toldT HO4.out (OwnE.nil _ _ _ _) HC.out _
  have HCM : Hid (come ⟨nx, h⟩ x = if x.to ≤ nx then (⟨nx, h⟩, [], 3)
      else if nx < x.fr then (if has x h = true then (⟨nx, h⟩, [], 3) else if 64 ≤ h.length then (⟨nx, h⟩, [], 4) else (⟨nx, ins x h⟩, [], 2))
      else (⟨(drain x.to h).2.1, (drain x.to h).2.2⟩, x :: (drain x.to h).1, 1)) := Lib.hid (by unfold come; rw [if_neg (by rw [hbr, hbm]; simp)])
  have ⟨_, _, r3, r4⟩ := (right_iff _).1 hbr
  have HRI := Lib.hid r4
  have hn6 : n ≤ 64 := by rw [← HN.out]; exact r3
  clear hbr hbm r3 r4
  have k0 : w4.cell? ⟨w.heap.size, 0, none⟩ = some (.int .i64 nx) := (S4.out.cell 0).1
  have k2 : w4.cell? ⟨w.heap.size + 1, 0, none⟩ = some (.int .i64 x.fr) := cell_at S4.out.x HXV.out.1
  have k3 : w4.cell? ⟨w.heap.size + 1, 1, none⟩ = some (.int .i64 x.to) := cell_at S4.out.x HXV.out.2
  by_cases q1 : x.to ≤ nx
  · have HC : Hid (come ⟨nx, h⟩ x = (⟨nx, h⟩, [], 3)) := Lib.hid (by rw [HCM.out, if_pos q1])
    go_wp2_with (first | (refine wpList_load_arr_g (by rfl) 26 _ rfl w.heap.size 0 rfl #[.int .i64 nx, .slice a2 n c2] _ (block_range S4.out.l) Try.underlying26 rfl hiB ?_) | (refine wpList_store_row rfl 26 _ _ rfl (w.heap.size + 1 + 1) #[.int .i64 nx, .slice a2 n c2] rfl rfl _ _ S4.out.z hiB HSZ3.out (li_one _ _ _ _) ?_))
    refine bodyPost_ret (line_end rfl (w.heap.size + 1 + 1) _ _ _ _ S4.out.z rfl rfl) rfl ?_
    exact S4.out.toldT HO4.out (OwnE.nil _ _ _ _) HC.out _
  by_cases q2 : x.fr ≤ nx
  · obtain ⟨r, hrr⟩ : ∃ r, takeL ⟨nx, h⟩ x = r := ⟨_, rfl⟩
    have HC : Hid (come ⟨nx, h⟩ x = (r.1, r.2, 1)) := Lib.hid (by rw [HCM.out, if_neg q1, if_neg (by omega), ← hrr]; rfl)
    have HTR := Lib.hid hrr
    clear hrr
    go_wp2_with (first | (refine wpList_load_arr_g (by rfl) 26 _ rfl w.heap.size 0 rfl #[.int .i64 nx, .slice a2 n c2] _ (block_range S4.out.l) Try.underlying26 rfl hiB ?_) | (refine wpList_load_arr_g (by rfl) 67 _ rfl (w.heap.size + 1) 0 rfl XA _ (block_range S4.out.x) Try.underlying67 rfl hiX ?_))
    refine (take_is ⟨nx, h⟩ x _ XA a2 c2 n rfl HXA.out HN.out (by omega) r HTR.out _ HO4.out.at.2).mono ?_
    obtain ⟨⟨nx2, hs2⟩, os2⟩ := r
    rintro e w5 ⟨ta, tc, tb, td, hta, htb, rfl, hr1, hr2, hb5⟩
    dsimp only at hr1 hr2 ⊢
    have HR1 := Lib.hid hr1
    have HR2 := Lib.hid hr2
    have HTA := Lib.hid ((HO4.out.ty.later hb5).same hta)
    have HTB := Lib.hid htb
    have S5 := Lib.hid (S4.out.later (hb5.mono S4.out.s))
    clear hr1 hr2 hb5 hta htb S4 HO4 k0 k2 k3
    obtain ⟨m1, hm1⟩ : ∃ m, hs2.length = m := ⟨_, rfl⟩
    obtain ⟨m2, hm2⟩ : ∃ m, os2.length = m := ⟨_, rfl⟩
    have HM1 := Lib.hid hm1
    have HM2 := Lib.hid hm2
    rw [hm1, hm2]
    clear hm1 hm2
    obtain ⟨TL, hTL⟩ : ∃ T : Array Value, #[.int .i64 nx2, .slice ta m1 tc] = T := ⟨_, rfl⟩
    have hiT : (Try.prog.info? 26).map (·.size) = some TL.size := by rw [← hTL]; kernel_rfl
    have HT2 : Hid (2 = TL.size ∧ TL.all (·.oneCell') = true ∧ TL.size = 2) := Lib.hid (by rw [← hTL]; exact ⟨rfl, li_one _ _ _ _, rfl⟩)
    have HTL := Lib.hid hTL
    rw [hTL]
    clear hTL
    go_upto_region 8 with (refine wpList_store_row rfl 26 _ _ rfl w5.heap.size TL rfl rfl _ _ (heap_alloc_last _ _) hiT HT2.out.1 HT2.out.2.1 ?_; rw [World.setRow_alloc_new])
    obtain ⟨p, hp⟩ : ∃ p, w5.heap.size = p := ⟨_, rfl⟩
    have HPB : Hid ((w5.alloc (.cells TL 26)).heap[p]? = some (.cells TL 26 (0, 0))) := Lib.hid (hp ▸ heap_alloc_new _ _)
    have hbl : Below w5.heap.size w5 (w5.alloc (.cells TL 26)) := (Below.refl _ _).alloc (Nat.le_refl _) _
    have S6 := Lib.hid (S5.out.later (hbl.mono S5.out.s))
    have HR3 := Lib.hid (HR1.out.later hbl)
    have HR4 := Lib.hid (HR2.out.later hbl)
    have HTA2 := Lib.hid (HTA.out.later hbl)
    have HTB2 := Lib.hid (HTB.out.later hbl)
    clear hbl S5 HR1 HR2 HTA HTB
    rw [hp]
    generalize w5.alloc (.cells TL 26) = w6 at HPB S6 HR3 HR4 HTA2 HTB2 ⊢
    clear hp
    have HPR := Lib.hid (block_range HPB.out)
    have HZT : Hid (ZL.size = TL.size) := Lib.hid (by rw [HSZ3.out, HT2.out.2.2])
    go_wp2_with (first | (refine wpList_load_arr_g (by rfl) 26 _ rfl p 0 rfl TL _ HPR.out Try.underlying26 rfl hiT ?_) | (refine wpList_store_row rfl 26 _ _ rfl (w.heap.size + 1 + 1) TL rfl rfl _ _ S6.out.z hiT HZT.out HT2.out.2.1 ?_))
    refine bodyPost_ret (line_end rfl (w.heap.size + 1 + 1) _ TL _ _ S6.out.z HT2.out.2.2 rfl) rfl ?_
    rw [← HTL.out, HC.out]
    refine ⟨ta, tc, tb, td, HTA2.out.setRow _ _, HTB2.out.setRow _ _, ?_, row_line HR3.out S6.out.z HSZ3.out _, row_line HR4.out S6.out.z HSZ3.out _, below_setRow S6.out.b (by omega) _⟩
    dsimp only
    rw [HM1.out, HM2.out]
    rfl
  have k1 : w4.cell? ⟨w.heap.size, 1, none⟩ = some (.slice a2 n c2) := (S4.out.cell 1).1
  go_wp2_with (refine wpList_load_arr_g (by rfl) 67 _ rfl (w.heap.size + 1) 0 rfl XA _ (block_range S4.out.x) Try.underlying67 rfl hiX ?_)
  refine (bsf_any h nx HRI.out x XA HXA.out.symm a2 c2 n HN.out hn9 _ HO4.out.at.2).mono ?_
  rintro e w5 ⟨i, f, rfl, hi, hcu, hf1, hf2, hb5⟩
  have S5 := Lib.hid (S4.out.later (hb5.mono S4.out.s))
  have HO5 := Lib.hid (HO4.out.kept hb5)
  have HCU := Lib.hid hcu
  have HF := Lib.hid (And.intro hf1 hf2)
  clear hb5 S4 HO4 k0 k1 k2 k3 hcu hf1 hf2
  cases f
  · have HNO : Hid (has x h = false) := Lib.hid (cut_hasnt HRI.out HCU.out (HF.out.2 rfl))
    have HIN : Hid (ins x h = h.take i ++ x :: h.drop i) := Lib.hid (cut_ins (by rw [HN.out]; exact hi) HCU.out (HF.out.2 rfl))
    have k1 : w5.cell? ⟨w.heap.size, 1, none⟩ = some (.slice a2 n c2) := (S5.out.cell 1).1
    obtain ⟨b4, q4⟩ : ∃ b, ((n : Int) == 64) = b := ⟨_, rfl⟩
    have HQ : Hid ((b4 = true → n = 64) ∧ (b4 = false → n ≠ 64)) := Lib.hid (by
      subst q4
      exact ⟨fun e => by have : (n : Int) = 64 := by simpa using e
                         omega, fun e => by have : ¬ (n : Int) = 64 := by simpa using e
                                            omega⟩)
    cases b4
    rotate_left
    · have HC : Hid (come ⟨nx, h⟩ x = (⟨nx, h⟩, [], 4)) := Lib.hid (by rw [HCM.out, if_neg (by omega), if_pos (by omega), if_neg (by rw [HNO.out]; simp), if_pos (by rw [HN.out, HQ.out.1 rfl]; exact Nat.le_refl _)])
      go_wp2_with (first | (refine wpList_load_arr_g (by rfl) 26 _ rfl w.heap.size 0 rfl #[.int .i64 nx, .slice a2 n c2] _ (block_range S5.out.l) Try.underlying26 rfl hiB ?_) | (refine wpList_store_row rfl 26 _ _ rfl (w.heap.size + 1 + 1) #[.int .i64 nx, .slice a2 n c2] rfl rfl _ _ S5.out.z hiB HSZ3.out (li_one _ _ _ _) ?_))
      refine bodyPost_ret (line_end rfl (w.heap.size + 1 + 1) _ _ _ _ S5.out.z rfl rfl) rfl ?_
      exact S5.out.toldT HO5.out (OwnE.nil _ _ _ _) HC.out _
    · have HC : Hid (come ⟨nx, h⟩ x = (⟨nx, ins x h⟩, [], 2)) := Lib.hid (by rw [HCM.out, if_neg (by omega), if_pos (by omega), if_neg (by rw [HNO.out]; simp), if_neg (by have := HQ.out.2 rfl; rw [HN.out]; omega)])
      go_wp2_with (refine wpList_load_arr_g (by rfl) 67 _ rfl (w.heap.size + 1) 0 rfl XA _ (block_range S5.out.x) Try.underlying67 rfl hiX ?_)
      rw [fill_all (k := 20) (Y := XA) rfl hxs]
      have hbl : Below w5.heap.size w5 (w5.alloc (.cells XA 67)) := (Below.refl _ _).alloc (Nat.le_refl _) _
      refine (insert_any h x XA HXF.out.2 n i HN.out hi (by omega) a2 c2 _ w0.heap.size (Nat.le_trans S5.out.s (by simp)) (HO5.out.kept hbl) w5.heap.size (heap_alloc_new _ _) (fun e => Nat.lt_irrefl _ (HO5.out.lt _ e).2)).mono ?_
      rintro e w6 ⟨v, rfl, hown, hb6⟩
      rw [← HIN.out] at hown
      have S6 := Lib.hid ((S5.out.later (hbl.mono S5.out.s)).later hb6)
      obtain ⟨a3, c3, rfl, -⟩ := hown.row
      obtain ⟨m, hm⟩ : ∃ m, (ins x h).length = m := ⟨_, rfl⟩
      rw [hm] at hown ⊢
      have HO6 := Lib.hid hown
      clear hown hb6 hbl hm k1 S5 HO5
      obtain ⟨zz1, f1, s1⟩ := S6.out.cell 1
      have z1 : w6.cell? ⟨w.heap.size, 1, none⟩ = some (.slice a2 n c2) := zz1
      clear zz1
      have S7 := Lib.hid (S6.out.set 1 (.slice a3 m c3) #[.int .i64 nx, .slice a3 m c3] rfl)
      have HO7 := Lib.hid (HO6.out.set (g := w.heap.size) (i := 1) (u := .slice a3 m c3) (by have := S6.out.t; omega))
      go_upto_region 15 with fail
      generalize w6.setCell ⟨w.heap.size, 1, none⟩ (.slice a3 m c3) = w7 at S7 HO7 ⊢
      clear z1 f1 s1 S6 HO6
      have hiC : (Try.prog.info? 26).map (·.size) = some (#[.int .i64 nx, .slice a3 m c3] : Array Value).size := by kernel_rfl
      go_wp2_with (first | (refine wpList_load_arr_g (by rfl) 26 _ rfl w.heap.size 0 rfl #[.int .i64 nx, .slice a3 m c3] _ (block_range S7.out.l) Try.underlying26 rfl hiC ?_) | (refine wpList_store_row rfl 26 _ _ rfl (w.heap.size + 1 + 1) #[.int .i64 nx, .slice a3 m c3] rfl rfl _ _ S7.out.z hiC HSZ3.out (li_one _ _ _ _) ?_))
      refine bodyPost_ret (line_end rfl (w.heap.size + 1 + 1) _ _ _ _ S7.out.z rfl rfl) rfl ?_
      exact S7.out.toldT HO7.out (OwnE.nil _ _ _ _) HC.out _
  · have HC : Hid (come ⟨nx, h⟩ x = (⟨nx, h⟩, [], 3)) := Lib.hid (by
      obtain ⟨y, hy, he⟩ := HF.out.1 rfl
      rw [HCM.out, if_neg (by omega), if_pos (by omega), if_pos (cut_has hy he)])
    go_wp2_with (first | (refine wpList_load_arr_g (by rfl) 26 _ rfl w.heap.size 0 rfl #[.int .i64 nx, .slice a2 n c2] _ (block_range S5.out.l) Try.underlying26 rfl hiB ?_) | (refine wpList_store_row rfl 26 _ _ rfl (w.heap.size + 1 + 1) #[.int .i64 nx, .slice a2 n c2] rfl rfl _ _ S5.out.z hiB HSZ3.out (li_one _ _ _ _) ?_))
    refine bodyPost_ret (line_end rfl (w.heap.size + 1 + 1) _ _ _ _ S5.out.z rfl rfl) rfl ?_
    exact S5.out.toldT HO5.out (OwnE.nil _ _ _ _) HC.out _

theorem come_any (l : Li) (x : It) (a : Option Addr) (cap n : Nat) (hn : l.held.length = n) (hn9 : n ≤ 100000000) (w : World) (hr : RowAt encI w a cap l.held) (hl : Laid w) :
    Calls Try.prog 36 #[.agg #[.int .i64 l.next, .slice a n cap], .agg x.arr] w (GotC w (come l x)) :=
  (come_typed l x a cap n hn hn9 w hr hl).mono fun _ _ ⟨a, c, b, d, _, _, h1, h2, h3, h4⟩ => ⟨a, c, b, d, h1, h2, h3, h4⟩

set_option maxRecDepth 100000 in
set_option maxHeartbeats 4000000 in
theorem gap_any (l : Li) (a : Option Addr) (cap n : Nat) (hn : l.held.length = n) (hn9 : n ≤ 100000000) (w : World) (hr : RowAt encI w a cap l.held) (hl : Laid w) :
    Calls Try.prog 38 #[.agg #[.int .i64 l.next, .slice a n cap]] w (GotG w (gapL l)) := by
  obtain ⟨nx, h⟩ := l
  dsimp only at hn hr ⊢
  have HR := Lib.hid hr
  have HN := Lib.hid hn
  have HL := Lib.hid hl
  have hiB : (Try.prog.info? 26).map (·.size) = some (#[.int .i64 nx, .slice a n cap] : Array Value).size := by kernel_rfl
  obtain ⟨LA, hLA⟩ : ∃ X : Array Value, #[.int .i64 nx, .slice a n cap] = X := ⟨_, rfl⟩
  rw [hLA] at hiB ⊢
  have HLA := Lib.hid hLA
  have l0 : LA[0]? = some (.int .i64 nx) := by rw [← hLA]; rfl
  have l1 : LA[1]? = some (.slice a n cap) := by rw [← hLA]; rfl
  clear hr hn hl hLA
  have HX0 : Hid ((w.alloc (.cells LA 26)).heap[w.heap.size]? = some (.cells LA 26 (0, 0))) := Lib.hid (heap_alloc_new w _)
  have HB0 : Hid (Below w.heap.size w (w.alloc (.cells LA 26))) := Lib.hid ((Below.refl _ _).alloc (Nat.le_refl _) _)
  go_enter Try.func38, Try.ntmps38
  go_upto_region 1 with fail
  generalize w.alloc (.cells LA 26) = w0 at HX0 HB0 ⊢
  obtain ⟨br, hbr⟩ : ∃ b, rightL ⟨nx, h⟩ = b := ⟨_, rfl⟩
  have HXR := Lib.hid (block_range HX0.out)
  go_wp2_with (refine wpList_load_arr_g (by rfl) 26 _ rfl w.heap.size 0 rfl LA _ HXR.out Try.underlying26 rfl hiB ?_)
  refine (right_c LA ⟨nx, h⟩ a cap n HLA.out HN.out hn9 _ (HR.out.later HB0.out) (HL.out.below HB0.out) _ hbr).mono ?_
  rintro e w1 ⟨rfl, hb1⟩
  have HB1 := Lib.hid (HB0.out.trans (hb1.mono HB0.out.size))
  have k0 := cell_at (below_block HX0.out hb1) l0
  have k1 := cell_at (below_block HX0.out hb1) l1
  clear hb1 l0 l1
  cases br
  · have HG : Hid (gapL ⟨nx, h⟩ = (0, 0, false)) := Lib.hid (gap_none hbr)
    clear hbr
    go_wp2_with fail
    go_ret3
    exact ⟨congrArg (fun r : Int × Int × Bool => Ending.returned (.tuple #[.int .i64 r.1, .int .i64 r.2.1, .bool r.2.2])) HG.out.symm, HB1.out⟩
  · cases h with
    | nil =>
      have HG : Hid (gapL ⟨nx, []⟩ = (0, 0, false)) := Lib.hid (gap_nil rfl)
      obtain rfl : 0 = n := HN.out
      clear hbr
      go_wp2_with fail
      go_ret3
      exact ⟨congrArg (fun r : Int × Int × Bool => Ending.returned (.tuple #[.int .i64 r.1, .int .i64 r.2.1, .bool r.2.2])) HG.out.symm, HB1.out⟩
    | cons y r =>
      have HG : Hid (gapL ⟨nx, y :: r⟩ = (nx, y.fr - 1, true)) := Lib.hid (gap_some hbr rfl)
      have ⟨_, _, _, r4⟩ := (right_iff _).1 hbr
      have ⟨m1, m2, m3⟩ := (may_iff y).1 (rise_cons.1 r4).1
      unfold top at m3
      have q1 : ((n : Int) == 0) = false := by
        have := HN.out
        rw [List.length_cons] at this
        rw [beq_eq_false_iff_ne]
        omega
      have q2 : 0 < n := by
        have := HN.out
        rw [List.length_cons] at this
        omega
      have hcap : n ≤ cap := by
        rcases HR.out with ⟨_, h, _⟩ | ⟨_, _, h, _⟩
        · cases h
        · rwa [HN.out] at h
      obtain ⟨b, off, rfl, _⟩ := HR.out.at (by simp) (by decide)
      have k4 : w1.cell? ⟨b, off, none⟩ = some (.int .i64 y.fr) := by
        have := item_at (HR.out.later HB1.out) (k := 0) (x := y) rfl 0 _ rfl
        rwa [Nat.zero_mul, Nat.add_zero] at this
      clear hbr r4
      go_upto_region 3 with fail
      go_quiet (fail)
      have HB2 : Hid (Below w.heap.size w (w1.drewN nq)) := Lib.hid (HB1.out.trans ⟨rfl, rfl, rfl, Nat.le_refl _, fun _ _ => rfl⟩)
      generalize w1.drewN nq = w2 at HB2 ⊢
      go_wp2_with fail
      go_ret3
      exact ⟨congrArg (fun r : Int × Int × Bool => Ending.returned (.tuple #[.int .i64 r.1, .int .i64 r.2.1, .bool r.2.2])) HG.out.symm, HB2.out⟩

end Rsq
end Go.Proofs.Ytnmmokdkngccjaa
