/-
  The program's layer 6: May, Right, byFrom; cmp.Compare at int64 and slices.Clone at items.
-/
import Derived.Test.YtnldllmlfckecaaPlRsqP
import Derived.Test.YtnldllmlfckecaaOwn2
import Derived.Deep.QuietTactic
import Derived.Test.YtnldllmlfckecaaLaid
namespace Go.Proofs.Ytnldllmlfckecaa
open Go.RowKit
namespace Rsq
open Num
open Msg (I64)

theorem may_any (x : It) (w : World) (_hl : Laid w) : Calls Try.prog 12 #[.agg x.arr] w fun e w' => e = .returned (.bool (mayI x)) ∧ Below w.heap.size w w' := by
  have HM : Hid (mayI x = (decide (1 ≤ x.fr) && decide (x.fr < x.to) && decide (x.to ≤ 2199023255552))) := Lib.hid (by
    unfold mayI
    rw [show decide (0 < x.fr) = decide (1 ≤ x.fr) from decide_eq_decide.2 (by omega)]
    rfl)
  have HX0 : Hid ((w.alloc (.cells x.arr 30)).heap[w.heap.size]? = some (.cells x.arr 30 (0, 0))) := Lib.hid (heap_alloc_new w _)
  have HB0 : Hid (Below w.heap.size w (w.alloc (.cells x.arr 30))) := Lib.hid ((Below.refl _ _).alloc (Nat.le_refl _) _)
  have a0 : x.arr[0]? = some (.int .i64 x.fr) := rfl
  have a1 : x.arr[1]? = some (.int .i64 x.to) := rfl
  obtain ⟨C, hC⟩ : ∃ C, x.arr = C := ⟨_, rfl⟩
  rw [hC] at HX0 HB0 a0 a1 ⊢
  clear hC
  go_enter Try.func12, Try.ntmps12
  go_upto_region 1 with fail
  generalize w.alloc (.cells C 30) = w0 at HX0 HB0 ⊢
  have c0 := cell_at HX0.out a0
  have c1 := cell_at HX0.out a1
  clear a0 a1
  generalize hp1 : decide (1 ≤ x.fr) = p1 at HM
  generalize hp2 : decide (x.fr < x.to) = p2 at HM
  generalize hp3 : decide (x.to ≤ 2199023255552) = p3 at HM
  cases p1 <;> cases p2 <;> cases p3
  all_goals
    go_wp2_with fail
    go_ret
    exact ⟨ret_b (by rw [HM.out]; rfl), HB0.out⟩
theorem pmay_is (c : Array Value) (x : It) (hc : c = x.arr) (o : Bool) (ho : mayI x = o) (w : World) (hl : Laid w) : Calls Try.prog 12 #[.agg c] w fun e w' => e = .returned (.bool o) ∧ Below w.heap.size w w' := by
  subst hc ho
  exact may_any x w hl

set_option maxRecDepth 100000 in
set_option maxHeartbeats 8000000 in
theorem right_any (l : Li) (a : Option Addr) (cap n : Nat) (hn : l.held.length = n) (hn9 : n ≤ 100000000) (w : World) (hr : RowAt encI w a cap l.held) (hl : Laid w) :
    Calls Try.prog 14 #[.agg #[.int .i64 l.next, .slice a n cap]] w fun e w' => e = .returned (.bool (rightL l)) ∧ Below w.heap.size w w' := by
  obtain ⟨nx, h⟩ := l
  dsimp only at hn hr ⊢
  have HM : Hid (rightL ⟨nx, h⟩ = (decide (0 < nx) && decide (nx ≤ 2199023255552) && decide (n ≤ 64) && riseB nx h)) := Lib.hid (by rw [← hn]; rfl)
  have HN := Lib.hid hn
  have HL := Lib.hid hl
  have HX0 : Hid ((w.alloc (.cells #[.int .i64 nx, .slice a n cap] 24)).heap[w.heap.size]? = some (.cells #[.int .i64 nx, .slice a n cap] 24 (0, 0))) := Lib.hid (heap_alloc_new w _)
  have HB0 : Hid (Below w.heap.size w (w.alloc (.cells #[.int .i64 nx, .slice a n cap] 24))) := Lib.hid ((Below.refl _ _).alloc (Nat.le_refl _) _)
  have HR0 : Hid (RowAt encI (w.alloc (.cells #[.int .i64 nx, .slice a n cap] 24)) a cap h) := Lib.hid (hr.later ((Below.refl _ _).alloc (Nat.le_refl _) _))
  clear hn hr hl
  go_enter Try.func14, Try.ntmps14
  go_upto_region 1 with fail
  generalize w.alloc (.cells #[.int .i64 nx, .slice a n cap] 24) = w0 at HX0 HB0 HR0 ⊢
  have b0 : w0.cell? ⟨w.heap.size, 0, none⟩ = some (.int .i64 nx) := cell_at HX0.out rfl
  have b1 : w0.cell? ⟨w.heap.size, 1, none⟩ = some (.slice a n cap) := cell_at HX0.out rfl
  by_cases h1 : nx < 1
  · go_wp2_with fail
    go_ret
    exact ⟨ret_b (by rw [HM.out, decide_eq_false (by omega : ¬ 0 < nx)]; rfl), HB0.out⟩
  by_cases h2 : 2199023255552 < nx
  · go_wp2_with fail
    go_ret
    exact ⟨ret_b (by rw [HM.out, decide_eq_false (by omega : ¬ nx ≤ 2199023255552)]; simp), HB0.out⟩
  by_cases h3 : (64 : Int) < n
  · go_wp2_with fail
    go_ret
    exact ⟨ret_b (by rw [HM.out, decide_eq_false (by omega : ¬ n ≤ 64)]; simp), HB0.out⟩
  have HM2 : Hid (rightL ⟨nx, h⟩ = riseB nx h) := Lib.hid (by rw [HM.out, decide_eq_true (by omega : 0 < nx), decide_eq_true (by omega : nx ≤ 2199023255552), decide_eq_true (by omega : n ≤ 64)]; rfl)
  have hn6 : n ≤ 64 := by omega
  clear HM
  go_wp2_with fail
  go_loopw [3, 25] (fun last_ i_ wr => ∃ (k : Nat) (last : Int), last_ = .int .i64 last ∧ i_ = .int .i64 k ∧ k ≤ n ∧ Hid (last = ((h.take k).getLast?.map (·.fr)).getD nx) ∧ Hid (riseB nx (h.take k) = true) ∧ Below w0.heap.size w0 wr) (fun _ i_ _ => n - (intOf i_).toNat)
  case atStart => exact ⟨0, nx, rfl, rfl, Nat.zero_le _, rfl, rfl, Below.refl _ _⟩
  case round =>
    obtain ⟨k, last, rfl, rfl, hkn, HLA, HRI, hbel⟩ := hrel
    have HB := Lib.hid hbel
    clear hbel b0 b1
    by_cases hlt : k < n
    · obtain ⟨x, hx⟩ : ∃ x, h[k]? = some x := ⟨h[k]'(by rw [HN.out]; exact hlt), List.getElem?_eq_getElem _⟩
      have HSN := Lib.hid (rise_last HLA.out HRI.out hx)
      have HL2 : Hid (x.fr = ((h.take (k + 1)).getLast?.map (·.fr)).getD nx) := Lib.hid (by
        rw [show h.take (k + 1) = h.take k ++ [x] from by rw [List.take_add_one, hx]; rfl, List.getLast?_append]
        rfl)
      obtain ⟨b, off, rfl, _⟩ := HR0.out.at (by rw [HN.out]; omega) (by decide)
      have hcap : n ≤ cap := by
        rcases HR0.out with ⟨h, _⟩ | ⟨_, _, h, _⟩
        · cases h
        · rwa [HN.out] at h
      have HBAD : Hid (¬ (mayI x = true ∧ last < x.fr) → riseB nx h = false) := Lib.hid fun g => by
        cases e : riseB nx h
        · rfl
        · exact absurd (HSN.out.1 (rise_take (k + 1) e)) g
      have HEL := Lib.hid (item_at (HR0.out.later HB.out) hx)
      obtain ⟨YA, hYA⟩ : ∃ X, x.arr = X := ⟨_, rfl⟩
      have hiY : (Try.prog.info? 30).map (·.size) = some YA.size := by rw [← hYA]; kernel_rfl
      rw [hYA] at HEL
      have HYF : Hid (20 = YA.size ∧ YA = x.arr ∧ YA.all (·.oneCell') = true ∧ YA[0]? = some (.int .i64 x.fr)) := Lib.hid (by rw [← hYA]; exact ⟨rfl, rfl, by unfold It.arr; simp [Value.oneCell'], rfl⟩)
      have hys : YA.size = 20 := HYF.out.1.symm
      clear hYA hx
      go_upto_region 7 with (first | (refine wpList_load_arr_g (by rfl) 30 _ rfl b (off + k * 20) rfl YA _ HEL.out Try.underlying30 rfl hiY ?_) | (refine wpList_store_row rfl 30 _ _ rfl wr.heap.size YA rfl rfl _ _ (heap_alloc_last _ _) hiY HYF.out.1 HYF.out.2.2.1 ?_; rw [World.setRow_alloc_new]))
      obtain ⟨p, hp⟩ : ∃ p, wr.heap.size = p := ⟨_, rfl⟩
      have HYB : Hid ((wr.alloc (.cells YA 30)).heap[p]? = some (.cells YA 30 (0, 0))) := Lib.hid (hp ▸ heap_alloc_new _ _)
      have HB5 := Lib.hid (HB.out.alloc HB.out.size (.cells YA 30))
      rw [hp]
      generalize wr.alloc (.cells YA 30) = w5 at HYB HB5 ⊢
      clear hp HEL HB
      have HYR := Lib.hid (block_range HYB.out)
      obtain ⟨bm, hbm⟩ : ∃ b, mayI x = b := ⟨_, rfl⟩
      go_wp2_with (refine wpList_load_arr_g (by rfl) 30 _ rfl p 0 rfl YA _ HYR.out Try.underlying30 rfl hiY ?_)
      refine (pmay_is YA x HYF.out.2.1 _ hbm _ ((HL.out.below HB0.out).below HB5.out)).mono ?_
      rintro e w6 ⟨rfl, hb6⟩
      have HB6 := Lib.hid (HB5.out.trans (hb6.mono HB5.out.size))
      have y0 : w6.cell? ⟨p, 0, none⟩ = some (.int .i64 x.fr) := cell_at (below_block HYB.out hb6) HYF.out.2.2.2
      clear hb6
      cases bm
      · clear y0
        have HNO : Hid (riseB nx h = false) := Lib.hid (HBAD.out (by rw [hbm]; simp))
        clear hbm
        go_wp2_with fail
        go_ret
        exact ⟨ret_b (by rw [HM2.out, HNO.out]), HB0.out.trans (HB6.out.mono HB0.out.size)⟩
      · by_cases hc : x.fr ≤ last
        · have HNO : Hid (riseB nx h = false) := Lib.hid (HBAD.out (by omega))
          clear hbm
          go_wp2_with fail
          go_ret
          exact ⟨ret_b (by rw [HM2.out, HNO.out]), HB0.out.trans (HB6.out.mono HB0.out.size)⟩
        · have HYES : Hid (riseB nx (h.take (k + 1)) = true) := Lib.hid (HSN.out.2 ⟨hbm, by omega⟩)
          clear hbm
          go_wp2_with fail
          go_roundw
          case rel => exact ⟨k + 1, x.fr, rfl, congrArg (Value.int .i64) (by omega), by omega, HL2, HYES, HB6.out⟩
          case measure => simp [intOf]; omega
    · obtain rfl : k = n := by omega
      have HYES : Hid (riseB nx h = true) := Lib.hid (by
        have := HRI.out
        rwa [List.take_of_length_le (by rw [HN.out]; exact Nat.le_refl _)] at this)
      go_wp2_with fail
      go_ret
      exact ⟨ret_b (by rw [HM2.out, HYES.out]), HB0.out.trans (HB.out.mono HB0.out.size)⟩

/-- what byFrom tells -/
def cmpI (a b : Int) : Int := if a < b then -1 else if b < a then 1 else 0
theorem nan_any (c : Int) (w : World) : Calls Try.prog 25 #[.int .i64 c] w fun e w' => e = .returned (.bool false) ∧ w' = w := by
  go_enter Try.func25, Try.ntmps25
  go_wp2_with fail
  go_ret
  exact ⟨by simp, rfl⟩
theorem cmp_any (a b : Int) (w : World) : Calls Try.prog 22 #[.int .i64 a, .int .i64 b] w fun e w' => e = .returned (.int .i64 (cmpI a b)) ∧ w' = w := by
  by_cases h1 : a < b
  · have HC : Hid (cmpI a b = -1) := Lib.hid (if_pos h1)
    go_enter Try.func22, Try.ntmps22
    go_wp2_with fail
    refine (nan_any a _).mono ?_
    rintro e w1 ⟨rfl, rfl⟩
    go_wp2_with fail
    refine (nan_any b _).mono ?_
    rintro e w1 ⟨rfl, rfl⟩
    go_wp2_with fail
    go_ret
    exact ⟨congrArg (fun r : Int => Ending.returned (.int .i64 r)) HC.out.symm, rfl⟩
  · by_cases h2 : b < a
    · have HC : Hid (cmpI a b = 1) := Lib.hid (by unfold cmpI; rw [if_neg h1, if_pos h2])
      go_enter Try.func22, Try.ntmps22
      go_wp2_with fail
      refine (nan_any a _).mono ?_
      rintro e w1 ⟨rfl, rfl⟩
      go_wp2_with fail
      refine (nan_any b _).mono ?_
      rintro e w1 ⟨rfl, rfl⟩
      go_wp2_with fail
      go_ret
      exact ⟨congrArg (fun r : Int => Ending.returned (.int .i64 r)) HC.out.symm, rfl⟩
    · have HC : Hid (cmpI a b = 0) := Lib.hid (by unfold cmpI; rw [if_neg h1, if_neg h2])
      go_enter Try.func22, Try.ntmps22
      go_wp2_with fail
      refine (nan_any a _).mono ?_
      rintro e w1 ⟨rfl, rfl⟩
      go_wp2_with fail
      refine (nan_any b _).mono ?_
      rintro e w1 ⟨rfl, rfl⟩
      go_wp2_with fail
      go_ret
      exact ⟨congrArg (fun r : Int => Ending.returned (.int .i64 r)) HC.out.symm, rfl⟩

theorem by_any (x y : It) (XA YA : Array Value) (hX : XA = x.arr) (hY : YA = y.arr) (r : Int) (hr : cmpI x.fr y.fr = r) (w : World) :
    Calls Try.prog 20 #[.agg XA, .agg YA] w fun e w' => e = .returned (.int .i64 r) ∧ Below w.heap.size w w' := by
  have x0 : XA[0]? = some (.int .i64 x.fr) := by rw [hX]; rfl
  have y0 : YA[0]? = some (.int .i64 y.fr) := by rw [hY]; rfl
  have HR := Lib.hid hr
  clear hX hY hr
  have e1 : (w.alloc (.cells XA 30)).heap.size = w.heap.size + 1 := by simp
  have HB0 : Hid (Below w.heap.size w ((w.alloc (.cells XA 30)).alloc (.cells YA 30))) := Lib.hid (((Below.refl _ _).alloc (Nat.le_refl _) _).alloc (by rw [e1]; omega) _)
  have HX0 : Hid (((w.alloc (.cells XA 30)).alloc (.cells YA 30)).heap[w.heap.size]? = some (.cells XA 30 (0, 0)) ∧
      ((w.alloc (.cells XA 30)).alloc (.cells YA 30)).heap[w.heap.size + 1]? = some (.cells YA 30 (0, 0))) := Lib.hid
    ⟨alloc_block (heap_alloc_new w _), by have h := heap_alloc_new (w.alloc (.cells XA 30)) (.cells YA 30); rwa [e1] at h⟩
  clear e1
  go_enter Try.func20, Try.ntmps20
  go_upto_region 1 with fail
  generalize (w.alloc (.cells XA 30)).alloc (.cells YA 30) = w0 at HB0 HX0 ⊢
  have c0 := cell_at HX0.out.1 x0
  have c1 := cell_at HX0.out.2 y0
  clear x0 y0
  go_wp2_with fail
  refine (cmp_any x.fr y.fr _).mono ?_
  rintro e w1 ⟨rfl, rfl⟩
  go_wp2_with fail
  go_ret
  exact ⟨congrArg (fun r : Int => Ending.returned (.int .i64 r)) HR.out, HB0.out⟩

/-- a copy of a row of items: new memory, or none -/
theorem clone_any (h : List It) (a : Option Addr) (cap n : Nat) (hn : h.length = n) (hn9 : n ≤ 100000000) (w : World) (hr : RowAt encI w a cap h) :
    Calls Try.prog 17 #[.slice a n cap] w fun e w' => ∃ v, e = .returned v ∧ OwnE encI 30 w' w.heap.size v h ∧ Below w.heap.size w w' := by
  obtain ⟨j0, hi0, hz0, hz1, hz2⟩ := info_parts infoI
  have HJ0 := Lib.hid hi0
  have HY0 := Lib.hid hz0
  have HY1 := Lib.hid hz1
  have HY2 := Lib.hid hz2
  clear hi0 hz0 hz1 hz2
  have HR := Lib.hid hr
  have HN := Lib.hid hn
  have qT : ∀ (w : World) (a : Option Addr) (n c n' c' : Nat), (binOp .eql 22 (.slice a n c) (.slice none n' c')).run Try.prog w = .ok (.bool a.isNone) w := fun w a n c n' c' => Lib.run_eql_slice_nil w _ _ a n c n' c' Try.underlying22
  rcases hr with ⟨rfl, rfl, rfl⟩ | ⟨x, rfl, _⟩
  · clear hn
    go_enter Try.func17, Try.ntmps17
    go_wp2_with fail
    go_ret
    exact ⟨_, rfl, OwnE.nil _ _ _ _, Below.refl _ _⟩
  · clear hn
    go_enter Try.func17, Try.ntmps17
    go_wp2_with (at_builtin; refine wpList_append_row encI (by decide) rfl (.tmp 5) (.tmp 6) _ rfl w.heap.size 30 j0 _ 208 Try.underlying22 HJ0.out HY0.out HY1.out HY2.out (by rfl) _ [] rfl (ownE_empty encI w 30 w.heap.size (Nat.le_refl _)) _ _ _ h rfl HN.out (HR.out.later ((Below.refl _ _).alloc (Nat.le_refl _) _)) (by rw [HN.out]; simp only [List.length_nil, maxLen]; omega) (by rw [HN.out]; simp only [List.length_nil]; omega) (by simp) ?_; intro v2 w2 hown2 hb2; have HO2 := Lib.hid hown2; have HB2 := Lib.hid (((Below.refl _ _).alloc (Nat.le_refl _) _).trans hb2); clear hown2 hb2)
    go_ret
    exact ⟨_, rfl, HO2.out, HB2.out⟩

end Rsq
end Go.Proofs.Ytnldllmlfckecaa
