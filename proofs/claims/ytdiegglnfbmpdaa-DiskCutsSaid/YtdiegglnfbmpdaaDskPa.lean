/-
  The program's layer 9: how long a file is, what room it has, which disk is right, which file may be.
-/
import Derived.Test.YtdiegglnfbmpdaaDskA
import Derived.Deep.CutBlock
import Derived.Deep.DeepCutAuto
import Derived.Deep.Cut
namespace Go.Proofs.Ytdiegglnfbmpdaa
open Go.RowKit
namespace Dsk

theorem below_two (w : World) (o1 o2 : Obj) : Below w.heap.size w ((w.alloc o1).alloc o2) := ((Below.refl _ _).alloc (Nat.le_refl _) _).alloc (by simp) _

theorem length_any (s t : Option Addr) (n m cn cm : Nat) (hn : n ≤ 100000) (hm : m ≤ 100000) (w : World) :
    Calls Try.prog 17 #[.agg #[.slice s n cn, .slice t m cm]] w fun e w' => e = .returned (.int .i64 ((n : Int) + m)) ∧ Below w.heap.size w w' := by
  go_enter Try.func17, Try.ntmps17
  go_wp2_with fail
  go_ret
  exact ⟨rfl, (Below.refl _ _).alloc (Nat.le_refl _) _⟩

theorem room_any (s t : Option Addr) (n m cn cm : Nat) (hn : n ≤ 100000) (hm : m ≤ 100000) (w : World) :
    Calls Try.prog 15 #[.agg #[.slice s n cn, .slice t m cm]] w fun e w' => e = .returned (.int .i64 (65536 - ((n : Int) + m))) ∧ Below w.heap.size w w' := by
  go_enter Try.func15, Try.ntmps15
  go_wp2_with fail
  refine (length_any s t n m cn cm hn hm _).mono ?_
  rintro e w1 ⟨rfl, hb⟩
  have HB := Lib.hid (((Below.refl _ _).alloc (Nat.le_refl _) _).trans (hb.mono (by simp)))
  clear hb
  go_wp2_with fail
  go_ret
  exact ⟨rfl, HB.out⟩

set_option maxRecDepth 100000 in
set_option maxHeartbeats 4000000 in
theorem right_raw (s0 t0 s1 t1 : Option Addr) (a b c d ca cb cc cd : Nat) (ha : a ≤ 100000) (hb : b ≤ 100000) (hc : c ≤ 100000) (hd : d ≤ 100000) (w : World) (o : Bool) (ho : (decide (a + b ≤ 65536) && decide (c + d ≤ 65536)) = o) :
    Calls Try.prog 10 #[.agg #[.slice s0 a ca, .slice t0 b cb, .slice s1 c cc, .slice t1 d cd]] w fun e w' => e = .returned (.bool o) ∧ Below w.heap.size w w' := by
  have HO := Lib.hid ho
  clear ho
  have ix0 : ∀ W, (Instr.index 27 (.agg #[.slice s0 a ca, .slice t0 b cb, .slice s1 c cc, .slice t1 d cd]) (.int .i64 0)).run Try.prog W = .ok (.agg #[.slice s0 a ca, .slice t0 b cb]) W := fun W => by kernel_rfl
  have ix1 : ∀ W, (Instr.index 27 (.agg #[.slice s0 a ca, .slice t0 b cb, .slice s1 c cc, .slice t1 d cd]) (.int .i64 1)).run Try.prog W = .ok (.agg #[.slice s1 c cc, .slice t1 d cd]) W := fun W => by kernel_rfl
  go_enter Try.func10, Try.ntmps10
  go_wp2_with fail
  refine wp_loop_rounds 3 ?_
  rw [rounds_succ]
  go_wp2_with fail
  obtain ⟨x, hx⟩ : ∃ x : Int, 65536 - ((a : Int) + b) = x := ⟨_, rfl⟩
  have HX : Hid (decide (x < 0) = !decide (a + b ≤ 65536)) := Lib.hid (by rw [← hx, ← decide_not]; exact decide_eq_decide.2 (by omega))
  refine (room_any s0 t0 a b ca cb ha hb _).mono ?_
  rintro e w1 ⟨rfl, hb1⟩
  rw [hx]
  have HB1 := Lib.hid ((below_two w _ _).trans (hb1.mono (by simp; omega)))
  clear hb1 hx ix0
  by_cases h1 : a + b ≤ 65536
  rotate_left
  · have d1 : decide (x < 0) = true := by rw [HX.out, decide_eq_false h1]; rfl
    obtain rfl : false = o := by rw [← HO.out, decide_eq_false h1, Bool.false_and]
    go_wp2_with fail
    go_ret
    exact ⟨rfl, HB1.out⟩
  have d1 : decide (x < 0) = false := by rw [HX.out, decide_eq_true h1]; rfl
  have HO2 : Hid (decide (c + d ≤ 65536) = o) := Lib.hid (by rw [← HO.out, decide_eq_true h1, Bool.true_and])
  clear HX h1 HO
  go_wp2_with fail
  rw [rounds_succ]
  go_wp2_with fail
  obtain ⟨y, hy⟩ : ∃ y : Int, 65536 - ((c : Int) + d) = y := ⟨_, rfl⟩
  have HY : Hid (decide (y < 0) = !decide (c + d ≤ 65536)) := Lib.hid (by rw [← hy, ← decide_not]; exact decide_eq_decide.2 (by omega))
  refine (room_any s1 t1 c d cc cd hc hd _).mono ?_
  rintro e w2 ⟨rfl, hb2⟩
  rw [hy]
  have HB2 := Lib.hid ((HB1.out.trans ((Below.refl w1.heap.size w1).alloc (Nat.le_refl _) _ |>.mono HB1.out.size)).trans (hb2.mono (by have := HB1.out.size; simp; omega)))
  clear hb2 hy ix1 d1 HB1
  by_cases h1 : c + d ≤ 65536
  rotate_left
  · have d1 : decide (y < 0) = true := by rw [HY.out, decide_eq_false h1]; rfl
    obtain rfl : false = o := by rw [← HO2.out, decide_eq_false h1]
    go_wp2_with fail
    go_ret
    exact ⟨rfl, HB2.out⟩
  have d1 : decide (y < 0) = false := by rw [HY.out, decide_eq_true h1]; rfl
  obtain rfl : true = o := by rw [← HO2.out, decide_eq_true h1]
  clear HY h1
  go_wp2_with fail
  rw [rounds_succ]
  go_wp2_with fail
  go_ret
  exact ⟨rfl, HB2.out⟩

theorem right_any (d : Dk) (h : Hs) (w : World) (_hd : DkAt w d h) (hs : d.small) (_hl : Laid w) : Calls Try.prog 10 #[.agg (d.arr h)] w fun e w' => e = .returned (.bool (rightK d)) ∧ Below w.heap.size w w' :=
  right_raw _ _ _ _ _ _ _ _ _ _ _ _ hs.1.1 hs.1.2 hs.2.1 hs.2.2 w _ rfl

theorem right_is0 (d : Dk) (h : Hs) (DA : Array Value) (hDA : d.arr h = DA) (w : World) (hd : DkAt w d h) (hs : d.small) (hl : Laid w) (o : Bool) (ho : rightK d = o) : Calls Try.prog 10 #[.agg DA] w fun e w' => e = .returned (.bool o) ∧ Below w.heap.size w w' := by
  subst hDA ho
  exact right_any d h w hd hs hl
theorem may_any (d : Dk) (h : Hs) (DA : Array Value) (hDA : d.arr h = DA) (n : Int) (w : World) (hd : DkAt w d h) (hs : d.small) (hl : Laid w) (o : Bool) (ho : okK d n = o) :
    Calls Try.prog 14 #[.agg DA, .int .i64 n] w fun e w' => e = .returned (.bool o) ∧ Below w.heap.size w w' := by
  have HDI : Hid ((Try.prog.info? 29).map (·.size) = some DA.size) := Lib.hid (hDA ▸ dk_info d h)
  have HD := Lib.hid hd
  have HL := Lib.hid hl
  have HDA := Lib.hid hDA
  have HO := Lib.hid ho
  obtain ⟨r, hr⟩ : ∃ r, rightK d = r := ⟨_, rfl⟩
  have HR := Lib.hid hr
  have hbl : Below w.heap.size w (w.alloc (.cells DA 29)) := (Below.refl _ _).alloc (Nat.le_refl _) _
  have HX : Hid (DkBox (w.alloc (.cells DA 29)) w.heap.size d h) := Lib.hid (by rw [← hDA]; exact heap_alloc_new _ _)
  have HB := Lib.hid hbl
  clear hDA hd hl ho hbl hr
  go_enter Try.func14, Try.ntmps14
  go_upto_region 1 with fail
  generalize w.alloc (.cells DA 29) = w1 at HX HB ⊢
  go_wp2_with (refine wpList_load_arr_g (by rfl) 29 _ rfl w.heap.size 0 rfl DA _ (by rw [← HDA.out]; exact HX.out.range) Try.underlying29 rfl HDI.out ?_)
  refine (right_is0 d h DA HDA.out w1 (HD.out.later HB.out) hs (HL.out.below HB.out) r HR.out).mono ?_
  rintro e w2 ⟨rfl, hb⟩
  have HB2 := Lib.hid (HB.out.trans (hb.mono HB.out.size))
  clear hb HB HX
  have HO2 : Hid ((r && (decide (0 ≤ n) && decide (n < 2))) = o) := Lib.hid (by
    rw [← HO.out, ← HR.out]
    unfold okK isF
    congr 1
    rw [← Bool.decide_and, ← Bool.decide_or]
    exact decide_eq_decide.2 (by omega))
  cases r
  · obtain rfl : false = o := by rw [← HO2.out]; rfl
    go_wp2_with fail
    go_ret
    exact ⟨rfl, HB2.out⟩
  · by_cases h0 : 0 ≤ n
    · by_cases h1 : n < 2
      · obtain rfl : true = o := by rw [← HO2.out, decide_eq_true h0, decide_eq_true h1]; rfl
        go_wp2_with fail
        go_ret
        exact ⟨rfl, HB2.out⟩
      · obtain rfl : false = o := by rw [← HO2.out, decide_eq_true h0, decide_eq_false h1]; rfl
        have d1 : decide (n < 2) = false := decide_eq_false h1
        go_wp2_with fail
        go_ret
        exact ⟨rfl, HB2.out⟩
    · obtain rfl : false = o := by rw [← HO2.out, decide_eq_false h0]; rfl
      go_wp2_with fail
      go_ret
      exact ⟨rfl, HB2.out⟩

end Dsk
end Go.Proofs.Ytdiegglnfbmpdaa
