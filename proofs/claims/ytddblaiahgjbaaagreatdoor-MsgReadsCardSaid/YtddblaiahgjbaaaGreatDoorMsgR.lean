/-
  The walk of layer 5's laws: MsgReads.
-/
import Derived.Test.YtddblaiahgjbaaaGreatDoorMsgL
import Derived.Test.YtddblaiahgjbaaaGreatDoorMsgF
import Derived.Test.YtddblaiahgjbaaaGreatDoorArgB

namespace Go.Proofs.YtddblaiahgjbaaaGreatDoor
open Go.RowKit
namespace Msg
open Num
open Fld (F)

theorem rread_is (a : Option Addr) (cap : Nat) (b : List UInt8) (k : Nat) (hk : b.length = k) (w : World) (hby : BytesAt w a cap b) (hlen : k ≤ 1000000) (M : Ms) (n : Int) (hr : readB b = (M, n)) :
    Calls Tryz.prog 16 #[.slice a k cap] w (GotM w (M, n)) := by
  subst hk
  have h := rread_any a cap b w hby hlen
  rwa [hr] at h

set_option maxRecDepth 100000 in
set_option maxHeartbeats 2000000 in
theorem law_MsgReads (a : Option Addr) (len cap : Nat) (z : List Int) (w : World) (hr : IsRow .u8 w a len cap z) (hl : Laid w) :
    Calls Tryz.prog 4 #[.slice a len cap] w fun e w' => e = .returned (.bool true) ∧ Below w.heap.size w w' := by
  obtain ⟨l, rfl, hm, hi⟩ := IsRow.bytes hr
  have hcap := hi.cap
  unfold maxLen at hm
  obtain ⟨t, ht⟩ : ∃ t, l.take 3000 = t := ⟨_, rfl⟩
  have HI : Hid (BytesAt w a cap t) := Lib.hid (by rw [← ht]; exact hi.take 3000)
  have HT : Hid (t.length ≤ 3000) := Lib.hid (by rw [← ht, List.length_take]; omega)
  have HN : Hid (t.length = (min (l.length : Int) 3000).toNat) := Lib.hid (by rw [← ht, List.length_take]; omega)
  have H0 : Hid (l = [] → t.length = (min (0 : Int) 3000).toNat) := Lib.hid (by rintro rfl; rw [← ht]; rfl)
  have HL := Lib.hid hl
  have hft := readB_fits t
  obtain ⟨M, n, hrb⟩ : ∃ M n, readB t = (M, n) := ⟨_, _, rfl⟩
  rw [hrb] at hft
  have HRB := Lib.hid hrb
  obtain ⟨C, hC⟩ : ∃ C, M.cells = C := ⟨_, rfl⟩
  have HEQ : Hid (∀ W, (binOp .eql 25 (.agg C) (.agg C)).run Tryz.prog W = .ok (.bool true) W) := Lib.hid fun W => by rw [← hC, eq_ms hft hft, decide_eq_true rfl]
  have HSZ : Hid ((Tryz.prog.info? 25).map (·.size) = some C.size ∧ C.all (·.oneCell') = true ∧ 18 = C.size) := Lib.hid ⟨by rw [← hC]; kernel_rfl, by rw [← hC]; exact ms_one M, by rw [← hC]; rfl⟩
  have HC := Lib.hid hC
  clear ht hr hl hrb hft hC
  have hsp : (l.length : Int) ≤ 3000 ∨ (3000 : Int) < (l.length : Int) := by omega
  rcases hi with ⟨rfl, rfl, rfl⟩ | ⟨x, rfl, _, _⟩
  all_goals rcases hsp with h3 | h3
  all_goals try (exfalso; simp at h3; done)
  all_goals
    go_enter Tryz.func4, Tryz.ntmps4
    go_wp2_with fail
    refine (awake5_any _ HL.out).mono ?_
    rintro e w1 ⟨rfl, hb1⟩
    have HB1 := Lib.hid hb1
    clear hb1
    go_wp2_with fail
    refine (read_is _ _ t _ (by first | exact HN.out | exact H0.out rfl | (have := HN.out; omega)) _ (HI.out.later HB1.out) (by have := HT.out; omega) (HL.out.below HB1.out) _ _ HRB.out).mono ?_
    rintro e w2 ⟨rfl, hb2⟩
    have HB2 := Lib.hid (HB1.out.trans (hb2.mono HB1.out.size))
    clear hb2
    simp only [HC.out]
    have HB2' : Hid (Below w.heap.size w (w2.alloc (.cells C 25))) := Lib.hid (HB2.out.alloc HB2.out.size _)
    have HX2 : Hid ((w2.alloc (.cells C 25)).heap[w2.heap.size]? = some (.cells C 25 (0, 0))) := Lib.hid (heap_alloc_new w2 _)
    go_upto_region 5 with (refine wpList_store_row rfl 25 _ _ rfl _ C rfl rfl _ _ (heap_alloc_last _ _) HSZ.out.1 HSZ.out.2.2 HSZ.out.2.1 ?_; rw [World.setRow_alloc_new])
    obtain ⟨g2, hg2⟩ : ∃ g, w2.heap.size = g := ⟨_, rfl⟩
    rw [hg2] at HX2
    rw [hg2]
    generalize w2.alloc (.cells C 25) = w3 at HB2' HX2 ⊢
    go_wp2_with fail
    refine (rread_is _ _ t _ (by first | exact HN.out | exact H0.out rfl | (have := HN.out; omega)) _ (HI.out.later HB2'.out) (by have := HT.out; omega) _ _ HRB.out).mono ?_
    rintro e w4 ⟨rfl, hb4⟩
    have HB4 := Lib.hid (HB2'.out.trans (hb4.mono HB2'.out.size))
    have HX4 := Lib.hid (below_block HX2.out hb4)
    clear hb4
    simp only [HC.out]
    have HB4' : Hid (Below w.heap.size w (w4.alloc (.cells C 25))) := Lib.hid (HB4.out.alloc HB4.out.size _)
    have HR5 : Hid ((w4.alloc (.cells C 25)).rangeAt g2 0 C.toList) := Lib.hid (block_range (alloc_block HX4.out))
    have HR6 : Hid ((w4.alloc (.cells C 25)).rangeAt w4.heap.size 0 C.toList) := Lib.hid (block_range (heap_alloc_new w4 _))
    go_upto_region 6 with (refine wpList_store_row rfl 25 _ _ rfl _ C rfl rfl _ _ (heap_alloc_last _ _) HSZ.out.1 HSZ.out.2.2 HSZ.out.2.1 ?_; rw [World.setRow_alloc_new])
    obtain ⟨g4, hg4⟩ : ∃ g, w4.heap.size = g := ⟨_, rfl⟩
    rw [hg4] at HR6
    rw [hg4]
    generalize w4.alloc (.cells C 25) = w5 at HB4' HR5 HR6 ⊢
    go_wp2_with (first
      | (refine wpList_load_arr_g (by rfl) 25 _ rfl g2 0 rfl C _ HR5.out Tryz.underlying25 rfl HSZ.out.1 ?_)
      | (refine wpList_load_arr_g (by rfl) 25 _ rfl g4 0 rfl C _ HR6.out Tryz.underlying25 rfl HSZ.out.1 ?_)
      | (refine wpList_eq_run_g (by rfl) .eql 25 _ _ _ rfl (.agg C) (.agg C) rfl rfl (eq_guard _ _ _ _ _ _) _ (HEQ.out _) ?_))
    go_ret
    exact ⟨rfl, HB4'.out⟩

end Msg
end Go.Proofs.YtddblaiahgjbaaaGreatDoor
