/-
  The program's contracts of layer 5, as the layers above and the laws want them.
-/
import Derived.Test.YtddblaiahgjbaaaDoorMsgPg
namespace Go.Proofs.YtddblaiahgjbaaaDoor
open Go.RowKit
namespace Msg
open Num
open Fld (F)

theorem name_any (s : ByteArray) (hs : Str s) (w : World) (_hl : Laid w) : Calls Tryd.prog 57 #[.string s] w fun e w' => e = .returned (.bool (nameB s)) ∧ Below w.heap.size w w' :=
  (pname_any s w hs).mono fun _ _ h => ⟨h.1, by rw [h.2]; exact Below.refl _ _⟩
theorem bytes_nat (b : List UInt8) : Lib.bytesOf (b.map fun c => (c.toNat : Int)) = b := bytesOf_nat b
theorem BytesAt_in {w : World} {a : Option Addr} {cap : Nat} {l : List UInt8} (h : BytesAt w a cap l) : Lib.BytesIn w a l.length (l.map fun c => (c.toNat : Int)) := by
  rcases h with ⟨rfl, rfl, _⟩ | ⟨x, rfl, _, h⟩
  · exact Lib.BytesIn.nil _ _ _
  · refine Lib.BytesIn.of_cells fun i hi => ?_
    rw [h i hi]
    simp [List.getD, hi]
theorem eq_by (a1 a2 : Option Addr) (c1 c2 : Nat) (l k : List UInt8) (n m : Nat) (hn : l.length = n) (hm : k.length = m) (w : World) (h1 : BytesAt w a1 c1 l) (h2 : BytesAt w a2 c2 k) :
    Calls Tryd.prog 15 #[.slice a1 n c1, .slice a2 m c2] w fun e w' => e = .returned (.bool (l == k)) ∧ w' = w := by
  subst hn hm
  have h := Tryd.bytes_Equal_all a1 a2 l.length c1 k.length c2 _ _ w (by simp) (by simp) (BytesAt_in h1) (BytesAt_in h2)
  rw [bytes_nat, bytes_nat] at h
  exact h
theorem put_c (c : Array Value) (m : Ms) (hc : c = m.cells) (hm : m.Fits) (w : World) (hl : Laid w) (y : List UInt8) (n : Int) (hp : putM m = (y, n)) : Calls Tryd.prog 7 #[.agg c] w (GotBytes w y n) := by
  subst hc
  have h := put_any m hm w hl
  rw [hp] at h
  exact h

set_option maxRecDepth 100000 in
set_option maxHeartbeats 4000000 in
theorem read_any (a : Option Addr) (cap : Nat) (b : List UInt8) (w : World) (hby : BytesAt w a cap b) (hlen : b.length ≤ 1000000) (hl : Laid w) :
    Calls Tryd.prog 8 #[.slice a b.length cap] w (GotM w (readB b)) := by
  have HY : Hid (BytesAt (w.alloc (.cells noMs.cells 25)) a cap b) := Lib.hid (hby.later ((Below.refl _ _).alloc (Nat.le_refl _) _))
  have HB0 : Hid (Below w.heap.size w (w.alloc (.cells noMs.cells 25))) := Lib.hid ((Below.refl _ _).alloc (Nat.le_refl _) _)
  have HR0 : Hid ((w.alloc (.cells noMs.cells 25)).heap[w.heap.size]? = some (.cells noMs.cells 25 (0, 0))) := Lib.hid (heap_alloc_new _ _)
  have HL := Lib.hid hl
  obtain ⟨l, n, hln⟩ : ∃ l n, Fld.parseL b = (l, n) := ⟨_, _, rfl⟩
  have HLN := Lib.hid hln
  have HC := Lib.hid (fun w h hl => Fld.parse_any a cap b w h (by omega) hl)
  rw [hln] at HC
  have HBL := Lib.hid hlen
  obtain ⟨q, hq⟩ : ∃ q, b.length = q := ⟨_, rfl⟩
  have HQ := Lib.hid hq
  rw [hq] at HC ⊢
  clear hby hl hln hlen hq
  go_enter Tryd.func8, Tryd.ntmps8
  go_upto_region 1 with fail
  change Code.wp _ _ _ _ (w.alloc (.cells noMs.cells 25))
  generalize w.alloc (.cells noMs.cells 25) = w0 at HY HB0 HR0 ⊢
  go_wp2_with fail
  refine (HC.out _ HY.out (HL.out.below HB0.out)).mono ?_
  rintro e w1 ⟨⟨a1, c1, rfl, hr⟩, hb1⟩
  have HB1 := Lib.hid (HB0.out.trans (hb1.mono HB0.out.size))
  have HR1 := Lib.hid (below_block HR0.out hb1)
  have HY1 := Lib.hid (HY.out.later hb1)
  have HF1 := Lib.hid (RowAt.flds hr)
  clear hr hb1 HR0
  by_cases hn0 : n = 0
  rotate_left
  · have HRB : Hid (readB b = (noMs, n)) := Lib.hid (by unfold readB; rw [HLN.out, if_pos hn0])
    have dn : (n != 0) = true := by rw [bne_iff_ne]; exact hn0
    clear hn0
    go_wp2_with (refine wpList_store_row rfl 25 _ _ rfl w.heap.size _ rfl rfl _ _ HR1.out (by kernel_rfl) (by rfl) (by simp [Value.oneCell']) ?_)
    refine bodyPost_ret (read_end rfl w.heap.size w1 _ _ _ _ HR1.out rfl rfl rfl) rfl ?_
    rw [HRB.out]
    exact ⟨rfl, below_setRow HB1.out (Nat.le_refl _) _⟩
  · subst hn0
    have hall := (Fld.putE_ok (Fld.parse_back HLN.out).1)
    have hfit : Fld.Fits l := fun f hf => by
      have := (Fld.right_iff f).1 (List.all_eq_true.1 hall.2 f hf)
      omega
    have HRF := Lib.hid (read_found HLN.out (kindI (Fld.getV l 35)) (fun k h1 h7 h => kindI_is k h1 h7 h))
    have hki := kindI_fits (Fld.getV l 35)
    have HMC := Lib.hid (fun w h hl => messageOf_any a1 c1 l w h hfit (by omega) hl)
    have HMF : Hid (ofL (kindI (Fld.getV l 35)) l).Fits := Lib.hid (ofL_fits hfit (by unfold I64; omega))
    generalize ofL (kindI (Fld.getV l 35)) l = M at HRF HMC HMF
    clear hall hfit hki
    go_wp2_with fail
    refine (HMC.out _ HF1.out (HL.out.below HB1.out)).mono ?_
    rintro e w2 ⟨rfl, hb2⟩
    have HB2 := Lib.hid (HB1.out.trans (hb2.mono HB1.out.size))
    have HR2 := Lib.hid (below_block HR1.out hb2)
    have HY2 := Lib.hid (HY1.out.later hb2)
    clear hb2 HR1 HF1
    have hsz : w.heap.size < w2.heap.size := (Array.getElem?_eq_some_iff.1 HR2.out).1
    have HSZ := Lib.hid hsz
    clear hsz
    go_upto_region 5 with (refine wpList_store_row rfl 25 _ _ rfl w2.heap.size _ rfl rfl _ _ (heap_alloc_last _ _) (by kernel_rfl) (by rfl) (ms_one M) ?_; rw [World.setRow_alloc_new])
    have HX3 : Hid ((w2.alloc (.cells M.cells 25)).heap[w2.heap.size]? = some (.cells M.cells 25 (0, 0))) := Lib.hid (heap_alloc_new _ _)
    have HR3 : Hid ((w2.alloc (.cells M.cells 25)).heap[w.heap.size]? = some (.cells noMs.cells 25 (0, 0))) := Lib.hid (alloc_block HR2.out)
    have HB3 : Hid (Below w.heap.size w (w2.alloc (.cells M.cells 25))) := Lib.hid (HB2.out.alloc HB2.out.size _)
    have HY3 : Hid (BytesAt (w2.alloc (.cells M.cells 25)) a cap b) := Lib.hid (HY2.out.later ((Below.refl _ _).alloc (Nat.le_refl _) _))
    generalize w2.alloc (.cells M.cells 25) = w3 at HX3 HR3 HB3 HY3 ⊢
    have HG3 := Lib.hid (block_range HX3.out)
    obtain ⟨y, n2, hp⟩ : ∃ y n2, putM M = (y, n2) := ⟨_, _, rfl⟩
    have HP := Lib.hid hp
    have HPC := Lib.hid (fun w hl => put_c M.cells M rfl HMF.out w hl y n2 hp)
    clear hp
    go_wp2_with (refine wpList_load_mid_g (by rfl) 25 _ rfl w2.heap.size 0 rfl _ _ HG3.out Tryd.underlying25 rfl (by kernel_rfl) ?_)
    refine (HPC.out _ (HL.out.below HB3.out)).mono ?_
    rintro e w4 ⟨⟨a4, c4, rfl, hy4⟩, hb4⟩
    have HB4 := Lib.hid (HB3.out.trans (hb4.mono HB3.out.size))
    have HR4 := Lib.hid (below_block HR3.out hb4)
    have HX4 := Lib.hid (below_block HX3.out hb4)
    have HG4 := Lib.hid (block_range HX4.out)
    have HY4 := Lib.hid (HY3.out.later hb4)
    have HZ4 := Lib.hid hy4
    clear hy4 hb4 HX3 HR3 HG3
    by_cases hn2 : n2 = 0
    rotate_left
    · have HRB : Hid (readB b = (noMs, 3)) := Lib.hid (by
        rw [HRF.out, if_neg]
        rintro ⟨h, _⟩
        have := HP.out
        unfold putM at this
        rw [if_pos h] at this
        exact hn2 (Prod.mk.inj this).2.symm)
      have dn : (n2 != 0) = true := by rw [bne_iff_ne]; exact hn2
      clear hn2
      go_wp2_with (refine wpList_store_row rfl 25 _ _ rfl w.heap.size _ rfl rfl _ _ HR4.out (by kernel_rfl) (by rfl) (by simp [Value.oneCell']) ?_)
      refine bodyPost_ret (read_end rfl w.heap.size w4 _ _ _ _ HR4.out rfl rfl rfl) rfl ?_
      rw [HRB.out]
      exact ⟨rfl, below_setRow HB4.out (Nat.le_refl _) _⟩
    · subst hn2
      have HPR : Hid (rightM M = true ∧ Fld.putB (fieldsM M) = y) := Lib.hid (by
        have := HP.out
        unfold putM at this
        by_cases h : rightM M = true
        · rw [if_pos h] at this
          exact ⟨h, (Prod.mk.inj this).1⟩
        · rw [if_neg h] at this
          exact absurd (Prod.mk.inj this).2 (by decide))
      have HEQ := Lib.hid (fun w h1 h2 => eq_by a4 a c4 cap y b y.length q rfl HQ.out w h1 h2)
      obtain ⟨yl, hyl⟩ : ∃ k, y.length = k := ⟨_, rfl⟩
      rw [hyl] at HEQ ⊢
      clear hyl
      have HRB : Hid (readB b = if (y == b) = true then (M, 0) else (noMs, 3)) := Lib.hid (by
        rw [HRF.out]
        by_cases h : y = b
        · rw [if_pos ⟨HPR.out.1, by rw [HPR.out.2]; exact h⟩, if_pos (beq_iff_eq.2 h)]
        · rw [if_neg (fun g => h (by rw [← HPR.out.2]; exact g.2)), if_neg (fun g => h (beq_iff_eq.1 g))])
      generalize (y == b) = t at HEQ HRB
      go_wp2_with fail
      refine (HEQ.out _ HZ4.out HY4.out).mono ?_
      rintro e w' ⟨rfl, rfl⟩
      cases t
      · go_wp2_with (refine wpList_store_row rfl 25 _ _ rfl w.heap.size _ rfl rfl _ _ HR4.out (by kernel_rfl) (by rfl) (by simp [Value.oneCell']) ?_)
        refine bodyPost_ret (read_end rfl w.heap.size _ _ _ _ _ HR4.out rfl rfl rfl) rfl ?_
        rw [HRB.out]
        exact ⟨rfl, below_setRow HB4.out (Nat.le_refl _) _⟩
      · go_wp2_with (first | (refine wpList_store_row rfl 25 _ _ rfl w.heap.size _ rfl rfl _ _ HR4.out (by kernel_rfl) (by rfl) (ms_one M) ?_) | (refine wpList_load_mid_g (by rfl) 25 _ rfl w2.heap.size 0 rfl _ _ HG4.out Tryd.underlying25 rfl (by kernel_rfl) ?_))
        refine bodyPost_ret (read_end rfl w.heap.size _ _ _ _ _ HR4.out rfl rfl rfl) rfl ?_
        rw [HRB.out]
        exact ⟨rfl, below_setRow HB4.out (Nat.le_refl _) _⟩

end Msg
end Go.Proofs.YtddblaiahgjbaaaDoor
