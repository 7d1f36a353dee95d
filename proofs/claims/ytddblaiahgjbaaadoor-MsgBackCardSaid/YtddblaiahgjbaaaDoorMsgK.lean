/-
  The walk of layer 5's laws: MsgBack.
-/
import Derived.Test.YtddblaiahgjbaaaDoorMsgL
import Derived.Test.YtddblaiahgjbaaaDoorArgB
import Derived.Test.YtddblaiahgjbaaaDoorPlMsgB
import Derived.Test.YtddblaiahgjbaaaDoorFrmPs
import Derived.Test.YtddblaiahgjbaaaDoorLdRow

namespace Go.Proofs.YtddblaiahgjbaaaDoor
open Go.RowKit
namespace Msg
open Num
open Fld (F)

attribute [local go_sem ↓] load_msg
attribute [local go_sem] blkOf_ptr offOf_ptr

theorem right_c (c : Array Value) (m : Ms) (hc : c = m.cells) (hm : m.Fits) (w : World) (hl : Laid w) (o : Bool) (ho : rightM m = o) : Calls Tryd.prog 11 #[.agg c] w fun e w' => e = .returned (.bool o) ∧ Below w.heap.size w w' := by
  subst hc ho
  exact right_any m hm w hl
theorem short_c (c : Array Value) (m : Ms) (hc : c = m.cells) (hm : m.Fits) (w : World) : Calls Tryd.prog 6 #[.agg c] w fun e w' => e = .returned (.bool (shortM m)) ∧ Below w.heap.size w w' := by
  subst hc
  exact rshort_any m hm w
theorem neq_ms {x y : Ms} (hx : x.Fits) (hy : y.Fits) (w : World) : (binOp .neq 25 (.agg x.cells) (.agg y.cells)).run Tryd.prog w = .ok (.bool (!(decide (x = y)))) w := by
  rw [run_flat_neq fitsMs (by decide) (Ms.cs hx) (Ms.cs hy), ms_same]
theorem fparse_is (a : Option Addr) (cap : Nat) (b : List UInt8) (k : Nat) (hk : b.length = k) (w : World) (hby : BytesAt w a cap b) (hlen : k ≤ 1000000) (hl : Laid w) (l : List F) (n : Int) (h : Fld.parseL b = (l, n)) :
    Calls Tryd.prog 9 #[.slice a k cap] w (GotRow encF w l n) := by
  subst hk
  have g := Fld.parse_any a cap b w hby (by omega) hl
  rwa [h] at g
theorem fright_is (a : Option Addr) (cap : Nat) (b : List UInt8) (k : Nat) (hk : b.length = k) (w : World) (hby : BytesAt w a cap b) (hlen : k ≤ 1000000) (hl : Laid w) (h : Frm.rightY b = true) :
    Calls Tryd.prog 10 #[.slice a k cap] w fun e w' => e = .returned (.bool true) ∧ Below w.heap.size w w' := by
  subst hk
  have g := Frm.right_any a cap b w hby hlen hl
  rwa [h] at g
theorem said_all {m : Ms} (h : rightM m = true) : ∃ y, putM m = (y, 0) ∧ readB y = (m, 0) ∧ Fld.parseL y = (fieldsM m, 0) ∧ Frm.rightY y = true ∧ y.length ≤ 100000 := by
  have hp : putM m = (Fld.putB (fieldsM m), 0) := by unfold putM; rw [if_pos h]
  have hs := said (m := m) (by rw [hp])
  rw [hp] at hs
  have hb := bytesL_len (fields_may h).1
  have hf := (fields_may h).2.2
  exact ⟨_, hp, hs.2, parse_said h, said_frame h, by rw [(fields_put h).2]; omega⟩

set_option maxRecDepth 100000 in
set_option maxHeartbeats 4000000 in
theorem law_MsgBack (m : Ms) (a : Option Addr) (len cap : Nat) (z : List Int) (w : World) (hm : m.Fits) (hr : IsRow .u8 w a len cap z) (hl : Laid w) :
    Calls Tryd.prog 3 #[.agg m.cells, .slice a len cap] w fun e w' => e = .returned (.bool true) ∧ Below w.heap.size w w' := by
  have HL := Lib.hid hl
  have HF := Lib.hid hm
  obtain ⟨l, rfl, hm2, hi0⟩ := IsRow.bytes hr
  have hcap := hi0.cap
  unfold maxLen at hm2
  obtain ⟨t, ht⟩ : ∃ t, l.take 3000 = t := ⟨_, rfl⟩
  have HI : Hid (BytesAt w a cap t) := Lib.hid (by rw [← ht]; exact hi0.take 3000)
  have HT : Hid (t.length ≤ 3000) := Lib.hid (by rw [← ht, List.length_take]; omega)
  have HN : Hid (t.length = (min (l.length : Int) 3000).toNat) := Lib.hid (by rw [← ht, List.length_take]; omega)
  have HAN : Hid ((a = none ∧ l = [] ∧ cap = 0) ∨ ∃ x, a = some x) := Lib.hid (by
    rcases hi0 with ⟨h1, h2, h3⟩ | ⟨x, h, _⟩
    · exact .inl ⟨h1, h2, h3⟩
    · exact .inr ⟨x, h⟩)
  have HNE : Hid (∀ W, (binOp .neq 25 (.agg m.cells) (.agg m.cells)).run Tryd.prog W = .ok (.bool false) W) := Lib.hid fun W => by rw [neq_ms hm hm, decide_eq_true rfl]; rfl
  clear ht hl hm hr hi0
  obtain ⟨A, hA⟩ : ∃ A, m.cells = A := ⟨_, rfl⟩
  have hi : (Tryd.prog.info? 25).map (·.size) = some A.size := by rw [← hA]; kernel_rfl
  have HONE : Hid (A.all (·.oneCell') = true ∧ 18 = A.size) := Lib.hid (by rw [← hA]; exact ⟨ms_one m, rfl⟩)
  have HA := Lib.hid hA
  rw [hA] at HNE ⊢
  have HZ : Hid (A.size = 18 ∧ A.extract 0 18 = A) := Lib.hid (by rw [← hA]; exact ⟨rfl, rfl⟩)
  clear hA
  have HX0 : Hid ((w.alloc (.cells A 25)).heap[w.heap.size]? = some (.cells A 25 (0, 0))) := Lib.hid (heap_alloc_new w _)
  have HB0 : Hid (Below w.heap.size w (w.alloc (.cells A 25))) := Lib.hid ((Below.refl _ _).alloc (Nat.le_refl _) _)
  go_enter Tryd.func3, Tryd.ntmps3
  go_upto_region 1 with fail
  generalize w.alloc (.cells A 25) = w0 at HX0 HB0 ⊢
  have HK : Hid (∀ W, Below w0.heap.size w0 W → Below w.heap.size w W ∧ W.heap[w.heap.size]? = some (.cells A 25 (0, 0)) ∧ W.rangeAt w.heap.size 0 A.toList ∧ Laid W ∧ BytesAt W a cap t) := Lib.hid fun W hW => by
    have h1 := below_block HX0.out hW
    have h3 := HB0.out.trans (hW.mono HB0.out.size)
    exact ⟨h3, h1, block_range h1, HL.out.below h3, HI.out.later h3⟩
  go_wp2_with fail
  refine (awake5_any _ (HK.out _ (Below.refl _ _)).2.2.2.1).mono ?_
  rintro e w1 ⟨rfl, hb1⟩
  have HB1 := Lib.hid hb1
  clear hb1
  go_wp2_with (refine wpList_load_arr_g (by rfl) 25 _ rfl w.heap.size 0 rfl A _ (HK.out _ HB1.out).2.2.1 Tryd.underlying25 rfl hi ?_)
  refine (short_c A m HA.out.symm HF.out _).mono ?_
  rintro e w2 ⟨rfl, hb2⟩
  have HB2 := Lib.hid (HB1.out.trans (hb2.mono HB1.out.size))
  clear hb2
  cases hsh : shortM m
  · go_wp2_with fail
    go_ret
    exact ⟨rfl, (HK.out _ HB2.out).1⟩
  clear hsh
  obtain ⟨y, n, hp⟩ : ∃ y n, putM m = (y, n) := ⟨_, _, rfl⟩
  have HP := Lib.hid hp
  clear hp
  go_wp2_with (refine wpList_load_arr_g (by rfl) 25 _ rfl w.heap.size 0 rfl A _ (HK.out _ HB2.out).2.2.1 Tryd.underlying25 rfl hi ?_)
  refine (put_is A m HA.out.symm HF.out _ (HK.out _ HB2.out).2.2.2.1 _ _ HP.out).mono ?_
  rintro e w3 ⟨⟨a3, c3, rfl, hy3⟩, hb3⟩
  have HB3 := Lib.hid (HB2.out.trans (hb3.mono HB2.out.size))
  have HY3 := Lib.hid hy3
  clear hy3 hb3
  obtain ⟨q, hq⟩ : ∃ q, y.length = q := ⟨_, rfl⟩
  rw [hq]
  have HQ := Lib.hid hq
  clear hq
  go_upto_if 26 with fail
  go_cut [9] (fun _ wx => Below w0.heap.size w0 wx)
  case first =>
    cases hrm : rightM m
    · have hp : putM m = ([], 1) := by unfold putM; rw [if_neg (by rw [hrm]; simp)]
      rw [HP.out] at hp
      obtain ⟨rfl, rfl⟩ := Prod.mk.inj hp
      obtain rfl : q = 0 := HQ.out.symm
      clear hp
      go_wp2_with (refine wpList_load_arr_g (by rfl) 25 _ rfl w.heap.size 0 rfl A _ (HK.out _ HB3.out).2.2.1 Tryd.underlying25 rfl hi ?_)
      refine (right_c A m HA.out.symm HF.out _ (HK.out _ HB3.out).2.2.2.1 _ hrm).mono ?_
      rintro e w4 ⟨rfl, hb4⟩
      have HB4 := Lib.hid (HB3.out.trans (hb4.mono HB3.out.size))
      clear hb4
      go_wp2_with fail
      go_meet
      exact HB4.out
    · have ⟨y', s1, s2, s3, s4, s5⟩ := said_all hrm
      have hf3 := (fields_may hrm).2
      rw [HP.out] at s1
      obtain ⟨rfl, rfl⟩ := Prod.mk.inj s1
      have HS2 := Lib.hid s2
      have HS3 := Lib.hid s3
      have HS4 := Lib.hid s4
      have hq9 : q ≤ 100000 := by rw [← HQ.out]; exact s5
      clear s1 s2 s3 s4 s5
      go_wp2_with fail
      refine (read_is _ _ y _ HQ.out _ HY3.out (by omega) (HK.out _ HB3.out).2.2.2.1 _ _ HS2.out).mono ?_
      rintro e w4 ⟨rfl, hb4⟩
      have HB4 := Lib.hid (HB3.out.trans (hb4.mono HB3.out.size))
      have HB4' : Hid (Below w0.heap.size w0 (w4.alloc (.cells A 25))) := Lib.hid (HB4.out.alloc HB4.out.size _)
      have HY4 : Hid (BytesAt (w4.alloc (.cells A 25)) a3 c3 y) := Lib.hid ((HY3.out.later hb4).later ((Below.refl _ _).alloc (Nat.le_refl _) _))
      have HX4 : Hid ((w4.alloc (.cells A 25)).heap[w4.heap.size]? = some (.cells A 25 (0, 0))) := Lib.hid (heap_alloc_new w4 _)
      clear hb4
      simp only [HA.out]
      go_upto_region 8 with (refine wpList_store_row rfl 25 _ _ rfl _ A rfl rfl _ _ (heap_alloc_last _ _) hi HONE.out.2 HONE.out.1 ?_; rw [World.setRow_alloc_new])
      obtain ⟨g4, hg4⟩ : ∃ g, w4.heap.size = g := ⟨_, rfl⟩
      rw [hg4] at HX4 ⊢
      generalize w4.alloc (.cells A 25) = w5 at HB4' HY4 HX4 ⊢
      clear hg4
      go_wp2_with fail
      refine (fparse_is _ _ y _ HQ.out _ HY4.out (by omega) (HK.out _ HB4'.out).2.2.2.1 _ _ HS3.out).mono ?_
      rintro e w6 ⟨⟨fa, fc, rfl, hrow⟩, hb6⟩
      have HB6 := Lib.hid (HB4'.out.trans (hb6.mono HB4'.out.size))
      have HY6 := Lib.hid (HY4.out.later hb6)
      have HR6 := Lib.hid (block_range (below_block HX4.out hb6))
      obtain ⟨fb, fo, rfl, hcell⟩ := hrow.at (by omega) (by decide)
      obtain ⟨fr, hfr⟩ := said_first (m := m)
      have x0 : w6.cell? ⟨fb, fo, none⟩ = some (.int .i64 35) := by
        have h := hcell 0 ⟨35, kindS m.kind⟩ (by rw [hfr]; rfl) 0 _ rfl
        simpa using h
      clear hrow hb6 hcell hfr
      obtain ⟨nf, hnf⟩ : ∃ n, (fieldsM m).length = n := ⟨_, rfl⟩
      rw [hnf] at hf3 ⊢
      have hfc : True := trivial
      clear hnf
      go_wp2_with (first
        | (refine wpList_load_arr_g (by rfl) 25 _ rfl w.heap.size 0 rfl A _ (HK.out _ HB6.out).2.2.1 Tryd.underlying25 rfl hi ?_)
        | (refine wpList_load_arr_g (by rfl) 25 _ rfl g4 0 rfl A _ HR6.out Tryd.underlying25 rfl hi ?_)
        | (refine wpList_eq_run_g (by rfl) .neq 25 _ _ _ rfl (.agg A) (.agg A) rfl rfl (eq_guard _ _ _ _ _ _) _ (HNE.out _) ?_))
      refine (fright_is _ _ y _ HQ.out _ HY6.out (by omega) (HK.out _ HB6.out).2.2.2.1 HS4.out).mono ?_
      rintro e w7 ⟨rfl, hb7⟩
      have HB7 := Lib.hid (HB6.out.trans (hb7.mono HB6.out.size))
      clear hb7 x0
      have ⟨r1, r2⟩ := RowOk.of (HK.out _ HB7.out).2.1 HZ.out.1
      have r3 := HZ.out.2
      go_wp2_with (refine wpList_load_arr_g (by rfl) 25 _ rfl w.heap.size 0 rfl A _ (HK.out _ HB7.out).2.2.1 Tryd.underlying25 rfl hi ?_)
      refine (right_c A m HA.out.symm HF.out _ (HK.out _ HB7.out).2.2.2.1 _ hrm).mono ?_
      rintro e w8 ⟨rfl, hb8⟩
      have HB8 := Lib.hid (HB7.out.trans (hb8.mono HB7.out.size))
      clear hb8
      go_wp2_with fail
      go_meet
      exact HB8.out
  case rest =>
    have HBC := Lib.hid hcut
    clear hcut HY3 HP HQ HNE HONE hi
    obtain ⟨M, k, hrb⟩ : ∃ M k, readB t = (M, k) := ⟨_, _, rfl⟩
    have hft := readB_fits t
    rw [hrb] at hft
    have HRB := Lib.hid hrb
    have HMF := Lib.hid hft
    obtain ⟨C, hC⟩ : ∃ C, M.cells = C := ⟨_, rfl⟩
    have hi : (Tryd.prog.info? 25).map (·.size) = some C.size := by rw [← hC]; kernel_rfl
    have HONE : Hid (C.all (·.oneCell') = true ∧ 18 = C.size) := Lib.hid (by rw [← hC]; exact ⟨ms_one M, rfl⟩)
    have HC := Lib.hid hC
    clear hrb hft hC
    obtain ⟨p, hp⟩ : ∃ p, t.length = p := ⟨_, rfl⟩
    have HPL := Lib.hid hp
    rw [hp] at HN HT
    have hp9 : p ≤ 3000 := HT.out
    clear hp
    go_upto_region 13 with fail
    go_cut [1] (fun s1 wx => s1 = .slice a p cap ∧ wx = wc)
    case first =>
      have hpn := HN.out
      have hsp : (l.length : Int) ≤ 3000 ∨ (3000 : Int) < (l.length : Int) := by omega
      rcases HAN.out with ⟨rfl, rfl, rfl⟩ | ⟨x, rfl⟩
      · obtain rfl : p = 0 := by rw [hpn]; rfl
        clear hsp hpn
        go_wp2_with fail
        go_meet
        exact ⟨rfl, rfl⟩
      · rcases hsp with h3 | h3
        · obtain rfl : p = l.length := by omega
          clear hpn
          go_wp2_with fail
          go_meet
          exact ⟨by first | rfl | exact congrArg (fun n => Value.slice (some x) n cap) (by omega), rfl⟩
        · obtain rfl : p = 3000 := by omega
          clear hpn
          go_wp2_with fail
          go_meet
          exact ⟨by first | rfl | exact congrArg (fun n => Value.slice (some x) n cap) (by omega), rfl⟩
    case rest =>
      obtain ⟨rfl, hww⟩ := hcut
      subst hww
      clear HN HAN
      go_wp2_with fail
      refine (read_is _ _ t _ HPL.out _ (HK.out _ HBC.out).2.2.2.2 (by omega) (HK.out _ HBC.out).2.2.2.1 _ _ HRB.out).mono ?_
      rintro e w4 ⟨rfl, hb4⟩
      have HB4 := Lib.hid (HBC.out.trans (hb4.mono HBC.out.size))
      clear hb4
      have HB4' : Hid (Below w0.heap.size w0 (w4.alloc (.cells C 25))) := Lib.hid (HB4.out.alloc HB4.out.size _)
      have HX4 : Hid ((w4.alloc (.cells C 25)).heap[w4.heap.size]? = some (.cells C 25 (0, 0))) := Lib.hid (heap_alloc_new w4 _)
      simp only [HC.out]
      go_upto_region 15 with (refine wpList_store_row rfl 25 _ _ rfl _ C rfl rfl _ _ (heap_alloc_last _ _) hi HONE.out.2 HONE.out.1 ?_; rw [World.setRow_alloc_new])
      obtain ⟨g4, hg4⟩ : ∃ g, w4.heap.size = g := ⟨_, rfl⟩
      rw [hg4] at HX4 ⊢
      generalize w4.alloc (.cells C 25) = w5 at HB4' HX4 ⊢
      clear hg4
      have HR5 := Lib.hid (block_range HX4.out)
      cases dk : (k != 0)
      · have hk0 : k = 0 := bne_eq_false_iff_eq.1 dk
        subst hk0
        have HH := Lib.hid (heard HRB.out)
        go_wp2_with (refine wpList_load_arr_g (by rfl) 25 _ rfl g4 0 rfl C _ HR5.out Tryd.underlying25 rfl hi ?_)
        refine (put_is C M HC.out.symm HMF.out _ (HK.out _ HB4'.out).2.2.2.1 _ _ HH.out.2).mono ?_
        rintro e w6 ⟨⟨a6, c6, rfl, hy6⟩, hb6⟩
        rw [HPL.out]
        have HB6 := Lib.hid (HB4'.out.trans (hb6.mono HB4'.out.size))
        have HR6 := Lib.hid (block_range (below_block HX4.out hb6))
        have cv1 : (convert 26 9 (.slice a6 p c6)).run Tryd.prog w6 = .ok (.string ⟨t.toArray⟩) w6 := string_of (P := Tryd.prog) Tryd.underlying26 Tryd.underlying5 Tryd.underlying9 hy6 _ HPL.out
        have cv2 : (convert 26 9 (.slice a p cap)).run Tryd.prog w6 = .ok (.string ⟨t.toArray⟩) w6 := string_of (P := Tryd.prog) Tryd.underlying26 Tryd.underlying5 Tryd.underlying9 (HK.out _ HB6.out).2.2.2.2 _ HPL.out
        clear hy6 hb6
        go_wp2_with (refine wpList_load_arr_g (by rfl) 25 _ rfl g4 0 rfl C _ HR6.out Tryd.underlying25 rfl hi ?_)
        refine (right_c C M HC.out.symm HMF.out _ (HK.out _ HB6.out).2.2.2.1 _ HH.out.1).mono ?_
        rintro e w8 ⟨rfl, hb8⟩
        have HB8 := Lib.hid (HB6.out.trans (hb8.mono HB6.out.size))
        clear hb8 cv1 cv2
        go_wp2_with fail
        go_ret
        exact ⟨rfl, (HK.out _ HB8.out).1⟩
      · have hM : M = noMs := by
          have h := unheard (b := t) (by rw [HRB.out]; simpa using dk)
          rw [HRB.out] at h
          exact h
        have HEQ : Hid (∀ W, (binOp .eql 25 (.agg C) (.agg #[.int .i64 0, .int .i64 0, .int .i64 0, .bool false, .int .i64 0, .int .i64 0, .bool false, .string ⟨#[]⟩, .string ⟨#[]⟩, .string ⟨#[]⟩, .string ⟨#[]⟩, .string ⟨#[]⟩, .string ⟨#[]⟩, .int .i64 0, .bool false, .int .i64 0, .int .i64 0, .int .i64 0])).run Tryd.prog W = .ok (.bool true) W) := Lib.hid fun W => by
          have h := eq_ms noMs_fits noMs_fits W
          rw [decide_eq_true rfl] at h
          rw [← HC.out, hM]
          exact h
        go_wp2_with (first
          | (refine wpList_load_arr_g (by rfl) 25 _ rfl g4 0 rfl C _ HR5.out Tryd.underlying25 rfl hi ?_)
          | (refine wpList_eq_run_g (by rfl) .eql 25 _ _ _ rfl (.agg C) (.agg #[.int .i64 0, .int .i64 0, .int .i64 0, .bool false, .int .i64 0, .int .i64 0, .bool false, .string ⟨#[]⟩, .string ⟨#[]⟩, .string ⟨#[]⟩, .string ⟨#[]⟩, .string ⟨#[]⟩, .string ⟨#[]⟩, .int .i64 0, .bool false, .int .i64 0, .int .i64 0, .int .i64 0]) rfl rfl (eq_guard _ _ _ _ _ _) _ (HEQ.out _) ?_))
        go_ret
        exact ⟨rfl, (HK.out _ HB4'.out).1⟩

end Msg
end Go.Proofs.YtddblaiahgjbaaaDoor
