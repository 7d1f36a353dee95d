/-
  The walk of layer 7's laws: SessLost.
-/
import Derived.Test.YtnmmokdkngccjaaSesL
import Derived.OpenShut
namespace Go.Proofs.Ytnmmokdkngccjaa
open Go.RowKit
namespace Ses
open Num
open Msg (I64)

theorem countK_le (k : Int) (l : List Msg.Ms) : countK k l ≤ l.length := List.length_filter_le _ _
theorem lostM_len (n out sd now : Int) (td : Bool) : (lostM n out sd now td).length ≤ 2 := by
  unfold lostM
  cases lostT n now td <;> cases lostB n sd now td <;> simp

set_option maxRecDepth 100000 in
set_option maxHeartbeats 16000000 in
theorem law_SessLost (every steps : Int) (w : World) (he : (Lit.int .u8 every).wf = true) (hs : (Lit.int .u8 steps).wf = true) (hl : Laid w) :
    Calls Try.prog 5 #[.int .u8 every, .int .u8 steps] w fun e w' => e = .returned (.bool true) ∧ Below w.heap.size w w' := by
  have HL := Lib.hid hl
  have he := bounds_u8 he
  have hs := bounds_u8 hs
  clear hl
  obtain ⟨n, hn⟩ : ∃ n : Int, every % 20 + 1 = n := ⟨_, rfl⟩
  have n0 : 0 < n := by omega
  have n1 : n ≤ 20 := by omega
  go_enter Try.func5, Try.ntmps5
  go_wp2_with fail
  refine (awake7_any _ HL.out).mono ?_
  rintro e w1 ⟨rfl, hb1⟩
  have HB1 := Lib.hid hb1
  clear hb1
  go_wp2_with fail
  have HN := Lib.hid hn
  clear hn he
  have HNEW := Lib.hid (new_fit n0 (by omega : n ≤ 1048576)).1
  have HFIT := Lib.hid (new_fit n0 (by omega : n ≤ 1048576)).2
  have HCON : Hid (connect ⟨0, ⟨1, []⟩, 1, n, 0, 0, 0, 0, false⟩ 0 = (⟨1, ⟨1, []⟩, 2, n, 0, 0, 0, 0, false⟩, [{Msg.noMs with kind := 1, a := n, seq := 1, time := 0}], 0)) := Lib.hid (by
    rw [connect_says HFIT.out.right rfl (by decide) (by show (1 : Int) ≠ 1099511627776; decide)]
    rfl)
  have HLOG : Hid (comeS ⟨1, ⟨1, []⟩, 2, n, 0, 0, 0, 0, false⟩ (mK 1 1) 0 = (lostS n 2 0 false, [], [], false, 0)) := Lib.hid (logon_is ⟨n0, by omega⟩ timeP_zero timeP_zero timeP_zero timeP_zero)
  clear HFIT
  refine (new_is n _ (HL.out.below HB1.out) _ 0 0 HNEW.out rfl).mono ?_
  rintro e w2 ⟨a, c, rfl, hr, hb⟩
  generalize hq0 : (⟨0, ⟨1, []⟩, 1, n, 0, 0, 0, 0, false⟩ : Se) = q0 at HCON hr ⊢
  have HQ0 : Hid (q0.inn.held = []) := Lib.hid (by rw [← hq0])
  clear hq0 HNEW
  go_upto_region 5 with (refine wpList_store_row rfl 28 _ _ rfl w2.heap.size (q0.arr a 0 c) rfl rfl _ _ (heap_alloc_last _ _) (arr_info _ _ _ _) rfl (arr_one _ _ _ _) ?_; rw [World.setRow_alloc_new])
  have hbl : Below w2.heap.size w2 (w2.alloc (.cells (q0.arr a 0 c) 28)) := (Below.refl _ _).alloc (Nat.le_refl _) _
  have HG := Lib.hid (SeAt.made w2 q0 a 0 c)
  have HR := Lib.hid (hr.later hbl)
  have HB := Lib.hid ((HB1.out.trans (hb.mono HB1.out.size)).trans (hbl.mono (HB1.out.trans (hb.mono HB1.out.size)).size))
  obtain ⟨g, hg⟩ : ∃ g, w2.heap.size = g := ⟨_, rfl⟩
  have HGS : Hid (w.heap.size ≤ g) := Lib.hid (hg ▸ (HB1.out.trans (hb.mono HB1.out.size)).size)
  rw [hg] at HG ⊢
  clear hbl hr hb HB1
  generalize w2.alloc (.cells (q0.arr a 0 c) 28) = w3 at HG HR HB ⊢
  clear hg
  generalize hq1 : (⟨1, ⟨1, []⟩, 2, n, 0, 0, 0, 0, false⟩ : Se) = q1 at HCON HLOG
  have HQ1 : Hid (q1.inn.held = []) := Lib.hid (by rw [← hq1])
  clear hq1
  go_wp2_with (refine wpList_load_arr_g (by rfl) 28 _ rfl g 0 rfl (q0.arr a 0 c) _ HG.out.range Try.underlying28 rfl (arr_info _ _ _ _) ?_)
  refine (connect_is _ q0 0 a c 0 rfl (by rw [HQ0.out]; rfl) (by decide) _ HR.out (HL.out.below HB.out) q1 _ 0 0 1 HCON.out (by rw [HQ1.out]; rfl) rfl).mono ?_
  rintro e w4 ⟨a4, c4, b4, d4, rfl, hr, -, hb⟩
  have HG4 := Lib.hid (HG.out.later hb)
  have HB4 := Lib.hid (HB.out.trans (hb.mono HB.out.size))
  go_upto_region 6 with (refine wpList_store_row rfl 28 _ _ rfl g (q1.arr a4 0 c4) rfl rfl _ _ HG4.out (arr_info _ _ _ _) rfl (arr_one _ _ _ _) ?_)
  have HG5 := Lib.hid (HG4.out.put q1 a4 0 c4)
  have HR5 := Lib.hid (HG4.out.row (by decide) hr (q1.arr a4 0 c4))
  have HB5 := Lib.hid (below_setRow HB4.out HGS.out (q1.arr a4 0 c4))
  clear hr hb HG HR HB HG4 HB4 HCON
  generalize w4.setRow g (q1.arr a4 0 c4) = w5 at HG5 HR5 HB5 ⊢
  go_wp2_with (refine wpList_load_arr_g (by rfl) 28 _ rfl g 0 rfl (q1.arr a4 0 c4) _ HG5.out.range Try.underlying28 rfl (arr_info _ _ _ _) ?_)
  refine (come_is _ _ q1 (mK 1 1) (mK_fits (by unfold I64; decide) (by unfold I64; decide)) 0 a4 c4 0 rfl rfl (by rw [HQ1.out]; rfl) (by decide) _ HR5.out (HL.out.below HB5.out) _ [] [] false 0 0 0 0 HLOG.out rfl rfl rfl).mono ?_
  rintro e w6 ⟨a6, c6, b6, d6, p6, q6, rfl, hr, -, -, hb⟩
  have HG6 := Lib.hid (HG5.out.later hb)
  have HB6 := Lib.hid (HB5.out.trans (hb.mono HB5.out.size))
  go_upto_region 7 with (refine wpList_store_row rfl 28 _ _ rfl g ((lostS n 2 0 false).arr a6 0 c6) rfl rfl _ _ HG6.out (arr_info _ _ _ _) rfl (arr_one _ _ _ _) ?_)
  have HG7 := Lib.hid (HG6.out.put (lostS n 2 0 false) a6 0 c6)
  have HR7 := Lib.hid (HG6.out.row (by decide) hr ((lostS n 2 0 false).arr a6 0 c6))
  have HB7 := Lib.hid (below_setRow HB6.out HGS.out ((lostS n 2 0 false).arr a6 0 c6))
  clear hr hb HG5 HR5 HB5 HG6 HB6 HLOG
  generalize w6.setRow g ((lostS n 2 0 false).arr a6 0 c6) = w7 at HG7 HR7 HB7 ⊢
  go_wp2_with fail
  go_loopw [12, 13, 14] (fun t_ b_ n_ wr => ∃ (now out sd : Int) (td : Bool) (tests beats : Nat) (a : Option Addr) (c : Nat), t_ = .int .i64 tests ∧ b_ = .int .i64 beats ∧ n_ = .int .i64 now ∧ 0 < now ∧ now ≤ 3 * n ∧ Hid (Lost n now out sd td tests beats) ∧ SeAt wr g (lostS n out sd td) a 0 c ∧ RowAt Rsq.encI wr a c [] ∧ Below w.heap.size w wr) (fun _ _ n_ _ => (3 * n - intOf n_).toNat)
  case atStart => exact ⟨1, 2, 0, false, 0, 0, a6, c6, rfl, rfl, rfl, by decide, by omega, Lost.start n0, HG7.out, HR7.out, HB7.out⟩
  case round =>
    obtain ⟨now, out, sd, td, tests, beats, a8, c8, rfl, rfl, rfl, h0, h3, HLO, hse, hrow, hbel⟩ := hrel
    have HG := Lib.hid hse
    have HR := Lib.hid hrow
    have HB := Lib.hid hbel
    obtain ⟨⟨o1, o2⟩, ⟨d1, d2⟩, -, -, -, -, fm⟩ := id HLO.out
    have ft : tests ≤ 1 := by
      have := HLO.out.fs
      rw [this]
      split <;> omega
    clear hse hrow hbel HG7 HR7 HB7
    by_cases hlt : now < 3 * n
    · have HTK := Lib.hid (tick_lost (td := td) n0 (by omega) o1 (by omega) ⟨d1, by omega⟩ ⟨by omega, by omega⟩ hlt)
      have HNX := Lib.hid (HLO.out.next n0)
      have HLN := Lib.hid (lostM_len n out sd now td)
      generalize hml : lostM n out sd now td = ml at HTK HNX HLN
      obtain ⟨q, hq⟩ : ∃ q, ml.length = q := ⟨_, rfl⟩
      have HQ := Lib.hid hq
      have hq2 : q ≤ 2 := by rw [← hq]; exact HLN.out
      clear hq hml
      generalize hst : lostN n out sd now td = st at HTK HNX
      have HST : Hid (st = lostS n st.out st.said st.tested ∧ st.state = 2 ∧ st.inn.held = []) := Lib.hid (by rw [← hst]; exact ⟨rfl, rfl, rfl⟩)
      clear hst
      go_wp2_with (refine wpList_load_arr_g (by rfl) 28 _ rfl g 0 rfl ((lostS n out sd td).arr a8 0 c8) _ HG.out.range Try.underlying28 rfl (arr_info _ _ _ _) ?_)
      refine (tick_is _ (lostS n out sd td) now a8 c8 0 rfl rfl (by decide) _ HR.out (HL.out.below HB.out) st ml 0 0 q HTK.out (by rw [HST.out.2.2]; rfl) HQ.out).mono ?_
      rintro e w9 ⟨a9, c9, b9, d9, rfl, hr, hm, hb⟩
      go_upto_region 14 with (refine wpList_store_row rfl 28 _ _ rfl w9.heap.size (st.arr a9 0 c9) rfl rfl _ _ (heap_alloc_last _ _) (arr_info _ _ _ _) rfl (arr_one _ _ _ _) ?_; rw [World.setRow_alloc_new])
      have hbl : Below w9.heap.size w9 (w9.alloc (.cells (st.arr a9 0 c9) 28)) := (Below.refl _ _).alloc (Nat.le_refl _) _
      have HG10 := Lib.hid (SeAt.made w9 st a9 0 c9)
      obtain ⟨p, hp⟩ : ∃ p, w9.heap.size = p := ⟨_, rfl⟩
      have HGO := Lib.hid ((HG.out.later hb).later hbl)
      have HR10 := Lib.hid (hr.later hbl)
      have HM10 := Lib.hid (hm.later hbl)
      have hb2 := HB.out.trans (hb.mono HB.out.size)
      have HB10 := Lib.hid (hb2.trans (hbl.mono hb2.size))
      have HPG : Hid (g ≠ p) := Lib.hid (fun e => by have h1 := (HG.out.later hb).lt; rw [hp, ← e] at h1; exact Nat.lt_irrefl _ h1)
      rw [hp] at HG10 ⊢
      clear hbl hr hm hb hb2 HG HR HB hp
      generalize w9.alloc (.cells (st.arr a9 0 c9) 28) = w10 at HG10 HGO HR10 HM10 HB10 ⊢
      go_wp2_with fail
      go_loopw [12, 13, 18] (fun t_ b_ k_ wr => ∃ k : Nat, k_ = .int .i64 k ∧ k ≤ q ∧ t_ = .int .i64 (tests + countK 3 (ml.take k) : Nat) ∧ b_ = .int .i64 (beats + countK 2 (ml.take k) : Nat) ∧ Below w10.heap.size w10 wr) (fun _ _ k_ _ => q - (intOf k_).toNat)
      case atStart => exact ⟨0, rfl, Nat.zero_le _, rfl, rfl, Below.refl _ _⟩
      case round =>
        obtain ⟨k, rfl, hkq, rfl, rfl, hbel⟩ := hrel
        have HBI := Lib.hid hbel
        have u1 := countK_le 3 (ml.take k)
        have u2 := countK_le 2 (ml.take k)
        have u3 : (ml.take k).length ≤ 2 := by rw [List.length_take]; omega
        clear hbel
        by_cases hk : k < q
        · obtain ⟨m, hm⟩ : ∃ m, ml[k]? = some m := ⟨ml[k]'(by rw [HQ.out]; exact hk), List.getElem?_eq_getElem _⟩
          have HTA : Hid (ml.take (k + 1) = ml.take k ++ [m]) := Lib.hid (by rw [List.take_add_one, hm]; rfl)
          obtain ⟨x, y, rfl, _⟩ := HM10.out.at (by rw [HQ.out]; omega) (by decide)
          have hqd : q ≤ d9 := by
            rcases HM10.out with ⟨h, _⟩ | ⟨_, _, h, _⟩
            · cases h
            · rwa [HQ.out] at h
          have m0 := (msg_cells (HM10.out.later HBI.out) hm).c0
          have HC3 : Hid (tests + countK 3 (ml.take (k + 1)) = tests + countK 3 (ml.take k) + (if m.kind = 3 then 1 else 0)) := Lib.hid (by rw [HTA.out, countK_snoc]; omega)
          have HC2 : Hid (beats + countK 2 (ml.take (k + 1)) = beats + countK 2 (ml.take k) + (if m.kind = 2 then 1 else 0)) := Lib.hid (by rw [HTA.out, countK_snoc]; omega)
          clear hm
          generalize countK 3 (ml.take k) = t3 at u1 HC3 ⊢
          generalize countK 2 (ml.take k) = t2 at u2 HC2 ⊢
          generalize m.kind = mk at m0 HC3 HC2
          by_cases k3 : mk = 3
          · subst k3
            go_wp2_with fail
            go_roundw
            case rel => exact ⟨k + 1, congrArg (Value.int .i64) (by omega), hk, congrArg (Value.int .i64) (by rw [HC3.out]; simp), congrArg (Value.int .i64) (by rw [HC2.out]; simp), HBI.out⟩
            case measure => simp [intOf]; omega
          · by_cases k2 : mk = 2
            · subst k2
              go_wp2_with fail
              go_roundw
              case rel => exact ⟨k + 1, congrArg (Value.int .i64) (by omega), hk, congrArg (Value.int .i64) (by rw [HC3.out]; simp), congrArg (Value.int .i64) (by rw [HC2.out]; simp), HBI.out⟩
              case measure => simp [intOf]; omega
            · have HK3 := Lib.hid k3
              have HK2 := Lib.hid k2
              have e3 : (mk == 3) = false := by rw [beq_eq_false_iff_ne]; exact k3
              have e2 : (mk == 2) = false := by rw [beq_eq_false_iff_ne]; exact k2
              clear k3 k2
              go_wp2_with fail
              go_roundw
              case rel => exact ⟨k + 1, congrArg (Value.int .i64) (by omega), hk, congrArg (Value.int .i64) (by rw [HC3.out, if_neg HK3.out]; simp), congrArg (Value.int .i64) (by rw [HC2.out, if_neg HK2.out]; simp), HBI.out⟩
              case measure => simp [intOf]; omega
        · obtain rfl : k = q := by omega
          have HTA : Hid (ml.take k = ml) := Lib.hid (List.take_of_length_le (by rw [HQ.out]; exact Nat.le_refl _))
          have HGP := Lib.hid (HG10.out.later HBI.out)
          have HGG := Lib.hid (HGO.out.later HBI.out)
          have HBB := Lib.hid (HB10.out.trans (HBI.out.mono HB10.out.size))
          have z0 : wr.cell? ⟨p, 0, none⟩ = some (.int .i64 2) := HST.out.2.1 ▸ HGP.out.cells.c0
          have z9 : wr.cell? ⟨p, 9, none⟩ = some (.bool (decide (2 * n ≤ now))) := HNX.out.2 ▸ HGP.out.cells.c9
          rw [HTA.out]
          rw [HTA.out] at u1 u2
          go_wp2_with (first | (refine wpList_load_arr_g (by rfl) 28 _ rfl p 0 rfl (st.arr a9 0 c9) _ HGP.out.range Try.underlying28 rfl (arr_info _ _ _ _) ?_) | (refine wpList_store_row rfl 28 _ _ rfl g (st.arr a9 0 c9) rfl rfl _ _ HGG.out (arr_info _ _ _ _) rfl (arr_one _ _ _ _) ?_))
          go_roundw
          case rel => exact ⟨now + 1, st.out, st.said, st.tested, tests + countK 3 ml, beats + countK 2 ml, a9, c9, rfl, rfl, rfl, by omega, by omega, HNX.out.1, Eq.mp (congrArg (fun z => SeAt (wr.setRow g (st.arr a9 0 c9)) g z a9 0 c9) HST.out.1) (HGG.out.put st a9 0 c9), (by have h := HGG.out.row (by decide) (HR10.out.later HBI.out) (st.arr a9 0 c9); rw [HST.out.2.2] at h; exact h), below_setRow HBB.out HGS.out _⟩
          case measure => simp [intOf]; omega
    · obtain rfl : now = 3 * n := by omega
      have HGN := Lib.hid (tick_gone (td := td) (out := out) (sd := sd) (now := 3 * n + steps) n0 (by omega) o1 (by omega) ⟨d1, by omega⟩ ⟨by omega, by omega⟩ (by omega))
      have HT1 : Hid (tests = 1) := Lib.hid (by
        have h1 := HLO.out.fs
        have h2 := HLO.out.ft
        rw [decide_eq_true (by omega)] at h2
        rw [h1, h2]
        rfl)
      have HT2 := Lib.hid (HLO.out.fb (by omega))
      generalize hst : ({lostS n out sd td with state := 0} : Se) = st at HGN
      have HST : Hid (st.state = 0 ∧ st.inn.held = []) := Lib.hid (by rw [← hst]; exact ⟨rfl, rfl⟩)
      clear hst
      go_wp2_with (refine wpList_load_arr_g (by rfl) 28 _ rfl g 0 rfl ((lostS n out sd td).arr a8 0 c8) _ HG.out.range Try.underlying28 rfl (arr_info _ _ _ _) ?_)
      refine (tick_is _ (lostS n out sd td) (3 * n + steps) a8 c8 0 rfl rfl (by decide) _ HR.out (HL.out.below HB.out) st [] 0 0 0 HGN.out (by rw [HST.out.2]; rfl) rfl).mono ?_
      rintro e w9 ⟨a9, c9, b9, d9, rfl, -, -, hb⟩
      go_upto_region 25 with (refine wpList_store_row rfl 28 _ _ rfl w9.heap.size (st.arr a9 0 c9) rfl rfl _ _ (heap_alloc_last _ _) (arr_info _ _ _ _) rfl (arr_one _ _ _ _) ?_; rw [World.setRow_alloc_new])
      have hb2 := HB.out.trans (hb.mono HB.out.size)
      have HB10 := Lib.hid (hb2.alloc hb2.size (.cells (st.arr a9 0 c9) 28))
      have HG10 := Lib.hid (SeAt.made w9 st a9 0 c9)
      obtain ⟨p, hp⟩ : ∃ p, w9.heap.size = p := ⟨_, rfl⟩
      rw [hp] at HG10 ⊢
      clear hb hb2 HG HR HB hp
      generalize w9.alloc (.cells (st.arr a9 0 c9) 28) = w10 at HG10 HB10 ⊢
      have z0 : w10.cell? ⟨p, 0, none⟩ = some (.int .i64 0) := HST.out.1 ▸ HG10.out.cells.c0
      obtain rfl : tests = 1 := HT1.out
      have q2 : (1 : Int) ≤ beats := by have := HT2.out; omega
      go_wp2_with fail
      go_ret
      exact ⟨rfl, HB10.out⟩

end Ses
end Go.Proofs.Ytnmmokdkngccjaa
