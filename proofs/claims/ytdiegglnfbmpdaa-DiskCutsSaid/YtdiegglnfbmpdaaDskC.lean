/-
  The walk of layer 9's DiskCuts.
-/
import Derived.Test.YtdiegglnfbmpdaaDskS
import Derived.Test.YtdiegglnfbmpdaaPlDskC
import Derived.Test.YtdiegglnfbmpdaaStepDk
import Derived.Deep.RegionHeld3
import Derived.Deep.QuietTactic
namespace Go.Proofs.Ytdiegglnfbmpdaa
open Go.RowKit
namespace Dsk
attribute [local go_sem ↓] load_disk
attribute [local go_sem] blkOf_ptr offOf_ptr

set_option maxRecDepth 100000 in
set_option maxHeartbeats 16000000 in
theorem law_DiskCuts (d : Dk) (h : Hs) (fl n : Int) (ba : Option Addr) (bl bc : Nat) (b : List UInt8) (k0 k1 : Int) (w : World) (hd : DkAt w d h) (hf : 0 ≤ fl ∧ fl ≤ 255) (hn : 0 ≤ n ∧ n ≤ 65535) (hb : b.length = bl ∧ BytesAt w ba bc b) (hl : Laid w) :
    Calls Try.prog 4 #[.agg (d.arr h), .int .u8 fl, .int .u16 n, .slice ba bl bc, .agg #[.int .i64 k0, .int .i64 k1]] w fun e w' => e = .returned (.bool true) ∧ Below w.heap.size w w' := by
  obtain ⟨nn, rfl⟩ : ∃ j : Nat, n = (j : Int) := ⟨n.toNat, by have := hn.1; omega⟩
  have HN := Lib.hid hn.2
  have HL := Lib.hid hl
  have HBY := Lib.hid hb.2
  have HBL := Lib.hid hb.1
  have e1 : (w.alloc (.cells (d.arr h) 29)).heap.size = w.heap.size + 1 := by simp
  have HB0 : Hid (Below w.heap.size w ((w.alloc (.cells (d.arr h) 29)).alloc (.cells #[.int .i64 k0, .int .i64 k1] 37))) := Lib.hid (((Below.refl _ _).alloc (Nat.le_refl _) _).alloc (by rw [e1]; omega) _)
  have HX0 : Hid (DkBox ((w.alloc (.cells (d.arr h) 29)).alloc (.cells #[.int .i64 k0, .int .i64 k1] 37)) w.heap.size d h) := Lib.hid (alloc_block (heap_alloc_new w _))
  have HY0 : Hid (((w.alloc (.cells (d.arr h) 29)).alloc (.cells #[.int .i64 k0, .int .i64 k1] 37)).heap[w.heap.size + 1]? = some (.cells #[.int .i64 k0, .int .i64 k1] 37 (0, 0))) := Lib.hid (by
    have h := heap_alloc_new (w.alloc (.cells (d.arr h) 29)) (.cells #[.int .i64 k0, .int .i64 k1] 37)
    rwa [e1] at h)
  have HD0 := Lib.hid (hd.later HB0.out)
  clear hd e1 hb hl
  obtain ⟨DA, hDA⟩ : ∃ X, d.arr h = X := ⟨_, rfl⟩
  have HDA := Lib.hid hDA
  have HDI : Hid ((Try.prog.info? 29).map (·.size) = some DA.size) := Lib.hid (hDA ▸ dk_info d h)
  have hds : DA.size = 4 := by rw [← hDA]; rfl
  rw [hDA] at HB0 HX0 HY0 HD0 ⊢
  clear hDA
  go_enter Try.func4, Try.ntmps4
  go_upto_region 1 with fail
  generalize (w.alloc (.cells DA 29)).alloc (.cells #[.int .i64 k0, .int .i64 k1] 37) = w0 at HB0 HX0 HY0 HD0 ⊢
  obtain ⟨p, hp⟩ : ∃ p, w.heap.size = p := ⟨_, rfl⟩
  have HP := Lib.hid hp
  rw [hp] at HX0 HY0 ⊢
  clear hp
  go_wp2_with fail
  refine (awake_any _ (HL.out.below HB0.out)).mono ?_
  rintro e w1 ⟨rfl, hb⟩
  have HX1 := Lib.hid (HX0.out.later hb)
  have HY1 := Lib.hid (below_block HY0.out hb)
  have HD1 := Lib.hid (HD0.out.later hb)
  have HB1 := Lib.hid (HB0.out.trans (hb.mono HB0.out.size))
  clear hb HX0 HY0 HD0 HB0
  go_wp2_with fail
  go_loopw [11] (fun i_ wr => ∃ k : Nat, i_ = .int .i64 k ∧ k ≤ 2 ∧ (1 ≤ k → d.f0.safe.length ≤ 3000 ∧ d.f0.tail.length ≤ 3000) ∧ (2 ≤ k → d.f1.safe.length ≤ 3000 ∧ d.f1.tail.length ≤ 3000) ∧ wr = w1) (fun i_ _ => 2 - (intOf i_).toNat)
  case atStart => exact ⟨0, rfl, Nat.zero_le _, fun h => absurd h (by omega), fun h => absurd h (by omega), rfl⟩
  case round =>
    obtain ⟨k, rfl, hk, hf0, hf1, rfl⟩ := hrel
    have h3 : k = 0 ∨ k = 1 ∨ k = 2 := by omega
    rcases h3 with rfl | rfl | rfl
    · have x1 : wr.cell? ⟨p, 0, none⟩ = some (.slice h.s0.1 d.f0.safe.length h.s0.2) := cell_at HX1.out rfl
      have x2 : wr.cell? ⟨p, 1, none⟩ = some (.slice h.t0.1 d.f0.tail.length h.t0.2) := cell_at HX1.out rfl
      by_cases q1 : 3000 < d.f0.safe.length
      · go_wp2_with fail
        go_ret
        exact ⟨rfl, HB1.out⟩
      · by_cases q2 : 3000 < d.f0.tail.length
        · go_wp2_with fail
          go_ret
          exact ⟨rfl, HB1.out⟩
        · go_wp2_with fail
          go_roundw
          case rel => exact ⟨0 + 1, rfl, by omega, fun _ => ⟨by omega, by omega⟩, fun h => absurd h (by omega), trivial⟩
          case measure => simp [intOf]
    · have x1 : wr.cell? ⟨p, 2, none⟩ = some (.slice h.s1.1 d.f1.safe.length h.s1.2) := cell_at HX1.out rfl
      have x2 : wr.cell? ⟨p, 3, none⟩ = some (.slice h.t1.1 d.f1.tail.length h.t1.2) := cell_at HX1.out rfl
      by_cases q1 : 3000 < d.f1.safe.length
      · go_wp2_with fail
        go_ret
        exact ⟨rfl, HB1.out⟩
      · by_cases q2 : 3000 < d.f1.tail.length
        · go_wp2_with fail
          go_ret
          exact ⟨rfl, HB1.out⟩
        · go_wp2_with fail
          go_roundw
          case rel => exact ⟨1 + 1, rfl, by omega, fun _ => hf0 (by omega), fun _ => ⟨by omega, by omega⟩, trivial⟩
          case measure => simp [intOf]
    · have HZ : Hid (d.f0.all.length ≤ 6000 ∧ d.f1.all.length ≤ 6000) := Lib.hid (by
        have h1 := hf0 (by omega)
        have h2 := hf1 (by omega)
        unfold Fi.all
        simp only [List.length_append]
        omega)
      clear hf0 hf1
      by_cases h4 : 3000 < bl
      · go_wp2_with fail
        go_ret
        exact ⟨rfl, HB1.out⟩
      obtain ⟨f, hfm⟩ : ∃ q, fl % 2 = q := ⟨_, rfl⟩
      have HF : Hid (f = 0 ∨ f = 1) := Lib.hid (by omega)
      have HSMR : Hid (rightK d = true) := Lib.hid ((right_iff d).2 ⟨Nat.le_trans HZ.out.1 (by decide), Nat.le_trans HZ.out.2 (by decide)⟩)
      have HF1 : Hid ((d.get f).all.length ≤ 6000 ∧ (d.get (1 - f)).all.length ≤ 6000) := Lib.hid (by
        rcases HF.out with e | e <;> subst e
        · exact HZ.out
        · exact ⟨HZ.out.2, HZ.out.1⟩)
      have HRD := Lib.hid (cut_read HF.out HF1.out.1 HF1.out.2)
      obtain ⟨ws, hws⟩ : ∃ x, (d.get f).all = x := ⟨_, rfl⟩
      obtain ⟨ot, hot⟩ : ∃ x, (d.get (1 - f)).all = x := ⟨_, rfl⟩
      have hw1 : IntKind.i64.wrap (1 - f) = 1 - f := (IntWalk.i64_left _).trans (IntWalk.wrap64_in _ ⟨by have := HF.out; omega, by have := HF.out; omega⟩)
      go_upto_region 11 with fail
      try rw [hfm]
      obtain ⟨q, hq⟩ : ∃ x, ws.length = x := ⟨_, rfl⟩
      obtain ⟨r, hr⟩ : ∃ x, ot.length = x := ⟨_, rfl⟩
      have HQ := Lib.hid hq
      have HR := Lib.hid hr
      have HWS := Lib.hid hws
      have HOT := Lib.hid hot
      have HQ9 : Hid (q ≤ 6000 ∧ r ≤ 6000) := Lib.hid (by rw [← hq, ← hr, ← hws, ← hot]; exact HF1.out)
      clear hq hr hws hot
      have HCB : Hid (∀ W : World, DkBox W p d h → CellsOk W p 0 4 ∧ cellsAt W p 0 4 = DA) := Lib.hid fun W hb => by
        have h1 := CellsOk.of hb.range
        rw [HDA.out] at h1
        rwa [hds] at h1
      have HX2 : Hid (DkBox wr.drew p d h) := Lib.hid HX1.out
      have HY2 : Hid (wr.drew.heap[p + 1]? = some (.cells #[.int .i64 k0, .int .i64 k1] 37 (0, 0))) := Lib.hid HY1.out
      have HD2 : Hid (DkAt wr.drew d h) := Lib.hid (HD1.out.later ⟨rfl, rfl, rfl, Nat.le_refl _, fun _ _ => rfl⟩)
      have HB2 : Hid (Below w.heap.size w wr.drew) := Lib.hid (HB1.out.trans ⟨rfl, rfl, rfl, Nat.le_refl _, fun _ _ => rfl⟩)
      refine wp_region_held_drew (S := (fun w' => CellsOk w' p 0 4 ∧ cellsAt w' p 0 4 = DA)) (by kernel_rfl) ?hs0 (fun hHeld => ?_)
      case hs0 => exact HCB.out _ HX2.out
      generalize wr.drew = w2 at HX2 HY2 HD2 HB2 hHeld ⊢
      refine' wpAnyH_take (i := 0) (oi := _) (v := _) rfl (by kernel_rfl) (by kernel_rfl) (by kernel_rfl) (fun _ _ _ h => h) (Or.inl ⟨by rfl, ?hy⟩) (by assumption) ?_
      case hy => (intro w hSw; (try dsimp only at hSw); (try simp only [List.getElem_toArray, List.getElem_cons_zero]); go_simp; try with_reducible rfl)
      try simp only [List.getElem_toArray, List.getElem_cons_zero, Act.put, List.setIfInBounds_toArray, List.set_cons_zero, List.set_cons_succ]
      refine' wpAnyH_take (i := 1) (oi := _) (v := _) rfl (by kernel_rfl) (by kernel_rfl) (by kernel_rfl) (fun _ _ _ h => h) (Or.inl ⟨by rfl, ?hy⟩) (by assumption) ?_
      case hy => (intro w hSw; (try dsimp only at hSw); (try simp only [List.getElem_toArray, List.getElem_cons_zero, List.getElem_cons_succ]); go_simp; try with_reducible rfl)
      try simp only [List.getElem_toArray, List.getElem_cons_zero, List.getElem_cons_succ, Act.put, List.setIfInBounds_toArray, List.set_cons_zero, List.set_cons_succ]
      refine' wpAnyH_take (i := 3) (oi := _) (v := _) rfl (by kernel_rfl) (by kernel_rfl) (by kernel_rfl) (fun _ _ _ h => h) (Or.inl ⟨by rfl, ?hy⟩) (by assumption) ?_
      case hy => (intro w hSw; (try dsimp only at hSw); (try simp only [List.getElem_toArray, List.getElem_cons_zero, List.getElem_cons_succ]); go_simp; try with_reducible rfl)
      try simp only [List.getElem_toArray, List.getElem_cons_zero, List.getElem_cons_succ, Act.put, List.setIfInBounds_toArray, List.set_cons_zero, List.set_cons_succ]
      refine' wpAnyH_take (i := 4) (oi := _) (v := _) rfl (by kernel_rfl) (by kernel_rfl) (by kernel_rfl) (fun _ _ _ h => h) (Or.inl ⟨by rfl, ?hy⟩) (by assumption) ?_
      case hy => (intro w hSw; (try dsimp only at hSw); (try simp only [List.getElem_toArray, List.getElem_cons_zero, List.getElem_cons_succ]); go_simp; try with_reducible rfl)
      try simp only [List.getElem_toArray, List.getElem_cons_zero, List.getElem_cons_succ, Act.put, List.setIfInBounds_toArray, List.set_cons_zero, List.set_cons_succ]
      refine' wpAnyH_take (i := 5) (oi := _) (v := _) rfl (by kernel_rfl) (by kernel_rfl) (by kernel_rfl) (fun _ _ _ h => h) (Or.inl ⟨by rfl, ?hy⟩) (by assumption) ?_
      case hy => (intro w hSw; (try dsimp only at hSw); (try simp only [List.getElem_toArray, List.getElem_cons_zero, List.getElem_cons_succ]); go_simp; try with_reducible rfl)
      try simp only [List.getElem_toArray, List.getElem_cons_zero, List.getElem_cons_succ, Act.put, List.setIfInBounds_toArray, List.set_cons_zero, List.set_cons_succ]
      refine wpAnyH_ready (rs := [2]) (by kernel_rfl) (by simp) ?_
      refine AllReadyH.cons (o := _) rfl (fun K hK => ?_) AllReadyH.nil
      try simp only [List.getElem_toArray, List.getElem_cons_zero, List.getElem_cons_succ, Act.put, List.setIfInBounds_toArray, List.set_cons_zero, List.set_cons_succ]
      try rw [if_pos (by rfl)]
      go_simp
      refine (read_is d h DA HDA.out f _ HD2.out (HL.out.below HB2.out) ws (by rw [HRD.out.1, HWS.out]) q HQ.out).mono ?_
      rintro e w3 ⟨wa, wc, rfl, hby, hb⟩
      have HX3 := Lib.hid (HX2.out.later hb)
      have HY3 := Lib.hid (below_block HY2.out hb)
      have HD3 := Lib.hid (HD2.out.later hb)
      have HB3 := Lib.hid (HB2.out.trans (hb.mono HB2.out.size))
      
      have HW3 := Lib.hid hby
      clear hb hby HX2 HY2 HD2 HB2
      go_wp2_with fail
      refine hK.out _ _ ?hs4 (fun hHeld => ?_)
      case hs4 => exact HCB.out _ HX3.out
      clear hK K
      try simp only [List.getElem_toArray, List.getElem_cons_zero, List.getElem_cons_succ, Act.put, List.setIfInBounds_toArray, List.set_cons_zero, List.set_cons_succ]
      refine wpAnyH_ready (rs := [6]) (by kernel_rfl) (by simp) ?_
      refine AllReadyH.cons (o := _) rfl (fun K hK => ?_) AllReadyH.nil
      try simp only [List.getElem_toArray, List.getElem_cons_zero, List.getElem_cons_succ, Act.put, List.setIfInBounds_toArray, List.set_cons_zero, List.set_cons_succ]
      try rw [if_pos (by rfl)]
      go_simp
      refine (read_is d h DA HDA.out (1 - f) _ HD3.out (HL.out.below HB3.out) ot (by rw [HRD.out.2, HOT.out]) r HR.out).mono ?_
      rintro e w4 ⟨oa, oc, rfl, hby, hb⟩
      have HX4 := Lib.hid (HX3.out.later hb)
      have HY4 := Lib.hid (below_block HY3.out hb)
      have HD4 := Lib.hid (HD3.out.later hb)
      have HB4 := Lib.hid (HB3.out.trans (hb.mono HB3.out.size))
      have HW4 := Lib.hid (HW3.out.later hb)
      have HO4 := Lib.hid hby
      clear hb hby HX3 HY3 HD3 HB3
      go_wp2_with fail
      refine hK.out _ _ ?hs4 (fun hHeld => ?_)
      case hs4 => exact HCB.out _ HX4.out
      clear hK K
      try simp only [List.getElem_toArray, List.getElem_cons_zero, List.getElem_cons_succ, Act.put, List.setIfInBounds_toArray, List.set_cons_zero, List.set_cons_succ]
      refine' wpAnyH_take (i := 7) (oi := _) (v := _) rfl (by kernel_rfl) (by kernel_rfl) (by kernel_rfl) (fun _ _ _ h => h) (Or.inl ⟨by rfl, ?hy⟩) (by assumption) ?_
      case hy => (intro w hSw; (try dsimp only at hSw); (try simp only [List.getElem_toArray, List.getElem_cons_zero, List.getElem_cons_succ]); go_simp; try with_reducible rfl)
      try simp only [List.getElem_toArray, List.getElem_cons_zero, List.getElem_cons_succ, Act.put, List.setIfInBounds_toArray, List.set_cons_zero, List.set_cons_succ]
      refine' wpAnyH_take (i := 8) (oi := _) (v := _) rfl (by kernel_rfl) (by kernel_rfl) (by kernel_rfl) (fun _ _ _ h => h) (Or.inl ⟨by rfl, ?hy⟩) (by assumption) ?_
      case hy => (intro w hSw; (try dsimp only at hSw); (try simp only [List.getElem_toArray, List.getElem_cons_zero, List.getElem_cons_succ]); go_simp; try with_reducible rfl)
      try simp only [List.getElem_toArray, List.getElem_cons_zero, List.getElem_cons_succ, Act.put, List.setIfInBounds_toArray, List.set_cons_zero, List.set_cons_succ]
      refine wpAnyH_done (by kernel_rfl) ?_ _
      clear hHeld
      by_cases hcu : q < nn
      · have HCU : Hid (cutK d f nn = (d, 1)) := Lib.hid (cut_over (by rw [HWS.out, HQ.out]; omega))
        go_wp2_with (refine wpList_load_arr_g (by rfl) 29 _ rfl p 0 rfl DA _ (by rw [← HDA.out]; exact HX4.out.range) Try.underlying29 rfl HDI.out ?_)
        refine (cut_is d h DA HDA.out f nn _ HD4.out (HL.out.below HB4.out) (d, 1) HCU.out).mono ?_
        rintro e w5 ⟨h', rfl, hd', hb, -⟩
        dsimp only at hd' ⊢
        have HD5 := Lib.hid hd'
        have HX5 := Lib.hid (HX4.out.later hb)
        have HE5 := Lib.hid (HD4.out.later hb)
        have HB5 := Lib.hid (HB4.out.trans (hb.mono HB4.out.size))
        clear hb hd' HX4 HD4 HB4 HY4
        go_upto_region 13 with (refine wpList_store_row rfl 29 _ _ rfl w5.heap.size (d.arr h') rfl rfl _ _ (heap_alloc_last _ _) (dk_info _ _) rfl (dk_one _ _) ?_; rw [World.setRow_alloc_new])
        obtain ⟨DB, hDB⟩ : ∃ X, d.arr h' = X := ⟨_, rfl⟩
        have HDB := Lib.hid hDB
        have hbl : Below w5.heap.size w5 (w5.alloc (.cells (d.arr h') 29)) := (Below.refl _ _).alloc (Nat.le_refl _) _
        obtain ⟨z, hz⟩ : ∃ z, w5.heap.size = z := ⟨_, rfl⟩
        have HZ6 : Hid (DkBox (w5.alloc (.cells (d.arr h') 29)) z d h') := Lib.hid (hz ▸ heap_alloc_new _ _)
        have HX6 := Lib.hid (HX5.out.later hbl)
        have HD6 := Lib.hid (HD5.out.later hbl)
        have HE6 := Lib.hid (HE5.out.later hbl)
        have HB6 := Lib.hid (HB5.out.trans (hbl.mono HB5.out.size))
        rw [hz]
        generalize w5.alloc (.cells (d.arr h') 29) = w6 at HZ6 HX6 HD6 HE6 HB6 ⊢
        clear hbl hz HX5 HD5 HE5 HB5
        rw [hDB]
        clear hDB
        have HDJ : Hid ((Try.prog.info? 29).map (·.size) = some DB.size) := Lib.hid (HDB.out ▸ dk_info d h')
        go_wp2_with (first | (refine wpList_load_arr_g (by rfl) 29 _ rfl z 0 rfl DB _ (by rw [← HDB.out]; exact HZ6.out.range) Try.underlying29 rfl HDJ.out ?_) | (refine wpList_load_arr_g (by rfl) 29 _ rfl p 0 rfl DA _ (by rw [← HDA.out]; exact HX6.out.range) Try.underlying29 rfl HDI.out ?_))
        refine (same_is d h' h DB DA HDB.out HDA.out _ HD6.out HE6.out).mono ?_
        rintro e w7 ⟨rfl, hb⟩
        have HB7 := Lib.hid (HB6.out.trans (hb.mono HB6.out.size))
        clear hb
        go_wp2_with fail
        go_ret
        exact ⟨rfl, HB7.out⟩
      · obtain ⟨c, x, hcut, hwri, hlost, hread, hoth⟩ := cut_in (b := b) k0 k1 HF.out HF1.out.1 HF1.out.2 (n := nn) (by rw [HBL.out]; omega) (by omega) (by rw [HWS.out, HQ.out]; omega)
        obtain ⟨yd, hyd⟩ : ∃ y, crashK c k0 k1 = y := ⟨_, rfl⟩
        rw [hyd] at hlost
        rw [HWS.out] at hlost hread
        rw [HOT.out] at hoth
        rw [Int.toNat_natCast] at hlost hread
        have HCU := Lib.hid hcut
        have HWR := Lib.hid hwri
        have HCR := Lib.hid hyd
        have HLO := Lib.hid hlost
        have HRE := Lib.hid hread
        have HOH := Lib.hid hoth
        have HSMc : Hid (rightK c = true) := Lib.hid (by have h1 := right_cut HSMR.out f nn; rw [hcut] at h1; exact h1)
        have HSMx : Hid (rightK x = true) := Lib.hid (by have h1 := right_write HSMc.out f b; rw [hwri] at h1; exact h1)
        have HSMy : Hid (rightK yd = true) := Lib.hid (by rw [← hyd]; exact right_crash HSMc.out k0 k1)
        clear hcut hwri hyd hlost hread hoth
        have hbl3 : bl ≤ 3000 := by omega
        go_wp2_with (refine wpList_load_arr_g (by rfl) 29 _ rfl p 0 rfl DA _ (by rw [← HDA.out]; exact HX4.out.range) Try.underlying29 rfl HDI.out ?_)
        refine (cut_is d h DA HDA.out f nn _ HD4.out (HL.out.below HB4.out) (c, 0) HCU.out).mono ?_
        rintro e w5 ⟨h', rfl, hd', hb, -⟩
        dsimp only at hd' ⊢
        have HD5 := Lib.hid hd'
        have HY5 := Lib.hid (below_block HY4.out hb)
        have HW5 := Lib.hid (HW4.out.later hb)
        have HO5 := Lib.hid (HO4.out.later hb)
        have HB5 := Lib.hid (HB4.out.trans (hb.mono HB4.out.size))
        clear hb hd' HX4 HD4 HB4 HY4 HW4 HO4 HDA HDI HCB hds
        go_upto_region 13 with (refine wpList_store_row rfl 29 _ _ rfl w5.heap.size (c.arr h') rfl rfl _ _ (heap_alloc_last _ _) (dk_info _ _) rfl (dk_one _ _) ?_; rw [World.setRow_alloc_new])
        obtain ⟨CA, hCA⟩ : ∃ X, c.arr h' = X := ⟨_, rfl⟩
        have HCA := Lib.hid hCA
        have HCI : Hid ((Try.prog.info? 29).map (·.size) = some CA.size) := Lib.hid (hCA ▸ dk_info c h')
        have hbl : Below w5.heap.size w5 (w5.alloc (.cells (c.arr h') 29)) := (Below.refl _ _).alloc (Nat.le_refl _) _
        obtain ⟨z1, hz1⟩ : ∃ z, w5.heap.size = z := ⟨_, rfl⟩
        have HZC6 : Hid (DkBox (w5.alloc (.cells (c.arr h') 29)) z1 c h') := Lib.hid (hz1 ▸ heap_alloc_new _ _)
        have HY6 := Lib.hid (below_block HY5.out hbl)
        have HW6 := Lib.hid (HW5.out.later hbl)
        have HO6 := Lib.hid (HO5.out.later hbl)
        have HD6 := Lib.hid (HD5.out.later hbl)
        have HB6 := Lib.hid (HB5.out.trans (hbl.mono HB5.out.size))
        rw [hz1]
        generalize w5.alloc (.cells (c.arr h') 29) = w6 at HZC6 HY6 HW6 HO6 HD6 HB6 ⊢
        clear hbl hz1 HY5 HW5 HO5 HD5 HB5
        try rw [hCA]
        clear hCA
        go_wp2_with (refine wpList_load_arr_g (by rfl) 29 _ rfl z1 0 rfl CA _ (by rw [← HCA.out]; exact HZC6.out.range) Try.underlying29 rfl HCI.out ?_)
        refine (write_is c h' CA HCA.out f b ba bl bc HBL.out (by omega) _ HD6.out (HBY.out.later HB6.out) (HL.out.below HB6.out) (x, 0) HWR.out).mono ?_
        rintro e w7 ⟨h2, rfl, hd', hb, -⟩
        dsimp only at hd' ⊢
        have HE7 := Lib.hid hd'
        have HD7 := Lib.hid (HD6.out.later hb)
        have HZC7 := Lib.hid (HZC6.out.later hb)
        have HY7 := Lib.hid (below_block HY6.out hb)
        have HW7 := Lib.hid (HW6.out.later hb)
        have HO7 := Lib.hid (HO6.out.later hb)
        have HB7 := Lib.hid (HB6.out.trans (hb.mono HB6.out.size))
        clear hb hd' HD6 HZC6 HY6 HW6 HO6 HB6
        go_upto_region 16 with (refine wpList_store_row rfl 29 _ _ rfl w7.heap.size (x.arr h2) rfl rfl _ _ (heap_alloc_last _ _) (dk_info _ _) rfl (dk_one _ _) ?_; rw [World.setRow_alloc_new])
        obtain ⟨XA, hXA⟩ : ∃ X, x.arr h2 = X := ⟨_, rfl⟩
        have HXA := Lib.hid hXA
        have HXI : Hid ((Try.prog.info? 29).map (·.size) = some XA.size) := Lib.hid (hXA ▸ dk_info x h2)
        have hbl : Below w7.heap.size w7 (w7.alloc (.cells (x.arr h2) 29)) := (Below.refl _ _).alloc (Nat.le_refl _) _
        obtain ⟨z2, hz2⟩ : ∃ z, w7.heap.size = z := ⟨_, rfl⟩
        have HZX8 : Hid (DkBox (w7.alloc (.cells (x.arr h2) 29)) z2 x h2) := Lib.hid (hz2 ▸ heap_alloc_new _ _)
        have HY8 := Lib.hid (below_block HY7.out hbl)
        have HW8 := Lib.hid (HW7.out.later hbl)
        have HO8 := Lib.hid (HO7.out.later hbl)
        have HD8 := Lib.hid (HD7.out.later hbl)
        have HE8 := Lib.hid (HE7.out.later hbl)
        have HZC8 := Lib.hid (HZC7.out.later hbl)
        have HB8 := Lib.hid (HB7.out.trans (hbl.mono HB7.out.size))
        rw [hz2]
        generalize w7.alloc (.cells (x.arr h2) 29) = w8 at HZX8 HY8 HW8 HO8 HD8 HE8 HZC8 HB8 ⊢
        clear hbl hz2 HY7 HW7 HO7 HD7 HE7 HZC7 HB7
        try rw [hXA]
        clear hXA
        have k0c : w8.cell? ⟨p + 1, 0, none⟩ = some (.int .i64 k0) := cell_at HY8.out rfl
        have k1c : w8.cell? ⟨p + 1, 1, none⟩ = some (.int .i64 k1) := cell_at HY8.out rfl
        go_wp2_with (refine wpList_load_arr_g (by rfl) 29 _ rfl z1 0 rfl CA _ (by rw [← HCA.out]; exact HZC8.out.range) Try.underlying29 rfl HCI.out ?_)
        refine (crash_is c h' CA HCA.out k0 k1 _ HD8.out (HL.out.below HB8.out) yd HCR.out).mono ?_
        rintro e w9 ⟨h3, rfl, hd', hb, -⟩
        have HF9 := Lib.hid hd'
        have HE9 := Lib.hid (HE8.out.later hb)
        have HZX9 := Lib.hid (HZX8.out.later hb)
        have HW9 := Lib.hid (HW8.out.later hb)
        have HO9 := Lib.hid (HO8.out.later hb)
        have HB9 := Lib.hid (HB8.out.trans (hb.mono HB8.out.size))
        clear hb hd' HD8 HZC8 HY8 HW8 HO8 HB8 HE8 HZX8 k0c k1c
        go_upto_region 17 with (refine wpList_store_row rfl 29 _ _ rfl w9.heap.size (yd.arr h3) rfl rfl _ _ (heap_alloc_last _ _) (dk_info _ _) rfl (dk_one _ _) ?_; rw [World.setRow_alloc_new])
        obtain ⟨YA, hYA⟩ : ∃ X, yd.arr h3 = X := ⟨_, rfl⟩
        have HYA := Lib.hid hYA
        have HYI : Hid ((Try.prog.info? 29).map (·.size) = some YA.size) := Lib.hid (hYA ▸ dk_info yd h3)
        have hbl : Below w9.heap.size w9 (w9.alloc (.cells (yd.arr h3) 29)) := (Below.refl _ _).alloc (Nat.le_refl _) _
        obtain ⟨z3, hz3⟩ : ∃ z, w9.heap.size = z := ⟨_, rfl⟩
        have HZY10 : Hid (DkBox (w9.alloc (.cells (yd.arr h3) 29)) z3 yd h3) := Lib.hid (hz3 ▸ heap_alloc_new _ _)
        have HW10 := Lib.hid (HW9.out.later hbl)
        have HO10 := Lib.hid (HO9.out.later hbl)
        have HE10 := Lib.hid (HE9.out.later hbl)
        have HF10 := Lib.hid (HF9.out.later hbl)
        have HZX10 := Lib.hid (HZX9.out.later hbl)
        have HB10 := Lib.hid (HB9.out.trans (hbl.mono HB9.out.size))
        rw [hz3]
        generalize w9.alloc (.cells (yd.arr h3) 29) = w10 at HZY10 HW10 HO10 HE10 HF10 HZX10 HB10 ⊢
        clear hbl hz3 HW9 HO9 HE9 HF9 HZX9 HB9
        try rw [hYA]
        clear hYA
        obtain ⟨T1, hT1⟩ : ∃ s : ByteArray, (⟨(ws.take nn).toArray⟩ : ByteArray) = s := ⟨_, rfl⟩
        obtain ⟨V, hV⟩ : ∃ s : ByteArray, (⟨b.toArray⟩ : ByteArray) = s := ⟨_, rfl⟩
        obtain ⟨U, hU⟩ : ∃ s : ByteArray, (⟨(ws.take nn ++ b).toArray⟩ : ByteArray) = s := ⟨_, rfl⟩
        obtain ⟨O, hO⟩ : ∃ s : ByteArray, (⟨ot.toArray⟩ : ByteArray) = s := ⟨_, rfl⟩
        obtain ⟨m, hm⟩ : ∃ m, (ws.take nn ++ b).length = m := ⟨_, rfl⟩
        have htl : (ws.take nn).length = nn := by rw [List.length_take, HQ.out]; omega
        have HUV : Hid (T1 ++ V = U) := Lib.hid (by
          rw [← hT1, ← hV, ← hU]
          apply ByteArray.ext
          rw [ByteArray.data_append]
          simp)
        have hTS : (9223372036854775807 < T1.size + V.size) = False := eq_false (by
          rw [← hT1, ← hV]
          show ¬ 9223372036854775807 < (ws.take nn).toArray.size + b.toArray.size
          rw [List.size_toArray, List.size_toArray, htl, HBL.out]
          omega)
        have hUV := HUV.out
        have HTL := Lib.hid htl
        have HT1 := Lib.hid hT1
        have HU := Lib.hid hU
        have HO1 := Lib.hid hO
        have HM := Lib.hid hm
        have HS : Hid (∀ W : World, Below w10.heap.size w10 W → (CellsOk W z3 0 4 ∧ cellsAt W z3 0 4 = YA) ∧ (CellsOk W z2 0 4 ∧ cellsAt W z2 0 4 = XA) ∧ (convert 24 9 (.slice wa nn wc)).run Try.prog W = .ok (.string T1) W ∧ (convert 24 9 (.slice ba bl bc)).run Try.prog W = .ok (.string V) W ∧ (convert 24 9 (.slice oa r oc)).run Try.prog W = .ok (.string O) W) := Lib.hid fun W hb => by
          have hy := CellsOk.of (HZY10.out.later hb).range
          have hx := CellsOk.of (HZX10.out.later hb).range
          rw [HYA.out, show YA.size = 4 by rw [← HYA.out]; rfl] at hy
          rw [HXA.out, show XA.size = 4 by rw [← HXA.out]; rfl] at hx
          exact ⟨hy, hx, string_is ((HW10.out.later hb).take nn) htl hT1, string_is ((HBY.out.later HB10.out).later hb) HBL.out hV, string_is (HO10.out.later hb) HR.out hO⟩
        clear hT1 hV hU hO hm htl
        have hcp : q ≤ wc := by
          have := HW10.out.cap
          rwa [HQ.out] at this
        have hnc : nn ≤ wc := by omega
        have hwn : IntKind.i64.wrap (nn : Int) = nn := (IntWalk.i64_left _).trans (IntWalk.wrap64_in _ ⟨by omega, by omega⟩)
        have HB11 : Hid (Below w10.heap.size w10 w10.drew) := Lib.hid ⟨rfl, rfl, rfl, Nat.le_refl _, fun _ _ => rfl⟩
        refine wp_region_held_drew (S := (fun w' => (CellsOk w' z3 0 4 ∧ cellsAt w' z3 0 4 = YA) ∧ (CellsOk w' z2 0 4 ∧ cellsAt w' z2 0 4 = XA) ∧ (convert 24 9 (.slice wa nn wc)).run Try.prog w' = .ok (.string T1) w' ∧ (convert 24 9 (.slice ba bl bc)).run Try.prog w' = .ok (.string V) w' ∧ (convert 24 9 (.slice oa r oc)).run Try.prog w' = .ok (.string O) w')) (by kernel_rfl) ?hs0 (fun hHeld => ?_)
        case hs0 => exact HS.out _ HB11.out
        generalize w10.drew = w11 at HB11 hHeld ⊢
        refine' wpAnyH_take (i := 0) (oi := _) (v := _) rfl (by kernel_rfl) (by kernel_rfl) (by kernel_rfl) (fun _ _ _ h => h) (Or.inl ⟨by rfl, ?hy⟩) (by assumption) ?_
        case hy => (intro w hSw; (try dsimp only at hSw); (try simp only [List.getElem_toArray, List.getElem_cons_zero]); go_simp; try with_reducible rfl)
        try simp only [List.getElem_toArray, List.getElem_cons_zero, Act.put, List.setIfInBounds_toArray, List.set_cons_zero, List.set_cons_succ]
        refine' wpAnyH_take (i := 1) (oi := _) (v := _) rfl (by kernel_rfl) (by kernel_rfl) (by kernel_rfl) (fun _ _ _ h => h) (Or.inl ⟨by rfl, ?hy⟩) (by assumption) ?_
        case hy => (intro w hSw; (try dsimp only at hSw); (try simp only [List.getElem_toArray, List.getElem_cons_zero, List.getElem_cons_succ]); go_simp; try with_reducible rfl)
        try simp only [List.getElem_toArray, List.getElem_cons_zero, List.getElem_cons_succ, Act.put, List.setIfInBounds_toArray, List.set_cons_zero, List.set_cons_succ]
        refine' wpAnyH_take (i := 2) (oi := _) (v := _) rfl (by kernel_rfl) (by kernel_rfl) (by kernel_rfl) (fun _ _ _ h => h) (Or.inl ⟨by rfl, ?hy⟩) (by assumption) ?_
        case hy => (intro w hSw; (try dsimp only at hSw); (try simp only [List.getElem_toArray, List.getElem_cons_zero, List.getElem_cons_succ]); go_simp; try with_reducible rfl)
        try simp only [List.getElem_toArray, List.getElem_cons_zero, List.getElem_cons_succ, Act.put, List.setIfInBounds_toArray, List.set_cons_zero, List.set_cons_succ]
        refine' wpAnyH_take (i := 3) (oi := _) (v := _) rfl (by kernel_rfl) (by kernel_rfl) (by kernel_rfl) (fun _ _ _ h => h) (Or.inl ⟨by rfl, ?hy⟩) (by assumption) ?_
        case hy => (intro w hSw; (try dsimp only at hSw); (try simp only [List.getElem_toArray, List.getElem_cons_zero, List.getElem_cons_succ]); go_simp; try with_reducible rfl)
        try simp only [List.getElem_toArray, List.getElem_cons_zero, List.getElem_cons_succ, Act.put, List.setIfInBounds_toArray, List.set_cons_zero, List.set_cons_succ]
        refine' wpAnyH_take (i := 4) (oi := _) (v := _) rfl (by kernel_rfl) (by kernel_rfl) (by kernel_rfl) (fun _ _ _ h => h) (Or.inl ⟨by rfl, ?hy⟩) (by assumption) ?_
        case hy => (intro w hSw; (try dsimp only at hSw); (try simp only [List.getElem_toArray, List.getElem_cons_zero, List.getElem_cons_succ]); go_simp; try with_reducible rfl)
        try simp only [List.getElem_toArray, List.getElem_cons_zero, List.getElem_cons_succ, Act.put, List.setIfInBounds_toArray, List.set_cons_zero, List.set_cons_succ]
        refine' wpAnyH_take (i := 5) (oi := _) (v := _) rfl (by kernel_rfl) (by kernel_rfl) (by kernel_rfl) (fun _ _ _ h => h) (Or.inl ⟨by rfl, ?hy⟩) (by assumption) ?_
        case hy => (intro w hSw; (try dsimp only at hSw); (try simp only [List.getElem_toArray, List.getElem_cons_zero, List.getElem_cons_succ]); go_simp; try with_reducible rfl)
        try simp only [List.getElem_toArray, List.getElem_cons_zero, List.getElem_cons_succ, Act.put, List.setIfInBounds_toArray, List.set_cons_zero, List.set_cons_succ]
        refine' wpAnyH_take (i := 6) (oi := _) (v := _) rfl (by kernel_rfl) (by kernel_rfl) (by kernel_rfl) (fun _ _ _ h => h) (Or.inl ⟨by rfl, ?hy⟩) (by assumption) ?_
        case hy => (intro w hSw; (try dsimp only at hSw); (try simp only [List.getElem_toArray, List.getElem_cons_zero, List.getElem_cons_succ]); go_simp; try with_reducible rfl)
        try simp only [List.getElem_toArray, List.getElem_cons_zero, List.getElem_cons_succ, Act.put, List.setIfInBounds_toArray, List.set_cons_zero, List.set_cons_succ]
        refine' wpAnyH_take (i := 7) (oi := _) (v := _) rfl (by kernel_rfl) (by kernel_rfl) (by kernel_rfl) (fun _ _ _ h => h) (Or.inl ⟨by rfl, ?hy⟩) (by assumption) ?_
        case hy => (intro w hSw; (try dsimp only at hSw); (try simp only [List.getElem_toArray, List.getElem_cons_zero, List.getElem_cons_succ]); go_simp; try with_reducible rfl)
        try simp only [List.getElem_toArray, List.getElem_cons_zero, List.getElem_cons_succ, Act.put, List.setIfInBounds_toArray, List.set_cons_zero, List.set_cons_succ]
        refine' wpAnyH_take (i := 8) (oi := _) (v := _) rfl (by kernel_rfl) (by kernel_rfl) (by kernel_rfl) (fun _ _ _ h => h) (Or.inl ⟨by rfl, ?hy⟩) (by assumption) ?_
        case hy => (intro w hSw; (try dsimp only at hSw); (try simp only [List.getElem_toArray, List.getElem_cons_zero, List.getElem_cons_succ]); go_simp; try with_reducible rfl)
        try simp only [List.getElem_toArray, List.getElem_cons_zero, List.getElem_cons_succ, Act.put, List.setIfInBounds_toArray, List.set_cons_zero, List.set_cons_succ]
        refine' wpAnyH_take (i := 11) (oi := _) (v := _) rfl (by kernel_rfl) (by kernel_rfl) (by kernel_rfl) (fun _ _ _ h => h) (Or.inl ⟨by rfl, ?hy⟩) (by assumption) ?_
        case hy => (intro w hSw; (try dsimp only at hSw); (try simp only [List.getElem_toArray, List.getElem_cons_zero, List.getElem_cons_succ]); go_simp; try with_reducible rfl)
        try simp only [List.getElem_toArray, List.getElem_cons_zero, List.getElem_cons_succ, Act.put, List.setIfInBounds_toArray, List.set_cons_zero, List.set_cons_succ]
        refine' wpAnyH_take (i := 12) (oi := _) (v := _) rfl (by kernel_rfl) (by kernel_rfl) (by kernel_rfl) (fun _ _ _ h => h) (Or.inl ⟨by rfl, ?hy⟩) (by assumption) ?_
        case hy => (intro w hSw; (try dsimp only at hSw); (try simp only [List.getElem_toArray, List.getElem_cons_zero, List.getElem_cons_succ]); go_simp; try with_reducible rfl)
        try simp only [List.getElem_toArray, List.getElem_cons_zero, List.getElem_cons_succ, Act.put, List.setIfInBounds_toArray, List.set_cons_zero, List.set_cons_succ]
        refine' wpAnyH_take (i := 13) (oi := _) (v := _) rfl (by kernel_rfl) (by kernel_rfl) (by kernel_rfl) (fun _ _ _ h => h) (Or.inl ⟨by rfl, ?hy⟩) (by assumption) ?_
        case hy => (intro w hSw; (try dsimp only at hSw); (try simp only [List.getElem_toArray, List.getElem_cons_zero, List.getElem_cons_succ]); go_simp; try with_reducible rfl)
        try simp only [List.getElem_toArray, List.getElem_cons_zero, List.getElem_cons_succ, Act.put, List.setIfInBounds_toArray, List.set_cons_zero, List.set_cons_succ]
        refine' wpAnyH_take (i := 14) (oi := _) (v := _) rfl (by kernel_rfl) (by kernel_rfl) (by kernel_rfl) (fun _ _ _ h => h) (Or.inl ⟨by rfl, ?hy⟩) (by assumption) ?_
        case hy => (intro w hSw; (try dsimp only at hSw); (try simp only [List.getElem_toArray, List.getElem_cons_zero, List.getElem_cons_succ]); go_simp; try with_reducible rfl)
        try simp only [List.getElem_toArray, List.getElem_cons_zero, List.getElem_cons_succ, Act.put, List.setIfInBounds_toArray, List.set_cons_zero, List.set_cons_succ]
        refine wpAnyH_ready (rs := [9]) (by kernel_rfl) (by simp) ?_
        refine AllReadyH.cons (o := _) rfl (fun K hK => ?_) AllReadyH.nil
        try simp only [List.getElem_toArray, List.getElem_cons_zero, List.getElem_cons_succ, Act.put, List.setIfInBounds_toArray, List.set_cons_zero, List.set_cons_succ]
        try rw [if_pos (by rfl)]
        go_simp
        refine (read_is yd h3 YA HYA.out f _ (HF10.out.later HB11.out) (HL.out.below (HB10.out.trans (HB11.out.mono HB10.out.size))) (ws.take nn) HLO.out nn HTL.out).mono ?_
        rintro e w12 ⟨r12, s12, rfl, hby, hb⟩
        have HB12 := Lib.hid (HB11.out.trans (hb.mono HB11.out.size))
        have cv := string_is hby HTL.out HT1.out
        clear hb hby
        go_wp2_with fail
        refine hK.out _ _ ?hs4 (fun hHeld => ?_)
        case hs4 => exact HS.out _ HB12.out
        clear hK K
        try simp only [List.getElem_toArray, List.getElem_cons_zero, List.getElem_cons_succ, Act.put, List.setIfInBounds_toArray, List.set_cons_zero, List.set_cons_succ]
        refine wpAnyH_ready (rs := [10]) (by kernel_rfl) (by simp) ?_
        refine AllReadyH.cons (o := _) rfl (fun K hK => ?_) AllReadyH.nil
        try rw [if_pos (by rfl)]
        go_simp
        clear cv
        refine hK.out _ _ ?hs4 (fun hHeld => ?_)
        case hs4 => exact HS.out _ HB12.out
        clear hK K
        try simp only [List.getElem_toArray, List.getElem_cons_zero, List.getElem_cons_succ, Act.put, List.setIfInBounds_toArray, List.set_cons_zero, List.set_cons_succ]
        refine' wpAnyH_take (i := 15) (oi := _) (v := _) rfl (by kernel_rfl) (by kernel_rfl) (by kernel_rfl) (fun _ _ _ h => h) (Or.inl ⟨by rfl, ?hy⟩) (by assumption) ?_
        case hy => (intro w hSw; (try dsimp only at hSw); (try simp only [List.getElem_toArray, List.getElem_cons_zero, List.getElem_cons_succ]); go_simp; try with_reducible rfl)
        try simp only [List.getElem_toArray, List.getElem_cons_zero, List.getElem_cons_succ, Act.put, List.setIfInBounds_toArray, List.set_cons_zero, List.set_cons_succ]
        refine' wpAnyH_take (i := 16) (oi := _) (v := _) rfl (by kernel_rfl) (by kernel_rfl) (by kernel_rfl) (fun _ _ _ h => h) (Or.inl ⟨by rfl, ?hy⟩) (by assumption) ?_
        case hy => (intro w hSw; (try dsimp only at hSw); (try simp only [List.getElem_toArray, List.getElem_cons_zero, List.getElem_cons_succ]); go_simp; try with_reducible rfl)
        try simp only [List.getElem_toArray, List.getElem_cons_zero, List.getElem_cons_succ, Act.put, List.setIfInBounds_toArray, List.set_cons_zero, List.set_cons_succ]
        refine' wpAnyH_take (i := 17) (oi := _) (v := _) rfl (by kernel_rfl) (by kernel_rfl) (by kernel_rfl) (fun _ _ _ h => h) (Or.inl ⟨by rfl, ?hy⟩) (by assumption) ?_
        case hy => (intro w hSw; (try dsimp only at hSw); (try simp only [List.getElem_toArray, List.getElem_cons_zero, List.getElem_cons_succ]); go_simp; try with_reducible rfl)
        try simp only [List.getElem_toArray, List.getElem_cons_zero, List.getElem_cons_succ, Act.put, List.setIfInBounds_toArray, List.set_cons_zero, List.set_cons_succ]
        refine' wpAnyH_take (i := 18) (oi := _) (v := _) rfl (by kernel_rfl) (by kernel_rfl) (by kernel_rfl) (fun _ _ _ h => h) (Or.inl ⟨by rfl, ?hy⟩) (by assumption) ?_
        case hy => (intro w hSw; (try dsimp only at hSw); (try simp only [List.getElem_toArray, List.getElem_cons_zero, List.getElem_cons_succ]); go_simp; try with_reducible rfl)
        try simp only [List.getElem_toArray, List.getElem_cons_zero, List.getElem_cons_succ, Act.put, List.setIfInBounds_toArray, List.set_cons_zero, List.set_cons_succ]
        refine' wpAnyH_take (i := 19) (oi := _) (v := _) rfl (by kernel_rfl) (by kernel_rfl) (by kernel_rfl) (fun _ _ _ h => h) (Or.inl ⟨by rfl, ?hy⟩) (by assumption) ?_
        case hy => (intro w hSw; (try dsimp only at hSw); (try simp only [List.getElem_toArray, List.getElem_cons_zero, List.getElem_cons_succ]); go_simp; try with_reducible rfl)
        try simp only [List.getElem_toArray, List.getElem_cons_zero, List.getElem_cons_succ, Act.put, List.setIfInBounds_toArray, List.set_cons_zero, List.set_cons_succ]
        refine' wpAnyH_take (i := 22) (oi := _) (v := _) rfl (by kernel_rfl) (by kernel_rfl) (by kernel_rfl) (fun _ _ _ h => h) (Or.inl ⟨by rfl, ?hy⟩) (by assumption) ?_
        case hy => (intro w hSw; (try dsimp only at hSw); (try simp only [List.getElem_toArray, List.getElem_cons_zero, List.getElem_cons_succ]); go_simp; try with_reducible rfl)
        try simp only [List.getElem_toArray, List.getElem_cons_zero, List.getElem_cons_succ, Act.put, List.setIfInBounds_toArray, List.set_cons_zero, List.set_cons_succ]
        refine' wpAnyH_take (i := 23) (oi := _) (v := _) rfl (by kernel_rfl) (by kernel_rfl) (by kernel_rfl) (fun _ _ _ h => h) (Or.inl ⟨by rfl, ?hy⟩) (by assumption) ?_
        case hy => (intro w hSw; (try dsimp only at hSw); (try simp only [List.getElem_toArray, List.getElem_cons_zero, List.getElem_cons_succ]); go_simp; try with_reducible rfl)
        try simp only [List.getElem_toArray, List.getElem_cons_zero, List.getElem_cons_succ, Act.put, List.setIfInBounds_toArray, List.set_cons_zero, List.set_cons_succ]
        refine' wpAnyH_take (i := 24) (oi := _) (v := _) rfl (by kernel_rfl) (by kernel_rfl) (by kernel_rfl) (fun _ _ _ h => h) (Or.inl ⟨by rfl, ?hy⟩) (by assumption) ?_
        case hy => (intro w hSw; (try dsimp only at hSw); (try simp only [List.getElem_toArray, List.getElem_cons_zero, List.getElem_cons_succ]); go_simp; try with_reducible rfl)
        try simp only [List.getElem_toArray, List.getElem_cons_zero, List.getElem_cons_succ, Act.put, List.setIfInBounds_toArray, List.set_cons_zero, List.set_cons_succ]
        refine' wpAnyH_take (i := 25) (oi := _) (v := _) rfl (by kernel_rfl) (by kernel_rfl) (by kernel_rfl) (fun _ _ _ h => h) (Or.inl ⟨by rfl, ?hy⟩) (by assumption) ?_
        case hy => (intro w hSw; (try dsimp only at hSw); (try simp only [List.getElem_toArray, List.getElem_cons_zero, List.getElem_cons_succ]); go_simp; try with_reducible rfl)
        try simp only [List.getElem_toArray, List.getElem_cons_zero, List.getElem_cons_succ, Act.put, List.setIfInBounds_toArray, List.set_cons_zero, List.set_cons_succ]
        refine' wpAnyH_take (i := 26) (oi := _) (v := _) rfl (by kernel_rfl) (by kernel_rfl) (by kernel_rfl) (fun _ _ _ h => h) (Or.inl ⟨by rfl, ?hy⟩) (by assumption) ?_
        case hy => (intro w hSw; (try dsimp only at hSw); (try simp only [List.getElem_toArray, List.getElem_cons_zero, List.getElem_cons_succ]); go_simp; try with_reducible rfl)
        try simp only [List.getElem_toArray, List.getElem_cons_zero, List.getElem_cons_succ, Act.put, List.setIfInBounds_toArray, List.set_cons_zero, List.set_cons_succ]
        refine' wpAnyH_take (i := 27) (oi := _) (v := _) rfl (by kernel_rfl) (by kernel_rfl) (by kernel_rfl) (fun _ _ _ h => h) (Or.inl ⟨by rfl, ?hy⟩) (by assumption) ?_
        case hy => (intro w hSw; (try dsimp only at hSw); (try simp only [List.getElem_toArray, List.getElem_cons_zero, List.getElem_cons_succ]); go_simp; try with_reducible rfl)
        try simp only [List.getElem_toArray, List.getElem_cons_zero, List.getElem_cons_succ, Act.put, List.setIfInBounds_toArray, List.set_cons_zero, List.set_cons_succ]
        refine' wpAnyH_take (i := 28) (oi := _) (v := _) rfl (by kernel_rfl) (by kernel_rfl) (by kernel_rfl) (fun _ _ _ h => h) (Or.inl ⟨by rfl, ?hy⟩) (by assumption) ?_
        case hy => (intro w hSw; (try dsimp only at hSw); (try simp only [List.getElem_toArray, List.getElem_cons_zero, List.getElem_cons_succ]); go_simp; try with_reducible rfl)
        try simp only [List.getElem_toArray, List.getElem_cons_zero, List.getElem_cons_succ, Act.put, List.setIfInBounds_toArray, List.set_cons_zero, List.set_cons_succ]
        refine wpAnyH_ready (rs := [20]) (by kernel_rfl) (by simp) ?_
        refine AllReadyH.cons (o := _) rfl (fun K hK => ?_) AllReadyH.nil
        try simp only [List.getElem_toArray, List.getElem_cons_zero, List.getElem_cons_succ, Act.put, List.setIfInBounds_toArray, List.set_cons_zero, List.set_cons_succ]
        try rw [if_pos (by rfl)]
        go_simp
        refine (read_is x h2 XA HXA.out f _ (HE10.out.later HB12.out) (HL.out.below (HB10.out.trans (HB12.out.mono HB10.out.size))) (ws.take nn ++ b) HRE.out m HM.out).mono ?_
        rintro e w13 ⟨r13, s13, rfl, hby, hb⟩
        have HB13 := Lib.hid (HB12.out.trans (hb.mono HB12.out.size))
        have cv := string_is hby HM.out HU.out
        clear hb hby
        go_wp2_with fail
        refine hK.out _ _ ?hs4 (fun hHeld => ?_)
        case hs4 => exact HS.out _ HB13.out
        clear hK K
        try simp only [List.getElem_toArray, List.getElem_cons_zero, List.getElem_cons_succ, Act.put, List.setIfInBounds_toArray, List.set_cons_zero, List.set_cons_succ]
        refine wpAnyH_ready (rs := [21]) (by kernel_rfl) (by simp) ?_
        refine AllReadyH.cons (o := _) rfl (fun K hK => ?_) AllReadyH.nil
        try rw [if_pos (by rfl)]
        go_simp
        clear cv
        refine hK.out _ _ ?hs4 (fun hHeld => ?_)
        case hs4 => exact HS.out _ HB13.out
        clear hK K
        try simp only [List.getElem_toArray, List.getElem_cons_zero, List.getElem_cons_succ, Act.put, List.setIfInBounds_toArray, List.set_cons_zero, List.set_cons_succ]
        refine' wpAnyH_take (i := 29) (oi := _) (v := _) rfl (by kernel_rfl) (by kernel_rfl) (by kernel_rfl) (fun _ _ _ h => h) (Or.inl ⟨by rfl, ?hy⟩) (by assumption) ?_
        case hy => (intro w hSw; (try dsimp only at hSw); (try simp only [List.getElem_toArray, List.getElem_cons_zero, List.getElem_cons_succ]); go_simp; try with_reducible rfl)
        try simp only [List.getElem_toArray, List.getElem_cons_zero, List.getElem_cons_succ, Act.put, List.setIfInBounds_toArray, List.set_cons_zero, List.set_cons_succ]
        refine' wpAnyH_take (i := 30) (oi := _) (v := _) rfl (by kernel_rfl) (by kernel_rfl) (by kernel_rfl) (fun _ _ _ h => h) (Or.inl ⟨by rfl, ?hy⟩) (by assumption) ?_
        case hy => (intro w hSw; (try dsimp only at hSw); (try simp only [List.getElem_toArray, List.getElem_cons_zero, List.getElem_cons_succ]); go_simp; try with_reducible rfl)
        try simp only [List.getElem_toArray, List.getElem_cons_zero, List.getElem_cons_succ, Act.put, List.setIfInBounds_toArray, List.set_cons_zero, List.set_cons_succ]
        refine' wpAnyH_take (i := 31) (oi := _) (v := _) rfl (by kernel_rfl) (by kernel_rfl) (by kernel_rfl) (fun _ _ _ h => h) (Or.inl ⟨by rfl, ?hy⟩) (by assumption) ?_
        case hy => (intro w hSw; (try dsimp only at hSw); (try simp only [List.getElem_toArray, List.getElem_cons_zero, List.getElem_cons_succ]); go_simp; try with_reducible rfl)
        try simp only [List.getElem_toArray, List.getElem_cons_zero, List.getElem_cons_succ, Act.put, List.setIfInBounds_toArray, List.set_cons_zero, List.set_cons_succ]
        refine' wpAnyH_take (i := 32) (oi := _) (v := _) rfl (by kernel_rfl) (by kernel_rfl) (by kernel_rfl) (fun _ _ _ h => h) (Or.inl ⟨by rfl, ?hy⟩) (by assumption) ?_
        case hy => (intro w hSw; (try dsimp only at hSw); (try simp only [List.getElem_toArray, List.getElem_cons_zero, List.getElem_cons_succ]); go_simp; try with_reducible rfl)
        try simp only [List.getElem_toArray, List.getElem_cons_zero, List.getElem_cons_succ, Act.put, List.setIfInBounds_toArray, List.set_cons_zero, List.set_cons_succ]
        refine' wpAnyH_take (i := 33) (oi := _) (v := _) rfl (by kernel_rfl) (by kernel_rfl) (by kernel_rfl) (fun _ _ _ h => h) (Or.inl ⟨by rfl, ?hy⟩) (by assumption) ?_
        case hy => (intro w hSw; (try dsimp only at hSw); (try simp only [List.getElem_toArray, List.getElem_cons_zero, List.getElem_cons_succ]); go_simp; try with_reducible rfl)
        try simp only [List.getElem_toArray, List.getElem_cons_zero, List.getElem_cons_succ, Act.put, List.setIfInBounds_toArray, List.set_cons_zero, List.set_cons_succ]
        refine' wpAnyH_take (i := 34) (oi := _) (v := _) rfl (by kernel_rfl) (by kernel_rfl) (by kernel_rfl) (fun _ _ _ h => h) (Or.inl ⟨by rfl, ?hy⟩) (by assumption) ?_
        case hy => (intro w hSw; (try dsimp only at hSw); (try simp only [List.getElem_toArray, List.getElem_cons_zero, List.getElem_cons_succ]); go_simp; try with_reducible rfl)
        try simp only [List.getElem_toArray, List.getElem_cons_zero, List.getElem_cons_succ, Act.put, List.setIfInBounds_toArray, List.set_cons_zero, List.set_cons_succ]
        refine' wpAnyH_take (i := 37) (oi := _) (v := _) rfl (by kernel_rfl) (by kernel_rfl) (by kernel_rfl) (fun _ _ _ h => h) (Or.inl ⟨by rfl, ?hy⟩) (by assumption) ?_
        case hy => (intro w hSw; (try dsimp only at hSw); (try simp only [List.getElem_toArray, List.getElem_cons_zero, List.getElem_cons_succ]); go_simp; try with_reducible rfl)
        try simp only [List.getElem_toArray, List.getElem_cons_zero, List.getElem_cons_succ, Act.put, List.setIfInBounds_toArray, List.set_cons_zero, List.set_cons_succ]
        refine' wpAnyH_take (i := 38) (oi := _) (v := _) rfl (by kernel_rfl) (by kernel_rfl) (by kernel_rfl) (fun _ _ _ h => h) (Or.inl ⟨by rfl, ?hy⟩) (by assumption) ?_
        case hy => (intro w hSw; (try dsimp only at hSw); (try simp only [List.getElem_toArray, List.getElem_cons_zero, List.getElem_cons_succ]); go_simp; try with_reducible rfl)
        try simp only [List.getElem_toArray, List.getElem_cons_zero, List.getElem_cons_succ, Act.put, List.setIfInBounds_toArray, List.set_cons_zero, List.set_cons_succ]
        refine wpAnyH_ready (rs := [35]) (by kernel_rfl) (by simp) ?_
        refine AllReadyH.cons (o := _) rfl (fun K hK => ?_) AllReadyH.nil
        try simp only [List.getElem_toArray, List.getElem_cons_zero, List.getElem_cons_succ, Act.put, List.setIfInBounds_toArray, List.set_cons_zero, List.set_cons_succ]
        try rw [if_pos (by rfl)]
        go_simp
        refine (read_is x h2 XA HXA.out (1 - f) _ (HE10.out.later HB13.out) (HL.out.below (HB10.out.trans (HB13.out.mono HB10.out.size))) ot HOH.out r HR.out).mono ?_
        rintro e w14 ⟨r14, s14, rfl, hby, hb⟩
        have HB14 := Lib.hid (HB13.out.trans (hb.mono HB13.out.size))
        have cv := string_is hby HR.out HO1.out
        clear hb hby
        go_wp2_with fail
        refine hK.out _ _ ?hs4 (fun hHeld => ?_)
        case hs4 => exact HS.out _ HB14.out
        clear hK K
        try simp only [List.getElem_toArray, List.getElem_cons_zero, List.getElem_cons_succ, Act.put, List.setIfInBounds_toArray, List.set_cons_zero, List.set_cons_succ]
        refine wpAnyH_ready (rs := [36]) (by kernel_rfl) (by simp) ?_
        refine AllReadyH.cons (o := _) rfl (fun K hK => ?_) AllReadyH.nil
        try rw [if_pos (by rfl)]
        go_simp
        clear cv
        refine hK.out _ _ ?hs4 (fun hHeld => ?_)
        case hs4 => exact HS.out _ HB14.out
        clear hK K
        try simp only [List.getElem_toArray, List.getElem_cons_zero, List.getElem_cons_succ, Act.put, List.setIfInBounds_toArray, List.set_cons_zero, List.set_cons_succ]
        refine' wpAnyH_take (i := 39) (oi := _) (v := _) rfl (by kernel_rfl) (by kernel_rfl) (by kernel_rfl) (fun _ _ _ h => h) (Or.inl ⟨by rfl, ?hy⟩) (by assumption) ?_
        case hy => (intro w hSw; (try dsimp only at hSw); (try simp only [List.getElem_toArray, List.getElem_cons_zero, List.getElem_cons_succ]); go_simp; try with_reducible rfl)
        try simp only [List.getElem_toArray, List.getElem_cons_zero, List.getElem_cons_succ, Act.put, List.setIfInBounds_toArray, List.set_cons_zero, List.set_cons_succ]
        refine' wpAnyH_take (i := 40) (oi := _) (v := _) rfl (by kernel_rfl) (by kernel_rfl) (by kernel_rfl) (fun _ _ _ h => h) (Or.inl ⟨by rfl, ?hy⟩) (by assumption) ?_
        case hy => (intro w hSw; (try dsimp only at hSw); (try simp only [List.getElem_toArray, List.getElem_cons_zero, List.getElem_cons_succ]); go_simp; try with_reducible rfl)
        try simp only [List.getElem_toArray, List.getElem_cons_zero, List.getElem_cons_succ, Act.put, List.setIfInBounds_toArray, List.set_cons_zero, List.set_cons_succ]
        refine' wpAnyH_take (i := 41) (oi := _) (v := _) rfl (by kernel_rfl) (by kernel_rfl) (by kernel_rfl) (fun _ _ _ h => h) (Or.inl ⟨by rfl, ?hy⟩) (by assumption) ?_
        case hy => (intro w hSw; (try dsimp only at hSw); (try simp only [List.getElem_toArray, List.getElem_cons_zero, List.getElem_cons_succ]); go_simp; try with_reducible rfl)
        try simp only [List.getElem_toArray, List.getElem_cons_zero, List.getElem_cons_succ, Act.put, List.setIfInBounds_toArray, List.set_cons_zero, List.set_cons_succ]
        refine wpAnyH_done (by kernel_rfl) ?_ _
        go_wp2_with fail
        go_ret
        exact ⟨rfl, HB10.out.trans (HB14.out.mono HB10.out.size)⟩

end Dsk
end Go.Proofs.Ytdiegglnfbmpdaa
