/-
  The walk of layer 9's DiskKeeps.
-/
import Derived.Test.YtdiegglnfbmpdaaDskL
import Derived.Test.YtdiegglnfbmpdaaPlDskK
import Derived.Test.YtdiegglnfbmpdaaStepDk
import Derived.Deep.RegionHeld3
namespace Go.Proofs.Ytdiegglnfbmpdaa
open Go.RowKit
namespace Dsk
attribute [local go_sem ↓] load_disk
attribute [local go_sem] blkOf_ptr offOf_ptr

/-- how it stands behind k things, in memory -/
structure KAt (w0 wx : World) (g : Nat) (n : Int) (k safe : Nat) (d : Dk) (h : Hs) (all : List UInt8) (v : Value) : Prop where
  inv : Inv n d all safe k
  own : Own 5 wx (g + 1) v all
  box : DkBox wx g d h
  dat : DkAt wx d h
  dj : DkIn (fun j => v.ownBlock ≠ some j) d h
  below : Below w0.heap.size w0 wx
  low : w0.heap.size ≤ g

theorem KAt.app {w0 w8 w9 : World} {g : Nat} {n : Int} {k safe : Nat} {d : Dk} {h : Hs} {all y : List UInt8} {u v : Value} (hi : Inv n d (all ++ y) safe k) (ho : Own 5 w8 (g + 1) u all) (hv : Own 5 w9 (g + 1) v (all ++ y)) (hx : DkBox w8 g d h) (hd : DkAt w8 d h) (hj : DkIn (fun j => u.ownBlock ≠ some j) d h)
    (hb : Below w0.heap.size w0 w8) (hl : w0.heap.size ≤ g) (hg : w8.grownBy w9 u.ownBlock) (hat : v.ownBlock = u.ownBlock ∨ v.ownBlock = some w8.heap.size) : KAt w0 w9 g n k safe d h (all ++ y) v := by
  refine ⟨hi, hv, ?_, hd.grown hg hj, ?_, ?_, hl⟩
  · exact (hg.block g hx.lt (fun e => by have := (own_lt ho g e.symm).1; omega)).trans hx
  · rcases hat with e | e
    · rw [e]; exact hj
    · rw [e]; exact hd.lt.mono fun j hj' e' => by have := Option.some.inj e'; omega
  · exact hb.grown hg hb.size fun j hj' => by have := (own_lt ho j hj').1; omega
theorem take_len {α : Type} (l : List α) (m : Nat) : l.take (l.take m).length = l.take m := by
  rw [List.length_take]
  rcases Nat.le_total m l.length with h | h
  · rw [Nat.min_eq_left h]
  · rw [Nat.min_eq_right h, List.take_length, List.take_of_length_le h]

set_option maxRecDepth 100000 in
set_option maxHeartbeats 16000000 in
theorem law_DiskKeeps (a : Option Addr) (len cap : Nat) (ds : List Dr) (fl : Int) (w : World) (hx : IsDos w a len cap ds) (hf : 0 ≤ fl ∧ fl ≤ 255) (hl : Laid w) :
    Calls Try.prog 3 #[.slice a len cap, .int .u8 fl] w fun e w' => e = .returned (.bool true) ∧ Below w.heap.size w w' := by
  have HX := Lib.hid hx
  have HL := Lib.hid hl
  have HF := Lib.hid hf
  clear hx hl
  go_enter Try.func3, Try.ntmps3
  go_wp2_with fail
  refine (awake_any w HL.out).mono ?_
  rintro e w1 ⟨rfl, hb1⟩
  have HB1 := Lib.hid hb1
  clear hb1
  obtain ⟨n, hn⟩ : ∃ n, fl % 2 = n := ⟨_, rfl⟩
  have HN : Hid (n = 0 ∨ n = 1) := Lib.hid (by omega)
  go_wp2_with fail
  have hbl : Below w1.heap.size w1 (w1.alloc (.cells (d00.arr Hs.no) 29)) := (Below.refl _ _).alloc (Nat.le_refl _) _
  have K0 : KAt w (w1.alloc (.cells (d00.arr Hs.no) 29)) w1.heap.size n 0 0 d00 Hs.no [] (.slice none 0 0) := ⟨inv_start HN.out, Own.nil _ _ _, heap_alloc_new _ _, d00_at _, ⟨fun h => absurd rfl h, fun h => absurd rfl h, fun h => absurd rfl h, fun h => absurd rfl h⟩, HB1.out.trans (hbl.mono HB1.out.size), HB1.out.size⟩
  obtain ⟨g, hg⟩ : ∃ g, w1.heap.size = g := ⟨_, rfl⟩
  have HK0 := Lib.hid K0
  change Code.wp _ _ _ _ (w1.alloc (.cells (d00.arr Hs.no) 29))
  rw [hg] at HK0 ⊢
  generalize w1.alloc (.cells (d00.arr Hs.no) 29) = w2 at HK0 ⊢
  clear hbl K0 hg HB1
  obtain ⟨i0, hi0, hz0, hz1, hz2⟩ := info_parts (show (Try.prog.info? 5).map (fun i => (i.zero, i.size, i.bytes)) = some (some (.int .u8 0), 1, 1) by kernel_rfl)
  have HI0 := Lib.hid hi0
  have HZ0 := Lib.hid hz0
  have HZ1 := Lib.hid hz1
  have HZ2 := Lib.hid hz2
  clear hi0 hz0 hz1 hz2
  rw [hn]
  go_loopw [7, 8, 9] (fun v_ s_ i_ wr => ∃ (k safe : Nat) (d : Dk) (h : Hs) (all : List UInt8), i_ = .int .i64 k ∧ s_ = .int .i64 safe ∧ k ≤ 60 ∧ KAt w wr g n k safe d h all v_) (fun _ _ i_ _ => 60 - (intOf i_).toNat)
  case atStart => exact ⟨0, 0, d00, Hs.no, [], rfl, rfl, Nat.zero_le _, HK0.out⟩
  case round =>
    obtain ⟨k, safe, d, h, all, rfl, rfl, hk, hK⟩ := hrel
    obtain ⟨va, vc, rfl, _⟩ := hK.own.bytes
    have HK := Lib.hid hK
    clear hK
    by_cases h2 : k < 60
    rotate_left
    · have e2 : decide ((k : Int) < 60) = false := decide_eq_false (by omega)
      by_cases h1 : k < len
      · go_wp2_with fail
        go_ret
        exact ⟨rfl, HK.out.below⟩
      · go_wp2_with fail
        go_ret
        exact ⟨rfl, HK.out.below⟩
    by_cases h1 : k < len
    rotate_left
    · go_wp2_with fail
      go_ret
      exact ⟨rfl, HK.out.below⟩
    obtain ⟨x, hxk⟩ : ∃ x, ds[k]? = some x := ⟨ds[k]'(by rw [HX.out.1]; exact h1), List.getElem?_eq_getElem _⟩
    have HO := Lib.hid (HX.out.2.2.2 x (List.mem_of_getElem? hxk))
    obtain ⟨y, hym, hyb⟩ := HO.out.bytes
    have HYB := Lib.hid hyb
    have HYM := Lib.hid hym
    obtain ⟨ib, off, rfl, _⟩ := HX.out.2.2.1.at (by rw [HX.out.1]; omega) (by decide)
    have hcap : len ≤ cap := by
      rcases HX.out.2.2.1 with ⟨h, _⟩ | ⟨_, _, h, _⟩
      · cases h
      · rwa [HX.out.1] at h
    have HXC := Lib.hid (dr_at HX.out.2.2.1 hxk)
    obtain ⟨kd, ⟨ya, m, yc⟩, ke⟩ := x
    dsimp only at hym hyb HXC HYM HYB
    have HKE : Hid (0 ≤ ke ∧ ke ≤ 255) := Lib.hid HO.out.keep
    have HSM : Hid d.small := Lib.hid (HK.out.inv.small (by omega))
    have HKD : Hid (0 ≤ kd ∧ kd ≤ 255) := Lib.hid HO.out.kind
    clear hym hyb hxk HO
    have HC : Hid (∀ W : World, Below w.heap.size w W → W.cell? ⟨ib, off + k * 3, none⟩ = some (.int .u8 kd) ∧ W.cell? ⟨ib, off + k * 3 + 1, none⟩ = some (.slice ya m yc) ∧ W.cell? ⟨ib, off + k * 3 + 2, none⟩ = some (.int .u8 ke)) := Lib.hid fun W hb =>
      ⟨(hb.cell (cell_lt HXC.out.1)).trans HXC.out.1, (hb.cell (cell_lt HXC.out.2.1)).trans HXC.out.2.1, (hb.cell (cell_lt HXC.out.2.2)).trans HXC.out.2.2⟩
    have ⟨c0, c1, c2⟩ := HC.out _ HK.out.below
    by_cases h3 : 100 < m
    · go_wp2_with fail
      go_ret
      exact ⟨rfl, HK.out.below⟩
    obtain ⟨km, hkm⟩ : ∃ q, kd % 3 = q := ⟨_, rfl⟩
    have HKM : Hid (km = 0 ∨ km = 1 ∨ km = 2) := Lib.hid (by omega)
    have kd0 := HKD.out.1
    have kd9 := HKD.out.2
    go_upto_block 2 with fail
    rw [hkm, show decide ((k : Int) < 60) = true from decide_eq_true (by omega)]
    clear hkm kd0 kd9
    obtain ⟨DA, hDA⟩ : ∃ X, d.arr h = X := ⟨_, rfl⟩
    have HDA := Lib.hid hDA
    have HDI : Hid ((Try.prog.info? 29).map (·.size) = some DA.size) := Lib.hid (hDA ▸ dk_info d h)
    have hds : DA.size = 4 := by rw [← hDA]; rfl
    clear hDA
    have HCB : Hid (∀ W : World, DkBox W g d h → CellsOk W g 0 4 ∧ cellsAt W g 0 4 = DA) := Lib.hid fun W hb => by
      have h1 := CellsOk.of hb.range
      rw [HDA.out] at h1
      rwa [hds] at h1
    go_cut [7, 8] (fun v_ s_ wx => ∃ (safe' : Nat) (d' : Dk) (h' : Hs) (all' : List UInt8), s_ = .int .i64 safe' ∧ KAt w wx g n (k + 1) safe' d' h' all' v_)
    case first =>
      have HBL := Lib.hid (HL.out.below HK.out.below)
      rcases HKM.out with e | e | e
      · subst e
        obtain ⟨d', hwr, hinv⟩ := inv_write HK.out.inv h2 (b := y) (by rw [HYM.out]; omega)
        have HWR := Lib.hid hwr
        have HIN := Lib.hid hinv
        clear hwr hinv
        go_upto_region 20 with fail
        go_cut [10, 11] (fun p_ e_ wx => ∃ (z : Nat) (h' : Hs), p_ = .pointer (some ⟨z, 0, none⟩) ∧ e_ = .int .i64 0 ∧ DkBox wx z d' h' ∧ DkAt wx d' h' ∧ DkIn (fun j => (Value.slice va all.length vc).ownBlock ≠ some j) d' h' ∧ Own 5 wx (g + 1) (Value.slice va all.length vc) all ∧ DkBox wx g d h ∧ Below w.heap.size w wx ∧ w.heap.size ≤ z)
        case first =>
          have HXD : Hid (DkBox wr.drew g d h) := Lib.hid HK.out.box
          have HBD : Hid (Below w.heap.size w wr.drew) := Lib.hid (HK.out.below.trans ⟨rfl, rfl, rfl, Nat.le_refl _, fun _ _ => rfl⟩)
          have HDD : Hid (DkAt wr.drew d h) := Lib.hid (HK.out.dat.later ⟨rfl, rfl, rfl, Nat.le_refl _, fun _ _ => rfl⟩)
          have HOD : Hid (Own 5 wr.drew (g + 1) (Value.slice va all.length vc) all) := Lib.hid (HK.out.own.kept ⟨rfl, rfl, rfl, Nat.le_refl _, fun _ _ => rfl⟩)
          have HS : Hid (∀ W : World, DkBox W g d h → Below w.heap.size w W → (CellsOk W g 0 4 ∧ cellsAt W g 0 4 = DA) ∧ W.cell? ⟨ib, off + k * 3 + 1, none⟩ = some (.slice ya m yc)) := Lib.hid fun W h1 h2 => ⟨HCB.out W h1, (HC.out W h2).2.1⟩
          refine wp_region_held_drew (S := (fun w' => (CellsOk w' g 0 4 ∧ cellsAt w' g 0 4 = DA) ∧ w'.cell? ⟨ib, off + k * 3 + 1, none⟩ = some (.slice ya m yc))) (by kernel_rfl) ?hs0 (fun hHeld => ?_)
          case hs0 => exact HS.out _ HXD.out HBD.out
          generalize wr.drew = wd at HXD HBD HDD HOD hHeld ⊢
          refine' wpAnyH_take (i := 0) (oi := _) (v := _) rfl (by kernel_rfl) (by kernel_rfl) (by kernel_rfl) (fun _ _ _ h => h) (Or.inl ⟨by rfl, ?hy⟩) (by assumption) ?_
          case hy => (intro w hSw; (try dsimp only at hSw); (try simp only [List.getElem_toArray, List.getElem_cons_zero]); go_simp; try with_reducible rfl)
          try simp only [List.getElem_toArray, List.getElem_cons_zero, Act.put, List.setIfInBounds_toArray, List.set_cons_zero, List.set_cons_succ]
          refine' wpAnyH_take (i := 1) (oi := _) (v := _) rfl (by kernel_rfl) (by kernel_rfl) (by kernel_rfl) (fun _ _ _ h => h) (Or.inl ⟨by rfl, ?hy⟩) (by assumption) ?_
          case hy => (intro w hSw; (try dsimp only at hSw); (try simp only [List.getElem_toArray, List.getElem_cons_zero, List.getElem_cons_succ]); go_simp; try with_reducible rfl)
          try simp only [List.getElem_toArray, List.getElem_cons_zero, List.getElem_cons_succ, Act.put, List.setIfInBounds_toArray, List.set_cons_zero, List.set_cons_succ]
          refine' wpAnyH_take (i := 2) (oi := _) (v := _) rfl (by kernel_rfl) (by kernel_rfl) (by kernel_rfl) (fun _ _ _ h => h) (Or.inl ⟨by rfl, ?hy⟩) (by assumption) ?_
          case hy => (intro w hSw; (try dsimp only at hSw); (try simp only [List.getElem_toArray, List.getElem_cons_zero, List.getElem_cons_succ]); go_simp; try with_reducible rfl)
          try simp only [List.getElem_toArray, List.getElem_cons_zero, List.getElem_cons_succ, Act.put, List.setIfInBounds_toArray, List.set_cons_zero, List.set_cons_succ]
          refine' wpAnyH_take (i := 3) (oi := _) (v := _) rfl (by kernel_rfl) (by kernel_rfl) (by kernel_rfl) (fun _ _ _ h => h) (Or.inl ⟨by rfl, ?hy⟩) (by assumption) ?_
          case hy => (intro w hSw; (try dsimp only at hSw); (try simp only [List.getElem_toArray, List.getElem_cons_zero, List.getElem_cons_succ]); go_simp; try with_reducible rfl)
          try simp only [List.getElem_toArray, List.getElem_cons_zero, List.getElem_cons_succ, Act.put, List.setIfInBounds_toArray, List.set_cons_zero, List.set_cons_succ]
          refine' wpAnyH_take (i := 4) (oi := _) (v := _) rfl (by kernel_rfl) (by kernel_rfl) (by kernel_rfl) (fun _ _ _ h => h) (Or.inl ⟨by rfl, ?hy⟩) (by assumption) ?_
          case hy => (intro w hSw; (try dsimp only at hSw); (try simp only [List.getElem_toArray, List.getElem_cons_zero, List.getElem_cons_succ]); go_simp; try with_reducible rfl)
          try simp only [List.getElem_toArray, List.getElem_cons_zero, List.getElem_cons_succ, Act.put, List.setIfInBounds_toArray, List.set_cons_zero, List.set_cons_succ]
          refine' wpAnyH_take (i := 5) (oi := _) (v := _) rfl (by kernel_rfl) (by kernel_rfl) (by kernel_rfl) (fun _ _ _ h => h) (Or.inl ⟨by rfl, ?hy⟩) (by assumption) ?_
          case hy => (intro w hSw; (try dsimp only at hSw); (try simp only [List.getElem_toArray, List.getElem_cons_zero, List.getElem_cons_succ]); go_simp; try with_reducible rfl)
          try simp only [List.getElem_toArray, List.getElem_cons_zero, List.getElem_cons_succ, Act.put, List.setIfInBounds_toArray, List.set_cons_zero, List.set_cons_succ]
          refine' wpAnyH_take (i := 6) (oi := _) (v := _) rfl (by kernel_rfl) (by kernel_rfl) (by kernel_rfl) (fun _ _ _ h => h) (Or.inl ⟨by rfl, ?hy⟩) (by assumption) ?_
          case hy => (intro w hSw; (try dsimp only at hSw); (try simp only [List.getElem_toArray, List.getElem_cons_zero, List.getElem_cons_succ]); go_simp; try with_reducible rfl)
          try simp only [List.getElem_toArray, List.getElem_cons_zero, List.getElem_cons_succ, Act.put, List.setIfInBounds_toArray, List.set_cons_zero, List.set_cons_succ]
          refine wpAnyH_ready (rs := [7, 11]) (by kernel_rfl) (by simp) ?_
          refine AllReadyH.cons (o := _) rfl (fun K hK => ?_) (AllReadyH.cons (o := _) rfl (fun K hK => ?_) AllReadyH.nil)
          · try simp only [List.getElem_toArray, List.getElem_cons_zero, List.getElem_cons_succ, Act.put, List.setIfInBounds_toArray, List.set_cons_zero, List.set_cons_succ]
            rw [if_pos (by rfl)]
            go_simp
            refine (write_is d h DA HDA.out n y ya m yc HYM.out (by omega) _ HDD.out (HYB.out.later HBD.out) (HL.out.below HBD.out) (d', 0) HWR.out).mono ?_
            rintro e w5 ⟨h', rfl, hd', hb', hp'⟩
            dsimp only at hd' hp' ⊢
            have HP5 : Hid (DkIn (fun j => (Value.slice va all.length vc).ownBlock ≠ some j) d' h') := Lib.hid (hp' _ (fun j hj e => by have := (own_lt HOD.out j e).2; omega) ⟨HK.out.dj, fun hl x hx e => by have h1 := blk_lt HYB.out hl x hx; have h2 := (own_lt HOD.out _ e).1; have h3 := HK.out.low; omega⟩)
            have HD5 := Lib.hid hd'
            have HB5 := Lib.hid (HBD.out.trans (hb'.mono HBD.out.size))
            have HX5 := Lib.hid (HXD.out.later hb')
            have HO5 := Lib.hid (HOD.out.kept hb')
            clear hd' hb' hp'
            go_wp2_with fail
            refine hK.out _ _ ?hs4 (fun hHeld => ?_)
            case hs4 => exact HS.out _ HX5.out HB5.out
            clear hK K
            try simp only [List.getElem_toArray, List.getElem_cons_zero, List.getElem_cons_succ, Act.put, List.setIfInBounds_toArray, List.set_cons_zero, List.set_cons_succ]
            refine' wpAnyH_take (i := 8) (oi := _) (v := _) rfl (by kernel_rfl) (by kernel_rfl) (by kernel_rfl) (fun _ _ _ h => h) (Or.inl ⟨by rfl, ?hy⟩) (by assumption) ?_
            case hy => (intro w hSw; (try dsimp only at hSw); (try simp only [List.getElem_toArray, List.getElem_cons_zero, List.getElem_cons_succ]); go_simp; try with_reducible rfl)
            try simp only [List.getElem_toArray, List.getElem_cons_zero, List.getElem_cons_succ, Act.put, List.setIfInBounds_toArray, List.set_cons_zero, List.set_cons_succ]
            refine' wpAnyH_take (i := 9) (oi := _) (v := _) rfl (by kernel_rfl) (by kernel_rfl) (by kernel_rfl) (fun _ _ _ h => h) (Or.inl ⟨by rfl, ?hy⟩) (by assumption) ?_
            case hy => (intro w hSw; (try dsimp only at hSw); (try simp only [List.getElem_toArray, List.getElem_cons_zero, List.getElem_cons_succ]); go_simp; try with_reducible rfl)
            try simp only [List.getElem_toArray, List.getElem_cons_zero, List.getElem_cons_succ, Act.put, List.setIfInBounds_toArray, List.set_cons_zero, List.set_cons_succ]
            refine' wpAnyH_take (i := 10) (oi := _) (v := _) rfl (by kernel_rfl) (by kernel_rfl) (by kernel_rfl) (fun _ _ _ h => h) (Or.inl ⟨by rfl, ?hy⟩) (by assumption) ?_
            case hy => (intro w hSw; (try dsimp only at hSw); (try simp only [List.getElem_toArray, List.getElem_cons_zero, List.getElem_cons_succ]); go_simp; try with_reducible rfl)
            try simp only [List.getElem_toArray, List.getElem_cons_zero, List.getElem_cons_succ, Act.put, List.setIfInBounds_toArray, List.set_cons_zero, List.set_cons_succ]
            refine wpAnyH_ready (rs := [11]) (by kernel_rfl) (by simp) ?_
            refine AllReadyH.cons (o := _) rfl (fun K hK => ?_) AllReadyH.nil
            rw [if_pos (by rfl)]
            go_simp
            have hbl : Below w5.heap.size w5 (w5.alloc (.cells (d00.arr Hs.no) 29)) := (Below.refl _ _).alloc (Nat.le_refl _) _
            have HZ6 : Hid (DkBox (w5.alloc (.cells (d00.arr Hs.no) 29)) w5.heap.size d00 Hs.no) := Lib.hid (heap_alloc_new _ _)
            have HX6 := Lib.hid (HX5.out.later hbl)
            have HD6 := Lib.hid (HD5.out.later hbl)
            have HO6 := Lib.hid (HO5.out.kept hbl)
            have HB6 := Lib.hid (HB5.out.trans (hbl.mono HB5.out.size))
            have HZL : Hid (w.heap.size ≤ w5.heap.size ∧ g < w5.heap.size) := Lib.hid ⟨HB5.out.size, HX5.out.lt⟩
            have HOZ : Hid (∀ j, (Value.slice va all.length vc).ownBlock = some j → j < w5.heap.size) := Lib.hid fun j hj => (own_lt HO5.out j hj).2
            refine hK.out _ _ ?hs5 (fun hHeld => ?_)
            case hs5 => exact HS.out _ HX6.out HB6.out
            clear hK K hbl
            obtain ⟨z, hz⟩ : ∃ z, w5.heap.size = z := ⟨_, rfl⟩
            rw [hz] at HZ6 HZL HOZ ⊢
            refine wpAnyH_ready (rs := [12]) (by kernel_rfl) (by simp) ?_
            refine AllReadyH.cons (o := _) rfl (fun K hK => ?_) AllReadyH.nil
            try simp only [List.getElem_toArray, List.getElem_cons_zero, List.getElem_cons_succ, Act.put]
            have HNE : Hid (g ≠ z) := Lib.hid (fun e => by have := HZL.out.2; omega)
            have HZ7 := Lib.hid (HZ6.out.put d' h')
            have HX7 := Lib.hid (HX6.out.other HNE.out (d'.arr h'))
            have HD7 := Lib.hid (HZ6.out.disk HD6.out (d'.arr h'))
            have HO7 := Lib.hid (own_of_row ((own_row HO6.out).grown (r := some z) (grown_row9 (w5.alloc (.cells (d00.arr Hs.no) 29)) z (d'.arr h')) (fun j hj e => by have h8 := HOZ.out j hj; have h9 := Option.some.inj e; omega)))
            have HB7 := Lib.hid (below_setRow HB6.out HZL.out.1 (d'.arr h'))
            refine step_store_dk rfl 29 (.tmp 10) (.tmp 105) rfl z (d'.arr h') rfl rfl _ _ HZ6.out (dk_info _ _) rfl (dk_one _ _) ?_
            refine hK.out _ _ ?hs6 (fun hHeld => ?_)
            case hs6 => exact HS.out _ HX7.out HB7.out
            clear hK K
            try simp only [Act.put]
            refine' wpAnyH_take (i := 13) (oi := _) (v := _) rfl (by kernel_rfl) (by kernel_rfl) (by kernel_rfl) (fun _ _ _ h => h) (Or.inl ⟨by rfl, ?hy⟩) (by assumption) ?_
            case hy => (intro w hSw; (try dsimp only at hSw); (try simp only [List.getElem_toArray, List.getElem_cons_zero, List.getElem_cons_succ]); go_simp; try with_reducible rfl)
            try simp only [List.getElem_toArray, List.getElem_cons_zero, List.getElem_cons_succ, Act.put, List.setIfInBounds_toArray, List.set_cons_zero, List.set_cons_succ]
            refine wpAnyH_done (by kernel_rfl) ?_ _
            go_wp2_with fail
            go_meet
            exact ⟨z, h', rfl, rfl, HZ7.out, HD7.out, HP5.out, HO7.out, HX7.out, HB7.out, HZL.out.1⟩
          · rw [if_pos (by rfl)]
            go_simp
            have hbl : Below wd.heap.size wd (wd.alloc (.cells (d00.arr Hs.no) 29)) := (Below.refl _ _).alloc (Nat.le_refl _) _
            have HZE : Hid (DkBox (wd.alloc (.cells (d00.arr Hs.no) 29)) wd.heap.size d00 Hs.no) := Lib.hid (heap_alloc_new _ _)
            have HXE := Lib.hid (HXD.out.later hbl)
            have HDE := Lib.hid (HDD.out.later hbl)
            have HOE := Lib.hid (HOD.out.kept hbl)
            have HBE := Lib.hid (HBD.out.trans (hbl.mono HBD.out.size))
            have HZL : Hid (w.heap.size ≤ wd.heap.size ∧ g < wd.heap.size) := Lib.hid ⟨HBD.out.size, HXD.out.lt⟩
            have HOZ : Hid (∀ j, (Value.slice va all.length vc).ownBlock = some j → j < wd.heap.size) := Lib.hid fun j hj => (own_lt HOD.out j hj).2
            refine hK.out _ _ ?hs5 (fun hHeld => ?_)
            case hs5 => exact HS.out _ HXE.out HBE.out
            clear hK K hbl
            obtain ⟨z, hz⟩ : ∃ z, wd.heap.size = z := ⟨_, rfl⟩
            rw [hz] at HZE HZL HOZ ⊢
            refine wpAnyH_ready (rs := [7]) (by kernel_rfl) (by simp) ?_
            refine AllReadyH.cons (o := _) rfl (fun K hK => ?_) AllReadyH.nil
            try simp only [List.getElem_toArray, List.getElem_cons_zero, List.getElem_cons_succ, Act.put, List.setIfInBounds_toArray, List.set_cons_zero, List.set_cons_succ]
            rw [if_pos (by rfl)]
            go_simp
            refine (write_is d h DA HDA.out n y ya m yc HYM.out (by omega) _ HDE.out (HYB.out.later HBE.out) (HL.out.below HBE.out) (d', 0) HWR.out).mono ?_
            rintro e w5 ⟨h', rfl, hd', hb', hp'⟩
            dsimp only at hd' hp' ⊢
            have HP5 : Hid (DkIn (fun j => (Value.slice va all.length vc).ownBlock ≠ some j) d' h') := Lib.hid (hp' _ (fun j hj e => by have := (own_lt HOE.out j e).2; omega) ⟨HK.out.dj, fun hl x hx e => by have h1 := blk_lt HYB.out hl x hx; have h2 := (own_lt HOE.out _ e).1; have h3 := HK.out.low; omega⟩)
            have HD5 := Lib.hid hd'
            have HB5 := Lib.hid (HBE.out.trans (hb'.mono HBE.out.size))
            have HX5 := Lib.hid (HXE.out.later hb')
            have HO5 := Lib.hid (HOE.out.kept hb')
            have HZ6 := Lib.hid (HZE.out.later hb')
            clear hd' hb' hp'
            go_wp2_with fail
            refine hK.out _ _ ?hs4 (fun hHeld => ?_)
            case hs4 => exact HS.out _ HX5.out HB5.out
            clear hK K
            try simp only [List.getElem_toArray, List.getElem_cons_zero, List.getElem_cons_succ, Act.put, List.setIfInBounds_toArray, List.set_cons_zero, List.set_cons_succ]
            refine' wpAnyH_take (i := 8) (oi := _) (v := _) rfl (by kernel_rfl) (by kernel_rfl) (by kernel_rfl) (fun _ _ _ h => h) (Or.inl ⟨by rfl, ?hy⟩) (by assumption) ?_
            case hy => (intro w hSw; (try dsimp only at hSw); (try simp only [List.getElem_toArray, List.getElem_cons_zero, List.getElem_cons_succ]); go_simp; try with_reducible rfl)
            try simp only [List.getElem_toArray, List.getElem_cons_zero, List.getElem_cons_succ, Act.put, List.setIfInBounds_toArray, List.set_cons_zero, List.set_cons_succ]
            refine' wpAnyH_take (i := 9) (oi := _) (v := _) rfl (by kernel_rfl) (by kernel_rfl) (by kernel_rfl) (fun _ _ _ h => h) (Or.inl ⟨by rfl, ?hy⟩) (by assumption) ?_
            case hy => (intro w hSw; (try dsimp only at hSw); (try simp only [List.getElem_toArray, List.getElem_cons_zero, List.getElem_cons_succ]); go_simp; try with_reducible rfl)
            try simp only [List.getElem_toArray, List.getElem_cons_zero, List.getElem_cons_succ, Act.put, List.setIfInBounds_toArray, List.set_cons_zero, List.set_cons_succ]
            refine' wpAnyH_take (i := 10) (oi := _) (v := _) rfl (by kernel_rfl) (by kernel_rfl) (by kernel_rfl) (fun _ _ _ h => h) (Or.inl ⟨by rfl, ?hy⟩) (by assumption) ?_
            case hy => (intro w hSw; (try dsimp only at hSw); (try simp only [List.getElem_toArray, List.getElem_cons_zero, List.getElem_cons_succ]); go_simp; try with_reducible rfl)
            try simp only [List.getElem_toArray, List.getElem_cons_zero, List.getElem_cons_succ, Act.put, List.setIfInBounds_toArray, List.set_cons_zero, List.set_cons_succ]
            have HX6 := HX5
            have HD6 := HD5
            have HO6 := HO5
            have HB6 := HB5
            refine wpAnyH_ready (rs := [12]) (by kernel_rfl) (by simp) ?_
            refine AllReadyH.cons (o := _) rfl (fun K hK => ?_) AllReadyH.nil
            try simp only [List.getElem_toArray, List.getElem_cons_zero, List.getElem_cons_succ, Act.put]
            have HNE : Hid (g ≠ z) := Lib.hid (fun e => by have := HZL.out.2; omega)
            have HZ7 := Lib.hid (HZ6.out.put d' h')
            have HX7 := Lib.hid (HX6.out.other HNE.out (d'.arr h'))
            have HD7 := Lib.hid (HZ6.out.disk HD6.out (d'.arr h'))
            have HO7 := Lib.hid (own_of_row ((own_row HO6.out).grown (r := some z) (grown_row9 w5 z (d'.arr h')) (fun j hj e => by have h8 := HOZ.out j hj; have h9 := Option.some.inj e; omega)))
            have HB7 := Lib.hid (below_setRow HB6.out HZL.out.1 (d'.arr h'))
            refine step_store_dk rfl 29 (.tmp 10) (.tmp 105) rfl z (d'.arr h') rfl rfl _ _ HZ6.out (dk_info _ _) rfl (dk_one _ _) ?_
            refine hK.out _ _ ?hs6 (fun hHeld => ?_)
            case hs6 => exact HS.out _ HX7.out HB7.out
            clear hK K
            try simp only [Act.put]
            refine' wpAnyH_take (i := 13) (oi := _) (v := _) rfl (by kernel_rfl) (by kernel_rfl) (by kernel_rfl) (fun _ _ _ h => h) (Or.inl ⟨by rfl, ?hy⟩) (by assumption) ?_
            case hy => (intro w hSw; (try dsimp only at hSw); (try simp only [List.getElem_toArray, List.getElem_cons_zero, List.getElem_cons_succ]); go_simp; try with_reducible rfl)
            try simp only [List.getElem_toArray, List.getElem_cons_zero, List.getElem_cons_succ, Act.put, List.setIfInBounds_toArray, List.set_cons_zero, List.set_cons_succ]
            refine wpAnyH_done (by kernel_rfl) ?_ _
            go_wp2_with fail
            go_meet
            exact ⟨z, h', rfl, rfl, HZ7.out, HD7.out, HP5.out, HO7.out, HX7.out, HB7.out, HZL.out.1⟩
        case rest =>
          obtain ⟨z, h', rfl, rfl, hz, hd', hp, ho, hx, hb, hzl⟩ := hcut
          have HZ := Lib.hid hz
          have HD := Lib.hid hd'
          have HP := Lib.hid hp
          have HO := Lib.hid ho
          have HX1 := Lib.hid hx
          have HB := Lib.hid hb
          clear hz hd' hp ho hx hb hzl
          go_upto_region 24 with (first | (refine wpList_load_arr_g (by rfl) 29 _ rfl z 0 rfl (d'.arr h') _ HZ.out.range Try.underlying29 rfl (dk_info _ _) ?_) | (refine wpList_store_row rfl 29 _ _ rfl g (d'.arr h') rfl rfl _ _ HX1.out (dk_info _ _) rfl (dk_one _ _) ?_))
          have HX8 := Lib.hid (HX1.out.put d' h')
          have HD8 := Lib.hid (HX1.out.disk HD.out (d'.arr h'))
          have HO8 := Lib.hid (own_of_row ((own_row HO.out).setRow (g := g) (d'.arr h') (Nat.lt_succ_self g)))
          have HB8 := Lib.hid (below_setRow HB.out HK.out.low (d'.arr h'))
          generalize wc.setRow g (d'.arr h') = w8 at HX8 HD8 HO8 HB8 ⊢
          clear HZ HD HO HX1 HB
          have c1' := (HC.out _ HB8.out).2.1
          have HAL := Lib.hid HK.out.inv.len
          go_wp2_with (at_builtin; refine wpList_append_by rfl (.tmp 110) (.tmp 115) 24 rfl (g + 1) 5 i0 _ Try.underlying24 HI0.out HZ0.out HZ1.out HZ2.out rfl _ all rfl HO8.out ya m yc y rfl HYM.out (HYB.out.later HB8.out) (by have := HAL.out; have := HYM.out; omega) (Nat.succ_le_of_lt HX8.out.lt) ?_; intro v2 w9 hown hgr hat; have HK9 := Lib.hid (KAt.app HIN.out HO8.out hown HX8.out HD8.out HP.out HB8.out HK.out.low hgr hat); clear hown hgr hat)
          go_meet
          exact ⟨safe, d', h', all ++ y, rfl, HK9.out⟩
      · subst e
        obtain ⟨d', hwr, hinv⟩ := inv_sync HK.out.inv h2
        have HWR := Lib.hid hwr
        have HIN := Lib.hid hinv
        clear hwr hinv
        go_wp2_with (refine wpList_load_arr_g (by rfl) 29 _ rfl g 0 rfl DA _ (by rw [← HDA.out]; exact HK.out.box.range) Try.underlying29 rfl HDI.out ?_)
        refine (sync_is d h DA HDA.out n _ HK.out.dat HBL.out (d', 0) HWR.out).mono ?_
        rintro e w5 ⟨h', rfl, hd', hb', hp'⟩
        dsimp only at hd' hp' ⊢
        have HP5 : Hid (DkIn (fun j => (Value.slice va all.length vc).ownBlock ≠ some j) d' h') := Lib.hid (hp' _ (fun j hj e => by have := (own_lt HK.out.own j e).2; omega) HK.out.dj)
        have HD5 := Lib.hid hd'
        have HB5 := Lib.hid (HK.out.below.trans (hb'.mono HK.out.below.size))
        have HX5 := Lib.hid (HK.out.box.later hb')
        have HO5 := Lib.hid (HK.out.own.kept hb')
        clear hd' hb' hp'
        go_upto_region 27 with (refine wpList_store_row rfl 29 _ _ rfl w5.heap.size (d'.arr h') rfl rfl _ _ (heap_alloc_last _ _) (dk_info _ _) rfl (dk_one _ _) ?_; rw [World.setRow_alloc_new])
        have hbl : Below w5.heap.size w5 (w5.alloc (.cells (d'.arr h') 29)) := (Below.refl _ _).alloc (Nat.le_refl _) _
        obtain ⟨z, hz⟩ : ∃ z, w5.heap.size = z := ⟨_, rfl⟩
        have HZ6 : Hid (DkBox (w5.alloc (.cells (d'.arr h') 29)) z d' h') := Lib.hid (hz ▸ heap_alloc_new _ _)
        have HX6 := Lib.hid (HX5.out.later hbl)
        have HD6 := Lib.hid (HD5.out.later hbl)
        have HO6 := Lib.hid (HO5.out.kept hbl)
        have HB6 := Lib.hid (HB5.out.trans (hbl.mono HB5.out.size))
        rw [hz]
        generalize w5.alloc (.cells (d'.arr h') 29) = w6 at HZ6 HX6 HD6 HO6 HB6 ⊢
        clear hbl hz HX5 HD5 HO5 HB5
        go_upto_region 30 with (first | (refine wpList_load_arr_g (by rfl) 29 _ rfl z 0 rfl (d'.arr h') _ HZ6.out.range Try.underlying29 rfl (dk_info _ _) ?_) | (refine wpList_store_row rfl 29 _ _ rfl g (d'.arr h') rfl rfl _ _ HX6.out (dk_info _ _) rfl (dk_one _ _) ?_))
        have HX8 := Lib.hid (HX6.out.put d' h')
        have HD8 := Lib.hid (HX6.out.disk HD6.out (d'.arr h'))
        have HO8 := Lib.hid (own_of_row ((own_row HO6.out).setRow (g := g) (d'.arr h') (Nat.lt_succ_self g)))
        have HB8 := Lib.hid (below_setRow HB6.out HK.out.low (d'.arr h'))
        generalize w6.setRow g (d'.arr h') = w8 at HX8 HD8 HO8 HB8 ⊢
        clear HZ6 HD6 HO6 HX6 HB6
        go_wp2_with fail
        go_meet
        exact ⟨all.length, d', h', all, rfl, HIN.out, HO8.out, HX8.out, HD8.out, HP5.out, HB8.out, HK.out.low⟩
      · subst e
        obtain ⟨kn, hkn⟩ : ∃ j : Nat, ke = (j : Int) := ⟨ke.toNat, by have := HKE.out.1; omega⟩
        subst hkn
        have k9 := HKE.out.2
        have hwr : IntKind.i64.wrap (kn : Int) = kn := (IntWalk.i64_left _).trans (IntWalk.wrap64_in _ ⟨by omega, by omega⟩)
        obtain ⟨d', hcr⟩ : ∃ x, crashK d kn kn = x := ⟨_, rfl⟩
        have HCR := Lib.hid hcr
        obtain ⟨al, hal⟩ : ∃ x, all.take (safe + kn) = x := ⟨_, rfl⟩
        have HAL := Lib.hid hal
        have HIN : Hid (Inv n d' al al.length (k + 1)) := Lib.hid (by rw [← hal, ← hcr]; exact inv_crash HK.out.inv h2 kn)
        have HSN : Hid d'.small := Lib.hid (HIN.out.small (by omega))
        have HLN : Hid (al.length = min all.length (safe + kn) ∧ safe ≤ al.length ∧ al.length ≤ all.length) := Lib.hid (by rw [← hal]; exact crash_len HK.out.inv.le kn)
        have HTK : Hid (all.take al.length = al) := Lib.hid (by rw [← hal]; exact take_len _ _)
        clear hcr hal
        go_upto_region 13 with fail
        have HXD : Hid (DkBox wr.drew g d h) := Lib.hid HK.out.box
        have HBD : Hid (Below w.heap.size w wr.drew) := Lib.hid (HK.out.below.trans ⟨rfl, rfl, rfl, Nat.le_refl _, fun _ _ => rfl⟩)
        have HDD : Hid (DkAt wr.drew d h) := Lib.hid (HK.out.dat.later ⟨rfl, rfl, rfl, Nat.le_refl _, fun _ _ => rfl⟩)
        have HOD : Hid (Own 5 wr.drew (g + 1) (Value.slice va all.length vc) all) := Lib.hid (HK.out.own.kept ⟨rfl, rfl, rfl, Nat.le_refl _, fun _ _ => rfl⟩)
        refine wp_region_held_drew (S := (fun w' => w'.cell? ⟨ib, off + k * 3 + 2, none⟩ = some (.int .u8 (kn : Int)))) (by kernel_rfl) ?hs0 (fun hHeld => ?_)
        case hs0 => exact (HC.out _ HBD.out).2.2
        generalize wr.drew = wd at HXD HBD HDD HOD hHeld ⊢
        refine' wpAnyH_take (i := 1) (oi := _) (v := _) rfl (by kernel_rfl) (by kernel_rfl) (by kernel_rfl) (fun _ _ _ h => h) (Or.inl ⟨by rfl, ?hy⟩) (by assumption) ?_
        case hy => (intro w hSw; (try dsimp only at hSw); (try simp only [List.getElem_toArray, List.getElem_cons_zero, List.getElem_cons_succ]); go_simp; try with_reducible rfl)
        try simp only [List.getElem_toArray, List.getElem_cons_zero, List.getElem_cons_succ, Act.put, List.setIfInBounds_toArray, List.set_cons_zero, List.set_cons_succ]
        refine' wpAnyH_take (i := 2) (oi := _) (v := _) rfl (by kernel_rfl) (by kernel_rfl) (by kernel_rfl) (fun _ _ _ h => h) (Or.inl ⟨by rfl, ?hy⟩) (by assumption) ?_
        case hy => (intro w hSw; (try dsimp only at hSw); (try simp only [List.getElem_toArray, List.getElem_cons_zero, List.getElem_cons_succ]); go_simp; try with_reducible rfl)
        try simp only [List.getElem_toArray, List.getElem_cons_zero, List.getElem_cons_succ, Act.put, List.setIfInBounds_toArray, List.set_cons_zero, List.set_cons_succ]
        refine' wpAnyH_take (i := 3) (oi := _) (v := _) rfl (by kernel_rfl) (by kernel_rfl) (by kernel_rfl) (fun _ _ _ h => h) (Or.inl ⟨by rfl, ?hy⟩) (by assumption) ?_
        case hy => (intro w hSw; (try dsimp only at hSw); (try simp only [List.getElem_toArray, List.getElem_cons_zero, List.getElem_cons_succ]); go_simp; try with_reducible rfl)
        try simp only [List.getElem_toArray, List.getElem_cons_zero, List.getElem_cons_succ, Act.put, List.setIfInBounds_toArray, List.set_cons_zero, List.set_cons_succ]
        refine' wpAnyH_take (i := 4) (oi := _) (v := _) rfl (by kernel_rfl) (by kernel_rfl) (by kernel_rfl) (fun _ _ _ h => h) (Or.inl ⟨by rfl, ?hy⟩) (by assumption) ?_
        case hy => (intro w hSw; (try dsimp only at hSw); (try simp only [List.getElem_toArray, List.getElem_cons_zero, List.getElem_cons_succ]); go_simp; try with_reducible rfl)
        try simp only [List.getElem_toArray, List.getElem_cons_zero, List.getElem_cons_succ, Act.put, List.setIfInBounds_toArray, List.set_cons_zero, List.set_cons_succ]
        refine' wpAnyH_take (i := 5) (oi := _) (v := _) rfl (by kernel_rfl) (by kernel_rfl) (by kernel_rfl) (fun _ _ _ h => h) (Or.inl ⟨by rfl, ?hy⟩) (by assumption) ?_
        case hy => (intro w hSw; (try dsimp only at hSw); (try simp only [List.getElem_toArray, List.getElem_cons_zero, List.getElem_cons_succ]); go_simp; try with_reducible rfl)
        try simp only [List.getElem_toArray, List.getElem_cons_zero, List.getElem_cons_succ, Act.put, List.setIfInBounds_toArray, List.set_cons_zero, List.set_cons_succ]
        refine' wpAnyH_take (i := 6) (oi := _) (v := _) rfl (by kernel_rfl) (by kernel_rfl) (by kernel_rfl) (fun _ _ _ h => h) (Or.inl ⟨by rfl, ?hy⟩) (by assumption) ?_
        case hy => (intro w hSw; (try dsimp only at hSw); (try simp only [List.getElem_toArray, List.getElem_cons_zero, List.getElem_cons_succ]); go_simp; try with_reducible rfl)
        try simp only [List.getElem_toArray, List.getElem_cons_zero, List.getElem_cons_succ, Act.put, List.setIfInBounds_toArray, List.set_cons_zero, List.set_cons_succ]
        refine' wpAnyH_take (i := 7) (oi := _) (v := _) rfl (by kernel_rfl) (by kernel_rfl) (by kernel_rfl) (fun _ _ _ h => h) (Or.inl ⟨by rfl, ?hy⟩) (by assumption) ?_
        case hy => (intro w hSw; (try dsimp only at hSw); (try simp only [List.getElem_toArray, List.getElem_cons_zero, List.getElem_cons_succ]); go_simp; try with_reducible rfl)
        try simp only [List.getElem_toArray, List.getElem_cons_zero, List.getElem_cons_succ, Act.put, List.setIfInBounds_toArray, List.set_cons_zero, List.set_cons_succ]
        refine' wpAnyH_take (i := 8) (oi := _) (v := _) rfl (by kernel_rfl) (by kernel_rfl) (by kernel_rfl) (fun _ _ _ h => h) (Or.inl ⟨by rfl, ?hy⟩) (by assumption) ?_
        case hy => (intro w hSw; (try dsimp only at hSw); (try simp only [List.getElem_toArray, List.getElem_cons_zero, List.getElem_cons_succ]); go_simp; try with_reducible rfl)
        try simp only [List.getElem_toArray, List.getElem_cons_zero, List.getElem_cons_succ, Act.put, List.setIfInBounds_toArray, List.set_cons_zero, List.set_cons_succ]
        refine' wpAnyH_take (i := 9) (oi := _) (v := _) rfl (by kernel_rfl) (by kernel_rfl) (by kernel_rfl) (fun _ _ _ h => h) (Or.inl ⟨by rfl, ?hy⟩) (by assumption) ?_
        case hy => (intro w hSw; (try dsimp only at hSw); (try simp only [List.getElem_toArray, List.getElem_cons_zero, List.getElem_cons_succ]); go_simp; try with_reducible rfl)
        try simp only [List.getElem_toArray, List.getElem_cons_zero, List.getElem_cons_succ, Act.put, List.setIfInBounds_toArray, List.set_cons_zero, List.set_cons_succ]
        refine' wpAnyH_take (i := 10) (oi := _) (v := _) rfl (by kernel_rfl) (by kernel_rfl) (by kernel_rfl) (fun _ _ _ h => h) (Or.inl ⟨by rfl, ?hy⟩) (by assumption) ?_
        case hy => (intro w hSw; (try dsimp only at hSw); (try simp only [List.getElem_toArray, List.getElem_cons_zero, List.getElem_cons_succ]); go_simp; try with_reducible rfl)
        try simp only [List.getElem_toArray, List.getElem_cons_zero, List.getElem_cons_succ, Act.put, List.setIfInBounds_toArray, List.set_cons_zero, List.set_cons_succ]
        refine' wpAnyH_take (i := 11) (oi := _) (v := _) rfl (by kernel_rfl) (by kernel_rfl) (by kernel_rfl) (fun _ _ _ h => h) (Or.inl ⟨by rfl, ?hy⟩) (by assumption) ?_
        case hy => (intro w hSw; (try dsimp only at hSw); (try simp only [List.getElem_toArray, List.getElem_cons_zero, List.getElem_cons_succ]); go_simp; try with_reducible rfl)
        try simp only [List.getElem_toArray, List.getElem_cons_zero, List.getElem_cons_succ, Act.put, List.setIfInBounds_toArray, List.set_cons_zero, List.set_cons_succ]
        refine' wpAnyH_take (i := 12) (oi := _) (v := _) rfl (by kernel_rfl) (by kernel_rfl) (by kernel_rfl) (fun _ _ _ h => h) (Or.inl ⟨by rfl, ?hy⟩) (by assumption) ?_
        case hy => (intro w hSw; (try dsimp only at hSw); (try simp only [List.getElem_toArray, List.getElem_cons_zero, List.getElem_cons_succ]); go_simp; try with_reducible rfl)
        try simp only [List.getElem_toArray, List.getElem_cons_zero, List.getElem_cons_succ, Act.put, List.setIfInBounds_toArray, List.set_cons_zero, List.set_cons_succ]
        refine' wpAnyH_take (i := 13) (oi := _) (v := _) rfl (by kernel_rfl) (by kernel_rfl) (by kernel_rfl) (fun _ _ _ h => h) (Or.inl ⟨by rfl, ?hy⟩) (by assumption) ?_
        case hy => (intro w hSw; (try dsimp only at hSw); (try simp only [List.getElem_toArray, List.getElem_cons_zero, List.getElem_cons_succ]); go_simp; try with_reducible rfl)
        try simp only [List.getElem_toArray, List.getElem_cons_zero, List.getElem_cons_succ, Act.put, List.setIfInBounds_toArray, List.set_cons_zero, List.set_cons_succ]
        refine wpAnyH_ready (rs := [0]) (by kernel_rfl) (by simp) ?_
        refine AllReadyH.cons (o := _) rfl (fun K hK => ?_) AllReadyH.nil
        try simp only [List.getElem_toArray, List.getElem_cons_zero]
        refine step_load_arr rfl 29 (.tmp 6) rfl g 0 rfl DA _ (by rw [← HDA.out]; exact HXD.out.range) Try.underlying29 rfl HDI.out ?_
        refine hK.out _ _ ?hs4 (fun hHeld => ?_)
        case hs4 => exact (HC.out _ HBD.out).2.2
        clear hK K
        try simp only [Act.put]
        refine wpAnyH_ready (rs := [14]) (by kernel_rfl) (by simp) ?_
        refine AllReadyH.cons (o := _) rfl (fun K hK => ?_) AllReadyH.nil
        try simp only [List.getElem_toArray, List.getElem_cons_zero, List.getElem_cons_succ, Act.put, List.setIfInBounds_toArray, List.set_cons_zero, List.set_cons_succ]
        rw [if_pos (by rfl)]
        go_simp
        refine (crash_is d h DA HDA.out kn kn _ HDD.out (HL.out.below HBD.out) d' HCR.out).mono ?_
        rintro e w5 ⟨h', rfl, hd', hb', hp'⟩
        have HP5 : Hid (DkIn (fun j => (Value.slice va all.length vc).ownBlock ≠ some j) d' h') := Lib.hid (hp' _ (fun j hj e => by have := (own_lt HOD.out j e).2; omega) HK.out.dj)
        have HD5 := Lib.hid hd'
        have HB5 := Lib.hid (HBD.out.trans (hb'.mono HBD.out.size))
        have HX5 := Lib.hid (HXD.out.later hb')
        have HO5 := Lib.hid (HOD.out.kept hb')
        clear hd' hb' hp'
        go_wp2_with fail
        refine hK.out _ _ ?hs4 (fun hHeld => ?_)
        case hs4 => exact (HC.out _ HB5.out).2.2
        clear hK K
        refine wpAnyH_ready (rs := [15]) (by kernel_rfl) (by simp) ?_
        refine AllReadyH.cons (o := _) rfl (fun K hK => ?_) AllReadyH.nil
        try simp only [List.getElem_toArray, List.getElem_cons_zero, List.getElem_cons_succ, Act.put]
        have HX6 := Lib.hid (HX5.out.put d' h')
        have HD6 := Lib.hid (HX5.out.disk HD5.out (d'.arr h'))
        have HO6 := Lib.hid (own_of_row ((own_row HO5.out).setRow (g := g) (d'.arr h') (Nat.lt_succ_self g)))
        have HB6 := Lib.hid (below_setRow HB5.out HK.out.low (d'.arr h'))
        refine step_store_dk rfl 29 (.tmp 6) (.tmp 57) rfl g (d'.arr h') rfl rfl _ _ HX5.out (dk_info _ _) rfl (dk_one _ _) ?_
        refine hK.out _ _ ?hs6 (fun hHeld => ?_)
        case hs6 => exact (HC.out _ HB6.out).2.2
        clear hK K
        refine wpAnyH_done (by kernel_rfl) ?_ _
        generalize w5.setRow g (d'.arr h') = w6 at HX6 HD6 HO6 HB6 hHeld ⊢
        clear HX5 HD5 HO5 HB5 hHeld
        go_wp2_with (refine wpList_load_arr_g (by rfl) 29 _ rfl g 0 rfl (d'.arr h') _ HX6.out.range Try.underlying29 rfl (dk_info _ _) ?_)
        obtain ⟨q, hq⟩ : ∃ q, al.length = q := ⟨_, rfl⟩
        have HQ := Lib.hid hq
        refine (read_is d' h' _ rfl n _ HD6.out (HL.out.below HB6.out) al (HIN.out.read (by omega)).1 q hq).mono ?_
        rintro e w7 ⟨ba, bc, rfl, hby, hb⟩
        have HX7 := Lib.hid (HX6.out.later hb)
        have HD7 := Lib.hid (HD6.out.later hb)
        have HO7 := Lib.hid (HO6.out.kept hb)
        have HB7 := Lib.hid (HB6.out.trans (hb.mono HB6.out.size))
        clear hb hby HX6 HD6 HO6 HB6
        have HLQ : Hid (q = min all.length (safe + kn) ∧ safe ≤ q ∧ q ≤ all.length) := Lib.hid (by rw [← hq]; exact HLN.out)
        clear hq
        have z1 : (q < safe) = False := eq_false (by have := HLQ.out; omega)
        have z2 : (all.length < q) = False := eq_false (by have := HLQ.out; omega)
        have z3 : (if (safe : Int) + kn < (all.length : Int) then (safe : Int) + kn else (all.length : Int)) = (q : Int) := by have := HLQ.out; split <;> omega
        have z4 : q ≤ vc := by have h1 := HLQ.out; have h2 := (HO7.out.bytes); obtain ⟨_, _, he, hby⟩ := h2; injection he with e1 _ e3; subst e1 e3; have := hby.cap; omega
        have c2' := (HC.out _ HB7.out).2.2
        have z5 : safe < 1000000 := by have := HK.out.inv.le; have := HK.out.inv.len; omega
        go_wp2_with fail
        go_meet
        exact ⟨q, d', h', al, rfl, by rw [← HQ.out]; exact HIN.out, by
          have h9 := own_takeN HO7.out HLQ.out.2.2
          rw [show all.take q = al by rw [← HQ.out]; exact HTK.out] at h9
          exact h9, HX7.out, HD7.out, HP5.out.mono (fun j hj => by cases va <;> exact hj), HB7.out, HK.out.low⟩
    case rest =>
      obtain ⟨sf, d', h', al, rfl, hK'⟩ := hcut
      obtain ⟨vb, bc, rfl, _⟩ := hK'.own.bytes
      have HL2 := Lib.hid hK'
      clear hK' HCB HDI hds HDA
      obtain ⟨DA, hDA⟩ : ∃ X, d'.arr h' = X := ⟨_, rfl⟩
      have HDA := Lib.hid hDA
      have hds : DA.size = 4 := by rw [← hDA]; rfl
      clear hDA
      have HCB : Hid (∀ W : World, DkBox W g d' h' → CellsOk W g 0 4 ∧ cellsAt W g 0 4 = DA) := Lib.hid fun W hb => by
        have h1 := CellsOk.of hb.range
        rw [HDA.out] at h1
        rwa [hds] at h1
      obtain ⟨S, hS⟩ : ∃ s : ByteArray, (⟨al.toArray⟩ : ByteArray) = s := ⟨_, rfl⟩
      obtain ⟨q, hq⟩ : ∃ q, al.length = q := ⟨_, rfl⟩
      have HQ := Lib.hid hq
      have HS := Lib.hid hS
      have HRD := Lib.hid (HL2.out.inv.read (by omega))
      have HSL : Hid d'.small := Lib.hid (HL2.out.inv.small (by omega))
      have HRI := Lib.hid (HL2.out.inv.right (by omega))
      have HOB : Hid (∀ W : World, Below wc.heap.size wc W → (convert 24 9 (.slice vb q bc)).run Try.prog W = .ok (.string S) W) := Lib.hid fun W hb => by
        have hby : BytesAt W vb bc al := by
          obtain ⟨_, _, he, hby⟩ := (Own.kept HL2.out.own hb).bytes
          injection he with e1 _ e3
          subst e1 e3
          exact hby
        rw [← hS]
        exact string_of (P := Try.prog) Try.underlying24 Try.underlying5 Try.underlying9 hby q hq
      rw [hq]
      clear hq hS
      have hw1 : IntKind.i64.wrap (1 - n) = 1 - n := (IntWalk.i64_left _).trans (IntWalk.wrap64_in _ ⟨by have := HN.out; omega, by have := HN.out; omega⟩)
      go_upto_region 31 with fail
      have HB0 : Hid (Below wc.heap.size wc wc.drew) := Lib.hid ⟨rfl, rfl, rfl, Nat.le_refl _, fun _ _ => rfl⟩
      have HX0 := Lib.hid (HL2.out.box.later HB0.out)
      have HD0 := Lib.hid (HL2.out.dat.later HB0.out)
      refine wp_region_held_drew (S := (fun w' => (CellsOk w' g 0 4 ∧ cellsAt w' g 0 4 = DA) ∧ (convert 24 9 (.slice vb q bc)).run Try.prog w' = .ok (.string S) w')) (by kernel_rfl) ?hs0 (fun hHeld => ?_)
      case hs0 => exact ⟨HCB.out _ HX0.out, HOB.out _ HB0.out⟩
      generalize wc.drew = wd at HX0 HD0 HB0 hHeld ⊢
      refine' wpAnyH_take (i := 0) (oi := _) (v := _) rfl (by kernel_rfl) (by kernel_rfl) (by kernel_rfl) (fun _ _ _ h => h) (Or.inl ⟨by rfl, ?hy⟩) (by assumption) ?_
      case hy => (intro w hSw; (try dsimp only at hSw); (try simp only [List.getElem_toArray, List.getElem_cons_zero]); go_simp; try with_reducible rfl)
      try simp only [List.getElem_toArray, List.getElem_cons_zero, Act.put, List.setIfInBounds_toArray, List.set_cons_zero, List.set_cons_succ]
      refine' wpAnyH_take (i := 1) (oi := _) (v := _) rfl (by kernel_rfl) (by kernel_rfl) (by kernel_rfl) (fun _ _ _ h => h) (Or.inl ⟨by rfl, ?hy⟩) (by assumption) ?_
      case hy => (intro w hSw; (try dsimp only at hSw); (try simp only [List.getElem_toArray, List.getElem_cons_zero, List.getElem_cons_succ]); go_simp; try with_reducible rfl)
      try simp only [List.getElem_toArray, List.getElem_cons_zero, List.getElem_cons_succ, Act.put, List.setIfInBounds_toArray, List.set_cons_zero, List.set_cons_succ]
      refine' wpAnyH_take (i := 4) (oi := _) (v := _) rfl (by kernel_rfl) (by kernel_rfl) (by kernel_rfl) (fun _ _ _ h => h) (Or.inl ⟨by rfl, ?hy⟩) (by assumption) ?_
      case hy => (intro w hSw; (try dsimp only at hSw); (try simp only [List.getElem_toArray, List.getElem_cons_zero, List.getElem_cons_succ]); go_simp; try with_reducible rfl)
      try simp only [List.getElem_toArray, List.getElem_cons_zero, List.getElem_cons_succ, Act.put, List.setIfInBounds_toArray, List.set_cons_zero, List.set_cons_succ]
      refine' wpAnyH_take (i := 5) (oi := _) (v := _) rfl (by kernel_rfl) (by kernel_rfl) (by kernel_rfl) (fun _ _ _ h => h) (Or.inl ⟨by rfl, ?hy⟩) (by assumption) ?_
      case hy => (intro w hSw; (try dsimp only at hSw); (try simp only [List.getElem_toArray, List.getElem_cons_zero, List.getElem_cons_succ]); go_simp; try with_reducible rfl)
      try simp only [List.getElem_toArray, List.getElem_cons_zero, List.getElem_cons_succ, Act.put, List.setIfInBounds_toArray, List.set_cons_zero, List.set_cons_succ]
      refine wpAnyH_ready (rs := [2]) (by kernel_rfl) (by simp) ?_
      refine AllReadyH.cons (o := _) rfl (fun K hK => ?_) AllReadyH.nil
      try simp only [List.getElem_toArray, List.getElem_cons_zero, List.getElem_cons_succ, Act.put, List.setIfInBounds_toArray, List.set_cons_zero, List.set_cons_succ]
      try rw [if_pos (by rfl)]
      go_simp
      refine (read_is d' h' DA HDA.out n _ HD0.out (HL.out.below (HL2.out.below.trans (HB0.out.mono HL2.out.below.size))) al HRD.out.1 q HQ.out).mono ?_
      rintro e w5 ⟨ra, rc, rfl, hby, hb⟩
      have HX5 := Lib.hid (HX0.out.later hb)
      have HD5 := Lib.hid (HD0.out.later hb)
      have HB5 := Lib.hid (HB0.out.trans (hb.mono HB0.out.size))
      have cv : (convert 24 9 (.slice ra q rc)).run Try.prog w5 = .ok (.string S) w5 := by rw [← HS.out]; exact string_of (P := Try.prog) Try.underlying24 Try.underlying5 Try.underlying9 hby q HQ.out
      clear hby
      clear hb
      go_wp2_with fail
      refine hK.out _ _ ?hs4 (fun hHeld => ?_)
      case hs4 => exact ⟨HCB.out _ HX5.out, HOB.out _ HB5.out⟩
      clear hK K
      try simp only [List.getElem_toArray, List.getElem_cons_zero, List.getElem_cons_succ, Act.put, List.setIfInBounds_toArray, List.set_cons_zero, List.set_cons_succ]
      refine wpAnyH_ready (rs := [3]) (by kernel_rfl) (by simp) ?_
      refine AllReadyH.cons (o := _) rfl (fun K hK => ?_) AllReadyH.nil
      rw [if_pos (by rfl)]
      go_simp
      clear cv
      refine hK.out _ _ ?hs4 (fun hHeld => ?_)
      case hs4 => exact ⟨HCB.out _ HX5.out, HOB.out _ HB5.out⟩
      clear hK K
      try simp only [List.getElem_toArray, List.getElem_cons_zero, List.getElem_cons_succ, Act.put, List.setIfInBounds_toArray, List.set_cons_zero, List.set_cons_succ]
      refine' wpAnyH_take (i := 6) (oi := _) (v := _) rfl (by kernel_rfl) (by kernel_rfl) (by kernel_rfl) (fun _ _ _ h => h) (Or.inl ⟨by rfl, ?hy⟩) (by assumption) ?_
      case hy => (intro w hSw; (try dsimp only at hSw); (try simp only [List.getElem_toArray, List.getElem_cons_zero, List.getElem_cons_succ]); go_simp; try with_reducible rfl)
      try simp only [List.getElem_toArray, List.getElem_cons_zero, List.getElem_cons_succ, Act.put, List.setIfInBounds_toArray, List.set_cons_zero, List.set_cons_succ]
      refine' wpAnyH_take (i := 7) (oi := _) (v := _) rfl (by kernel_rfl) (by kernel_rfl) (by kernel_rfl) (fun _ _ _ h => h) (Or.inl ⟨by rfl, ?hy⟩) (by assumption) ?_
      case hy => (intro w hSw; (try dsimp only at hSw); (try simp only [List.getElem_toArray, List.getElem_cons_zero, List.getElem_cons_succ]); go_simp; try with_reducible rfl)
      try simp only [List.getElem_toArray, List.getElem_cons_zero, List.getElem_cons_succ, Act.put, List.setIfInBounds_toArray, List.set_cons_zero, List.set_cons_succ]
      refine' wpAnyH_take (i := 8) (oi := _) (v := _) rfl (by kernel_rfl) (by kernel_rfl) (by kernel_rfl) (fun _ _ _ h => h) (Or.inl ⟨by rfl, ?hy⟩) (by assumption) ?_
      case hy => (intro w hSw; (try dsimp only at hSw); (try simp only [List.getElem_toArray, List.getElem_cons_zero, List.getElem_cons_succ]); go_simp; try with_reducible rfl)
      try simp only [List.getElem_toArray, List.getElem_cons_zero, List.getElem_cons_succ, Act.put, List.setIfInBounds_toArray, List.set_cons_zero, List.set_cons_succ]
      refine' wpAnyH_take (i := 9) (oi := _) (v := _) rfl (by kernel_rfl) (by kernel_rfl) (by kernel_rfl) (fun _ _ _ h => h) (Or.inl ⟨by rfl, ?hy⟩) (by assumption) ?_
      case hy => (intro w hSw; (try dsimp only at hSw); (try simp only [List.getElem_toArray, List.getElem_cons_zero, List.getElem_cons_succ]); go_simp; try with_reducible rfl)
      try simp only [List.getElem_toArray, List.getElem_cons_zero, List.getElem_cons_succ, Act.put, List.setIfInBounds_toArray, List.set_cons_zero, List.set_cons_succ]
      refine' wpAnyH_take (i := 10) (oi := _) (v := _) rfl (by kernel_rfl) (by kernel_rfl) (by kernel_rfl) (fun _ _ _ h => h) (Or.inl ⟨by rfl, ?hy⟩) (by assumption) ?_
      case hy => (intro w hSw; (try dsimp only at hSw); (try simp only [List.getElem_toArray, List.getElem_cons_zero, List.getElem_cons_succ]); go_simp; try with_reducible rfl)
      try simp only [List.getElem_toArray, List.getElem_cons_zero, List.getElem_cons_succ, Act.put, List.setIfInBounds_toArray, List.set_cons_zero, List.set_cons_succ]
      refine wpAnyH_ready (rs := [11]) (by kernel_rfl) (by simp) ?_
      refine AllReadyH.cons (o := _) rfl (fun K hK => ?_) AllReadyH.nil
      try simp only [List.getElem_toArray, List.getElem_cons_zero, List.getElem_cons_succ, Act.put, List.setIfInBounds_toArray, List.set_cons_zero, List.set_cons_succ]
      try rw [if_pos (by rfl)]
      go_simp
      refine (read_is d' h' DA HDA.out (1 - n) _ HD5.out (HL.out.below (HL2.out.below.trans (HB5.out.mono HL2.out.below.size))) [] HRD.out.2 0 rfl).mono ?_
      rintro e w6 ⟨ra2, rc2, rfl, -, hb⟩
      have HX6 := Lib.hid (HX5.out.later hb)
      have HD6 := Lib.hid (HD5.out.later hb)
      have HB6 := Lib.hid (HB5.out.trans (hb.mono HB5.out.size))
      clear hb
      go_wp2_with fail
      refine hK.out _ _ ?hs4 (fun hHeld => ?_)
      case hs4 => exact ⟨HCB.out _ HX6.out, HOB.out _ HB6.out⟩
      clear hK K
      try simp only [List.getElem_toArray, List.getElem_cons_zero, List.getElem_cons_succ, Act.put, List.setIfInBounds_toArray, List.set_cons_zero, List.set_cons_succ]
      refine' wpAnyH_take (i := 12) (oi := _) (v := _) rfl (by kernel_rfl) (by kernel_rfl) (by kernel_rfl) (fun _ _ _ h => h) (Or.inl ⟨by rfl, ?hy⟩) (by assumption) ?_
      case hy => (intro w hSw; (try dsimp only at hSw); (try simp only [List.getElem_toArray, List.getElem_cons_zero, List.getElem_cons_succ]); go_simp; try with_reducible rfl)
      try simp only [List.getElem_toArray, List.getElem_cons_zero, List.getElem_cons_succ, Act.put, List.setIfInBounds_toArray, List.set_cons_zero, List.set_cons_succ]
      refine' wpAnyH_take (i := 13) (oi := _) (v := _) rfl (by kernel_rfl) (by kernel_rfl) (by kernel_rfl) (fun _ _ _ h => h) (Or.inl ⟨by rfl, ?hy⟩) (by assumption) ?_
      case hy => (intro w hSw; (try dsimp only at hSw); (try simp only [List.getElem_toArray, List.getElem_cons_zero, List.getElem_cons_succ]); go_simp; try with_reducible rfl)
      try simp only [List.getElem_toArray, List.getElem_cons_zero, List.getElem_cons_succ, Act.put, List.setIfInBounds_toArray, List.set_cons_zero, List.set_cons_succ]
      refine' wpAnyH_take (i := 14) (oi := _) (v := _) rfl (by kernel_rfl) (by kernel_rfl) (by kernel_rfl) (fun _ _ _ h => h) (Or.inl ⟨by rfl, ?hy⟩) (by assumption) ?_
      case hy => (intro w hSw; (try dsimp only at hSw); (try simp only [List.getElem_toArray, List.getElem_cons_zero, List.getElem_cons_succ]); go_simp; try with_reducible rfl)
      try simp only [List.getElem_toArray, List.getElem_cons_zero, List.getElem_cons_succ, Act.put, List.setIfInBounds_toArray, List.set_cons_zero, List.set_cons_succ]
      refine' wpAnyH_take (i := 15) (oi := _) (v := _) rfl (by kernel_rfl) (by kernel_rfl) (by kernel_rfl) (fun _ _ _ h => h) (Or.inl ⟨by rfl, ?hy⟩) (by assumption) ?_
      case hy => (intro w hSw; (try dsimp only at hSw); (try simp only [List.getElem_toArray, List.getElem_cons_zero, List.getElem_cons_succ]); go_simp; try with_reducible rfl)
      try simp only [List.getElem_toArray, List.getElem_cons_zero, List.getElem_cons_succ, Act.put, List.setIfInBounds_toArray, List.set_cons_zero, List.set_cons_succ]
      refine' wpAnyH_take (i := 16) (oi := _) (v := _) rfl (by kernel_rfl) (by kernel_rfl) (by kernel_rfl) (fun _ _ _ h => h) (Or.inl ⟨by rfl, ?hy⟩) (by assumption) ?_
      case hy => (intro w hSw; (try dsimp only at hSw); (try simp only [List.getElem_toArray, List.getElem_cons_zero, List.getElem_cons_succ]); go_simp; try with_reducible rfl)
      try simp only [List.getElem_toArray, List.getElem_cons_zero, List.getElem_cons_succ, Act.put, List.setIfInBounds_toArray, List.set_cons_zero, List.set_cons_succ]
      refine wpAnyH_ready (rs := [17]) (by kernel_rfl) (by simp) ?_
      refine AllReadyH.cons (o := _) rfl (fun K hK => ?_) AllReadyH.nil
      try simp only [List.getElem_toArray, List.getElem_cons_zero, List.getElem_cons_succ, Act.put, List.setIfInBounds_toArray, List.set_cons_zero, List.set_cons_succ]
      try rw [if_pos (by rfl)]
      go_simp
      refine (right_is d' h' DA HDA.out _ HD6.out (HL.out.below (HL2.out.below.trans (HB6.out.mono HL2.out.below.size))) true HRI.out).mono ?_
      rintro e w7 ⟨rfl, hb⟩
      have HX7 := Lib.hid (HX6.out.later hb)
      have HD7 := Lib.hid (HD6.out.later hb)
      have HB7 := Lib.hid (HB6.out.trans (hb.mono HB6.out.size))
      clear hb
      go_wp2_with fail
      refine hK.out _ _ ?hs4 (fun hHeld => ?_)
      case hs4 => exact ⟨HCB.out _ HX7.out, HOB.out _ HB7.out⟩
      clear hK K
      try simp only [List.getElem_toArray, List.getElem_cons_zero, List.getElem_cons_succ, Act.put, List.setIfInBounds_toArray, List.set_cons_zero, List.set_cons_succ]
      refine' wpAnyH_take (i := 18) (oi := _) (v := _) rfl (by kernel_rfl) (by kernel_rfl) (by kernel_rfl) (fun _ _ _ h => h) (Or.inl ⟨by rfl, ?hy⟩) (by assumption) ?_
      case hy => (intro w hSw; (try dsimp only at hSw); (try simp only [List.getElem_toArray, List.getElem_cons_zero, List.getElem_cons_succ]); go_simp; try with_reducible rfl)
      try simp only [List.getElem_toArray, List.getElem_cons_zero, List.getElem_cons_succ, Act.put, List.setIfInBounds_toArray, List.set_cons_zero, List.set_cons_succ]
      refine' wpAnyH_take (i := 19) (oi := _) (v := _) rfl (by kernel_rfl) (by kernel_rfl) (by kernel_rfl) (fun _ _ _ h => h) (Or.inl ⟨by rfl, ?hy⟩) (by assumption) ?_
      case hy => (intro w hSw; (try dsimp only at hSw); (try simp only [List.getElem_toArray, List.getElem_cons_zero, List.getElem_cons_succ]); go_simp; try with_reducible rfl)
      try simp only [List.getElem_toArray, List.getElem_cons_zero, List.getElem_cons_succ, Act.put, List.setIfInBounds_toArray, List.set_cons_zero, List.set_cons_succ]
      refine wpAnyH_done (by kernel_rfl) ?_ _
      go_wp2_with fail
      go_roundw
      case rel => exact ⟨k + 1, sf, d', h', al, congrArg (Value.int .i64) (by omega), rfl, by omega, HL2.out.inv, Own.kept (by rw [← HQ.out]; exact HL2.out.own) HB7.out, HX7.out, HD7.out, by rw [← HQ.out]; exact HL2.out.dj, HL2.out.below.trans (HB7.out.mono HL2.out.below.size), HL2.out.low⟩
      case measure => simp [intOf]; omega

end Dsk
end Go.Proofs.Ytdiegglnfbmpdaa
