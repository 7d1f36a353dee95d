/-
  The reference's Come of layer 6, walked.
-/
import Derived.Test.YtnldllmlfckecaaRsqE
import Derived.Test.YtnldllmlfckecaaOwn2
import Derived.Deep.QuietTactic
import Derived.Deep.CutBlock
import Derived.Deep.DeepCutAuto
import Derived.Deep.Cut
namespace Go.Proofs.Ytnldllmlfckecaa
open Go.RowKit
namespace Rsq
open Num
open Msg (I64)

/-- Come's own blocks: the line as it stands, the item, the result's cell, and all of its own behind them -/
structure Lp (w W : World) (B : Nat) (LB XA ZL : Array Value) : Prop where
  b : Below w.heap.size w W
  l : W.heap[w.heap.size]? = some (.cells LB 24 (0, 0))
  x : W.heap[w.heap.size + 1]? = some (.cells XA 30 (0, 0))
  z : W.heap[w.heap.size + 1 + 1]? = some (.cells ZL 24 (0, 0))
  s : B ≤ W.heap.size
  t : w.heap.size + 3 ≤ B
theorem Lp.later {w W W' : World} {B : Nat} {LB XA ZL : Array Value} (h : Lp w W B LB XA ZL) (hb : Below B W W') : Lp w W' B LB XA ZL := by
  obtain ⟨b, l, x, z, s, t⟩ := h
  exact ⟨b.trans (hb.mono (by omega)), (hb.block _ (by omega)).trans l, (hb.block _ (by omega)).trans x, (hb.block _ (by omega)).trans z, Nat.le_trans s hb.size, t⟩
theorem Lp.set {w W : World} {B : Nat} {LB XA ZL : Array Value} (h : Lp w W B LB XA ZL) (j : Nat) (v : Value) (LC : Array Value) (e : LB.setIfInBounds j v = LC) : Lp w (W.setCell ⟨w.heap.size, j, none⟩ v) B LC XA ZL := by
  obtain ⟨b, l, x, z, s, t⟩ := h
  subst e
  exact ⟨b.setCell (Nat.le_refl _) _, heap_setCell_same W _ j _ _ v l, (heap_setCell_other W _ _ v (fun e => by have : w.heap.size + 1 = w.heap.size := e; omega)).trans x,
    (heap_setCell_other W _ _ v (fun e => by have : w.heap.size + 1 + 1 = w.heap.size := e; omega)).trans z, by simpa [World.setCell] using s, t⟩
theorem Lp.cell {w W : World} {B : Nat} {LB XA ZL : Array Value} (h : Lp w W B LB XA ZL) (j : Nat) : W.cell? ⟨w.heap.size, j, none⟩ = LB[j]? ∧ W.frozen? ⟨w.heap.size, j, none⟩ = false ∧ w.heap.size < W.heap.size :=
  ⟨cell_of_row W _ j _ _ _ h.l, frozen_of_row W _ j _ _ h.l, (Array.getElem?_eq_some_iff.1 h.l).1⟩
theorem li_one (nx : Int) (a : Option Addr) (n cap : Nat) : (#[.int .i64 nx, .slice a n cap] : Array Value).all (·.oneCell') = true := by simp [Value.oneCell']
/-- the end: the line, as it stands, is told -/
theorem Lp.told {w W : World} {B : Nat} {XA ZL : Array Value} {nx : Int} {ha hb : Option Addr} {q c p d : Nat} {hs os : List It} {k : Int} {r : Li × List It × Int} (h : Lp w W B #[.int .i64 nx, .slice ha q c] XA ZL)
    (h1 : OwnE encI 30 W B (.slice ha q c) hs) (h2 : OwnE encI 30 W B (.slice hb p d) os) (hr : r = (⟨nx, hs⟩, os, k)) (cs : Array Value) :
    GotC w r (.returned (.tuple #[.agg #[.int .i64 nx, .slice ha q c], .slice hb p d, .int .i64 k])) (W.setRow (w.heap.size + 1 + 1) cs) := by
  have hlt : w.heap.size + 1 + 1 < B := by have := h.t; omega
  have g1 := (h1.setRow cs hlt).at
  have g2 := (h2.setRow cs hlt).at
  obtain ⟨rfl, g1⟩ := g1
  obtain ⟨rfl, g2⟩ := g2
  subst hr
  exact ⟨ha, c, hb, d, rfl, g1, g2, below_setRow h.b (by omega) _⟩

set_option maxRecDepth 100000 in
set_option maxHeartbeats 8000000 in
theorem rcome_any (l : Li) (x : It) (a : Option Addr) (cap n : Nat) (hn : l.held.length = n) (hn9 : n ≤ 100000000) (w : World) (hr : RowAt encI w a cap l.held) :
    Calls Try.prog 9 #[.agg #[.int .i64 l.next, .slice a n cap], .agg x.arr] w (GotC w (come l x)) := by
  have HR := Lib.hid hr
  have HN := Lib.hid hn
  obtain ⟨LA, hLA⟩ : ∃ X : Array Value, #[.int .i64 l.next, .slice a n cap] = X := ⟨_, rfl⟩
  obtain ⟨XA, hXA⟩ : ∃ X, x.arr = X := ⟨_, rfl⟩
  have hiL : (Try.prog.info? 24).map (·.size) = some LA.size := by rw [← hLA]; kernel_rfl
  have hiX : (Try.prog.info? 30).map (·.size) = some XA.size := by rw [← hXA]; kernel_rfl
  have HSL : Hid (2 = LA.size ∧ LA.all (·.oneCell') = true ∧ LA.size = 2) := Lib.hid (by rw [← hLA]; exact ⟨rfl, by simp [Value.oneCell'], rfl⟩)
  have l0 : LA[0]? = some (.int .i64 l.next) := by rw [← hLA]; rfl
  have l1 : LA[1]? = some (.slice a n cap) := by rw [← hLA]; rfl
  have x0 : XA[0]? = some (.int .i64 x.fr) := by rw [← hXA]; rfl
  have x1 : XA[1]? = some (.int .i64 x.to) := by rw [← hXA]; rfl
  have HLA := Lib.hid hLA
  have HXA := Lib.hid hXA
  have HXF : Hid (20 = XA.size ∧ XA.toList = encI.of x) := Lib.hid (by rw [← hXA]; exact ⟨rfl, rfl⟩)
  rw [hLA, hXA]
  clear hr hn hLA hXA
  have e1 : (w.alloc (.cells LA 24)).heap.size = w.heap.size + 1 := by simp
  have e2 : ((w.alloc (.cells LA 24)).alloc (.cells XA 30)).heap.size = w.heap.size + 2 := by simp
  obtain ⟨ZL, hZL⟩ : ∃ Z : Array Value, #[.int .i64 0, .slice none 0 0] = Z := ⟨_, rfl⟩
  have HB0 : Hid (Below w.heap.size w (((w.alloc (.cells LA 24)).alloc (.cells XA 30)).alloc (.cells ZL 24))) := Lib.hid ((((Below.refl _ _).alloc (Nat.le_refl _) _).alloc (by rw [e1]; omega) _).alloc (by rw [e2]; omega) _)
  have HX0 : Hid ((((w.alloc (.cells LA 24)).alloc (.cells XA 30)).alloc (.cells ZL 24)).heap[w.heap.size]? = some (.cells LA 24 (0, 0)) ∧
      (((w.alloc (.cells LA 24)).alloc (.cells XA 30)).alloc (.cells ZL 24)).heap[w.heap.size + 1]? = some (.cells XA 30 (0, 0)) ∧
      (((w.alloc (.cells LA 24)).alloc (.cells XA 30)).alloc (.cells ZL 24)).heap[w.heap.size + 2]? = some (.cells ZL 24 (0, 0))) := Lib.hid
    ⟨alloc_block (alloc_block (heap_alloc_new w _)), alloc_block (by have h := heap_alloc_new (w.alloc (.cells LA 24)) (.cells XA 30); rwa [e1] at h), by
      have h := heap_alloc_new ((w.alloc (.cells LA 24)).alloc (.cells XA 30)) (.cells ZL 24)
      rwa [e2] at h⟩
  have HS0 : Hid (w.heap.size + 3 ≤ (((w.alloc (.cells LA 24)).alloc (.cells XA 30)).alloc (.cells ZL 24)).heap.size) := Lib.hid (by simp)
  clear e1 e2
  go_enter Try.func9, Try.ntmps9
  go_upto_region 1 with fail
  try rw [hZL]
  generalize ((w.alloc (.cells LA 24)).alloc (.cells XA 30)).alloc (.cells ZL 24) = w0 at HB0 HX0 HS0 ⊢
  have HK : Hid (∀ W, Below w0.heap.size w0 W → Below w.heap.size w W ∧ W.rangeAt w.heap.size 0 LA.toList ∧ W.rangeAt (w.heap.size + 1) 0 XA.toList ∧ W.heap[w.heap.size + 1 + 1]? = some (.cells ZL 24 (0, 0)) ∧ RowAt encI W a cap l.held ∧
      W.cell? ⟨w.heap.size, 0, none⟩ = some (.int .i64 l.next) ∧ W.cell? ⟨w.heap.size, 1, none⟩ = some (.slice a n cap) ∧ W.cell? ⟨w.heap.size + 1, 0, none⟩ = some (.int .i64 x.fr) ∧ W.cell? ⟨w.heap.size + 1, 1, none⟩ = some (.int .i64 x.to)) := Lib.hid fun W hW => by
    have h1 := below_block HX0.out.1 hW
    have h2 := below_block HX0.out.2.1 hW
    have h3 := below_block HX0.out.2.2 hW
    have h4 := HB0.out.trans (hW.mono HB0.out.size)
    exact ⟨h4, block_range h1, block_range h2, h3, HR.out.later h4, cell_at h1 l0, cell_at h1 l1, cell_at h2 x0, cell_at h2 x1⟩
  have hZ2 : ZL.size = LA.size := by rw [← hZL, ← HSL.out.1]; rfl
  clear hZL
  have HSZ2 := Lib.hid hZ2
  clear hZ2
  have HRT : Hid (rightL l = rightL ⟨l.next, l.held⟩) := Lib.hid rfl
  clear l0 l1 x0 x1
  have HB00 := Lib.hid (Below.refl w0.heap.size w0)
  go_wp2_with (refine wpList_load_arr_g (by rfl) 24 _ rfl w.heap.size 0 rfl LA _ (HK.out _ HB00.out).2.1 Try.underlying24 rfl hiL ?_)
  obtain ⟨br, hbr⟩ : ∃ b, rightL l = b := ⟨_, rfl⟩
  obtain ⟨bm, hbm⟩ : ∃ b, mayI x = b := ⟨_, rfl⟩
  refine (rright_c LA l a cap n HLA.out HN.out (by omega) _ (HK.out _ HB00.out).2.2.2.2.1 _ hbr).mono ?_
  rintro e w1 ⟨rfl, hb1⟩
  have HB1 := Lib.hid hb1
  clear hb1
  cases br
  · have HC : Hid (come l x = (l, [], 0)) := Lib.hid (by unfold come; rw [if_pos (.inl hbr)])
    clear hbr hbm
    go_wp2_with (first | (refine wpList_load_arr_g (by rfl) 24 _ rfl w.heap.size 0 rfl LA _ (HK.out _ HB1.out).2.1 Try.underlying24 rfl hiL ?_) | (refine wpList_store_row rfl 24 _ _ rfl (w.heap.size + 1 + 1) LA rfl rfl _ _ (HK.out _ HB1.out).2.2.2.1 hiL HSZ2.out HSL.out.2.1 ?_))
    refine bodyPost_ret (line_end rfl (w.heap.size + 1 + 1) _ LA _ _ (HK.out _ HB1.out).2.2.2.1 HSL.out.2.2 rfl) rfl ?_
    exact GotC.same HLA.out (HC.out) HN.out HR.out (below_setRow (HK.out _ HB1.out).1 (by omega) _)
  go_wp2_with (refine wpList_load_arr_g (by rfl) 30 _ rfl (w.heap.size + 1) 0 rfl XA _ (HK.out _ HB1.out).2.2.1 Try.underlying30 rfl hiX ?_)
  refine (may_is XA x HXA.out.symm _ hbm _).mono ?_
  rintro e w2 ⟨rfl, hb2⟩
  have HB2 := Lib.hid (HB1.out.trans (hb2.mono HB1.out.size))
  clear hb2
  cases bm
  · have HC : Hid (come l x = (l, [], 0)) := Lib.hid (by unfold come; rw [if_pos (.inr hbm)])
    clear hbr hbm
    go_wp2_with (first | (refine wpList_load_arr_g (by rfl) 24 _ rfl w.heap.size 0 rfl LA _ (HK.out _ HB2.out).2.1 Try.underlying24 rfl hiL ?_) | (refine wpList_store_row rfl 24 _ _ rfl (w.heap.size + 1 + 1) LA rfl rfl _ _ (HK.out _ HB2.out).2.2.2.1 hiL HSZ2.out HSL.out.2.1 ?_))
    refine bodyPost_ret (line_end rfl (w.heap.size + 1 + 1) _ LA _ _ (HK.out _ HB2.out).2.2.2.1 HSL.out.2.2 rfl) rfl ?_
    exact GotC.same HLA.out (HC.out) HN.out HR.out (below_setRow (HK.out _ HB2.out).1 (by omega) _)
  have HCM : Hid (come l x = if x.to ≤ l.next then (l, [], 3)
      else if l.next < x.fr then (if has x l.held = true then (l, [], 3) else if 64 ≤ l.held.length then (l, [], 4) else (⟨l.next, ins x l.held⟩, [], 2))
      else (⟨(drain x.to l.held).2.1, (drain x.to l.held).2.2⟩, x :: (drain x.to l.held).1, 1)) := Lib.hid (by unfold come; rw [if_neg (by rw [hbr, hbm]; simp)])
  have HRL := Lib.hid hbr
  have HMX := Lib.hid hbm
  clear hbr hbm
  have ⟨_, _, _, _, _, k0, k1, k2, k3⟩ := HK.out _ HB2.out
  by_cases c1 : x.to ≤ l.next
  · have HC : Hid (come l x = (l, [], 3)) := Lib.hid (by rw [HCM.out, if_pos c1])
    go_wp2_with (first | (refine wpList_load_arr_g (by rfl) 24 _ rfl w.heap.size 0 rfl LA _ (HK.out _ HB2.out).2.1 Try.underlying24 rfl hiL ?_) | (refine wpList_store_row rfl 24 _ _ rfl (w.heap.size + 1 + 1) LA rfl rfl _ _ (HK.out _ HB2.out).2.2.2.1 hiL HSZ2.out HSL.out.2.1 ?_))
    refine bodyPost_ret (line_end rfl (w.heap.size + 1 + 1) _ LA _ _ (HK.out _ HB2.out).2.2.2.1 HSL.out.2.2 rfl) rfl ?_
    exact GotC.same HLA.out (HC.out) HN.out HR.out (below_setRow (HK.out _ HB2.out).1 (by omega) _)
  by_cases c2 : l.next < x.fr
  · have hfx : True := trivial
    obtain ⟨j0, hi0, hz0, hz1, hz2⟩ := info_parts infoI
    have HJ0 := Lib.hid hi0
    have HY0 := Lib.hid hz0
    have HY1 := Lib.hid hz1
    have HY2 := Lib.hid hz2
    clear hi0 hz0 hz1 hz2
    go_wp2_with fail
    go_loopw [7, 8, 9] (fun h_ p_ i_ wr => ∃ (k : Nat) (p : Bool) (hs : List It), i_ = .int .i64 k ∧ p_ = .bool p ∧ k ≤ n ∧ hs.length ≤ 2 * k ∧ OwnE encI 30 wr w0.heap.size h_ hs ∧ Below w0.heap.size w0 wr ∧ (∀ y ∈ l.held.take k, y.fr ≠ x.fr) ∧ KP x (l.held.take k) p hs) (fun _ _ i_ _ => n - (intOf i_).toNat)
    case atStart => exact ⟨0, false, [], rfl, rfl, Nat.zero_le _, Nat.zero_le _, OwnE.nil _ _ _ _, HB2.out, by simp, ⟨fun e => (by cases e), fun _ => ⟨by simp, rfl⟩⟩⟩
    case round =>
      obtain ⟨k, p, hs, rfl, rfl, hkn, hsk, hown, hbel, hne, hkp⟩ := hrel
      have HO := Lib.hid hown
      have HB := Lib.hid hbel
      have HNE := Lib.hid hne
      have HKP := Lib.hid hkp
      clear hown hbel hne hkp k0 k1 k2 k3
      have ⟨_, _, _, _, hrow, k0, k1, k2, k3⟩ := HK.out _ HB.out
      have HROW := Lib.hid hrow
      clear hrow
      by_cases hlt : k < n
      · obtain ⟨y, hy⟩ : ∃ z, l.held[k]? = some z := ⟨l.held[k]'(by rw [HN.out]; exact hlt), List.getElem?_eq_getElem _⟩
        have HTK : Hid (l.held.take (k + 1) = l.held.take k ++ [y]) := Lib.hid (by rw [List.take_add_one, hy]; rfl)
        have HYY := Lib.hid hy
        obtain ⟨b, off, rfl, _⟩ := HROW.out.at (by rw [HN.out]; omega) (by decide)
        have hc0 : n ≤ cap := by
          rcases HROW.out with ⟨h, _⟩ | ⟨_, _, h, _⟩
          · cases h
          · rwa [HN.out] at h
        have HEL : Hid (∀ W, Below w0.heap.size w0 W → W.rangeAt b (off + k * 20) y.arr.toList ∧ W.cell? ⟨b, off + k * 20, none⟩ = some (.int .i64 y.fr)) := Lib.hid fun W hW => by
          have hr := item_at (HK.out W hW).2.2.2.2.1 hy
          refine ⟨hr, ?_⟩
          have := hr 0 _ rfl
          rwa [Nat.add_zero] at this
        have k4 := (HEL.out _ HB.out).2
        clear hy
        have hbq := HB.out
        by_cases heq : y.fr = x.fr
        · have HC : Hid (come l x = (l, [], 3)) := Lib.hid (by
            rw [HCM.out, if_neg (by omega), if_pos (by omega), if_pos]
            unfold has
            rw [List.any_eq_true]
            exact ⟨y, List.mem_of_getElem? HYY.out, by simp [heq]⟩)
          have q1 : (y.fr == x.fr) = true := by rw [beq_iff_eq]; exact heq
          clear heq
          go_upto_region 11 with fail
          go_quiet (fail)
          have HBD : Hid (Below w0.heap.size w0 (wr.drewN nq)) := Lib.hid (HB.out.trans ⟨rfl, rfl, rfl, Nat.le_refl _, fun _ _ => rfl⟩)
          generalize wr.drewN nq = w5 at HBD ⊢
          go_wp2_with (first | (refine wpList_load_arr_g (by rfl) 24 _ rfl w.heap.size 0 rfl LA _ (HK.out _ HBD.out).2.1 Try.underlying24 rfl hiL ?_) | (refine wpList_store_row rfl 24 _ _ rfl (w.heap.size + 1 + 1) LA rfl rfl _ _ (HK.out _ HBD.out).2.2.2.1 hiL HSZ2.out HSL.out.2.1 ?_))
          refine bodyPost_ret (line_end rfl (w.heap.size + 1 + 1) _ LA _ _ (HK.out _ HBD.out).2.2.2.1 HSL.out.2.2 rfl) rfl ?_
          exact GotC.same HLA.out (HC.out) HN.out HR.out (below_setRow (HK.out _ HBD.out).1 (by omega) _)
        · have q1 : (y.fr == x.fr) = false := by rw [beq_eq_false_iff_ne]; exact heq
          obtain ⟨YA, hYA⟩ : ∃ X, y.arr = X := ⟨_, rfl⟩
          have hiY : (Try.prog.info? 30).map (·.size) = some YA.size := by rw [← hYA]; kernel_rfl
          rw [hYA] at HEL
          have HYA := Lib.hid hYA
          have HYF : Hid (20 = YA.size ∧ YA.toList = encI.of y) := Lib.hid (by rw [← hYA]; exact ⟨rfl, rfl⟩)
          have HEQ := Lib.hid heq
          have hys : YA.size = 20 := HYF.out.1.symm
          have hxs : XA.size = 20 := HXF.out.1.symm
          clear heq hYA
          go_upto_region 11 with fail
          go_quiet (fail)
          have HD : Hid (Below wr.heap.size wr (wr.drewN nq)) := Lib.hid ⟨rfl, rfl, rfl, Nat.le_refl _, fun _ _ => rfl⟩
          generalize wr.drewN nq = w5 at HD ⊢
          have HB5 := Lib.hid (HB.out.trans (HD.out.mono HB.out.size))
          have HO5 := Lib.hid (HO.out.kept HD.out)
          clear k0 k1 k2 k3 k4 hbq
          have ⟨_, _, _, _, _, k0, k1, k2, k3⟩ := HK.out _ HB5.out
          have k4 := (HEL.out _ HB5.out).2
          have HNE2 : Hid (∀ z ∈ l.held.take (k + 1), z.fr ≠ x.fr) := Lib.hid fun z hz => by
            rw [HTK.out] at hz
            rcases List.mem_append.1 hz with hz | hz
            · exact HNE.out z hz
            · obtain rfl := List.mem_singleton.1 hz
              exact HEQ.out
          cases p
          · by_cases hgt : x.fr < y.fr
            · have q2 : decide (x.fr < y.fr) = true := decide_eq_true hgt
              have HKQ := Lib.hid ((HKP.out.here (y := y) hgt))
              clear hgt
              go_upto_region 13 with fail
              go_quiet (fail)
              have HD6 : Hid (Below w5.heap.size w5 (w5.drewN nq)) := Lib.hid ⟨rfl, rfl, rfl, Nat.le_refl _, fun _ _ => rfl⟩
              generalize w5.drewN nq = w6 at HD6 ⊢
              have HB6 := Lib.hid (HB5.out.trans (HD6.out.mono HB5.out.size))
              have HO6 := Lib.hid (HO5.out.kept HD6.out)
              clear k0 k1 k2 k3 k4
              have ⟨_, _, _, _, _, k0, k1, k2, k3⟩ := HK.out _ HB6.out
              have k4 := (HEL.out _ HB6.out).2
              go_upto_region 16 with (first | (at_builtin; refine wpList_append_rowk encI (by decide) rfl (.tmp 64) (.tmp 66) _ rfl w0.heap.size 30 j0 _ 208 Try.underlying22 HJ0.out HY0.out HY1.out HY2.out (by rfl) _ _ rfl (HO6.out.kept ((Below.refl _ _).alloc (Nat.le_refl _) _)) _ _ _ [x] rfl (by rfl) (one_row encI _ 30 _ _ (by rw [fill_all (k := 20)]; exact HXF.out.2; rfl; exact HXF.out.1.symm)) (by simp only [List.length_cons, List.length_nil, maxLen]; omega) (by simp only [List.length_cons, List.length_nil]; omega) (Nat.le_trans HB6.out.size (by simp)) ?_; intro v2 w8 hown2 hb2 _; have HO7 := Lib.hid hown2; have HB7 := Lib.hid ((HB6.out.alloc HB6.out.size _).trans hb2); clear hown2 hb2) | (refine wpList_load_arr_g (by rfl) 30 _ rfl (w.heap.size + 1) 0 rfl XA _ (HK.out _ HB6.out).2.2.1 Try.underlying30 rfl hiX ?_))
              clear k0 k1 k2 k3 k4
              have ⟨_, _, _, _, _, k0, k1, k2, k3⟩ := HK.out _ HB7.out
              go_wp2_with (first | (at_builtin; refine wpList_append_rowk encI (by decide) rfl (.tmp 68) (.tmp 74) _ rfl w0.heap.size 30 j0 _ 208 Try.underlying22 HJ0.out HY0.out HY1.out HY2.out (by rfl) _ _ rfl (HO7.out.kept ((Below.refl _ _).alloc (Nat.le_refl _) _)) _ _ _ [y] rfl (by rfl) (one_row encI _ 30 _ _ (by rw [fill_all (k := 20)]; exact HYF.out.2; rfl; exact HYF.out.1.symm)) (by simp only [List.length_cons, List.length_nil, List.length_append, maxLen]; omega) (by simp only [List.length_cons, List.length_nil, List.length_append]; omega) (Nat.le_trans HB7.out.size (by simp)) ?_; intro v2 w8 hown2 hb2 _; have HO8 := Lib.hid hown2; have HB8 := Lib.hid ((HB7.out.alloc HB7.out.size _).trans hb2); clear hown2 hb2) | (refine wpList_load_arr_g (by rfl) 30 _ rfl b (off + k * 20) rfl YA _ (HEL.out _ HB7.out).1 Try.underlying30 rfl hiY ?_))
              go_roundw
              case rel => exact ⟨k + 1, true, hs ++ [x] ++ [y], congrArg (Value.int .i64) (by omega), rfl, by omega, by simp only [List.length_append, List.length_cons, List.length_nil]; omega, HO8.out, HB8.out, HNE2.out, by rw [HTK.out]; exact HKQ.out⟩
              case measure => simp [intOf]; omega
            · have q2 : decide (x.fr < y.fr) = false := decide_eq_false hgt
              have HKQ := Lib.hid ((HKP.out.later (y := y) (by have := HEQ.out; omega)))
              clear hgt
              go_upto_region 13 with fail
              go_quiet (fail)
              have HD6 : Hid (Below w5.heap.size w5 (w5.drewN nq)) := Lib.hid ⟨rfl, rfl, rfl, Nat.le_refl _, fun _ _ => rfl⟩
              generalize w5.drewN nq = w6 at HD6 ⊢
              have HB6 := Lib.hid (HB5.out.trans (HD6.out.mono HB5.out.size))
              have HO6 := Lib.hid (HO5.out.kept HD6.out)
              clear k0 k1 k2 k3 k4
              have ⟨_, _, _, _, _, k0, k1, k2, k3⟩ := HK.out _ HB6.out
              have k4 := (HEL.out _ HB6.out).2
              go_wp2_with (first | (at_builtin; refine wpList_append_rowk encI (by decide) rfl (.tmp 68) (.tmp 74) _ rfl w0.heap.size 30 j0 _ 208 Try.underlying22 HJ0.out HY0.out HY1.out HY2.out (by rfl) _ _ rfl (HO6.out.kept ((Below.refl _ _).alloc (Nat.le_refl _) _)) _ _ _ [y] rfl (by rfl) (one_row encI _ 30 _ _ (by rw [fill_all (k := 20)]; exact HYF.out.2; rfl; exact HYF.out.1.symm)) (by simp only [List.length_cons, List.length_nil, maxLen]; omega) (by simp only [List.length_cons, List.length_nil]; omega) (Nat.le_trans HB6.out.size (by simp)) ?_; intro v2 w8 hown2 hb2 _; have HO8 := Lib.hid hown2; have HB8 := Lib.hid ((HB6.out.alloc HB6.out.size _).trans hb2); clear hown2 hb2) | (refine wpList_load_arr_g (by rfl) 30 _ rfl b (off + k * 20) rfl YA _ (HEL.out _ HB6.out).1 Try.underlying30 rfl hiY ?_))
              go_roundw
              case rel => exact ⟨k + 1, false, hs ++ [y], congrArg (Value.int .i64) (by omega), rfl, by omega, by simp only [List.length_append, List.length_cons, List.length_nil]; omega, HO8.out, HB8.out, HNE2.out, by rw [HTK.out]; exact HKQ.out⟩
              case measure => simp [intOf]; omega
          · have HKQ := Lib.hid (HKP.out.put (y := y))
            go_upto_region 13 with fail
            go_quiet (fail)
            have HD6 : Hid (Below w5.heap.size w5 (w5.drewN nq)) := Lib.hid ⟨rfl, rfl, rfl, Nat.le_refl _, fun _ _ => rfl⟩
            generalize w5.drewN nq = w6 at HD6 ⊢
            have HB6 := Lib.hid (HB5.out.trans (HD6.out.mono HB5.out.size))
            have HO6 := Lib.hid (HO5.out.kept HD6.out)
            clear k0 k1 k2 k3 k4
            have ⟨_, _, _, _, _, k0, k1, k2, k3⟩ := HK.out _ HB6.out
            have k4 := (HEL.out _ HB6.out).2
            go_wp2_with (first | (at_builtin; refine wpList_append_rowk encI (by decide) rfl (.tmp 68) (.tmp 74) _ rfl w0.heap.size 30 j0 _ 208 Try.underlying22 HJ0.out HY0.out HY1.out HY2.out (by rfl) _ _ rfl (HO6.out.kept ((Below.refl _ _).alloc (Nat.le_refl _) _)) _ _ _ [y] rfl (by rfl) (one_row encI _ 30 _ _ (by rw [fill_all (k := 20)]; exact HYF.out.2; rfl; exact HYF.out.1.symm)) (by simp only [List.length_cons, List.length_nil, maxLen]; omega) (by simp only [List.length_cons, List.length_nil]; omega) (Nat.le_trans HB6.out.size (by simp)) ?_; intro v2 w8 hown2 hb2 _; have HO8 := Lib.hid hown2; have HB8 := Lib.hid ((HB6.out.alloc HB6.out.size _).trans hb2); clear hown2 hb2) | (refine wpList_load_arr_g (by rfl) 30 _ rfl b (off + k * 20) rfl YA _ (HEL.out _ HB6.out).1 Try.underlying30 rfl hiY ?_))
            go_roundw
            case rel => exact ⟨k + 1, true, hs ++ [y], congrArg (Value.int .i64) (by omega), rfl, by omega, by simp only [List.length_append, List.length_cons, List.length_nil]; omega, HO8.out, HB8.out, HNE2.out, by rw [HTK.out]; exact HKQ.out⟩
            case measure => simp [intOf]; omega
      · obtain rfl : k = n := by omega
        have HTA : Hid (l.held.take k = l.held) := Lib.hid (List.take_of_length_le (by rw [HN.out]; exact Nat.le_refl _))
        have HHS : Hid (has x l.held = false) := Lib.hid (by
          unfold has
          rw [List.any_eq_false]
          intro y hy
          rw [beq_iff_eq]
          exact HNE.out y (by rw [HTA.out]; exact hy))
        rw [HTA.out] at HKP
        have hxs : XA.size = 20 := HXF.out.1.symm
        have HC2 := Lib.hid c2
        have HC1 := Lib.hid c1
        clear hlt hkn c1 c2
        go_upto_if 77 with fail
        go_cut [7] (fun h_ wx => OwnE encI 30 wx w0.heap.size h_ (ins x l.held) ∧ Below w0.heap.size w0 wx)
        case first =>
          cases p
          · have HE : Hid (ins x l.held = hs ++ [x]) := Lib.hid (by
              obtain ⟨h1, h2⟩ := HKP.out.2 rfl
              rw [h2]
              exact ins_end h1)
            go_wp2_with (first | (at_builtin; refine wpList_append_rowk encI (by decide) rfl (.tmp 78) (.tmp 80) _ rfl w0.heap.size 30 j0 _ 208 Try.underlying22 HJ0.out HY0.out HY1.out HY2.out (by rfl) _ _ rfl (HO.out.kept ((Below.refl _ _).alloc (Nat.le_refl _) _)) _ _ _ [x] rfl (by rfl) (one_row encI _ 30 _ _ (by rw [fill_all (k := 20)]; exact HXF.out.2; rfl; exact HXF.out.1.symm)) (by simp only [List.length_cons, List.length_nil, maxLen]; omega) (by simp only [List.length_cons, List.length_nil]; omega) (Nat.le_trans HB.out.size (by simp)) ?_; intro v2 w8 hown2 hb2 _; have HO8 := Lib.hid hown2; have HB8 := Lib.hid ((HB.out.alloc HB.out.size _).trans hb2); clear hown2 hb2) | (refine wpList_load_arr_g (by rfl) 30 _ rfl (w.heap.size + 1) 0 rfl XA _ (HK.out _ HB.out).2.2.1 Try.underlying30 rfl hiX ?_))
            go_meet
            exact ⟨by rw [HE.out]; exact HO8.out, HB8.out⟩
          · have HE : Hid (ins x l.held = hs) := Lib.hid (HKP.out.1 rfl).2.symm
            go_wp2_with fail
            go_meet
            exact ⟨by rw [HE.out]; exact HO.out, HB.out⟩
        case rest =>
          obtain ⟨ho, hb⟩ := hcut
          have HO9 := Lib.hid ho
          have HB9 := Lib.hid hb
          clear ho hb k0 k1 k2 k3
          obtain ⟨ha, hcap, rfl, _⟩ := HO9.out.row
          have ⟨_, _, _, _, _, k0, k1, k2, k3⟩ := HK.out _ HB9.out
          by_cases c64 : 64 ≤ k
          · have HC : Hid (come l x = (l, [], 4)) := Lib.hid (by
              rw [HCM.out, if_neg (Int.not_le.2 HC1.out), if_pos HC2.out, if_neg (by rw [HHS.out]; simp), if_pos (by rw [HN.out]; exact c64)])
            go_wp2_with (first | (refine wpList_load_arr_g (by rfl) 24 _ rfl w.heap.size 0 rfl LA _ (HK.out _ HB9.out).2.1 Try.underlying24 rfl hiL ?_) | (refine wpList_store_row rfl 24 _ _ rfl (w.heap.size + 1 + 1) LA rfl rfl _ _ (HK.out _ HB9.out).2.2.2.1 hiL HSZ2.out HSL.out.2.1 ?_))
            refine bodyPost_ret (line_end rfl (w.heap.size + 1 + 1) _ LA _ _ (HK.out _ HB9.out).2.2.2.1 HSL.out.2.2 rfl) rfl ?_
            exact GotC.same HLA.out (HC.out) HN.out HR.out (below_setRow (HK.out _ HB9.out).1 (by omega) _)
          · have HC : Hid (come l x = (⟨l.next, ins x l.held⟩, [], 2)) := Lib.hid (by
              rw [HCM.out, if_neg (Int.not_le.2 HC1.out), if_pos HC2.out, if_neg (by rw [HHS.out]; simp), if_neg (by rw [HN.out]; exact c64)])
            have S9 : Hid (Lp w wc w0.heap.size #[.int .i64 l.next, .slice a k cap] XA ZL) := Lib.hid ⟨(HK.out _ HB9.out).1, by rw [HLA.out]; exact below_block HX0.out.1 HB9.out, below_block HX0.out.2.1 HB9.out, below_block HX0.out.2.2 HB9.out, HB9.out.size, HS0.out⟩
            generalize (ins x l.held).length = q at HO9 ⊢
            obtain ⟨y9, f9, s9⟩ := S9.out.cell 1
            have z9 : wc.cell? ⟨w.heap.size, 1, none⟩ = some (.slice a k cap) := y9
            have ST := Lib.hid (S9.out.set 1 (.slice ha q hcap) #[.int .i64 l.next, .slice ha q hcap] rfl)
            have HOT := Lib.hid (HO9.out.set (g := w.heap.size) (i := 1) (u := .slice ha q hcap) (by have := HS0.out; omega))
            clear y9 k1
            go_upto_region 22 with fail
            generalize wc.setCell ⟨w.heap.size, 1, none⟩ (.slice ha q hcap) = u9 at ST HOT ⊢
            have hiB : (Try.prog.info? 24).map (·.size) = some (#[.int .i64 l.next, .slice ha q hcap] : Array Value).size := by kernel_rfl
            have HLR := Lib.hid (block_range ST.out.l)
            have HSZ3 : Hid (ZL.size = 2) := Lib.hid (by rw [HSZ2.out, HSL.out.2.2])
            go_wp2_with (first | (refine wpList_load_arr_g (by rfl) 24 _ rfl w.heap.size 0 rfl #[.int .i64 l.next, .slice ha q hcap] _ HLR.out Try.underlying24 rfl hiB ?_) | (refine wpList_store_row rfl 24 _ _ rfl (w.heap.size + 1 + 1) #[.int .i64 l.next, .slice ha q hcap] rfl rfl _ _ ST.out.z hiB HSZ3.out (li_one _ _ _ _) ?_))
            refine bodyPost_ret (line_end rfl (w.heap.size + 1 + 1) _ _ _ _ ST.out.z rfl rfl) rfl ?_
            exact ST.out.told HOT.out (OwnE.nil _ _ _ _) HC.out _
  · have HCT : Hid (come l x = (⟨(sift x.to l.held).2.1, (sift x.to l.held).2.2⟩, x :: (sift x.to l.held).1, 1)) := Lib.hid (by
      have hri : riseB l.next l.held = true := by
        have h := HRL.out
        unfold rightL at h
        simp only [Bool.and_eq_true] at h
        exact h.2
      rw [HCM.out, if_neg c1, if_neg c2, sift_eq hri])
    clear HCM
    obtain ⟨j0, hi0, hz0, hz1, hz2⟩ := info_parts infoI
    have HJ0 := Lib.hid hi0
    have HY0 := Lib.hid hz0
    have HY1 := Lib.hid hz1
    have HY2 := Lib.hid hz2
    clear hi0 hz0 hz1 hz2
    have HXV : Hid (XA[0]? = some (.int .i64 x.fr) ∧ XA[1]? = some (.int .i64 x.to)) := Lib.hid (by rw [← HXA.out]; exact ⟨rfl, rfl⟩)
    have hxs : XA.size = 20 := HXF.out.1.symm
    have S2 : Hid (Lp w w2 w0.heap.size #[.int .i64 l.next, .slice a n cap] XA ZL) := Lib.hid ⟨(HK.out _ HB2.out).1, by rw [HLA.out]; exact below_block HX0.out.1 HB2.out, below_block HX0.out.2.1 HB2.out, below_block HX0.out.2.2 HB2.out, HB2.out.size, HS0.out⟩
    go_upto_region 24 with (refine wpList_load_arr_g (by rfl) 30 _ rfl (w.heap.size + 1) 0 rfl XA _ (HK.out _ HB2.out).2.2.1 Try.underlying30 rfl hiX ?_)
    rw [fill_all (k := 20) (Y := XA) rfl hxs]
    have HO3 : Hid (OwnE encI 30 (w2.alloc (.cells XA 30)) w0.heap.size (.slice (some ⟨w2.heap.size, 0, none⟩) 1 1) [x]) := Lib.hid (row_own encI w2 30 [x] XA (by rw [HXF.out.2]; simp) 1 rfl (by simp [maxLen]) w0.heap.size S2.out.s)
    have S3 : Hid (Lp w (w2.alloc (.cells XA 30)) w0.heap.size #[.int .i64 l.next, .slice a n cap] XA ZL) := Lib.hid (S2.out.later ((Below.refl _ _).alloc S2.out.s _))
    generalize w2.alloc (.cells XA 30) = w3 at HO3 S3 ⊢
    generalize (.slice (some ⟨w2.heap.size, 0, none⟩) 1 1 : Value) = ov at HO3 ⊢
    clear S2 k0 k1 k2 k3
    have k3 : w3.cell? ⟨w.heap.size + 1, 1, none⟩ = some (.int .i64 x.to) := cell_at S3.out.x HXV.out.2
    obtain ⟨y3, f3, s3⟩ := S3.out.cell 0
    have z3 : w3.cell? ⟨w.heap.size, 0, none⟩ = some (.int .i64 l.next) := y3
    clear y3
    have S4 := Lib.hid (S3.out.set 0 (.int .i64 x.to) #[.int .i64 x.to, .slice a n cap] rfl)
    have HO4 := Lib.hid (HO3.out.set (g := w.heap.size) (i := 0) (u := .int .i64 x.to) (by have := S3.out.t; omega))
    go_upto_region 25 with fail
    generalize w3.setCell ⟨w.heap.size, 0, none⟩ (.int .i64 x.to) = w4 at S4 HO4 ⊢
    clear k3 z3 f3 s3 S3 HO3
    go_wp2_with fail
    go_loopw [10, 11, 12] (fun o_ l_ i_ wr => ∃ (k : Nat) (nx : Int) (os ls : List It), i_ = .int .i64 k ∧ k ≤ n ∧ os.length ≤ k ∧ ls.length ≤ k ∧ sift x.to (l.held.take k) = (os, nx, ls) ∧ OwnE encI 30 wr w0.heap.size o_ (x :: os) ∧ OwnE encI 30 wr w0.heap.size l_ ls ∧ Dj o_ l_ ∧
      Lp w wr w0.heap.size #[.int .i64 nx, .slice a n cap] XA ZL) (fun _ _ i_ _ => n - (intOf i_).toNat)
    case atStart => exact ⟨0, x.to, [], [], rfl, Nat.zero_le _, Nat.zero_le _, Nat.zero_le _, rfl, HO4.out, OwnE.nil _ _ _ _, (Dj.nil _).symm, S4.out⟩
    case round =>
      obtain ⟨k, nx, os, ls, rfl, hkn, hok, hlk, hsf, hoo, hol, hdj, hlp⟩ := hrel
      have HO := Lib.hid hoo
      have HL := Lib.hid hol
      have HD := Lib.hid hdj
      have S := Lib.hid hlp
      have HSF := Lib.hid hsf
      clear hoo hol hdj hlp hsf
      obtain ⟨zz0, f0, s0⟩ := S.out.cell 0
      have z0 : wr.cell? ⟨w.heap.size, 0, none⟩ = some (.int .i64 nx) := zz0
      obtain ⟨zz1, f1, -⟩ := S.out.cell 1
      have z1 : wr.cell? ⟨w.heap.size, 1, none⟩ = some (.slice a n cap) := zz1
      clear zz0 zz1
      by_cases hlt : k < n
      · obtain ⟨y, hy⟩ : ∃ z, l.held[k]? = some z := ⟨l.held[k]'(by rw [HN.out]; exact hlt), List.getElem?_eq_getElem _⟩
        have HTK : Hid (l.held.take (k + 1) = l.held.take k ++ [y]) := Lib.hid (by rw [List.take_add_one, hy]; rfl)
        have HSN : Hid (sift x.to (l.held.take (k + 1)) = if nx < y.fr then (os, nx, ls ++ [y]) else if nx < y.to then (os ++ [y], y.to, ls) else (os, nx, ls)) := Lib.hid (by rw [HTK.out, sift_snoc, HSF.out])
        have HROW := Lib.hid (HR.out.later S.out.b)
        obtain ⟨b, off, rfl, _⟩ := HROW.out.at (by rw [HN.out]; omega) (by decide)
        have hc0 : n ≤ cap := by
          rcases HROW.out with ⟨h, _⟩ | ⟨_, _, h, _⟩
          · cases h
          · rwa [HN.out] at h
        have HEL := Lib.hid (item_at HROW.out hy)
        obtain ⟨YA, hYA⟩ : ∃ X, y.arr = X := ⟨_, rfl⟩
        have hiY : (Try.prog.info? 30).map (·.size) = some YA.size := by rw [← hYA]; kernel_rfl
        rw [hYA] at HEL
        have HYF : Hid (20 = YA.size ∧ YA.toList = encI.of y ∧ YA.all (·.oneCell') = true ∧ YA[0]? = some (.int .i64 y.fr) ∧ YA[1]? = some (.int .i64 y.to)) := Lib.hid (by rw [← hYA]; exact ⟨rfl, rfl, by unfold It.arr; simp [Value.oneCell'], rfl, rfl⟩)
        have hys : YA.size = 20 := HYF.out.1.symm
        clear hYA hy
        go_upto_region 30 with (first | (refine wpList_load_arr_g (by rfl) 30 _ rfl b (off + k * 20) rfl YA _ HEL.out Try.underlying30 rfl hiY ?_) | (refine wpList_store_row rfl 30 _ _ rfl wr.heap.size YA rfl rfl _ _ (heap_alloc_last _ _) hiY HYF.out.1 HYF.out.2.2.1 ?_; rw [World.setRow_alloc_new]))
        obtain ⟨p, hp⟩ : ∃ p, wr.heap.size = p := ⟨_, rfl⟩
        have HYB : Hid ((wr.alloc (.cells YA 30)).heap[p]? = some (.cells YA 30 (0, 0))) := Lib.hid (hp ▸ heap_alloc_new _ _)
        have HPB : Hid (w0.heap.size ≤ p) := Lib.hid (hp ▸ S.out.s)
        have S5 := Lib.hid (S.out.later ((Below.refl _ wr).alloc S.out.s (.cells YA 30)))
        have HO5 := Lib.hid (HO.out.kept ((Below.refl _ _).alloc (Nat.le_refl _) (.cells YA 30)))
        have HL5 := Lib.hid (HL.out.kept ((Below.refl _ _).alloc (Nat.le_refl _) (.cells YA 30)))
        have HOL := Lib.hid (fun g hg => Nat.lt_of_lt_of_eq (HO.out.lt g hg).2 hp)
        rw [hp]
        generalize wr.alloc (.cells YA 30) = w5 at HYB S5 HO5 HL5 ⊢
        have hPs : p < w5.heap.size := (Array.getElem?_eq_some_iff.1 HYB.out).1
        have HPS := Lib.hid hPs
        clear hp z0 z1 f0 f1 s0 S HO HL HROW HEL hPs
        have HYR := Lib.hid (block_range HYB.out)
        have y0 : w5.cell? ⟨p, 0, none⟩ = some (.int .i64 y.fr) := cell_at HYB.out HYF.out.2.2.2.1
        have y1 : w5.cell? ⟨p, 1, none⟩ = some (.int .i64 y.to) := cell_at HYB.out HYF.out.2.2.2.2
        obtain ⟨zz0, f0, s0⟩ := S5.out.cell 0
        have z0 : w5.cell? ⟨w.heap.size, 0, none⟩ = some (.int .i64 nx) := zz0
        clear zz0
        by_cases c3 : nx < y.fr
        · have HS2 : Hid (sift x.to (l.held.take (k + 1)) = (os, nx, ls ++ [y])) := Lib.hid (by rw [HSN.out, if_pos c3])
          go_wp2_with (first | (at_builtin; refine wpList_append_row2 encI (by decide) rfl (.tmp 112) (.tmp 114) _ rfl w0.heap.size 30 j0 _ 208 Try.underlying22 HJ0.out HY0.out HY1.out HY2.out (by rfl) _ ls rfl (HL5.out.kept ((Below.refl _ _).alloc (Nat.le_refl _) _)) _ _ _ [y] rfl (by rfl) (one_row encI _ 30 _ _ (by rw [fill_all (k := 20)]; exact HYF.out.2.1; rfl; exact HYF.out.1.symm)) (by simp only [List.length_cons, List.length_nil, maxLen]; omega) (by simp only [List.length_cons, List.length_nil]; omega) (Nat.le_trans S5.out.s (by simp)) ?_; intro v2 w8 hown2 hgr hat; have HB8 := Lib.hid (below_grown (HL5.out.kept ((Below.refl _ _).alloc (Nat.le_refl _) _)) (Nat.le_trans S5.out.s (by simp)) hgr); have S8 := Lib.hid ((S5.out.later ((Below.refl _ _).alloc S5.out.s _)).later HB8.out); have HL8 := Lib.hid hown2; have HO8 := Lib.hid (HD.out.symm.other (HO5.out.kept ((Below.refl _ _).alloc (Nat.le_refl _) _)) hgr); have HD8 := Lib.hid (HD.out.symm.next (HO5.out.kept ((Below.refl _ _).alloc (Nat.le_refl _) _)) hat).symm; clear hown2 hgr hat) | (refine wpList_load_arr_g (by rfl) 30 _ rfl p 0 rfl YA _ HYR.out Try.underlying30 rfl hiY ?_))
          go_roundw
          case rel => exact ⟨k + 1, nx, os, ls ++ [y], congrArg (Value.int .i64) (by omega), by omega, by omega, by rw [List.length_append]; simp only [List.length_cons, List.length_nil]; omega, HS2.out, HO8.out, HL8.out, HD8.out, S8.out⟩
          case measure => simp [intOf]; omega
        · by_cases c4 : nx < y.to
          · have HS2 : Hid (sift x.to (l.held.take (k + 1)) = (os ++ [y], y.to, ls)) := Lib.hid (by rw [HSN.out, if_neg c3, if_pos c4])
            go_upto_region 34 with (first | (at_builtin; refine wpList_append_row2 encI (by decide) rfl (.tmp 121) (.tmp 123) _ rfl w0.heap.size 30 j0 _ 208 Try.underlying22 HJ0.out HY0.out HY1.out HY2.out (by rfl) _ (x :: os) rfl (HO5.out.kept ((Below.refl _ _).alloc (Nat.le_refl _) _)) _ _ _ [y] rfl (by rfl) (one_row encI _ 30 _ _ (by rw [fill_all (k := 20)]; exact HYF.out.2.1; rfl; exact HYF.out.1.symm)) (by simp only [List.length_cons, List.length_nil, maxLen]; omega) (by simp only [List.length_cons, List.length_nil]; omega) (Nat.le_trans S5.out.s (by simp)) ?_; intro v2 w8 hown2 hgr hat; have HB8 := Lib.hid (below_grown (HO5.out.kept ((Below.refl _ _).alloc (Nat.le_refl _) _)) (Nat.le_trans S5.out.s (by simp)) hgr); have S8 := Lib.hid ((S5.out.later ((Below.refl _ _).alloc S5.out.s _)).later HB8.out); have HO8 := Lib.hid hown2; have HL8 := Lib.hid (HD.out.other (HL5.out.kept ((Below.refl _ _).alloc (Nat.le_refl _) _)) hgr); have HD8 := Lib.hid (HD.out.next (HL5.out.kept ((Below.refl _ _).alloc (Nat.le_refl _) _)) hat); have HY8 : Hid (w8.heap[p]? = some (.cells YA 30 (0, 0))) := Lib.hid ((hgr.block p (by have := HPS.out; simp; omega) (fun e => Nat.lt_irrefl _ (HOL.out p e.symm))).trans (alloc_block HYB.out)); clear hown2 hgr hat) | (refine wpList_load_arr_g (by rfl) 30 _ rfl p 0 rfl YA _ HYR.out Try.underlying30 rfl hiY ?_))
            have y8 : w8.cell? ⟨p, 1, none⟩ = some (.int .i64 y.to) := cell_at HY8.out HYF.out.2.2.2.2
            clear y0 y1 z0 f0 s0
            obtain ⟨zz0, f0, s0⟩ := S8.out.cell 0
            have z0 : w8.cell? ⟨w.heap.size, 0, none⟩ = some (.int .i64 nx) := zz0
            clear zz0
            have S9 := Lib.hid (S8.out.set 0 (.int .i64 y.to) #[.int .i64 y.to, .slice (some ⟨b, off, none⟩) n cap] rfl)
            have HO9 := Lib.hid (HO8.out.set (g := w.heap.size) (i := 0) (u := .int .i64 y.to) (by have := S8.out.t; omega))
            have HL9 := Lib.hid (HL8.out.set (g := w.heap.size) (i := 0) (u := .int .i64 y.to) (by have := S8.out.t; omega))
            go_wp2_with fail
            go_roundw
            case rel => exact ⟨k + 1, y.to, os ++ [y], ls, congrArg (Value.int .i64) (by omega), by omega, by rw [List.length_append]; simp only [List.length_cons, List.length_nil]; omega, by omega, HS2.out, HO9.out, HL9.out, HD8.out, S9.out⟩
            case measure => simp [intOf]; omega
          · have HS2 : Hid (sift x.to (l.held.take (k + 1)) = (os, nx, ls)) := Lib.hid (by rw [HSN.out, if_neg c3, if_neg c4])
            go_wp2_with fail
            go_roundw
            case rel => exact ⟨k + 1, nx, os, ls, congrArg (Value.int .i64) (by omega), by omega, by omega, by omega, HS2.out, HO5.out, HL5.out, HD.out, S5.out⟩
            case measure => simp [intOf]; omega
      · obtain rfl : k = n := by omega
        have HC : Hid (come l x = (⟨nx, ls⟩, x :: os, 1)) := Lib.hid (by
          rw [HCT.out]
          have h := HSF.out
          rw [List.take_of_length_le (by rw [HN.out]; exact Nat.le_refl _)] at h
          rw [h])
        obtain ⟨la, lc, rfl, _⟩ := HL.out.row
        obtain ⟨oa, oc, rfl, _⟩ := HO.out.row
        generalize ls.length = q at HL ⊢
        generalize (x :: os).length = q2 at HO ⊢
        have ST := Lib.hid (S.out.set 1 (.slice la q lc) #[.int .i64 nx, .slice la q lc] rfl)
        have HLT := Lib.hid (HL.out.set (g := w.heap.size) (i := 1) (u := .slice la q lc) (by have := S.out.t; omega))
        have HOT := Lib.hid (HO.out.set (g := w.heap.size) (i := 1) (u := .slice la q lc) (by have := S.out.t; omega))
        go_upto_region 36 with fail
        generalize wr.setCell ⟨w.heap.size, 1, none⟩ (.slice la q lc) = u9 at ST HLT HOT ⊢
        have hiB : (Try.prog.info? 24).map (·.size) = some (#[.int .i64 nx, .slice la q lc] : Array Value).size := by kernel_rfl
        have HLR := Lib.hid (block_range ST.out.l)
        have HSZ3 : Hid (ZL.size = 2) := Lib.hid (by rw [HSZ2.out, HSL.out.2.2])
        go_wp2_with (first | (refine wpList_load_arr_g (by rfl) 24 _ rfl w.heap.size 0 rfl #[.int .i64 nx, .slice la q lc] _ HLR.out Try.underlying24 rfl hiB ?_) | (refine wpList_store_row rfl 24 _ _ rfl (w.heap.size + 1 + 1) #[.int .i64 nx, .slice la q lc] rfl rfl _ _ ST.out.z hiB HSZ3.out (li_one _ _ _ _) ?_))
        refine bodyPost_ret (line_end rfl (w.heap.size + 1 + 1) _ _ _ _ ST.out.z rfl rfl) rfl ?_
        exact ST.out.told HLT.out HOT.out HC.out _

end Rsq
end Go.Proofs.Ytnldllmlfckecaa
