/-
  The walk of layer 4's laws: awake, FeedRight.
-/
import Derived.Test.YtnmhkjgcfhcmpaaDoorFrmPi
import Derived.Test.YtnmhkjgcfhcmpaaDoorFedP
import Derived.Test.YtnmhkjgcfhcmpaaDoorFedS
import Derived.Test.YtnmhkjgcfhcmpaaDoorArgB
namespace Go.Proofs.YtnmhkjgcfhcmpaaDoor
open Go.RowKit
namespace Frm
open Num

theorem in_is (a0 : Option Addr) (cap0 : Nat) (kept : List UInt8) (n0 : Nat) (hn0 : kept.length = n0) (a1 : Option Addr) (cap1 : Nat) (piece : List UInt8) (n1 : Nat) (hn1 : piece.length = n1) (w : World) (h0 : BytesAt w a0 cap0 kept) (h1 : BytesAt w a1 cap1 piece)
    (hl0 : n0 ≤ 1000000) (hl1 : n1 ≤ 1000000) (hl : Laid w) (r : Fed) (n : Int) (hr : inY kept piece = r) (hn : inE kept piece = n) :
    Calls Tryd.prog 8 #[.slice a0 n0 cap0, .slice a1 n1 cap1] w (GotFed w a0 a1 r n) := by
  subst hn0 hn1 hr hn
  exact in_any a0 cap0 kept a1 cap1 piece w h0 h1 hl0 hl1 hl

theorem rin_is (a0 : Option Addr) (cap0 : Nat) (kept : List UInt8) (n0 : Nat) (hn0 : kept.length = n0) (a1 : Option Addr) (cap1 : Nat) (piece : List UInt8) (n1 : Nat) (hn1 : piece.length = n1) (w : World) (h0 : BytesAt w a0 cap0 kept) (h1 : BytesAt w a1 cap1 piece)
    (hl0 : n0 ≤ 1000000) (hl1 : n1 ≤ 1000000) (r : Fed) (n : Int) (hr : inY kept piece = r) (hn : inE kept piece = n) :
    Calls Tryd.prog 9 #[.slice a0 n0 cap0, .slice a1 n1 cap1] w (GotFed w a0 a1 r n) := by
  subst hn0 hn1 hr hn
  exact rin_any a0 cap0 kept a1 cap1 piece w h0 h1 hl0 hl1
/-- no more bodies than bytes -/
theorem feed_len (s : List UInt8) : (feedY s).1.length ≤ s.length := by
  have ⟨h1, h2⟩ := feed_count s.length s (Nat.le_refl _)
  have h3 : ∀ l : List (List UInt8), (∀ y ∈ l, putE y = 0) → l.length ≤ framesLen l := by
    intro l
    induction l with
    | nil => intro _; exact Nat.le_refl _
    | cons y l ih =>
      intro h
      have h4 := frame_len y
      rw [← putB_ok (h y (by simp))] at h4
      have h5 := ih fun z hz => h z (by simp [hz])
      unfold framesLen at *
      rw [List.map_cons, List.sum_cons, List.length_cons]
      omega
  have := h3 _ h1
  omega
theorem in_len (x y : List UInt8) : (inY x y).1.length ≤ 81919 := by
  unfold inY
  split
  · exact Nat.zero_le _
  · have := feed_len (x ++ y)
    rw [List.length_append] at this
    omega

/-- the two halves of the first look -/
theorem one_first : inY [] ([120, 121] ++ oneF.take 9) = ([], 2, oneF.take 9) ∧ inE [] ([120, 121] ++ oneF.take 9) = 0 := by
  have hf : frameY oneY = oneF := by rw [← putB_ok one_put.1]; exact one_put.2
  have hc : nextY (oneF.take 9) = (0, [], 0) := by rw [← hf]; exact next_cut one_put.1 (by rw [hf]; decide)
  have h1 : feedY (oneF.take 9) = ([], 0, oneF.take 9) := feed_need (by rw [hc])
  have hs : skip ([120, 121] ++ oneF.take 9) = 2 := skip_junk (by decide) (by decide) [120, 121] (by decide)
  have h2 : feedY ([120, 121] ++ oneF.take 9) = ([], 2, oneF.take 9) := by
    rw [feed_skip, hs]
    show joinF [] 2 (feedY (oneF.take 9)) = _
    rw [h1]; rfl
  refine ⟨?_, rfl⟩
  unfold inY
  rw [if_neg (by decide), List.nil_append]
  exact h2
theorem one_second : inY (oneF.take 9) (oneF.drop 9) = ([oneY], 0, []) ∧ inE (oneF.take 9) (oneF.drop 9) = 0 := by
  have hf : frameY oneY = oneF := by rw [← putB_ok one_put.1]; exact one_put.2
  have h2 := feed_between (a := []) (b := []) one_put.1 (by simp) (by simp)
  rw [List.nil_append, List.append_nil, hf] at h2
  refine ⟨?_, rfl⟩
  unfold inY
  rw [if_neg (by decide), List.take_append_drop]
  exact h2

set_option maxRecDepth 100000 in
set_option maxHeartbeats 1000000 in
theorem awake4_any (w : World) (hl : Laid w) :
    Calls Tryd.prog 7 #[] w fun e w' => e = .returned (.bool true) ∧ Below w.heap.size w w' := by
  have HL := Lib.hid hl
  clear hl
  obtain ⟨i0, hi0, hz0, hz1, hz2⟩ := info_parts infoB
  have HI0 := Lib.hid hi0
  have HZ0 := Lib.hid hz0
  have HZ1 := Lib.hid hz1
  have HZ2 := Lib.hid hz2
  clear hi0 hz0 hz1 hz2
  have kc := fun (w : World) (C : Array Value) (n c : Nat) => Lib.run_convert_bytes_const (P := Tryd.prog) w 22 5 C n c Tryd.underlying22 Tryd.underlying5
  go_enter Tryd.func7, Tryd.ntmps7
  go_wp2_with fail
  have HL0 : Hid (∀ o, Laid (w.alloc o)) := Lib.hid fun o => HL.out.below ((Below.refl _ _).alloc (Nat.le_refl _) _)
  refine (put_is _ _ oneY 5 rfl _ (bytes_alloc w _ _ _ oneY rfl 5 (Nat.le_refl _)) (by decide) (HL0.out _) _ _ one_put.2 one_put.1).mono ?_
  rintro e w1 ⟨⟨v, rfl, ho⟩, hbel⟩
  have HW1 := Lib.hid (((Below.refl _ w).alloc (Nat.le_refl _) _).trans (hbel.mono (by simp)))
  have HO := Lib.hid ho
  obtain ⟨a1, c1, hv, hb1⟩ := ho.bytes
  rw [show oneF.length = 26 from rfl] at hv
  subst hv
  have hcap := hb1.cap
  rw [show oneF.length = 26 from rfl] at hcap
  obtain ⟨g1, rfl, _, _⟩ := ho.block (by decide)
  have HB1 := Lib.hid hb1
  clear ho hbel hb1
  have HX : Hid (∀ W, Below w1.heap.size w1 W → BytesAt W (some ⟨g1, 0, none⟩) c1 (oneF.take 9)) := Lib.hid fun W hW => (HB1.out.later hW).take 9
  go_wp2_with (at_builtin; refine wpList_append_g rfl (.tmp 22) (.tmp 24) _ rfl w1.heap.size 5 i0 _ Tryd.underlying22 HI0.out HZ0.out HZ1.out HZ2.out rfl _ _ rfl (own_lit w1 _ _ _ [120, 121] rfl 2 rfl (by decide) (.inl (Nat.le_refl _))) _ _ _ (oneF.take 9) rfl (by rfl) (HX.out _ ((Below.refl _ _).alloc (Nat.le_refl _) _)) (by decide) (by simp) ?_; intro v3 w3 hown3 hb3 _
               have HB3 := Lib.hid (((Below.refl _ _).alloc (Nat.le_refl _) _).trans hb3); have HO3 := Lib.hid hown3; clear hb3 hown3; obtain ⟨sa, sc, rfl, hsb⟩ := HO3.out.bytes; have HSB := Lib.hid hsb; clear hsb)
  have HW3 := Lib.hid (HW1.out.trans (HB3.out.mono HW1.out.size))
  refine (in_is none 0 [] 0 rfl _ _ ([120, 121] ++ oneF.take 9) _ rfl _ (.inl ⟨rfl, rfl, rfl⟩) HSB.out (by decide) (by decide) (HL.out.below HW3.out) _ _ one_first.1 one_first.2).mono ?_
  rintro e w4 ⟨ka, kc2, la, lc, ts, rfl, hk, _, _, _, hbel⟩
  have HB4 := Lib.hid (HB3.out.trans (hbel.mono HB3.out.size))
  have HW4 := Lib.hid (HW1.out.trans (HB4.out.mono HW1.out.size))
  have HK := Lib.hid hk
  clear hbel hk
  have HY : Hid (BytesAt w4 (some ⟨g1, 9, none⟩) (c1 - 9) (oneF.drop 9)) := Lib.hid (by
    have h := (HB1.out.later HB4.out).drop 9 (by decide)
    rwa [add_none] at h)
  rw [show (([], 2, oneF.take 9) : Fed).2.2.length = 9 from rfl]
  go_wp2_with fail
  refine (in_is _ _ (oneF.take 9) 9 rfl _ _ (oneF.drop 9) 17 rfl _ HK.out HY.out (by decide) (by decide) (HL.out.below HW4.out) _ _ one_second.1 one_second.2).mono ?_
  rintro e w5 ⟨ka2, kc3, la2, lc2, ts2, rfl, _, hrow, hmat, _, hbel⟩
  have HW5 := Lib.hid (HW4.out.trans (hbel.mono HW4.out.size))
  obtain ⟨b5, o5, rfl, hcell⟩ := Bodies.at (ys := [oneY]) ⟨ts2, hrow, hmat⟩ (by decide)
  obtain ⟨x5, c5, e5, y5⟩ := hcell 0 oneY rfl
  rw [Nat.add_zero, show oneY.length = 5 from rfl] at e5
  have cv : (convert 22 9 (.slice x5 5 c5)).run Tryd.prog w5 = .ok (.string ⟨#[51, 53, 61, 48, 1]⟩) w5 := string_of (P := Tryd.prog) Tryd.underlying22 Tryd.underlying5 Tryd.underlying9 y5 5 rfl
  clear hrow hmat hbel hcell y5
  go_wp2_with fail
  go_ret
  exact ⟨rfl, HW5.out⟩

set_option maxRecDepth 100000 in
set_option maxHeartbeats 1000000 in
theorem law_FeedRight (a0 : Option Addr) (len0 cap0 : Nat) (z0 : List Int) (a1 : Option Addr) (len1 cap1 : Nat) (z1 : List Int) (w : World) (h0 : IsRow .u8 w a0 len0 cap0 z0) (h1 : IsRow .u8 w a1 len1 cap1 z1) (hl : Laid w) :
    Calls Tryd.prog 3 #[.slice a0 len0 cap0, .slice a1 len1 cap1] w fun e w' => e = .returned (.bool true) ∧ Below w.heap.size w w' := by
  obtain ⟨x, rfl, hm0, hx⟩ := h0.bytes
  obtain ⟨y, rfl, hm1, hy⟩ := h1.bytes
  unfold maxLen at hm0 hm1
  have HX := Lib.hid hx
  have HY := Lib.hid hy
  have HL := Lib.hid hl
  clear hx hy h0 h1 hl
  obtain ⟨ys, j, r, hr⟩ : ∃ ys j r, inY x y = (ys, j, r) := ⟨_, _, _, rfl⟩
  obtain ⟨ne, hne⟩ : ∃ n, inE x y = n := ⟨_, rfl⟩
  have HR := Lib.hid hr
  have HE := Lib.hid hne
  have hyl := in_len x y
  rw [hr] at hyl
  simp only at hyl
  clear hr hne
  go_enter Tryd.func3, Tryd.ntmps3
  go_wp2_with fail
  refine (awake4_any _ HL.out).mono ?_
  rintro e w1 ⟨rfl, hb1⟩
  have HB1 := Lib.hid hb1
  clear hb1
  by_cases hx9 : 9000 < x.length
  · go_wp2_with fail
    go_ret
    exact ⟨rfl, HB1.out⟩
  have dx : decide ((9000 : Int) < (x.length : Int)) = false := decide_eq_false (by omega)
  by_cases hy9 : 9000 < y.length
  · go_wp2_with fail
    go_ret
    exact ⟨rfl, HB1.out⟩
  have dy : decide ((9000 : Int) < (y.length : Int)) = false := decide_eq_false (by omega)
  go_wp2_with fail
  refine (in_is _ _ x _ rfl _ _ y _ rfl _ (HX.out.later HB1.out) (HY.out.later HB1.out) (by omega) (by omega) (HL.out.below HB1.out) _ _ HR.out HE.out).mono ?_
  rintro e w2 ⟨ka, kc, la, lc, ts, rfl, hk, hrow, hmat, _, hbel⟩
  have HB2 := Lib.hid (HB1.out.trans (hbel.mono HB1.out.size))
  have HK := Lib.hid hk
  have HBO : Hid (Bodies w2 la lc ys) := Lib.hid ⟨ts, hrow, hmat⟩
  clear hk hrow hmat hbel
  go_wp2_with fail
  refine (rin_is _ _ x _ rfl _ _ y _ rfl _ (HX.out.later HB2.out) (HY.out.later HB2.out) (by omega) (by omega) _ _ HR.out HE.out).mono ?_
  rintro e w3 ⟨ka2, kc2, la2, lc2, ts2, rfl, hk, hrow, hmat, _, hbel⟩
  have HB3 := Lib.hid (HB2.out.trans (hbel.mono HB2.out.size))
  have HK2 := Lib.hid (HK.out.later hbel)
  have HK3 := Lib.hid hk
  have HBO2 := Lib.hid (HBO.out.later hbel)
  have HBO3 : Hid (Bodies w3 la2 lc2 ys) := Lib.hid ⟨ts2, hrow, hmat⟩
  clear hk hrow hmat hbel
  have cv := string_of (P := Tryd.prog) Tryd.underlying22 Tryd.underlying5 Tryd.underlying9 HK2.out _ rfl
  have cw := string_of (P := Tryd.prog) Tryd.underlying22 Tryd.underlying5 Tryd.underlying9 HK3.out _ rfl
  go_wp2_with fail
  refine (rsame_true _ _ _ _ ys _ HBO2.out HBO3.out (by omega)).mono ?_
  rintro e w4 ⟨rfl, hbel⟩
  have HB4 := Lib.hid (HB3.out.trans (hbel.mono HB3.out.size))
  clear hbel cv cw
  go_wp2_with fail
  go_ret
  exact ⟨rfl, HB4.out⟩

end Frm
end Go.Proofs.YtnmhkjgcfhcmpaaDoor
