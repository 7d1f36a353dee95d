/-
  The walk of layer 3's law FrameFound.
-/
import Derived.Test.YtmgelpclnjkjkaaDoorFrmL
namespace Go.Proofs.YtmgelpclnjkjkaaDoor
open Go.RowKit
namespace Frm
open Num

theorem none_step {b : List UInt8} {k : Nat} (hk : k < b.length) (h : ∀ c ∈ b.take k, c ≠ 56) (h1 : b[k] ≠ 56) : ∀ c ∈ b.take (k + 1), c ≠ 56 := by
  intro c hc
  rw [List.take_succ_eq_append_getElem hk, List.mem_append, List.mem_singleton] at hc
  rcases hc with hc | rfl
  · exact h c hc
  · exact h1
theorem frame_ne (y : List UInt8) : frameY y ≠ [] := fun e => by have := frame_len y; rw [e] at this; simp at this

set_option maxRecDepth 100000 in
set_option maxHeartbeats 2000000 in
theorem law_FrameFound (a0 : Option Addr) (len0 cap0 : Nat) (z0 : List Int) (a1 : Option Addr) (len1 cap1 : Nat) (z1 : List Int) (a2 : Option Addr) (len2 cap2 : Nat) (z2 : List Int) (cut : Int) (w : World)
    (h0 : IsRow .u8 w a0 len0 cap0 z0) (h1 : IsRow .u8 w a1 len1 cap1 z1) (h2 : IsRow .u8 w a2 len2 cap2 z2) (hcut : (Lit.int .u16 cut).wf = true) (hl : Laid w) :
    Calls Tryd.prog 5 #[.slice a0 len0 cap0, .slice a1 len1 cap1, .slice a2 len2 cap2, .int .u16 cut] w fun e w' => e = .returned (.bool true) ∧ Below w.heap.size w w' := by
  obtain ⟨J, rfl, hm0, hj⟩ := h0.bytes
  obtain ⟨y, rfl, hm1, hy⟩ := h1.bytes
  obtain ⟨m, rfl, hm2, hm⟩ := h2.bytes
  have ⟨hc0, hc1⟩ : 0 ≤ cut ∧ cut ≤ 65535 := bounds_u16 hcut
  unfold maxLen at hm0 hm1 hm2
  have HJ := Lib.hid hj
  have HY := Lib.hid hy
  have HM := Lib.hid hm
  have HL := Lib.hid hl
  clear hj hy hm h0 h1 h2 hcut hl
  obtain ⟨i0, hi0, hz0, hz1, hz2⟩ := info_parts infoB
  have HI0 := Lib.hid hi0
  have HZ0 := Lib.hid hz0
  have HZ1 := Lib.hid hz1
  have HZ2 := Lib.hid hz2
  clear hi0 hz0 hz1 hz2
  go_enter Tryd.func5, Tryd.ntmps5
  go_wp2_with fail
  refine (awake_any _ HL.out).mono ?_
  rintro e w1 ⟨rfl, hb1⟩
  have HB1 := Lib.hid hb1
  clear hb1
  by_cases hj9 : 1000 < J.length
  · go_wp2_with fail
    go_ret
    exact ⟨rfl, HB1.out⟩
  have dj : decide ((1000 : Int) < (J.length : Int)) = false := decide_eq_false (by omega)
  by_cases hy9 : 1000 < y.length
  · go_wp2_with fail
    go_ret
    exact ⟨rfl, HB1.out⟩
  have dy : decide ((1000 : Int) < (y.length : Int)) = false := decide_eq_false (by omega)
  by_cases hm9 : 1000 < m.length
  · go_wp2_with fail
    go_ret
    exact ⟨rfl, HB1.out⟩
  have dm : decide ((1000 : Int) < (m.length : Int)) = false := decide_eq_false (by omega)
  obtain ⟨pe, hpe⟩ : ∃ pe, putE y = pe := ⟨_, rfl⟩
  have HPE := Lib.hid hpe
  clear hpe
  cases de : (pe != 0)
  · have HP0 : Hid (putE y = 0) := Lib.hid (by rw [HPE.out]; simpa using de)
    have HPB := Lib.hid (putB_ok HP0.out)
    obtain ⟨G, hG⟩ : ∃ G, frameY y = G := ⟨_, rfl⟩
    rw [hG] at HPB
    have HG := Lib.hid hG
    have hglen : G.length ≠ 0 ∧ G.length ≤ 1100 := by
      have h := frame_len y
      have h2 := (len_text (putE_ok HP0.out).1 (putE_ok HP0.out).2.1).2.1
      rw [hG] at h
      omega
    have HBG : Hid (begB (G ++ m) = true) := Lib.hid (by rw [← hG, frame_eq, List.append_assoc]; exact beg_pre _)
    have HNF : Hid (nextY (G ++ m) = (1, y, G.length)) := Lib.hid (by rw [← hG]; exact next_frame HP0.out m)
    obtain ⟨r, hr⟩ : ∃ r : Nat, cut % (G.length : Int) = (r : Int) := ⟨(cut % (G.length : Int)).toNat, by rw [Int.toNat_of_nonneg]; exact Int.emod_nonneg _ (by omega)⟩
    have hrl : r < G.length := by have := Int.emod_lt_of_pos cut (b := (G.length : Int)) (by omega); omega
    have HNC : Hid (nextY (G.take r) = (0, [], 0)) := Lib.hid (by rw [← hG]; exact next_cut HP0.out (by rw [hG]; exact hrl))
    clear hG
    go_wp2_with fail
    refine (put_is _ _ y _ rfl _ (HY.out.later HB1.out) (by omega) (HL.out.below HB1.out) _ _ HPB.out HPE.out).mono ?_
    rintro e w2 ⟨⟨v, rfl, ho⟩, hbel⟩
    have HB2 := Lib.hid (HB1.out.trans (hbel.mono HB1.out.size))
    obtain ⟨ga, gc, rfl, hgb⟩ := ho.bytes
    have HGB := Lib.hid hgb
    clear ho hbel hgb
    have hgc := HGB.out.cap
    go_wp2_with fail
    go_loop [11] (fun i_ => ∃ k : Nat, k ≤ J.length ∧ i_ = .int .i64 k ∧ ∀ c ∈ J.take k, c ≠ 56) (fun i_ => J.length - (intOf i_).toNat)
    case atStart => exact ⟨0, Nat.zero_le _, rfl, by simp⟩
    case round =>
      obtain ⟨k, hk, rfl, hno⟩ := hrel
      have HN := Lib.hid hno
      clear hno
      by_cases hlt : k < J.length
      · obtain ⟨bb, off, rfl, hcc⟩ := (HJ.out.later HB2.out).at (by omega)
        have hck := hcc k hlt
        obtain ⟨c, hcx⟩ : ∃ c, J[k] = c := ⟨_, rfl⟩
        rw [hcx] at hck
        cases d : ((c.toNat : Int) == 56)
        · have HN2 := Lib.hid (none_step hlt HN.out (by rw [hcx]; rintro rfl; simp at d))
          clear hcc hcx
          go_wp2_with fail
          go_round
          case rel => exact ⟨k + 1, by omega, by go_num, HN2.out⟩
          case measure => simp [intOf]; omega
        · clear hcc hcx
          go_wp2_with fail
          go_ret
          exact ⟨rfl, HB2.out⟩
      · obtain rfl : k = J.length := by omega
        have HN2 : Hid (∀ c ∈ J, c ≠ 56) := Lib.hid (by have h := HN.out; rwa [List.take_length] at h)
        clear HN
        go_wp2_with (first
          | (at_builtin; refine wpList_append_g rfl (.tmp 58) (.tmp 59) _ rfl w2.heap.size 5 i0 _ Tryd.underlying22 HI0.out HZ0.out HZ1.out HZ2.out rfl _ [] rfl (Own.g (own_empty w2 _ _ (Nat.le_refl _))) _ _ _ J rfl (by rfl) ((HJ.out.later HB2.out).later ((Below.refl _ _).alloc (Nat.le_refl _) _)) (by simp only [List.length_nil]; omega) (by simp) ?_; intro v3 w3 hown3 hb3 _
             rw [List.nil_append] at hown3
             have HB3 := Lib.hid (((Below.refl _ _).alloc (Nat.le_refl _) _).trans hb3); clear hb3)
          | (at_builtin; refine wpList_append_g rfl (.tmp 60) (.tmp 61) _ rfl w2.heap.size 5 i0 _ Tryd.underlying22 HI0.out HZ0.out HZ1.out HZ2.out rfl _ _ rfl hown3 _ _ _ G rfl (by rfl) (HGB.out.later HB3.out) (by omega) HB3.out.size ?_; intro v4 w4 hown4 hb4 _
             have HB4 := Lib.hid (HB3.out.trans hb4); clear hb4 hown3)
          | (at_builtin; refine wpList_append_g rfl (.tmp 62) (.tmp 63) _ rfl w2.heap.size 5 i0 _ Tryd.underlying22 HI0.out HZ0.out HZ1.out HZ2.out rfl _ _ rfl hown4 _ _ _ m rfl (by rfl) ((HM.out.later HB2.out).later HB4.out) (by rw [List.length_append]; omega) HB4.out.size ?_; intro v5 w5 hown5 hb5 _
             have HB5 := Lib.hid (HB4.out.trans hb5); have HO5 := Lib.hid hown5; clear hb5 hown4 hown5; obtain ⟨sa, sc, rfl, hsb⟩ := HO5.out.bytes; have HSB := Lib.hid hsb; clear hsb))
        · have hjp : 0 < J.length := by omega
          have hxl : (J ++ G ++ m).length = J.length + (G.length + m.length) := by rw [List.length_append, List.length_append, Nat.add_assoc]
          obtain ⟨bb, off, rfl, _⟩ := HSB.out.at (by rw [hxl]; omega)
          have hscap := HSB.out.cap
          rw [hxl] at hscap
          refine (next_is _ _ (J ++ G ++ m) _ hxl _ HSB.out (by omega) (HL.out.below (HB2.out.trans (HB5.out.mono HB2.out.size))) (2, [], J.length)
            (by rw [List.append_assoc]; exact next_junk HBG.out (by intro h; have h2 := congrArg List.length h; rw [List.length_append, List.length_nil] at h2; omega) (by intro h; rw [h] at hjp; simp at hjp) HN2.out)).mono ?_
          rintro e w6 ⟨ax, cx, rfl, hbx, _, hbel⟩
          have HWD2 := Lib.hid (HB5.out.trans (hbel.mono HB5.out.size))
          have HWD := Lib.hid (HB2.out.trans (HWD2.out.mono HB2.out.size))
          have HSD : Hid (BytesAt w6 (some ⟨bb, off + J.length, none⟩) (sc - J.length) (G ++ m)) := Lib.hid (by
            have h := (HSB.out.later hbel).drop J.length (by rw [hxl]; omega)
            rwa [add_none, List.append_assoc, List.drop_left] at h)
          clear hbel hbx hxl
          go_wp2_with fail
          refine (next_is _ _ (G ++ m) _ (by rw [List.length_append]) _ HSD.out (by omega) (HL.out.below HWD.out) _ HNF.out).mono ?_
          rintro e w7 ⟨ax2, cx2, rfl, hbx2, _, hbel⟩
          have HB7 := Lib.hid (HWD.out.trans (hbel.mono HWD.out.size))
          obtain ⟨S, hS⟩ : ∃ S : ByteArray, (⟨y.toArray⟩ : ByteArray) = S := ⟨_, rfl⟩
          have cv := string_of (P := Tryd.prog) Tryd.underlying22 Tryd.underlying5 Tryd.underlying9 hbx2 _ rfl
          have cw := string_of (P := Tryd.prog) Tryd.underlying22 Tryd.underlying5 Tryd.underlying9 (HY.out.later HB7.out) _ rfl
          rw [hS] at cv cw
          have HGB7 := Lib.hid (HGB.out.later (HWD2.out.trans (hbel.mono HWD2.out.size)))
          clear hbel hbx2 hS
          go_wp2_with fail
          · have HSUB : Hid (BytesAt w7 ga gc (G.take r)) := Lib.hid (HGB7.out.take r)
            refine (next_is _ _ (G.take r) r (by rw [List.length_take]; omega) _ HSUB.out (by omega) (HL.out.below HB7.out) _ HNC.out).mono ?_
            rintro e w8 ⟨ax3, cx3, rfl, hbx3, _, hbel⟩
            have HB8 := Lib.hid (HB7.out.trans (hbel.mono HB7.out.size))
            clear hbel hbx3
            go_wp2_with fail
            go_ret
            exact ⟨rfl, HB8.out⟩
        · obtain rfl : J = [] := List.length_eq_zero_iff.1 (by omega)
          have HWD2 := Lib.hid HB5.out
          have HWD := Lib.hid (HB2.out.trans (HB5.out.mono HB2.out.size))
          have HSD : Hid (BytesAt w5 sa sc (G ++ m)) := Lib.hid HSB.out
          refine (next_is _ _ (G ++ m) _ (by rw [List.length_append]; simp) _ HSD.out (by omega) (HL.out.below HWD.out) _ HNF.out).mono ?_
          rintro e w7 ⟨ax2, cx2, rfl, hbx2, _, hbel⟩
          have HB7 := Lib.hid (HWD.out.trans (hbel.mono HWD.out.size))
          obtain ⟨S, hS⟩ : ∃ S : ByteArray, (⟨y.toArray⟩ : ByteArray) = S := ⟨_, rfl⟩
          have cv := string_of (P := Tryd.prog) Tryd.underlying22 Tryd.underlying5 Tryd.underlying9 hbx2 _ rfl
          have cw := string_of (P := Tryd.prog) Tryd.underlying22 Tryd.underlying5 Tryd.underlying9 (HY.out.later HB7.out) _ rfl
          rw [hS] at cv cw
          have HGB7 := Lib.hid (HGB.out.later (HWD2.out.trans (hbel.mono HWD2.out.size)))
          clear hbel hbx2 hS
          go_wp2_with fail
          · have HSUB : Hid (BytesAt w7 ga gc (G.take r)) := Lib.hid (HGB7.out.take r)
            refine (next_is _ _ (G.take r) r (by rw [List.length_take]; omega) _ HSUB.out (by omega) (HL.out.below HB7.out) _ HNC.out).mono ?_
            rintro e w8 ⟨ax3, cx3, rfl, hbx3, _, hbel⟩
            have HB8 := Lib.hid (HB7.out.trans (hbel.mono HB7.out.size))
            clear hbel hbx3
            go_wp2_with fail
            go_ret
            exact ⟨rfl, HB8.out⟩
  · have HPB : Hid (putB y = []) := Lib.hid (putB_bad (by rw [HPE.out]; simpa using de))
    go_wp2_with fail
    refine (put_is _ _ y _ rfl _ (HY.out.later HB1.out) (by omega) (HL.out.below HB1.out) _ _ HPB.out HPE.out).mono ?_
    rintro e w2 ⟨⟨v, rfl, ho⟩, hbel⟩
    have HB2 := Lib.hid (HB1.out.trans (hbel.mono HB1.out.size))
    obtain ⟨ga, gc, rfl, hgb⟩ := ho.bytes
    clear ho hbel hgb
    go_wp2_with fail
    go_ret
    exact ⟨rfl, HB2.out⟩

end Frm
end Go.Proofs.YtmgelpclnjkjkaaDoor
