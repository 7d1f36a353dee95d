/-
  The walk of layer 4's law FeedJunk.
-/
import Derived.Test.YtnmhkjgcfhcmpaaDoorFedN
namespace Go.Proofs.YtnmhkjgcfhcmpaaDoor
open Go.RowKit
namespace Frm
open Num

theorem no8_step {b : List UInt8} {k : Nat} (hk : k < b.length) (h : ∀ c ∈ b.take k, c ≠ 56) (h1 : b[k] ≠ 56) : ∀ c ∈ b.take (k + 1), c ≠ 56 := by
  intro c hc
  rw [List.take_succ_eq_append_getElem hk, List.mem_append, List.mem_singleton] at hc
  rcases hc with hc | rfl
  · exact h c hc
  · exact h1

set_option maxRecDepth 100000 in
set_option maxHeartbeats 2000000 in
theorem law_FeedJunk (a0 : Option Addr) (len0 cap0 : Nat) (z0 : List Int) (a1 : Option Addr) (len1 cap1 : Nat) (z1 : List Int) (a2 : Option Addr) (len2 cap2 : Nat) (z2 : List Int) (w : World)
    (h0 : IsRow .u8 w a0 len0 cap0 z0) (h1 : IsRow .u8 w a1 len1 cap1 z1) (h2 : IsRow .u8 w a2 len2 cap2 z2) (hl : Laid w) :
    Calls Tryd.prog 6 #[.slice a0 len0 cap0, .slice a1 len1 cap1, .slice a2 len2 cap2] w fun e w' => e = .returned (.bool true) ∧ Below w.heap.size w w' := by
  obtain ⟨x, rfl, hm0, hx⟩ := h0.bytes
  obtain ⟨y, rfl, hm1, hy⟩ := h1.bytes
  obtain ⟨z, rfl, hm2, hz⟩ := h2.bytes
  unfold maxLen at hm0 hm1 hm2
  have HX := Lib.hid hx
  have HY := Lib.hid hy
  have HZ := Lib.hid hz
  have HL := Lib.hid hl
  clear hx hy hz h0 h1 h2 hl
  obtain ⟨i0, hi0, hz0, hz1, hz2⟩ := info_parts infoB
  have HI0 := Lib.hid hi0
  have HZ0 := Lib.hid hz0
  have HZ1 := Lib.hid hz1
  have HZ2 := Lib.hid hz2
  clear hi0 hz0 hz1 hz2
  go_enter Tryd.func6, Tryd.ntmps6
  go_wp2_with fail
  refine (awake4_any _ HL.out).mono ?_
  rintro e w1 ⟨rfl, hb1⟩
  have HB1 := Lib.hid hb1
  clear hb1
  by_cases hx9 : 1000 < x.length
  · go_wp2_with fail
    go_ret
    exact ⟨rfl, HB1.out⟩
  have dx : decide ((1000 : Int) < (x.length : Int)) = false := decide_eq_false (by omega)
  by_cases hy9 : 1000 < y.length
  · go_wp2_with fail
    go_ret
    exact ⟨rfl, HB1.out⟩
  have dy : decide ((1000 : Int) < (y.length : Int)) = false := decide_eq_false (by omega)
  by_cases hz9 : 1000 < z.length
  · go_wp2_with fail
    go_ret
    exact ⟨rfl, HB1.out⟩
  have dz : decide ((1000 : Int) < (z.length : Int)) = false := decide_eq_false (by omega)
  go_wp2_with fail
  go_loop [7] (fun i_ => ∃ k : Nat, k ≤ x.length ∧ i_ = .int .i64 k ∧ ∀ c ∈ x.take k, c ≠ 56) (fun i_ => x.length - (intOf i_).toNat)
  case atStart => exact ⟨0, Nat.zero_le _, rfl, by simp⟩
  case round =>
    obtain ⟨k, hk, rfl, hno⟩ := hrel
    have HN := Lib.hid hno
    clear hno
    by_cases hlt : k < x.length
    · obtain ⟨bb, off, rfl, hcc⟩ := (HX.out.later HB1.out).at (by omega)
      have hck := hcc k hlt
      obtain ⟨c, hcx⟩ : ∃ c, x[k] = c := ⟨_, rfl⟩
      rw [hcx] at hck
      cases d : ((c.toNat : Int) == 56)
      · have HN2 := Lib.hid (no8_step hlt HN.out (by rw [hcx]; rintro rfl; simp at d))
        clear hcc hcx
        go_wp2_with fail
        go_round
        case rel => exact ⟨k + 1, by omega, by go_num, HN2.out⟩
        case measure => simp [intOf]; omega
      · clear hcc hcx
        go_wp2_with fail
        go_ret
        exact ⟨rfl, HB1.out⟩
    · obtain rfl : k = x.length := by omega
      have HNX : Hid (∀ c ∈ x, c ≠ 56) := Lib.hid (by have h := HN.out; rwa [List.take_length] at h)
      clear HN
      go_wp2_with fail
      go_loop [8] (fun i_ => ∃ k : Nat, k ≤ z.length ∧ i_ = .int .i64 k ∧ ∀ c ∈ z.take k, c ≠ 56) (fun i_ => z.length - (intOf i_).toNat)
      case atStart => exact ⟨0, Nat.zero_le _, rfl, by simp⟩
      case round =>
        obtain ⟨k, hk, rfl, hno⟩ := hrel
        have HN := Lib.hid hno
        clear hno
        by_cases hlt : k < z.length
        · obtain ⟨bb, off, rfl, hcc⟩ := (HZ.out.later HB1.out).at (by omega)
          have hck := hcc k hlt
          obtain ⟨c, hcx⟩ : ∃ c, z[k] = c := ⟨_, rfl⟩
          rw [hcx] at hck
          cases d : ((c.toNat : Int) == 56)
          · have HN2 := Lib.hid (no8_step hlt HN.out (by rw [hcx]; rintro rfl; simp at d))
            clear hcc hcx
            go_wp2_with fail
            go_round
            case rel => exact ⟨k + 1, by omega, by go_num, HN2.out⟩
            case measure => simp [intOf]; omega
          · clear hcc hcx
            go_wp2_with fail
            go_ret
            exact ⟨rfl, HB1.out⟩
        · obtain rfl : k = z.length := by omega
          have HNZ : Hid (∀ c ∈ z, c ≠ 56) := Lib.hid (by have h := HN.out; rwa [List.take_length] at h)
          clear HN
          have HI : Hid (inY [] x = ([], x.length, []) ∧ inE [] x = 0) := Lib.hid (by
            have h := in_small (x := []) (y := x) (by decide) (by omega)
            rw [List.nil_append, feed_none HNX.out] at h
            exact h)
          go_wp2_with fail
          refine (in_is none 0 [] 0 rfl _ _ x _ rfl _ (.inl ⟨rfl, rfl, rfl⟩) (HX.out.later HB1.out) (by decide) (by omega) (HL.out.below HB1.out) _ _ HI.out.1 HI.out.2).mono ?_
          rintro e w2 ⟨ka, kc, la, lc, ts, rfl, _, _, _, _, hbel⟩
          have HB2 := Lib.hid (HB1.out.trans (hbel.mono HB1.out.size))
          clear hbel
          obtain ⟨pe, hpe⟩ : ∃ pe, putE y = pe := ⟨_, rfl⟩
          have HPE := Lib.hid hpe
          clear hpe
          cases de : (pe != 0)
          · have HP0 : Hid (putE y = 0) := Lib.hid (by rw [HPE.out]; simpa using de)
            have HPB := Lib.hid (putB_ok HP0.out)
            have HJ0 : Hid (feedY (x ++ frameY y ++ z) = ([y], x.length + z.length, [])) := Lib.hid (feed_between HP0.out HNX.out HNZ.out)
            obtain ⟨G, hG⟩ : ∃ G, frameY y = G := ⟨_, rfl⟩
            have hglen : G.length ≤ 1100 := by
              have h := frame_len y
              have h2 := (len_text (putE_ok HP0.out).1 (putE_ok HP0.out).2.1).2.1
              rw [hG] at h
              omega
            rw [hG] at HPB HJ0
            clear hG
            obtain ⟨q, hq⟩ : ∃ q, x.length + z.length = q := ⟨_, rfl⟩
            rw [hq] at HJ0
            have dq : ((q : Int) == (x.length : Int) + (z.length : Int)) = true := beq_iff_eq.2 (by omega)
            have hxg : (x ++ G ++ z).length = x.length + (G.length + z.length) := by rw [List.length_append, List.length_append, Nat.add_assoc]
            have HXG := Lib.hid hxg
            have HI2 : Hid (inY [] (x ++ G ++ z) = ([y], q, []) ∧ inE [] (x ++ G ++ z) = 0) := Lib.hid (by
              have h := in_small (x := []) (y := x ++ G ++ z) (by decide) (by omega)
              rw [List.nil_append, HJ0.out] at h
              exact h)
            obtain ⟨S, hS⟩ : ∃ S : ByteArray, (⟨y.toArray⟩ : ByteArray) = S := ⟨_, rfl⟩
            clear hq hxg
            go_wp2_with fail
            refine (put_is _ _ y _ rfl _ (HY.out.later HB2.out) (by omega) (HL.out.below HB2.out) _ _ HPB.out HPE.out).mono ?_
            rintro e w3 ⟨⟨v, rfl, ho⟩, hbel⟩
            have HB3 := Lib.hid (HB2.out.trans (hbel.mono HB2.out.size))
            obtain ⟨ga, gc, rfl, hgb⟩ := ho.bytes
            have HGB := Lib.hid hgb
            clear ho hbel hgb
            go_wp2_with (first
              | (at_builtin; refine wpList_append_g rfl (.tmp 85) (.tmp 86) _ rfl w3.heap.size 5 i0 _ Tryd.underlying22 HI0.out HZ0.out HZ1.out HZ2.out rfl _ [] rfl (Own.g (own_empty w3 _ _ (Nat.le_refl _))) _ _ _ x rfl (by rfl) ((HX.out.later HB3.out).later ((Below.refl _ _).alloc (Nat.le_refl _) _)) (by simp only [List.length_nil]; omega) (by simp) ?_; intro v4 w4 hown4 hb4 _
                 rw [List.nil_append] at hown4
                 have HB4 := Lib.hid (((Below.refl _ _).alloc (Nat.le_refl _) _).trans hb4); clear hb4)
              | (at_builtin; refine wpList_append_g rfl (.tmp 87) (.tmp 88) _ rfl w3.heap.size 5 i0 _ Tryd.underlying22 HI0.out HZ0.out HZ1.out HZ2.out rfl _ _ rfl hown4 _ _ _ G rfl (by rfl) (HGB.out.later HB4.out) (by omega) HB4.out.size ?_; intro v5 w5 hown5 hb5 _
                 have HB5 := Lib.hid (HB4.out.trans hb5); clear hb5 hown4)
              | (at_builtin; refine wpList_append_g rfl (.tmp 89) (.tmp 90) _ rfl w3.heap.size 5 i0 _ Tryd.underlying22 HI0.out HZ0.out HZ1.out HZ2.out rfl _ _ rfl hown5 _ _ _ z rfl (by rfl) ((HZ.out.later HB3.out).later HB5.out) (by rw [List.length_append]; omega) HB5.out.size ?_; intro v6 w6 hown6 hb6 _
                 have HB6 := Lib.hid (HB5.out.trans hb6); have HO6 := Lib.hid hown6; clear hb6 hown5 hown6; obtain ⟨sa, sc, rfl, hsb⟩ := HO6.out.bytes; have HSB := Lib.hid hsb; clear hsb))
            have HW6 := Lib.hid (HB3.out.trans (HB6.out.mono HB3.out.size))
            refine (in_is none 0 [] 0 rfl _ _ (x ++ G ++ z) _ HXG.out _ (.inl ⟨rfl, rfl, rfl⟩) HSB.out (by decide) (by omega) (HL.out.below HW6.out) _ _ HI2.out.1 HI2.out.2).mono ?_
            rintro e w7 ⟨ka2, kc2, la2, lc2, ts2, rfl, _, hrow, hmat, _, hbel⟩
            have HW7 := Lib.hid (HW6.out.trans (hbel.mono HW6.out.size))
            obtain ⟨b5, o5, rfl, hcell⟩ := Bodies.at (ys := [y]) ⟨ts2, hrow, hmat⟩ (Nat.zero_lt_succ _)
            obtain ⟨x5, c5, e5, y5⟩ := hcell 0 y rfl
            rw [Nat.add_zero] at e5
            have cv := fun n => string_of (P := Tryd.prog) Tryd.underlying22 Tryd.underlying5 Tryd.underlying9 (y5.later (below_drew (Below.refl _ w7) n)) _ rfl
            have cw := fun n => string_of (P := Tryd.prog) Tryd.underlying22 Tryd.underlying5 Tryd.underlying9 (HY.out.later (below_drew HW7.out n)) _ rfl
            rw [hS] at cv cw
            clear hrow hmat hbel hcell y5 hS
            go_wp2_with fail
            go_quiet (fail)
            go_wp2_with fail
            go_ret
            exact ⟨rfl, below_drew HW7.out _⟩
          · have HPB : Hid (putB y = []) := Lib.hid (putB_bad (by rw [HPE.out]; simpa using de))
            go_wp2_with fail
            refine (put_is _ _ y _ rfl _ (HY.out.later HB2.out) (by omega) (HL.out.below HB2.out) _ _ HPB.out HPE.out).mono ?_
            rintro e w3 ⟨⟨v, rfl, _⟩, hbel⟩
            have HB3 := Lib.hid (HB2.out.trans (hbel.mono HB2.out.size))
            clear hbel
            go_wp2_with fail
            go_ret
            exact ⟨rfl, HB3.out⟩

end Frm
end Go.Proofs.YtnmhkjgcfhcmpaaDoor
