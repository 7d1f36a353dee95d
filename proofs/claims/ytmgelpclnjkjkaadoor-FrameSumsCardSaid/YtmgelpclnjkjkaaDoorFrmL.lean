/-
  The walk of layer 3's laws: awake, FrameRight, FrameNext.
-/
import Derived.Test.YtmgelpclnjkjkaaDoorFrmPi
import Derived.Test.YtmgelpclnjkjkaaDoorFrmPn
import Derived.Test.YtmgelpclnjkjkaaDoorFrmPs
import Derived.Test.YtmgelpclnjkjkaaDoorArgB
namespace Go.Proofs.YtmgelpclnjkjkaaDoor
open Go.RowKit
namespace Frm
open Num

theorem next_is (a : Option Addr) (cap : Nat) (b : List UInt8) (n : Nat) (hn : b.length = n) (w : World) (hby : BytesAt w a cap b) (hlen : n ≤ 1000000) (hl : Laid w) (r : Int × List UInt8 × Nat) (hr : nextY b = r) :
    Calls Tryd.prog 15 #[.slice a n cap] w (GotNext w a r) := by
  subst hn hr
  exact next_any a cap b w hby hlen hl

set_option maxRecDepth 100000 in
set_option maxHeartbeats 1000000 in
theorem awake_any (w : World) (hl : Laid w) :
    Calls Tryd.prog 8 #[] w fun e w' => e = .returned (.bool true) ∧ Below w.heap.size w w' := by
  have HL := Lib.hid hl
  clear hl
  obtain ⟨i0, hi0, hz0, hz1, hz2⟩ := info_parts infoB
  have HI0 := Lib.hid hi0
  have HZ0 := Lib.hid hz0
  have HZ1 := Lib.hid hz1
  have HZ2 := Lib.hid hz2
  clear hi0 hz0 hz1 hz2
  have kc := fun (w : World) (C : Array Value) (n c : Nat) => Lib.run_convert_bytes_const (P := Tryd.prog) w 22 5 C n c Tryd.underlying22 Tryd.underlying5
  go_enter Tryd.func8, Tryd.ntmps8
  go_wp2_with fail
  have HL0 : Hid (∀ o, Laid (w.alloc o)) := Lib.hid fun o => HL.out.below ((Below.refl _ _).alloc (Nat.le_refl _) _)
  refine (put_is _ _ oneY 5 rfl _ (bytes_alloc w _ _ _ oneY rfl 5 (Nat.le_refl _)) (by decide) (HL0.out _) _ _ one_put.2 one_put.1).mono ?_
  rintro e w1 ⟨⟨v, rfl, ho⟩, hbel⟩
  have HW1 := Lib.hid (((Below.refl _ w).alloc (Nat.le_refl _) _).trans (hbel.mono (by simp)))
  have HO := Lib.hid ho
  obtain ⟨a1, c1, hv, _⟩ := ho.bytes
  rw [show oneF.length = 26 from rfl] at hv
  subst hv
  have hsz1 : w.heap.size ≤ w1.heap.size := HW1.out.size
  have hsza := hbel.size
  clear ho hbel
  go_wp2_with (at_builtin; refine wpList_append_g rfl (.tmp 16) (.tmp 17) _ rfl _ 5 i0 _ Tryd.underlying22 HI0.out HZ0.out HZ1.out HZ2.out rfl _ _ rfl (HO.out.kept ((Below.refl _ _).alloc (Nat.le_refl _) _)) _ _ _ [120] rfl (by rfl) (one_byte _ _ 120 _ rfl) (by decide) (Nat.le_trans hsza (by simp)) ?_; intro v2 w3 hown2 hb3 hk3
               have HW3 := Lib.hid ((HW1.out.alloc HW1.out.size _).trans (hb3.mono (by simp))); have HO2 := Lib.hid hown2; have HK3 := Lib.hid hk3.2; clear hb3 hk3 hown2)
  obtain ⟨a2, c2, rfl, hb2⟩ := HO2.out.bytes
  rw [show (oneF ++ [(120 : UInt8)]).length = 27 from rfl]
  refine (next_is _ _ _ 27 rfl _ hb2 (by decide) (HL.out.below HW3.out) _ one_next).mono ?_
  rintro e w4 ⟨a3, c3, rfl, hb4, _, hbel⟩
  have HW4 := Lib.hid (HW3.out.trans (hbel.mono HW3.out.size))
  have HK4 := Lib.hid (HK3.out.kept hbel)
  have HB4 := Lib.hid hb4
  clear hbel hb4 hb2 HK3
  go_wp2_with fail
  refine (next_is _ _ [120, 56, 61, 70] 4 rfl _ (bytes_alloc w4 _ _ _ [120, 56, 61, 70] rfl 4 (Nat.le_refl _)) (by decide) (HL.out.below (HW4.out.alloc HW4.out.size _)) _ one_junk).mono ?_
  rintro e w5 ⟨a5, c5, rfl, hb5, _, hbel⟩
  have HW5 := Lib.hid ((HW4.out.alloc HW4.out.size _).trans (hbel.mono (Nat.le_trans HW4.out.size (by simp))))
  have HB5 := Lib.hid ((HB4.out.later ((Below.refl _ _).alloc (Nat.le_refl _) _)).later hbel)
  have HK5 := Lib.hid ((HK4.out.kept ((Below.refl _ _).alloc (Nat.le_refl _) _)).kept hbel)
  clear hbel hb5
  obtain ⟨a6, c6, hv6, hb6⟩ := HK5.out.bytes
  injection hv6 with hv6 h26 hv7
  clear h26
  subst hv6 hv7
  have cv : (convert 22 9 (.slice a1 26 c1)).run Tryd.prog w5 = .ok (.string ⟨#[56, 61, 70, 73, 88, 46, 52, 46, 52, 1, 57, 61, 53, 1, 51, 53, 61, 48, 1, 49, 48, 61, 49, 54, 51, 1]⟩) w5 := string_of (P := Tryd.prog) Tryd.underlying22 Tryd.underlying5 Tryd.underlying9 hb6 26 rfl
  have cw : (convert 22 9 (.slice a3 5 c3)).run Tryd.prog w5 = .ok (.string ⟨#[51, 53, 61, 48, 1]⟩) w5 := string_of (P := Tryd.prog) Tryd.underlying22 Tryd.underlying5 Tryd.underlying9 HB5.out 5 rfl
  rw [show ((1, oneY, 26) : Int × List UInt8 × Nat).2.1.length = 5 from rfl]
  go_wp2_with fail
  go_ret
  exact ⟨rfl, HW5.out⟩

set_option maxRecDepth 100000 in
set_option maxHeartbeats 1000000 in
theorem law_FrameRight (a : Option Addr) (len cap : Nat) (z : List Int) (w : World) (hr : IsRow .u8 w a len cap z) (hl : Laid w) :
    Calls Tryd.prog 3 #[.slice a len cap] w fun e w' => e = .returned (.bool true) ∧ Below w.heap.size w w' := by
  obtain ⟨b, rfl, hm, hby⟩ := hr.bytes
  unfold maxLen at hm
  have HF := Lib.hid hby
  have HL := Lib.hid hl
  clear hby hr hl
  go_enter Tryd.func3, Tryd.ntmps3
  go_wp2_with fail
  refine (awake_any _ HL.out).mono ?_
  rintro e w1 ⟨rfl, hb1⟩
  have HB1 := Lib.hid hb1
  clear hb1
  by_cases h9 : 9000 < b.length
  · go_wp2_with fail
    go_ret
    exact ⟨rfl, HB1.out⟩
  · go_wp2_with fail
    refine (put_any _ _ b _ (HF.out.later HB1.out) (by omega) (HL.out.below HB1.out)).mono ?_
    intro e w2 hg
    obtain ⟨⟨a2, c2, rfl, hby⟩, hbel⟩ := hg.bytes
    have HB2 := Lib.hid (HB1.out.trans (hbel.mono HB1.out.size))
    have HP := Lib.hid hby
    clear hby hbel hg
    go_wp2_with fail
    refine (rput_any _ _ b _ (HF.out.later HB2.out) (by omega)).mono ?_
    rintro e w3 ⟨⟨a3, c3, rfl, hby⟩, hbel⟩
    have HB3 := Lib.hid (HB2.out.trans (hbel.mono HB2.out.size))
    have HP3 := Lib.hid (HP.out.later hbel)
    have HQ := Lib.hid hby
    clear hby hbel
    have cv := string_of (P := Tryd.prog) Tryd.underlying22 Tryd.underlying5 Tryd.underlying9 HP3.out _ rfl
    have cw := string_of (P := Tryd.prog) Tryd.underlying22 Tryd.underlying5 Tryd.underlying9 HQ.out _ rfl
    go_wp2_with fail
    refine (right_any _ _ b _ (HF.out.later HB3.out) (by omega) (HL.out.below HB3.out)).mono ?_
    rintro e w4 ⟨rfl, hbel⟩
    have HB4 := Lib.hid (HB3.out.trans (hbel.mono HB3.out.size))
    clear hbel cv cw
    go_wp2_with fail
    refine (rright_any _ _ b _ (HF.out.later HB4.out) (by omega)).mono ?_
    rintro e w5 ⟨rfl, hbel⟩
    have HB5 := Lib.hid (HB4.out.trans (hbel.mono HB4.out.size))
    clear hbel
    go_wp2_with fail
    refine (sum_any _ _ b _ (HF.out.later HB5.out) (by omega)).mono ?_
    rintro e w6 ⟨rfl, hbel⟩
    have HB6 := Lib.hid (HB5.out.trans (hbel.mono HB5.out.size))
    clear hbel
    go_wp2_with fail
    refine (rsum_any _ _ b _ (HF.out.later HB6.out) (by omega)).mono ?_
    rintro e w7 ⟨rfl, rfl⟩
    go_wp2_with fail
    go_ret
    exact ⟨rfl, HB6.out⟩

set_option maxRecDepth 100000 in
set_option maxHeartbeats 1000000 in
theorem law_FrameNext (a : Option Addr) (len cap : Nat) (z : List Int) (w : World) (hr : IsRow .u8 w a len cap z) (hl : Laid w) :
    Calls Tryd.prog 4 #[.slice a len cap] w fun e w' => e = .returned (.bool true) ∧ Below w.heap.size w w' := by
  obtain ⟨b, rfl, hm, hby⟩ := hr.bytes
  unfold maxLen at hm
  have HF := Lib.hid hby
  have HL := Lib.hid hl
  clear hby hr hl
  go_enter Tryd.func4, Tryd.ntmps4
  go_wp2_with fail
  refine (awake_any _ HL.out).mono ?_
  rintro e w1 ⟨rfl, hb1⟩
  have HB1 := Lib.hid hb1
  clear hb1
  by_cases h9 : 9000 < b.length
  · go_wp2_with fail
    go_ret
    exact ⟨rfl, HB1.out⟩
  · obtain ⟨k, y, n, hn⟩ : ∃ k y n, nextY b = (k, y, n) := ⟨_, _, _, rfl⟩
    have HN := Lib.hid hn
    clear hn
    go_wp2_with fail
    refine (next_is _ _ b _ rfl _ (HF.out.later HB1.out) (by omega) (HL.out.below HB1.out) _ HN.out).mono ?_
    rintro e w2 ⟨a2, c2, rfl, hby, _, hbel⟩
    have HB2 := Lib.hid (HB1.out.trans (hbel.mono HB1.out.size))
    have HP := Lib.hid hby
    clear hby hbel
    go_wp2_with fail
    have hrn := rnext_any _ _ b _ (HF.out.later HB2.out) (by omega)
    rw [HN.out] at hrn
    refine hrn.mono ?_
    rintro e w3 ⟨a3, c3, rfl, hby, _, hbel⟩
    have HB3 := Lib.hid (HB2.out.trans (hbel.mono HB2.out.size))
    have HP3 := Lib.hid (HP.out.later hbel)
    have HQ := Lib.hid hby
    clear hby hbel hrn
    have cv := string_of (P := Tryd.prog) Tryd.underlying22 Tryd.underlying5 Tryd.underlying9 HP3.out _ rfl
    have cw := string_of (P := Tryd.prog) Tryd.underlying22 Tryd.underlying5 Tryd.underlying9 HQ.out _ rfl
    go_wp2_with fail
    go_ret
    exact ⟨rfl, HB3.out⟩

end Frm
end Go.Proofs.YtmgelpclnjkjkaaDoor
