/-
  The program's Put of layer 3 (as landed in 3f6d5d6e).
-/
import Derived.Test.YtnmhkjgcfhcmpaaDoorFrmPs
import Derived.Test.YtnmhkjgcfhcmpaaDoorFrmC
import Derived.Test.YtnmhkjgcfhcmpaaDoorNumSh
import Derived.Test.YtnmhkjgcfhcmpaaDoorMemT
import Derived.Lib.SlBytesConst
namespace Go.Proofs.YtnmhkjgcfhcmpaaDoor
open Go.RowKit
namespace Frm
open Num

theorem show_list (n : Int) : (showS n).data.toList = showL n := rfl
theorem digits_cells {s : Nat} (h : s < 256) : (#[.int .u8 (48 + (s : Int) / 100), .int .u8 (48 + (s : Int) / 10 % 10), .int .u8 (48 + (s : Int) % 10)] : Array Value).toList = byteVs [UInt8.ofNat (48 + s / 100), UInt8.ofNat (48 + s / 10 % 10), UInt8.ofNat (48 + s % 10)] := by
  unfold byteVs
  simp only [List.map_cons, List.map_nil]
  rw [digit_of (s / 100) (by omega), digit_of (s / 10 % 10) (by omega), digit_of (s % 10) (by omega)]
  rfl
/-- the frame, part by part -/
theorem frame_parts (b : List UInt8) (s : Nat) (hs : sumN (headY b) = s) : frameY b = ((pre ++ showL (b.length : Int) ++ [1] ++ b) ++ [49, 48, 61]) ++ [UInt8.ofNat (48 + s / 100), UInt8.ofNat (48 + s / 10 % 10), UInt8.ofNat (48 + s % 10)] ++ [1] := by
  subst hs
  unfold frameY tailY headY
  simp only [List.append_assoc, List.cons_append, List.nil_append]

set_option maxRecDepth 100000 in
set_option maxHeartbeats 2000000 in
theorem put_any (a : Option Addr) (cap : Nat) (b : List UInt8) (w : World) (hby : BytesAt w a cap b) (hlen : b.length ≤ 1000000) (hl : Laid w) :
    Calls Tryd.prog 11 #[.slice a b.length cap] w (RetG 5 w (putB b) (putE b)) := by
  have HF := Lib.hid hby
  have HL := Lib.hid hl
  clear hby hl
  by_cases hbig : 8000 < b.length
  · have HP := Lib.hid (putE_long hbig)
    go_enter Tryd.func11, Tryd.ntmps11
    go_wp2_with fail
    go_ret2
    rw [HP.out.1, HP.out.2]
    exact ⟨⟨.slice none 0 0, rfl, .inl ⟨rfl, rfl⟩⟩, Below.refl _ _⟩
  cases hr : rightY b
  · have HP := Lib.hid (putE_bad hbig hr)
    have HR := Lib.hid hr
    clear hr
    go_enter Tryd.func11, Tryd.ntmps11
    go_wp2_with fail
    refine (right_is a cap b _ HR.out _ HF.out hlen HL.out).mono ?_
    rintro e w1 ⟨rfl, hb1⟩
    have HB1 := Lib.hid hb1
    clear hb1
    go_wp2_with fail
    go_ret2
    rw [HP.out.1, HP.out.2]
    exact ⟨⟨.slice none 0 0, rfl, .inl ⟨rfl, rfl⟩⟩, HB1.out⟩
  · have HP := Lib.hid (putE_good hbig hr)
    have HR := Lib.hid hr
    have h8 : b.length ≤ 8000 := by omega
    have HSL : Hid ((showS (b.length : Int)).size ≤ 4) := Lib.hid (len_text (putE_ok HP.out.1).1 h8).2.1
    clear hr
    obtain ⟨i0, hi0, hz0, hz1, hz2⟩ := info_parts infoB
    have HI0 := Lib.hid hi0
    have HZ0 := Lib.hid hz0
    have HZ1 := Lib.hid hz1
    have HZ2 := Lib.hid hz2
    clear hi0 hz0 hz1 hz2
    have kc := fun (w : World) (C : Array Value) (n c : Nat) => Lib.run_convert_bytes_const (P := Tryd.prog) w 22 5 C n c Tryd.underlying22 Tryd.underlying5
    go_enter Tryd.func11, Tryd.ntmps11
    go_wp2_with fail
    refine (right_is a cap b _ HR.out _ HF.out hlen HL.out).mono ?_
    rintro e w1 ⟨rfl, hb1⟩
    have HB1 := Lib.hid hb1
    clear hb1
    go_wp2_with fail
    have HO1 : Hid (∀ C fr, C.toList = byteVs pre → fr = (12, 13) → OwnG 5 (w1.alloc (.cells C 5 fr)) w1.heap.size (.slice (some ⟨w1.heap.size, 0, none⟩) 12 12) pre) := Lib.hid (fun C fr hC hfr => by
      have hz : C.size = 12 := by rw [← Array.length_toList, hC]; rfl
      exact own_lit w1 5 C fr pre hC 12 rfl (by decide) (.inl (by rw [hfr, hz]; exact Nat.le_refl _)))
    refine (show_any (b.length : Int) _ (HL.out.below (HB1.out.alloc HB1.out.size _))).mono ?_
    rintro e w2 ⟨rfl, hb2⟩
    have HO2 := Lib.hid ((HO1.out _ _ rfl rfl).kept hb2)
    have HB2 := Lib.hid ((HB1.out.alloc HB1.out.size _).trans (hb2.mono (HB1.out.alloc HB1.out.size _).size))
    have hsz2 : w1.heap.size ≤ w2.heap.size := Nat.le_trans (by simp) hb2.size
    clear hb2 HO1
    have HL3 : Hid ((pre ++ showL (b.length : Int)).length ≤ 16) := Lib.hid (by
      have h := HSL.out
      have h2 : pre.length = 12 := rfl
      have h3 : (showL (b.length : Int)).length = (showS (b.length : Int)).size := rfl
      rw [List.length_append]; omega)
    obtain ⟨P3, hP3⟩ : ∃ P3, pre ++ showL (b.length : Int) = P3 := ⟨_, rfl⟩
    have HFP := Lib.hid (frame_parts b)
    rw [hP3] at HL3 HFP
    have HH3 : Hid (headY b = P3 ++ [1] ++ b) := Lib.hid (by rw [← hP3]; rfl)
    have HQ3 : Hid (pre ++ (showS (b.length : Int)).data.toList = P3) := Lib.hid hP3
    clear hP3
    go_wp2_with (first
      | (at_builtin; refine wpList_append_gs rfl (.tmp 14) (.tmp 17) _ _ rfl w1.heap.size 5 i0 Tryd.underlying22 Tryd.underlying9 HI0.out HZ0.out HZ1.out HZ2.out _ pre rfl HO2.out _ rfl (by have h := HSL.out; have h2 : pre.length = 12 := rfl; omega) hsz2 ?_; intro v3 w3 hown3 hb3
         have HO3 := Lib.hid (show OwnG 5 w3 w1.heap.size v3 P3 from HQ3.out ▸ hown3); have HB3 := Lib.hid (HB2.out.trans (hb3.mono HB1.out.size)); have hs3 := Nat.le_trans hsz2 hb3.size; clear hown3 hb3)
      | (at_builtin; refine wpList_append_g rfl (.tmp 19) (.tmp 20) _ rfl w1.heap.size 5 i0 _ Tryd.underlying22 HI0.out HZ0.out HZ1.out HZ2.out rfl _ P3 rfl (HO3.out.kept ((Below.refl _ _).alloc (Nat.le_refl _) _)) _ _ _ [1] rfl (by rfl) (one_byte _ _ 1 _ rfl) (by have h := HL3.out; simp only [List.length_cons, List.length_nil]; omega) (Nat.le_trans hs3 (by simp)) ?_; intro v4 w4 hown4 hb4 _
         have HO4 := Lib.hid hown4; have HB4 := Lib.hid ((HB3.out.alloc HB3.out.size _).trans (hb4.mono HB1.out.size)); have hs4 := Nat.le_trans hs3 (Nat.le_trans (show w3.heap.size ≤ _ by simp) hb4.size); clear hown4 hb4)
      | (at_builtin; refine wpList_append_g rfl (.tmp 22) (.tmp 23) _ rfl w1.heap.size 5 i0 _ Tryd.underlying22 HI0.out HZ0.out HZ1.out HZ2.out rfl _ (P3 ++ [1]) rfl HO4.out _ _ _ b rfl (by rfl) (HF.out.later HB4.out) (by have h := HL3.out; simp only [List.length_append, List.length_cons, List.length_nil]; omega) hs4 ?_; intro v5 w5 hown5 hb5 _
         have HO5 := Lib.hid (show OwnG 5 w5 w1.heap.size v5 (headY b) from HH3.out ▸ hown5); have HB5 := Lib.hid (HB4.out.trans (hb5.mono HB1.out.size)); have hs5 := Nat.le_trans hs4 hb5.size; clear hown5 hb5))
    have HFS : Hid (∀ s, sumN (headY b) = s → frameY b = (headY b ++ [49, 48, 61]) ++ [UInt8.ofNat (48 + s / 100), UInt8.ofNat (48 + s / 10 % 10), UInt8.ofNat (48 + s % 10)] ++ [1]) := Lib.hid (fun s hs => by rw [HFP.out s hs, HH3.out])
    have HHL : Hid ((headY b).length ≤ 8017) := Lib.hid (head_len (putE_ok HP.out.1).1 h8)
    clear HFP HH3 HQ3 HL3 HO2 HO3 HO4 HB2 HB3 HB4 hs3 hs4 hsz2
    obtain ⟨H, hH⟩ : ∃ H, headY b = H := ⟨_, rfl⟩
    rw [hH] at HFS HHL HO5
    clear hH
    have hhl := HHL.out
    have hs256 := sum_lt H
    obtain ⟨a5, c5, rfl, hby5⟩ := HO5.out.bytes
    refine (sum_any a5 c5 H _ hby5 (by omega)).mono ?_
    obtain ⟨s, hs⟩ : ∃ s, sumN H = s := ⟨_, rfl⟩
    have HFE := Lib.hid (HFS.out s hs)
    rw [hs] at hs256 ⊢
    clear hs HFS hby5
    rintro e w6 ⟨rfl, hb6⟩
    have HO6 := Lib.hid (HO5.out.kept hb6)
    have HB6 := Lib.hid (HB5.out.trans (hb6.mono HB5.out.size))
    have hs6 := Nat.le_trans hs5 hb6.size
    have HDG := Lib.hid (digits_cells hs256)
    clear hb6 HO5 HB5 hs5
    go_wp2_with (first
      | (at_builtin; refine wpList_append_gs rfl (.tmp 27) _ _ _ rfl w1.heap.size 5 i0 Tryd.underlying22 Tryd.underlying9 HI0.out HZ0.out HZ1.out HZ2.out _ H rfl HO6.out ⟨#[49, 48, 61]⟩ rfl (by show H.length + 3 ≤ _; omega) hs6 ?_; intro v7 w7 hown7 hb7
         have HO7 := Lib.hid (show OwnG 5 w7 w1.heap.size v7 (H ++ [49, 48, 61]) from hown7); have HB7 := Lib.hid (HB6.out.trans (hb7.mono HB1.out.size)); have hs7 := Nat.le_trans hs6 hb7.size; clear hown7 hb7)
      | (at_builtin; refine wpList_append_g rfl (.tmp 29) (.tmp 43) _ rfl w1.heap.size 5 i0 _ Tryd.underlying22 HI0.out HZ0.out HZ1.out HZ2.out rfl _ (H ++ [49, 48, 61]) rfl (HO7.out.kept ((Below.refl _ _).alloc (Nat.le_refl _) _)) _ _ _ [UInt8.ofNat (48 + s / 100), UInt8.ofNat (48 + s / 10 % 10), UInt8.ofNat (48 + s % 10)] rfl (by rfl) (bytes_alloc _ _ _ _ _ HDG.out 3 (Nat.le_refl _)) (by simp only [List.length_append, List.length_cons, List.length_nil]; omega) (Nat.le_trans hs7 (by simp)) ?_; intro v8 w8 hown8 hb8 _
         have HO8 := Lib.hid hown8; have HB8 := Lib.hid ((HB7.out.alloc HB7.out.size _).trans (hb8.mono HB1.out.size)); have hs8 := Nat.le_trans hs7 (Nat.le_trans (show w7.heap.size ≤ _ by simp) hb8.size); clear hown8 hb8)
      | (at_builtin; refine wpList_append_g rfl (.tmp 45) (.tmp 46) _ rfl w1.heap.size 5 i0 _ Tryd.underlying22 HI0.out HZ0.out HZ1.out HZ2.out rfl _ _ rfl (HO8.out.kept ((Below.refl _ _).alloc (Nat.le_refl _) _)) _ _ _ [1] rfl (by rfl) (one_byte _ _ 1 _ rfl) (by simp only [List.length_append, List.length_cons, List.length_nil]; omega) (Nat.le_trans hs8 (by simp)) ?_; intro v9 w9 hown9 hb9 _
         have HO9 := Lib.hid hown9; have HB9 := Lib.hid ((HB8.out.alloc HB8.out.size _).trans (hb9.mono HB1.out.size)); clear hown9 hb9))
    go_ret2
    rw [HP.out.2, HP.out.1, HFE.out]
    exact ⟨⟨_, rfl, HO9.out.mono HB1.out.size⟩, HB9.out⟩

end Frm
end Go.Proofs.YtnmhkjgcfhcmpaaDoor
