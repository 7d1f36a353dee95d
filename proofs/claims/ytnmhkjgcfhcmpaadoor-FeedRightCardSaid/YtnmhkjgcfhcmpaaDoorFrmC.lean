/-
  The contract of the reference's Put (layer 3).
-/
import Derived.Test.YtnmhkjgcfhcmpaaDoorFrmB
import Derived.Test.YtnmhkjgcfhcmpaaDoorMemG
import Derived.Test.YtnmhkjgcfhcmpaaDoorRefD
namespace Go.Proofs.YtnmhkjgcfhcmpaaDoor
open Go.RowKit
namespace Frm
open Num

theorem infoB : (Tryd.prog.info? 5).map (fun i => (i.zero, i.size, i.bytes)) = some (some (.int .u8 0), 1, 1) := by kernel_rfl

/-- the length's bytes, as the string that is made of them -/
def topS (n : Nat) : ByteArray := ⟨(pre ++ showL n ++ [1]).toArray⟩
theorem top_list (n : Nat) : (topS n).data.toList = pre ++ showL n ++ [1] := rfl
theorem digit_of (k : Nat) (h : k < 10) : ((UInt8.ofNat (48 + k)).toNat : Int) = 48 + (k : Int) := by rw [UInt8.toNat_ofNat_of_lt' (by show 48 + k < 256; omega)]; omega
theorem top_is (n : Int) : ((⟨#[56, 61, 70, 73, 88, 46, 52, 46, 52, 1, 57, 61]⟩ : ByteArray) ++ showS n ++ ⟨#[1]⟩).data.toList = pre ++ showL n ++ [1] := by
  rw [ByteArray.data_append, ByteArray.data_append, Array.toList_append, Array.toList_append]
  rfl
theorem tail_cells {s : Nat} (h : s < 256) : (#[.int .u8 49, .int .u8 48, .int .u8 61, .int .u8 (48 + (s : Int) / 100), .int .u8 (48 + (s : Int) / 10 % 10), .int .u8 (48 + (s : Int) % 10), .int .u8 1] : Array Value).toList = byteVs (tailY s) := by
  unfold tailY byteVs
  simp only [List.map_cons, List.map_nil]
  rw [digit_of (s / 100) (by omega), digit_of (s / 10 % 10) (by omega), digit_of (s % 10) (by omega)]
  rfl
theorem head_len {b : List UInt8} (h0 : b.length ≠ 0) (h : b.length ≤ 8000) : (headY b).length ≤ 8017 := by
  have h1 := (len_text h0 h).2.1
  unfold headY
  simp only [List.length_append, List.length_cons, List.length_nil]
  have : pre.length = 12 := rfl
  omega

set_option maxRecDepth 100000 in
set_option maxHeartbeats 1000000 in
theorem rput_own (a : Option Addr) (cap : Nat) (b : List UInt8) (w : World) (hby : BytesAt w a cap b) (hlen : b.length ≤ 9223372036854775807) :
    Calls Tryd.prog 24 #[.slice a b.length cap] w (RetG 5 w (putB b) (putE b)) := by
  have HF := Lib.hid hby
  clear hby
  by_cases hbig : 8000 < b.length
  · have HP := Lib.hid (putE_long hbig)
    go_enter Tryd.func24, Tryd.ntmps24
    go_wp2_with fail
    go_ret2
    rw [HP.out.1, HP.out.2]
    exact ⟨⟨.slice none 0 0, rfl, .inl ⟨rfl, rfl⟩⟩, Below.refl _ _⟩
  cases hr : rightY b
  · have HP := Lib.hid (putE_bad hbig hr)
    have HR := Lib.hid hr
    clear hr
    go_enter Tryd.func24, Tryd.ntmps24
    go_wp2_with fail
    refine (rright_is a cap b _ HR.out _ HF.out hlen).mono ?_
    rintro e w1 ⟨rfl, hb1⟩
    have HB1 := Lib.hid hb1
    clear hb1
    go_wp2_with fail
    go_ret2
    rw [HP.out.1, HP.out.2]
    exact ⟨⟨.slice none 0 0, rfl, .inl ⟨rfl, rfl⟩⟩, HB1.out⟩
  · have HP := Lib.hid (putE_good hbig hr)
    have HR := Lib.hid hr
    have HH := Lib.hid (head_len (b := b) (putE_ok HP.out.1).1 (by omega))
    have hsl : (showS (b.length : Int)).size ≤ 4 := (len_text (putE_ok HP.out.1).1 (by omega)).2.1
    clear hr
    obtain ⟨i0, hi0, hz0, hz1, hz2⟩ := info_parts infoB
    have HI0 := Lib.hid hi0
    have HZ0 := Lib.hid hz0
    have HZ1 := Lib.hid hz1
    have HZ2 := Lib.hid hz2
    clear hi0 hz0 hz1 hz2
    go_enter Tryd.func24, Tryd.ntmps24
    go_wp2_with fail
    refine (rright_is a cap b _ HR.out _ HF.out hlen).mono ?_
    rintro e w1 ⟨rfl, hb1⟩
    have HB1 := Lib.hid hb1
    clear hb1
    go_wp2_with fail
    refine (rshow_any (b.length : Int) _).mono ?_
    rintro e w' ⟨rfl, rfl⟩
    have HTOP := Lib.hid (top_is (b.length : Int))
    have hts : ((⟨#[56, 61, 70, 73, 88, 46, 52, 46, 52, 1, 57, 61]⟩ : ByteArray) ++ showS (b.length : Int) ++ ⟨#[1]⟩).size ≤ 17 := by
      have h := congrArg List.length HTOP.out
      rw [List.length_append, List.length_append] at h
      have h1 : ((⟨#[56, 61, 70, 73, 88, 46, 52, 46, 52, 1, 57, 61]⟩ : ByteArray) ++ showS (b.length : Int) ++ ⟨#[1]⟩).data.toList.length = ((⟨#[56, 61, 70, 73, 88, 46, 52, 46, 52, 1, 57, 61]⟩ : ByteArray) ++ showS (b.length : Int) ++ ⟨#[1]⟩).size := rfl
      have h2 : pre.length = 12 := rfl
      have h3 : (showL (b.length : Int)).length = (showS (b.length : Int)).size := rfl
      rw [h1, h2, h3] at h
      simp only [List.length_cons, List.length_nil] at h
      omega
    go_wp2_with (first
      | (with_reducible refine wpList_bytes_own rfl 9 22 5 (.tmp 16) rfl _ Tryd.underlying9 Tryd.underlying22 Tryd.underlying5 rfl (by omega) ?_; intro v1 w2 hown1 hb2; rw [HTOP.out] at hown1
         have HB2 := Lib.hid (HB1.out.trans (hb2.mono HB1.out.size)); have hsz2 := hb2.size; clear hb2)
      | (at_builtin; refine wpList_append_g rfl (.tmp 18) (.tmp 19) _ rfl w1.heap.size 5 i0 _ Tryd.underlying22 HI0.out HZ0.out HZ1.out HZ2.out rfl _ _ rfl hown1 _ _ _ b rfl (by rfl) (HF.out.later HB2.out) (by have h := HH.out; unfold headY at h; simp only [List.length_append] at h ⊢; omega) hsz2 ?_; intro v2 w3 hown2 hb3 _
         have HB3 := Lib.hid (HB2.out.trans (hb3.mono HB1.out.size)); have hsz3 := hb3.size; clear hb3 hown1))
    have hown2' : OwnG 5 w3 w1.heap.size v2 (headY b) := hown2
    clear hown2
    have HO := Lib.hid hown2'
    obtain ⟨a2, c2, rfl, hby2⟩ := hown2'.bytes
    have HBY := Lib.hid hby2
    clear hby2
    have HFR := Lib.hid (show putB b = headY b ++ tailY (sumN (headY b)) from HP.out.2)
    have hs256 := sum_lt (headY b)
    have hh16 := HH.out
    refine (rsum_any a2 c2 (headY b) _ HBY.out (by omega)).mono ?_
    obtain ⟨H, hH⟩ : ∃ H, headY b = H := ⟨_, rfl⟩
    rw [hH] at HO HFR hs256 hh16 ⊢
    obtain ⟨s, hs⟩ : ∃ s, sumN H = s := ⟨_, rfl⟩
    rw [hs] at HFR hs256 ⊢
    clear hH hs HH
    rintro e w' ⟨rfl, rfl⟩
    have HTB : Hid (∀ W : World, BytesAt (W.alloc (.cells #[.int .u8 49, .int .u8 48, .int .u8 61, .int .u8 (48 + (s : Int) / 100), .int .u8 (48 + (s : Int) / 10 % 10), .int .u8 (48 + (s : Int) % 10), .int .u8 1] 5)) (some ⟨W.heap.size, 0, none⟩) 7 (tailY s)) :=
      Lib.hid fun W => bytes_alloc W _ _ _ (tailY s) (tail_cells hs256) 7 (Nat.le_refl _)
    have HLEN : Hid (H.length + (tailY s).length ≤ 70368744177664) := Lib.hid (by rw [tail_len]; omega)
    have hsz : w1.heap.size ≤ w'.heap.size := Nat.le_trans hsz2 hsz3
    clear HTOP hts hsl hsz2 hsz3 hown2' hh16
    go_wp2_with (at_builtin; refine wpList_append_g rfl (.tmp 23) (.tmp 37) _ rfl w1.heap.size 5 i0 _ Tryd.underlying22 HI0.out HZ0.out HZ1.out HZ2.out rfl _ _ rfl (HO.out.kept ((Below.refl _ _).alloc (Nat.le_refl _) _)) _ _ _ (tailY s) rfl (by rfl) (HTB.out _) HLEN.out (Nat.le_trans hsz (by simp)) ?_; intro v4 w5 hown4 hb4 _
                 have HB5 := Lib.hid ((HB3.out.alloc HB3.out.size _).trans (hb4.mono HB1.out.size)); have HO5 := Lib.hid hown4; clear hb4 hown4)
    go_ret2
    rw [HFR.out, HP.out.1]
    exact ⟨⟨_, rfl, HO5.out.mono HB1.out.size⟩, HB5.out⟩

theorem rput_any (a : Option Addr) (cap : Nat) (b : List UInt8) (w : World) (hby : BytesAt w a cap b) (hlen : b.length ≤ 9223372036854775807) :
    Calls Tryd.prog 24 #[.slice a b.length cap] w (GotBytes w (putB b) (putE b)) := (rput_own a cap b w hby hlen).mono fun _ _ h => h.bytes

end Frm
end Go.Proofs.YtnmhkjgcfhcmpaaDoor
