/-
  The program's Parse (layer 2).
-/
import Derived.Test.YtddblaiahgjbaaaGreatDoorFldC
import Derived.Test.YtddblaiahgjbaaaGreatDoorFldT
import Derived.Test.YtddblaiahgjbaaaGreatDoorIxB
namespace Go.Proofs.YtddblaiahgjbaaaGreatDoor
open Go.RowKit
namespace Fld
open Num

def lenOf : Value → Nat | .slice _ n _ => n | _ => 0
theorem seg_ahead (b : List UInt8) : (seg b).length = ahead 1 b := rfl
theorem seg_take (b : List UInt8) : b.take (ahead 1 b) = seg b := ahead_take 1 b

theorem read_list (s : List UInt8) (o : Bool) (ho : readOk s = o) (w : World) (hs : s.length ≤ 9223372036854775807) (hl : Laid w) :
    Calls Tryz.prog 51 #[.string ⟨s.toArray⟩] w fun e w' => ∃ f : F, e = .returned (.tuple #[.agg #[.int .i64 f.tag, .string f.val], .bool o]) ∧ (o = true → mkF s (tagLen s) = f) ∧ Below w.heap.size w w' := by
  subst ho
  exact read_any ⟨s.toArray⟩ w hs hl

set_option maxRecDepth 100000 in
set_option maxHeartbeats 2000000 in
theorem parse_own (a : Option Addr) (cap : Nat) (b : List UInt8) (w : World) (hby : BytesAt w a cap b) (hlen : b.length ≤ 9223372036854775807) (hl : Laid w) :
    Calls Tryz.prog 31 #[.slice a b.length cap] w (RetRow encF 47 w (parseL b).1 (parseL b).2) := by
  have HF := Lib.hid hby
  have HL := Lib.hid hl
  clear hby hl
  by_cases hbig : 65536 < b.length
  · have HP : Hid (parseL b = ([], 4)) := Lib.hid (by unfold parseL; rw [if_pos hbig])
    go_enter Tryz.func31, Tryz.ntmps31
    go_wp2_with fail
    go_ret2
    rw [HP.out]
    exact ⟨⟨.slice none 0 0, rfl, OwnE.nil _ _ _ _⟩, Below.refl _ _⟩
  · obtain ⟨i0, hi0, hz0, hz1, hz2⟩ := info_parts infoF
    have HI0 := Lib.hid hi0
    have HZ0 := Lib.hid hz0
    have HZ1 := Lib.hid hz1
    have HZ2 := Lib.hid hz2
    clear hi0 hz0 hz1 hz2
    have HPL : Hid (parseL b = parseG [] b) := Lib.hid (by unfold parseL; rw [if_neg hbig])
    go_enter Tryz.func31, Tryz.ntmps31
    go_wp2_with fail
    go_loopw [0, 4] (fun b_ v wr => ∃ (r : List UInt8) (ra : Option Addr) (rc : Nat) (acc : List F), b_ = .slice ra r.length rc ∧ BytesAt w ra rc r ∧ r.length ≤ 65536 ∧ acc.length ≤ 100 ∧ parseL b = parseG acc r ∧ OwnE encF 47 wr w.heap.size v acc ∧ Below w.heap.size w wr) (fun b_ _ _ => lenOf b_)
    case atStart => exact ⟨b, a, cap, [], rfl, HF.out, by omega, by decide, HPL.out, OwnE.nil _ _ _ _, Below.refl _ _⟩
    case round =>
      obtain ⟨r, ra, rc, acc, rfl, hr, hr16, hacc, hpl, hown, hbel⟩ := hrel
      have HA := Lib.hid hacc
      have HQ := Lib.hid hpl
      have HO := Lib.hid hown
      have HB := Lib.hid hbel
      have HR := Lib.hid hr
      clear hacc hpl hown hbel HPL hr
      by_cases hlt : 0 < r.length
      · have hrne : r ≠ [] := fun h => by rw [h] at hlt; exact absurd hlt (by decide)
        have hone : BytesAt (wr.alloc (.cells #[.int .u8 1] 5)) (some ⟨wr.heap.size, 0, none⟩) 1 [1] := one_byte wr _ 1 1 rfl
        have HON := Lib.hid hone
        have HRA := Lib.hid (HR.out.later (HB.out.alloc HB.out.size (.cells #[.int .u8 1] 5)))
        clear hone
        by_cases hhit : ahead 1 r < r.length
        · have HH := Lib.hid hhit
          have HCUT := Lib.hid (bytes_Cut_hit 1 ra rc r _ 1 _ HRA.out HON.out (by omega) hlt hhit)
          have HT : Hid (r.take (ahead 1 r) = seg r) := Lib.hid (seg_take r)
          have HSL : Hid ((seg r).length = ahead 1 r) := Lib.hid (seg_ahead r)
          unfold CutHit at HCUT
          obtain ⟨k, hk⟩ : ∃ k, ahead 1 r = k := ⟨_, rfl⟩
          rw [hk] at HCUT HT HSL hhit
          clear hk
          go_wp2_with fail
          refine HCUT.out.mono ?_
          rintro e w1 ⟨a', cap', rfl, hrest, hb1⟩
          have HREST := Lib.hid (hrest w HR.out)
          have HB1 := Lib.hid ((HB.out.alloc HB.out.size (.cells #[.int .u8 1] 5)).trans (hb1.mono (HB.out.alloc HB.out.size _).size))
          have HO1 := Lib.hid ((HO.out.kept ((Below.refl _ _).alloc (Nat.le_refl _) (.cells #[.int .u8 1] 5))).kept hb1)
          clear hrest hb1 HCUT
          have HSUB : Hid (BytesAt w1 ra rc (seg r)) := Lib.hid (by rw [← HT.out]; exact (HR.out.later HB1.out).take k)
          obtain ⟨s, hs⟩ : ∃ s, seg r = s := ⟨_, rfl⟩
          rw [hs] at HSUB HSL
          have HSG := Lib.hid hs
          clear hs HT
          go_wp2_with (with_reducible refine wpList_string_of rfl 28 9 5 (.tmp 26) rfl Tryz.underlying28 Tryz.underlying9 Tryz.underlying5 _ _ _ _ rfl HSUB.out HSL.out ?_)
          have hseg : (seg r).length ≠ r.length := by rw [HSG.out, HSL.out]; omega
          cases hr : readOk s
          · have HP : Hid (parseL b = ([], 3)) := Lib.hid (by rw [HQ.out]; exact parseG_form hrne hseg (by rw [HSG.out]; exact hr))
            have HRD := Lib.hid hr
            clear hr hseg
            refine (read_list s _ HRD.out _ (by rw [HSL.out]; omega) ?_).mono ?_
            · exact HL.out.below HB1.out
            rintro e w2 ⟨⟨t, u⟩, rfl, _, hb2⟩
            have HB2 := Lib.hid (HB1.out.trans (hb2.mono HB1.out.size))
            clear hb2
            go_wp2_with fail
            go_ret2
            rw [HP.out]
            exact ⟨⟨.slice none 0 0, rfl, OwnE.nil _ _ _ _⟩, HB2.out.alloc HB2.out.size _⟩
          · have HRD := Lib.hid hr
            clear hr
            refine (read_list s _ HRD.out _ (by rw [HSL.out]; omega) ?_).mono ?_
            · exact HL.out.below HB1.out
            rintro e w2 ⟨⟨t, u⟩, rfl, hm, hb2⟩
            have HB2 := Lib.hid (HB1.out.trans (hb2.mono HB1.out.size))
            have HO2 := Lib.hid (HO1.out.kept hb2)
            have HM := Lib.hid (hm rfl)
            clear hb2 hm HO1
            obtain ⟨oa, oc, rfl, _⟩ := HO2.out.row
            by_cases h100 : acc.length = 100
            · have HP : Hid (parseL b = ([], 4)) := Lib.hid (by rw [HQ.out]; exact parseG_long hrne hseg (by rw [HSG.out]; exact HRD.out) h100)
              clear hseg
              go_wp2_with fail
              go_ret2
              rw [HP.out]
              exact ⟨⟨.slice none 0 0, rfl, OwnE.nil _ _ _ _⟩, HB2.out.alloc HB2.out.size _⟩
            · have HP : Hid (parseL b = parseG (acc ++ [⟨t, u⟩]) (r.drop (k + 1))) := Lib.hid (by
                rw [HQ.out, parseG_step hrne hseg (by rw [HSG.out]; exact HRD.out) h100, HSG.out, HM.out, HSL.out])
              have ha100 : acc.length ≤ 99 := by have := HA.out; omega
              have HDL : Hid ((r.drop (k + 1)).length = r.length - (k + 1)) := Lib.hid (by rw [List.length_drop])
              have hrest16 : r.length - (k + 1) ≤ 65536 := by omega
              have HROW : Hid (RowAt encF ((w2.alloc (.cells #[.int .i64 t, .string u] 47)).alloc (.cells #[.int .i64 t, .string u] 47)) (some ⟨w2.heap.size + 1, 0, none⟩) 1 [⟨t, u⟩]) := Lib.hid (by
                have h := one_row encF (w2.alloc (.cells #[.int .i64 t, .string u] 47)) 47 ⟨t, u⟩ #[.int .i64 t, .string u] rfl
                have e : (w2.alloc (.cells #[.int .i64 t, .string u] 47)).heap.size = w2.heap.size + 1 := by simp
                rwa [e] at h)
              clear hseg
              go_wp2_with (at_builtin; refine wpList_append_row encF (by decide) rfl (.tmp 36) (.tmp 38) _ rfl w.heap.size 47 i0 _ 24 Tryz.underlying42 HI0.out HZ0.out HZ1.out HZ2.out (by rfl) _ acc rfl ((HO2.out.kept ((Below.refl _ _).alloc (Nat.le_refl _) _)).kept ((Below.refl _ _).alloc (Nat.le_refl _) _)) _ _ _ [⟨t, u⟩] rfl (by rfl) HROW.out (by simp only [List.length_cons, List.length_nil, maxLen]; omega) (by simp only [List.length_cons, List.length_nil]; omega) ((HB2.out.alloc HB2.out.size _).alloc (HB2.out.alloc HB2.out.size _).size _).size ?_; intro v2 w5 hown2 hb4
                           have HB5 := Lib.hid (((HB2.out.alloc HB2.out.size _).alloc (HB2.out.alloc HB2.out.size _).size _).trans hb4); have HO5 := Lib.hid hown2; clear hb4 hown2)
              go_roundw
              case rel => exact ⟨r.drop (k + 1), a', cap', acc ++ [⟨t, u⟩], by rw [HDL.out], HREST.out, by rw [HDL.out]; omega, by rw [List.length_append]; simp only [List.length_cons, List.length_nil]; omega, HP.out, HO5.out, HB5.out⟩
              case measure => simp [lenOf]; omega
        · have HP : Hid (parseL b = ([], 2)) := Lib.hid (by
            rw [HQ.out]
            exact parseG_short hrne (by have := ahead_le 1 r; have := seg_ahead r; omega))
          have HCUT := Lib.hid (bytes_Cut_miss 1 ra rc r _ 1 _ HRA.out HON.out hlt hhit)
          clear hhit
          go_wp2_with fail
          refine HCUT.out.mono ?_
          rintro e w1 ⟨rfl, rfl⟩
          go_wp2_with fail
          go_ret2
          rw [HP.out]
          exact ⟨⟨.slice none 0 0, rfl, OwnE.nil _ _ _ _⟩, HB.out.alloc HB.out.size _⟩
      · have HP : Hid (parseL b = (acc, 0)) := Lib.hid (by rw [HQ.out, show r = [] from List.length_eq_zero_iff.1 (by omega), parseG_nil])
        go_wp2_with fail
        go_ret2
        rw [HP.out]
        exact ⟨⟨_, rfl, HO.out⟩, HB.out⟩

theorem parse_any (a : Option Addr) (cap : Nat) (b : List UInt8) (w : World) (hby : BytesAt w a cap b) (hlen : b.length ≤ 9223372036854775807) (hl : Laid w) :
    Calls Tryz.prog 31 #[.slice a b.length cap] w (GotRow encF w (parseL b).1 (parseL b).2) := (parse_own a cap b w hby hlen hl).mono fun _ _ h => h.got

end Fld
end Go.Proofs.YtddblaiahgjbaaaGreatDoor
