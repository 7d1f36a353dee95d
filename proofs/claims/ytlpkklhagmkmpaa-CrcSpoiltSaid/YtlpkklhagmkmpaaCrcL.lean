/-
  LAWS of layer 8: awake.
-/
import Derived.Test.YtlpkklhagmkmpaaCrcP
namespace Go.Proofs.Ytlpkklhagmkmpaa
open Go.RowKit
namespace Crc
open Num

theorem sum_is (a : Option Addr) (cap : Nat) (b : List UInt8) (q : Nat) (hq : b.length = q) (w : World) (hby : BytesAt w a cap b) (hlen : q ≤ 1000000) (hl : Laid w) (n : Nat) (hn : sumC b = n) :
    Calls Try.prog 14 #[.slice a q cap] w fun e w' => e = .returned (.int .u32 (n : Nat)) ∧ Below w.heap.size w w' := by
  subst hn
  exact sum_any a cap b q hq w hby hlen hl
theorem put_is (a : Option Addr) (cap : Nat) (b : List UInt8) (q : Nat) (hq : b.length = q) (w : World) (hby : BytesAt w a cap b) (hlen : q ≤ 1000000) (hl : Laid w) (l : List UInt8) (n : Int) (hn : putC b = (l, n)) :
    Calls Try.prog 8 #[.slice a q cap] w (RetG 5 w l n) := by
  have h := put_any a cap b q hq w hby hlen hl
  rwa [hn] at h
theorem next_is (a : Option Addr) (cap : Nat) (b : List UInt8) (q : Nat) (hq : b.length = q) (w : World) (hby : BytesAt w a cap b) (hlen : q ≤ 1000000) (hl : Laid w) (r : List UInt8 × Nat × Int) (hn : nextC b = r) :
    Calls Try.prog 10 #[.slice a q cap] w (GotN8 w r) := by
  subst hn
  exact next_any a cap b q hq w hby hlen hl
theorem all_is (a : Option Addr) (cap : Nat) (b : List UInt8) (q : Nat) (hq : b.length = q) (w : World) (hby : BytesAt w a cap b) (hlen : q ≤ 1000000) (hl : Laid w) (r : List (List UInt8) × Nat) (hn : allC b = r) :
    Calls Try.prog 12 #[.slice a q cap] w (GotA8 w r) := by
  subst hn
  exact all_any a cap b q hq w hby hlen hl

/-- the digits -/
def nine : List UInt8 := [49, 50, 51, 52, 53, 54, 55, 56, 57]
theorem nine_sum : sumC nine = 3421780262 := by kernel_rfl
theorem one_put : putC [97] = (recB [97], 0) := put_good rfl (by decide) (by decide)

set_option maxRecDepth 100000 in
set_option maxHeartbeats 4000000 in
theorem awake_any (w : World) (hl : Laid w) :
    Calls Try.prog 7 #[] w fun e w' => e = .returned (.bool true) ∧ Below w.heap.size w w' := by
  have HL := Lib.hid hl
  clear hl
  obtain ⟨i0, hi0, hz0, hz1, hz2⟩ := info_parts infoC
  have HI0 := Lib.hid hi0
  have HZ0 := Lib.hid hz0
  have HZ1 := Lib.hid hz1
  have HZ2 := Lib.hid hz2
  clear hi0 hz0 hz1 hz2
  have kc := fun (w : World) (C : Array Value) (n c : Nat) => Lib.run_convert_bytes_const (P := Try.prog) w 22 5 C n c Try.underlying22 Try.underlying5
  have HNX := Lib.hid (next_rec (l := [97]) [1, 2] (by decide) (by decide))
  have HPL := Lib.hid (recB_len [97])
  have HP := Lib.hid one_put
  obtain ⟨F, hF⟩ : ∃ F, recB [97] = F := ⟨_, rfl⟩
  rw [hF] at HNX HPL HP
  clear hF
  go_enter Try.func7, Try.ntmps7
  go_wp2_with fail
  have HL0 : Hid (∀ o, Laid (w.alloc o)) := Lib.hid fun o => HL.out.below ((Below.refl _ _).alloc (Nat.le_refl _) _)
  refine (put_is _ _ [97] 1 rfl _ (bytes_alloc w _ _ _ [97] rfl 1 (Nat.le_refl _)) (by decide) (HL0.out _) F 0 HP.out).mono ?_
  rintro e w1 ⟨⟨v, rfl, ho⟩, hbel⟩
  have HW1 := Lib.hid (((Below.refl _ w).alloc (Nat.le_refl _) _).trans (hbel.mono (by simp)))
  have HO := Lib.hid (ho.mono (show w.heap.size ≤ _ by simp))
  obtain ⟨a1, c1, hv, _⟩ := ho.bytes
  rw [HPL.out] at hv
  subst hv
  clear ho hbel
  have hfl := HPL.out
  go_wp2_with (at_builtin; refine wpList_append_g rfl (.tmp 13) (.tmp 14) _ rfl w.heap.size 5 i0 _ Try.underlying22 HI0.out HZ0.out HZ1.out HZ2.out rfl _ F rfl (HO.out.kept ((Below.refl _ _).alloc (Nat.le_refl _) _)) _ _ _ [1, 2] rfl (by rfl) (bytes_alloc w1 _ _ _ [1, 2] rfl 2 (Nat.le_refl _)) (by rw [HPL.out]; decide) (HW1.out.alloc HW1.out.size _).size ?_; intro v2 w3 hown2 hb3 _
               have HW3 := Lib.hid ((HW1.out.alloc HW1.out.size _).trans hb3); have HO2 := Lib.hid hown2; clear hb3 hown2)
  obtain ⟨a2, c2, rfl, hb2⟩ := HO2.out.bytes
  have HL9 : Hid ((F ++ [(1 : UInt8), 2]).length = 9) := Lib.hid (by rw [List.length_append, HPL.out]; rfl)
  rw [HL9.out]
  refine (next_is _ _ _ 9 HL9.out _ hb2 (by decide) (HL.out.below HW3.out) _ HNX.out).mono ?_
  rintro e w4 ⟨a3, c3, rfl, hb4, hbel⟩
  have HW4 := Lib.hid (HW3.out.trans (hbel.mono HW3.out.size))
  have HB4 := Lib.hid hb4
  clear hbel hb4 hb2
  go_wp2_with fail
  refine (sum_is _ _ nine 9 rfl _ (bytes_alloc w4 _ _ _ nine rfl 9 (Nat.le_refl _)) (by decide) (HL.out.below (HW4.out.alloc HW4.out.size _)) 3421780262 nine_sum).mono ?_
  rintro e w5 ⟨rfl, hbel⟩
  have HW5 := Lib.hid ((HW4.out.alloc HW4.out.size _).trans (hbel.mono (Nat.le_trans HW4.out.size (by simp))))
  have HB5 := Lib.hid ((HB4.out.later ((Below.refl _ _).alloc (Nat.le_refl _) _)).later hbel)
  clear hbel
  have cv : (convert 22 9 (.slice a3 1 c3)).run Try.prog w5 = .ok (.string ⟨#[97]⟩) w5 := string_of (P := Try.prog) Try.underlying22 Try.underlying5 Try.underlying9 HB5.out 1 rfl
  go_wp2_with fail
  go_ret
  exact ⟨rfl, HW5.out⟩

end Crc
end Go.Proofs.Ytlpkklhagmkmpaa
