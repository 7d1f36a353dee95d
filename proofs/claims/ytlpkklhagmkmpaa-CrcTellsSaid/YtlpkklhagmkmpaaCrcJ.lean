/-
  The walk of layer 8's law CrcJoins.
-/
import Derived.Test.YtlpkklhagmkmpaaCrcL
import Derived.Test.YtlpkklhagmkmpaaArgB
import Derived.Deep.CutBlock
namespace Go.Proofs.Ytlpkklhagmkmpaa
open Go.RowKit
namespace Crc
open Num

/-- what a list of bytes is cut to -/
theorem cut_part {w : World} {a : Option Addr} {cap : Nat} {b : List UInt8} (h : BytesAt w a cap b) (n : Nat) : ∃ t : List UInt8, t.length ≤ n ∧ t.length ≤ b.length ∧ BytesAt w a cap t ∧ min (b.length : Int) (n : Int) = (t.length : Int) :=
  ⟨b.take n, by rw [List.length_take]; omega, by rw [List.length_take]; omega, h.take n, by rw [List.length_take]; omega⟩
theorem sum_nil : sumC [] = 0 := rfl
/-- the bit, and the byte of which it is turned -/
theorem bit_of (k : Nat) (h : k < 8) : 0 < 2 ^ k ∧ 2 ^ k < 256 := by
  have h1 : (2 : Nat) ^ k ≤ 2 ^ 7 := Nat.pow_le_pow_right (by decide) (by omega)
  have h2 : (2 : Nat) ^ 7 = 128 := by decide
  exact ⟨Nat.pow_pos (by decide), by omega⟩
theorem turn_is (c d : UInt8) (k : Nat) (h : k < 8) (hd : d.toNat = c.toNat ^^^ 2 ^ k) : bits .xor .u8 (c.toNat : Int) ((2 : Int) ^ k % 256) = (d.toNat : Int) := by
  have hb := (bit_of k h).2
  have h1 : ((2 : Int) ^ k % 256) = ((2 ^ k : Nat) : Int) := by
    have h2 : ((2 : Int) ^ k) = ((2 ^ k : Nat) : Int) := by rw [Int.natCast_pow]; rfl
    rw [h2]
    clear h2 hd
    generalize (2 : Nat) ^ k = m at hb ⊢
    omega
  rw [h1, u8_xor_nat c.toNat (2 ^ k) c.toNat_lt hb, hd]
theorem turned (c : UInt8) (m : Nat) (h0 : 0 < m) (h : m < 256) : ∃ d : UInt8, d.toNat = c.toNat ^^^ m ∧ c ≠ d := by
  have hc := c.toNat_lt
  have hx : c.toNat ^^^ m < 256 := Nat.xor_lt_two_pow (n := 8) hc h
  have hd : (UInt8.ofNat (c.toNat ^^^ m)).toNat = c.toNat ^^^ m := by rw [UInt8.toNat_ofNat']; omega
  refine ⟨UInt8.ofNat (c.toNat ^^^ m), hd, fun e => ?_⟩
  have h1 := congrArg UInt8.toNat e
  rw [hd] at h1
  have h2 : 0 ^^^ c.toNat = m ^^^ c.toNat := by rw [Nat.zero_xor, Nat.xor_comm]; exact h1
  exact absurd (xor_cancel h2) (by omega)

set_option maxRecDepth 100000 in
set_option maxHeartbeats 4000000 in
theorem law_CrcJoins (a0 : Option Addr) (len0 cap0 : Nat) (z0 : List Int) (at_ : Int) (by_ : Int) (w : World)
    (h0 : IsRow .u8 w a0 len0 cap0 z0) (hat : (Lit.int .u16 at_).wf = true) (hby : (Lit.int .u8 by_).wf = true) (hl : Laid w) :
    Calls Try.prog 6 #[.slice a0 len0 cap0, .int .u16 at_, .int .u8 by_] w fun e w' => e = .returned (.bool true) ∧ Below w.heap.size w w' := by
  obtain ⟨x, rfl, hm0, hx⟩ := h0.bytes
  have ⟨ha0, ha1⟩ : 0 ≤ at_ ∧ at_ ≤ 65535 := bounds_u16 hat
  have ⟨hb0, hb1⟩ : 0 ≤ by_ ∧ by_ ≤ 255 := bounds_u8 hby
  unfold maxLen at hm0
  have hxc := hx.cap
  obtain ⟨s, hs3, hsx, hs, hsm⟩ := cut_part hx 1000
  have HS := Lib.hid hs
  have HL := Lib.hid hl
  clear hx h0 hat hby hl hs
  obtain ⟨i0, hi0, hz0, hz1, hz2⟩ := info_parts infoC
  have HI0 := Lib.hid hi0
  have HZ0 := Lib.hid hz0
  have HZ1 := Lib.hid hz1
  have HZ2 := Lib.hid hz2
  clear hi0 hz0 hz1 hz2
  go_enter Try.func6, Try.ntmps6
  go_wp2_with fail
  refine (awake_any _ HL.out).mono ?_
  rintro e w1 ⟨rfl, hb1⟩
  have HB1 := Lib.hid hb1
  clear hb1
  obtain ⟨q, hq⟩ : ∃ q, s.length = q := ⟨_, rfl⟩
  have HQ := Lib.hid hq
  rw [hq] at hs3 hsm hsx
  have es : (if (1000 : Int) < (x.length : Int) then (1000 : Int) else (x.length : Int)) = (q : Int) := by rw [← hsm]; split <;> omega
  have es2 : min (x.length : Int) 1000 = (q : Int) := by omega
  clear hq
  go_upto_region 4 with fail
  by_cases hq0 : q = 0
  · subst hq0
    have hn : s = [] := List.length_eq_zero_iff.1 HQ.out
    go_wp2_with fail
    refine (sum_is _ _ s 0 HQ.out _ (HS.out.later HB1.out) (by decide) (HL.out.below HB1.out) 0 (by rw [hn]; rfl)).mono ?_
    rintro e w3 ⟨rfl, hbel⟩
    have HB3 := Lib.hid (HB1.out.trans (hbel.mono HB1.out.size))
    clear hbel
    go_wp2_with fail
    go_ret
    exact ⟨rfl, HB3.out⟩
  have e0 : ((q : Int) == 0) = false := beq_eq_false_iff_ne.2 (by omega)
  obtain ⟨r, hr⟩ : ∃ r : Nat, at_ % (q : Int) = (r : Int) := ⟨(at_ % (q : Int)).toNat, by rw [Int.toNat_of_nonneg]; exact Int.emod_nonneg _ (by omega)⟩
  have hrl : r < q := by have := Int.emod_lt_of_pos at_ (b := (q : Int)) (by omega); omega
  have hrA : r < s.length := by rw [HQ.out]; exact hrl
  obtain ⟨c, hc⟩ : ∃ c, s[r] = c := ⟨_, rfl⟩
  obtain ⟨k, hk8, hk⟩ : ∃ k : Nat, k < 8 ∧ by_ % 8 = (k : Int) := ⟨(by_ % 8).toNat, by omega, by omega⟩
  have hbit := bit_of k hk8
  obtain ⟨d, hd, hcd⟩ := turned c (2 ^ k) hbit.1 hbit.2
  have HCR : Hid (s[r]? = some c) := Lib.hid (by rw [List.getElem?_eq_getElem hrA, hc])
  have HC := Lib.hid hc
  clear hc
  have hc8 := c.toNat_lt
  go_wp2_with (at_builtin; refine wpList_append_g rfl (.tmp 22) (.tmp 23) _ rfl w1.heap.size 5 i0 _ Try.underlying22 HI0.out HZ0.out HZ1.out HZ2.out rfl _ [] rfl (Own.g (own_empty w1 _ _ (Nat.le_refl _))) _ _ _ s rfl HQ.out ((HS.out.later HB1.out).later ((Below.refl _ _).alloc (Nat.le_refl _) _)) (by rw [List.length_nil, HQ.out]; omega) (by simp) ?_; intro v3 w3 hown3 hb3 _
               rw [List.nil_append] at hown3
               have HB3 := Lib.hid (((Below.refl _ _).alloc (Nat.le_refl _) _).trans hb3)
               obtain ⟨sa, sc, rfl, _⟩ := hown3.bytes; rw [HQ.out] at hown3 ⊢
               have HO3 := Lib.hid hown3; clear hb3
               obtain ⟨g, rfl, hbg, hgl⟩ := hown3.block (by rw [HQ.out]; omega)
               have ⟨hcell, hfro⟩ := hown3.slot hrA
               rw [HC.out] at hcell
               have HBY3 := Lib.hid (hown3.read); clear hown3)
  rw [turn_is c d k hk8 hd]
  have HSET := Lib.hid (HBY3.out.set hrA d)
  rw [Nat.zero_add] at HSET
  have HW3 := Lib.hid (HB1.out.trans (HB3.out.mono HB1.out.size))
  have HW4 := Lib.hid (HW3.out.setCell (p := ⟨g, r, none⟩) (Nat.le_trans HB1.out.size hbg) (.int .u8 (d.toNat : Int)))
  have HAP := sumC_apart HCR.out hcd
  have hn1 := sumC_lt s
  have hn2 := sumC_lt (s.set r d)
  obtain ⟨n1, h1⟩ : ∃ n, sumC s = n := ⟨_, rfl⟩
  obtain ⟨n2, h2⟩ : ∃ n, sumC (s.set r d) = n := ⟨_, rfl⟩
  rw [h1] at HAP hn1
  rw [h2] at HAP hn2
  have H1 := Lib.hid h1
  have H2 := Lib.hid h2
  clear h1 h2
  refine (sum_is _ _ (s.set r d) q (by rw [List.length_set, HQ.out]) _ HSET.out (by omega) (HL.out.below HW4.out) n2 H2.out).mono ?_
  rintro e w5 ⟨rfl, hbel⟩
  have HW5 := Lib.hid (HW4.out.trans (hbel.mono HW4.out.size))
  clear hbel
  go_wp2_with fail
  refine (sum_is _ _ s q HQ.out _ (HS.out.later HW5.out) (by omega) (HL.out.below HW5.out) n1 H1.out).mono ?_
  rintro e w6 ⟨rfl, hbel⟩
  have HW6 := Lib.hid (HW5.out.trans (hbel.mono HW5.out.size))
  clear hbel
  have e1 : ((n2 : Int) != (n1 : Int)) = true := bne_iff_ne.2 (fun h => HAP (by omega))
  go_wp2_with fail
  go_ret
  exact ⟨rfl, HW6.out⟩

end Crc
end Go.Proofs.Ytlpkklhagmkmpaa
