/-
  The walk of layer 8's law CrcRight.
-/
import Derived.Test.YtlpkklhagmkmpaaCrcJ
import Derived.Test.YtlpkklhagmkmpaaCrcS
namespace Go.Proofs.Ytlpkklhagmkmpaa
open Go.RowKit
namespace Crc
open Num

/-- there are no more records than bytes -/
theorem all_few : ∀ (k : Nat) (b : List UInt8), b.length ≤ k → (allC b).1.length ≤ b.length ∧ (allC b).2 ≤ b.length
  | 0, b, h => by
    obtain rfl : b = [] := List.length_eq_zero_iff.1 (by omega)
    rw [allC_stop (by decide)]
    exact ⟨Nat.le_refl _, Nat.le_refl _⟩
  | k + 1, b, h => by
    obtain ⟨r, n, e, hn⟩ : ∃ r n e, nextC b = (r, n, e) := ⟨_, _, _, rfl⟩
    by_cases he : e = 0
    · subst he
      have ht := nextC_takes (b := b) (by rw [hn])
      rw [hn] at ht
      simp only at ht
      have ih := all_few k (b.drop n) (by rw [List.length_drop]; omega)
      rw [List.length_drop] at ih
      rw [allC_go hn]
      simp only [List.length_cons]
      omega
    · rw [allC_stop (by rw [hn]; exact he)]
      exact ⟨Nat.zero_le _, Nat.zero_le _⟩

set_option maxRecDepth 100000 in
set_option maxHeartbeats 8000000 in
theorem law_CrcRight (a0 : Option Addr) (len0 cap0 : Nat) (z0 : List Int) (w : World)
    (h0 : IsRow .u8 w a0 len0 cap0 z0) (hl : Laid w) :
    Calls Try.prog 3 #[.slice a0 len0 cap0] w fun e w' => e = .returned (.bool true) ∧ Below w.heap.size w w' := by
  obtain ⟨x, rfl, hm0, hx⟩ := h0.bytes
  unfold maxLen at hm0
  have hxc := hx.cap
  obtain ⟨s, hs3, hsx, hs, hsm⟩ := cut_part hx 5000
  have HS := Lib.hid hs
  have HL := Lib.hid hl
  clear hx h0 hl hs
  go_enter Try.func3, Try.ntmps3
  go_wp2_with fail
  refine (awake_any _ HL.out).mono ?_
  rintro e w1 ⟨rfl, hb1⟩
  have HB1 := Lib.hid hb1
  clear hb1
  obtain ⟨q, hq⟩ : ∃ q, s.length = q := ⟨_, rfl⟩
  have HQ := Lib.hid hq
  rw [hq] at hs3 hsm hsx
  have es : (if (5000 : Int) < (x.length : Int) then (5000 : Int) else (x.length : Int)) = (q : Int) := by rw [← hsm]; split <;> omega
  have es2 : min (x.length : Int) 5000 = (q : Int) := by omega
  clear hq
  go_upto_region 4 with fail
  obtain ⟨pl, pe, hp⟩ : ∃ l n, putC s = (l, n) := ⟨_, _, rfl⟩
  obtain ⟨nr, nn, ne, hn⟩ : ∃ r n k, nextC s = (r, n, k) := ⟨_, _, _, rfl⟩
  obtain ⟨ys, am, ha⟩ : ∃ l n, allC s = (l, n) := ⟨_, _, rfl⟩
  obtain ⟨sm, hsm2⟩ : ∃ n, sumC s = n := ⟨_, rfl⟩
  have hs32 := sumC_lt s
  have RP := rput_any a0 cap0 s q HQ.out
  have RN := rnext_any a0 cap0 s q HQ.out
  have RA := rall_any a0 cap0 s q HQ.out
  have RS := rsum_any a0 cap0 s q HQ.out
  rw [hp] at RP
  rw [hn] at RN
  rw [ha] at RA
  rw [hsm2] at RS hs32
  have RP := Lib.hid RP
  have RN := Lib.hid RN
  have RA := Lib.hid RA
  have RS := Lib.hid RS
  have HP := Lib.hid hp
  have HN := Lib.hid hn
  have HA := Lib.hid ha
  have HM := Lib.hid hsm2
  have hyl := (all_few q s (by rw [HQ.out]; exact Nat.le_refl _)).1
  rw [ha, HQ.out] at hyl
  simp only at hyl
  clear hp hn ha hsm2
  go_wp2_with fail
  refine (put_is _ _ s q HQ.out _ (HS.out.later HB1.out) (by omega) (HL.out.below HB1.out) _ _ HP.out).mono ?_
  rintro e w2 ⟨⟨v1, rfl, hown⟩, hbel⟩
  have HB2 := Lib.hid (HB1.out.trans (hbel.mono HB1.out.size))
  obtain ⟨a1, c1, rfl, hy1⟩ := hown.bytes
  have HY1 := Lib.hid hy1
  clear hbel hown hy1
  go_wp2_with fail
  refine (RP.out w2 (HS.out.later HB2.out) (by omega)).mono ?_
  rintro e w3 ⟨⟨a2, c2, rfl, hy2⟩, hbel⟩
  have HB3 := Lib.hid (HB2.out.trans (hbel.mono HB2.out.size))
  have HY2 := Lib.hid hy2
  have HY1' := Lib.hid (HY1.out.later hbel)
  clear hbel hy2 HY1
  go_wp2_with fail
  refine (next_is _ _ s q HQ.out _ (HS.out.later HB3.out) (by omega) (HL.out.below HB3.out) _ HN.out).mono ?_
  rintro e w4 ⟨a3, c3, rfl, hy3, hbel⟩
  have HB4 := Lib.hid (HB3.out.trans (hbel.mono HB3.out.size))
  have HY3 := Lib.hid hy3
  have K1 := Lib.hid (HY1'.out.later hbel)
  have K2 := Lib.hid (HY2.out.later hbel)
  clear hbel hy3 HY1' HY2
  go_wp2_with fail
  refine (RN.out w4 (HS.out.later HB4.out) (by omega)).mono ?_
  rintro e w5 ⟨a4, c4, rfl, hy4, hbel⟩
  have HB5 := Lib.hid (HB4.out.trans (hbel.mono HB4.out.size))
  have K3 := Lib.hid (HY3.out.later hbel)
  have K4 := Lib.hid (hy4 w5 (HS.out.later HB5.out))
  have L1 := Lib.hid (K1.out.later hbel)
  have L2 := Lib.hid (K2.out.later hbel)
  clear hbel hy4 HY3 K1 K2
  go_wp2_with fail
  refine (all_is _ _ s q HQ.out _ (HS.out.later HB5.out) (by omega) (HL.out.below HB5.out) _ HA.out).mono ?_
  rintro e w6 ⟨la1, lc1, rfl, hbo1, hbel⟩
  have HB6 := Lib.hid (HB5.out.trans (hbel.mono HB5.out.size))
  have M1 := Lib.hid (L1.out.later hbel)
  have M2 := Lib.hid (L2.out.later hbel)
  have M3 := Lib.hid (K3.out.later hbel)
  have M4 := Lib.hid (K4.out.later hbel)
  have BO1 := Lib.hid hbo1
  clear hbel L1 L2 K3 K4 hbo1
  go_wp2_with fail
  refine (RA.out w6 (HS.out.later HB6.out) (by omega)).mono ?_
  rintro e w7 ⟨la2, lc2, ts2, rfl, hrow2, hmat2, hbel⟩
  have HB7 := Lib.hid (HB6.out.trans (hbel.mono HB6.out.size))
  have N1 := Lib.hid (M1.out.later hbel)
  have N2 := Lib.hid (M2.out.later hbel)
  have N3 := Lib.hid (M3.out.later hbel)
  have N4 := Lib.hid (M4.out.later hbel)
  have BO2 := Lib.hid (BO1.out.later hbel)
  have BP2 : Hid (Bodies w7 la2 lc2 ys) := Lib.hid ⟨ts2, hrow2, hmat2 w7 (HS.out.later HB7.out)⟩
  clear hbel M1 M2 M3 M4 BO1 hrow2 hmat2
  go_wp2_with fail
  refine (sum_is _ _ s q HQ.out _ (HS.out.later HB7.out) (by omega) (HL.out.below HB7.out) _ HM.out).mono ?_
  rintro e w8 ⟨rfl, hbel⟩
  have HB8 := Lib.hid (HB7.out.trans (hbel.mono HB7.out.size))
  have O1 := Lib.hid (N1.out.later hbel)
  have O2 := Lib.hid (N2.out.later hbel)
  have O3 := Lib.hid (N3.out.later hbel)
  have O4 := Lib.hid (N4.out.later hbel)
  have BO3 := Lib.hid (BO2.out.later hbel)
  have BP3 := Lib.hid (BP2.out.later hbel)
  clear hbel N1 N2 N3 N4 BO2 BP2
  go_wp2_with fail
  refine (RS.out w8 (HS.out.later HB8.out) (by omega)).mono ?_
  rintro e w9 ⟨rfl, rfl⟩
  obtain ⟨S, hS⟩ : ∃ S : ByteArray, (⟨pl.toArray⟩ : ByteArray) = S := ⟨_, rfl⟩
  obtain ⟨T, hT⟩ : ∃ T : ByteArray, (⟨nr.toArray⟩ : ByteArray) = T := ⟨_, rfl⟩
  have cv1 := string_of (P := Try.prog) Try.underlying22 Try.underlying5 Try.underlying9 O1.out _ rfl
  have cv2 := string_of (P := Try.prog) Try.underlying22 Try.underlying5 Try.underlying9 O2.out _ rfl
  have cv3 := string_of (P := Try.prog) Try.underlying22 Try.underlying5 Try.underlying9 O3.out _ rfl
  have cv4 := string_of (P := Try.prog) Try.underlying22 Try.underlying5 Try.underlying9 O4.out _ rfl
  rw [hS] at cv1 cv2
  rw [hT] at cv3 cv4
  clear hS hT
  go_wp2_with fail
  refine (rsame_is _ _ _ _ ys _ rfl _ rfl _ BO3.out BP3.out (by omega)).mono ?_
  rintro e w10 ⟨rfl, hbel⟩
  have HB10 := Lib.hid (HB8.out.trans (hbel.mono HB8.out.size))
  clear hbel cv1 cv2 cv3 cv4
  go_wp2_with fail
  go_ret
  exact ⟨rfl, HB10.out⟩

end Crc
end Go.Proofs.Ytlpkklhagmkmpaa
