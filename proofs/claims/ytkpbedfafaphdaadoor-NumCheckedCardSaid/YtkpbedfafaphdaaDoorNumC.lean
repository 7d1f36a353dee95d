/-
  The contracts of num.signs, num.Sum.
-/
import Derived.Test.YtkpbedfafaphdaaDoorNumB
namespace Go.Proofs.YtkpbedfafaphdaaDoor
open Go.RowKit
namespace Num

theorem add64 (x y c : Int) (hx : 0 ≤ x) (hy : 0 ≤ y) (hc0 : 0 ≤ c) (hc : c ≤ 1) (w : World) : (callFunc 25 #[.int .u64 x, .int .u64 y, .int .u64 c]).run Tryd.prog w =
    .ok (.value (.tuple #[.int .u64 ((x + y + c) % 18446744073709551616), .int .u64 ((x + y + c) / 18446744073709551616)])) w := by
  obtain ⟨x, rfl⟩ := Int.eq_ofNat_of_zero_le hx
  obtain ⟨y, rfl⟩ := Int.eq_ofNat_of_zero_le hy
  obtain ⟨c, rfl⟩ := Int.eq_ofNat_of_zero_le hc0
  refine (Any7.bits_Add64 Tryd.lays25 x y c (by omega) w).trans ?_
  congr 5 <;> omega
theorem add64_0 (x y : Int) (hx : 0 ≤ x) (hy : 0 ≤ y) (w : World) : (callFunc 25 #[.int .u64 x, .int .u64 y, .int .u64 0]).run Tryd.prog w =
    .ok (.value (.tuple #[.int .u64 ((x + y) % 18446744073709551616), .int .u64 ((x + y) / 18446744073709551616)])) w := by
  simpa using add64 x y 0 hx hy (Int.le_refl 0) (by decide) w

/-- the upper half of n in 128 bits -/
def up (n : Int) : Int := if n < 0 then 18446744073709551615 else 0

set_option maxHeartbeats 400000 in
theorem signs_any (n : Int) (h1 : -9223372036854775808 ≤ n) (h2 : n ≤ 9223372036854775807) (w : World) :
    Calls Tryd.prog 26 #[.int .i64 n] w fun e w' => e = .returned (.int .u64 (up n)) ∧ w = w' := by
  go_enter Tryd.func26, Tryd.ntmps26
  go_wp2
  go_ret
  exact ⟨ret_i (by unfold up; rw [IntKind.wrap_u64]; split <;> omega), rfl⟩

/-- what stands after k rounds: the sum so far, in 128 bits -/
def St (l : List Int) (k : Nat) (H L : Int) : Prop :=
  (l.take k).all rightB = true ∧ H = ((l.take k).sum / 18446744073709551616) % 18446744073709551616 ∧ L = (l.take k).sum % 18446744073709551616
theorem St.zero (l : List Int) : St l 0 0 0 := by simp [St]
theorem St.step {l : List Int} {k : Nat} {H L : Int} (h : St l k H L) (hk : k < l.length) (hr : rightB (l.getD k 0) = true) :
    St l (k + 1) ((H + up (l.getD k 0) + (L + IntKind.u64.wrap (l.getD k 0)) / 18446744073709551616) % 18446744073709551616) ((L + IntKind.u64.wrap (l.getD k 0)) % 18446744073709551616) := by
  obtain ⟨ha, hH, hL⟩ := h
  have hs := sum_take_succ l k hk
  refine ⟨all_take_succ l k hk ha hr, ?_, ?_⟩
  · rw [hs, hH, hL, IntKind.wrap_u64]
    have ⟨h1, h2⟩ := (right_iff _).1 hr
    unfold up
    generalize l.getD k 0 = z at *
    generalize (l.take k).sum = s at *
    split <;> omega
  · rw [hs, hL, IntKind.wrap_u64]
    omega
theorem St.fits {l : List Int} {H L : Int} (h : St l l.length H L) (_hl : l.length ≤ 1099511627776) (hf : -9223372036854775808 ≤ l.sum ∧ l.sum ≤ 9223372036854775807) :
    wrap64 L = l.sum ∧ H = up l.sum ∧ sumO l = rightB l.sum := by
  obtain ⟨ha, hH, hL⟩ := h
  rw [List.take_length] at ha hH hL
  refine ⟨?_, ?_, by simp [sumO, ha]⟩
  · unfold wrap64; omega
  · unfold up; split <;> omega
theorem St.over {l : List Int} {H L : Int} (h : St l l.length H L) (hl : l.length ≤ 1099511627776) (hf : ¬ (-9223372036854775808 ≤ l.sum ∧ l.sum ≤ 9223372036854775807)) :
    H ≠ up (wrap64 L) ∧ sumO l = false := by
  obtain ⟨ha, hH, hL⟩ := h
  rw [List.take_length] at ha hH hL
  have hb := sum_bound l ha
  have hr : rightB l.sum = false := by rw [right_no]; omega
  refine ⟨?_, by simp [sumO, hr]⟩
  unfold up wrap64; split <;> omega
theorem St.bound {l : List Int} {k : Nat} {H L : Int} (h : St l k H L) : 0 ≤ H ∧ H < 18446744073709551616 ∧ 0 ≤ L ∧ L < 18446744073709551616 := by
  obtain ⟨ha, hH, hL⟩ := h
  omega
theorem up_bound (n : Int) : 0 ≤ up n ∧ up n < 18446744073709551616 := by unfold up; split <;> omega

set_option maxHeartbeats 1000000 in
theorem sum_some (b off cap : Nat) (l : List Int) (hl : l.length ≤ 1099511627776) (w : World)
    (hc : ∀ i, i < l.length → w.cell? ⟨b, off + i, none⟩ = some (.int .i64 (l.getD i 0))) (hw : ∀ x ∈ l, -9223372036854775808 ≤ x ∧ x ≤ 9223372036854775807) :
    Calls Tryd.prog 16 #[.slice (some ⟨b, off, none⟩) l.length cap] w fun e w' => e = .returned (.tuple #[.int .i64 (sumV l), .bool (sumO l)]) ∧ w = w' := by
  have HC := Lib.hid hc
  have HW := Lib.hid hw
  clear hc hw
  go_enter Tryd.func16, Tryd.ntmps16
  go_wp2_with fail
  go_loop [4, 5, 12] (fun hi lo i => ∃ k : Nat, ∃ H L : Int, k ≤ l.length ∧ i = .int .i64 k ∧ hi = .int .u64 H ∧ lo = .int .u64 L ∧ St l k H L) (fun _ _ i => l.length - (intOf i).toNat)
  case atStart => exact ⟨0, 0, 0, Nat.zero_le _, rfl, rfl, rfl, St.zero l⟩
  case round =>
    obtain ⟨k, H, L, hk, rfl, rfl, rfl, hst⟩ := hrel
    have ⟨b0, b1, b2, b3⟩ := hst.bound
    by_cases hlt : k < l.length
    · have hcell := HC.out k hlt
      have ⟨hz1, hz2⟩ := HW.out (l.getD k 0) (by simp [List.getD_eq_getElem?_getD, hlt])
      cases hr : rightB (l.getD k 0)
      · have HS := Lib.hid (sumO_bad l k hlt hr)
        generalize l.getD k 0 = z at *
        go_wp2_with fail
        refine (right_f _ _ hr).mono ?_
        rintro e w' ⟨rfl, rfl⟩
        go_wp2_with fail
        go_ret2
        exact ⟨ret_ib (sumV_no HS.out).symm HS.out.symm, rfl⟩
      · have HN := Lib.hid (hst.step hlt hr)
        generalize l.getD k 0 = z at *
        have ⟨u1, u2⟩ := up_bound z
        have wr : 0 ≤ IntKind.u64.wrap z := by rw [IntKind.wrap_u64]; omega
        have c0 : 0 ≤ (L + IntKind.u64.wrap z) / 18446744073709551616 := by omega
        have c1 : (L + IntKind.u64.wrap z) / 18446744073709551616 ≤ 1 := by rw [IntKind.wrap_u64]; omega
        go_wp2_with fail
        refine (right_t _ _ hr).mono ?_
        rintro e w' ⟨rfl, rfl⟩
        go_wp2_with (first | simp only [add64_0 L _ b2 wr] | simp only [add64 H _ _ b0 u1 c0 c1] | (go_at_call 26; refine (signs_any _ hz1 hz2 _).mono ?_; rintro e w' ⟨rfl, rfl⟩))
        go_round
        case rel => exact ⟨k + 1, _, _, by omega, by go_num, rfl, rfl, HN.out⟩
        case measure => simp [intOf]; omega
    · obtain rfl : k = l.length := by omega
      by_cases hf : -9223372036854775808 ≤ l.sum ∧ l.sum ≤ 9223372036854775807
      · have ⟨g1, g2, g3⟩ := hst.fits hl hf
        have G1 := Lib.hid g1
        have G2 := Lib.hid g2
        have G3 := Lib.hid g3
        have hq : (H != up (wrap64 L)) = false := by rw [g1, g2]; simp
        clear g1 g2 g3
        have ⟨v1, v2⟩ : -9223372036854775808 ≤ wrap64 L ∧ wrap64 L ≤ 9223372036854775807 := by unfold wrap64; omega
        go_wp2_with fail
        refine (signs_any _ v1 v2 _).mono ?_
        rintro e w' ⟨rfl, rfl⟩
        go_wp2_with fail
        refine (within_any _ _).mono ?_
        rintro e w' ⟨rfl, rfl⟩
        go_wp2_with fail
        go_ret2
        exact ⟨ret_ib (by rw [G1.out]; unfold cutV sumV; rw [G3.out]) (by rw [G1.out, G3.out]), rfl⟩
      · have ⟨g1, g2⟩ := hst.over hl hf
        have hq : (H != up (wrap64 L)) = true := by simpa using g1
        have G2 := Lib.hid g2
        clear g1 g2
        have ⟨v1, v2⟩ : -9223372036854775808 ≤ wrap64 L ∧ wrap64 L ≤ 9223372036854775807 := by unfold wrap64; omega
        go_wp2_with fail
        refine (signs_any _ v1 v2 _).mono ?_
        rintro e w' ⟨rfl, rfl⟩
        go_wp2_with fail
        go_ret2
        exact ⟨ret_ib (sumV_no G2.out).symm G2.out.symm, rfl⟩

theorem sum_none (w : World) :
    Calls Tryd.prog 16 #[.slice none 0 0] w fun e w' => e = .returned (.tuple #[.int .i64 0, .bool true]) ∧ w = w' := by
  have hq : up 0 = 0 := rfl
  have HC : Hid (cutV 0 = 0 ∧ rightB 0 = true) := Lib.hid ⟨by decide, by decide⟩
  go_enter Tryd.func16, Tryd.ntmps16
  go_wp2_with fail
  go_loop [4, 5, 12] (fun hi lo i => hi = .int .u64 0 ∧ lo = .int .u64 0 ∧ i = .int .i64 0) (fun _ _ _ => 0)
  case atStart => exact ⟨rfl, rfl, rfl⟩
  case round =>
    obtain ⟨rfl, rfl, rfl⟩ := hrel
    go_wp2_with fail
    refine (signs_any 0 (by decide) (by decide) _).mono ?_
    rintro e w' ⟨rfl, rfl⟩
    go_wp2_with fail
    refine (within_any _ _).mono ?_
    rintro e w' ⟨rfl, rfl⟩
    go_wp2_with fail
    go_ret2
    exact ⟨ret_ib HC.out.1 HC.out.2, rfl⟩

theorem sum_empty (x : Addr) (cap : Nat) (w : World) :
    Calls Tryd.prog 16 #[.slice (some x) 0 cap] w fun e w' => e = .returned (.tuple #[.int .i64 0, .bool true]) ∧ w = w' := by
  have hq : up 0 = 0 := rfl
  have HC : Hid (cutV 0 = 0 ∧ rightB 0 = true) := Lib.hid ⟨by decide, by decide⟩
  go_enter Tryd.func16, Tryd.ntmps16
  go_wp2_with fail
  go_loop [4, 5, 12] (fun hi lo i => hi = .int .u64 0 ∧ lo = .int .u64 0 ∧ i = .int .i64 0) (fun _ _ _ => 0)
  case atStart => exact ⟨rfl, rfl, rfl⟩
  case round =>
    obtain ⟨rfl, rfl, rfl⟩ := hrel
    go_wp2_with fail
    refine (signs_any 0 (by decide) (by decide) _).mono ?_
    rintro e w' ⟨rfl, rfl⟩
    go_wp2_with fail
    refine (within_any _ _).mono ?_
    rintro e w' ⟨rfl, rfl⟩
    go_wp2_with fail
    go_ret2
    exact ⟨ret_ib HC.out.1 HC.out.2, rfl⟩

theorem sum_any (a : Option Addr) (cap : Nat) (l : List Int) (hl : l.length ≤ 1099511627776) (w : World) (h : Ints .i64 w a cap l) (hw : ∀ x ∈ l, -9223372036854775808 ≤ x ∧ x ≤ 9223372036854775807) :
    Calls Tryd.prog 16 #[.slice a l.length cap] w fun e w' => e = .returned (.tuple #[.int .i64 (sumV l), .bool (sumO l)]) ∧ w = w' := by
  rcases h.parts with ⟨rfl, rfl, rfl⟩ | ⟨x, rfl, rfl⟩ | ⟨b, off, rfl, _, _, hc⟩
  · exact (sum_none w).mono fun _ _ ⟨he, hw⟩ => ⟨by rw [he]; exact ret_ib (by decide) (by decide), hw⟩
  · exact (sum_empty x cap w).mono fun _ _ ⟨he, hw⟩ => ⟨by rw [he]; exact ret_ib (by decide) (by decide), hw⟩
  · exact sum_some b off cap l hl w hc hw

end Num
end Go.Proofs.YtkpbedfafaphdaaDoor
