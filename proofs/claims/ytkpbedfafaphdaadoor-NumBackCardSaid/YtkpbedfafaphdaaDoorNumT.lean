/-
  The contract of the reference's Sum: the same answers as num's.
-/
import Derived.Test.YtkpbedfafaphdaaDoorNumR
namespace Go.Proofs.YtkpbedfafaphdaaDoor
open Go.RowKit
namespace Num

/-- after k rounds of the second loop: units of 2^60, and a rest -/
def RSt (l : List Int) (k : Nat) (U R : Int) : Prop :=
  U * 1152921504606846976 + R = (l.take k).sum ∧ -1152921504606846976 < R ∧ R < 1152921504606846976
theorem RSt.zero (l : List Int) : RSt l 0 0 0 := by simp [RSt]
theorem take_all {l : List Int} (k : Nat) (h : l.all rightB = true) : (l.take k).all rightB = true := by
  rw [List.all_eq_true] at h ⊢
  exact fun x hx => h x (List.mem_of_mem_take hx)
theorem RSt.bound {l : List Int} {k : Nat} {U R : Int} (h : RSt l k U R) (ha : l.all rightB = true) (hk : k ≤ l.length) (hl : l.length ≤ 1099511627776) :
    -4398046511106 ≤ U ∧ U ≤ 4398046511106 ∧ -1152921504606846976 < R ∧ R < 1152921504606846976 := by
  obtain ⟨h1, h2, h3⟩ := h
  have hb := sum_bound _ (take_all k ha)
  rw [List.length_take, Nat.min_eq_left hk] at hb
  generalize (l.take k).sum = s at *
  omega
theorem RSt.step {l : List Int} {k : Nat} {U R z : Int} (h : RSt l k U R) (hk : k < l.length) (hz : l.getD k 0 = z) (U' R' : Int)
    (he : U' * 1152921504606846976 + R' = U * 1152921504606846976 + R + z) (h1 : -1152921504606846976 < R') (h2 : R' < 1152921504606846976) : RSt l (k + 1) U' R' :=
  ⟨by rw [sum_take_succ l k hk, ← h.1, he, hz], h1, h2⟩
theorem div_mod (z : Int) : z.tdiv 1152921504606846976 * 1152921504606846976 + z.tmod 1152921504606846976 = z := by
  have := Int.mul_tdiv_add_tmod z 1152921504606846976; omega
theorem tmod_bound (z : Int) : -1152921504606846976 < z.tmod 1152921504606846976 ∧ z.tmod 1152921504606846976 < 1152921504606846976 :=
  ⟨Int.lt_tmod_of_pos z (by decide), Int.tmod_lt_of_pos z (by decide)⟩
theorem right_getD {l : List Int} (h : l.all rightB = true) (k : Nat) (hk : k < l.length) : rightB (l.getD k 0) = true := by
  rw [List.all_eq_true] at h
  exact h _ (by simp [List.getD_eq_getElem?_getD, hk])

set_option maxHeartbeats 1000000 in
theorem rsum_some (b off cap : Nat) (l : List Int) (hl : l.length ≤ 1099511627776) (w : World)
    (hc : ∀ i, i < l.length → w.cell? ⟨b, off + i, none⟩ = some (.int .i64 (l.getD i 0))) :
    Calls Tryd.prog 17 #[.slice (some ⟨b, off, none⟩) l.length cap] w fun e w' => e = .returned (.tuple #[.int .i64 (sumV l), .bool (sumO l)]) ∧ w = w' := by
  have HC := Lib.hid hc
  clear hc
  go_enter Tryd.func17, Tryd.ntmps17
  go_wp2_with fail
  go_loop [4] (fun i => ∃ k : Nat, k ≤ l.length ∧ i = .int .i64 k ∧ (l.take k).all rightB = true) (fun i => l.length - (intOf i).toNat)
  case atStart => exact ⟨0, Nat.zero_le _, rfl, by simp⟩
  case round =>
    obtain ⟨k, hk, rfl, hall⟩ := hrel
    have HA := Lib.hid hall
    clear hall
    by_cases hlt : k < l.length
    · have hcell := HC.out k hlt
      cases hr : rightB (l.getD k 0)
      · have HS := Lib.hid (sumO_bad l k hlt hr)
        generalize l.getD k 0 = z at *
        go_wp2_with fail
        refine (rright_f _ _ hr).mono ?_
        rintro e w' ⟨rfl, rfl⟩
        go_wp2_with fail
        go_ret2
        exact ⟨ret_ib (sumV_no HS.out).symm HS.out.symm, rfl⟩
      · have HN := Lib.hid (all_take_succ l k hlt HA.out hr)
        generalize l.getD k 0 = z at *
        go_wp2_with fail
        refine (rright_t _ _ hr).mono ?_
        rintro e w' ⟨rfl, rfl⟩
        go_wp2_with fail
        go_round
        case rel => exact ⟨k + 1, by omega, by go_num, HN.out⟩
        case measure => simp [intOf]; omega
    · obtain rfl : k = l.length := by omega
      have HALL : Hid (l.all rightB = true) := Lib.hid (by have := HA.out; rwa [List.take_length] at this)
      clear HA
      go_wp2_with fail
      go_loop [5, 6, 7] (fun un re i => ∃ k : Nat, ∃ U R : Int, k ≤ l.length ∧ i = .int .i64 k ∧ un = .int .i64 U ∧ re = .int .i64 R ∧ RSt l k U R) (fun _ _ i => l.length - (intOf i).toNat)
      case atStart => exact ⟨0, 0, 0, Nat.zero_le _, rfl, rfl, rfl, RSt.zero l⟩
      case round =>
        obtain ⟨k, U, R, hk, rfl, rfl, rfl, hst⟩ := hrel
        have ⟨b0, b1, b2, b3⟩ := hst.bound HALL.out hk hl
        by_cases hlt : k < l.length
        · have hcell := HC.out k hlt
          have ⟨hz1, hz2⟩ := (right_iff _).1 (right_getD HALL.out k hlt)
          obtain ⟨z, hz⟩ : ∃ z, l.getD k 0 = z := ⟨_, rfl⟩
          rw [hz] at hcell hz1 hz2
          have ST := fun U' R' => Lib.hid (hst.step hlt hz U' R')
          have HZ := Lib.hid hz
          have ⟨t1, t2⟩ := tmod_bound z
          have dm := Lib.hid (div_mod z)
          have dv : -4 ≤ z.tdiv 1152921504606846976 ∧ z.tdiv 1152921504606846976 ≤ 4 := by have := dm.out; omega
          obtain ⟨d1, d2⟩ := dv
          clear hz hst hk
          go_wp2_with fail
          all_goals
            go_round
            case rel => exact ⟨k + 1, _, _, by omega, by go_num, rfl, rfl, (ST _ _).out (by have := dm.out; omega) (by omega) (by omega)⟩
            case measure => simp [intOf]; omega
        · obtain rfl : k = l.length := by omega
          have HS := Lib.hid hst
          clear hst
          have he := HS.out.1
          rw [List.take_length] at he
          obtain ⟨s, hs⟩ : ∃ s, l.sum = s := ⟨_, rfl⟩
          rw [hs] at he
          have HO := Lib.hid (show sumO l = rightB s by simp [sumO, HALL.out, hs])
          have HV := Lib.hid (show sumV l = cutV s by unfold sumV cutV; rw [HO.out, hs])
          by_cases hbig : 5 < U ∨ U < -5
          · have H0 := Lib.hid (show rightB s = false by rw [right_no]; omega)
            have H1 := Lib.hid (show cutV s = 0 by unfold cutV; rw [H0.out]; rfl)
            clear he hs hk hlt
            by_cases h5 : 5 < U
            · go_wp2_with fail
              go_ret2
              exact ⟨ret_ib (by rw [HV.out, H1.out]) (by rw [HO.out, H0.out]), rfl⟩
            · have h5' : U < -5 := by omega
              clear hbig
              go_wp2_with fail
              go_ret2
              exact ⟨ret_ib (by rw [HV.out, H1.out]) (by rw [HO.out, H0.out]), rfl⟩
          · have u1 : -5 ≤ U := by omega
            have u2 : U ≤ 5 := by omega
            have HE := Lib.hid he
            have d1 : decide (5 < U) = false := by simp; omega
            have d2 : decide (U < -5) = false := by simp; omega
            clear hbig he hs hk hlt
            cases hr : rightB s
            · have H1 := Lib.hid (show cutV s = 0 by unfold cutV; rw [hr]; rfl)
              have HR := Lib.hid hr
              clear hr
              go_wp2_with fail
              refine (rright_f _ _ (by rw [HE.out]; exact HR.out)).mono ?_
              rintro e w' ⟨rfl, rfl⟩
              go_wp2_with fail
              go_ret2
              exact ⟨ret_ib (by rw [HV.out, H1.out]) (by rw [HO.out, HR.out]), rfl⟩
            · have H1 := Lib.hid (show cutV s = s by unfold cutV; rw [hr]; rfl)
              have HR := Lib.hid hr
              clear hr
              go_wp2_with fail
              refine (rright_t _ _ (by rw [HE.out]; exact HR.out)).mono ?_
              rintro e w' ⟨rfl, rfl⟩
              go_wp2_with fail
              go_ret2
              exact ⟨ret_ib (by rw [HV.out, H1.out, HE.out]) (by rw [HO.out, HR.out]), rfl⟩

theorem rsum_none (w : World) :
    Calls Tryd.prog 17 #[.slice none 0 0] w fun e w' => e = .returned (.tuple #[.int .i64 0, .bool true]) ∧ w = w' := by
  have hr : rightB 0 = true := by decide
  go_enter Tryd.func17, Tryd.ntmps17
  go_wp2_with fail
  go_loop [4] (fun i => i = .int .i64 0) (fun _ => 0)
  case atStart => rfl
  case round =>
    obtain rfl := hrel
    go_wp2_with fail
    go_loop [5, 6, 7] (fun u r i => u = .int .i64 0 ∧ r = .int .i64 0 ∧ i = .int .i64 0) (fun _ _ _ => 0)
    case atStart => exact ⟨rfl, rfl, rfl⟩
    case round =>
      obtain ⟨rfl, rfl, rfl⟩ := hrel
      go_wp2_with fail
      refine (rright_t _ _ hr).mono ?_
      rintro e w' ⟨rfl, rfl⟩
      go_wp2_with fail
      go_ret2
      exact ⟨rfl, rfl⟩

theorem rsum_empty (x : Addr) (cap : Nat) (w : World) :
    Calls Tryd.prog 17 #[.slice (some x) 0 cap] w fun e w' => e = .returned (.tuple #[.int .i64 0, .bool true]) ∧ w = w' := by
  have hr : rightB 0 = true := by decide
  go_enter Tryd.func17, Tryd.ntmps17
  go_wp2_with fail
  go_loop [4] (fun i => i = .int .i64 0) (fun _ => 0)
  case atStart => rfl
  case round =>
    obtain rfl := hrel
    go_wp2_with fail
    go_loop [5, 6, 7] (fun u r i => u = .int .i64 0 ∧ r = .int .i64 0 ∧ i = .int .i64 0) (fun _ _ _ => 0)
    case atStart => exact ⟨rfl, rfl, rfl⟩
    case round =>
      obtain ⟨rfl, rfl, rfl⟩ := hrel
      go_wp2_with fail
      refine (rright_t _ _ hr).mono ?_
      rintro e w' ⟨rfl, rfl⟩
      go_wp2_with fail
      go_ret2
      exact ⟨rfl, rfl⟩

theorem rsum_any (a : Option Addr) (cap : Nat) (l : List Int) (hl : l.length ≤ 1099511627776) (w : World) (h : Ints .i64 w a cap l) :
    Calls Tryd.prog 17 #[.slice a l.length cap] w fun e w' => e = .returned (.tuple #[.int .i64 (sumV l), .bool (sumO l)]) ∧ w = w' := by
  rcases h.parts with ⟨rfl, rfl, rfl⟩ | ⟨x, rfl, rfl⟩ | ⟨b, off, rfl, _, _, hc⟩
  · exact (rsum_none w).mono fun _ _ ⟨he, hw⟩ => ⟨by rw [he]; exact ret_ib (by decide) (by decide), hw⟩
  · exact (rsum_empty x cap w).mono fun _ _ ⟨he, hw⟩ => ⟨by rw [he]; exact ret_ib (by decide) (by decide), hw⟩
  · exact rsum_some b off cap l hl w hc

end Num
end Go.Proofs.YtkpbedfafaphdaaDoor
