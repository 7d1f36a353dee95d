/-
  The walk of layer 8's law CrcTells.
-/
import Derived.Test.YtlpkklhagmkmpaaCrcT
import Derived.Test.YtlpkklhagmkmpaaOpenBs
import Derived.Deep.DeepCutAuto
namespace Go.Proofs.Ytlpkklhagmkmpaa
open Go.RowKit
namespace Crc
open Num

theorem recs_few : ∀ (l : List (List UInt8)), (∀ r ∈ l, 0 < r.length ∧ r.length ≤ 100) → (recs l).length ≤ 106 * l.length
  | [], _ => Nat.le_refl _
  | r :: q, h => by
    have h1 := h r (by simp)
    have h2 := recs_few q fun z hz => h z (by simp [hz])
    have e : recs (r :: q) = recB r ++ recs q := rfl
    rw [e, List.length_append, recB_len, List.length_cons]
    omega
theorem take_all {l : List (List UInt8)} {i : Nat} {y : List UInt8} (h : l[i]? = some y) (h1 : ∀ r ∈ l.take i, 0 < r.length ∧ r.length ≤ 100) (h2 : 0 < y.length ∧ y.length ≤ 100) : ∀ r ∈ l.take (i + 1), 0 < r.length ∧ r.length ≤ 100 := fun r hr => by
  obtain ⟨hl, hy⟩ := List.getElem?_eq_some_iff.1 h
  rw [List.take_succ_eq_append_getElem hl, hy] at hr
  rcases List.mem_append.1 hr with hr | hr
  · exact h1 r hr
  · rw [List.mem_singleton.1 hr]
    exact h2

set_option maxRecDepth 100000 in
set_option maxHeartbeats 8000000 in
theorem tells_any (a0 : Option Addr) (q0 cap0 : Nat) (l : List (List UInt8)) (hq0 : l.length = q0) (at_ : Int) (w : World)
    (h0 : Bodies w a0 cap0 l) (hm0 : q0 ≤ maxLen) (hat : (Lit.int .u16 at_).wf = true) (hl : Laid w) :
    Calls Try.prog 4 #[.slice a0 q0 cap0, .int .u16 at_] w fun e w' => e = .returned (.bool true) ∧ Below w.heap.size w w' := by
  have ⟨ha0, ha1⟩ : 0 ≤ at_ ∧ at_ ≤ 65535 := bounds_u16 hat
  unfold maxLen at hm0
  have HB0 := Lib.hid h0
  have HL := Lib.hid hl
  have HQ := Lib.hid hq0
  clear h0 hat hl hq0
  obtain ⟨i0, hi0, hz0, hz1, hz2⟩ := info_parts infoC
  have HI0 := Lib.hid hi0
  have HZ0 := Lib.hid hz0
  have HZ1 := Lib.hid hz1
  have HZ2 := Lib.hid hz2
  clear hi0 hz0 hz1 hz2
  obtain ⟨j0, hi0, hz0, hz1, hz2⟩ := info_parts infoI
  have HJ0 := Lib.hid hi0
  have HY0 := Lib.hid hz0
  have HY1 := Lib.hid hz1
  have HY2 := Lib.hid hz2
  clear hi0 hz0 hz1 hz2
  have hne1 : 5 ≠ 3 := by decide
  have hne2 : 3 ≠ 5 := by decide
  go_enter Try.func4, Try.ntmps4
  go_wp2_with fail
  refine (awake_any _ HL.out).mono ?_
  rintro e w1 ⟨rfl, hb1⟩
  have HB1 := Lib.hid hb1
  clear hb1
  by_cases h30 : 30 < q0
  · have d30 : decide ((30 : Int) < (q0 : Int)) = true := decide_eq_true (by omega)
    go_wp2_with fail
    go_ret
    exact ⟨rfl, HB1.out⟩
  have d30 : decide ((30 : Int) < (q0 : Int)) = false := decide_eq_false (by omega)
  go_wp2_with fail
  have HE0 : Hid (OwnE encN 3 (w1.alloc (.cells #[.int .i64 0] 3)) w1.heap.size (.slice (some ⟨w1.heap.size, 0, none⟩) 1 1) (endsR l 0)) := Lib.hid (by rw [endsR_zero]; exact row_ownN w1)
  go_loopw [5, 6, 7] (fun b_ e_ i_ wr => ∃ i : Nat, i ≤ q0 ∧ i_ = .int .i64 i ∧ (∀ r ∈ l.take i, 0 < r.length ∧ r.length ≤ 100) ∧ OwnG 5 wr w1.heap.size b_ (recs (l.take i)) ∧ OwnE encN 3 wr w1.heap.size e_ (endsR l i) ∧ Below w1.heap.size w1 wr) (fun _ _ i_ _ => q0 - (intOf i_).toNat)
  case atStart => exact ⟨0, Nat.zero_le _, rfl, fun r hr => (by rw [List.take_zero] at hr; cases hr), .inl ⟨rfl, rfl⟩, HE0.out, (Below.refl _ _).alloc (Nat.le_refl _) _⟩
  case round =>
    obtain ⟨i, hi, rfl, hall, hown, hend, hbel⟩ := hrel
    have HA := Lib.hid hall
    have HO := Lib.hid hown
    have HE := Lib.hid hend
    have HB := Lib.hid hbel
    have HW := Lib.hid (HB1.out.trans (hbel.mono HB1.out.size))
    have hfew := recs_few _ hall
    rw [List.length_take, HQ.out] at hfew
    clear hall hown hend hbel
    obtain ⟨ea, ec, rfl, _⟩ := HE.out.row
    obtain ⟨ba, bc, rfl, _⟩ := HO.out.bytes
    rw [endsR_len] at HE ⊢
    by_cases hlt : i < q0
    · obtain ⟨g1, o1, rfl, hc1⟩ := (HB0.out.later HW.out).at (by rw [HQ.out]; omega)
      obtain ⟨y, hy⟩ : ∃ y, l[i]? = some y := ⟨_, List.getElem?_eq_getElem (by rw [HQ.out]; exact hlt)⟩
      obtain ⟨x1, c1, e1, b1⟩ := hc1 i y hy
      have HY := Lib.hid hy
      have HYB := Lib.hid b1
      clear hc1 hy b1
      obtain ⟨m, hm⟩ : ∃ m, y.length = m := ⟨_, rfl⟩
      have HM := Lib.hid hm
      rw [hm] at e1
      clear hm
      by_cases hm1 : m < 1
      · have d1 : decide ((m : Int) < 1) = true := decide_eq_true (by omega)
        go_wp2_with fail
        go_ret
        exact ⟨rfl, HW.out⟩
      have d1 : decide ((m : Int) < 1) = false := decide_eq_false (by omega)
      by_cases hm2 : 100 < m
      · have d2 : decide ((100 : Int) < (m : Int)) = true := decide_eq_true (by omega)
        go_wp2_with fail
        go_ret
        exact ⟨rfl, HW.out⟩
      have d2 : decide ((100 : Int) < (m : Int)) = false := decide_eq_false (by omega)
      have HA2 := Lib.hid (take_all HY.out HA.out (by rw [HM.out]; omega))
      have HP := Lib.hid (put_good HM.out (show m ≠ 0 by omega) (show ¬ 4096 < m by omega))
      have HPL : Hid ((recB y).length = 6 + m) := Lib.hid (by rw [recB_len, HM.out])
      have HRT := Lib.hid (recs_take HY.out)
      have HES := Lib.hid (endsR_succ l i)
      have HTL : Hid (tillR l (i + 1) = (recs (l.take i)).length + (6 + m)) := Lib.hid (by unfold tillR; rw [HRT.out, List.length_append, HPL.out])
      go_wp2_with fail
      refine (put_is _ _ y m HM.out _ HYB.out (by omega) (HL.out.below HW.out) _ _ HP.out).mono ?_
      rintro e w3 ⟨⟨v3, rfl, hown3⟩, hbel3⟩
      have HB3 := Lib.hid (HB.out.trans (hbel3.mono HB.out.size))
      have HO3 := Lib.hid (HO.out.kept hbel3)
      have HE3 := Lib.hid (HE.out.kept hbel3)
      have e3 := (e1 : wr.cell? _ = _)
      have e4 : w3.cell? ⟨g1, o1 + i, none⟩ = some (.slice x1 m c1) := by rw [← e1]; exact hbel3.cell (cell_lt e1)
      obtain ⟨pa, pc, rfl, hpb⟩ := hown3.bytes
      have HPB := Lib.hid hpb
      rw [HPL.out]
      clear hbel3 hown3 hpb e3
      obtain ⟨B, hB⟩ : ∃ B, recs (l.take i) = B := ⟨_, rfl⟩
      obtain ⟨n, hn⟩ : ∃ n, (recs (l.take i)).length = n := ⟨_, rfl⟩
      have hBn : B.length = n := by rw [← hB, hn]
      have HBN := Lib.hid hBn
      rw [hn] at hfew HTL
      rw [hB] at HO3 HRT HO ⊢
      rw [hBn] at HO3 ⊢
      clear hB hn hBn HO
      obtain ⟨nn, hnn⟩ : ∃ nn, n + (6 + m) = nn := ⟨_, rfl⟩
      have HBL : Hid ((B ++ recB y).length = nn) := Lib.hid (by rw [List.length_append, HBN.out, HPL.out, hnn])
      rw [hnn] at HTL
      rw [HTL.out] at HES
      have HROW : Hid (∀ W : World, RowAt encN (W.alloc (.cells #[.int .i64 (nn : Int)] 3)) (some ⟨W.heap.size, 0, none⟩) 1 [nn]) := Lib.hid fun W => one_row encN W _ nn _ rfl
      have hnn3 : nn ≤ 4000 := by omega
      clear hnn HTL
      go_wp2_with (first
        | (at_builtin; refine wpList_append_g rfl (.tmp 63) (.tmp 64) _ rfl w1.heap.size 5 i0 _ Try.underlying22 HI0.out HZ0.out HZ1.out HZ2.out rfl _ B rfl HO3.out _ _ _ (recB y) rfl HPL.out HPB.out (by rw [HBN.out, HPL.out]; omega) HB3.out.size ?_; intro v5 w5 hown5 hb5 hg5
           have HK5 := Lib.hid (HO3.out.keptOf hg5.1)
           have HE5 := Lib.hid (HE3.out.keptT HK5.out hne2)
           have HB5 := Lib.hid (HB3.out.trans hb5)
           obtain ⟨ba5, bc5, rfl, _⟩ := hown5.bytes
           rw [HBL.out] at hown5 ⊢
           rw [← HRT.out] at hown5
           have HO5 := Lib.hid hown5
           clear hown5 hb5 hg5)
        | (at_builtin; refine wpList_append_num rfl (.tmp 66) (.tmp 69) _ rfl w1.heap.size 3 j0 _ Try.underlying41 HJ0.out HY0.out HY1.out HY2.out rfl _ (endsR l i) rfl (HE5.out.kept ((Below.refl _ _).alloc (Nat.le_refl _) _)) _ _ _ [nn] rfl (by rfl) (HROW.out w5) (by rw [endsR_len]; simp only [List.length_cons, List.length_nil]; omega) (HB5.out.alloc HB5.out.size _).size ?_; intro v6 w6 hown6 hb6 hk6
           rw [← HES.out] at hown6
           have HE6 := Lib.hid hown6
           have HO6 := Lib.hid ((HO5.out.kept ((Below.refl _ _).alloc (Nat.le_refl _) _)).keptT hk6 hne1)
           have HB6 := Lib.hid ((HB5.out.alloc HB5.out.size _).trans hb6)
           clear hown6 hb6 hk6))
      go_roundw
      case rel => exact ⟨i + 1, by omega, congrArg (Value.int .i64) (by omega), HA2.out, HO6.out, HE6.out, HB6.out⟩
      case measure => simp [intOf]; omega
    · obtain rfl : i = q0 := by omega
      have htl : l.take i = l := List.take_of_length_le (by rw [HQ.out]; exact Nat.le_refl _)
      have HF : Hid (Fine l) := Lib.hid fun r hr => by
        have h := HA.out r (by rw [htl]; exact hr)
        exact ⟨h.1, by omega⟩
      rw [htl] at HO hfew ⊢
      obtain ⟨n, hn⟩ : ∃ n, (recs l).length = n := ⟨_, rfl⟩
      have HN := Lib.hid hn
      rw [hn] at HO hfew ⊢
      clear hn htl
      obtain ⟨t, ht, htn⟩ : ∃ t : Nat, at_ % ((n : Int) + 1) = (t : Int) ∧ t ≤ n :=
        ⟨(at_ % ((n : Int) + 1)).toNat, by rw [Int.toNat_of_nonneg]; exact Int.emod_nonneg _ (by omega), by have := Int.emod_lt_of_pos at_ (b := (n : Int) + 1) (by omega); have := Int.emod_nonneg at_ (b := (n : Int) + 1) (by omega); omega⟩
      have hcell : ∃ b off, ea = some ⟨b, off, none⟩ ∧ ∀ k, k ≤ i → wr.cell? ⟨b, off + k, none⟩ = some (.int .i64 (tillR l k : Nat)) := by
        obtain ⟨b, off, he, hc⟩ := (HE.out.read).at (by rw [endsR_len]; omega) (by decide)
        refine ⟨b, off, he, fun k hk => ?_⟩
        have h := hc k _ (endsR_get l hk) 0 _ rfl
        have e : k * encN.size + 0 = k := by show k * 1 + 0 = k; omega
        rwa [e] at h
      obtain ⟨eb, eo, rfl, hcell⟩ := hcell
      have HC := Lib.hid hcell
      clear hcell
      have hcap0 : i ≤ cap0 := by have h := HB0.out.cap; rw [HQ.out] at h; exact h
      have hcapb : n ≤ bc := by have h := (HO.out.read).cap; rw [HN.out] at h; exact h
      go_upto_block 2 with fail
      rw [ht]
      go_cut [11] (fun k_ wx => ∃ k : Nat, k ≤ i ∧ k_ = .int .i64 k ∧ tillR l k ≤ t ∧ (k = i ∨ t < tillR l (k + 1)) ∧ wx = wr)
      case first =>
        go_wp2_with fail
        go_loop [11] (fun k_ => ∃ k : Nat, k ≤ i ∧ k_ = .int .i64 k ∧ tillR l k ≤ t) (fun k_ => i - (intOf k_).toNat)
        case atStart => exact ⟨0, Nat.zero_le _, rfl, Nat.zero_le _⟩
        case round =>
          obtain ⟨k, hk, rfl, hkt⟩ := hrel
          have HKT := Lib.hid hkt
          clear hkt
          by_cases hki : k < i
          · have hcv := HC.out (k + 1) (by omega)
            obtain ⟨v, hv⟩ : ∃ v, tillR l (k + 1) = v := ⟨_, rfl⟩
            rw [hv] at hcv
            have HV := Lib.hid hv
            clear hv
            by_cases hvt : v ≤ t
            · have d : decide ((v : Int) ≤ (t : Int)) = true := decide_eq_true (by omega)
              go_wp2_with fail
              go_round
              case rel => exact ⟨k + 1, by omega, congrArg (Value.int .i64) (by omega), by rw [HV.out]; exact hvt⟩
              case measure => simp [intOf]; omega
            · have d : decide ((v : Int) ≤ (t : Int)) = false := decide_eq_false (by omega)
              go_wp2_with fail
              go_meet
              exact ⟨k, by omega, rfl, HKT.out, .inr (by rw [HV.out]; omega), rfl⟩
          · obtain rfl : k = i := by omega
            go_wp2_with fail
            go_meet
            exact ⟨k, Nat.le_refl _, rfl, HKT.out, .inl rfl, rfl⟩
      case rest =>
        obtain ⟨k, hk, rfl, h1, h2, rfl⟩ := hcut
        have HCUT := Lib.hid (cut_is (t := t) HF.out (by rw [HN.out]; exact htn) (by rw [HQ.out]; exact hk) h1 (by rw [HQ.out]; exact h2))
        have HALL := Lib.hid (all_recs HF.out)
        rw [HN.out] at HALL
        have HKL : Hid ((l.take k).length = k) := Lib.hid (by rw [List.length_take, HQ.out]; omega)
        have hck := HC.out k hk
        obtain ⟨v, hv⟩ : ∃ v, tillR l k = v := ⟨_, rfl⟩
        rw [hv] at hck HCUT
        have HBY := Lib.hid (HO.out.read)
        have HTK : Hid (((recs l).take t).length = t) := Lib.hid (by rw [List.length_take, HN.out]; omega)
        clear h1 h2 hv HC HA HE HO
        go_wp2_with fail
        refine (all_is _ _ (recs l) n HN.out _ HBY.out (by omega) (HL.out.below HW.out) (l, n) HALL.out).mono ?_
        rintro e w5 ⟨la, lc, rfl, hbo, hbel⟩
        have HW5 := Lib.hid (HW.out.trans (hbel.mono HW.out.size))
        have hck5 := (hbel.cell (cell_lt hck)).trans hck
        have HBY5 := Lib.hid (HBY.out.later hbel)
        have HBO := Lib.hid hbo
        rw [HQ.out]
        clear hbel hbo hck HBY
        go_wp2_with fail
        refine (all_is _ _ ((recs l).take t) t HTK.out _ (HBY5.out.take t) (by omega) (HL.out.below HW5.out) _ HCUT.out).mono ?_
        rintro e w6 ⟨la2, lc2, rfl, hbo2, hbel⟩
        have HW6 := Lib.hid (HW5.out.trans (hbel.mono HW5.out.size))
        have hck6 := (hbel.cell (cell_lt hck5)).trans hck5
        have HBO6 := Lib.hid (HBO.out.later hbel)
        have HBP6 := Lib.hid hbo2
        simp only
        rw [HKL.out]
        clear hbel hbo2 hck5 HBO HBY5
        go_wp2_with fail
        refine (rsame_is _ _ _ _ l _ HQ.out.symm _ HQ.out.symm _ HBO6.out (HB0.out.later HW6.out) (by rw [HQ.out]; omega)).mono ?_
        rintro e w7 ⟨rfl, hbel⟩
        have HW7 := Lib.hid (HW6.out.trans (hbel.mono HW6.out.size))
        have hck7 := (hbel.cell (cell_lt hck6)).trans hck6
        have HBP7 := Lib.hid (HBP6.out.later hbel)
        clear hbel hck6 HBO6 HBP6
        go_wp2_with fail
        refine (rsame_is _ _ _ _ (l.take k) _ HKL.out.symm _ HKL.out.symm _ HBP7.out ((HB0.out.later HW7.out).takeN k) (by rw [HKL.out]; omega)).mono ?_
        rintro e w8 ⟨rfl, hbel⟩
        have HW8 := Lib.hid (HW7.out.trans (hbel.mono HW7.out.size))
        have hck8 := (hbel.cell (cell_lt hck7)).trans hck7
        clear hbel hck7 HBP7
        go_wp2_with fail
        go_ret
        exact ⟨rfl, HW8.out⟩

theorem law_CrcTells (a0 : Option Addr) (len0 cap0 : Nat) (z0 : List (List UInt8)) (at_ : Int) (w : World) (h0 : IsBys w a0 len0 cap0 z0) (hat : (Lit.int .u16 at_).wf = true) (hl : Laid w) :
    Calls Try.prog 4 #[.slice a0 len0 cap0, .int .u16 at_] w fun e w' => e = .returned (.bool true) ∧ Below w.heap.size w w' :=
  tells_any a0 len0 cap0 z0 h0.1 at_ w h0.2.2 h0.2.1 hat hl

end Crc
end Go.Proofs.Ytlpkklhagmkmpaa
