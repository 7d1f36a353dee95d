/-
  The program's Next of layer 8; bytes.Clone of any bytes.
-/
import Derived.Test.YtlpkklhagmkmpaaCrcPd
import Derived.Lib.SliceRun
namespace Go.Proofs.Ytlpkklhagmkmpaa
open Go.RowKit
namespace Crc
open Num

/-- a copy of any bytes: new memory, or none -/
theorem clone_any (a : Option Addr) (cap : Nat) (l : List UInt8) (n : Nat) (hn : l.length = n) (w : World) (hby : BytesAt w a cap l) (hlen : n ≤ 70368744177664) :
    Calls Try.prog 20 #[.slice a n cap] w fun e w' => ∃ v, e = .returned v ∧ OwnG 5 w' w.heap.size v l ∧ Below w.heap.size w w' := by
  subst hn
  obtain ⟨i0, hi0, hz0, hz1, hz2⟩ := info_parts infoC
  have HI0 := Lib.hid hi0
  have HZ0 := Lib.hid hz0
  have HZ1 := Lib.hid hz1
  have HZ2 := Lib.hid hz2
  clear hi0 hz0 hz1 hz2
  have HB := Lib.hid hby
  have qT : ∀ (w : World) (a : Option Addr) (n c n' c' : Nat), (binOp .eql 22 (.slice a n c) (.slice none n' c')).run Try.prog w = .ok (.bool a.isNone) w := fun w a n c n' c' => Lib.run_eql_slice_nil w _ _ a n c n' c' Try.underlying22
  rcases hby with ⟨rfl, rfl, rfl⟩ | ⟨x, rfl, _⟩
  · go_enter Try.func20, Try.ntmps20
    go_wp2_with fail
    go_ret
    exact ⟨_, rfl, .inl ⟨rfl, rfl⟩, Below.refl _ _⟩
  · go_enter Try.func20, Try.ntmps20
    go_wp2_with (at_builtin; refine wpList_append_g rfl (.tmp 5) (.tmp 6) _ rfl w.heap.size 5 i0 _ Try.underlying22 HI0.out HZ0.out HZ1.out HZ2.out rfl _ [] rfl (Own.g (own_empty w 5 w.heap.size (Nat.le_refl _))) _ _ _ l rfl rfl (HB.out.later ((Below.refl _ _).alloc (Nat.le_refl _) _)) (by simp; omega) (Below.alloc (Below.refl _ _) (Nat.le_refl _) _).size ?_; intro v2 w2 hown2 hb2 _; rw [List.nil_append] at hown2
                 have HO2 := Lib.hid hown2; have HB2 := Lib.hid (((Below.refl _ _).alloc (Nat.le_refl _) _).trans hb2); clear hown2 hb2)
    go_ret
    exact ⟨_, rfl, HO2.out, HB2.out⟩


/-- what the program's Next tells: bytes of the call's own -/
def GotN9 (w : World) (r : List UInt8 × Nat × Int) (e : Ending) (w' : World) : Prop :=
  ∃ v, e = .returned (.tuple #[v, .int .i64 r.2.1, .int .i64 r.2.2]) ∧ OwnG 5 w' w.heap.size v r.1 ∧ Below w.heap.size w w'
theorem GotN9.nil {w w' : World} (h : Below w.heap.size w w') (k : Int) : GotN9 w ([], 0, k) (.returned (.tuple #[.slice none 0 0, .int .i64 0, .int .i64 k])) w' := ⟨_, rfl, .inl ⟨rfl, rfl⟩, h⟩
theorem lenC_lt (b : List UInt8) : lenC b < 65536 := by
  have h1 := (b.getD 0 0).toNat_lt
  have h2 := (b.getD 1 0).toNat_lt
  unfold lenC
  omega

set_option maxRecDepth 100000 in
set_option maxHeartbeats 4000000 in
theorem next_own (a : Option Addr) (cap : Nat) (b : List UInt8) (q : Nat) (hq : b.length = q) (w : World) (hby : BytesAt w a cap b) (hlen : q ≤ 1000000) (_hl : Laid w) :
    Calls Try.prog 10 #[.slice a q cap] w (GotN9 w (nextC b)) := by
  by_cases h6 : q < 6
  · rw [nx_short hq h6]
    go_enter Try.func10, Try.ntmps10
    go_wp2_with fail
    go_ret3
    exact GotN9.nil (Below.refl _ _) 2
  obtain ⟨bb, off, rfl, _⟩ := hby.at (by omega)
  have hcap := hby.cap
  rw [hq] at hcap
  obtain ⟨n, hn⟩ : ∃ n, lenC b = n := ⟨_, rfl⟩
  have hn6 : n < 65536 := by rw [← hn]; exact lenC_lt b
  have h2l : (b.take 2).length = 2 := by rw [List.length_take]; omega
  have HN1 := Lib.hid (number_any (some ⟨bb, off, none⟩) cap (b.take 2) 2 h2l w (hby.take 2) (by decide))
  rw [num_len (by omega), hn] at HN1
  have HF := Lib.hid hby
  have HQ := Lib.hid hq
  have HLN := Lib.hid hn
  clear hby hq hn
  have HM := Lib.hid (may_any n w)
  by_cases hbad : n = 0 ∨ 4096 < n
  · have hd : (decide (1 ≤ (n : Int)) && decide ((n : Int) ≤ 4096)) = false := by
      rw [Bool.and_eq_false_iff, decide_eq_false_iff_not, decide_eq_false_iff_not]
      omega
    rw [hd] at HM
    have HP : Hid (nextC b = ([], 0, 3)) := Lib.hid (nx_form HQ.out HLN.out h6 hbad)
    clear hd
    go_enter Try.func10, Try.ntmps10
    go_wp2_with fail
    refine HN1.out.mono ?_
    rintro e w1 ⟨rfl, rfl⟩
    go_wp2_with fail
    refine HM.out.mono ?_
    rintro e w2 ⟨rfl, rfl⟩
    go_wp2_with fail
    go_ret3
    rw [HP.out]
    exact GotN9.nil (Below.refl _ _) 3
  have hd : (decide (1 ≤ (n : Int)) && decide ((n : Int) ≤ 4096)) = true := by
    rw [Bool.and_eq_true, decide_eq_true_eq, decide_eq_true_eq]
    omega
  rw [hd] at HM
  clear hd
  by_cases hfew : q < 6 + n
  · have HP : Hid (nextC b = ([], 0, 2)) := Lib.hid (nx_end HQ.out HLN.out h6 (by omega) (by omega) hfew)
    have hf2 : decide ((q : Int) - 6 < (n : Int)) = true := by rw [decide_eq_true_eq]; omega
    go_enter Try.func10, Try.ntmps10
    go_wp2_with fail
    refine HN1.out.mono ?_
    rintro e w1 ⟨rfl, rfl⟩
    go_wp2_with fail
    refine HM.out.mono ?_
    rintro e w2 ⟨rfl, rfl⟩
    go_wp2_with fail
    go_ret3
    rw [HP.out]
    exact GotN9.nil (Below.refl _ _) 2
  have hf2 : decide ((q : Int) - 6 < (n : Int)) = false := by rw [decide_eq_false_iff_not]; omega
  have HNG := Lib.hid (nx_good HQ.out HLN.out h6 (by omega) (by omega) hfew)
  have HNS := Lib.hid (nx_sum HQ.out HLN.out h6 (by omega) (by omega) hfew)
  have HFI := Lib.hid (fits_iff (b := b) (by rw [HLN.out, HQ.out]; omega))
  have HBT : Hid (BytesAt w (some ⟨bb, off, none⟩) cap (b.take 2)) := Lib.hid (HF.out.take 2)
  have HBS : Hid (BytesAt w (some ⟨bb, off + 2, none⟩) (cap - 2) ((b.drop 2).take 4)) := Lib.hid (by
    have h := (HF.out.drop 2 (by rw [HQ.out]; omega)).take 4
    rwa [add_none] at h)
  have HBR : Hid (BytesAt w (some ⟨bb, off + 6, none⟩) (cap - 6) ((b.drop 6).take n)) := Lib.hid (by
    have h := (HF.out.drop 6 (by rw [HQ.out]; omega)).take n
    rwa [add_none] at h)
  have HSL : Hid (((b.drop 2).take 4).length = 4) := Lib.hid (by rw [List.length_take, List.length_drop, HQ.out]; omega)
  have HRL : Hid (((b.drop 6).take n).length = n) := Lib.hid (by rw [List.length_take, List.length_drop, HQ.out]; omega)
  have HTL := Lib.hid h2l
  rw [HLN.out] at HFI
  obtain ⟨Y, hY⟩ : ∃ Y, (b.drop 6).take n = Y := ⟨_, rfl⟩
  obtain ⟨X, hX⟩ : ∃ X, b.take 2 = X := ⟨_, rfl⟩
  obtain ⟨Z, hZ⟩ : ∃ Z, (b.drop 2).take 4 = Z := ⟨_, rfl⟩
  rw [hY] at HNG HNS HFI HBR HRL
  rw [hX] at HFI HBT HTL
  rw [hZ] at HFI HBS HSL
  obtain ⟨N, hN⟩ : ∃ N, numN 0 Z = N := ⟨_, rfl⟩
  obtain ⟨S, hS⟩ : ∃ S, sumC (X ++ Y) = S := ⟨_, rfl⟩
  rw [hN, hS] at HFI
  have HN2 : Hid (∀ W, Below w.heap.size w W → Calls Try.prog 19 #[.slice (some ⟨bb, off + 2, none⟩) 4 (cap - 2)] W fun e w' => e = .returned (.int .u32 (N : Nat)) ∧ w' = W) :=
    Lib.hid fun W hW => by rw [← hN]; exact number_any _ _ Z 4 HSL.out W (HBS.out.later hW) (by decide)
  have HSM : Hid (∀ W, Below w.heap.size w W → Calls Try.prog 18 #[.slice (some ⟨W.heap.size, 0, none⟩) 2 2] (W.alloc (.cells #[.slice (some ⟨bb, off, none⟩) 2 cap, .slice (some ⟨bb, off + 6, none⟩) n (cap - 6)] 22)) fun e w' => e = .returned (.int .u32 (S : Nat)) ∧ Below w.heap.size w w') :=
    Lib.hid fun W hW => by
      have h1 := hW.alloc hW.size (.cells #[.slice (some ⟨bb, off, none⟩) 2 cap, .slice (some ⟨bb, off + 6, none⟩) n (cap - 6)] 22)
      have h2 := sumOf_any (some ⟨W.heap.size, 0, none⟩) 2 [X, Y] 2 rfl (by decide) (W.alloc (.cells #[.slice (some ⟨bb, off, none⟩) 2 cap, .slice (some ⟨bb, off + 6, none⟩) n (cap - 6)] 22))
        ⟨[(some ⟨bb, off, none⟩, 2, cap), (some ⟨bb, off + 6, none⟩, n, cap - 6)], rows_alloc encS W _ _ _ rfl 2 (Nat.le_refl _), ⟨HTL.out.symm, HBT.out.later h1⟩, ⟨HRL.out.symm, HBR.out.later h1⟩, trivial⟩
        (by
          intro y hy
          rcases List.mem_cons.1 hy with rfl | hy
          · rw [HTL.out]; decide
          · obtain rfl := List.mem_singleton.1 hy
            rw [HRL.out]; omega)
      rw [List.flatten_cons, List.flatten_cons, List.flatten_nil, List.append_nil, hS] at h2
      exact h2.mono fun e w' h => ⟨h.1, h1.trans (h.2.mono h1.size)⟩
  clear hY hX hZ hN hS h2l HF HBT HBS HTL HSL
  have hs1 : (6 : Int) + (n : Int) ≤ (cap : Int) := by omega
  have hs2 : (6 : Int) ≤ (6 : Int) + (n : Int) := by omega
  go_enter Try.func10, Try.ntmps10
  go_wp2_with fail
  refine HN1.out.mono ?_
  rintro e w1 ⟨rfl, rfl⟩
  go_wp2_with fail
  refine HM.out.mono ?_
  rintro e w2 ⟨rfl, rfl⟩
  go_upto_region 9 with fail
  have hc6 : (6 : Int) ≤ (cap : Int) := by omega
  have hc2 : ¬ cap = 2 := by omega
  have hc3 : (2 : Int) ≤ (cap : Int) := by omega
  rw [show 6 + n - 6 = n by omega]
  go_cut [34] (fun r_ wx => r_ = .bool ((N : Int) != (S : Int)) ∧ Below w2.heap.size w2 wx)
  case first =>
    refine wp_region_held_drew (S := fun w' => Below w2.heap.size w2 w') (by kernel_rfl) ?hs0 (fun hHeld => ?_)
    case hs0 => exact drew_below (Below.refl _ _) 1
    have hHB : Hid (Below w2.heap.size w2 w2.drew) := Lib.hid hHeld
    generalize w2.drew = wd at hHB hHeld ⊢
    refine' wpAnyH_take (i := 0) (oi := _) (v := _) rfl (by kernel_rfl) (by kernel_rfl) (by kernel_rfl) (fun _ _ _ h => h) (Or.inl ⟨by rfl, ?hy⟩) (by assumption) ?_
    case hy => (intro w hSw; (try dsimp only at hSw); (try simp only [List.getElem_toArray, List.getElem_cons_zero]); go_simp; try with_reducible rfl)
    try simp only [List.getElem_toArray, List.getElem_cons_zero, Act.put, List.setIfInBounds_toArray, List.set_cons_zero, List.set_cons_succ]
    refine' wpAnyH_take (i := 1) (oi := _) (v := _) rfl (by kernel_rfl) (by kernel_rfl) (by kernel_rfl) (fun _ _ _ h => h) (Or.inl ⟨by rfl, ?hy⟩) (by assumption) ?_
    case hy => (intro w hSw; (try dsimp only at hSw); (try simp only [List.getElem_toArray, List.getElem_cons_zero, List.getElem_cons_succ]); go_simp; try with_reducible rfl)
    try simp only [List.getElem_toArray, List.getElem_cons_zero, List.getElem_cons_succ, Act.put, List.setIfInBounds_toArray, List.set_cons_zero, List.set_cons_succ]
    refine' wpAnyH_take (i := 3) (oi := _) (v := _) rfl (by kernel_rfl) (by kernel_rfl) (by kernel_rfl) (fun _ _ _ h => h) (Or.inl ⟨by rfl, ?hy⟩) (by assumption) ?_
    case hy => (intro w hSw; (try dsimp only at hSw); (try simp only [List.getElem_toArray, List.getElem_cons_zero, List.getElem_cons_succ]); go_simp; try with_reducible rfl)
    try simp only [List.getElem_toArray, List.getElem_cons_zero, List.getElem_cons_succ, Act.put, List.setIfInBounds_toArray, List.set_cons_zero, List.set_cons_succ]
    refine' wpAnyH_take (i := 4) (oi := _) (v := _) rfl (by kernel_rfl) (by kernel_rfl) (by kernel_rfl) (fun _ _ _ h => h) (Or.inl ⟨by rfl, ?hy⟩) (by assumption) ?_
    case hy => (intro w hSw; (try dsimp only at hSw); (try simp only [List.getElem_toArray, List.getElem_cons_zero, List.getElem_cons_succ]); go_simp; try with_reducible rfl)
    try simp only [List.getElem_toArray, List.getElem_cons_zero, List.getElem_cons_succ, Act.put, List.setIfInBounds_toArray, List.set_cons_zero, List.set_cons_succ]
    refine' wpAnyH_take (i := 5) (oi := _) (v := _) rfl (by kernel_rfl) (by kernel_rfl) (by kernel_rfl) (fun _ _ _ h => h) (Or.inl ⟨by rfl, ?hy⟩) (by assumption) ?_
    case hy => (intro w hSw; (try dsimp only at hSw); (try simp only [List.getElem_toArray, List.getElem_cons_zero, List.getElem_cons_succ]); go_simp; try with_reducible rfl)
    try simp only [List.getElem_toArray, List.getElem_cons_zero, List.getElem_cons_succ, Act.put, List.setIfInBounds_toArray, List.set_cons_zero, List.set_cons_succ]
    refine wpAnyH_ready (rs := [2, 6]) (by kernel_rfl) (by simp) ?_
    refine AllReadyH.cons (o := _) rfl (fun K hK => ?_) (AllReadyH.cons (o := _) rfl (fun K hK => ?_) AllReadyH.nil)
    · clear hHeld
      rw [if_pos (by rfl)]
      go_simp
      refine (HN2.out _ hHB.out).mono ?_
      rintro e w3 ⟨rfl, rfl⟩
      go_wp2_with fail
      refine hK.out _ _ ?hs1 (fun hHeld => ?_)
      case hs1 => exact hHB.out
      clear hK K
      refine wpAnyH_ready (rs := [6]) (by kernel_rfl) (by simp) ?_
      refine AllReadyH.cons (o := _) rfl (fun K hK => ?_) AllReadyH.nil
      rw [if_pos (by rfl)]
      go_simp
      refine hK.out _ _ ?hs2 (fun hHeld => ?_)
      case hs2 => exact hHB.out.alloc hHB.out.size _
      clear hK K
      refine wpAnyH_ready (rs := [7]) (by kernel_rfl) (by simp) ?_
      refine AllReadyH.cons (o := _) rfl (fun K hK => ?_) AllReadyH.nil
      rw [if_pos (by rfl)]
      go_simp
      refine (HSM.out _ hHB.out).mono ?_
      rintro e w4 ⟨rfl, hb4⟩
      have HB4 := Lib.hid hb4
      clear hb4
      go_wp2_with fail
      refine hK.out _ _ ?hs4 (fun hHeld => ?_)
      case hs4 => exact HB4.out
      clear hK K
      refine' wpAnyH_take (i := 8) (oi := _) (v := _) rfl (by kernel_rfl) (by kernel_rfl) (by kernel_rfl) (fun _ _ _ h => h) (Or.inl ⟨by rfl, ?hy⟩) (by assumption) ?_
      case hy => (intro w hSw; (try dsimp only at hSw); (try simp only [List.getElem_toArray, List.getElem_cons_zero, List.getElem_cons_succ]); go_simp; try with_reducible rfl)
      try simp only [List.getElem_toArray, List.getElem_cons_zero, List.getElem_cons_succ, Act.put, List.setIfInBounds_toArray, List.set_cons_zero, List.set_cons_succ]
      refine wpAnyH_done (by kernel_rfl) ?_ _
      go_wp2_with fail
      go_meet
      exact ⟨rfl, HB4.out⟩
    · clear hHeld
      rw [if_pos (by rfl)]
      go_simp
      refine hK.out _ _ ?hs2 (fun hHeld => ?_)
      case hs2 => exact hHB.out.alloc hHB.out.size _
      clear hK K
      refine wpAnyH_ready (rs := [2]) (by kernel_rfl) (by simp) ?_
      refine AllReadyH.cons (o := _) rfl (fun K hK => ?_) AllReadyH.nil
      rw [if_pos (by rfl)]
      go_simp
      refine (HN2.out _ (hHB.out.alloc hHB.out.size _)).mono ?_
      rintro e w3 ⟨rfl, rfl⟩
      go_wp2_with fail
      refine hK.out _ _ ?hs3 (fun hHeld => ?_)
      case hs3 => exact hHB.out.alloc hHB.out.size _
      clear hK K
      refine wpAnyH_ready (rs := [7]) (by kernel_rfl) (by simp) ?_
      refine AllReadyH.cons (o := _) rfl (fun K hK => ?_) AllReadyH.nil
      rw [if_pos (by rfl)]
      go_simp
      refine (HSM.out wd hHB.out).mono ?_
      rintro e w4 ⟨rfl, hb4⟩
      have HB4 := Lib.hid hb4
      clear hb4
      go_wp2_with fail
      refine hK.out _ _ ?hs4 (fun hHeld => ?_)
      case hs4 => exact HB4.out
      clear hK K
      refine' wpAnyH_take (i := 8) (oi := _) (v := _) rfl (by kernel_rfl) (by kernel_rfl) (by kernel_rfl) (fun _ _ _ h => h) (Or.inl ⟨by rfl, ?hy⟩) (by assumption) ?_
      case hy => (intro w hSw; (try dsimp only at hSw); (try simp only [List.getElem_toArray, List.getElem_cons_zero, List.getElem_cons_succ]); go_simp; try with_reducible rfl)
      try simp only [List.getElem_toArray, List.getElem_cons_zero, List.getElem_cons_succ, Act.put, List.setIfInBounds_toArray, List.set_cons_zero, List.set_cons_succ]
      refine wpAnyH_done (by kernel_rfl) ?_ _
      go_wp2_with fail
      go_meet
      exact ⟨rfl, HB4.out⟩
  case rest =>
    obtain ⟨rfl, hb⟩ := hcut
    have HBX := Lib.hid hb
    clear hb
    by_cases hNS : N = S
    · have d : ((N : Int) != (S : Int)) = false := by rw [hNS]; exact bne_self_eq_false _
      have HP := Lib.hid (HNG.out (HFI.out.1 hNS))
      have HCL := Lib.hid (clone_any (some ⟨bb, off + 6, none⟩) (cap - 6) Y n HRL.out _ (HBR.out.later HBX.out) (by omega))
      rw [d]
      clear d hNS HNG HNS HFI
      go_wp2_with fail
      refine HCL.out.mono ?_
      rintro e w3 ⟨v3, rfl, hown, hb3⟩
      have HB3 := Lib.hid (HBX.out.trans (hb3.mono HBX.out.size))
      have HO3 := Lib.hid (hown.mono HBX.out.size)
      clear hown hb3 HCL
      go_wp2_with fail
      go_ret3
      rw [HP.out]
      exact ⟨v3, by rw [Int.natCast_add]; rfl, HO3.out, HB3.out⟩
    · have d : ((N : Int) != (S : Int)) = true := by
        rw [bne_iff_ne]
        omega
      have HP := Lib.hid (HNS.out (fun h => hNS (HFI.out.2 h)))
      rw [d]
      clear d hNS HNG HNS HFI
      go_wp2_with fail
      go_ret3
      rw [HP.out]
      exact GotN9.nil HBX.out 11

end Crc
end Go.Proofs.Ytlpkklhagmkmpaa
