/-
  The program's In of layer 4 (as landed in a4a23a44).
-/
import Derived.Test.YtnmhkjgcfhcmpaaDoorFedA
import Derived.Test.YtnmhkjgcfhcmpaaDoorFedG
import Derived.Test.YtnmhkjgcfhcmpaaDoorFrmPn
namespace Go.Proofs.YtnmhkjgcfhcmpaaDoor
open Go.RowKit
namespace Frm
open Num

theorem next_kind (b : List UInt8) : (nextY b).1 = 0 ∨ (nextY b).1 = 1 ∨ (nextY b).1 = 2 := by
  unfold nextY
  repeat' split
  all_goals simp

theorem fnext_is (a : Option Addr) (cap : Nat) (b : List UInt8) (n : Nat) (hn : b.length = n) (w : World) (hby : BytesAt w a cap b) (hlen : n ≤ 1000000) (hl : Laid w) (r : Int × List UInt8 × Nat) (hr : nextY b = r) :
    Calls Tryd.prog 14 #[.slice a n cap] w (GotNext w a r) := by
  subst hn hr
  exact next_any a cap b w hby hlen hl

def flenOf : Value → Nat
  | .slice _ n _ => n
  | _ => 0

set_option maxRecDepth 100000 in
set_option maxHeartbeats 2000000 in
theorem in_big (a0 : Option Addr) (cap0 : Nat) (kept : List UInt8) (a1 : Option Addr) (cap1 : Nat) (piece : List UInt8) (w : World) (h0 : BytesAt w a0 cap0 kept)
    (hl0 : kept.length ≤ 1000000) (hl1 : piece.length ≤ 1000000) (hbig : 16384 ≤ kept.length ∨ 65536 < piece.length) :
    Calls Tryd.prog 8 #[.slice a0 kept.length cap0, .slice a1 piece.length cap1] w (GotFed w a0 a1 (inY kept piece) (inE kept piece)) := by
  have HK := Lib.hid h0
  clear h0
  have HI : Hid (inY kept piece = ([], 0, kept) ∧ inE kept piece = 4) := Lib.hid ⟨by unfold inY; rw [if_pos hbig], by unfold inE; rw [if_pos hbig]⟩
  have HE : Hid (∀ a c w', BytesAt w' a c kept → OwnG 5 w' w.heap.size (.slice a kept.length c) kept → Below w.heap.size w w' → GotFed w a0 a1 (inY kept piece) (inE kept piece) (.returned (.tuple #[.slice a kept.length c, .slice none 0 0, .int .i64 0, .int .i64 4])) w') := Lib.hid fun a c w' hb ho hbel => by
    rw [HI.out.1, HI.out.2]
    exact ⟨a, c, none, 0, [], rfl, hb, .inl ⟨rfl, rfl, rfl⟩, trivial, fun b _ _ _ => ⟨SafeAll.nil b w', (OwnG.safe ho)⟩, hbel⟩
  clear HI
  by_cases hb1 : 16384 ≤ kept.length
  · clear hbig
    go_enter Tryd.func8, Tryd.ntmps8
    go_wp2_with fail
    refine (clone_any a0 cap0 kept _ rfl _ HK.out (by omega)).mono ?_
    rintro e w1 ⟨v, rfl, ho, hb⟩
    have HO := Lib.hid ho
    have HB := Lib.hid hb
    obtain ⟨a, c, rfl, hby⟩ := ho.bytes
    have HY := Lib.hid hby
    clear ho hb hby
    go_wp2_with fail
    refine bodyPost_ret (four_tmps rfl _ _ _) rfl ?_
    exact HE.out _ _ _ HY.out HO.out HB.out
  · have hb2 : 65536 < piece.length := by omega
    clear hbig
    go_enter Tryd.func8, Tryd.ntmps8
    go_wp2_with fail
    refine (clone_any a0 cap0 kept _ rfl _ HK.out (by omega)).mono ?_
    rintro e w1 ⟨v, rfl, ho, hb⟩
    have HO := Lib.hid ho
    have HB := Lib.hid hb
    obtain ⟨a, c, rfl, hby⟩ := ho.bytes
    have HY := Lib.hid hby
    clear ho hb hby
    go_wp2_with fail
    refine bodyPost_ret (four_tmps rfl _ _ _) rfl ?_
    exact HE.out _ _ _ HY.out HO.out HB.out

set_option maxRecDepth 100000 in
set_option maxHeartbeats 4000000 in
theorem in_any (a0 : Option Addr) (cap0 : Nat) (kept : List UInt8) (a1 : Option Addr) (cap1 : Nat) (piece : List UInt8) (w : World) (h0 : BytesAt w a0 cap0 kept) (h1 : BytesAt w a1 cap1 piece)
    (hl0 : kept.length ≤ 1000000) (hl1 : piece.length ≤ 1000000) (hl : Laid w) :
    Calls Tryd.prog 8 #[.slice a0 kept.length cap0, .slice a1 piece.length cap1] w (GotFed w a0 a1 (inY kept piece) (inE kept piece)) := by
  have HK := Lib.hid h0
  have HP := Lib.hid h1
  have HL := Lib.hid hl
  clear h0 h1 hl
  by_cases hbig : 16384 ≤ kept.length ∨ 65536 < piece.length
  · exact in_big a0 cap0 kept a1 cap1 piece w HK.out hl0 hl1 hbig
  · have hk : kept.length < 16384 := by omega
    have hp : piece.length ≤ 65536 := by omega
    have HI : Hid (inY kept piece = feedY (kept ++ piece) ∧ inE kept piece = 0) := Lib.hid ⟨by unfold inY; rw [if_neg hbig], by unfold inE; rw [if_neg hbig]⟩
    have hk2 : ¬ 16384 ≤ kept.length := by omega
    clear hbig
    obtain ⟨j0, hi0, hz0, hz1, hz2⟩ := info_parts infoSl
    have HJ0 := Lib.hid hi0
    have HY0 := Lib.hid hz0
    have HY1 := Lib.hid hz1
    have HY2 := Lib.hid hz2
    clear hi0 hz0 hz1 hz2
    go_enter Tryd.func8, Tryd.ntmps8
    go_wp2_with fail
    have hba : Below w.heap.size w (w.alloc (.cells #[.slice a0 kept.length cap0, .slice a1 piece.length cap1] 22)) := (Below.refl _ _).alloc (Nat.le_refl _) _
    refine (concat_two w.heap.size 2 a0 cap0 kept a1 cap1 piece _ (by rw [World.cell?_alloc_new]; rfl) (by rw [World.cell?_alloc_new]; rfl) (HK.out.later hba) (HP.out.later hba) (by omega) (by omega)).mono ?_
    rintro e w4 ⟨v, rfl, ho, hb⟩
    have HB4 : Hid (Below w.heap.size w w4) := Lib.hid (hba.trans (hb.mono hba.size))
    obtain ⟨sa, sc, hv, hsb⟩ := ho.bytes
    subst hv
    have HS4 : Hid (Safe 5 0 w4 sa) := Lib.hid (OwnG.safe ho)
    have HSB := Lib.hid hsb
    clear ho hb hba hsb
    obtain ⟨B, hB⟩ : ∃ B, kept ++ piece = B := ⟨_, rfl⟩
    obtain ⟨q, hq⟩ : ∃ q, B.length = q := ⟨_, rfl⟩
    have hq6 : q ≤ 90000 := by rw [← hq, ← hB, List.length_append]; omega
    have HBL : Hid (B.length = q) := Lib.hid hq
    rw [hB] at HSB HI ⊢
    rw [hq]
    clear hB hq
    go_wp2_with fail
    go_loopw [8, 9, 10] (fun rest_ o_ j_ wr => ∃ (n j c : Nat) (a : Option Addr) (ts : List Hdr) (ys : List (List UInt8)) (R : List UInt8), rest_ = .slice a n c ∧ j_ = .int .i64 j ∧ R.length = n ∧ j + n ≤ q ∧ ts.length + n ≤ q ∧ BytesAt wr a c R ∧ Safe 5 0 wr a ∧ feedY B = joinF ys j (feedY R) ∧
      OwnE encS 22 wr w4.heap.size o_ ts ∧ Match wr ts ys ∧ SafeAll 0 wr ts ∧ Below w4.heap.size w4 wr) (fun rest_ _ _ _ => flenOf rest_)
    case atStart => exact ⟨q, 0, sc, sa, [], [], B, rfl, rfl, HBL.out, by omega, by simp, HSB.out, HS4.out, (join_nil _).symm, OwnE.nil _ _ _ _, trivial, SafeAll.nil _ _, Below.refl _ _⟩
    case round =>
      obtain ⟨n, j, c, a, ts, ys, R, rfl, rfl, hrn, hjn, htn, hby, hsf, hfd, hown, hmat, hsafe, hbel⟩ := hrel
      have HRN := Lib.hid hrn
      have HBY := Lib.hid hby
      have HSF := Lib.hid hsf
      have HFD := Lib.hid hfd
      have HO := Lib.hid hown
      have HM := Lib.hid hmat
      have HS := Lib.hid hsafe
      have HB := Lib.hid hbel
      have hnc : n ≤ c := by have := hby.cap; omega
      clear hrn hby hsf hfd hown hmat hsafe hbel
      have HW := Lib.hid (HB4.out.trans (HB.out.mono HB4.out.size))
      have HLW := Lib.hid (HL.out.below HW.out)
      obtain ⟨oa, oc, rfl, _⟩ := HO.out.row
      obtain ⟨k, y, m, hn⟩ : ∃ k y m, nextY R = (k, y, m) := ⟨_, _, _, rfl⟩
      have hgo := next_goes R
      have hkk := next_kind R
      rw [hn] at hgo hkk
      rw [HRN.out] at hgo
      obtain ⟨hg1, hg2, hg3, _⟩ := hgo
      simp only at hg1 hg2 hg3 hkk
      have HN := Lib.hid hn
      clear hn
      by_cases hk0 : k = 0
      · subst hk0
        obtain rfl : m = 0 := hg2.2 rfl
        obtain rfl : y = [] := hg3 (by decide)
        have HF : Hid (feedY B = (ys, j, R)) := Lib.hid (by rw [HFD.out, feed_need (by rw [HN.out])]; unfold joinF; simp)
        clear hg1 hg2 hg3 hkk
        go_wp2_with fail
        refine (fnext_is _ _ R _ HRN.out _ HBY.out (by omega) HLW.out _ HN.out).mono ?_
        rintro e w7 ⟨a2, c2, rfl, _, _, hbel⟩
        have HB7 := Lib.hid (HB.out.trans (hbel.mono HB.out.size))
        have HO7 := Lib.hid (HO.out.kept hbel)
        have HM7 := Lib.hid (HM.out.later hbel)
        have HS7 := Lib.hid (HS.out.later hbel)
        have HBY7 := Lib.hid (HBY.out.later hbel)
        clear hbel HO HM HS
        go_wp2_with fail
        refine (clone_any _ _ R _ HRN.out _ HBY7.out (by omega)).mono ?_
        rintro e w8 ⟨v, rfl, ho, hb⟩
        obtain ⟨ka, kc, rfl, hkb⟩ := ho.bytes
        have HB8 := Lib.hid (HB7.out.trans (hb.mono HB7.out.size))
        have HO8 := Lib.hid (HO7.out.kept hb)
        have HM8 := Lib.hid (HM7.out.later hb)
        have HS8 := Lib.hid (HS7.out.later hb)
        have HKB := Lib.hid hkb
        have HKS : Hid (Safe 5 0 w8 ka) := Lib.hid (OwnG.safe ho)
        clear ho hb hkb HO7 HM7 HS7
        go_wp2_with fail
        refine bodyPost_ret (four_tmps rfl _ _ _) rfl ?_
        rw [HI.out.1, HI.out.2, HF.out]
        refine ⟨ka, kc, oa, oc, ts, ?_, HKB.out, ?_, HM8.out, ?_, HB4.out.trans (HB8.out.mono HB4.out.size)⟩
        · rw [← HM8.out.len]; rfl
        · exact HO8.out.read
        · exact fun b _ _ _ => ⟨HS8.out.mono (Nat.zero_le b), HKS.out.mono (Nat.zero_le b)⟩
      · have hm0 : m ≠ 0 := fun e => hk0 (hg2.1 e)
        have HST : Hid (feedY R = stepF k y m (feedY (R.drop m))) := Lib.hid (feed_step HN.out hm0)
        obtain ⟨bb, off, rfl, _⟩ := HBY.out.at (by rw [HRN.out]; omega)
        have HRD : Hid ((R.drop m).length = n - m) := Lib.hid (by rw [List.length_drop, HRN.out])
        have HBD : Hid (∀ W, Below w4.heap.size w4 W → BytesAt W (some ⟨bb, off, none⟩) c R → BytesAt W (some ⟨bb, off + m, none⟩) (c - m) (R.drop m)) := Lib.hid fun W _ hW => by
          have h := hW.drop m (by rw [HRN.out]; omega)
          rwa [add_none] at h
        have HBE : Hid (m = c → ∀ W (x : Addr), BytesAt W (some x) 0 (R.drop m)) := Lib.hid fun e W x => by
          have h0 : R.drop m = [] := List.length_eq_zero_iff.1 (by rw [HRD.out]; omega)
          rw [h0]
          exact .inr ⟨x, rfl, Nat.le_refl _, fun i hi => absurd hi (by simp)⟩
        by_cases hk1 : k = 1
        · subst hk1
          have HF : Hid (feedY B = joinF (ys ++ [y]) j (feedY (R.drop m))) := Lib.hid (by rw [HFD.out, HST.out, join_y])
          have hyl : y.length ≤ 8000 := by have h := next_goes R; rw [HN.out] at h; exact (putE_ok (h.2.2.2 rfl).1).2.1
          clear hg2 hg3 hk0 hkk
          go_wp2_with fail
          refine (fnext_is _ _ R _ HRN.out _ HBY.out (by omega) HLW.out _ HN.out).mono ?_
          rintro e w7 ⟨a2, c2, rfl, hy, hsf, hbel⟩
          have HB7 := Lib.hid (HB.out.trans (hbel.mono HB.out.size))
          have HO7 := Lib.hid (HO.out.kept hbel)
          have HMS : Hid (Match w7 (ts ++ [(a2, y.length, c2)]) (ys ++ [y]) ∧ SafeAll 0 w7 (ts ++ [(a2, y.length, c2)])) := Lib.hid
            ⟨(HM.out.later hbel).append ⟨⟨rfl, hy⟩, trivial⟩, (HS.out.later hbel).append fun t ht => by
              obtain rfl := List.mem_singleton.1 ht
              exact hsf 0 (Nat.zero_le _) HSF.out⟩
          have HROW : Hid (RowAt encS (w7.alloc (.cells #[.slice a2 y.length c2] 22)) (some ⟨w7.heap.size, 0, none⟩) 1 [(a2, y.length, c2)]) := Lib.hid (one_row encS w7 _ (a2, y.length, c2) _ rfl)
          have HBY7 := Lib.hid (HBY.out.later hbel)
          have HSF7 := Lib.hid (HSF.out.later hbel)
          clear hbel HO HM HS hy hsf
          have hne : 5 ≠ 22 := by decide
          by_cases hmc : m = c
          · obtain rfl : n = m := by omega
            subst hmc
            go_wp2_with (at_builtin; refine wpList_append_hdr rfl (.tmp 43) (.tmp 45) _ rfl w4.heap.size 22 j0 _ Tryd.underlying24 HJ0.out HY0.out HY1.out HY2.out (by rfl) _ ts rfl (HO7.out.kept ((Below.refl _ _).alloc (Nat.le_refl _) _)) _ _ _ [(a2, y.length, c2)] rfl (by rfl) HROW.out (by simp only [List.length_cons, List.length_nil]; omega) (HB7.out.alloc HB7.out.size _).size ?_; intro v8 w8 hown8 hb8 hk8
                         have HB8 := Lib.hid ((HB7.out.alloc HB7.out.size _).trans hb8)
                         have HMS8 := Lib.hid (And.intro (Match.safe hb8 hk8 hne (HMS.out.1.later ((Below.refl _ _).alloc (Nat.le_refl _) _)) ((HMS.out.2.later ((Below.refl _ _).alloc (Nat.le_refl _) _)).mono (Nat.zero_le _))) ((HMS.out.2.later ((Below.refl _ _).alloc (Nat.le_refl _) _)).kept hk8 hne))
                         have HBS8 := Lib.hid (HSF7.out.later ((Below.refl _ _).alloc (Nat.le_refl _) _) |>.kept hk8 hne)
                         have HO8 := Lib.hid hown8; clear hb8 hk8 hown8)
            go_roundw
            case rel => exact ⟨0, j, 0, some ⟨bb, off, none⟩, ts ++ [(a2, y.length, c2)], ys ++ [y], R.drop n, rfl, rfl, by rw [HRD.out]; omega, by omega, by rw [List.length_append]; simp only [List.length_cons, List.length_nil]; omega, HBE.out trivial _ _, HBS8.out, HF.out, HO8.out, HMS8.out.1, HMS8.out.2, HB8.out⟩
            case measure => simp only [flenOf]; omega
          · have hmc2 : m < c := by omega
            go_wp2_with (at_builtin; refine wpList_append_hdr rfl (.tmp 43) (.tmp 45) _ rfl w4.heap.size 22 j0 _ Tryd.underlying24 HJ0.out HY0.out HY1.out HY2.out (by rfl) _ ts rfl (HO7.out.kept ((Below.refl _ _).alloc (Nat.le_refl _) _)) _ _ _ [(a2, y.length, c2)] rfl (by rfl) HROW.out (by simp only [List.length_cons, List.length_nil]; omega) (HB7.out.alloc HB7.out.size _).size ?_; intro v8 w8 hown8 hb8 hk8
                         have HB8 := Lib.hid ((HB7.out.alloc HB7.out.size _).trans hb8)
                         have HMS8 := Lib.hid (And.intro (Match.safe hb8 hk8 hne (HMS.out.1.later ((Below.refl _ _).alloc (Nat.le_refl _) _)) ((HMS.out.2.later ((Below.refl _ _).alloc (Nat.le_refl _) _)).mono (Nat.zero_le _))) ((HMS.out.2.later ((Below.refl _ _).alloc (Nat.le_refl _) _)).kept hk8 hne))
                         have HBY8 := Lib.hid (BytesAt.safe (HBY7.out.later ((Below.refl _ _).alloc (Nat.le_refl _) _)) ((HSF7.out.later ((Below.refl _ _).alloc (Nat.le_refl _) _)).mono (Nat.zero_le _)) hb8 hk8 hne)
                         have HBS8 := Lib.hid (HSF7.out.later ((Below.refl _ _).alloc (Nat.le_refl _) _) |>.kept hk8 hne)
                         have HO8 := Lib.hid hown8; clear hb8 hk8 hown8)
            go_roundw
            case rel => exact ⟨n - m, j, c - m, some ⟨bb, off + m, none⟩, ts ++ [(a2, y.length, c2)], ys ++ [y], R.drop m, rfl, rfl, HRD.out, by omega, by rw [List.length_append]; simp only [List.length_cons, List.length_nil]; omega, HBD.out _ HB8.out HBY8.out, HBS8.out.at, HF.out, HO8.out, HMS8.out.1, HMS8.out.2, HB8.out⟩
            case measure => simp only [flenOf]; omega
        · obtain rfl : k = 2 := by omega
          have HF : Hid (feedY B = joinF ys (j + m) (feedY (R.drop m))) := Lib.hid (by rw [HFD.out, HST.out, join_n _ _ _ (by decide)])
          clear hg2 hg3 hkk
          go_wp2_with fail
          refine (fnext_is _ _ R _ HRN.out _ HBY.out (by omega) HLW.out _ HN.out).mono ?_
          rintro e w7 ⟨a2, c2, rfl, _, _, hbel⟩
          have HB7 := Lib.hid (HB.out.trans (hbel.mono HB.out.size))
          have HO7 := Lib.hid (HO.out.kept hbel)
          have HM7 := Lib.hid (HM.out.later hbel)
          have HS7 := Lib.hid (HS.out.later hbel)
          have HBY7 := Lib.hid (HBY.out.later hbel)
          have HSF7 := Lib.hid (HSF.out.later hbel)
          clear hbel HO HM HS
          by_cases hmc : m = c
          · obtain rfl : n = m := by omega
            subst hmc
            go_wp2_with fail
            go_roundw
            case rel => exact ⟨0, j + n, 0, some ⟨bb, off, none⟩, ts, ys, R.drop n, rfl, congrArg (Value.int .i64) (by omega), by rw [HRD.out]; omega, by omega, by omega, HBE.out trivial _ _, HSF7.out, HF.out, HO7.out, HM7.out, HS7.out, HB7.out⟩
            case measure => simp only [flenOf]; omega
          · go_wp2_with fail
            go_roundw
            case rel => exact ⟨n - m, j + m, c - m, some ⟨bb, off + m, none⟩, ts, ys, R.drop m, rfl, congrArg (Value.int .i64) (by omega), HRD.out, by omega, by omega, HBD.out _ HB7.out HBY7.out, HSF7.out.at, HF.out, HO7.out, HM7.out, HS7.out, HB7.out⟩
            case measure => simp only [flenOf]; omega

end Frm
end Go.Proofs.YtnmhkjgcfhcmpaaDoor
