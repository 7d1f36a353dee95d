/-
  The walk of layer 4's law FeedPieces.
-/
import Derived.Test.YtnmhkjgcfhcmpaaDoorFedN
import Derived.Deep.DeepCutAuto
namespace Go.Proofs.YtnmhkjgcfhcmpaaDoor
open Go.RowKit
namespace Frm
open Num

/-- the next piece goes on where the first ones end -/
theorem feed_on {x : List UInt8} {p en : Nat} {ys : List (List UInt8)} {j : Nat} {mo : List UInt8} (h : feedY (x.take p) = (ys, j, mo)) (hp : p ≤ en) {l : List (List UInt8)} {n : Nat} {k : List UInt8}
    (h2 : feedY (mo ++ (x.drop p).take (en - p)) = (l, n, k)) : feedY (x.take en) = (ys ++ l, j + n, k) := by
  have e : x.take en = x.take p ++ (x.drop p).take (en - p) := by
    rw [← List.take_append_drop p (x.take en), List.take_take, Nat.min_eq_left hp, List.drop_take]
  rw [e, feed_two _ _ _ (Nat.le_refl _), h]
  simp only
  rw [h2]
  rfl
theorem feed_mo (s : List UInt8) : (feedY s).2.2.length ≤ s.length := by have := (feed_count s.length s (Nat.le_refl _)).2; omega

/-- no bytes are read in any world -/
theorem bytes_any {w : World} {a : Option Addr} {cap : Nat} (h : BytesAt w a cap []) (w' : World) : BytesAt w' a cap [] := by
  rcases h with h | ⟨x, rfl, hl, _⟩
  · exact .inl h
  · exact .inr ⟨x, rfl, hl, fun i hi => absurd hi (Nat.not_lt_zero _)⟩

set_option maxRecDepth 100000 in
set_option maxHeartbeats 2000000 in
theorem law_FeedPieces (a0 : Option Addr) (len0 cap0 : Nat) (z0 : List Int) (a1 : Option Addr) (len1 cap1 : Nat) (z1 : List Int) (w : World) (h0 : IsRow .u8 w a0 len0 cap0 z0) (h1 : IsRow .u8 w a1 len1 cap1 z1) (hl : Laid w) :
    Calls Tryd.prog 4 #[.slice a0 len0 cap0, .slice a1 len1 cap1] w fun e w' => e = .returned (.bool true) ∧ Below w.heap.size w w' := by
  obtain ⟨x, rfl, hm0, hx⟩ := h0.bytes
  obtain ⟨z, rfl, hm1, hz⟩ := h1.bytes
  unfold maxLen at hm0 hm1
  have HX := Lib.hid hx
  have HZ := Lib.hid hz
  have HL := Lib.hid hl
  have hxc := hx.cap
  clear hx hz h0 h1 hl
  obtain ⟨j0, hi0, hz0, hz1, hz2⟩ := info_parts infoSl
  have HJ0 := Lib.hid hi0
  have HY0 := Lib.hid hz0
  have HY1 := Lib.hid hz1
  have HY2 := Lib.hid hz2
  clear hi0 hz0 hz1 hz2
  go_enter Tryd.func4, Tryd.ntmps4
  go_wp2_with fail
  refine (awake4_any _ HL.out).mono ?_
  rintro e w1 ⟨rfl, hb1⟩
  have HB1 := Lib.hid hb1
  clear hb1
  by_cases hx9 : 3000 < x.length
  · go_wp2_with fail
    go_ret
    exact ⟨rfl, HB1.out⟩
  have dx : decide ((3000 : Int) < (x.length : Int)) = false := decide_eq_false (by omega)
  by_cases hz9 : 60 < z.length
  · go_wp2_with fail
    go_ret
    exact ⟨rfl, HB1.out⟩
  have dz : decide ((60 : Int) < (z.length : Int)) = false := decide_eq_false (by omega)
  obtain ⟨ys, j, r, hr⟩ : ∃ ys j r, feedY x = (ys, j, r) := ⟨_, _, _, rfl⟩
  have HFX := Lib.hid hr
  have hi := in_small (x := []) (y := x) (by decide) (by omega)
  rw [List.nil_append, hr] at hi
  have HI := Lib.hid hi
  have hyl := feed_len x
  rw [hr] at hyl
  simp only at hyl
  clear hr hi
  go_wp2_with fail
  refine (in_is none 0 [] 0 rfl _ _ x _ rfl _ (.inl ⟨rfl, rfl, rfl⟩) (HX.out.later HB1.out) (by decide) (by omega) (HL.out.below HB1.out) _ _ HI.out.1 HI.out.2).mono ?_
  rintro e w2 ⟨ka, kc, la, lc, tsx, rfl, hk, hrow, hmat, _, hbel⟩
  have HB2 := Lib.hid (HB1.out.trans (hbel.mono HB1.out.size))
  have HK := Lib.hid hk
  have HBO : Hid (Bodies w2 la lc ys) := Lib.hid ⟨tsx, hrow, hmat⟩
  clear hk hrow hmat hbel
  have hne : 5 ≠ 22 := by decide
  by_cases hx0 : x.length = 0
  · obtain rfl : x = [] := List.length_eq_zero_iff.1 hx0
    have hfx := HFX.out
    rw [feed_nil] at hfx
    injection hfx with hf1 hfx
    injection hfx with hf2 hf3
    subst hf1 hf2 hf3
    have HI0 : Hid (inY [] [] = ([], 0, []) ∧ inE [] [] = 0) := Lib.hid HI.out
    go_wp2_with fail
    go_loopw [9, 10, 11, 12, 13] (fun m_ t_ k_ at_ i_ wr => ∃ (i : Nat) (ma : Option Addr) (mc : Nat), m_ = .slice ma 0 mc ∧ k_ = .int .i64 0 ∧ at_ = .int .i64 0 ∧ i_ = .int .i64 i ∧
      i ≤ z.length + 1 ∧ BytesAt wr ma mc [] ∧ OwnE encS 22 wr w2.heap.size t_ [] ∧ Below w2.heap.size w2 wr) (fun _ _ _ _ i_ _ => z.length + 1 - (intOf i_).toNat)
    case atStart => exact ⟨0, none, 0, rfl, rfl, rfl, rfl, Nat.zero_le _, .inl ⟨rfl, rfl, rfl⟩, OwnE.nil _ _ _ _, Below.refl _ _⟩
    case round =>
      obtain ⟨i, ma, mc, rfl, rfl, rfl, rfl, hiz, hmo, hown, hbel⟩ := hrel
      have HMO := Lib.hid hmo
      have HO := Lib.hid hown
      have HB := Lib.hid hbel
      have HW := Lib.hid (HB2.out.trans (hbel.mono HB2.out.size))
      obtain ⟨oa, oc, rfl, _⟩ := hown.row
      clear hmo hown hbel
      by_cases hlt : i ≤ z.length
      · go_upto_if 47 with fail
        go_cut [14] (fun s14 wx => s14 = .int .i64 0 ∧ wx = wr)
        case first =>
          by_cases hiz2 : i < z.length
          · obtain ⟨zb, zo, rfl, hcc⟩ := (HZ.out.later HW.out).at (by omega)
            have hck := hcc i hiz2
            obtain ⟨c, hcx⟩ : ∃ c, z[i] = c := ⟨_, rfl⟩
            rw [hcx] at hck
            have hc8 := c.toNat_lt
            clear hcc hcx
            go_wp2_with fail
            all_goals
              go_meet
              first
                | exact ⟨rfl, rfl⟩
                | exact ⟨congrArg (Value.int .i64) (by omega), rfl⟩
          · go_wp2_with fail
            go_meet
            exact ⟨rfl, rfl⟩
        case rest =>
          obtain ⟨rfl, rfl⟩ := hcut
          rcases HX.out with ⟨rfl, _, rfl⟩ | ⟨X, rfl, _, _⟩
          · go_wp2_with fail
            refine (in_is _ _ [] 0 rfl _ _ [] 0 rfl _ HMO.out (.inl ⟨rfl, rfl, rfl⟩) (by decide) (by decide) (HL.out.below HW.out) _ _ HI0.out.1 HI0.out.2).mono ?_
            rintro e w5 ⟨ka5, kc5, la5, lc5, ts5, rfl, hk5, hrow5, hmat5, _, hbel⟩
            have HB5 := Lib.hid (HB.out.trans (hbel.mono HB.out.size))
            obtain rfl : ts5 = [] := List.length_eq_zero_iff.1 hmat5.len
            have HK5 := Lib.hid hk5
            have HO5 := Lib.hid (HO.out.kept hbel)
            have HR5 := Lib.hid hrow5
            clear hk5 hrow5 hmat5 hbel HO
            go_wp2_with (at_builtin; refine wpList_append_hdr rfl (.tmp 72) (.tmp 73) _ rfl w2.heap.size 22 j0 _ Tryd.underlying24 HJ0.out HY0.out HY1.out HY2.out (by rfl) _ [] rfl HO5.out _ _ _ [] rfl (by rfl) HR5.out (by decide) HB5.out.size ?_; intro v8 w8 hown8 hb8 hk8
                         have HB8 := Lib.hid (HB5.out.trans hb8)
                         have HK8 := Lib.hid (bytes_any HK5.out w8)
                         have HO8 := Lib.hid hown8; clear hb8 hk8 hown8)
            go_roundw
            case rel =>
              first
                | exact ⟨i + 1, ka5, kc5, rfl, rfl, rfl, by go_num, by omega, HK8.out, HO8.out, HB8.out⟩
                | ((repeat apply Exists.intro)
                   refine ⟨⟨i + 1, ka5, kc5, ?_, ?_, ?_, ?_, by omega, HK8.out, HO8.out, HB8.out⟩, rfl⟩
                   · rfl
                   · rfl
                   · rfl
                   · go_num)
            case measure => simp [intOf]; omega
          · go_wp2_with fail
            refine (in_is _ _ [] 0 rfl _ _ [] 0 rfl _ HMO.out (.inr ⟨X, rfl, Nat.zero_le _, fun i hi => absurd hi (Nat.not_lt_zero _)⟩) (by decide) (by decide) (HL.out.below HW.out) _ _ HI0.out.1 HI0.out.2).mono ?_
            rintro e w5 ⟨ka5, kc5, la5, lc5, ts5, rfl, hk5, hrow5, hmat5, _, hbel⟩
            have HB5 := Lib.hid (HB.out.trans (hbel.mono HB.out.size))
            obtain rfl : ts5 = [] := List.length_eq_zero_iff.1 hmat5.len
            have HK5 := Lib.hid hk5
            have HO5 := Lib.hid (HO.out.kept hbel)
            have HR5 := Lib.hid hrow5
            clear hk5 hrow5 hmat5 hbel HO
            go_wp2_with (at_builtin; refine wpList_append_hdr rfl (.tmp 72) (.tmp 73) _ rfl w2.heap.size 22 j0 _ Tryd.underlying24 HJ0.out HY0.out HY1.out HY2.out (by rfl) _ [] rfl HO5.out _ _ _ [] rfl (by rfl) HR5.out (by decide) HB5.out.size ?_; intro v8 w8 hown8 hb8 hk8
                         have HB8 := Lib.hid (HB5.out.trans hb8)
                         have HK8 := Lib.hid (bytes_any HK5.out w8)
                         have HO8 := Lib.hid hown8; clear hb8 hk8 hown8)
            go_roundw
            case rel =>
              first
                | exact ⟨i + 1, ka5, kc5, rfl, rfl, rfl, by go_num, by omega, HK8.out, HO8.out, HB8.out⟩
                | ((repeat apply Exists.intro)
                   refine ⟨⟨i + 1, ka5, kc5, ?_, ?_, ?_, ?_, by omega, HK8.out, HO8.out, HB8.out⟩, rfl⟩
                   · rfl
                   · rfl
                   · rfl
                   · go_num)
            case measure => simp [intOf]; omega
      · obtain rfl : i = z.length + 1 := by omega
        have cv := string_of (P := Tryd.prog) Tryd.underlying22 Tryd.underlying5 Tryd.underlying9 HMO.out 0 rfl
        have cw := string_of (P := Tryd.prog) Tryd.underlying22 Tryd.underlying5 Tryd.underlying9 (HK.out.later HB.out) 0 rfl
        have HBT : Hid (Bodies wr oa oc []) := Lib.hid ⟨[], HO.out.read, trivial⟩
        have hgt : ¬ ((z.length : Int) + 1 ≤ (z.length : Int)) := by omega
        go_wp2_with fail
        refine (rsame_is _ _ _ _ [] _ rfl _ rfl _ HBT.out (HBO.out.later HB.out) (by decide)).mono ?_
        rintro e w5 ⟨rfl, hbel⟩
        have HW5 := Lib.hid (HW.out.trans (hbel.mono HW.out.size))
        clear hbel cv cw
        go_wp2_with fail
        go_ret
        exact ⟨rfl, HW5.out⟩
  · have hsx : Safe 5 w2.heap.size w a0 := (Safe.below HX.out (by omega)).mono HB2.out.size
    obtain ⟨sb, so, rfl, _⟩ := HX.out.at (by omega)
    have HSX : Hid (∀ o W, Below w.heap.size w W → Safe 5 w2.heap.size W (some ⟨sb, o, none⟩)) := Lib.hid fun o W hW => (Safe.at hsx).later hW
    clear hsx
    go_wp2_with fail
    go_loopw [9, 10, 11, 12, 13] (fun m_ t_ k_ at_ i_ wr => ∃ (p i tk : Nat) (mo : List UInt8) (ma : Option Addr) (mc : Nat) (ts : List Hdr) (tys : List (List UInt8)), m_ = .slice ma mo.length mc ∧ k_ = .int .i64 tk ∧ at_ = .int .i64 p ∧ i_ = .int .i64 i ∧
      p ≤ x.length ∧ i ≤ z.length + 1 ∧ (i = z.length + 1 → p = x.length) ∧ feedY (x.take p) = (tys, tk, mo) ∧ BytesAt wr ma mc mo ∧ Safe 5 w2.heap.size wr ma ∧
      OwnE encS 22 wr w2.heap.size t_ ts ∧ Match wr ts tys ∧ SafeAll w2.heap.size wr ts ∧ Below w2.heap.size w2 wr) (fun _ _ _ _ i_ _ => z.length + 1 - (intOf i_).toNat)
    case atStart => exact ⟨0, 0, 0, [], none, 0, [], [], rfl, rfl, rfl, rfl, Nat.zero_le _, Nat.zero_le _, (fun h => by omega), by rw [List.take_zero]; exact feed_nil, .inl ⟨rfl, rfl, rfl⟩, Safe.nil _ _ _, OwnE.nil _ _ _ _, trivial, SafeAll.nil _ _, Below.refl _ _⟩
    case round =>
      obtain ⟨p, i, tk, mo, ma, mc, ts, tys, rfl, rfl, rfl, rfl, hp, hiz, hend, hfd, hmo, hsm, hown, hmat, hsa, hbel⟩ := hrel
      have HFD := Lib.hid hfd
      have HMO := Lib.hid hmo
      have HSM := Lib.hid hsm
      have HO := Lib.hid hown
      have HM := Lib.hid hmat
      have HSA := Lib.hid hsa
      have HB := Lib.hid hbel
      have HW := Lib.hid (HB2.out.trans (hbel.mono HB2.out.size))
      have hml := feed_mo (x.take p)
      have htl := feed_len (x.take p)
      rw [hfd, List.length_take] at hml htl
      simp only at hml htl
      have HTN := Lib.hid hmat.len
      have htk : tk ≤ x.length := by
        have h := (feed_count _ (x.take p) (Nat.le_refl _)).2
        rw [hfd, List.length_take] at h
        simp only at h
        omega
      obtain ⟨oa, oc, rfl, _⟩ := hown.row
      clear hfd hmo hsm hown hmat hsa hbel
      by_cases hlt : i ≤ z.length
      · go_upto_if 47 with fail
        go_cut [14] (fun s14 wx => ∃ en : Nat, s14 = .int .i64 en ∧ p ≤ en ∧ en ≤ x.length ∧ (i = z.length → en = x.length) ∧ wx = wr)
        case first =>
          by_cases hiz2 : i < z.length
          · obtain ⟨zb, zo, rfl, hcc⟩ := (HZ.out.later HW.out).at (by omega)
            have hck := hcc i hiz2
            obtain ⟨c, hcx⟩ : ∃ c, z[i] = c := ⟨_, rfl⟩
            rw [hcx] at hck
            have hc8 := c.toNat_lt
            clear hcc hcx
            go_wp2_with fail
            all_goals
              go_meet
              first
                | exact ⟨x.length, rfl, by omega, Nat.le_refl _, fun _ => rfl, rfl⟩
                | exact ⟨p + c.toNat, by first | rfl | exact congrArg (Value.int .i64) (by omega), by omega, by omega, fun h => by omega, rfl⟩
                | exact ⟨min (p + c.toNat) x.length, by first | rfl | exact congrArg (Value.int .i64) (by omega), by omega, by omega, fun h => by omega, rfl⟩
          · go_wp2_with fail
            go_meet
            exact ⟨x.length, rfl, hp, Nat.le_refl _, fun _ => rfl, rfl⟩
        case rest =>
          obtain ⟨en, rfl, hpe, hex, hel, rfl⟩ := hcut
          obtain ⟨D, hD⟩ : ∃ D, (x.drop p).take (en - p) = D := ⟨_, rfl⟩
          have HDL : Hid (D.length = en - p) := Lib.hid (by rw [← hD, List.length_take, List.length_drop]; omega)
          have HDA : Hid (∀ W, Below w.heap.size w W → BytesAt W (some ⟨sb, so + p, none⟩) (cap0 - p) D) := Lib.hid fun W hW => by
            have h := ((HX.out.later hW).drop p (by omega)).take (en - p)
            rwa [add_none, hD] at h
          obtain ⟨l, n, kk, hl2⟩ : ∃ l n kk, feedY (mo ++ D) = (l, n, kk) := ⟨_, _, _, rfl⟩
          have hon : feedY (x.take en) = (tys ++ l, tk + n, kk) := feed_on HFD.out hpe (by rw [hD]; exact hl2)
          have hI2 := in_small (x := mo) (y := D) (by omega) (by rw [HDL.out]; omega)
          rw [hl2] at hI2
          have HI2 := Lib.hid hI2
          have HON := Lib.hid hon
          have hll : tys.length + l.length ≤ 3000 := by
            have h := feed_len (x.take en)
            rw [hon, List.length_take] at h
            have h2 : (tys ++ l).length ≤ min en x.length := h
            rw [List.length_append] at h2
            omega
          clear hD hl2 hon hI2
          have hcp : p ≤ cap0 := by omega
          go_wp2_with fail
          · have HDX : Hid (BytesAt wc (some ⟨sb, so, none⟩) 0 D) := Lib.hid (.inr ⟨_, rfl, by rw [HDL.out]; omega, fun i hi => by rw [HDL.out] at hi; omega⟩)
            refine (in_is _ _ mo _ rfl _ _ D _ HDL.out _ HMO.out HDX.out (by omega) (by omega) (HL.out.below HW.out) _ _ HI2.out.1 HI2.out.2).mono ?_
            rintro e w5 ⟨ka5, kc5, la5, lc5, ts5, rfl, hk5, hrow5, hmat5, hsf5, hbel⟩
            have HB5 := Lib.hid (HB.out.trans (hbel.mono HB.out.size))
            have HSF := Lib.hid (hsf5 w2.heap.size HB.out.size HSM.out (HSX.out _ _ HW.out))
            have HK5 := Lib.hid hk5
            have HO5 := Lib.hid (HO.out.kept hbel)
            have HR5 := Lib.hid hrow5
            have HL5 : Hid (ts5.length = l.length) := Lib.hid hmat5.len
            have HM5 := Lib.hid ((HM.out.later hbel).append hmat5)
            have HS5 := Lib.hid ((HSA.out.later hbel).append HSF.out.1)
            have HTS := Lib.hid (show (ts.length + ts5.length) * 24 ≤ 140737488355328 by rw [HTN.out, HL5.out]; omega)
            have htkn : tk + n ≤ 3000 := by
              have h := (feed_count _ (x.take en) (Nat.le_refl _)).2
              rw [HON.out, List.length_take] at h
              simp only at h
              omega
            clear hk5 hrow5 hmat5 hsf5 hbel HO HM HSA hll
            go_wp2_with (at_builtin; refine wpList_append_hdr rfl (.tmp 72) (.tmp 73) _ rfl w2.heap.size 22 j0 _ Tryd.underlying24 HJ0.out HY0.out HY1.out HY2.out (by rfl) _ ts rfl HO5.out _ _ _ ts5 rfl HL5.out HR5.out HTS.out HB5.out.size ?_; intro v8 w8 hown8 hb8 hk8
                         have HB8 := Lib.hid (HB5.out.trans hb8)
                         have HK8 := Lib.hid (HK5.out.safe HSF.out.2 hb8 hk8 hne)
                         have HKS8 := Lib.hid (HSF.out.2.kept hk8 hne)
                         have HM8 := Lib.hid (Match.safe hb8 hk8 hne HM5.out HS5.out)
                         have HS8 := Lib.hid (HS5.out.kept hk8 hne)
                         have HO8 := Lib.hid hown8; clear hb8 hk8 hown8)
            go_roundw
            case rel =>
              first
                | exact ⟨en, i + 1, tk + n, kk, ka5, kc5, ts ++ ts5, tys ++ l, rfl, congrArg (Value.int .i64) (by omega), rfl, by go_num, hex, by omega, fun h => hel (by omega), HON.out, HK8.out, HKS8.out, HO8.out, HM8.out, HS8.out, HB8.out⟩
                | ((try (have hcp0 : cap0 = p := by assumption
                         rw [hcp0]))
                   (repeat apply Exists.intro)
                   refine ⟨⟨en, i + 1, tk + n, kk, ka5, kc5, ts ++ ts5, tys ++ l, ?_, ?_, ?_, ?_, hex, by omega, fun h => hel (by omega), HON.out, HK8.out, HKS8.out, HO8.out, HM8.out, HS8.out, HB8.out⟩, rfl⟩
                   · rfl
                   · exact congrArg (Value.int .i64) (by omega)
                   · rfl
                   · go_num)
            case measure => simp [intOf]; omega
          · have HDX := Lib.hid (HDA.out _ HW.out)
            refine (in_is _ _ mo _ rfl _ _ D _ HDL.out _ HMO.out HDX.out (by omega) (by omega) (HL.out.below HW.out) _ _ HI2.out.1 HI2.out.2).mono ?_
            rintro e w5 ⟨ka5, kc5, la5, lc5, ts5, rfl, hk5, hrow5, hmat5, hsf5, hbel⟩
            have HB5 := Lib.hid (HB.out.trans (hbel.mono HB.out.size))
            have HSF := Lib.hid (hsf5 w2.heap.size HB.out.size HSM.out (HSX.out _ _ HW.out))
            have HK5 := Lib.hid hk5
            have HO5 := Lib.hid (HO.out.kept hbel)
            have HR5 := Lib.hid hrow5
            have HL5 : Hid (ts5.length = l.length) := Lib.hid hmat5.len
            have HM5 := Lib.hid ((HM.out.later hbel).append hmat5)
            have HS5 := Lib.hid ((HSA.out.later hbel).append HSF.out.1)
            have HTS := Lib.hid (show (ts.length + ts5.length) * 24 ≤ 140737488355328 by rw [HTN.out, HL5.out]; omega)
            have htkn : tk + n ≤ 3000 := by
              have h := (feed_count _ (x.take en) (Nat.le_refl _)).2
              rw [HON.out, List.length_take] at h
              simp only at h
              omega
            clear hk5 hrow5 hmat5 hsf5 hbel HO HM HSA hll
            go_wp2_with (at_builtin; refine wpList_append_hdr rfl (.tmp 72) (.tmp 73) _ rfl w2.heap.size 22 j0 _ Tryd.underlying24 HJ0.out HY0.out HY1.out HY2.out (by rfl) _ ts rfl HO5.out _ _ _ ts5 rfl HL5.out HR5.out HTS.out HB5.out.size ?_; intro v8 w8 hown8 hb8 hk8
                         have HB8 := Lib.hid (HB5.out.trans hb8)
                         have HK8 := Lib.hid (HK5.out.safe HSF.out.2 hb8 hk8 hne)
                         have HKS8 := Lib.hid (HSF.out.2.kept hk8 hne)
                         have HM8 := Lib.hid (Match.safe hb8 hk8 hne HM5.out HS5.out)
                         have HS8 := Lib.hid (HS5.out.kept hk8 hne)
                         have HO8 := Lib.hid hown8; clear hb8 hk8 hown8)
            go_roundw
            case rel =>
              first
                | exact ⟨en, i + 1, tk + n, kk, ka5, kc5, ts ++ ts5, tys ++ l, rfl, congrArg (Value.int .i64) (by omega), rfl, by go_num, hex, by omega, fun h => hel (by omega), HON.out, HK8.out, HKS8.out, HO8.out, HM8.out, HS8.out, HB8.out⟩
                | ((try (have hcp0 : cap0 = p := by assumption
                         rw [hcp0]))
                   (repeat apply Exists.intro)
                   refine ⟨⟨en, i + 1, tk + n, kk, ka5, kc5, ts ++ ts5, tys ++ l, ?_, ?_, ?_, ?_, hex, by omega, fun h => hel (by omega), HON.out, HK8.out, HKS8.out, HO8.out, HM8.out, HS8.out, HB8.out⟩, rfl⟩
                   · rfl
                   · exact congrArg (Value.int .i64) (by omega)
                   · rfl
                   · go_num)
            case measure => simp [intOf]; omega
      · obtain rfl : i = z.length + 1 := by omega
        obtain rfl := hend rfl
        have hfx := HFD.out
        rw [List.take_length, HFX.out] at hfx
        injection hfx with hf1 hfx
        injection hfx with hf2 hf3
        subst hf1 hf2 hf3
        have cv := string_of (P := Tryd.prog) Tryd.underlying22 Tryd.underlying5 Tryd.underlying9 HMO.out _ rfl
        have cw := string_of (P := Tryd.prog) Tryd.underlying22 Tryd.underlying5 Tryd.underlying9 (HK.out.later HB.out) _ rfl
        have HBT : Hid (Bodies wr oa oc ys) := Lib.hid ⟨ts, HO.out.read, HM.out⟩
        have hgt : ¬ ((z.length : Int) + 1 ≤ (z.length : Int)) := by omega
        go_wp2_with fail
        refine (rsame_is _ _ _ _ ys _ HTN.out _ rfl _ HBT.out (HBO.out.later HB.out) (by omega)).mono ?_
        rintro e w5 ⟨rfl, hbel⟩
        have HW5 := Lib.hid (HW.out.trans (hbel.mono HW.out.size))
        clear hbel cv cw
        go_wp2_with fail
        go_ret
        exact ⟨rfl, HW5.out⟩

end Frm
end Go.Proofs.YtnmhkjgcfhcmpaaDoor
