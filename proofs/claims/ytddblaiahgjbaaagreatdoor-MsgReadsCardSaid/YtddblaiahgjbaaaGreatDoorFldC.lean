/-
  The contract of the reference's Parse (layer 2).
-/
import Derived.Test.YtddblaiahgjbaaaGreatDoorFldA
import Derived.Test.YtddblaiahgjbaaaGreatDoorPlSeg
import Derived.Test.YtddblaiahgjbaaaGreatDoorRow
namespace Go.Proofs.YtddblaiahgjbaaaGreatDoor
open Go.RowKit
namespace Fld
open Num

theorem infoF : (Tryz.prog.info? 47).map (fun i => (i.zero, i.size, i.bytes)) = some (some (.agg #[.int .i64 0, .string ⟨#[]⟩]), 2, 24) := by kernel_rfl

set_option maxRecDepth 100000 in
set_option maxHeartbeats 2000000 in
theorem rparse_any (a : Option Addr) (cap : Nat) (b : List UInt8) (w : World) (hby : BytesAt w a cap b) (hlen : b.length ≤ 9223372036854775807) :
    Calls Tryz.prog 34 #[.slice a b.length cap] w (RetRow encF 47 w (parseL b).1 (parseL b).2) := by
  have HF := Lib.hid hby
  clear hby
  by_cases hbig : 65536 < b.length
  · have HP : Hid (parseL b = ([], 4)) := Lib.hid (by unfold parseL; rw [if_pos hbig])
    go_enter Tryz.func34, Tryz.ntmps34
    go_wp2_with fail
    go_ret2
    rw [HP.out]
    exact ⟨⟨.slice none 0 0, rfl, OwnE.nil _ _ _ _⟩, Below.refl _ _⟩
  · obtain ⟨i0, hi0, hz0, hz1, hz2⟩ := info_parts infoF
    have HI0 := Lib.hid hi0
    have HZ0 := Lib.hid hz0
    have HZ1 := Lib.hid hz1
    have HZ2 := Lib.hid hz2
    clear hi0 hz0 hz1 hz2
    have HPL : Hid (parseL b = parseG [] (b.drop 0)) := Lib.hid (by unfold parseL; rw [if_neg hbig]; rfl)
    go_enter Tryz.func34, Tryz.ntmps34
    go_wp2_with fail
    go_loopw [4, 5] (fun v at_ wr => ∃ p : Nat, ∃ acc : List F, p ≤ b.length ∧ at_ = .int .i64 p ∧ acc.length ≤ 100 ∧ parseL b = parseG acc (b.drop p) ∧ OwnE encF 47 wr w.heap.size v acc ∧ Below w.heap.size w wr) (fun _ at_ _ => b.length - (intOf at_).toNat)
    case atStart => exact ⟨0, [], Nat.zero_le _, rfl, by decide, HPL.out, OwnE.nil _ _ _ _, Below.refl _ _⟩
    case round =>
      obtain ⟨p, acc, hp, rfl, hacc, hpl, hown, hbel⟩ := hrel
      have HA := Lib.hid hacc
      have HQ := Lib.hid hpl
      have HO := Lib.hid hown
      have HB := Lib.hid hbel
      clear hacc hpl hown hbel HPL
      by_cases hlt : p < b.length
      · obtain ⟨bb, off, rfl, hcc⟩ := HF.out.at (by omega)
        clear hcc
        have hcap := HF.out.cap
        have HC : Hid (∀ wr, Below w.heap.size w wr → ∀ j (hj : j < b.length), wr.cell? ⟨bb, off + j, none⟩ = some (.int .u8 (b[j].toNat : Int))) := Lib.hid fun wr hb => by
          obtain ⟨b', off', e, hc'⟩ := (HF.out.later hb).at (show 0 < b.length by omega)
          injection e with e; injection e with e1 e2; subst e1 e2
          exact hc'
        go_wp2_with fail
        go_loopw [6] (fun e_ wr' => ∃ e : Nat, e_ = .int .i64 e ∧ SegAt b p e ∧ wr' = wr) (fun e_ _ => b.length - (intOf e_).toNat)
        case atStart => exact ⟨p, rfl, SegAt.start hp, rfl⟩
        case round =>
          obtain ⟨e, rfl, hseg, rfl⟩ := hrel
          have hpe := hseg.1
          have heb := hseg.2.1
          have HS := Lib.hid hseg
          clear hseg
          by_cases hel : e < b.length
          · have he0 := HC.out _ HB.out e hel
            obtain ⟨c, hc⟩ : ∃ c, b[e] = c := ⟨_, rfl⟩
            rw [hc] at he0
            cases d : ((c.toNat : Int) == 1)
            · have hq : c ≠ 1 := by
                rintro rfl
                exact absurd d (by decide)
              have HN := Lib.hid (HS.out.step hel (by rw [hc]; exact hq))
              clear hc hq
              go_wp2_with fail
              go_roundw
              case rel => exact ⟨e + 1, by go_num, HN.out, by first | rfl | trivial⟩
              case measure => simp [intOf]; omega
            · have hq : c = 1 := UInt8.toNat_inj.1 (by have := beq_iff_eq.1 d; show c.toNat = 1; omega)
              have HSP := Lib.hid (HS.out.parts hel (by rw [hc]; exact hq))
              have HSR := Lib.hid (HS.out.rest hel (by rw [hc]; exact hq))
              clear hc hq
              go_wp2_with fail
              obtain ⟨s, hs⟩ : ∃ s, seg (b.drop p) = s := ⟨_, rfl⟩
              rw [hs] at HSP HSR
              have HSG := Lib.hid hs
              clear hs
              have de : ((e : Int) == (b.length : Int)) = false := beq_eq_false_iff_ne.2 (by omega)
              have dd : ((c.toNat : Int) != 1) = false := by rw [bne, d]; rfl
              simp only [dd, de]
              go_loopw [7, 8] (fun t_ k_ wr' => ∃ k v : Nat, k_ = .int .i64 k ∧ t_ = .int .i64 v ∧ p ≤ k ∧ TagAt s (k - p) v ∧ wr' = wr) (fun _ k_ _ => e - (intOf k_).toNat)
              case atStart => exact ⟨p, 0, rfl, rfl, Nat.le_refl _, by rw [Nat.sub_self]; exact TagAt.start s, rfl⟩
              case round =>
                obtain ⟨k, v, rfl, rfl, hpk, htag, rfl⟩ := hrel
                have hke : k - p ≤ e - p := by rw [← HSP.out.1]; exact htag.1
                have hk4 := htag.2.1
                have ⟨hv, hv3⟩ := htag.bound
                have HT := Lib.hid htag
                clear htag
                have HGET : Hid (∀ j, j < e - p → s[j]? = b[p + j]?) := Lib.hid HSP.out.2.2.2.2
                have HLS : Hid (s.length = e - p) := Lib.hid HSP.out.1
                have HFALSE : Hid (readOk s = false → parseL b = ([], 3)) := Lib.hid fun h => by
                  rw [HQ.out]
                  exact parseG_form HSP.out.2.2.1 (by rw [HSG.out]; exact HSP.out.2.1) (by rw [HSG.out]; exact h)
                have hp0 := HC.out _ HB.out p hlt
                by_cases h1 : k < e
                · have hk0 := HC.out _ HB.out k (by omega)
                  obtain ⟨x, hx⟩ : ∃ x, b[k] = x := ⟨_, rfl⟩
                  rw [hx] at hk0
                  have HX : Hid (s[k - p]? = some x) := Lib.hid (by rw [HGET.out (k - p) (by omega), show p + (k - p) = k by omega, List.getElem?_eq_getElem (by omega), hx])
                  clear hx
                  have HKL : Hid (k - p < s.length) := Lib.hid (by rw [HLS.out]; omega)
                  rcases (show (k < p + 4 ∧ decide (48 ≤ (x.toNat : Int)) = true ∧ decide ((x.toNat : Int) ≤ 57) = true) ∨ (p + 4 ≤ k) ∨ (k < p + 4 ∧ decide (48 ≤ (x.toNat : Int)) = false) ∨
                      (k < p + 4 ∧ decide (48 ≤ (x.toNat : Int)) = true ∧ decide ((x.toNat : Int) ≤ 57) = false) from by
                    cases d1 : decide (48 ≤ (x.toNat : Int)) <;> cases d2 : decide ((x.toNat : Int) ≤ 57) <;> simp <;> omega) with ⟨h4, d1, d2⟩ | h4 | ⟨h4, d1⟩ | ⟨h4, d1, d2⟩
                  · have hx1 : 48 ≤ x.toNat := by have := of_decide_eq_true d1; omega
                    have hx2 : x.toNat ≤ 57 := by have := of_decide_eq_true d2; omega
                    have HXX : Hid (s[k - p]'HKL.out = x) := Lib.hid (by have h := HX.out; rw [List.getElem?_eq_getElem HKL.out] at h; exact Option.some.inj h)
                    have HN := Lib.hid (HT.out.step HKL.out (by omega) (by rw [HXX.out, isD_iff]; omega))
                    have hv4 := hv3 (by omega)
                    go_wp2_with fail
                    go_roundw
                    case rel =>
                      refine ⟨k + 1, v * 10 + (x.toNat - 48), by go_num, ?_, by omega, ?_, by first | rfl | trivial⟩
                      · exact congrArg (Value.int .i64) (by omega)
                      · rw [show k + 1 - p = k - p + 1 by omega, ← HXX.out]; exact HN.out
                    case measure => simp [intOf]; omega
                  all_goals
                    have HLEN : Hid (tagLen s = k - p) := Lib.hid (HT.out.len (by
                      first
                        | exact .inr (.inl (by omega))
                        | exact .inr (.inr ⟨x, HX.out, by unfold isD; rw [Bool.and_eq_false_iff, decide_eq_false_iff_not, decide_eq_false_iff_not]; first | (have := of_decide_eq_false d1; omega) | (have := of_decide_eq_false d2; omega)⟩)))
                    by_cases hkp : k = p
                    · have HP := Lib.hid (HFALSE.out (readOk_none (by rw [HLEN.out]; omega)))
                      subst hkp
                      first
                        | (exfalso; omega)
                        | (go_wp2_with fail
                           go_ret2
                           rw [HP.out]
                           exact ⟨⟨.slice none 0 0, rfl, OwnE.nil _ _ _ _⟩, HB.out⟩)
                    · obtain ⟨y, hy⟩ : ∃ y, b[p] = y := ⟨_, rfl⟩
                      rw [hy] at hp0
                      have HY : Hid (s[0]? = some y) := Lib.hid (by rw [HGET.out 0 (by omega), Nat.add_zero, List.getElem?_eq_getElem (by omega), hy])
                      clear hy
                      have dk : ((k : Int) == (p : Int)) = false := beq_eq_false_iff_ne.2 (by omega)
                      have dke : ((k : Int) == (e : Int)) = false := beq_eq_false_iff_ne.2 (by omega)
                      cases d0 : ((y.toNat : Int) == 48)
                      · cases d3 : ((x.toNat : Int) == 61)
                        · have hq : x ≠ 61 := by
                            rintro rfl
                            exact absurd d3 (by decide)
                          have HP := Lib.hid (HFALSE.out (readOk_sign HLEN.out HX.out hq))
                          clear hq
                          go_wp2_with fail
                          go_ret2
                          rw [HP.out]
                          exact ⟨⟨.slice none 0 0, rfl, OwnE.nil _ _ _ _⟩, HB.out⟩
                        · have hq : x = 61 := UInt8.toNat_inj.1 (by have := beq_iff_eq.1 d3; show x.toNat = 61; omega)
                          have hq2 : y ≠ 48 := by
                            rintro rfl
                            exact absurd d0 (by decide)
                          have HRO := Lib.hid (readOk_else HLEN.out (by omega) HY.out hq2 HX.out hq)
                          clear hq hq2
                          have HSUB : Hid (BytesAt wr (some ⟨bb, off + (k + 1), none⟩) (cap - (k + 1)) (s.drop (k - p + 1))) := Lib.hid (by
                            have h := ((HF.out.later HB.out).drop (k + 1) (by omega)).take (e - (k + 1))
                            rwa [add_none, ← HSR.out k hpk h1] at h)
                          have HSL : Hid ((s.drop (k - p + 1)).length = e - (k + 1)) := Lib.hid (by rw [List.length_drop, HLS.out]; omega)
                          go_wp2_with (with_reducible refine wpList_string_of rfl 28 9 5 (.tmp 97) rfl Tryz.underlying28 Tryz.underlying9 Tryz.underlying5 _ _ _ _ rfl HSUB.out HSL.out ?_)
                          have HFLD : Hid (mkF s (tagLen s) = ⟨(v : Int), ⟨(s.drop (k - p + 1)).toArray⟩⟩) := Lib.hid (HT.out.field HLEN.out)
                          obtain ⟨val, hval⟩ : ∃ val : ByteArray, (⟨(s.drop (k - p + 1)).toArray⟩ : ByteArray) = val := ⟨_, rfl⟩
                          have hvs : val.size ≤ 9223372036854775807 := by
                            have h : val.size = (s.drop (k - p + 1)).length := by rw [← hval]; rfl
                            rw [h, HSL.out]; omega
                          simp only [hval]
                          rw [hval] at HFLD
                          clear hval
                          rw [HFLD.out] at HRO
                          cases hr : rightF ⟨v, val⟩
                          · have HP := Lib.hid (HFALSE.out (HRO.out.trans hr))
                            refine (rright_is v val _ hr _ hvs).mono ?_
                            rintro en w1 ⟨rfl, hb1⟩
                            have HB1 := Lib.hid ((HB.out.alloc HB.out.size (.cells #[.int .i64 v, .string val] 47)).trans (hb1.mono (HB.out.alloc HB.out.size _).size))
                            clear hb1 hr
                            go_wp2_with fail
                            go_ret2
                            rw [HP.out]
                            exact ⟨⟨.slice none 0 0, rfl, OwnE.nil _ _ _ _⟩, HB1.out⟩
                          · have HROK := Lib.hid (HRO.out.trans hr)
                            refine (rright_is v val _ hr _ hvs).mono ?_
                            rintro en w1 ⟨rfl, hb1⟩
                            have HB1 := Lib.hid ((HB.out.alloc HB.out.size (.cells #[.int .i64 v, .string val] 47)).trans (hb1.mono (HB.out.alloc HB.out.size _).size))
                            have HO1 := Lib.hid ((HO.out.kept ((Below.refl _ _).alloc (Nat.le_refl _) (.cells #[.int .i64 v, .string val] 47))).kept hb1)
                            have c6 : w1.cell? ⟨wr.heap.size, 0, none⟩ = some (.int .i64 v) := (hb1.cell (p := ⟨wr.heap.size, 0, none⟩) (by simp)).trans (by rw [World.cell?_alloc_new]; rfl)
                            have c7 : w1.cell? ⟨wr.heap.size, 1, none⟩ = some (.string val) := (hb1.cell (p := ⟨wr.heap.size, 1, none⟩) (by simp)).trans (by rw [World.cell?_alloc_new]; rfl)
                            clear hb1 hr
                            obtain ⟨oa, oc, rfl, _⟩ := HO1.out.row
                            by_cases h100 : acc.length = 100
                            · have HP : Hid (parseL b = ([], 4)) := Lib.hid (by
                                rw [HQ.out]
                                exact parseG_long HSP.out.2.2.1 (by rw [HSG.out]; exact HSP.out.2.1) (by rw [HSG.out]; exact HROK.out) h100)
                              go_wp2_with fail
                              go_ret2
                              rw [HP.out]
                              exact ⟨⟨.slice none 0 0, rfl, OwnE.nil _ _ _ _⟩, HB1.out⟩
                            · have HP : Hid (parseL b = parseG (acc ++ [⟨v, val⟩]) (b.drop (e + 1))) := Lib.hid (by
                                rw [HQ.out, parseG_step HSP.out.2.2.1 (by rw [HSG.out]; exact HSP.out.2.1) (by rw [HSG.out]; exact HROK.out) h100, HSG.out, HFLD.out, HSP.out.2.2.2.1])
                              have ha100 : acc.length ≤ 99 := by have := HA.out; omega
                              go_wp2_with (at_builtin; refine wpList_append_row encF (by decide) rfl (.tmp 106) (.tmp 108) _ rfl w.heap.size 47 i0 _ 24 Tryz.underlying42 HI0.out HZ0.out HZ1.out HZ2.out (by rfl) _ acc rfl (HO1.out.kept ((Below.refl _ _).alloc (Nat.le_refl _) _)) _ _ _ [⟨v, val⟩] rfl (by rfl) (one_row encF _ _ ⟨v, val⟩ _ rfl) (by simp only [List.length_cons, List.length_nil, maxLen]; omega) (by simp only [List.length_cons, List.length_nil]; omega) (HB1.out.alloc HB1.out.size _).size ?_; intro v2 w5 hown2 hb4
                                           have HB5 := Lib.hid ((HB1.out.alloc HB1.out.size _).trans hb4); have HO5 := Lib.hid hown2; clear hb4 hown2)
                              go_roundw
                              case rel => exact ⟨e + 1, acc ++ [⟨v, val⟩], by omega, by go_num, by rw [List.length_append]; simp only [List.length_cons, List.length_nil]; omega, HP.out, HO5.out, HB5.out⟩
                              case measure => simp [intOf]; omega
                      · have hq : y = 48 := UInt8.toNat_inj.1 (by have := beq_iff_eq.1 d0; show y.toNat = 48; omega)
                        have HP := Lib.hid (HFALSE.out (readOk_zero (by rw [HY.out, hq])))
                        clear hq
                        go_wp2_with fail
                        go_ret2
                        rw [HP.out]
                        exact ⟨⟨.slice none 0 0, rfl, OwnE.nil _ _ _ _⟩, HB.out⟩
                · have HP := Lib.hid (HFALSE.out (readOk_end (by rw [HT.out.len (.inl (by rw [HLS.out]; omega)), HLS.out]; omega)))
                  obtain rfl : k = e := by omega
                  go_wp2_with fail
                  all_goals
                    go_ret2
                    rw [HP.out]
                    exact ⟨⟨.slice none 0 0, rfl, OwnE.nil _ _ _ _⟩, HB.out⟩
          · obtain rfl : e = b.length := by omega
            have HP : Hid (parseL b = ([], 2)) := Lib.hid (by
              rw [HQ.out]
              exact parseG_short (fun h => by have : (b.drop p).length = 0 := by rw [h]; rfl
                                              rw [List.length_drop] at this; omega) HS.out.whole)
            go_wp2_with fail
            go_ret2
            rw [HP.out]
            exact ⟨⟨.slice none 0 0, rfl, OwnE.nil _ _ _ _⟩, HB.out⟩
      · obtain rfl : p = b.length := by omega
        have HP : Hid (parseL b = (acc, 0)) := Lib.hid (by rw [HQ.out, List.drop_length, parseG_nil])
        go_wp2_with fail
        go_ret2
        rw [HP.out]
        exact ⟨⟨_, rfl, HO.out⟩, HB.out⟩

end Fld
end Go.Proofs.YtddblaiahgjbaaaGreatDoor
