/-
  The contract of the reference's Next (layer 3).
-/
import Derived.Test.YtnmhkjgcfhcmpaaDoorFrmC
import Derived.Lib.Strings
import Derived.Deep.CutBlock
import Derived.Deep.DeepCutAuto
namespace Go.Proofs.YtnmhkjgcfhcmpaaDoor
open Go.RowKit
namespace Frm
open Num
open Fld (tagLen TagAt)

/-- what Next tells: what it is, a frame's body, how many bytes it takes -/
def GotNext (w : World) (a0 : Option Addr) (r : Int × List UInt8 × Nat) (e : Ending) (w' : World) : Prop :=
  ∃ a cap, e = .returned (.tuple #[.int .i64 r.1, .slice a r.2.1.length cap, .int .i64 r.2.2]) ∧ BytesAt w' a cap r.2.1 ∧ (∀ b, b ≤ w.heap.size → Safe 5 b w a0 → Safe 5 b w' a) ∧ Below w.heap.size w w'
theorem GotNext.nil {w w' : World} {a0 : Option Addr} (h : Below w.heap.size w w') (k : Int) (n : Nat) : GotNext w a0 (k, [], n) (.returned (.tuple #[.int .i64 k, .slice none 0 0, .int .i64 n])) w' := ⟨Option.none, 0, rfl, .inl ⟨rfl, rfl, rfl⟩, fun b _ _ => Safe.nil _ b _, h⟩

theorem junk_step {b : List UInt8} {j : Nat} (hj : j < b.length) (hs : junkN b = j + skip (b.drop j)) (h : begB (b.drop j) = false) : junkN b = j + 1 + skip (b.drop (j + 1)) := by
  rw [hs, List.drop_eq_getElem_cons hj]
  rw [List.drop_eq_getElem_cons hj] at h
  rw [skip, if_neg (by rw [h]; simp)]
  omega
theorem junk_end {b : List UInt8} (hs : junkN b = b.length + skip (b.drop b.length)) : junkN b = b.length := by
  rw [hs, List.drop_length]; rfl
theorem junk_hit {b : List UInt8} {j : Nat} (hj : j < b.length) (hs : junkN b = j + skip (b.drop j)) (h : begB (b.drop j) = true) : junkN b = j := by
  rw [hs, List.drop_eq_getElem_cons hj]
  rw [List.drop_eq_getElem_cons hj] at h
  rw [skip, if_pos h]
  omega

theorem rbegins_is (a : Option Addr) (cap : Nat) (b : List UInt8) (p : Nat) (o : Bool) (ho : begB (b.drop p) = o) (w : World) (hby : BytesAt w a cap b) (hlen : b.length ≤ 9223372036854775807) (hp : p ≤ b.length) :
    Calls Tryd.prog 23 #[.slice a b.length cap, .int .i64 p] w fun e w' => e = .returned (.bool o) ∧ Below w.heap.size w w' := by
  rw [← ho]; exact rbegins_any a cap b p w hby hlen hp

set_option maxRecDepth 100000 in
set_option maxHeartbeats 2000000 in
theorem rnext_any (a : Option Addr) (cap : Nat) (b : List UInt8) (w : World) (hby : BytesAt w a cap b) (hlen : b.length ≤ 4611686018427387904) :
    Calls Tryd.prog 15 #[.slice a b.length cap] w (GotNext w a (nextY b)) := by
  have HF := Lib.hid hby
  clear hby
  by_cases h0 : b.length = 0
  · have HP : Hid (nextY b = (0, [], 0)) := Lib.hid (by
      unfold nextY
      rw [if_pos (List.length_eq_zero_iff.1 h0)])
    go_enter Tryd.func15, Tryd.ntmps15
    go_wp2_with fail
    go_ret3
    rw [HP.out]
    exact GotNext.nil (Below.refl _ _) 0 0
  have hne : b ≠ [] := fun e => h0 (by rw [e]; rfl)
  have HNE := Lib.hid hne
  clear hne
  have d0 : ((b.length : Int) == 0) = false := beq_eq_false_iff_ne.2 (by omega)
  go_enter Tryd.func15, Tryd.ntmps15
  go_upto_block 0 with fail
  go_cut [5] (fun s5 wx => s5 = .int .i64 (junkN b) ∧ Below w.heap.size w wx)
  case first =>
    go_wp2_with fail
    go_loopw [5] (fun j_ wr => ∃ j : Nat, j ≤ b.length ∧ 1 ≤ j ∧ j_ = .int .i64 j ∧ junkN b = j + skip (b.drop j) ∧ Below w.heap.size w wr) (fun j_ _ => b.length - (intOf j_).toNat)
    case atStart => exact ⟨1, by omega, Nat.le_refl _, rfl, rfl, Below.refl _ _⟩
    case round =>
      obtain ⟨j, hj, hj1, rfl, hs, hbel⟩ := hrel
      have HS := Lib.hid hs
      have HB := Lib.hid hbel
      clear hs hbel
      by_cases hlt : j < b.length
      · cases hbg : begB (b.drop j)
        · have HN := Lib.hid (junk_step hlt HS.out hbg)
          have HBG := Lib.hid hbg
          clear hbg
          go_wp2_with fail
          refine (rbegins_is a cap b j _ HBG.out _ (HF.out.later HB.out) (by omega) hj).mono ?_
          rintro e w1 ⟨rfl, hb1⟩
          have HB1 := Lib.hid (HB.out.trans (hb1.mono HB.out.size))
          clear hb1
          go_wp2_with fail
          go_roundw
          case rel => exact ⟨j + 1, by omega, by omega, by go_num, HN.out, HB1.out⟩
          case measure => simp [intOf]; omega
        · have HJ := Lib.hid (junk_hit hlt HS.out hbg)
          have HBG := Lib.hid hbg
          clear hbg
          go_wp2_with fail
          refine (rbegins_is a cap b j _ HBG.out _ (HF.out.later HB.out) (by omega) hj).mono ?_
          rintro e w1 ⟨rfl, hb1⟩
          have HB1 := Lib.hid (HB.out.trans (hb1.mono HB.out.size))
          clear hb1
          go_wp2_with fail
          go_meet
          exact ⟨by rw [HJ.out], HB1.out⟩
      · obtain rfl : j = b.length := by omega
        have HJ := Lib.hid (junk_end HS.out)
        go_wp2_with fail
        go_meet
        exact ⟨by rw [HJ.out], HB.out⟩
  case rest =>
    obtain ⟨rfl, hbel⟩ := hcut
    have HB := Lib.hid hbel
    clear hbel
    obtain ⟨jn, hjn⟩ : ∃ jn, junkN b = jn := ⟨_, rfl⟩
    have hjl := junk_le HNE.out
    rw [hjn] at hjl ⊢
    have HJ := Lib.hid hjn
    clear hjn
    cases ho : begB b
    · have HP : Hid (nextY b = (2, [], jn)) := Lib.hid (by
        unfold nextY
        rw [if_neg HNE.out, if_pos ho, HJ.out])
      have HBG := Lib.hid (show begB (b.drop 0) = false from ho)
      clear ho
      go_wp2_with fail
      refine (rbegins_is a cap b 0 _ HBG.out _ (HF.out.later HB.out) (by omega) (by omega)).mono ?_
      rintro e w1 ⟨rfl, hb1⟩
      have HB1 := Lib.hid (HB.out.trans (hb1.mono HB.out.size))
      clear hb1
      go_wp2_with fail
      go_ret3
      rw [HP.out]
      exact GotNext.nil HB1.out 2 jn
    · have HBB := Lib.hid ho
      have HBG := Lib.hid (show begB (b.drop 0) = true from ho)
      clear ho
      go_wp2_with fail
      refine (rbegins_is a cap b 0 _ HBG.out _ (HF.out.later HB.out) (by omega) (by omega)).mono ?_
      rintro e w1 ⟨rfl, hb1⟩
      have HB1 := Lib.hid (HB.out.trans (hb1.mono HB.out.size))
      clear hb1 HB HBG
      by_cases h12 : b.length < 12
      · have HP : Hid (nextY b = (0, [], 0)) := Lib.hid (by
          unfold nextY
          rw [if_neg HNE.out, if_neg (by rw [HBB.out]; simp), if_pos h12])
        go_wp2_with fail
        go_ret3
        rw [HP.out]
        exact GotNext.nil HB1.out 0 0
      · have hlen12 : 12 ≤ b.length := by omega
        have HU : Hid (nextY b = if lenT b ≠ 0 ∧ (b[12]? = some 48 ∨ 8000 < lenV b) then (2, [], jn)
            else if 12 + lenT b = b.length then (0, [], 0)
            else if lenT b = 0 ∨ b[12 + lenT b]? ≠ some 1 then (2, [], jn)
            else if b.length < allAt b then (0, [], 0)
            else if putE (bodyAt b) = 0 ∧ putB (bodyAt b) = b.take (allAt b) then (1, bodyAt b, allAt b)
            else (2, [], jn)) := Lib.hid (by
          conv => lhs; unfold nextY
          rw [if_neg HNE.out, if_neg (by rw [HBB.out]; simp), if_neg h12, HJ.out])
        obtain ⟨bb, off, rfl, hcc⟩ := (HF.out.later HB1.out).at (by omega)
        have HC := Lib.hid hcc
        have hcap := HF.out.cap
        clear hcc
        go_upto_block 2 with fail
        go_cut [6, 7] (fun n_ i_ wx => wx = w1 ∧ ∃ p v : Nat, n_ = .int .i64 v ∧ i_ = .int .i64 p ∧ 12 ≤ p ∧ p ≤ b.length ∧ p ≤ 16 ∧ v < 10000 ∧ lenT b = p - 12 ∧ lenV b = v)
        case first =>
          go_wp2_with fail
          go_loop [6, 7] (fun n_ i_ => ∃ p v : Nat, n_ = .int .i64 v ∧ i_ = .int .i64 p ∧ 12 ≤ p ∧ p ≤ b.length ∧ TagAt (b.drop 12) (p - 12) v) (fun _ i_ => b.length - (intOf i_).toNat)
          case atStart => exact ⟨12, 0, rfl, rfl, Nat.le_refl _, hlen12, TagAt.start _⟩
          case round =>
            obtain ⟨p, v, rfl, rfl, hp, hpl, htag⟩ := hrel
            have ht4 := htag.2.1
            have ⟨hv, hv3⟩ := htag.bound
            have HT := Lib.hid htag
            clear htag
            have HSTOP : Hid ((p - 12 = (b.drop 12).length ∨ p - 12 = 4 ∨ ∃ c, (b.drop 12)[p - 12]? = some c ∧ Num.isD c = false) → lenT b = p - 12 ∧ lenV b = v) := Lib.hid fun h => by
              have e := HT.out.len h
              refine ⟨e, ?_⟩
              unfold lenV lenT
              rw [e]
              exact HT.out.2.2.2.symm
            by_cases hlt : p < b.length
            · have hk0 := HC.out p hlt
              obtain ⟨x, hx⟩ : ∃ x, b[p] = x := ⟨_, rfl⟩
              rw [hx] at hk0
              have HKL : Hid (p - 12 < (b.drop 12).length) := Lib.hid (by rw [List.length_drop]; omega)
              have HX : Hid ((b.drop 12)[p - 12]? = some x) := Lib.hid (by rw [List.getElem?_drop, show 12 + (p - 12) = p by omega, List.getElem?_eq_getElem hlt, hx])
              clear hx
              rcases (show (p < 16 ∧ decide (48 ≤ (x.toNat : Int)) = true ∧ decide ((x.toNat : Int) ≤ 57) = true) ∨ (16 ≤ p) ∨ (p < 16 ∧ decide (48 ≤ (x.toNat : Int)) = false) ∨
                  (p < 16 ∧ decide (48 ≤ (x.toNat : Int)) = true ∧ decide ((x.toNat : Int) ≤ 57) = false) from by
                cases d1 : decide (48 ≤ (x.toNat : Int)) <;> cases d2 : decide ((x.toNat : Int) ≤ 57) <;> simp <;> omega) with ⟨h4, d1, d2⟩ | h4 | ⟨h4, d1⟩ | ⟨h4, d1, d2⟩
              · have hx1 : 48 ≤ x.toNat := by have := of_decide_eq_true d1; omega
                have hx2 : x.toNat ≤ 57 := by have := of_decide_eq_true d2; omega
                have HXX : Hid ((b.drop 12)[p - 12]'HKL.out = x) := Lib.hid (by have h := HX.out; rw [List.getElem?_eq_getElem HKL.out] at h; exact Option.some.inj h)
                have HN := Lib.hid (HT.out.step HKL.out (by omega) (by rw [HXX.out, isD_iff]; omega))
                have hv4 := hv3 (by omega)
                go_wp2_with fail
                go_round
                case rel =>
                  refine ⟨p + 1, v * 10 + (x.toNat - 48), ?_, by go_num, by omega, by omega, ?_⟩
                  · exact congrArg (Value.int .i64) (by omega)
                  · rw [show p + 1 - 12 = p - 12 + 1 by omega, ← HXX.out]; exact HN.out
                case measure => simp [intOf]; omega
              all_goals
                have HLEN := Lib.hid (HSTOP.out (by
                  first
                    | exact .inr (.inl (by omega))
                    | exact .inr (.inr ⟨x, HX.out, by unfold Num.isD; rw [Bool.and_eq_false_iff, decide_eq_false_iff_not, decide_eq_false_iff_not]; first | (have := of_decide_eq_false d1; omega) | (have := of_decide_eq_false d2; omega)⟩)))
                go_wp2_with fail
                go_meet
                exact ⟨rfl, p, v, rfl, rfl, hp, hpl, by omega, hv, HLEN.out.1, HLEN.out.2⟩
            · obtain rfl : p = b.length := by omega
              have HLEN := Lib.hid (HSTOP.out (.inl (by rw [List.length_drop])))
              go_wp2_with fail
              go_meet
              exact ⟨rfl, b.length, v, rfl, rfl, hp, hpl, by omega, hv, HLEN.out.1, HLEN.out.2⟩
        case rest =>
          obtain ⟨rfl, p, v, rfl, rfl, hp, hpl, hp16, hv, hlt, hlv⟩ := hcut
          have HV : Hid (nextY b = if p ≠ 12 ∧ (b[12]? = some 48 ∨ 8000 < v) then (2, [], jn)
              else if p = b.length then (0, [], 0)
              else if p = 12 ∨ b[p]? ≠ some 1 then (2, [], jn)
              else if b.length < p + 1 + v + 7 then (0, [], 0)
              else if putE (bodyAt b) = 0 ∧ putB (bodyAt b) = b.take (p + 1 + v + 7) then (1, bodyAt b, p + 1 + v + 7)
              else (2, [], jn)) := Lib.hid (by
            have e1 : allAt b = p + 1 + v + 7 := by unfold allAt; rw [hlt, hlv]; omega
            have e2 : 12 + lenT b = p := by rw [hlt]; omega
            have e3 : lenT b = 0 ↔ p = 12 := by rw [hlt]; omega
            rw [HU.out, e1, e2, hlv]
            simp only [ne_eq, e3])
          have HBD : Hid (bodyAt b = (b.drop (p + 1)).take v) := Lib.hid (by
            unfold bodyAt
            rw [hlt, hlv, List.drop_drop, show 12 + (p - 12 + 1) = p + 1 by omega])
          clear hlt hlv HU
          have d16 : ((p : Int) ≤ 16) := by omega
          by_cases h12p : p = 12
          · subst h12p
            by_cases hend : b.length = 12
            · have HP : Hid (nextY b = (0, [], 0)) := Lib.hid (by rw [HV.out, if_neg (by simp), if_pos hend.symm])
              have de : ((12 : Int) == (b.length : Int)) = true := beq_iff_eq.2 (by omega)
              go_wp2_with fail
              go_ret3
              rw [HP.out]
              exact GotNext.nil HB1.out 0 0
            · have HP : Hid (nextY b = (2, [], jn)) := Lib.hid (by rw [HV.out, if_neg (by simp), if_neg (by omega), if_pos (.inl rfl)])
              have de : ((12 : Int) == (b.length : Int)) = false := beq_eq_false_iff_ne.2 (by omega)
              go_wp2_with fail
              go_ret3
              rw [HP.out]
              exact GotNext.nil HB1.out 2 jn
          · have dp : decide ((12 : Int) < (p : Int)) = true := decide_eq_true (by omega)
            have dp2 : ((p : Int) == 12) = false := beq_eq_false_iff_ne.2 (by omega)
            have hlt12 : 12 < b.length := by omega
            have hk0 := HC.out 12 hlt12
            obtain ⟨x0, hx0⟩ : ∃ x, b[12] = x := ⟨_, rfl⟩
            rw [hx0] at hk0
            have HX0 : Hid (b[12]? = some x0) := Lib.hid (by rw [List.getElem?_eq_getElem hlt12, hx0])
            clear hx0
            cases d48 : ((x0.toNat : Int) == 48)
            · have hx48 : ¬ (b[12]? = some 48) := by
                rw [HX0.out]
                intro h
                rw [Option.some.inj h] at d48
                simp at d48
              cases d8 : decide ((8000 : Int) < (v : Int))
              · have hv8 : ¬ 8000 < v := by have := of_decide_eq_false d8; omega
                have hc1 : ¬ (p ≠ 12 ∧ (b[12]? = some 48 ∨ 8000 < v)) := by rintro ⟨_, h | h⟩; exact hx48 h; exact hv8 h
                have HV2 := Lib.hid (HV.out.trans (if_neg hc1))
                clear hc1 hx48 HV
                by_cases hend : p = b.length
                · have HP : Hid (nextY b = (0, [], 0)) := Lib.hid (by rw [HV2.out, if_pos hend])
                  have de : ((p : Int) == (b.length : Int)) = true := beq_iff_eq.2 (by omega)
                  go_wp2_with fail
                  go_ret3
                  rw [HP.out]
                  exact GotNext.nil HB1.out 0 0
                · have de : ((p : Int) == (b.length : Int)) = false := beq_eq_false_iff_ne.2 (by omega)
                  have hpl2 : p < b.length := by omega
                  have hk1 := HC.out p hpl2
                  obtain ⟨y, hy⟩ : ∃ y, b[p] = y := ⟨_, rfl⟩
                  rw [hy] at hk1
                  have HY : Hid (b[p]? = some y) := Lib.hid (by rw [List.getElem?_eq_getElem hpl2, hy])
                  clear hy
                  cases dy : ((y.toNat : Int) != 1)
                  · have hy1 : b[p]? = some 1 := by
                      rw [HY.out]
                      exact congrArg some (UInt8.toNat_inj.1 (by have := bne_eq_false_iff_eq.1 dy; show y.toNat = 1; omega))
                    have HV3 := Lib.hid ((HV2.out.trans (if_neg hend)).trans (if_neg (show ¬ (p = 12 ∨ b[p]? ≠ some 1) by rintro (h | h); exact h12p h; exact h hy1)))
                    clear hy1 HV2
                    by_cases hfew : b.length < p + 1 + v + 7
                    · have HP : Hid (nextY b = (0, [], 0)) := Lib.hid (by rw [HV3.out, if_pos hfew])
                      go_wp2_with fail
                      go_ret3
                      rw [HP.out]
                      exact GotNext.nil HB1.out 0 0
                    · have HV4 := Lib.hid (HV3.out.trans (if_neg hfew))
                      clear HV3
                      have HSUB : Hid (BytesAt wc (some ⟨bb, off + (p + 1), none⟩) (cap - (p + 1)) (bodyAt b)) := Lib.hid (by
                        have h := ((HF.out.later HB1.out).drop (p + 1) (by omega)).take v
                        rwa [add_none, ← HBD.out] at h)
                      have HSL : Hid ((bodyAt b).length = v) := Lib.hid (by rw [HBD.out, List.length_take, List.length_drop]; omega)
                      have HEND : Hid (∀ W, Below w.heap.size w W → BytesAt W (some ⟨bb, off + (p + 1), none⟩) (cap - (p + 1)) (bodyAt b)) := Lib.hid (fun W hW => by
                        have h := ((HF.out.later hW).drop (p + 1) (by omega)).take v
                        rwa [add_none, ← HBD.out] at h)
                      obtain ⟨Y, hY⟩ : ∃ Y, bodyAt b = Y := ⟨_, rfl⟩
                      rw [hY] at HSUB HSL HV4 HEND
                      have HBY := Lib.hid hY
                      obtain ⟨q, hq⟩ : ∃ q, p + 1 + v + 7 = q := ⟨_, rfl⟩
                      rw [hq] at HV4 hfew
                      have hqz : (p : Int) + 1 + v + 7 = (q : Int) := by omega
                      have HALL : Hid (∀ W, Below w.heap.size w W → BytesAt W (some ⟨bb, off, none⟩) cap (b.take (q))) := Lib.hid fun W h => (HF.out.later h).take _
                      have HAL : Hid ((b.take (q)).length = q) := Lib.hid (by rw [List.length_take]; omega)
                      have HPUT : Hid (Calls Tryd.prog 24 #[.slice (some ⟨bb, off + (p + 1), none⟩) v (cap - (p + 1))] wc (GotBytes wc (putB Y) (putE Y))) := Lib.hid (by
                        have h := rput_any _ _ Y wc HSUB.out (by rw [HSL.out]; omega)
                        rwa [HSL.out] at h)
                      clear hY
                      go_wp2_with fail
                      refine HPUT.out.mono ?_
                      intro e w2 hg
                      obtain ⟨⟨a2, c2, rfl, hb2⟩, hbel⟩ := hg
                      have HB2 := Lib.hid (HB1.out.trans (hbel.mono HB1.out.size))
                      have HW := Lib.hid hb2
                      clear hbel hb2
                      cases dpe : (putE Y != 0)
                      · have hpe : putE Y = 0 := by simpa using dpe
                        obtain ⟨S, hS⟩ : ∃ S : ByteArray, (⟨(putB Y).toArray⟩ : ByteArray) = S := ⟨_, rfl⟩
                        obtain ⟨T, hT⟩ : ∃ T : ByteArray, (⟨(b.take (q)).toArray⟩ : ByteArray) = T := ⟨_, rfl⟩
                        have cv := fun n => string_of (P := Tryd.prog) Tryd.underlying22 Tryd.underlying5 Tryd.underlying9 (HW.out.later (below_drew (Below.refl _ w2) n)) _ rfl
                        have cw := fun n => string_of (P := Tryd.prog) Tryd.underlying22 Tryd.underlying5 Tryd.underlying9 (HALL.out _ (below_drew HB2.out n)) _ HAL.out
                        rw [hS] at cv
                        rw [hT] at cw
                        have HST : Hid (S = T ↔ putB Y = b.take (q)) := Lib.hid (by
                          rw [← hS, ← hT]
                          constructor
                          · intro h
                            have h1 := congrArg (fun z : ByteArray => z.data.toList) h
                            exact h1
                          · intro h; rw [h])
                        clear hS hT
                        go_wp2_with fail
                        go_quiet (fail)
                        by_cases hst : S = T
                        · have HP : Hid (nextY b = (1, Y, q)) := Lib.hid (by rw [HV4.out, if_pos ⟨hpe, HST.out.1 hst⟩])
                          clear cv cw
                          subst hst
                          go_wp2_with fail
                          · exfalso
                            have h : (!(S.toList == S.toList)) = true := by assumption
                            simp at h
                          · go_quiet (fail)
                            go_wp2_with fail
                            go_ret3
                            rw [HP.out]
                            refine ⟨some ⟨bb, off + (p + 1), none⟩, cap - (p + 1), ?_, ?_, fun c _ hc => Safe.at (hc.later (below_drew (below_drew HB2.out _) _)), below_drew (below_drew HB2.out _) _⟩
                            · have e : Y.length = p + 1 + v - (p + 1) := by rw [HSL.out]; omega
                              show _ = Ending.returned (.tuple #[.int .i64 1, .slice (some ⟨bb, off + (p + 1), none⟩) Y.length (cap - (p + 1)), .int .i64 q])
                              rw [e]
                              rfl
                            · exact HEND.out _ (below_drew (below_drew HB2.out _) _)
                        · have dst : (S.toList == T.toList) = false := by
                            rw [Lib.toList_data, Lib.toList_data]
                            exact beq_eq_false_iff_ne.2 fun h => hst (ByteArray.ext (Array.toList_inj.1 h))
                          have HP : Hid (nextY b = (2, [], jn)) := Lib.hid (by rw [HV4.out, if_neg (by rintro ⟨_, h⟩; exact hst (HST.out.2 h))])
                          clear cv cw
                          go_wp2_with fail
                          · go_ret3
                            rw [HP.out]
                            exact GotNext.nil (below_drew HB2.out _) 2 jn
                          · exfalso
                            have h : (!(S.toList == T.toList)) = false := by assumption
                            rw [dst] at h
                            cases h
                      · have hpe : putE Y ≠ 0 := by simpa using dpe
                        have HP : Hid (nextY b = (2, [], jn)) := Lib.hid (by rw [HV4.out, if_neg (by rintro ⟨h, _⟩; exact hpe h)])
                        clear hpe
                        go_wp2_with fail
                        go_quiet (fail)
                        go_wp2_with fail
                        go_ret3
                        rw [HP.out]
                        exact GotNext.nil (below_drew HB2.out _) 2 jn
                  · have hy1 : b[p]? ≠ some 1 := by
                      rw [HY.out]
                      intro h
                      rw [Option.some.inj h] at dy
                      simp at dy
                    have HP : Hid (nextY b = (2, [], jn)) := Lib.hid ((HV2.out.trans (if_neg hend)).trans (if_pos (.inr hy1)))
                    clear hy1
                    go_wp2_with fail
                    go_ret3
                    rw [HP.out]
                    exact GotNext.nil HB1.out 2 jn
              · have HP : Hid (nextY b = (2, [], jn)) := Lib.hid (by rw [HV.out, if_pos ⟨h12p, .inr (by have := of_decide_eq_true d8; omega)⟩])
                clear hx48
                go_wp2_with fail
                go_ret3
                rw [HP.out]
                exact GotNext.nil HB1.out 2 jn
            · have hx48 : b[12]? = some 48 := by
                rw [HX0.out]
                exact congrArg some (UInt8.toNat_inj.1 (by have := beq_iff_eq.1 d48; show x0.toNat = 48; omega))
              have HP : Hid (nextY b = (2, [], jn)) := Lib.hid (by rw [HV.out, if_pos ⟨h12p, .inl hx48⟩])
              clear hx48
              go_wp2_with fail
              go_ret3
              rw [HP.out]
              exact GotNext.nil HB1.out 2 jn

end Frm
end Go.Proofs.YtnmhkjgcfhcmpaaDoor
