/-
  The walk of layer 2's law FieldBack.
-/
import Derived.Test.YtamhimmggoifgaaDoorFldM
namespace Go.Proofs.YtamhimmggoifgaaDoor
open Go.RowKit
namespace Fld

theorem putB_len (l : List F) : (putB l).length ≤ 26200 := by
  by_cases h : putE l = 0
  · have ⟨h1, h2⟩ := putE_ok h
    have h3 := len_bytesL h2
    unfold putB
    rw [if_pos h]
    omega
  · unfold putB
    rw [if_neg h]
    decide
theorem right_fits {l : List F} (h : l.all rightF = true) : Fits l := by
  intro f hf
  have ⟨h1, h2, h3, h4, _⟩ := (right_iff f).1 (List.all_eq_true.1 h f hf)
  omega

set_option maxRecDepth 100000 in
set_option maxHeartbeats 2000000 in
theorem law_FieldBack (a : Option Addr) (len cap : Nat) (la : List F) (b : Option Addr) (len2 cap2 : Nat) (lb : List F) (c : Option Addr) (len3 cap3 : Nat) (z : List Int) (w : World)
    (hra : IsFlds w a len cap la) (hrb : IsFlds w b len2 cap2 lb) (hrc : IsRow .u8 w c len3 cap3 z) (hl : Laid w) :
    Calls Tryd.prog 5 #[.slice a len cap, .slice b len2 cap2, .slice c len3 cap3] w fun e w' => e = .returned (.bool true) ∧ Below w.heap.size w w' := by
  obtain ⟨rfl, hma, hrowa, hfita⟩ := hra
  obtain ⟨rfl, hmb, hrowb, hfitb⟩ := hrb
  obtain ⟨lc, rfl, hmc, hrowc⟩ := IsRow.bytes hrc
  have hcapc := hrowc.cap
  unfold maxLen at hma hmb hmc
  obtain ⟨t, ht⟩ : ∃ t, lc.take 5000 = t := ⟨_, rfl⟩
  have HC : Hid (BytesAt w c cap3 t) := Lib.hid (by rw [← ht]; exact hrowc.take 5000)
  have HT : Hid (t.length ≤ 5000) := Lib.hid (by rw [← ht, List.length_take]; omega)
  have HN : Hid (t.length = (min (lc.length : Int) 5000).toNat) := Lib.hid (by rw [← ht, List.length_take]; omega)
  have HRA := Lib.hid hrowa
  have HRB := Lib.hid hrowb
  have HIA := Lib.hid hfita
  have HIB := Lib.hid hfitb
  have HL := Lib.hid hl
  obtain ⟨i0, hi0, hz0, hz1, hz2⟩ := info_parts infoU8
  have HI0 := Lib.hid hi0
  have HZ0 := Lib.hid hz0
  have HZ1 := Lib.hid hz1
  have HZ2 := Lib.hid hz2
  clear hi0 hz0 hz1 hz2
  obtain ⟨j0, hi0, hz0, hz1, hz2⟩ := info_parts infoF
  have HJ0 := Lib.hid hi0
  have HY0 := Lib.hid hz0
  have HY1 := Lib.hid hz1
  have HY2 := Lib.hid hz2
  clear hi0 hz0 hz1 hz2
  clear hrowa hrowb hfita hfitb hl hrc hrowc ht
  go_enter Tryd.func5, Tryd.ntmps5
  go_wp2_with fail
  refine (awake_any _ HL.out).mono ?_
  rintro e w1 ⟨rfl, hb1⟩
  have HB1 := Lib.hid hb1
  clear hb1
  by_cases ha : 50 < la.length
  · go_wp2_with fail
    go_ret
    exact ⟨rfl, HB1.out⟩
  by_cases hb : 50 < lb.length
  · go_wp2_with fail
    go_ret
    exact ⟨rfl, HB1.out⟩
  go_wp2_with fail
  refine (rshort_any _ _ la _ (HRA.out.later HB1.out).flds (by omega) fun f hf => (HIA.out f hf).2.2).mono ?_
  rintro e w' ⟨rfl, rfl⟩
  cases hsa : shortB la
  · go_wp2_with fail
    go_ret
    exact ⟨rfl, HB1.out⟩
  go_wp2_with fail
  refine (rshort_any _ _ lb _ (HRB.out.later HB1.out).flds (by omega) fun f hf => (HIB.out f hf).2.2).mono ?_
  rintro e w' ⟨rfl, rfl⟩
  cases hsb : shortB lb
  · go_wp2_with fail
    go_ret
    exact ⟨rfl, HB1.out⟩
  go_wp2_with fail
  refine (put_any _ _ la _ (HRA.out.later HB1.out).flds HIA.out (by omega) (HL.out.below HB1.out)).mono ?_
  intro e w2 hg
  obtain ⟨⟨a2, c2, rfl, hby⟩, hbel⟩ := hg
  have HB2 := Lib.hid (HB1.out.trans (hbel.mono HB1.out.size))
  have HX2 := Lib.hid hby
  clear hby hbel
  go_wp2_with fail
  refine (put_any _ _ lb _ (HRB.out.later HB2.out).flds HIB.out (by omega) (HL.out.below HB2.out)).mono ?_
  intro e w3 hg
  obtain ⟨⟨a3, c3, rfl, hby⟩, hbel⟩ := hg
  have HB3 := Lib.hid (HB2.out.trans (hbel.mono HB2.out.size))
  have HX := Lib.hid (HX2.out.later hbel)
  have HY := Lib.hid hby
  clear hby hbel
  have HXL := Lib.hid (putB_len la)
  have HYL := Lib.hid (putB_len lb)
  have HAL : Hid (la.length ≤ 50 ∧ lb.length ≤ 50) := Lib.hid (by omega)
  cases hea : (putE la == 0)
  case' false =>
    go_wp2_with fail
    have HBW := HB3
  case' true =>
    cases heb : (putE lb == 0)
    case' false =>
      go_wp2_with fail
      have HBW := HB3
    case' true =>
      have HBK := Lib.hid (back_two (beq_iff_eq.1 hea) (beq_iff_eq.1 heb) (by omega))
      go_wp2_with (first
        | (at_builtin; refine wpList_append_bytes rfl (.tmp 54) (.tmp 55) _ rfl w3.heap.size 5 i0 _ Tryd.underlying25 HI0.out HZ0.out HZ1.out HZ2.out rfl _ _ rfl (own_empty _ _ _ (Nat.le_refl _)) _ _ _ _ rfl (by rfl) (HX.out.later ((Below.refl _ _).alloc (Nat.le_refl _) _)) (by have := HXL.out; simp only [List.length_nil]; omega) ((Below.refl _ _).alloc (Nat.le_refl _) _).size ?_; intro v4 w4 hown4 hb4
           have HB34 := Lib.hid (((Below.refl _ _).alloc (Nat.le_refl _) _).trans hb4); clear hb4)
        | (at_builtin; refine wpList_append_bytes rfl (.tmp 56) (.tmp 57) _ rfl w3.heap.size 5 i0 _ Tryd.underlying25 HI0.out HZ0.out HZ1.out HZ2.out rfl _ _ rfl hown4 _ _ _ _ rfl (by rfl) (HY.out.later HB34.out) (by have := HXL.out; have := HYL.out; simp only [List.length_append, List.length_nil]; omega) HB34.out.size ?_; intro v5 w5 hown5 hb5
           have HB35 := Lib.hid (HB34.out.trans hb5); clear hb5 hown4; obtain ⟨a5, c5, rfl, hby5⟩ := hown5.bytes))
      simp only [List.nil_append] at hby5
      have HB5 := Lib.hid (HB3.out.trans (HB35.out.mono HB3.out.size))
      refine (parse_is _ _ _ (putB la ++ putB lb) _ (List.length_append ..) hby5 (by have := HXL.out; have := HYL.out; simp only [List.length_append]; omega) (HL.out.below HB5.out) _ _ HBK.out).mono ?_
      intro e w6 hg
      obtain ⟨⟨a6, c6, rfl, hrow⟩, hbel⟩ := hg
      have HB6 := Lib.hid (HB5.out.trans (hbel.mono HB5.out.size))
      obtain ⟨ab, hab⟩ : ∃ ab, la ++ lb = ab := ⟨_, rfl⟩
      have HABL : Hid (ab.length = la.length + lb.length) := Lib.hid (by rw [← hab, List.length_append])
      rw [hab] at hrow
      have HS := Lib.hid hrow
      have HAB := Lib.hid hab
      clear hrow hbel hby5 hown5
      simp only [hab]
      clear hab
      go_wp2_with (first
        | (at_builtin; refine wpList_append_row_g encF (by decide) (by rfl) (.tmp 66) (.tmp 67) _ rfl w6.heap.size 39 j0 _ 24 Tryd.underlying22 HJ0.out HY0.out HY1.out HY2.out (by rfl) _ [] rfl (ownE_empty encF _ _ _ (Nat.le_refl _)) _ _ _ la rfl (by rfl) (HRA.out.later (HB6.out.alloc HB6.out.size _)) (by have := HAL.out; simp only [List.length_nil, maxLen]; omega) (by have := HAL.out; simp only [List.length_nil]; omega) ((Below.refl _ _).alloc (Nat.le_refl _) _).size ?_; intro v7 w7 hown7 hb7
           have HB67 := Lib.hid (((Below.refl _ _).alloc (Nat.le_refl _) _).trans hb7); clear hb7; have HB7 := Lib.hid (HB6.out.trans (HB67.out.mono HB6.out.size)))
        | (at_builtin; refine wpList_append_row_g encF (by decide) (by rfl) (.tmp 68) (.tmp 69) _ rfl w6.heap.size 39 j0 _ 24 Tryd.underlying22 HJ0.out HY0.out HY1.out HY2.out (by rfl) _ _ rfl hown7 _ _ _ lb rfl (by rfl) (HRB.out.later HB7.out) (by have := HAL.out; simp only [List.length_append, List.length_nil, maxLen]; omega) (by have := HAL.out; simp only [List.length_append, List.length_nil]; omega) HB67.out.size ?_; intro v8 w8 hown8 hb8
           have HB68 := Lib.hid (HB67.out.trans hb8); clear hb8 hown7; have HB8 := Lib.hid (HB6.out.trans (HB68.out.mono HB6.out.size)); obtain ⟨a8, c8, rfl, hrow8⟩ := hown8.row))
      simp only [List.nil_append] at hrow8
      rw [HAB.out] at hrow8
      refine (rsame_two _ _ _ ab _ _ _ _ rfl HABL.out (HS.out.later HB68.out).flds hrow8.flds (by rw [HABL.out]; have := HAL.out; omega)).mono ?_
      rintro e w9 ⟨rfl, hbel⟩
      have HBW := Lib.hid (HB8.out.trans (hbel.mono HB8.out.size))
      clear hbel hrow8 hown8
      go_wp2_with fail
  all_goals
    obtain ⟨pl, pe, hpq⟩ : ∃ pl pe, parseL t = (pl, pe) := ⟨_, _, rfl⟩
    have HPQ := Lib.hid hpq
    clear hpq
    refine (parse_is _ _ _ t _ HN.out (HC.out.later HBW.out) (by have := HT.out; omega) (HL.out.below HBW.out) _ _ HPQ.out).mono ?_
    intro e wa hg
    obtain ⟨⟨ax, cx, rfl, hrow⟩, hbel⟩ := hg
    have HBX := Lib.hid (HBW.out.trans (hbel.mono HBW.out.size))
    have HPX := Lib.hid hrow
    clear hrow hbel
    cases hpe : (pe == 0)
    · have HE : Hid (pl = []) := Lib.hid (by
        have h := parse_err (b := t) (by rw [HPQ.out]; exact beq_eq_false_iff_ne.1 hpe)
        rw [HPQ.out] at h; exact h)
      obtain rfl := HE.out
      go_wp2_with fail
      go_ret
      exact ⟨rfl, HBX.out⟩
    · obtain rfl : pe = 0 := beq_iff_eq.1 hpe
      have HPB := Lib.hid (parse_back HPQ.out)
      have HGD := Lib.hid (putE_ok HPB.out.1)
      clear hpe
      go_wp2_with fail
      refine (put_is _ _ _ pl _ rfl HPX.out.flds (right_fits HGD.out.2) (by have := HGD.out.1; omega) (HL.out.below HBX.out) _ _ HPB.out.2 HPB.out.1).mono ?_
      intro e wb hg
      obtain ⟨⟨ay, cy, rfl, hby⟩, hbel⟩ := hg
      have HBY := Lib.hid (HBX.out.trans (hbel.mono HBX.out.size))
      clear hbel
      have cv := string_of (P := Tryd.prog) Tryd.underlying25 Tryd.underlying5 Tryd.underlying9 hby _ rfl
      have cw := string_of (P := Tryd.prog) Tryd.underlying25 Tryd.underlying5 Tryd.underlying9 (HC.out.later HBY.out) _ HN.out
      clear hby
      go_wp2_with fail
      go_ret
      exact ⟨rfl, HBY.out⟩

end Fld
end Go.Proofs.YtamhimmggoifgaaDoor
