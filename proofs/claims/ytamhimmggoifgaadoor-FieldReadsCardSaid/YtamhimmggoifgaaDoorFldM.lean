/-
  The walks of layer 2's laws: FieldReads, FieldCuts.
-/
import Derived.Test.YtamhimmggoifgaaDoorFldL
namespace Go.Proofs.YtamhimmggoifgaaDoor
open Go.RowKit
namespace Fld

/-- bytes out of what the frame finds of them -/
theorem IsRow.bytes {w : World} {a : Option Addr} {len cap : Nat} {z : List Int} (h : IsRow .u8 w a len cap z) : ∃ l : List UInt8, l.length = len ∧ len ≤ maxLen ∧ BytesAt w a cap l := by
  obtain ⟨h1, h2, h3, h4⟩ := h
  refine ⟨z.map fun n => UInt8.ofNat n.toNat, by rw [List.length_map, h1], h2, ?_⟩
  rcases h3 with ⟨rfl, rfl, rfl⟩ | ⟨x, rfl, hl, hc⟩
  · exact .inl ⟨rfl, rfl, rfl⟩
  · refine .inr ⟨x, rfl, by rw [List.length_map]; exact hl, fun i hi => ?_⟩
    rw [List.length_map] at hi
    rw [hc i hi, List.getElem_map]
    have hw := h4 z[i] (List.getElem_mem hi)
    have hb : 0 ≤ z[i] ∧ z[i] ≤ 255 := by
      have := bounds_u8 hw
      exact this
    rw [List.getD_eq_getElem?_getD, List.getElem?_eq_getElem hi]
    refine congrArg (fun n => some (Value.int .u8 n)) ?_
    show z[i] = _
    rw [UInt8.toNat_ofNat']
    omega

set_option maxHeartbeats 1000000 in
theorem law_FieldReads (a : Option Addr) (len cap : Nat) (z : List Int) (w : World) (hr : IsRow .u8 w a len cap z) (hl : Laid w) :
    Calls Tryd.prog 4 #[.slice a len cap] w fun e w' => e = .returned (.bool true) ∧ Below w.heap.size w w' := by
  obtain ⟨l, rfl, hm, hi⟩ := IsRow.bytes hr
  have hcap := hi.cap
  unfold maxLen at hm
  obtain ⟨t, ht⟩ : ∃ t, l.take 5000 = t := ⟨_, rfl⟩
  have HI : Hid (BytesAt w a cap t) := Lib.hid (by rw [← ht]; exact hi.take 5000)
  have HT : Hid (t.length ≤ 5000) := Lib.hid (by rw [← ht, List.length_take]; omega)
  have HN : Hid (t.length = (min (l.length : Int) 5000).toNat) := Lib.hid (by rw [← ht, List.length_take]; omega)
  have H0 : Hid (l = [] → t.length = (min (0 : Int) 5000).toNat) := Lib.hid (by rintro rfl; rw [← ht]; rfl)
  have HL := Lib.hid hl
  clear ht hr hl
  rcases hi with ⟨rfl, rfl, rfl⟩ | ⟨x, rfl, _, _⟩
  all_goals
    go_enter Tryd.func4, Tryd.ntmps4
    go_wp2_with fail
    refine (awake_any _ HL.out).mono ?_
    rintro e w1 ⟨rfl, hb1⟩
    have HB1 := Lib.hid hb1
    clear hb1
    go_wp2_with fail
    refine (parse_is _ _ _ t _ (by first | exact HN.out | exact H0.out rfl) (HI.out.later HB1.out) (by have := HT.out; omega) (HL.out.below HB1.out) _ _ rfl).mono ?_
    intro e w2 hg
    obtain ⟨⟨a2, c2, rfl, hp⟩, hbel⟩ := hg
    have HB2 := Lib.hid (HB1.out.trans (hbel.mono HB1.out.size))
    have HP := Lib.hid hp
    clear hp hbel
    go_wp2_with fail
    refine (rparse_is _ _ _ t _ (by first | exact HN.out | exact H0.out rfl) (HI.out.later HB2.out) (by have := HT.out; omega) _ _ rfl).mono ?_
    intro e w3 hg
    obtain ⟨⟨a3, c3, rfl, hq⟩, hbel⟩ := hg
    have HB3 := Lib.hid (HB2.out.trans (hbel.mono HB2.out.size))
    have HP3 := Lib.hid (HP.out.later hbel)
    have HQ := Lib.hid hq
    clear hq hbel
    have HFL : Hid ((parseL t).1.length ≤ 9223372036854775807) := Lib.hid (by have := parse_len t; omega)
    go_wp2_with fail
    refine (rsame_true _ _ _ _ _ _ HP3.out.flds HQ.out.flds HFL.out HFL.out).mono ?_
    rintro e w4 ⟨rfl, hbel⟩
    have HB4 := Lib.hid (HB3.out.trans (hbel.mono HB3.out.size))
    clear hbel
    go_wp2_with fail
    go_ret
    exact ⟨rfl, HB4.out⟩

theorem rsame_two (a : Option Addr) (cap n : Nat) (x : List F) (b : Option Addr) (cap2 m : Nat) (w : World) (hn : x.length = n) (hm : x.length = m) (hx : Flds w a x) (hy : Flds w b x) (hl : x.length ≤ 9223372036854775807) :
    Calls Tryd.prog 19 #[.slice a n cap, .slice b m cap2] w fun e w' => e = .returned (.bool true) ∧ Below w.heap.size w w' := by
  subst hn
  rw [← hm]
  exact rsame_true a cap x b cap2 w hx hy hl hl

set_option maxHeartbeats 1000000 in
theorem law_FieldCuts (a : Option Addr) (len cap : Nat) (l : List F) (cut : Int) (w : World) (hr : IsFlds w a len cap l) (hc : (Lit.int .u16 cut).wf = true) (hl : Laid w) :
    Calls Tryd.prog 6 #[.slice a len cap, .int .u16 cut] w fun e w' => e = .returned (.bool true) ∧ Below w.heap.size w w' := by
  obtain ⟨rfl, hm, hrow, hfit⟩ := hr
  unfold maxLen at hm
  have ⟨q0, q1⟩ : 0 ≤ cut ∧ cut ≤ 65535 := bounds_u16 hc
  have hcap : l.length ≤ cap := by rcases hrow with ⟨_, rfl, _⟩ | ⟨_, _, h, _⟩; exact Nat.zero_le _; exact h
  have HR := Lib.hid hrow
  have HI := Lib.hid hfit
  have HL := Lib.hid hl
  clear hrow hfit hl hc
  by_cases h50 : 50 < l.length
  · go_enter Tryd.func6, Tryd.ntmps6
    go_wp2_with fail
    refine (awake_any _ HL.out).mono ?_
    rintro e w1 ⟨rfl, hb1⟩
    have HB1 := Lib.hid hb1
    clear hb1
    go_wp2_with fail
    go_ret
    exact ⟨rfl, HB1.out⟩
  · go_enter Tryd.func6, Tryd.ntmps6
    go_wp2_with fail
    refine (awake_any _ HL.out).mono ?_
    rintro e w1 ⟨rfl, hb1⟩
    have HB1 := Lib.hid hb1
    clear hb1
    go_wp2_with fail
    refine (rshort_any _ _ l _ (HR.out.later HB1.out).flds (by omega) fun f hf => (HI.out f hf).2.2).mono ?_
    rintro e w' ⟨rfl, rfl⟩
    cases hs : shortB l
    · go_wp2_with fail
      go_ret
      exact ⟨rfl, HB1.out⟩
    · by_cases h0 : putE l = 0
      · have HG := Lib.hid (putE_ok h0)
        obtain ⟨b, hb⟩ : ∃ b, bytesL l = b := ⟨_, rfl⟩
        have HBB := Lib.hid hb
        have hbl : b.length ≤ 13100 := by have := len_bytesL HG.out.2; rw [hb] at this; omega
        have HPB : Hid (putB l = b) := Lib.hid (by unfold putB; rw [if_pos h0, hb])
        have HP0 := Lib.hid h0
        clear hb h0
        go_wp2_with fail
        refine (put_is _ _ _ l _ rfl (HR.out.later HB1.out).flds HI.out (by omega) (HL.out.below HB1.out) _ _ HPB.out HP0.out).mono ?_
        intro e w2 hg
        obtain ⟨⟨a2, c2, rfl, hby⟩, hbel⟩ := hg
        have HB2 := Lib.hid (HB1.out.trans (hbel.mono HB1.out.size))
        have HP := Lib.hid hby
        have hcap2 := hby.cap
        clear hby hbel
        obtain ⟨k, hk, hkl⟩ : ∃ k : Nat, cut % ((b.length : Int) + 1) = (k : Int) ∧ k ≤ b.length := by
          have h1 := Int.emod_nonneg cut (show (b.length : Int) + 1 ≠ 0 by omega)
          have h2 := Int.emod_lt_of_pos cut (show 0 < (b.length : Int) + 1 by omega)
          exact ⟨(cut % ((b.length : Int) + 1)).toNat, by omega, by omega⟩
        have hk2 : k ≤ c2 := by omega
        have HPK : Hid (BytesAt w2 a2 c2 (b.take k)) := Lib.hid (HP.out.take k)
        have HLK : Hid ((b.take k).length = k) := Lib.hid (by rw [List.length_take]; omega)
        have HCUT : Hid (parseL (b.take k) = if k = 0 ∨ b[k - 1]? = some 1 then (l.take (ones (b.take k)), 0) else ([], 2)) := Lib.hid (by
          have h := cut_parse HG.out.2 (by omega) (k := k) (by rw [HBB.out]; exact hkl)
          rw [HBB.out] at h; exact h)
        have HON : Hid (∀ j, ones (b.take j) ≤ l.length) := Lib.hid fun j => by
          have h1 := ones_take_le b j
          have h2 := ones_all HG.out.2
          rw [HBB.out] at h2
          omega
        obtain ⟨pl, pe, hpq⟩ : ∃ pl pe, parseL (b.take k) = (pl, pe) := ⟨_, _, rfl⟩
        rw [hpq] at HCUT
        have HPQ := Lib.hid hpq
        clear hpq
        go_wp2_with fail
        refine (parse_is _ _ _ (b.take k) _ HLK.out HPK.out (by rw [HLK.out]; omega) (HL.out.below HB2.out) _ _ HPQ.out).mono ?_
        intro e w3 hg
        obtain ⟨⟨a3, c3, rfl, hpp⟩, hbel⟩ := hg
        have HB3 := Lib.hid (HB2.out.trans (hbel.mono HB2.out.size))
        have HP3 := Lib.hid (HP.out.later hbel)
        have HS := Lib.hid hpp
        clear hpp hbel
        go_wp2_with fail
        go_loop [10, 11] (fun n_ i_ => ∃ i : Nat, i ≤ k ∧ i_ = .int .i64 i ∧ n_ = .int .i64 (ones (b.take i))) (fun _ i_ => k - (intOf i_).toNat)
        case atStart => exact ⟨0, Nat.zero_le _, rfl, by simp [ones]⟩
        case round =>
          obtain ⟨i, hik, rfl, rfl⟩ := hrel
          by_cases hlt : i < k
          · obtain ⟨bb, off, rfl, hcc⟩ := HP3.out.at (by omega)
            have c0 := hcc i (by omega)
            obtain ⟨c, hc⟩ : ∃ c, b[i] = c := ⟨_, rfl⟩
            rw [hc] at c0
            have HST := Lib.hid (ones_step b i (by omega))
            have hbound := HON.out i
            cases d : ((c.toNat : Int) == 1)
            · have hq : ¬ b[i] = 1 := by
                rw [hc]
                rintro rfl
                exact absurd d (by decide)
              have HE : Hid (ones (b.take (i + 1)) = ones (b.take i)) := Lib.hid (by rw [HST.out, if_neg hq]; rfl)
              clear hq hc hcc
              go_wp2_with fail
              go_round
              case rel => exact ⟨i + 1, by omega, by go_num, by rw [HE.out]⟩
              case measure => simp [intOf]; omega
            · have hq : b[i] = 1 := by rw [hc]; exact UInt8.toNat_inj.1 (by have := beq_iff_eq.1 d; show c.toNat = 1; omega)
              have HE : Hid (ones (b.take (i + 1)) = ones (b.take i) + 1) := Lib.hid (by rw [HST.out, if_pos hq])
              clear hq hc hcc
              go_wp2_with fail
              go_round
              case rel => exact ⟨i + 1, by omega, by go_num, by rw [HE.out]; go_num⟩
              case measure => simp [intOf]; omega
          · obtain rfl : i = k := by omega
            have hn := HON.out i
            obtain ⟨n, hnn⟩ : ∃ n, ones (b.take i) = n := ⟨_, rfl⟩
            rw [hnn] at hn
            simp only [hnn] at HCUT ⊢
            clear hnn
            obtain ⟨t, ht⟩ : ∃ t, l.take n = t := ⟨_, rfl⟩
            have HTL : Hid (t.length = n) := Lib.hid (by rw [← ht, List.length_take]; omega)
            have HRT : Hid (RowAt encF w a cap t) := Lib.hid (by rw [← ht]; exact HR.out.take n)
            rw [ht] at HCUT
            clear ht
            by_cases h0 : i = 0
            · subst h0
              have ⟨e1, e2⟩ : pl = t ∧ pe = 0 := by
                have h := HCUT.out
                rw [if_pos (.inl rfl)] at h
                injection h with h1 h2
                exact ⟨h1, h2⟩
              subst e1 e2
              go_wp2_with fail
              refine (rsame_two _ _ _ pl _ _ _ _ rfl HTL.out HS.out.flds (HRT.out.later HB3.out).flds (by rw [HTL.out]; omega)).mono ?_
              rintro e w4 ⟨rfl, hbel⟩
              have HB4 := Lib.hid (HB3.out.trans (hbel.mono HB3.out.size))
              clear hbel
              go_wp2_with fail
              go_ret
              exact ⟨rfl, HB4.out⟩
            · obtain ⟨m, rfl⟩ : ∃ m, i = m + 1 := ⟨i - 1, by omega⟩
              obtain ⟨bb, off, rfl, hcc⟩ := HP3.out.at (by omega)
              have c0 := hcc m (by omega)
              obtain ⟨c, hc⟩ : ∃ c, b[m] = c := ⟨_, rfl⟩
              rw [hc] at c0
              have HX : Hid (b[m + 1 - 1]? = some c) := Lib.hid (by rw [Nat.add_sub_cancel, List.getElem?_eq_getElem (by omega), hc])
              clear hcc hc
              cases d : ((c.toNat : Int) == 1)
              · have hq : ¬ (m + 1 = 0 ∨ b[m + 1 - 1]? = some 1) := by
                  rw [HX.out]
                  rintro (h | h)
                  · omega
                  · rw [Option.some.inj h] at d; exact absurd d (by decide)
                have ⟨e1, e2⟩ : pl = [] ∧ pe = 2 := by
                  have h := HCUT.out
                  rw [if_neg hq] at h
                  injection h with h1 h2
                  exact ⟨h1, h2⟩
                clear hq
                subst e1 e2
                go_wp2_with fail
                go_ret
                exact ⟨rfl, HB3.out⟩
              · have hq : (m + 1 = 0 ∨ b[m + 1 - 1]? = some 1) := by
                  rw [HX.out]
                  exact .inr (congrArg some (UInt8.toNat_inj.1 (by have := beq_iff_eq.1 d; show c.toNat = 1; omega)))
                have ⟨e1, e2⟩ : pl = t ∧ pe = 0 := by
                  have h := HCUT.out
                  rw [if_pos hq] at h
                  injection h with h1 h2
                  exact ⟨h1, h2⟩
                clear hq
                subst e1 e2
                go_wp2_with fail
                refine (rsame_two _ _ _ pl _ _ _ _ rfl HTL.out HS.out.flds (HRT.out.later HB3.out).flds (by rw [HTL.out]; omega)).mono ?_
                rintro e w4 ⟨rfl, hbel⟩
                have HB4 := Lib.hid (HB3.out.trans (hbel.mono HB3.out.size))
                clear hbel
                go_wp2_with fail
                go_ret
                exact ⟨rfl, HB4.out⟩
      · have HP0 : Hid (putB l = []) := Lib.hid (by unfold putB; rw [if_neg h0])
        have h0' : (putE l != 0) = true := by simpa using h0
        go_wp2_with fail
        refine (put_is _ _ _ l _ rfl (HR.out.later HB1.out).flds HI.out (by omega) (HL.out.below HB1.out) _ _ HP0.out rfl).mono ?_
        intro e w2 hg
        obtain ⟨⟨a2, c2, rfl, _⟩, hbel⟩ := hg
        have HB2 := Lib.hid (HB1.out.trans (hbel.mono HB1.out.size))
        clear hbel
        go_wp2_with fail
        go_ret
        exact ⟨rfl, HB2.out⟩

end Fld
end Go.Proofs.YtamhimmggoifgaaDoor
