/-
  The walk of layer 3's law FrameGoes.
-/
import Derived.Test.YtmgelpclnjkjkaaDoorFrmL
namespace Go.Proofs.YtmgelpclnjkjkaaDoor
open Go.RowKit
namespace Frm
open Num

def lenOf : Value → Nat | .slice _ n _ => n | _ => 0

set_option maxRecDepth 100000 in
set_option maxHeartbeats 2000000 in
theorem law_FrameGoes (a : Option Addr) (len cap : Nat) (z : List Int) (w : World) (hr : IsRow .u8 w a len cap z) (hl : Laid w) :
    Calls Tryd.prog 6 #[.slice a len cap] w fun e w' => e = .returned (.bool true) ∧ Below w.heap.size w w' := by
  obtain ⟨b, rfl, hm, hby⟩ := hr.bytes
  have hcap := hby.cap
  unfold maxLen at hm
  obtain ⟨t, ht⟩ : ∃ t, b.take 3000 = t := ⟨_, rfl⟩
  have HI : Hid (BytesAt w a cap t) := Lib.hid (by rw [← ht]; exact hby.take 3000)
  have ht3 : t.length ≤ 3000 := by rw [← ht, List.length_take]; omega
  have HTL : Hid (t.length = min b.length 3000) := Lib.hid (by rw [← ht, List.length_take, Nat.min_comm])
  have HL := Lib.hid hl
  clear ht hr hl
  go_enter Tryd.func6, Tryd.ntmps6
  go_upto_region 3 with fail
  refine (awake_any _ HL.out).mono ?_
  rintro e w1 ⟨rfl, hb1⟩
  have HB1 := Lib.hid hb1
  clear hb1
  go_upto_region 3 with fail
  go_cut [0] (fun s0 wx => s0 = .slice a t.length cap ∧ wx = w1)
  case first =>
    rcases hby with ⟨rfl, rfl, rfl⟩ | ⟨x, rfl, _, _⟩
    all_goals
      go_wp2_with fail
      all_goals
        go_meet
        refine ⟨?_, rfl⟩
        have h := HTL.out
        first
          | rfl
          | (rw [h]; simp only [List.length_nil]; rfl)
          | (rw [h]; congr 1; omega)
  case rest =>
    obtain ⟨rfl, rfl⟩ := hcut
    clear hby HTL
    go_wp2_with fail
    go_loopw [0, 4] (fun b_ i_ wr => ∃ (r : List UInt8) (ra : Option Addr) (rc i : Nat), b_ = .slice ra r.length rc ∧ i_ = .int .i64 i ∧ BytesAt w ra rc r ∧ r.length + i ≤ t.length ∧ Below w.heap.size w wr) (fun b_ _ _ => lenOf b_)
    case atStart => exact ⟨t, a, cap, 0, rfl, rfl, HI.out, Nat.le_refl _, HB1.out⟩
    case round =>
      obtain ⟨r, ra, rc, i, rfl, rfl, hr, hri, hbel⟩ := hrel
      have HR := Lib.hid hr
      have HB := Lib.hid hbel
      have hrc := hr.cap
      clear hr hbel
      obtain ⟨k, y, n, hn⟩ : ∃ k y n, nextY r = (k, y, n) := ⟨_, _, _, rfl⟩
      have hg := next_goes r
      rw [hn] at hg
      obtain ⟨hg1, hg2, hg3, hg4⟩ := hg
      simp only at hg1 hg2 hg3 hg4
      have HN := Lib.hid hn
      have HG4 := Lib.hid hg4
      clear hn hg4
      by_cases hk0 : k = 0
      · subst hk0
        obtain rfl : y = [] := hg3 (by decide)
        obtain rfl : n = 0 := hg2.2 rfl
        clear hg2 hg3
        go_wp2_with fail
        refine (next_is _ _ r _ rfl _ (HR.out.later HB.out) (by omega) (HL.out.below HB.out) _ HN.out).mono ?_
        rintro e w2 ⟨a2, c2, rfl, hb2, _, hbel⟩
        have HB2 := Lib.hid (HB.out.trans (hbel.mono HB.out.size))
        clear hb2 hbel
        go_wp2_with fail
        go_ret
        exact ⟨rfl, HB2.out⟩
      · have hn0 : n ≠ 0 := fun e => hk0 (hg2.1 e)
        have dn0 : ((n : Int) == 0) = false := beq_eq_false_iff_ne.2 (by omega)
        have dk0 : (k == 0) = false := beq_eq_false_iff_ne.2 hk0
        have dng : decide ((n : Int) < 0) = false := decide_eq_false (by omega)
        have dnl : decide ((r.length : Int) < (n : Int)) = false := decide_eq_false (by omega)
        obtain ⟨bb, off, rfl, _⟩ := HR.out.at (by omega)
        have HREST : Hid (BytesAt w (some ⟨bb, off + n, none⟩) (rc - n) (r.drop n)) := Lib.hid (by
          have h := HR.out.drop n hg1
          rwa [add_none] at h)
        have HRL : Hid ((r.drop n).length = r.length - n) := Lib.hid List.length_drop
        clear hg2
        by_cases hk1 : k = 1
        · subst hk1
          clear hg3 hk0
          obtain ⟨hp0, hp1⟩ := HG4.out rfl
          have HP0 := Lib.hid hp0
          have HP1 := Lib.hid hp1
          clear hp0 hp1
          have hy8 := (putE_ok HP0.out).2.1
          have htl : (r.take n).length = n := by rw [List.length_take]; omega
          obtain ⟨T, hT⟩ : ∃ T, r.take n = T := ⟨_, rfl⟩
          have HTK : Hid (∀ W, Below w.heap.size w W → BytesAt W (some ⟨bb, off, none⟩) rc T) := Lib.hid fun W hW => by rw [← hT]; exact (HR.out.later hW).take n
          rw [hT] at HP1 htl
          have HTL := Lib.hid htl
          clear hT htl
          obtain ⟨S, hS⟩ : ∃ S : ByteArray, (⟨T.toArray⟩ : ByteArray) = S := ⟨_, rfl⟩
          go_wp2_with fail
          refine (next_is _ _ r _ rfl _ (HR.out.later HB.out) (by omega) (HL.out.below HB.out) _ HN.out).mono ?_
          rintro e w2 ⟨a2, c2, rfl, hb2, _, hbel⟩
          have HB2 := Lib.hid (HB.out.trans (hbel.mono HB.out.size))
          have HY := Lib.hid hb2
          clear hb2 hbel
          go_wp2_with fail
          refine (put_is _ _ y _ rfl _ HY.out (by omega) (HL.out.below HB2.out) _ _ HP1.out HP0.out).mono ?_
          intro e w3 hg
          obtain ⟨⟨a3, c3, rfl, hb3⟩, hbel⟩ := hg.bytes
          have HB3 := Lib.hid (HB2.out.trans (hbel.mono HB2.out.size))
          have cv := fun q => string_of (P := Tryd.prog) Tryd.underlying22 Tryd.underlying5 Tryd.underlying9 (hb3.later (below_drew (Below.refl _ w3) q)) _ rfl
          have cw := fun q => string_of (P := Tryd.prog) Tryd.underlying22 Tryd.underlying5 Tryd.underlying9 (HTK.out _ (below_drew HB3.out q)) _ HTL.out
          rw [hS] at cv cw
          clear hb3 hbel hS hg
          go_wp2_with fail
          go_quiet (fail)
          go_wp2_with fail
          refine ⟨⟨r.drop n, _, _, i + 1, by rw [HRL.out], congrArg (Value.int .i64) (by omega), ?_, by rw [HRL.out]; omega, below_drew HB3.out _⟩, by simp only [lenOf]; omega⟩
          by_cases hcn : rc = n
          · rw [if_pos hcn]
            exact .inr ⟨_, rfl, by rw [HRL.out]; omega, fun i hi => by rw [HRL.out] at hi; omega⟩
          · rw [if_neg hcn]
            exact HREST.out
        · have dk1 : (k == 1) = false := beq_eq_false_iff_ne.2 hk1
          have dk2 : (k != 1) = true := by rw [bne, dk1]; rfl
          obtain rfl : y = [] := hg3 hk1
          clear hg3
          go_wp2_with fail
          refine (next_is _ _ r _ rfl _ (HR.out.later HB.out) (by omega) (HL.out.below HB.out) _ HN.out).mono ?_
          rintro e w2 ⟨a2, c2, rfl, hb2, _, hbel⟩
          have HB2 := Lib.hid (HB.out.trans (hbel.mono HB.out.size))
          clear hb2 hbel
          go_wp2_with fail
          refine ⟨⟨r.drop n, _, _, i + 1, by rw [HRL.out], congrArg (Value.int .i64) (by omega), ?_, by rw [HRL.out]; omega, HB2.out⟩, by simp only [lenOf]; omega⟩
          by_cases hcn : rc = n
          · rw [if_pos hcn]
            exact .inr ⟨_, rfl, by rw [HRL.out]; omega, fun i hi => by rw [HRL.out] at hi; omega⟩
          · rw [if_neg hcn]
            exact HREST.out

end Frm
end Go.Proofs.YtmgelpclnjkjkaaDoor
