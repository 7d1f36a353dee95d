/-
  The program's Next of layer 3 (as landed in 3f6d5d6e).
-/
import Derived.Test.YtnmhkjgcfhcmpaaDoorFrmPk
import Derived.Test.YtnmhkjgcfhcmpaaDoorFrmPp
import Derived.Test.YtnmhkjgcfhcmpaaDoorFrmD
namespace Go.Proofs.YtnmhkjgcfhcmpaaDoor
open Go.RowKit
namespace Frm
open Num

theorem OwnG.safe {e : TypeId} {w : World} {base n cap b : Nat} {a : Option Addr} {l : List UInt8} (h : OwnG e w base (.slice a n cap) l) : Safe e b w a := by
  rcases h with ⟨h, _⟩ | ⟨g, cap', cur, fz, hv, _, hg, _⟩
  · injection h with h1
    subst h1
    exact Safe.nil _ _ _
  · injection hv with h1
    subst h1
    intro x hx
    obtain rfl := Option.some.inj hx
    exact .inr ⟨cur, fz, hg⟩

set_option maxRecDepth 100000 in
set_option maxHeartbeats 2000000 in
theorem next_any (a : Option Addr) (cap : Nat) (b : List UInt8) (w : World) (hby : BytesAt w a cap b) (hlen : b.length ≤ 1000000) (hl : Laid w) :
    Calls Tryd.prog 14 #[.slice a b.length cap] w (GotNext w a (nextY b)) := by
  have HF := Lib.hid hby
  have HL := Lib.hid hl
  have hcap := hby.cap
  clear hby hl
  have HJN := Lib.hid (fun W h hne hl => junk_any a cap b W h hlen hne hl)
  go_enter Tryd.func14, Tryd.ntmps14
  go_wp2_with fail
  refine (header_any a cap b _ HF.out hlen HL.out).mono ?_
  rintro e w1 ⟨k, h, n, rfl, hk, hb1⟩
  have HB1 := Lib.hid hb1
  clear hb1
  rcases hk with ⟨rfl, rfl, rfl, hn⟩ | ⟨rfl, rfl, rfl, hne, hn⟩ | ⟨rfl, p, m, rfl, rfl, m0, m8, p17, hpb, hp, hne, hn⟩
  · have HN := Lib.hid hn
    clear hn
    go_wp2_with fail
    go_ret3
    rw [HN.out]
    exact GotNext.nil HB1.out 0 0
  · have HN := Lib.hid hn
    have HNE := Lib.hid hne
    clear hn hne
    go_wp2_with fail
    refine (HJN.out _ (HF.out.later HB1.out) HNE.out (HL.out.below HB1.out)).mono ?_
    rintro e w2 ⟨rfl, hb2⟩
    have HB2 := Lib.hid (HB1.out.trans (hb2.mono HB1.out.size))
    clear hb2
    go_wp2_with fail
    go_ret3
    rw [HN.out]
    exact GotNext.nil HB2.out 2 (junkN b)
  · have HNE := Lib.hid hne
    have HP := Lib.hid hp
    clear hne hp
    by_cases hfew : b.length < p + m + 7
    · have HN : Hid (nextY b = (0, [], 0)) := Lib.hid (by rw [hn, if_pos hfew])
      have d1 : decide ((b.length : Int) - p < (m : Int) + 7) = true := decide_eq_true (by omega)
      clear hn
      go_wp2_with fail
      go_ret3
      rw [HN.out]
      exact GotNext.nil HB1.out 0 0
    · rw [if_neg hfew] at hn
      have d1 : decide ((b.length : Int) - p < (m : Int) + 7) = false := decide_eq_false (by omega)
      have HFT := Lib.hid (fun h => frame_there (b := b) m0 (by omega) HP.out h)
      have HBL : Hid (((b.drop p).take m).length = m) := Lib.hid (by rw [List.length_take, List.length_drop]; omega)
      have HNX := Lib.hid hn
      obtain ⟨bb, off, rfl, _⟩ := HF.out.at (by omega)
      have HY : Hid (∀ W, Below w.heap.size w W → BytesAt W (some ⟨bb, off + p, none⟩) (cap - p) ((b.drop p).take m)) := Lib.hid (fun W hW => by
        have h := ((HF.out.later hW).drop p hpb).take m
        rwa [add_none] at h)
      obtain ⟨y, hy⟩ : ∃ y, (b.drop p).take m = y := ⟨_, rfl⟩
      rw [hy] at HFT HBL HNX HY
      have hpc : ¬ p = cap := by omega
      have hpm : p + m ≤ cap := by omega
      have hpm7 : p + m + 7 ≤ b.length := by omega
      have HPUT := Lib.hid (fun W h hl => put_any (some ⟨bb, off + p, none⟩) (cap - p) y W h (by rw [HBL.out]; omega) hl)
      rw [HBL.out] at HPUT
      clear hn hy hfew HP
      go_wp2_with fail
      refine (HPUT.out _ (HY.out _ HB1.out) (HL.out.below HB1.out)).mono ?_
      obtain ⟨pe, hpe⟩ : ∃ pe, putE y = pe := ⟨_, rfl⟩
      obtain ⟨pb, hpb2⟩ : ∃ pb, putB y = pb := ⟨_, rfl⟩
      rw [hpe, hpb2] at HFT HNX ⊢
      clear hpe hpb2
      rintro e w2 ⟨⟨v, rfl, ho⟩, hb2⟩
      obtain ⟨a2, c2, rfl, hby2⟩ := ho.bytes
      have HB2 := Lib.hid (HB1.out.trans (hb2.mono HB1.out.size))
      have HY2 := Lib.hid hby2
      clear ho hb2 hby2 HPUT
      cases dpe : (pe != 0)
      · have hpe0 : pe = 0 := bne_eq_false_iff_eq.1 dpe
        subst hpe0
        have ⟨hlw, hiff⟩ := HFT.out rfl
        rw [hlw]
        have HLW := Lib.hid hlw
        obtain ⟨b2, o2, rfl, _⟩ := HY2.out.at (by omega)
        have HPX := Lib.hid (fun W h1 h2 => by_HasPrefix bb off cap b2 o2 c2 b pb b.length (p + m + 7) rfl hlw W h1 h2)
        cases hpre : pb.isPrefixOf b
        · rw [hpre] at HPX
          have HN : Hid (nextY b = (2, [], junkN b)) := Lib.hid (by rw [HNX.out, if_neg (fun h => by rw [hiff] at h; rw [h.2] at hpre; cases hpre)])
          clear hiff hpre hlw
          go_wp2_with fail
          refine (HPX.out _ (HF.out.later HB2.out) HY2.out).mono ?_
          rintro e w3 ⟨rfl, rfl⟩
          go_wp2_with fail
          refine (HJN.out _ (HF.out.later HB2.out) HNE.out (HL.out.below HB2.out)).mono ?_
          rintro e w4 ⟨rfl, hb4⟩
          have HB4 := Lib.hid (HB2.out.trans (hb4.mono HB2.out.size))
          clear hb4
          go_wp2_with fail
          go_ret3
          rw [HN.out]
          exact GotNext.nil HB4.out 2 (junkN b)
        · rw [hpre] at HPX
          have HN : Hid (nextY b = (1, y, p + m + 7)) := Lib.hid (by rw [HNX.out, if_pos ⟨rfl, hiff.2 hpre⟩])
          have HCL := Lib.hid (fun W h => by_Clone (some ⟨bb, off + p, none⟩) (cap - p) y m HBL.out W h (by omega) (by omega))
          clear hiff hpre hlw
          go_wp2_with fail
          refine (HPX.out _ (HF.out.later HB2.out) HY2.out).mono ?_
          rintro e w3 ⟨rfl, rfl⟩
          go_wp2_with fail
          refine (HCL.out _ (HY.out _ HB2.out)).mono ?_
          rintro e w4 ⟨v, rfl, ho4, hb4⟩
          have HB4 := Lib.hid (HB2.out.trans (hb4.mono HB2.out.size))
          obtain ⟨a4, c4, rfl, hby4⟩ := ho4.bytes
          have HO4 := Lib.hid ho4
          have HY4 := Lib.hid hby4
          clear hb4 ho4 hby4
          go_wp2_with fail
          go_ret3
          rw [HN.out]
          exact ⟨a4, c4, by first | rfl | (simp only [Nat.cast_add, Int.natCast_add]; rfl), HY4.out, fun _ _ _ => OwnG.safe HO4.out, HB4.out⟩
      · have HN : Hid (nextY b = (2, [], junkN b)) := Lib.hid (by rw [HNX.out, if_neg (fun h => by rw [h.1] at dpe; cases dpe)])
        clear HFT
        go_wp2_with fail
        refine (HJN.out _ (HF.out.later HB2.out) HNE.out (HL.out.below HB2.out)).mono ?_
        rintro e w4 ⟨rfl, hb4⟩
        have HB4 := Lib.hid (HB2.out.trans (hb4.mono HB2.out.size))
        clear hb4
        go_wp2_with fail
        go_ret3
        rw [HN.out]
        exact GotNext.nil HB4.out 2 (junkN b)

end Frm
end Go.Proofs.YtnmhkjgcfhcmpaaDoor
