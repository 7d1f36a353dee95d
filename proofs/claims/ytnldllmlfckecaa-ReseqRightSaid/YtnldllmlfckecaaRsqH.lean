/-
  The walk of layer 6's laws: ReseqHoles.
-/
import Derived.Test.YtnldllmlfckecaaRsqL
import Derived.Test.YtnldllmlfckecaaRsqR
import Derived.Test.YtnldllmlfckecaaOpenLn
import Derived.Deep.RegionHeld3
import Derived.Deep.CutBlock
import Derived.Deep.DeepCutAuto
import Derived.Deep.Cut
namespace Go.Proofs.Ytnldllmlfckecaa
open Go.RowKit
namespace Rsq
open Num
open Msg (I64)

attribute [local go_sem ↓] load_item
attribute [local go_sem] blkOf_ptr offOf_ptr

theorem drain_mem : ∀ {n : Int} {h : List It} {y : It}, y ∈ (drain n h).2.2 → y ∈ h
  | n, [], y, hy => by simp [drain] at hy
  | n, z :: r, y, hy => by
    unfold drain at hy
    split at hy
    · exact hy
    · split at hy
      · exact List.mem_cons_of_mem _ (drain_mem hy)
      · exact List.mem_cons_of_mem _ (drain_mem hy)
theorem come_mem {l : Li} {x y : It} (hy : y ∈ (come l x).1.held) : y ∈ l.held ∨ y = x := by
  unfold come at hy
  split at hy
  · exact .inl hy
  split at hy
  · exact .inl hy
  split at hy
  · split at hy
    · exact .inl hy
    · split at hy
      · exact .inl hy
      · rcases ins_mem.1 hy with h | h
        · exact .inr h
        · exact .inl h
  · exact .inl (drain_mem hy)
theorem right_h (c : Array Value) (l : Li) (a : Option Addr) (cap n : Nat) (hc : c = #[.int .i64 l.next, .slice a n cap]) (hn : l.held.length = n) (hn9 : n ≤ 100000000) (w : World) (hr : RowAt encI w a cap l.held) (hl : Laid w) (o : Bool) (ho : rightL l = o) :
    Calls Try.prog 14 #[.agg c] w fun e w' => e = .returned (.bool o) ∧ Below w.heap.size w w' := by
  subst hc ho
  exact right_any l a cap n hn hn9 w hr hl
theorem may_h (c : Array Value) (x : It) (hc : c = x.arr) (w : World) (hl : Laid w) (o : Bool) (ho : mayI x = o) : Calls Try.prog 12 #[.agg c] w fun e w' => e = .returned (.bool o) ∧ Below w.heap.size w w' := by
  subst hc ho
  exact may_any x w hl

set_option maxRecDepth 100000 in
set_option maxHeartbeats 8000000 in
theorem law_ReseqHoles (nx : Int) (a : Option Addr) (len cap : Nat) (zs : List It) (a1 : Option Addr) (len1 cap1 : Nat) (ys : List It) (w : World) (h0 : I64 nx ∧ IsIts w a len cap zs) (h1 : IsIts w a1 len1 cap1 ys) (hl : Laid w) :
    Calls Try.prog 5 #[.agg #[.int .i64 nx, .slice a len cap], .slice a1 len1 cap1] w fun e w' => e = .returned (.bool true) ∧ Below w.heap.size w w' := by
  obtain ⟨_, hzl, _, hzr, hzf⟩ := h0
  obtain ⟨hyl, hym, hyr, hyf⟩ := h1
  have hm1 : len1 ≤ 9223372036854775807 := by unfold maxLen at hym; omega
  have HZL := Lib.hid hzl
  have HZF := Lib.hid hzf
  have HYL := Lib.hid hyl
  have HYF := Lib.hid hyf
  have HYR := Lib.hid hyr
  have HL := Lib.hid hl
  obtain ⟨g, hg⟩ : ∃ g, w.heap.size = g := ⟨_, rfl⟩
  have HGE := Lib.hid hg
  have HG0 : Hid (LnAt (w.alloc (.cells #[.int .i64 nx, .slice a len cap] 24)) g nx a len cap) := Lib.hid (hg ▸ LnAt.made w nx a len cap)
  have hba : Below w.heap.size w (w.alloc (.cells #[.int .i64 nx, .slice a len cap] 24)) := (Below.refl _ _).alloc (Nat.le_refl _) _
  have HB0 : Hid (Below g w (w.alloc (.cells #[.int .i64 nx, .slice a len cap] 24))) := Lib.hid (hg ▸ hba)
  have HR0 := Lib.hid (hzr.later hba)
  have HLW : Hid (∀ W, Below g w W → Laid W ∧ RowAt encI W a1 cap1 ys ∧ Below w.heap.size w W) := Lib.hid fun W h => by
    have h : Below w.heap.size w W := HGE.out ▸ h
    exact ⟨HL.out.below h, HYR.out.later h, h⟩
  clear hzl hzr hzf hyl hym hyr hyf hl hba
  go_enter Try.func5, Try.ntmps5
  go_upto_region 1 with fail
  generalize w.alloc (.cells #[.int .i64 nx, .slice a len cap] 24) = w0 at HG0 HB0 HR0 ⊢
  clear hg
  go_wp2_with fail
  refine (awake6_any _ (HLW.out _ HB0.out).1).mono ?_
  rintro e w1 ⟨rfl, hb1⟩
  have hgs : g ≤ w0.heap.size := Nat.le_of_lt HG0.out.facts.2.2.2.2
  have HG1 := Lib.hid (HG0.out.later hb1)
  have HR1 := Lib.hid (HR0.out.later hb1)
  have HB1 := Lib.hid (HB0.out.trans (hb1.mono hgs))
  clear hb1 hgs HG0 HR0 HB0
  obtain ⟨z0, z1, f0, f1, s0⟩ := HG1.out.facts
  by_cases h80 : 80 < len
  · have q1 : decide ((80 : Int) < (len : Int)) = true := decide_eq_true (by omega)
    go_wp2_with fail
    go_ret
    exact ⟨rfl, (HLW.out _ HB1.out).2.2⟩
  have q1 : decide ((80 : Int) < (len : Int)) = false := decide_eq_false (by omega)
  obtain ⟨br, hbr⟩ : ∃ br, rightL ⟨nx, zs⟩ = br := ⟨_, rfl⟩
  have HBR := Lib.hid hbr
  clear hbr
  go_wp2_with fail
  refine (right_h _ ⟨nx, zs⟩ a cap len rfl HZL.out (by omega) _ HR1.out (HLW.out _ HB1.out).1 br HBR.out).mono ?_
  rintro e w2 ⟨rfl, hb2⟩
  have HG2 := Lib.hid (HG1.out.later hb2)
  have HR2 := Lib.hid (HR1.out.later hb2)
  have HB2 := Lib.hid (HB1.out.trans (hb2.mono (Nat.le_of_lt s0)))
  clear hb2 z0 z1 f0 f1 s0 HG1 HR1 HB1
  cases br
  · go_wp2_with fail
    go_ret
    exact ⟨rfl, (HLW.out _ HB2.out).2.2⟩
  obtain ⟨z0, z1, f0, f1, s0⟩ := HG2.out.facts
  go_wp2_with fail
  go_loopw [5, 6] (fun next_ i_ wr => ∃ (k : Nat) (l : Li) (a2 : Option Addr) (c2 : Nat), i_ = .int .i64 k ∧ k ≤ len1 ∧ next_ = .int .i64 l.next ∧ rightL l = true ∧ (∀ i ∈ l.held, i.Fits) ∧ LnAt wr g l.next a2 l.held.length c2 ∧ RowAt encI wr a2 c2 l.held ∧ Below g w wr) (fun _ i_ _ => len1 - (intOf i_).toNat)
  case atStart => exact ⟨0, ⟨nx, zs⟩, a, cap, rfl, Nat.zero_le _, rfl, HBR.out, HZF.out, by rw [HZL.out]; exact HG2.out, HR2.out, HB2.out⟩
  case round =>
    obtain ⟨k, l, a2, c2, rfl, hk, rfl, hri, hfi, hln, hrow, hbel⟩ := hrel
    have HRI := Lib.hid hri
    have HFI := Lib.hid hfi
    have HG := Lib.hid hln
    have HR := Lib.hid hrow
    have HB := Lib.hid hbel
    clear hri hfi hln hrow hbel z0 z1 f0 f1 s0
    obtain ⟨z0, z1, f0, f1, s0⟩ := HG.out.facts
    obtain ⟨lq, hlq⟩ : ∃ q, l.held.length = q := ⟨_, rfl⟩
    rw [hlq] at z1
    have HLQ := Lib.hid hlq
    have hl64 : lq ≤ 64 := by rw [← hlq]; exact ((right_iff l).1 HRI.out).2.2.1
    clear hlq
    by_cases hlt : k < len1
    · by_cases h200 : k < 200
      · have q2 : decide ((k : Int) < 200) = true := decide_eq_true (by omega)
        obtain ⟨x, hx⟩ : ∃ x, ys[k]? = some x := ⟨ys[k]'(by rw [HYL.out]; exact hlt), List.getElem?_eq_getElem _⟩
        obtain ⟨bb, off, rfl, _⟩ := (HLW.out _ HB.out).2.1.at (by rw [HYL.out]; omega) (by decide)
        have hcap : len1 ≤ cap1 := by
          rcases (HLW.out _ HB.out).2.1 with ⟨h, _⟩ | ⟨_, _, h, _⟩
          · cases h
          · rwa [HYL.out] at h
        obtain ⟨XA, hXA⟩ : ∃ c, x.arr = c := ⟨_, rfl⟩
        have HXF : Hid (x.Fits) := Lib.hid (HYF.out x (List.mem_of_getElem? hx))
        have HXA := Lib.hid hXA.symm
        have hiX : (Try.prog.info? 30).map (·.size) = some XA.size := by rw [← hXA]; kernel_rfl
        have HXR : Hid (∀ W, Below g w W → W.rangeAt bb (off + k * 20) XA.toList) := Lib.hid fun W h => hXA ▸ item_at (HLW.out W h).2.1 hx
        have HXK : Hid (∀ W, Below wr.heap.size wr W → W.cell? ⟨g, 0, none⟩ = some (.int .i64 l.next) ∧ W.cell? ⟨g, 1, none⟩ = some (.slice a2 lq c2) ∧ CellsOk W bb (off + k * 20) 20 ∧ cellsAt W bb (off + k * 20) 20 = XA) := Lib.hid fun W hW => by
          have hw : Below g w W := HB.out.trans (hW.mono (Nat.le_of_lt s0))
          have ⟨z0, z1, _⟩ := (HG.out.later hW).facts
          rw [HLQ.out] at z1
          have hr := item_at (HLW.out W hw).2.1 hx
          have ⟨g1, g2⟩ := CellsOk.of hr
          exact ⟨z0, z1, g1, by have g3 : cellsAt W bb (off + k * 20) 20 = x.arr := g2; rw [g3, HXA.out]⟩
        obtain ⟨⟨m, out, kk⟩, hcm⟩ : ∃ r, come l x = r := ⟨_, rfl⟩
        have hst := come_step HRI.out x
        have hmf : ∀ i ∈ m.held, i.Fits := fun i hi => by
          rcases come_mem (l := l) (x := x) (by rw [hcm]; exact hi) with h | h
          · exact HFI.out i h
          · rw [h]; exact HXF.out
        have hol := come_len HRI.out x
        rw [hcm] at hst hol
        obtain ⟨mq, hmq⟩ : ∃ q, m.held.length = q := ⟨_, rfl⟩
        obtain ⟨oq, hoq⟩ : ∃ q, out.length = q := ⟨_, rfl⟩
        have HCO := Lib.hid hcm
        have HST := Lib.hid hst
        have HMF := Lib.hid hmf
        have HMQ := Lib.hid hmq
        have HOQ := Lib.hid hoq
        have ho65 : oq ≤ 65 := by rw [← hoq]; have := HLQ.out; simp only at hol; omega
        have hm64 : mq ≤ 64 := by rw [← hmq]; exact ((right_iff m).1 hst.1).2.2.1
        clear hx hXA hcm hst hmf hol hmq hoq
        go_upto_region 9 with fail
        go_cut [7, 8, 9] (fun s7 s8 s9 wx => ∃ p a' c' b' d', s7 = .pointer (some ⟨p, 0, none⟩) ∧ s8 = .slice b' oq d' ∧ s9 = .int .i64 kk ∧ g < p ∧ LnAt wx p m.next a' mq c' ∧ RowAt encI wx a' c' m.held ∧ RowAt encI wx b' d' out ∧ Below wr.heap.size wr wx)
        case first =>
          have hb0 : Below wr.heap.size wr wr.drew := (Below.refl _ _).drew
          have hgw := Nat.le_of_lt s0
          have HCL : Hid (∀ W, Below wr.heap.size wr W → Calls Try.prog 8 #[.agg #[.int .i64 l.next, .slice a2 lq c2], .agg XA] W fun e w' => ∃ a' c' b' d', e = .returned (.tuple #[.agg #[.int .i64 m.next, .slice a' mq c'], .slice b' oq d', .int .i64 kk]) ∧ RowAt encI w' a' c' m.held ∧ RowAt encI w' b' d' out ∧ Below W.heap.size W w') := Lib.hid fun W hW =>
            come_is _ _ l x a2 c2 lq rfl HXA.out HLQ.out (by omega) W (HR.out.later hW) (HLW.out W (HB.out.trans (hW.mono hgw))).1 m out kk mq oq HCO.out HMQ.out HOQ.out
          refine wp_region_held_drew (S := (fun w' => Below wr.heap.size wr w' ∧ w'.cell? ⟨g, 0, none⟩ = some (.int .i64 l.next) ∧ w'.cell? ⟨g, 1, none⟩ = some (.slice a2 lq c2) ∧ CellsOk w' bb (off + k * 20) 20 ∧ cellsAt w' bb (off + k * 20) 20 = XA)) (by kernel_rfl) ?hs0 (fun hHeld => ?_)
          case hs0 => exact ⟨hb0, HXK.out _ hb0⟩
          refine' wpAnyH_take (i := 0) (oi := _) (v := _) rfl (by kernel_rfl) (by kernel_rfl) (by kernel_rfl) (fun _ _ _ h => h) (Or.inl ⟨by rfl, ?hy⟩) (by assumption) ?_
          case hy => (intro w hSw; (try dsimp only at hSw); (try simp only [List.getElem_toArray, List.getElem_cons_zero]); go_simp; try with_reducible rfl)
          try simp only [List.getElem_toArray, List.getElem_cons_zero, Act.put, List.setIfInBounds_toArray, List.set_cons_zero, List.set_cons_succ]
          refine' wpAnyH_take (i := 1) (oi := _) (v := _) rfl (by kernel_rfl) (by kernel_rfl) (by kernel_rfl) (fun _ _ _ h => h) (Or.inl ⟨by rfl, ?hy⟩) (by assumption) ?_
          case hy => (intro w hSw; (try dsimp only at hSw); (try simp only [List.getElem_toArray, List.getElem_cons_zero, List.getElem_cons_succ]); go_simp; try with_reducible rfl)
          try simp only [List.getElem_toArray, List.getElem_cons_zero, List.getElem_cons_succ, Act.put, List.setIfInBounds_toArray, List.set_cons_zero, List.set_cons_succ]
          refine' wpAnyH_take (i := 2) (oi := _) (v := _) rfl (by kernel_rfl) (by kernel_rfl) (by kernel_rfl) (fun _ _ _ h => h) (Or.inl ⟨by rfl, ?hy⟩) (by assumption) ?_
          case hy => (intro w hSw; (try dsimp only at hSw); (try simp only [List.getElem_toArray, List.getElem_cons_zero, List.getElem_cons_succ]); go_simp; try with_reducible rfl)
          try simp only [List.getElem_toArray, List.getElem_cons_zero, List.getElem_cons_succ, Act.put, List.setIfInBounds_toArray, List.set_cons_zero, List.set_cons_succ]
          refine' wpAnyH_take (i := 3) (oi := _) (v := _) rfl (by kernel_rfl) (by kernel_rfl) (by kernel_rfl) (fun _ _ _ h => h) (Or.inl ⟨by rfl, ?hy⟩) (by assumption) ?_
          case hy => (intro w hSw; (try dsimp only at hSw); (try simp only [List.getElem_toArray, List.getElem_cons_zero, List.getElem_cons_succ]); go_simp; try with_reducible rfl)
          try simp only [List.getElem_toArray, List.getElem_cons_zero, List.getElem_cons_succ, Act.put, List.setIfInBounds_toArray, List.set_cons_zero, List.set_cons_succ]
          refine' wpAnyH_take (i := 4) (oi := _) (v := _) rfl (by kernel_rfl) (by kernel_rfl) (by kernel_rfl) (fun _ _ _ h => h) (Or.inl ⟨by rfl, ?hy⟩) (by assumption) ?_
          case hy => (intro w hSw; (try dsimp only at hSw); (try simp only [List.getElem_toArray, List.getElem_cons_zero, List.getElem_cons_succ]); go_simp; try with_reducible rfl)
          try simp only [List.getElem_toArray, List.getElem_cons_zero, List.getElem_cons_succ, Act.put, List.setIfInBounds_toArray, List.set_cons_zero, List.set_cons_succ]
          refine wpAnyH_ready (rs := [5, 10]) (by kernel_rfl) (by simp) ?_
          refine AllReadyH.cons (o := _) rfl (fun K hK => ?_) (AllReadyH.cons (o := _) rfl (fun K hK => ?_) AllReadyH.nil)
          · try simp only [List.getElem_toArray, List.getElem_cons_zero, List.getElem_cons_succ, Act.put, List.setIfInBounds_toArray, List.set_cons_zero, List.set_cons_succ]
            go_simp
            refine (HCL.out _ hb0).mono ?_
            rintro e w6 ⟨a', c', b', d', rfl, hm6, ho6, hb6⟩
            have hb7 : Below wr.heap.size wr w6 := hb0.trans (hb6.mono (Nat.le_refl _))
            go_wp2_with fail
            refine hK.out _ _ ?hs1 (fun hHeld => ?_)
            case hs1 => exact ⟨hb7, HXK.out _ hb7⟩
            clear hK K
            try simp only [List.getElem_toArray, List.getElem_cons_zero, List.getElem_cons_succ, Act.put, List.setIfInBounds_toArray, List.set_cons_zero, List.set_cons_succ]
            refine' wpAnyH_take (i := 6) (oi := _) (v := _) rfl (by kernel_rfl) (by kernel_rfl) (by kernel_rfl) (fun _ _ _ h => h) (Or.inl ⟨by rfl, ?hy⟩) (by assumption) ?_
            case hy => (intro w hSw; (try dsimp only at hSw); (try simp only [List.getElem_toArray, List.getElem_cons_zero, List.getElem_cons_succ]); go_simp; try with_reducible rfl)
            try simp only [List.getElem_toArray, List.getElem_cons_zero, List.getElem_cons_succ, Act.put, List.setIfInBounds_toArray, List.set_cons_zero, List.set_cons_succ]
            refine' wpAnyH_take (i := 7) (oi := _) (v := _) rfl (by kernel_rfl) (by kernel_rfl) (by kernel_rfl) (fun _ _ _ h => h) (Or.inl ⟨by rfl, ?hy⟩) (by assumption) ?_
            case hy => (intro w hSw; (try dsimp only at hSw); (try simp only [List.getElem_toArray, List.getElem_cons_zero, List.getElem_cons_succ]); go_simp; try with_reducible rfl)
            try simp only [List.getElem_toArray, List.getElem_cons_zero, List.getElem_cons_succ, Act.put, List.setIfInBounds_toArray, List.set_cons_zero, List.set_cons_succ]
            refine' wpAnyH_take (i := 8) (oi := _) (v := _) rfl (by kernel_rfl) (by kernel_rfl) (by kernel_rfl) (fun _ _ _ h => h) (Or.inl ⟨by rfl, ?hy⟩) (by assumption) ?_
            case hy => (intro w hSw; (try dsimp only at hSw); (try simp only [List.getElem_toArray, List.getElem_cons_zero, List.getElem_cons_succ]); go_simp; try with_reducible rfl)
            try simp only [List.getElem_toArray, List.getElem_cons_zero, List.getElem_cons_succ, Act.put, List.setIfInBounds_toArray, List.set_cons_zero, List.set_cons_succ]
            refine' wpAnyH_take (i := 9) (oi := _) (v := _) rfl (by kernel_rfl) (by kernel_rfl) (by kernel_rfl) (fun _ _ _ h => h) (Or.inl ⟨by rfl, ?hy⟩) (by assumption) ?_
            case hy => (intro w hSw; (try dsimp only at hSw); (try simp only [List.getElem_toArray, List.getElem_cons_zero, List.getElem_cons_succ]); go_simp; try with_reducible rfl)
            try simp only [List.getElem_toArray, List.getElem_cons_zero, List.getElem_cons_succ, Act.put, List.setIfInBounds_toArray, List.set_cons_zero, List.set_cons_succ]
            refine wpAnyH_ready (rs := [10]) (by kernel_rfl) (by simp) ?_
            refine AllReadyH.cons (o := _) rfl (fun K hK => ?_) AllReadyH.nil
            try simp only [List.getElem_toArray, List.getElem_cons_zero, List.getElem_cons_succ, Act.put, List.setIfInBounds_toArray, List.set_cons_zero, List.set_cons_succ]
            go_simp
            have hb8 : Below wr.heap.size wr (w6.alloc (.cells #[.int .i64 0, .slice none 0 0] 24)) := hb7.alloc hb7.size _
            have hal : Below w6.heap.size w6 (w6.alloc (.cells #[.int .i64 0, .slice none 0 0] 24)) := (Below.refl _ _).alloc (Nat.le_refl _) _
            have hm8 := hm6.later hal
            have ho8 := ho6.later hal
            have hz8 := LnAt.made w6 0 none 0 0
            refine hK.out _ _ ?hs1 (fun hHeld => ?_)
            case hs1 => exact ⟨hb8, HXK.out _ hb8⟩
            clear hK K
            try simp only [List.getElem_toArray, List.getElem_cons_zero, List.getElem_cons_succ, Act.put, List.setIfInBounds_toArray, List.set_cons_zero, List.set_cons_succ]
            obtain ⟨p, hp⟩ : ∃ p, w6.heap.size = p := ⟨_, rfl⟩
            have hgp : g < p := by have := hb7.size; omega
            have hwp : wr.heap.size ≤ p := by have := hb7.size; omega
            rw [hp] at hz8 ⊢
            generalize w6.alloc (.cells #[.int .i64 0, .slice none 0 0] 24) = w8 at hb8 hm8 ho8 hz8 hHeld ⊢
            clear hp hal hb6 hm6 ho6 hb7
            obtain ⟨x0, x1, e0, e1, sp⟩ := hz8.facts
            have HM9 := Lib.hid (hz8.row hm8 m.next a' mq c')
            have HO9 := Lib.hid (hz8.row ho8 m.next a' mq c')
            have HP9 := Lib.hid (hz8.put m.next a' mq c')
            have hb9 : Below wr.heap.size wr ((w8.setCell ⟨p, 0, none⟩ (.int .i64 m.next)).setCell ⟨p, 1, none⟩ (.slice a' mq c')) := (hb8.setCell hwp _).setCell hwp _
            refine wpAnyH_ready (rs := [11]) (by kernel_rfl) (by simp) ?_
            refine AllReadyH.cons (o := _) rfl (fun K hK => ?_) AllReadyH.nil
            try simp only [List.getElem_toArray, List.getElem_cons_zero, List.getElem_cons_succ, Act.put]
            go_simp
            refine hK.out _ _ ?hs1 (fun hHeld => ?_)
            case hs1 => exact ⟨hb9, HXK.out _ hb9⟩
            clear hK K
            try simp only [List.getElem_toArray, List.getElem_cons_zero, List.getElem_cons_succ, Act.put, List.setIfInBounds_toArray, List.set_cons_zero, List.set_cons_succ]
            refine' wpAnyH_take (i := 12) (oi := _) (v := _) rfl (by kernel_rfl) (by kernel_rfl) (by kernel_rfl) (fun _ _ _ h => h) (Or.inl ⟨by rfl, ?hy⟩) (by assumption) ?_
            case hy => (intro w hSw; (try dsimp only at hSw); (try simp only [List.getElem_toArray, List.getElem_cons_zero, List.getElem_cons_succ]); go_simp; try with_reducible rfl)
            try simp only [List.getElem_toArray, List.getElem_cons_zero, List.getElem_cons_succ, Act.put, List.setIfInBounds_toArray, List.set_cons_zero, List.set_cons_succ]
            refine' wpAnyH_take (i := 13) (oi := _) (v := _) rfl (by kernel_rfl) (by kernel_rfl) (by kernel_rfl) (fun _ _ _ h => h) (Or.inl ⟨by rfl, ?hy⟩) (by assumption) ?_
            case hy => (intro w hSw; (try dsimp only at hSw); (try simp only [List.getElem_toArray, List.getElem_cons_zero, List.getElem_cons_succ]); go_simp; try with_reducible rfl)
            try simp only [List.getElem_toArray, List.getElem_cons_zero, List.getElem_cons_succ, Act.put, List.setIfInBounds_toArray, List.set_cons_zero, List.set_cons_succ]
            refine wpAnyH_done (by kernel_rfl) ?_ _
            go_wp2_with fail
            go_meet
            exact ⟨p, a', c', b', d', rfl, rfl, rfl, hgp, HP9.out, HM9.out, HO9.out, hb9⟩
          · try simp only [List.getElem_toArray, List.getElem_cons_zero, List.getElem_cons_succ, Act.put, List.setIfInBounds_toArray, List.set_cons_zero, List.set_cons_succ]
            go_simp
            have hz5 : LnAt (wr.alloc (.cells #[.int .i64 0, .slice none 0 0] 24)).drew wr.heap.size 0 none 0 0 := LnAt.made wr 0 none 0 0
            have hb5 : Below wr.heap.size wr (wr.alloc (.cells #[.int .i64 0, .slice none 0 0] 24)).drew := ((Below.refl _ _).alloc (Nat.le_refl _) _).drew
            refine hK.out _ _ ?hs1 (fun hHeld => ?_)
            case hs1 => exact ⟨hb5, HXK.out _ hb5⟩
            clear hK K
            try simp only [List.getElem_toArray, List.getElem_cons_zero, List.getElem_cons_succ, Act.put, List.setIfInBounds_toArray, List.set_cons_zero, List.set_cons_succ]
            obtain ⟨p, hp⟩ : ∃ p, wr.heap.size = p := ⟨_, rfl⟩
            have hgp : g < p := by omega
            have hwp : wr.heap.size ≤ p := by omega
            rw [hp] at hz5
            generalize (wr.alloc (.cells #[.int .i64 0, .slice none 0 0] 24)).drew = w5 at hb5 hz5 hHeld ⊢
            clear hb0
            refine wpAnyH_ready (rs := [5]) (by kernel_rfl) (by simp) ?_
            refine AllReadyH.cons (o := _) rfl (fun K hK => ?_) AllReadyH.nil
            try simp only [List.getElem_toArray, List.getElem_cons_zero, List.getElem_cons_succ, Act.put, List.setIfInBounds_toArray, List.set_cons_zero, List.set_cons_succ]
            go_simp
            refine (HCL.out _ hb5).mono ?_
            rintro e w8 ⟨a', c', b', d', rfl, hm8, ho8, hb6⟩
            have hb8 : Below wr.heap.size wr w8 := hb5.trans (hb6.mono hb5.size)
            have hz8 := hz5.later hb6
            go_wp2_with fail
            refine hK.out _ _ ?hs1 (fun hHeld => ?_)
            case hs1 => exact ⟨hb8, HXK.out _ hb8⟩
            clear hK K hp
            try simp only [List.getElem_toArray, List.getElem_cons_zero, List.getElem_cons_succ, Act.put, List.setIfInBounds_toArray, List.set_cons_zero, List.set_cons_succ]
            obtain ⟨x0, x1, e0, e1, sp⟩ := hz8.facts
            have HM9 := Lib.hid (hz8.row hm8 m.next a' mq c')
            have HO9 := Lib.hid (hz8.row ho8 m.next a' mq c')
            have HP9 := Lib.hid (hz8.put m.next a' mq c')
            have hb9 : Below wr.heap.size wr ((w8.setCell ⟨p, 0, none⟩ (.int .i64 m.next)).setCell ⟨p, 1, none⟩ (.slice a' mq c')) := (hb8.setCell hwp _).setCell hwp _
            refine' wpAnyH_take (i := 6) (oi := _) (v := _) rfl (by kernel_rfl) (by kernel_rfl) (by kernel_rfl) (fun _ _ _ h => h) (Or.inl ⟨by rfl, ?hy⟩) (by assumption) ?_
            case hy => (intro w hSw; (try dsimp only at hSw); (try simp only [List.getElem_toArray, List.getElem_cons_zero, List.getElem_cons_succ]); go_simp; try with_reducible rfl)
            try simp only [List.getElem_toArray, List.getElem_cons_zero, List.getElem_cons_succ, Act.put, List.setIfInBounds_toArray, List.set_cons_zero, List.set_cons_succ]
            refine' wpAnyH_take (i := 7) (oi := _) (v := _) rfl (by kernel_rfl) (by kernel_rfl) (by kernel_rfl) (fun _ _ _ h => h) (Or.inl ⟨by rfl, ?hy⟩) (by assumption) ?_
            case hy => (intro w hSw; (try dsimp only at hSw); (try simp only [List.getElem_toArray, List.getElem_cons_zero, List.getElem_cons_succ]); go_simp; try with_reducible rfl)
            try simp only [List.getElem_toArray, List.getElem_cons_zero, List.getElem_cons_succ, Act.put, List.setIfInBounds_toArray, List.set_cons_zero, List.set_cons_succ]
            refine' wpAnyH_take (i := 8) (oi := _) (v := _) rfl (by kernel_rfl) (by kernel_rfl) (by kernel_rfl) (fun _ _ _ h => h) (Or.inl ⟨by rfl, ?hy⟩) (by assumption) ?_
            case hy => (intro w hSw; (try dsimp only at hSw); (try simp only [List.getElem_toArray, List.getElem_cons_zero, List.getElem_cons_succ]); go_simp; try with_reducible rfl)
            try simp only [List.getElem_toArray, List.getElem_cons_zero, List.getElem_cons_succ, Act.put, List.setIfInBounds_toArray, List.set_cons_zero, List.set_cons_succ]
            refine' wpAnyH_take (i := 9) (oi := _) (v := _) rfl (by kernel_rfl) (by kernel_rfl) (by kernel_rfl) (fun _ _ _ h => h) (Or.inl ⟨by rfl, ?hy⟩) (by assumption) ?_
            case hy => (intro w hSw; (try dsimp only at hSw); (try simp only [List.getElem_toArray, List.getElem_cons_zero, List.getElem_cons_succ]); go_simp; try with_reducible rfl)
            try simp only [List.getElem_toArray, List.getElem_cons_zero, List.getElem_cons_succ, Act.put, List.setIfInBounds_toArray, List.set_cons_zero, List.set_cons_succ]
            refine wpAnyH_ready (rs := [11]) (by kernel_rfl) (by simp) ?_
            refine AllReadyH.cons (o := _) rfl (fun K hK => ?_) AllReadyH.nil
            try simp only [List.getElem_toArray, List.getElem_cons_zero, List.getElem_cons_succ, Act.put]
            go_simp
            refine hK.out _ _ ?hs1 (fun hHeld => ?_)
            case hs1 => exact ⟨hb9, HXK.out _ hb9⟩
            clear hK K
            try simp only [List.getElem_toArray, List.getElem_cons_zero, List.getElem_cons_succ, Act.put, List.setIfInBounds_toArray, List.set_cons_zero, List.set_cons_succ]
            refine' wpAnyH_take (i := 12) (oi := _) (v := _) rfl (by kernel_rfl) (by kernel_rfl) (by kernel_rfl) (fun _ _ _ h => h) (Or.inl ⟨by rfl, ?hy⟩) (by assumption) ?_
            case hy => (intro w hSw; (try dsimp only at hSw); (try simp only [List.getElem_toArray, List.getElem_cons_zero, List.getElem_cons_succ]); go_simp; try with_reducible rfl)
            try simp only [List.getElem_toArray, List.getElem_cons_zero, List.getElem_cons_succ, Act.put, List.setIfInBounds_toArray, List.set_cons_zero, List.set_cons_succ]
            refine' wpAnyH_take (i := 13) (oi := _) (v := _) rfl (by kernel_rfl) (by kernel_rfl) (by kernel_rfl) (fun _ _ _ h => h) (Or.inl ⟨by rfl, ?hy⟩) (by assumption) ?_
            case hy => (intro w hSw; (try dsimp only at hSw); (try simp only [List.getElem_toArray, List.getElem_cons_zero, List.getElem_cons_succ]); go_simp; try with_reducible rfl)
            try simp only [List.getElem_toArray, List.getElem_cons_zero, List.getElem_cons_succ, Act.put, List.setIfInBounds_toArray, List.set_cons_zero, List.set_cons_succ]
            refine wpAnyH_done (by kernel_rfl) ?_ _
            go_wp2_with fail
            go_meet
            exact ⟨p, a', c', b', d', rfl, rfl, rfl, hgp, HP9.out, HM9.out, HO9.out, hb9⟩
        case rest =>
          obtain ⟨p, a', c', b', d', rfl, rfl, rfl, hgp, hpl, hpr, hpo, hbc⟩ := hcut
          have HP := Lib.hid hpl
          have HPR := Lib.hid hpr
          have HPO := Lib.hid hpo
          have HBC := Lib.hid (HB.out.trans (hbc.mono (Nat.le_of_lt s0)))
          have HGC := Lib.hid (HG.out.later hbc)
          have HRC := Lib.hid (HR.out.later hbc)
          have HPS := Lib.hid hgp
          clear hpl hpr hpo hbc z0 z1 f0 f1 s0 hgp
          rw [HLQ.out] at HGC
          have HRM : Hid (rightL m = true) := Lib.hid HST.out.1
          go_upto_region 10 with fail
          go_cut [79] (fun s79 wx => s79 = .bool false ∧ Below wc.heap.size wc wx)
          case first =>
            obtain ⟨y0, y1, -, -, sp⟩ := HP.out.facts
            go_wp2_with fail
            refine (right_h _ m a' c' mq rfl HMQ.out (by omega) _ HPR.out (HLW.out _ HBC.out).1 true HRM.out).mono ?_
            rintro e w5 ⟨rfl, hb5⟩
            have HP5 := Lib.hid (HP.out.later hb5)
            have HG5 := Lib.hid (HGC.out.later hb5)
            have HPR5 := Lib.hid (HPR.out.later hb5)
            have HR5 := Lib.hid (HRC.out.later hb5)
            have HB5 := Lib.hid hb5
            have HB5W := Lib.hid (HBC.out.trans (hb5.mono (Nat.le_of_lt (Nat.lt_trans HPS.out sp))))
            clear hb5 y0 y1 sp
            obtain ⟨y0, y1, -, -, sp⟩ := HP5.out.facts
            obtain ⟨z0, z1, -, -, sg⟩ := HG5.out.facts
            by_cases k0 : kk = 0
            · have ⟨hmy, hml⟩ := HST.out.2.2.2 k0
              have ho0 := (HST.out.2.2.1 (by omega)).1
              have HQ0 : Hid (oq = 0) := Lib.hid (by rw [← HOQ.out, ho0]; rfl)
              have HMY := Lib.hid hmy
              have HSM := Lib.hid (fun W h1 h2 => same_i _ _ m l HMF.out HFI.out a' c' mq a2 c2 lq rfl rfl HMQ.out HLQ.out (by omega) (by omega) W h1 h2 true (by rw [hml]; simp))
              have HNX : Hid (m.next = l.next) := Lib.hid (by rw [hml])
              obtain rfl : oq = 0 := HQ0.out
              clear hmy hml ho0
              subst k0
              have HXL := Lib.hid (HXR.out _ HB5W.out)
              go_wp2_with (refine wpList_load_arr_g (by rfl) 30 _ rfl bb (off + k * 20) rfl XA _ HXL.out Try.underlying30 rfl hiX ?_)
              refine (may_h XA x HXA.out _ (HLW.out _ HB5W.out).1 false HMY.out).mono ?_
              rintro e w6 ⟨rfl, hb6⟩
              have HP6 := Lib.hid (HP5.out.later hb6)
              have HG6 := Lib.hid (HG5.out.later hb6)
              have HPR6 := Lib.hid (HPR5.out.later hb6)
              have HR6 := Lib.hid (HR5.out.later hb6)
              have HB6 := Lib.hid (HB5.out.trans (hb6.mono HB5.out.size))
              clear hb6 y0 y1 sp z0 z1 sg
              obtain ⟨y0, y1, -, -, -⟩ := HP6.out.facts
              obtain ⟨z0, z1, -, -, -⟩ := HG6.out.facts
              go_wp2_with fail
              refine (HSM.out _ HPR6.out HR6.out).mono ?_
              rintro e w7 ⟨rfl, hb7⟩
              have HP7 := Lib.hid (HP6.out.later hb7)
              have HG7 := Lib.hid (HG6.out.later hb7)
              have HB7 := Lib.hid (HB6.out.trans (hb7.mono HB6.out.size))
              clear hb7 y0 y1 z0 z1
              obtain ⟨y0, y1, -, -, -⟩ := HP7.out.facts
              obtain ⟨z0, z1, -, -, -⟩ := HG7.out.facts
              have q5 : (m.next != l.next) = false := by rw [HNX.out]; simp
              go_wp2_with fail
              go_meet
              exact ⟨rfl, HB7.out⟩
            · have q4 : (kk == 0) = false := beq_eq_false_iff_ne.2 k0
              by_cases k1 : kk = 1
              · have q6 : (kk != 1) = false := by rw [k1]; rfl
                clear k0 k1
                go_wp2_with fail
                go_meet
                exact ⟨rfl, HB5.out⟩
              · have ⟨ho0, hmn⟩ := HST.out.2.2.1 k1
                have HQ0 : Hid (oq = 0) := Lib.hid (by rw [← HOQ.out, ho0]; rfl)
                have q6 : (kk != 1) = true := by rw [bne_iff_ne]; exact k1
                have q5 : (m.next != l.next) = false := by rw [hmn]; simp
                obtain rfl : oq = 0 := HQ0.out
                clear k0 k1 ho0 hmn
                go_wp2_with fail
                go_meet
                exact ⟨rfl, HB5.out⟩
          case rest =>
            obtain ⟨rfl, hbx⟩ := hcut
            have HP9 := Lib.hid (HP.out.later hbx)
            have HG9 := Lib.hid (HGC.out.later hbx)
            have HPR9 := Lib.hid (HPR.out.later hbx)
            have HPO9 := Lib.hid (HPO.out.later hbx)
            have HB9 := Lib.hid (HBC.out.trans (hbx.mono (Nat.le_of_lt HGC.out.facts.2.2.2.2)))
            clear hbx HP HGC HPR HPO HBC HRC
            have HCH : Hid (Chain l.next out m.next) := Lib.hid HST.out.2.1
            go_wp2_with fail
            go_loop [5, 10] (fun next_ j_ => ∃ (j : Nat) (nn : Int), j_ = .int .i64 j ∧ j ≤ oq ∧ next_ = .int .i64 nn ∧ Chain nn (out.drop j) m.next) (fun _ j_ => oq - (intOf j_).toNat)
            case atStart => exact ⟨0, l.next, rfl, Nat.zero_le _, rfl, HCH.out⟩
            case round =>
              obtain ⟨j, nn, rfl, hj, rfl, hch⟩ := hrel
              by_cases hjlt : j < oq
              · obtain ⟨y, hy⟩ : ∃ y, out[j]? = some y := ⟨out[j]'(by rw [HOQ.out]; exact hjlt), List.getElem?_eq_getElem _⟩
                have hdr : out.drop j = y :: out.drop (j + 1) := by
                  rw [List.drop_eq_getElem_cons (by rw [HOQ.out]; exact hjlt)]
                  congr 1
                  have := List.getElem?_eq_getElem (l := out) (i := j) (by rw [HOQ.out]; exact hjlt)
                  rw [this] at hy
                  exact Option.some.inj hy
                rw [hdr] at hch
                obtain ⟨e1, e2, e3⟩ := hch
                obtain ⟨bo, oo, rfl, hco⟩ := HPO9.out.at (by rw [HOQ.out]; omega) (by decide)
                have hod : oq ≤ d' := by
                  rcases HPO9.out with ⟨h, _⟩ | ⟨_, _, h, _⟩
                  · cases h
                  · rwa [HOQ.out] at h
                have b1 : wc.cell? ⟨bo, oo + j * 20, none⟩ = some (.int .i64 y.fr) := by
                  have := hco j y hy 0 _ rfl
                  rwa [Nat.add_zero] at this
                have b2 : wc.cell? ⟨bo, oo + j * 20 + 1, none⟩ = some (.int .i64 y.to) := hco j y hy 1 _ rfl
                have q7 : decide (nn < y.fr) = false := decide_eq_false (by omega)
                have q8 : decide (y.to ≤ nn) = false := decide_eq_false (by omega)
                have H3 := Lib.hid e3
                clear hco hdr hy e1 e2 e3
                go_wp2_with fail
                go_round
                case rel => exact ⟨j + 1, y.to, congrArg (Value.int .i64) (by omega), by omega, rfl, H3.out⟩
                case measure => simp [intOf]; omega
              · obtain rfl : j = oq := by omega
                have hnx : nn = m.next := by
                  rw [List.drop_eq_nil_of_le (by rw [HOQ.out]; exact Nat.le_refl _)] at hch
                  exact hch
                subst hnx
                clear hch hjlt hj
                obtain ⟨y0, y1, -, -, -⟩ := HP9.out.facts
                obtain ⟨z0, z1, f0, f1, s0⟩ := HG9.out.facts
                have HGA := Lib.hid (HG9.out.put m.next a' mq c')
                have HRA := Lib.hid (HG9.out.row HPR9.out m.next a' mq c')
                have HBA : Hid (Below g w ((wc.setCell ⟨g, 0, none⟩ (.int .i64 m.next)).setCell ⟨g, 1, none⟩ (.slice a' mq c'))) := Lib.hid ((HB9.out.setCell (Nat.le_refl _) _).setCell (Nat.le_refl _) _)
                go_wp2_with fail
                go_roundw
                case rel => exact ⟨k + 1, m, a', c', congrArg (Value.int .i64) (by omega), by omega, rfl, HRM.out, HMF.out, by rw [HMQ.out]; exact HGA.out, HRA.out, HBA.out⟩
                case measure => simp [intOf]; omega
      · have q2 : decide ((k : Int) < 200) = false := decide_eq_false (by omega)
        go_wp2_with fail
        go_ret
        exact ⟨rfl, (HLW.out _ HB.out).2.2⟩
    · obtain rfl : k = len1 := by omega
      go_wp2_with fail
      go_ret
      exact ⟨rfl, (HLW.out _ HB.out).2.2⟩

end Rsq
end Go.Proofs.Ytnldllmlfckecaa
