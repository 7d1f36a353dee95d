/-
  The walk of layer 6's laws: ReseqOrder.
-/
import Derived.Test.YtnldllmlfckecaaRsqL
import Derived.Test.YtnldllmlfckecaaArgB
import Derived.Deep.CutBlock
import Derived.Deep.DeepCutAuto
import Derived.Deep.Cut
namespace Go.Proofs.Ytnldllmlfckecaa
open Go.RowKit
namespace Rsq
open Num
open Msg (I64)

/-- which numbers have come, as cells -/
def came (c : Int → Bool) : Array Value := ((List.range 61).map fun (i : Nat) => Value.bool (c i)).toArray
theorem came_get (c : Int → Bool) {j : Nat} (h : j < 61) : (came c)[j]? = some (.bool (c j)) := by
  unfold came
  simp [h]
theorem came_set (c : Int → Bool) {j : Nat} (_h : j < 61) : (came c).setIfInBounds j (.bool true) = came (upd c j) := by
  apply Array.ext'
  unfold came
  rw [Array.toList_setIfInBounds]
  apply List.ext_getElem?
  intro i
  rw [List.getElem?_set]
  by_cases e : j = i
  · subst e
    simp [_h, upd]
  · rw [if_neg e]
    simp only [List.getElem?_map]
    by_cases hi : i < 61
    · rw [List.getElem?_range hi]
      have : ¬ ((i : Int) = (j : Int)) := by omega
      simp [upd, this]
    · simp [hi]
def CmAt (w : World) (g : Nat) (c : Int → Bool) : Prop := w.heap[g]? = some (.cells (came c) 42 (0, 0))
theorem CmAt.later {w w' : World} {g : Nat} {c : Int → Bool} (h : CmAt w g c) (hb : Below w.heap.size w w') : CmAt w' g c := below_block h hb
theorem CmAt.cell {w : World} {g : Nat} {c : Int → Bool} (h : CmAt w g c) {j : Nat} (hj : j < 61) : w.cell? ⟨g, j, none⟩ = some (.bool (c j)) ∧ w.frozen? ⟨g, j, none⟩ = false ∧ g < w.heap.size :=
  ⟨cell_at h (came_get c hj), frozen_of_row w _ _ _ _ h, (Array.getElem?_eq_some_iff.1 h).1⟩
theorem CmAt.put {w : World} {g : Nat} {c : Int → Bool} (h : CmAt w g c) {j : Nat} (hj : j < 61) : CmAt (w.setCell ⟨g, j, none⟩ (.bool true)) g (upd c j) := by
  unfold CmAt
  rw [← came_set c hj]
  exact heap_setCell_same w g j _ _ _ h
theorem CmAt.line {w : World} {g q : Nat} {c : Int → Bool} {nx : Int} {a : Option Addr} {n cap : Nat} (_h : CmAt w g c) (hl : LnAt w q nx a n cap) (hne : q ≠ g) (j : Nat) (v : Value) : LnAt (w.setCell ⟨g, j, none⟩ v) q nx a n cap := (heap_setCell_other w _ q v hne).trans hl
theorem came_bool {c : Int → Bool} {j : Nat} {n : Int} (h : (came c)[j]? = some (.int .i64 n)) : False := by
  by_cases hj : j < 61
  · rw [came_get c hj] at h
    cases h
  · rw [Array.getElem?_eq_none (by unfold came; simp; omega)] at h
    cases h
theorem CmAt.row {w : World} {g cap : Nat} {c : Int → Bool} {a : Option Addr} {l : List It} (h : CmAt w g c) (hr : RowAt encI w a cap l) (j : Nat) (v : Value) : RowAt encI (w.setCell ⟨g, j, none⟩ v) a cap l := by
  refine hr.grown (grown_set1 w g j v) ?_
  rintro x rfl hn rfl
  obtain ⟨b, off, e, hc⟩ := hr.at hn (by decide)
  obtain rfl := Option.some.inj e
  cases l with
  | nil => cases hn
  | cons y r =>
    have h1 := hc 0 y rfl 0 _ rfl
    rw [cell_of_row w _ _ _ _ _ h] at h1
    exact came_bool h1
theorem LnAt.cm {w : World} {g q : Nat} {c : Int → Bool} {nx : Int} {a : Option Addr} {n cap : Nat} (_h : LnAt w g nx a n cap) (hc : CmAt w q c) (hne : q ≠ g) (my : Int) (b : Option Addr) (m d : Nat) :
    CmAt ((w.setCell ⟨g, 0, none⟩ (.int .i64 my)).setCell ⟨g, 1, none⟩ (.slice b m d)) q c := by
  unfold CmAt
  rw [heap_setCell_other _ _ q _ hne, heap_setCell_other _ _ q _ hne]
  exact hc
/-- a step, in numbers -/
theorem come_unit {c : Int → Bool} {l : Li} {N : Nat} (dom : Dom c) (hi : Inv c l) (h1 : 1 ≤ N) (h2 : N ≤ 60) :
    ∃ (m : Li) (out : List It) (k : Int), come l (iOf N ((N : Int) + 1)) = (m, out, k) ∧ Inv (upd c N) m ∧ Dom (upd c N) ∧ ((k == 3) = c N) ∧ (k == 4) = false ∧ ((k == 1) = decide (0 < out.length)) ∧ (∀ y ∈ out, upd c N y.fr = true ∧ y.to = y.fr + 1) ∧ Chain l.next out m.next ∧ m.held.length ≤ 64 ∧ out.length ≤ 65 := by
  have h := order_step dom hi Msg.noMs (n := (N : Int)) (by omega) (by omega)
  have hs := come_step hi.right (iOf N ((N : Int) + 1))
  rcases e : come l (iOf N ((N : Int) + 1)) with ⟨m, out, k⟩
  unfold iOf at e
  rw [e] at h
  unfold iOf at hs
  rw [e] at hs
  obtain ⟨i1, i3, i4, i0, i2, i5⟩ := h
  refine ⟨m, out, k, rfl, i1, dom.upd (by omega) (by omega), ?_, ?_, ?_, fun y hy => ⟨(i5 y hy).2, (i5 y hy).1⟩, hs.2.1, ?_, ?_⟩
  · apply Bool.eq_iff_iff.2
    rw [beq_iff_eq]
    exact i3
  · rw [beq_eq_false_iff_ne]
    exact i4
  · apply Bool.eq_iff_iff.2
    rw [beq_iff_eq, decide_eq_true_eq]
    simp only at i2
    rw [i2]
    exact List.length_pos_iff.symm
  · exact ((right_iff m).1 i1.right).2.2.1
  · have h := come_len hi.right (⟨N, (N : Int) + 1, Msg.noMs⟩ : It)
    rw [e] at h
    have := ((right_iff l).1 hi.right).2.2.1
    simp only at h
    omega

theorem right_i (c : Array Value) (l : Li) (a : Option Addr) (cap n : Nat) (hc : c = #[.int .i64 l.next, .slice a n cap]) (hn : l.held.length = n) (hn9 : n ≤ 100000000) (w : World) (hr : RowAt encI w a cap l.held) (hl : Laid w) (o : Bool) (ho : rightL l = o) :
    Calls Try.prog 14 #[.agg c] w fun e w' => e = .returned (.bool o) ∧ Below w.heap.size w w' := by
  subst hc ho
  exact right_any l a cap n hn hn9 w hr hl

set_option maxRecDepth 100000 in
set_option maxHeartbeats 8000000 in
theorem law_ReseqOrder (a : Option Addr) (len cap : Nat) (z : List Int) (w : World) (hr : IsRow .u8 w a len cap z) (hl : Laid w) :
    Calls Try.prog 4 #[.slice a len cap] w fun e w' => e = .returned (.bool true) ∧ Below w.heap.size w w' := by
  obtain ⟨b, hb, hm, hr⟩ := IsRow.bytes hr
  have hlen : len ≤ 9223372036854775807 := by unfold maxLen at hm; omega
  have HL := Lib.hid hl
  have HBY := Lib.hid hr
  have HLN := Lib.hid hb
  clear hl hr hb hm
  go_enter Try.func4, Try.ntmps4
  go_wp2_with fail
  refine (awake6_any _ HL.out).mono ?_
  rintro e w1 ⟨rfl, hb1⟩
  have HB1 := Lib.hid hb1
  clear hb1
  obtain ⟨g, hg⟩ : ∃ g, w1.heap.size = g := ⟨_, rfl⟩
  have HGE : Hid (w1.heap.size = g) := Lib.hid hg
  have HG4 : Hid (LnAt (w1.alloc (.cells #[.int .i64 1, .slice none 0 0] 24)) g 1 none 0 0) := Lib.hid (hg ▸ LnAt.made w1 1 none 0 0)
  have HB4 : Hid (Below g w1 (w1.alloc (.cells #[.int .i64 1, .slice none 0 0] 24))) := Lib.hid (hg ▸ (Below.refl _ _).alloc (Nat.le_refl _) _)
  have HS4 : Hid ((w1.alloc (.cells #[.int .i64 1, .slice none 0 0] 24)).heap.size = g + 1) := Lib.hid (by simp; omega)
  go_upto_region 4 with fail
  generalize w1.alloc (.cells #[.int .i64 1, .slice none 0 0] 24) = w4 at HG4 HB4 HS4 ⊢
  have HBW : Hid (∀ W, Below g w1 W → Below w.heap.size w W) := Lib.hid fun W h => HB1.out.trans (h.mono (by rw [← HGE.out]; exact HB1.out.size))
  clear hg
  have HCM5 : Hid (CmAt (w4.alloc (.cells (came fun _ => false) 42)) (g + 1) (fun _ => false)) := Lib.hid (by
    have h := heap_alloc_new w4 (.cells (came fun _ => false) 42)
    rwa [HS4.out] at h)
  have hba : Below w4.heap.size w4 (w4.alloc (.cells (came fun _ => false) 42)) := (Below.refl _ _).alloc (Nat.le_refl _) _
  have HG5 := Lib.hid (HG4.out.later hba)
  have HB5 := Lib.hid (HB4.out.trans (hba.mono (by rw [HS4.out]; omega)))
  clear hba
  have e4 := HS4.out
  go_upto_region 5 with fail
  change Code.wp _ _ _ _ (w4.alloc (.cells (came fun _ => false) 42))
  generalize w4.alloc (.cells (came fun _ => false) 42) = w5 at HCM5 HG5 HB5 ⊢
  clear e4
  go_wp2_with fail
  go_loopw [5, 6] (fun last_ i_ wr => ∃ (k : Nat) (c : Int → Bool) (l : Li) (a2 : Option Addr) (c2 : Nat), i_ = .int .i64 k ∧ k ≤ len ∧ k ≤ 300 ∧ last_ = .int .i64 (l.next - 1) ∧ Dom c ∧ Inv c l ∧ LnAt wr g l.next a2 l.held.length c2 ∧ RowAt encI wr a2 c2 l.held ∧ CmAt wr (g + 1) c ∧ Below g w1 wr) (fun _ i_ _ => len - (intOf i_).toNat)
  case atStart => exact ⟨0, fun _ => false, ⟨1, []⟩, none, 0, rfl, Nat.zero_le _, Nat.zero_le _, rfl, (fun k hk => by cases hk), inv_zero, HG5.out, .inl ⟨rfl, rfl, rfl⟩, HCM5.out, HB5.out⟩
  case round =>
    obtain ⟨k, c, l, a2, c2, rfl, hk, hk3, rfl, hdm, hiv, hln, hrow, hcm, hbel⟩ := hrel
    have HD := Lib.hid hdm
    have HI := Lib.hid hiv
    have HG := Lib.hid hln
    have HR := Lib.hid hrow
    have HC := Lib.hid hcm
    have HB := Lib.hid hbel
    clear hdm hiv hln hrow hcm hbel
    by_cases hlt : k < len
    · by_cases h300 : k < 300
      · have HBYT := Lib.hid ((HBY.out.later HB1.out).later (w' := wr) (HB.out.mono (by rw [← HGE.out]; exact Nat.le_refl _)))
        obtain ⟨bb, off, rfl, hc⟩ := HBYT.out.at (by rw [HLN.out]; omega)
        have hcap : len ≤ cap := by
          rcases HBYT.out with ⟨h, _⟩ | ⟨_, _, h, _⟩
          · cases h
          · rwa [HLN.out] at h
        obtain ⟨v, hv⟩ : ∃ v : Nat, (b[k]'(by rw [HLN.out]; exact hlt)).toNat = v := ⟨_, rfl⟩
        have b0 : wr.cell? ⟨bb, off + k, none⟩ = some (.int .u8 (v : Int)) := by rw [← hv]; exact hc k _
        have hv256 : v < 256 := by rw [← hv]; exact UInt8.toNat_lt _
        obtain ⟨N, hN⟩ : ∃ N, v % 60 + 1 = N := ⟨_, rfl⟩
        have hN1 : 1 ≤ N := by omega
        have hN60 : N ≤ 60 := by omega
        have r1 : ((v : Int).tmod 60) = (N : Int) - 1 := by rw [Int.tmod_eq_emod_of_nonneg (by omega)]; omega
        have r2 : (v : Int) % 60 = (N : Int) - 1 := by omega
        have r3 : IntKind.i64.wrap ((N : Int) - 1 + 1) = N := by rw [IntKind.wrap_i64]; omega
        have r4 : IntKind.i64.wrap ((N : Int) + 1) = (N : Int) + 1 := by rw [IntKind.wrap_i64]; omega
        obtain ⟨m, out, kk, hcome, hiv2, hdm2, k3, k4, k1, hout, hch, hm64, ho65⟩ := come_unit HD.out HI.out hN1 hN60
        obtain ⟨mq, hmq⟩ : ∃ q, m.held.length = q := ⟨_, rfl⟩
        obtain ⟨oq, hoq⟩ : ∃ q, out.length = q := ⟨_, rfl⟩
        have HCO := Lib.hid hcome
        have HD2 := Lib.hid hdm2
        have HI2 := Lib.hid hiv2
        have HOU := Lib.hid hout
        have HCH := Lib.hid hch
        have HMQ := Lib.hid hmq
        have HOQ := Lib.hid hoq
        rw [hoq] at k1 ho65
        rw [hmq] at hm64
        have HL64 := Lib.hid ((right_iff l).1 HI.out.right).2.2.1
        clear hc hv hcome hdm2 hiv2 hout hch hmq hoq
        have ⟨z0, z1, f0, f1, s0⟩ := HG.out.facts
        obtain ⟨lq, hlq⟩ : ∃ q, l.held.length = q := ⟨_, rfl⟩
        rw [hlq] at z1
        have HLQ := Lib.hid hlq
        clear hlq
        go_wp2_with fail
        refine (come_is _ _ l (iOf N ((N : Int) + 1)) a2 c2 lq rfl rfl HLQ.out (by have := HL64.out; have := HLQ.out; omega) _ HR.out (HL.out.below (HBW.out _ HB.out)) _ _ _ mq oq HCO.out HMQ.out HOQ.out).mono ?_
        rintro e w2 ⟨a', c', b', d', rfl, hr2, ho2, hb2⟩
        obtain ⟨p, hp⟩ : ∃ p, w2.heap.size = p := ⟨_, rfl⟩
        have HA3 : Hid (LnAt (w2.alloc (.cells #[.int .i64 m.next, .slice a' mq c'] 24)) p m.next a' mq c') := Lib.hid (hp ▸ LnAt.made w2 m.next a' mq c')
        have hba : Below w2.heap.size w2 (w2.alloc (.cells #[.int .i64 m.next, .slice a' mq c'] 24)) := (Below.refl _ _).alloc (Nat.le_refl _) _
        have hgw : g ≤ wr.heap.size := Nat.le_of_lt s0
        have HG3 := Lib.hid ((HG.out.later hb2).later hba)
        have HC3 := Lib.hid ((HC.out.later hb2).later hba)
        have HR3 := Lib.hid (hr2.later hba)
        have HO3 := Lib.hid (ho2.later hba)
        have HB3 := Lib.hid ((HB.out.trans (hb2.mono hgw)).trans (hba.mono (Nat.le_trans hgw hb2.size)))
        have HPG : Hid (g < p ∧ g + 1 < p) := Lib.hid (by
          have h1 := (Array.getElem?_eq_some_iff.1 (HG.out.later hb2)).1
          have h2 := (Array.getElem?_eq_some_iff.1 (HC.out.later hb2)).1
          omega)
        clear z0 z1 f0 f1 s0 hb2 hr2 ho2 hba hgw b0 r1 r2 r3 r4
        go_upto_region 11 with fail
        generalize w2.alloc (.cells #[.int .i64 m.next, .slice a' mq c'] 24) = w3 at HA3 HG3 HC3 HR3 HO3 HB3 ⊢
        clear hp
        obtain ⟨cn, hcn⟩ : ∃ cn, c (N : Int) = cn := ⟨_, rfl⟩
        have ⟨x0, x1, x2⟩ := HC3.out.cell (j := N) (by omega)
        rw [hcn] at k3 x0
        have HC4 := Lib.hid (HC3.out.put (j := N) (by omega))
        have HG4' := Lib.hid (HC3.out.line HG3.out (by omega) N (.bool true))
        have HA4 := Lib.hid (HC3.out.line HA3.out (by have := HPG.out; omega) N (.bool true))
        have HR4 := Lib.hid (HC3.out.row HR3.out N (.bool true))
        have HO4 := Lib.hid (HC3.out.row HO3.out N (.bool true))
        have HB4' : Hid (Below g w1 (w3.setCell ⟨g + 1, N, none⟩ (.bool true))) := Lib.hid (HB3.out.setCell (Nat.le_succ _) _)
        have iN1 : (0 : Int) ≤ (N : Int) := by omega
        have iN2 : (N : Int) < 61 := by omega
        clear hcn
        go_upto_region 13 with fail
        generalize w3.setCell ⟨g + 1, N, none⟩ (.bool true) = w6 at HC4 HG4' HA4 HR4 HO4 HB4' ⊢
        clear x0 x1 x2 HA3 HG3 HC3 HR3 HO3 HB3
        obtain ⟨y0, y1, -, -, sp⟩ := HA4.out.facts
        go_wp2_with fail
        refine (right_i _ m a' c' mq rfl HMQ.out (by omega) _ HR4.out (HL.out.below (HBW.out _ HB4'.out)) true HI2.out.right).mono ?_
        rintro e w7 ⟨rfl, hb7⟩
        have HG7 := Lib.hid (HG4'.out.later hb7)
        have HC7 := Lib.hid (HC4.out.later hb7)
        have HA7 := Lib.hid (HA4.out.later hb7)
        have HR7 := Lib.hid (HR4.out.later hb7)
        have HO7 := Lib.hid (HO4.out.later hb7)
        have HB7 := Lib.hid (HB4'.out.trans (hb7.mono (by have := HPG.out; omega)))
        clear hb7 y0 y1 sp HA4 HG4' HC4 HR4 HO4 HB4'
        obtain ⟨t, ht⟩ : ∃ t, decide (0 < oq) = t := ⟨_, rfl⟩
        have ht2 : decide ((0 : Int) < (oq : Int)) = t := by rw [← ht]; exact decide_eq_decide.2 (by omega)
        rw [ht] at k1
        have HT := Lib.hid ht
        go_upto_region 15 with fail
        clear ht ht2 k1 k3 k4
        go_wp2_with fail
        go_loop [5, 12] (fun last_ j_ => ∃ (j : Nat) (nx : Int), j_ = .int .i64 j ∧ j ≤ oq ∧ last_ = .int .i64 (nx - 1) ∧ Chain nx (out.drop j) m.next) (fun _ j_ => oq - (intOf j_).toNat)
        case atStart => exact ⟨0, l.next, rfl, Nat.zero_le _, rfl, HCH.out⟩
        case round =>
          obtain ⟨j, nx, rfl, hj, rfl, hch⟩ := hrel
          by_cases hjlt : j < oq
          · obtain ⟨y, hy⟩ : ∃ y, out[j]? = some y := ⟨out[j]'(by rw [HOQ.out]; exact hjlt), List.getElem?_eq_getElem _⟩
            have hdr : out.drop j = y :: out.drop (j + 1) := by
              rw [List.drop_eq_getElem_cons (by rw [HOQ.out]; exact hjlt)]
              congr 1
              have := List.getElem?_eq_getElem (l := out) (i := j) (by rw [HOQ.out]; exact hjlt)
              rw [this] at hy
              exact Option.some.inj hy
            rw [hdr] at hch
            obtain ⟨h1, h2, h3⟩ := hch
            have ⟨u1, u2⟩ := HOU.out y (List.mem_of_getElem? hy)
            have ⟨d1, d2⟩ := HD2.out _ u1
            obtain ⟨Y, hY⟩ : ∃ Y : Nat, y.fr = (Y : Int) := ⟨y.fr.toNat, by omega⟩
            obtain rfl : nx = (Y : Int) := by omega
            have hY60 : Y ≤ 60 := by omega
            obtain ⟨bo, oo, rfl, hco⟩ := HO7.out.at (by rw [HOQ.out]; omega) (by decide)
            have hod : oq ≤ d' := by
              rcases HO7.out with ⟨h, _⟩ | ⟨_, _, h, _⟩
              · cases h
              · rwa [HOQ.out] at h
            have b1 : w7.cell? ⟨bo, oo + j * 20, none⟩ = some (.int .i64 (Y : Int)) := by
              have := hco j y hy 0 _ rfl
              rw [Nat.add_zero] at this
              rw [← hY]
              exact this
            have b2 : w7.cell? ⟨g + 1, Y, none⟩ = some (.bool true) := by
              have := (HC7.out.cell (j := Y) (by omega)).1
              rw [← hY, u1] at this
              exact this
            have q1 : IntKind.i64.wrap ((Y : Int) - 1 + 1) = Y := by rw [IntKind.wrap_i64]; omega
            have q2 : (0 : Int) ≤ (Y : Int) := by omega
            have q3 : (Y : Int) < 61 := by omega
            have H3 := Lib.hid h3
            have HTO : Hid (y.to = (Y : Int) + 1) := Lib.hid (by rw [u2, hY])
            clear hco hY u1 u2 d1 d2 h1 h2 h3 hdr hy
            go_wp2_with fail
            go_round
            case rel => exact ⟨j + 1, (Y : Int) + 1, congrArg (Value.int .i64) (by omega), by omega, congrArg (Value.int .i64) (by omega), by rw [← HTO.out]; exact H3.out⟩
            case measure => simp [intOf]; omega
          · obtain rfl : j = oq := by omega
            have hnx : nx = m.next := by
              rw [List.drop_eq_nil_of_le (by rw [HOQ.out]; exact Nat.le_refl _)] at hch
              exact hch
            subst hnx
            clear hch hjlt hj
            obtain ⟨y0, y1, -, -, -⟩ := HA7.out.facts
            obtain ⟨z0, z1, f0, f1, s0⟩ := HG7.out.facts
            have HG9 := Lib.hid (HG7.out.put m.next a' mq c')
            have HC9 := Lib.hid (HG7.out.cm HC7.out (by omega) m.next a' mq c')
            have HR9 := Lib.hid (HG7.out.row HR7.out m.next a' mq c')
            have HB9 : Hid (Below g w1 ((w7.setCell ⟨g, 0, none⟩ (.int .i64 m.next)).setCell ⟨g, 1, none⟩ (.slice a' mq c'))) := Lib.hid ((HB7.out.setCell (Nat.le_refl _) _).setCell (Nat.le_refl _) _)
            go_upto_region 22 with fail
            generalize (w7.setCell ⟨g, 0, none⟩ (.int .i64 m.next)).setCell ⟨g, 1, none⟩ (.slice a' mq c') = w9 at HG9 HC9 HR9 HB9 ⊢
            clear y0 y1 z0 z1 f0 f1 s0 HG7 HC7 HR7 HB7 HA7 HO7
            have hm61 := HI2.out.next_le HD2.out
            have hm0 := ((right_iff m).1 HI2.out.right).1
            obtain ⟨M, hM⟩ : ∃ M : Nat, m.next = (M : Int) := ⟨m.next.toNat, by omega⟩
            have HMM := Lib.hid hM
            have hM1 : 1 ≤ M := by omega
            have hM61 : M ≤ 61 := by omega
            rw [hM]
            rw [hM] at HG9
            clear hm61 hm0 hM
            have HCX2 := Lib.hid (fun j hj => (HC9.out.cell (j := j) hj).1)
            have HBE : Hid (∀ W : Nat, 1 ≤ W → W < M → upd c N W = true) := Lib.hid fun W h1 h2 => HI2.out.below W (by omega) (by rw [HMM.out]; omega)
            have HMI : Hid (upd c N M = false) := Lib.hid (by have := HI2.out.missing; rwa [HMM.out] at this)
            have HWT : Hid (mq = cnt (upd c N) (61 - M) M) := Lib.hid (by
              have h := HI2.out.waits HD2.out
              rw [HMQ.out, HMM.out] at h
              rw [h]
              by_cases hz : M = 61
              · subst hz; rfl
              · rw [show 61 - M = (60 - M) + 1 by omega, show cnt (upd c N) (60 - M + 1) M = (if upd c N M = true then 1 else 0) + cnt (upd c N) (60 - M) ((M : Int) + 1) from rfl,
                  HMI.out, show ((60 : Int) - (M : Int)).toNat = 60 - M by omega]
                simp)
            go_wp2_with fail
            go_loop [13] (fun want_ => ∃ W : Nat, want_ = .int .i64 W ∧ 1 ≤ W ∧ W ≤ M) (fun want_ => M - (intOf want_).toNat)
            case atStart => exact ⟨1, rfl, Nat.le_refl _, hM1⟩
            case round =>
              obtain ⟨W, rfl, hW1, hWM⟩ := hrel
              by_cases hWlt : W < M
              · have x0 : w9.cell? ⟨g + 1, W, none⟩ = some (.bool true) := by
                  have := HCX2.out W (by omega)
                  rwa [HBE.out W hW1 hWlt] at this
                have q1 : decide ((W : Int) ≤ 60) = true := decide_eq_true (by omega)
                have q2 : (0 : Int) ≤ (W : Int) := by omega
                have q3 : (W : Int) < 61 := by omega
                go_wp2_with fail
                go_round
                case rel => exact ⟨W + 1, congrArg (Value.int .i64) (by omega), by omega, by omega⟩
                case measure => simp [intOf]; omega
              · obtain rfl : W = M := by omega
                clear hWlt hWM
                go_upto_region 23 with fail
                go_cut [109] (fun s109 wx => s109 = .bool false ∧ wx = w9)
                case first =>
                  by_cases hW60 : W ≤ 60
                  · have x0 : w9.cell? ⟨g + 1, W, none⟩ = some (.bool false) := by
                      have := HCX2.out W (by omega)
                      rwa [HMI.out] at this
                    have q1 : decide ((W : Int) ≤ 60) = true := decide_eq_true (by omega)
                    have q2 : (0 : Int) ≤ (W : Int) := by omega
                    have q3 : (W : Int) < 61 := by omega
                    go_wp2_with fail
                    go_meet
                    exact ⟨rfl, rfl⟩
                  · have q1 : decide ((W : Int) ≤ 60) = false := decide_eq_false (by omega)
                    go_wp2_with fail
                    go_meet
                    exact ⟨rfl, rfl⟩
                case rest =>
                  obtain ⟨rfl, hwc⟩ := hcut
                  subst hwc
                  go_wp2_with fail
                  go_loop [14, 15] (fun waits_ m_ => ∃ J q : Nat, m_ = .int .i64 J ∧ W ≤ J ∧ J ≤ 61 ∧ waits_ = .int .i64 q ∧ q + cnt (upd c N) (61 - J) J = mq) (fun _ m_ => 61 - (intOf m_).toNat)
                  case atStart => exact ⟨W, 0, rfl, Nat.le_refl _, hM61, rfl, by rw [HWT.out]; omega⟩
                  case round =>
                    obtain ⟨J, q, rfl, hWJ, hJ61, rfl, hq⟩ := hrel
                    have HQ := Lib.hid hq
                    have hqm : q ≤ mq := by omega
                    clear hq
                    by_cases hJ : J ≤ 60
                    · have hcs : Hid (cnt (upd c N) (61 - J) J = (if upd c N J = true then 1 else 0) + cnt (upd c N) (61 - (J + 1)) ((J : Int) + 1)) := Lib.hid (by
                        rw [show 61 - J = (61 - (J + 1)) + 1 by omega]
                        rfl)
                      have x0 := HCX2.out J (by omega)
                      obtain ⟨t2, ht2⟩ : ∃ t2, upd c N (J : Int) = t2 := ⟨_, rfl⟩
                      rw [ht2] at x0 hcs
                      clear ht2
                      have q1 : decide ((J : Int) ≤ 60) = true := decide_eq_true (by omega)
                      have q2 : (0 : Int) ≤ (J : Int) := by omega
                      have q3 : (J : Int) < 61 := by omega
                      have q4 : IntKind.i64.wrap ((q : Int) + 1) = (q : Int) + 1 := by rw [IntKind.wrap_i64]; omega
                      cases t2
                      · have HQ2 : Hid (q + cnt (upd c N) (61 - (J + 1)) ((J : Int) + 1) = mq) := Lib.hid (by have := HQ.out; rw [hcs.out] at this; simpa using this)
                        go_wp2_with fail
                        go_round
                        case rel => exact ⟨J + 1, q, congrArg (Value.int .i64) (by omega), by omega, by omega, rfl, HQ2.out⟩
                        case measure => simp [intOf]; omega
                      · have HQ2 : Hid (q + 1 + cnt (upd c N) (61 - (J + 1)) ((J : Int) + 1) = mq) := Lib.hid (by have := HQ.out; rw [hcs.out] at this; simp only [if_true] at this; omega)
                        go_wp2_with fail
                        go_round
                        case rel => exact ⟨J + 1, q + 1, congrArg (Value.int .i64) (by omega), by omega, by omega, rfl, HQ2.out⟩
                        case measure => simp [intOf]; omega
                    · obtain rfl : J = 61 := by omega
                      have hqe : q = mq := by have := HQ.out; simp only [Nat.sub_self] at this; unfold cnt at this; omega
                      subst hqe
                      have q1 : decide ((61 : Int) ≤ 60) = false := by decide
                      have q5 : IntKind.i64.wrap ((W : Int) - 1) = (W : Int) - 1 := by rw [IntKind.wrap_i64]; omega
                      obtain ⟨z0, z1, -, -, -⟩ := HG9.out.facts
                      go_wp2_with fail
                      go_roundw
                      case rel => exact ⟨k + 1, upd c N, m, a', c', congrArg (Value.int .i64) (by omega), by omega, by omega, by rw [HMM.out], HD2.out, HI2.out, by rw [HMM.out, HMQ.out]; exact HG9.out, HR9.out, HC9.out, HB9.out⟩
                      case measure => simp [intOf]; omega
      · have q1 : decide ((k : Int) < 300) = false := decide_eq_false (by omega)
        go_wp2_with fail
        go_ret
        exact ⟨rfl, HBW.out _ HB.out⟩
    · obtain rfl : k = len := by omega
      go_wp2_with fail
      go_ret
      exact ⟨rfl, HBW.out _ HB.out⟩

end Rsq
end Go.Proofs.Ytnldllmlfckecaa
