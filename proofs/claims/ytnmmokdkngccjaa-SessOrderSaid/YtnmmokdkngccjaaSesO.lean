/-
  The walk of layer 7's laws: SessOrder, on what msg.Right and Short tell.
-/
import Derived.Test.YtnmmokdkngccjaaSesD
import Derived.Test.YtnmmokdkngccjaaPlS
import Derived.Test.YtnmmokdkngccjaaStepRow
import Derived.Deep.RegionHeld3
import Derived.Deep.CutBlock
import Derived.Deep.DeepCutAuto
import Derived.Deep.Cut
import Derived.OpenShut

namespace Go.Proofs.Ytnmmokdkngccjaa
open Go.RowKit
namespace Ses
open Num
open Msg (I64)

theorem load_act {ρ : Operand → Value} {d : Option Tmp} {ty : TypeId} {x : Operand} {pos : String} {af : Array Edge} {gd : Option (Nat × Bool)} {w : World} (hp : ρ x = .pointer (some ⟨blkOf (ρ x), offOf (ρ x), none⟩)) (h : CellsOk w (blkOf (ρ x)) (offOf (ρ x)) 20) :
    (execOp ρ ⟨d, .load 38 x, ty, pos, af, gd⟩).run Try.prog w = .ok (.value (.agg (cellsAt w (blkOf (ρ x)) (offOf (ρ x)) 20))) w :=
  run_load_cells 20 _ Try.underlying38 rfl (by kernel_rfl) hp h
attribute [local go_sem ↓] load_sess load_act
attribute [local go_sem] blkOf_ptr offOf_ptr
theorem act_at {w : World} {b off cap : Nat} {l : List Ac} (hr : RowAt encA w (some ⟨b, off, none⟩) cap l) {k : Nat} {x : Ac} (hx : l[k]? = some x) : w.rangeAt b (off + k * 20) x.arr.toList := fun j v hv => by
  have hn : 0 < l.length := by
    cases l with
    | nil => cases hx
    | cons => simp
  obtain ⟨b', off', e, hc⟩ := hr.at hn (by decide)
  obtain ⟨rfl, rfl⟩ : b = b' ∧ off = off' := by
    have := Option.some.inj e
    injection this with h1 h2
    exact ⟨h1, h2⟩
  have h1 := hc k x hx j v hv
  rw [show off + k * 20 + j = off + (k * encA.size + j) from Nat.add_assoc ..]
  exact h1
theorem drop_cons {α : Type} {l : List α} {k : Nat} {x : α} (h : l[k]? = some x) : l.drop k = x :: l.drop (k + 1) := by
  have hk := (List.getElem?_eq_some_iff.1 h).1
  rw [List.drop_eq_getElem_cons hk]
  congr 1
  exact (List.getElem?_eq_some_iff.1 h).2
theorem do_is (d f : Array Value) (s : Se) (x : Ac) (hx : x.Fits) (now : Int) (a : Option Addr) (cap n : Nat) (hd : d = s.arr a n cap) (hf : f = x.arr) (hn : s.inn.held.length = n) (hn9 : n ≤ 100000000) (w : World) (hr : RowAt Rsq.encI w a cap s.inn.held) (hl : Laid w)
    (r : Se) (l t : List Msg.Ms) (p q u : Nat) (hp : doS x.k s x.m now = (r, l, t)) (hm : r.inn.held.length = p) (hq : l.length = q) (hu : t.length = u) :
    Calls Try.prog 10 #[.agg d, .agg f, .int .i64 now] w fun e w' => ∃ a' c' b' d' p' q', e = .returned (.tuple #[.agg (r.arr a' p c'), .slice b' q d', .slice p' u q']) ∧
      RowAt Rsq.encI w' a' c' r.inn.held ∧ RowAt encM w' b' d' l ∧ RowAt encM w' p' q' t ∧ Below w.heap.size w w' := by
  subst hd hf hm hq hu
  have h := do_any s x hx now a cap n hn hn9 w hr hl
  rw [hp] at h
  exact h
/-- what is told of a list's rest, what is said of it -/
theorem told_here {last nx : Int} {l : List Msg.Ms} {k : Nat} {m : Msg.Ms} (h : Told last (l.drop k) nx) (hm : l[k]? = some m) : m.kind = 7 ∧ last < m.seq ∧ m.seq < nx ∧ Told m.seq (l.drop (k + 1)) nx := by
  rw [drop_cons hm] at h
  exact h
theorem told_end {last nx : Int} {l : List Msg.Ms} {k : Nat} (h : Told last (l.drop k) nx) (hk : l.length = k) : last < nx := by
  rw [List.drop_of_length_le (by omega)] at h
  exact h
theorem said_here {now o p : Int} {l : List Msg.Ms} {k : Nat} {m : Msg.Ms} (h : Said now o (l.drop k) p) (hm : l[k]? = some m) :
    Msg.rightM m = true ∧ m.time = now ∧ ((m.kind = 5 ∧ Said now o (l.drop (k + 1)) p) ∨ (m.kind ≠ 5 ∧ m.seq = o + 1 ∧ Said now (o + 1) (l.drop (k + 1)) p)) := by
  rw [drop_cons hm] at h
  exact h
theorem said_end {now o p : Int} {l : List Msg.Ms} {k : Nat} (h : Said now o (l.drop k) p) (hk : l.length = k) : o = p := by
  rw [List.drop_of_length_le (by omega)] at h
  exact h
/-- numbers that are said rise up to the last one -/
theorem said_le {now : Int} : ∀ {l : List Msg.Ms} {o p : Int}, Said now o l p → o ≤ p
  | [], o, p, h => by
    obtain rfl : o = p := h
    exact Int.le_refl _
  | _ :: _, _, _, h => by
    rcases h.2.2 with ⟨_, h⟩ | ⟨_, _, h⟩ <;> have := said_le h <;> omega
theorem told_lt {nx : Int} : ∀ {l : List Msg.Ms} {last : Int}, Told last l nx → last < nx
  | [], _, h => h
  | _ :: _, _, h => by have := told_lt h.2.2.2; have := h.2.1; omega

set_option maxRecDepth 100000 in
set_option maxHeartbeats 32000000 in
theorem order_of (hmr : ∀ (m : Msg.Ms), m.Fits → ∀ w : World, Laid w → Calls Try.prog 11 #[.agg m.cells] w fun e w' => e = .returned (.bool (Msg.rightM m)) ∧ Below w.heap.size w w')
    (hsh : ∀ (m : Msg.Ms), m.Fits → ∀ w : World, Calls Try.prog 9 #[.agg m.cells] w fun e w' => ∃ b, e = .returned (.bool b) ∧ Below w.heap.size w w')
    (every : Int) (a : Option Addr) (len cap : Nat) (xs : List Ac) (w : World) (he : (Lit.int .u8 every).wf = true) (hx : IsAcs w a len cap xs) (hl : Laid w) :
    Calls Try.prog 3 #[.int .u8 every, .slice a len cap] w fun e w' => e = .returned (.bool true) ∧ Below w.heap.size w w' := by
  have HMR := Lib.hid hmr
  have HSH := Lib.hid hsh
  have HL := Lib.hid hl
  have he := bounds_u8 he
  obtain ⟨hxl, hxm, hxr, hxf⟩ := hx
  have hm1 : len ≤ 9223372036854775807 := by unfold maxLen at hxm; omega
  have HXL := Lib.hid hxl
  have HXF := Lib.hid hxf
  have HXR := Lib.hid hxr
  clear hmr hsh hl hxl hxm hxr hxf
  have HLW : Hid (∀ W, Below w.heap.size w W → Laid W ∧ RowAt encA W a cap xs) := Lib.hid fun W h => ⟨HL.out.below h, HXR.out.later h⟩
  obtain ⟨n, hn⟩ : ∃ n : Int, every + 1 = n := ⟨_, rfl⟩
  have n0 : 0 < n := by omega
  have n1 : n ≤ 256 := by omega
  go_enter Try.func3, Try.ntmps3
  go_wp2_with fail
  refine (awake7_any _ HL.out).mono ?_
  rintro e w1 ⟨rfl, hb1⟩
  have HB1 := Lib.hid hb1
  clear hb1
  have ew : IntKind.i64.wrap (every + 1) = n := by rw [IntKind.wrap_i64]; omega
  have ⟨hnew, hfit⟩ := new_fit n0 (by omega : n ≤ 1048576)
  have HFIT := Lib.hid hfit
  have HNEW := Lib.hid hnew
  clear hfit hnew
  go_wp2_with fail
  refine (new_is n _ (HLW.out _ HB1.out).1 _ 0 0 HNEW.out rfl).mono ?_
  rintro e w2 ⟨a2, c2, rfl, hr, hb⟩
  generalize hq0 : (⟨0, ⟨1, []⟩, 1, n, 0, 0, 0, 0, false⟩ : Se) = q0 at HFIT hr ⊢
  have HQ0 : Hid (q0.inn.held.length = 0 ∧ q0.out = 1) := Lib.hid (by rw [← hq0]; exact ⟨rfl, rfl⟩)
  clear hq0 HNEW
  go_upto_region 4 with (refine wpList_store_row rfl 28 _ _ rfl w2.heap.size (q0.arr a2 0 c2) rfl rfl _ _ (heap_alloc_last _ _) (arr_info _ _ _ _) rfl (arr_one _ _ _ _) ?_; rw [World.setRow_alloc_new])
  have hbl : Below w2.heap.size w2 (w2.alloc (.cells (q0.arr a2 0 c2) 28)) := (Below.refl _ _).alloc (Nat.le_refl _) _
  have hb2 := HB1.out.trans (hb.mono HB1.out.size)
  have HG := Lib.hid (SeAt.made w2 q0 a2 0 c2)
  have HR := Lib.hid (hr.later hbl)
  have HB := Lib.hid (hb2.trans (hbl.mono hb2.size))
  obtain ⟨g, hg⟩ : ∃ g, w2.heap.size = g := ⟨_, rfl⟩
  have HGS : Hid (w.heap.size ≤ g) := Lib.hid (hg ▸ hb2.size)
  rw [hg] at HG ⊢
  clear hbl hb2 hr hb HB1 hn ew he
  generalize w2.alloc (.cells (q0.arr a2 0 c2) 28) = w3 at HG HR HB ⊢
  clear hg
  go_wp2_with fail
  go_loopw [7, 8, 9, 10] (fun n_ l_ o_ i_ wr => ∃ (i : Nat) (now last out : Int) (s : Se) (a4 : Option Addr) (c4 n4 : Nat), n_ = .int .i64 now ∧ l_ = .int .i64 last ∧ o_ = .int .i64 out ∧ i_ = .int .i64 i ∧ i ≤ len ∧ i ≤ 100 ∧ 0 ≤ now ∧ now ≤ 255 * i ∧ 0 ≤ out ∧ out ≤ 3 * i ∧
    Hid (Fit s last out) ∧ Hid (s.inn.held.length = n4) ∧ Hid (SeAt wr g s a4 n4 c4) ∧ Hid (RowAt Rsq.encI wr a4 c4 s.inn.held) ∧ Hid (Below w.heap.size w wr)) (fun _ _ _ i_ _ => len - (intOf i_).toNat)
  case atStart => exact ⟨0, 0, 0, 0, q0, a2, c2, 0, rfl, rfl, rfl, rfl, Nat.zero_le _, Nat.zero_le _, by decide, by decide, by decide, by decide, HFIT.out, HQ0.out.1, HG.out, by have h := HR.out; exact h, HB.out⟩
  case round =>
    obtain ⟨i, now, last, out, s, a4, c4, n4, rfl, rfl, rfl, rfl, hil, hi1, t0, t1, o0, o1, HFI, HN4, HGI, HRI, HBI⟩ := hrel
    clear HG HR HB HFIT HQ0
    by_cases hlt : i < len
    · by_cases h100 : i < 100
      · have q2 : decide ((i : Int) < 100) = true := decide_eq_true (by omega)
        obtain ⟨x, hx⟩ : ∃ x, xs[i]? = some x := ⟨xs[i]'(by rw [HXL.out]; exact hlt), List.getElem?_eq_getElem _⟩
        obtain ⟨b, off, rfl, _⟩ := (HLW.out _ HBI.out).2.at (by rw [HXL.out]; omega) (by decide)
        have hcap : len ≤ cap := by
          rcases HXR.out with ⟨h, _⟩ | ⟨_, _, h, _⟩
          · cases h
          · rwa [HXL.out] at h
        have HXX := Lib.hid (HXF.out x (List.mem_of_getElem? hx))
        have HAK : Hid (∀ W, Below w.heap.size w W → W.rangeAt b (off + i * 20) x.arr.toList) := Lib.hid fun W h => act_at (HLW.out W h).2 hx
        have hmo := HXX.out.more
        have HMS := Lib.hid (act_msg (HAK.out _ HBI.out))
        clear hx
        go_wp2_with (refine wpList_load_arr_g (by rfl) 36 _ rfl b (off + i * 20 + 1) rfl x.m.cells _ HMS.out Try.underlying36 rfl (msg_info _) ?_)
        refine (HSH.out x.m HXX.out.m _).mono ?_
        rintro e w5 ⟨bs, rfl, hb⟩
        have HG5 := Lib.hid (HGI.out.later hb)
        have HR5 := Lib.hid (HRI.out.later hb)
        have HB5 := Lib.hid (HBI.out.trans (hb.mono HBI.out.size))
        clear hb HGI HRI HBI HMS
        cases bs
        · go_wp2_with fail
          go_ret
          exact ⟨rfl, HB5.out⟩
        have m19 : w5.cell? ⟨b, off + i * 20 + 19, none⟩ = some (.int .u8 x.more) := HAK.out _ HB5.out 19 _ rfl
        have ew2 : IntKind.i64.wrap (now + x.more) = now + x.more := by rw [IntKind.wrap_i64]; omega
        obtain ⟨now2, hnow⟩ : ∃ t, now + x.more = t := ⟨_, rfl⟩
        have u0 : 0 ≤ now2 := by omega
        have u1 : now2 ≤ 255 * (i + 1) := by omega
        obtain ⟨⟨r, l, tl⟩, hdo⟩ : ∃ r, doS x.k s x.m now2 = r := ⟨_, rfl⟩
        have hnext : Next s last out now2 r l tl := by
          have h := do_next (m := x.m) (k := x.k) (now := now2) HFI.out (by have := HFI.out.out; omega)
          rw [hdo] at h
          exact h
        have HDO := Lib.hid hdo
        have HNX := Lib.hid hnext
        obtain ⟨rn, hrn⟩ : ∃ k, r.inn.held.length = k := ⟨_, rfl⟩
        obtain ⟨lq, hlq⟩ : ∃ k, l.length = k := ⟨_, rfl⟩
        obtain ⟨tq, htq⟩ : ∃ k, tl.length = k := ⟨_, rfl⟩
        have HRN := Lib.hid hrn
        have HLQ := Lib.hid hlq
        have HTQ := Lib.hid htq
        have hn4 : n4 ≤ 64 := by rw [← HN4.out]; exact ((Rsq.right_iff _).1 ((rightS_iff s).1 HFI.out.right).2.1).2.2.1
        have hrn6 : rn ≤ 64 := by rw [← hrn]; exact ((Rsq.right_iff _).1 ((rightS_iff r).1 hnext.right).2.1).2.2.1
        have hdl := do_len x.k s x.m now2
        rw [hdo] at hdl
        have hlq5 : lq ≤ 5 := by rw [← hlq]; exact hdl.1
        have htq6 : tq ≤ 65 := by rw [← htq]; exact hdl.2
        rw [hnow] at ew2
        clear hdl hdo hnext hrn hlq htq
        go_upto_region 13 with fail
        clear hnow m19 ew2
        have hgw : g < w5.heap.size := HG5.out.lt
        have HXK : Hid (∀ W, Below w5.heap.size w5 W → CellsOk W g 0 10 ∧ cellsAt W g 0 10 = s.arr a4 n4 c4 ∧ CellsOk W b (off + i * 20) 20 ∧ cellsAt W b (off + i * 20) 20 = x.arr) := Lib.hid fun W hW => by
          have h1 := CellsOk.of (HG5.out.later hW).range
          have h2 := CellsOk.of (HAK.out W (HB5.out.trans (hW.mono HB5.out.size)))
          exact ⟨h1.1, h1.2, h2.1, h2.2⟩
        go_cut [11, 12, 13] (fun s11 s12 s13 wx => ∃ p a6 c6 b6 d6 p6 q6, s11 = .pointer (some ⟨p, 0, none⟩) ∧ s12 = .slice b6 lq d6 ∧ s13 = .slice p6 tq q6 ∧ Hid (g < p) ∧ Hid (SeAt wx p r a6 rn c6) ∧ Hid (RowAt Rsq.encI wx a6 c6 r.inn.held) ∧ Hid (RowAt encM wx b6 d6 l) ∧ Hid (RowAt encM wx p6 q6 tl) ∧ Hid (Below w5.heap.size w5 wx))
        case first =>
          have hb0 : Below w5.heap.size w5 w5.drew := (Below.refl _ _).drew
          have HCL : Hid (∀ W, Below w5.heap.size w5 W → Calls Try.prog 10 #[.agg (s.arr a4 n4 c4), .agg x.arr, .int .i64 now2] W fun e w' => ∃ a' c' b' d' p' q', e = .returned (.tuple #[.agg (r.arr a' rn c'), .slice b' lq d', .slice p' tq q']) ∧
              RowAt Rsq.encI w' a' c' r.inn.held ∧ RowAt encM w' b' d' l ∧ RowAt encM w' p' q' tl ∧ Below W.heap.size W w') := Lib.hid fun W hW =>
            do_is _ _ s x HXX.out now2 a4 c4 n4 rfl rfl HN4.out (by omega) W (HR5.out.later hW) (HLW.out W (HB5.out.trans (hW.mono HB5.out.size))).1 r l tl rn lq tq HDO.out HRN.out HLQ.out HTQ.out
          refine wp_region_held_drew (S := (fun w' => Below w5.heap.size w5 w' ∧ CellsOk w' g 0 10 ∧ cellsAt w' g 0 10 = s.arr a4 n4 c4 ∧ CellsOk w' b (off + i * 20) 20 ∧ cellsAt w' b (off + i * 20) 20 = x.arr)) (by kernel_rfl) ?hs0 (fun hHeld => ?_)
          case hs0 => exact ⟨hb0, HXK.out _ hb0⟩
          refine' wpAnyH_take (i := 0) (oi := _) (v := _) rfl (by kernel_rfl) (by kernel_rfl) (by kernel_rfl) (fun _ _ _ h => h) (Or.inl ⟨by rfl, ?hy⟩) (by assumption) ?_
          case hy => (intro w hSw; (try dsimp only at hSw); (try simp only [List.getElem_toArray, List.getElem_cons_zero]); go_simp; try with_reducible rfl)
          try simp only [List.getElem_toArray, List.getElem_cons_zero, Act.put, List.setIfInBounds_toArray, List.set_cons_zero, List.set_cons_succ]
          refine' wpAnyH_take (i := 1) (oi := _) (v := _) rfl (by kernel_rfl) (by kernel_rfl) (by kernel_rfl) (fun _ _ _ h => h) (Or.inl ⟨by rfl, ?hy⟩) (by assumption) ?_
          case hy => (intro w hSw; (try dsimp only at hSw); (try simp only [List.getElem_toArray, List.getElem_cons_zero, List.getElem_cons_succ]); go_simp; try with_reducible rfl)
          try simp only [List.getElem_toArray, List.getElem_cons_zero, List.getElem_cons_succ, Act.put, List.setIfInBounds_toArray, List.set_cons_zero, List.set_cons_succ]
          refine' wpAnyH_take (i := 2) (oi := _) (v := _) rfl (by kernel_rfl) (by kernel_rfl) (by kernel_rfl) (fun _ _ _ h => h) (Or.inl ⟨by rfl, ?hy⟩) (by assumption) ?_
          case hy => (intro w hSw; (try dsimp only at hSw); (try simp only [List.getElem_toArray, List.getElem_cons_zero, List.getElem_cons_succ]); go_simp; try with_reducible rfl)
          try simp only [List.getElem_toArray, List.getElem_cons_zero, List.getElem_cons_succ, Act.put, List.setIfInBounds_toArray, List.set_cons_zero, List.set_cons_succ]
          refine' wpAnyH_take (i := 3) (oi := _) (v := _) rfl (by kernel_rfl) (by kernel_rfl) (by kernel_rfl) (fun _ _ _ h => h) (Or.inl ⟨by rfl, ?hy⟩) (by assumption) ?_
          case hy => (intro w hSw; (try dsimp only at hSw); (try simp only [List.getElem_toArray, List.getElem_cons_zero, List.getElem_cons_succ]); go_simp; try with_reducible rfl)
          try simp only [List.getElem_toArray, List.getElem_cons_zero, List.getElem_cons_succ, Act.put, List.setIfInBounds_toArray, List.set_cons_zero, List.set_cons_succ]
          refine' wpAnyH_take (i := 4) (oi := _) (v := _) rfl (by kernel_rfl) (by kernel_rfl) (by kernel_rfl) (fun _ _ _ h => h) (Or.inl ⟨by rfl, ?hy⟩) (by assumption) ?_
          case hy => (intro w hSw; (try dsimp only at hSw); (try simp only [List.getElem_toArray, List.getElem_cons_zero, List.getElem_cons_succ]); go_simp; try with_reducible rfl)
          try simp only [List.getElem_toArray, List.getElem_cons_zero, List.getElem_cons_succ, Act.put, List.setIfInBounds_toArray, List.set_cons_zero, List.set_cons_succ]
          refine' wpAnyH_take (i := 5) (oi := _) (v := _) rfl (by kernel_rfl) (by kernel_rfl) (by kernel_rfl) (fun _ _ _ h => h) (Or.inl ⟨by rfl, ?hy⟩) (by assumption) ?_
          case hy => (intro w hSw; (try dsimp only at hSw); (try simp only [List.getElem_toArray, List.getElem_cons_zero, List.getElem_cons_succ]); go_simp; try with_reducible rfl)
          try simp only [List.getElem_toArray, List.getElem_cons_zero, List.getElem_cons_succ, Act.put, List.setIfInBounds_toArray, List.set_cons_zero, List.set_cons_succ]
          refine wpAnyH_ready (rs := [6, 11]) (by kernel_rfl) (by simp) ?_
          refine AllReadyH.cons (o := _) rfl (fun K hK => ?_) (AllReadyH.cons (o := _) rfl (fun K hK => ?_) AllReadyH.nil)
          · try simp only [List.getElem_toArray, List.getElem_cons_zero, List.getElem_cons_succ, Act.put, List.setIfInBounds_toArray, List.set_cons_zero, List.set_cons_succ]
            go_simp
            refine (HCL.out _ hb0).mono ?_
            rintro e w6 ⟨a', c', b', d', p', q', rfl, hr6, hm6, ht6, hb6⟩
            have hb7 : Below w5.heap.size w5 w6 := hb0.trans (hb6.mono (Nat.le_refl _))
            go_wp2_with fail
            refine hK.out _ _ ?hs1 (fun hHeld => ?_)
            case hs1 => exact ⟨hb7, HXK.out _ hb7⟩
            clear hK K
            try simp only [List.getElem_toArray, List.getElem_cons_zero, List.getElem_cons_succ, Act.put, List.setIfInBounds_toArray, List.set_cons_zero, List.set_cons_succ]
            refine' wpAnyH_take (i := 7) (oi := _) (v := _) rfl (by kernel_rfl) (by kernel_rfl) (by kernel_rfl) (fun _ _ _ h => h) (Or.inl ⟨by rfl, ?hy⟩) (by assumption) ?_
            case hy => (intro w hSw; (try dsimp only at hSw); (try simp only [List.getElem_toArray, List.getElem_cons_zero, List.getElem_cons_succ]); go_simp; try with_reducible rfl)
            try simp only [List.getElem_toArray, List.getElem_cons_zero, List.getElem_cons_succ, Act.put, List.setIfInBounds_toArray, List.set_cons_zero, List.set_cons_succ]
            refine' wpAnyH_take (i := 8) (oi := _) (v := _) rfl (by kernel_rfl) (by kernel_rfl) (by kernel_rfl) (fun _ _ _ h => h) (Or.inl ⟨by rfl, ?hy⟩) (by assumption) ?_
            case hy => (intro w hSw; (try dsimp only at hSw); (try simp only [List.getElem_toArray, List.getElem_cons_zero, List.getElem_cons_succ]); go_simp; try with_reducible rfl)
            try simp only [List.getElem_toArray, List.getElem_cons_zero, List.getElem_cons_succ, Act.put, List.setIfInBounds_toArray, List.set_cons_zero, List.set_cons_succ]
            refine' wpAnyH_take (i := 9) (oi := _) (v := _) rfl (by kernel_rfl) (by kernel_rfl) (by kernel_rfl) (fun _ _ _ h => h) (Or.inl ⟨by rfl, ?hy⟩) (by assumption) ?_
            case hy => (intro w hSw; (try dsimp only at hSw); (try simp only [List.getElem_toArray, List.getElem_cons_zero, List.getElem_cons_succ]); go_simp; try with_reducible rfl)
            try simp only [List.getElem_toArray, List.getElem_cons_zero, List.getElem_cons_succ, Act.put, List.setIfInBounds_toArray, List.set_cons_zero, List.set_cons_succ]
            refine' wpAnyH_take (i := 10) (oi := _) (v := _) rfl (by kernel_rfl) (by kernel_rfl) (by kernel_rfl) (fun _ _ _ h => h) (Or.inl ⟨by rfl, ?hy⟩) (by assumption) ?_
            case hy => (intro w hSw; (try dsimp only at hSw); (try simp only [List.getElem_toArray, List.getElem_cons_zero, List.getElem_cons_succ]); go_simp; try with_reducible rfl)
            try simp only [List.getElem_toArray, List.getElem_cons_zero, List.getElem_cons_succ, Act.put, List.setIfInBounds_toArray, List.set_cons_zero, List.set_cons_succ]
            refine wpAnyH_ready (rs := [11]) (by kernel_rfl) (by simp) ?_
            refine AllReadyH.cons (o := _) rfl (fun K hK => ?_) AllReadyH.nil
            try simp only [List.getElem_toArray, List.getElem_cons_zero, List.getElem_cons_succ, Act.put, List.setIfInBounds_toArray, List.set_cons_zero, List.set_cons_succ]
            go_simp
            have hb8 : Below w5.heap.size w5 (w6.alloc (.cells #[.int .i64 0, .int .i64 0, .slice none 0 0, .int .i64 0, .int .i64 0, .int .i64 0, .int .i64 0, .int .i64 0, .int .i64 0, .bool false] 28)) := hb7.alloc hb7.size _
            have hal : Below w6.heap.size w6 (w6.alloc (.cells #[.int .i64 0, .int .i64 0, .slice none 0 0, .int .i64 0, .int .i64 0, .int .i64 0, .int .i64 0, .int .i64 0, .int .i64 0, .bool false] 28)) := (Below.refl _ _).alloc (Nat.le_refl _) _
            have hr8 := hr6.later hal
            have hm8 := hm6.later hal
            have ht8 := ht6.later hal
            have hz8 : SeAt (w6.alloc (.cells #[.int .i64 0, .int .i64 0, .slice none 0 0, .int .i64 0, .int .i64 0, .int .i64 0, .int .i64 0, .int .i64 0, .int .i64 0, .bool false] 28)) w6.heap.size z0 none 0 0 := SeAt.made w6 z0 none 0 0
            refine hK.out _ _ ?hs1 (fun hHeld => ?_)
            case hs1 => exact ⟨hb8, HXK.out _ hb8⟩
            clear hK K
            try simp only [List.getElem_toArray, List.getElem_cons_zero, List.getElem_cons_succ, Act.put, List.setIfInBounds_toArray, List.set_cons_zero, List.set_cons_succ]
            obtain ⟨p, hp⟩ : ∃ p, w6.heap.size = p := ⟨_, rfl⟩
            have hgp : g < p := by have := hb7.size; omega
            have hwp : w5.heap.size ≤ p := by have := hb7.size; omega
            rw [hp] at hz8 ⊢
            generalize w6.alloc (.cells #[.int .i64 0, .int .i64 0, .slice none 0 0, .int .i64 0, .int .i64 0, .int .i64 0, .int .i64 0, .int .i64 0, .int .i64 0, .bool false] 28) = w8 at hb8 hr8 hm8 ht8 hz8 hHeld ⊢
            clear hp hal hb6 hr6 hm6 ht6 hb7
            refine wpAnyH_ready (rs := [12]) (by kernel_rfl) (by simp) ?_
            refine AllReadyH.cons (o := _) rfl (fun K hK => ?_) AllReadyH.nil
            try simp only [List.getElem_toArray, List.getElem_cons_zero, List.getElem_cons_succ, Act.put]
            have HZ8 := Lib.hid hz8
            have HGP := Lib.hid hgp
            have HR9 := Lib.hid (HZ8.out.row (by decide) hr8 (r.arr a' rn c'))
            have HM9 := Lib.hid (HZ8.out.row (by decide) hm8 (r.arr a' rn c'))
            have HT9 := Lib.hid (HZ8.out.row (by decide) ht8 (r.arr a' rn c'))
            have HP9 := Lib.hid (HZ8.out.put r a' rn c')
            have HB9 := Lib.hid (below_setRow hb8 hwp (r.arr a' rn c'))
            refine step_store_row rfl 28 (.tmp 11) (.tmp 61) rfl p (r.arr a' rn c') rfl rfl _ _ HZ8.out (arr_info _ _ _ _) rfl (arr_one _ _ _ _) ?_
            generalize w8.setRow p (r.arr a' rn c') = w9 at HR9 HM9 HT9 HP9 HB9 ⊢
            refine hK.out _ _ ?hs1 (fun hHeld => ?_)
            case hs1 => exact ⟨HB9.out, HXK.out _ HB9.out⟩
            clear hK K
            try simp only [Act.put]
            refine' wpAnyH_take (i := 13) (oi := _) (v := _) rfl (by kernel_rfl) (by kernel_rfl) (by kernel_rfl) (fun _ _ _ h => h) (Or.inl ⟨by rfl, ?hy⟩) (by assumption) ?_
            case hy => (intro w hSw; (try dsimp only at hSw); (try simp only [List.getElem_toArray, List.getElem_cons_zero, List.getElem_cons_succ]); go_simp; try with_reducible rfl)
            try simp only [List.getElem_toArray, List.getElem_cons_zero, List.getElem_cons_succ, Act.put, List.setIfInBounds_toArray, List.set_cons_zero, List.set_cons_succ]
            refine' wpAnyH_take (i := 14) (oi := _) (v := _) rfl (by kernel_rfl) (by kernel_rfl) (by kernel_rfl) (fun _ _ _ h => h) (Or.inl ⟨by rfl, ?hy⟩) (by assumption) ?_
            case hy => (intro w hSw; (try dsimp only at hSw); (try simp only [List.getElem_toArray, List.getElem_cons_zero, List.getElem_cons_succ]); go_simp; try with_reducible rfl)
            try simp only [List.getElem_toArray, List.getElem_cons_zero, List.getElem_cons_succ, Act.put, List.setIfInBounds_toArray, List.set_cons_zero, List.set_cons_succ]
            refine wpAnyH_done (by kernel_rfl) ?_ _
            go_wp2_with fail
            go_meet
            exact ⟨p, a', c', b', d', p', q', rfl, rfl, rfl, HGP, HP9, HR9, HM9, HT9, HB9⟩
          · try simp only [List.getElem_toArray, List.getElem_cons_zero, List.getElem_cons_succ, Act.put, List.setIfInBounds_toArray, List.set_cons_zero, List.set_cons_succ]
            go_simp
            have hz5 : SeAt (w5.alloc (.cells #[.int .i64 0, .int .i64 0, .slice none 0 0, .int .i64 0, .int .i64 0, .int .i64 0, .int .i64 0, .int .i64 0, .int .i64 0, .bool false] 28)).drew w5.heap.size z0 none 0 0 := SeAt.made w5 z0 none 0 0
            have hb5 : Below w5.heap.size w5 (w5.alloc (.cells #[.int .i64 0, .int .i64 0, .slice none 0 0, .int .i64 0, .int .i64 0, .int .i64 0, .int .i64 0, .int .i64 0, .int .i64 0, .bool false] 28)).drew := ((Below.refl _ _).alloc (Nat.le_refl _) _).drew
            refine hK.out _ _ ?hs1 (fun hHeld => ?_)
            case hs1 => exact ⟨hb5, HXK.out _ hb5⟩
            clear hK K
            try simp only [List.getElem_toArray, List.getElem_cons_zero, List.getElem_cons_succ, Act.put, List.setIfInBounds_toArray, List.set_cons_zero, List.set_cons_succ]
            have hgp : g < w5.heap.size := hgw
            have hwp : w5.heap.size ≤ w5.heap.size := Nat.le_refl _
            generalize (w5.alloc (.cells #[.int .i64 0, .int .i64 0, .slice none 0 0, .int .i64 0, .int .i64 0, .int .i64 0, .int .i64 0, .int .i64 0, .int .i64 0, .bool false] 28)).drew = w6 at hb5 hz5 hHeld ⊢
            clear hb0
            refine wpAnyH_ready (rs := [6]) (by kernel_rfl) (by simp) ?_
            refine AllReadyH.cons (o := _) rfl (fun K hK => ?_) AllReadyH.nil
            try simp only [List.getElem_toArray, List.getElem_cons_zero, List.getElem_cons_succ, Act.put, List.setIfInBounds_toArray, List.set_cons_zero, List.set_cons_succ]
            go_simp
            refine (HCL.out _ hb5).mono ?_
            rintro e w8 ⟨a', c', b', d', p', q', rfl, hr8, hm8, ht8, hb6⟩
            have hb8 : Below w5.heap.size w5 w8 := hb5.trans (hb6.mono hb5.size)
            have hz8 := hz5.later hb6
            go_wp2_with fail
            refine hK.out _ _ ?hs1 (fun hHeld => ?_)
            case hs1 => exact ⟨hb8, HXK.out _ hb8⟩
            clear hK K
            try simp only [List.getElem_toArray, List.getElem_cons_zero, List.getElem_cons_succ, Act.put, List.setIfInBounds_toArray, List.set_cons_zero, List.set_cons_succ]
            refine' wpAnyH_take (i := 7) (oi := _) (v := _) rfl (by kernel_rfl) (by kernel_rfl) (by kernel_rfl) (fun _ _ _ h => h) (Or.inl ⟨by rfl, ?hy⟩) (by assumption) ?_
            case hy => (intro w hSw; (try dsimp only at hSw); (try simp only [List.getElem_toArray, List.getElem_cons_zero, List.getElem_cons_succ]); go_simp; try with_reducible rfl)
            try simp only [List.getElem_toArray, List.getElem_cons_zero, List.getElem_cons_succ, Act.put, List.setIfInBounds_toArray, List.set_cons_zero, List.set_cons_succ]
            refine' wpAnyH_take (i := 8) (oi := _) (v := _) rfl (by kernel_rfl) (by kernel_rfl) (by kernel_rfl) (fun _ _ _ h => h) (Or.inl ⟨by rfl, ?hy⟩) (by assumption) ?_
            case hy => (intro w hSw; (try dsimp only at hSw); (try simp only [List.getElem_toArray, List.getElem_cons_zero, List.getElem_cons_succ]); go_simp; try with_reducible rfl)
            try simp only [List.getElem_toArray, List.getElem_cons_zero, List.getElem_cons_succ, Act.put, List.setIfInBounds_toArray, List.set_cons_zero, List.set_cons_succ]
            refine' wpAnyH_take (i := 9) (oi := _) (v := _) rfl (by kernel_rfl) (by kernel_rfl) (by kernel_rfl) (fun _ _ _ h => h) (Or.inl ⟨by rfl, ?hy⟩) (by assumption) ?_
            case hy => (intro w hSw; (try dsimp only at hSw); (try simp only [List.getElem_toArray, List.getElem_cons_zero, List.getElem_cons_succ]); go_simp; try with_reducible rfl)
            try simp only [List.getElem_toArray, List.getElem_cons_zero, List.getElem_cons_succ, Act.put, List.setIfInBounds_toArray, List.set_cons_zero, List.set_cons_succ]
            refine' wpAnyH_take (i := 10) (oi := _) (v := _) rfl (by kernel_rfl) (by kernel_rfl) (by kernel_rfl) (fun _ _ _ h => h) (Or.inl ⟨by rfl, ?hy⟩) (by assumption) ?_
            case hy => (intro w hSw; (try dsimp only at hSw); (try simp only [List.getElem_toArray, List.getElem_cons_zero, List.getElem_cons_succ]); go_simp; try with_reducible rfl)
            try simp only [List.getElem_toArray, List.getElem_cons_zero, List.getElem_cons_succ, Act.put, List.setIfInBounds_toArray, List.set_cons_zero, List.set_cons_succ]
            refine wpAnyH_ready (rs := [12]) (by kernel_rfl) (by simp) ?_
            refine AllReadyH.cons (o := _) rfl (fun K hK => ?_) AllReadyH.nil
            try simp only [List.getElem_toArray, List.getElem_cons_zero, List.getElem_cons_succ, Act.put]
            have HZ8 := Lib.hid hz8
            have HGP := Lib.hid hgp
            have HR9 := Lib.hid (HZ8.out.row (by decide) hr8 (r.arr a' rn c'))
            have HM9 := Lib.hid (HZ8.out.row (by decide) hm8 (r.arr a' rn c'))
            have HT9 := Lib.hid (HZ8.out.row (by decide) ht8 (r.arr a' rn c'))
            have HP9 := Lib.hid (HZ8.out.put r a' rn c')
            have HB9 := Lib.hid (below_setRow hb8 hwp (r.arr a' rn c'))
            refine step_store_row rfl 28 (.tmp 11) (.tmp 61) rfl w5.heap.size (r.arr a' rn c') rfl rfl _ _ HZ8.out (arr_info _ _ _ _) rfl (arr_one _ _ _ _) ?_
            generalize w8.setRow w5.heap.size (r.arr a' rn c') = w9 at HR9 HM9 HT9 HP9 HB9 ⊢
            refine hK.out _ _ ?hs1 (fun hHeld => ?_)
            case hs1 => exact ⟨HB9.out, HXK.out _ HB9.out⟩
            clear hK K
            try simp only [Act.put]
            refine' wpAnyH_take (i := 13) (oi := _) (v := _) rfl (by kernel_rfl) (by kernel_rfl) (by kernel_rfl) (fun _ _ _ h => h) (Or.inl ⟨by rfl, ?hy⟩) (by assumption) ?_
            case hy => (intro w hSw; (try dsimp only at hSw); (try simp only [List.getElem_toArray, List.getElem_cons_zero, List.getElem_cons_succ]); go_simp; try with_reducible rfl)
            try simp only [List.getElem_toArray, List.getElem_cons_zero, List.getElem_cons_succ, Act.put, List.setIfInBounds_toArray, List.set_cons_zero, List.set_cons_succ]
            refine' wpAnyH_take (i := 14) (oi := _) (v := _) rfl (by kernel_rfl) (by kernel_rfl) (by kernel_rfl) (fun _ _ _ h => h) (Or.inl ⟨by rfl, ?hy⟩) (by assumption) ?_
            case hy => (intro w hSw; (try dsimp only at hSw); (try simp only [List.getElem_toArray, List.getElem_cons_zero, List.getElem_cons_succ]); go_simp; try with_reducible rfl)
            try simp only [List.getElem_toArray, List.getElem_cons_zero, List.getElem_cons_succ, Act.put, List.setIfInBounds_toArray, List.set_cons_zero, List.set_cons_succ]
            refine wpAnyH_done (by kernel_rfl) ?_ _
            go_wp2_with fail
            go_meet
            exact ⟨w5.heap.size, a', c', b', d', p', q', rfl, rfl, rfl, HGP, HP9, HR9, HM9, HT9, HB9⟩
        case rest =>
          obtain ⟨p, a6, c6, b6, d6, p6, q6, rfl, rfl, rfl, HPG, HP, HRP, HM, HT, HBC⟩ := hcut
          have HGC := Lib.hid (HG5.out.later HBC.out)
          have HBW := Lib.hid (HB5.out.trans (HBC.out.mono HB5.out.size))
          go_wp2_with fail
          go_loopw [8, 14] (fun l_ k_ wr => ∃ (k : Nat) (lt : Int), k_ = .int .i64 k ∧ k ≤ tq ∧ l_ = .int .i64 lt ∧ Hid (Told lt (tl.drop k) r.inn.next) ∧ Hid (Below wc.heap.size wc wr)) (fun _ k_ _ => tq - (intOf k_).toNat)
          case atStart => exact ⟨0, last, rfl, Nat.zero_le _, rfl, HNX.out.told, Below.refl _ _⟩
          case round =>
            obtain ⟨k, lt, rfl, hk, rfl, HTO, HBK⟩ := hrel
            by_cases hkt : k < tq
            · obtain ⟨m, hm⟩ : ∃ m, tl[k]? = some m := ⟨tl[k]'(by rw [HTQ.out]; exact hkt), List.getElem?_eq_getElem _⟩
              have ⟨g1, g2, g3, g4⟩ := told_here HTO.out hm
              have HT4 := Lib.hid g4
              obtain ⟨x6, y6, rfl, _⟩ := HT.out.at (by rw [HTQ.out]; omega) (by decide)
              have hq6 : tq ≤ q6 := by
                rcases HT.out with ⟨h, _⟩ | ⟨_, _, h, _⟩
                · cases h
                · rwa [HTQ.out] at h
              obtain ⟨m0, m1, -, -, -⟩ := msg_cells (HT.out.later HBK.out) hm
              rw [g1] at m0
              have z1 := (HP.out.later HBK.out).cells.c1
              clear hm g1 g4
              generalize m.seq = sq at g2 g3 HT4 m1
              have q7 : decide (sq ≤ lt) = false := decide_eq_false (by omega)
              have q8 : decide (r.inn.next ≤ sq) = false := decide_eq_false (by omega)
              go_upto_region 17 with fail
              go_quiet (fail)
              have HBK2 : Hid (Below wc.heap.size wc (wr.drewN nq)) := Lib.hid (HBK.out.trans ((⟨rfl, rfl, rfl, Nat.le_refl _, fun _ _ => rfl⟩ : Below wr.heap.size wr (wr.drewN nq)).mono HBK.out.size))
              have m2 : (wr.drewN nq).cell? ⟨x6, y6 + k * 18 + 1, none⟩ = some (.int .i64 sq) := m1
              generalize wr.drewN nq = wd at HBK2 m2 ⊢
              clear m0 m1 z1
              go_wp2_with fail
              go_roundw
              case rel => exact ⟨k + 1, sq, congrArg (Value.int .i64) (by omega), hkt, rfl, HT4, HBK2⟩
              case measure => simp [intOf]; omega
            · obtain rfl : k = tq := by omega
              have HLT := Lib.hid (told_end HTO.out HTQ.out)
              have HPK := Lib.hid (HP.out.later HBK.out)
              have HRK := Lib.hid (HRP.out.later HBK.out)
              have HMK := Lib.hid (HM.out.later HBK.out)
              have HGK := Lib.hid (HGC.out.later HBK.out)
              have HBV := Lib.hid (HBW.out.trans (HBK.out.mono HBW.out.size))
              clear HTO hk hkt
              go_wp2_with fail
              obtain ⟨wt, rfl⟩ : ∃ t, t = wr := ⟨_, rfl⟩
              have HEN : Hid (RowAt encM wt b6 d6 l) := HMK
              go_loopw [9, 15] (fun o_ j_ wv => ∃ (j : Nat) (ot : Int), j_ = .int .i64 j ∧ j ≤ lq ∧ o_ = .int .i64 ot ∧ out ≤ ot ∧ Hid (Said now2 ot (l.drop j) (r.out - 1)) ∧ Hid (Below wt.heap.size wt wv)) (fun _ j_ _ => lq - (intOf j_).toNat)
              case atStart => exact ⟨0, out, rfl, Nat.zero_le _, rfl, Int.le_refl _, HNX.out.said, Below.refl _ _⟩
              case round =>
                obtain ⟨j, ot, rfl, hj, rfl, hot, HSA, HBJ⟩ := hrel
                have HMO := Lib.hid (HMK.out.later HBJ.out)
                have HBX := Lib.hid (HBV.out.trans (HBJ.out.mono HBV.out.size))
                have hsl := said_le HSA.out
                have hro : r.out ≤ out + 4 := by have h1 := HNX.out.most; have h2 := HFI.out.out; omega
                by_cases hjl : j < lq
                · obtain ⟨m, hm⟩ : ∃ m, l[j]? = some m := ⟨l[j]'(by rw [HLQ.out]; exact hjl), List.getElem?_eq_getElem _⟩
                  obtain ⟨g1, g2, g3⟩ := said_here HSA.out hm
                  obtain ⟨x7, y7, rfl, _⟩ := HMO.out.at (by rw [HLQ.out]; omega) (by decide)
                  have hq7 : lq ≤ d6 := by
                    rcases HMO.out with ⟨h, _⟩ | ⟨_, _, h, _⟩
                    · cases h
                    · rwa [HLQ.out] at h
                  obtain ⟨m0, m1, m2, -, -⟩ := msg_cells HMO.out hm
                  have HML := Lib.hid (msg_at HMO.out hm)
                  have HMC : Hid (∀ W, Below wr.heap.size wr W → MsgC W x7 (y7 + j * 18) m) := Lib.hid fun W h => msg_cells (HMO.out.later h) hm
                  have HMT : Hid (Calls Try.prog 11 #[.agg m.cells] wr fun e w' => e = .returned (.bool true) ∧ Below wr.heap.size wr w') := Lib.hid (by
                    have h := HMR.out m (fits_right g1) wr (HLW.out _ HBX.out).1
                    rw [g1] at h
                    exact h)
                  have HG2 := Lib.hid g2
                  have HG3 := Lib.hid g3
                  clear hm g1 g2 g3 m1 m2
                  by_cases k5 : m.kind = 5
                  · have HS5 : Hid (Said now2 ot (l.drop (j + 1)) (r.out - 1)) := Lib.hid (by
                      rcases HG3.out with ⟨_, h⟩ | ⟨h, _⟩
                      · exact h
                      · exact absurd k5 h)
                    rw [k5] at m0
                    clear k5
                    go_wp2_with (refine wpList_load_arr_g (by rfl) 36 _ rfl x7 (y7 + j * 18) rfl m.cells _ HML.out Try.underlying36 rfl (msg_info _) ?_)
                    refine HMT.out.mono ?_
                    rintro e w9 ⟨rfl, hb9⟩
                    have HBJ2 := Lib.hid (HBJ.out.trans (hb9.mono HBJ.out.size))
                    have m2 := (HMC.out _ hb9).c2
                    rw [HG2.out] at m2
                    clear hb9 m0
                    go_wp2_with fail
                    go_roundw
                    case rel => exact ⟨j + 1, ot, congrArg (Value.int .i64) (by omega), hjl, rfl, hot, HS5, HBJ2⟩
                    case measure => simp [intOf]; omega
                  · have HS5 : Hid (m.seq = ot + 1 ∧ Said now2 (ot + 1) (l.drop (j + 1)) (r.out - 1)) := Lib.hid (by
                      rcases HG3.out with ⟨h, _⟩ | ⟨_, h⟩
                      · exact absurd h k5
                      · exact h)
                    have q5 : (m.kind == 5) = false := by rw [beq_eq_false_iff_ne]; exact k5
                    have ew3 : IntKind.i64.wrap (ot + 1) = ot + 1 := by rw [IntKind.wrap_i64]; omega
                    generalize m.kind = mk at m0 q5
                    clear k5
                    go_wp2_with (refine wpList_load_arr_g (by rfl) 36 _ rfl x7 (y7 + j * 18) rfl m.cells _ HML.out Try.underlying36 rfl (msg_info _) ?_)
                    refine HMT.out.mono ?_
                    rintro e w9 ⟨rfl, hb9⟩
                    have HBJ2 := Lib.hid (HBJ.out.trans (hb9.mono HBJ.out.size))
                    have m2 := (HMC.out _ hb9).c2
                    rw [HG2.out] at m2
                    have m1 := (HMC.out _ hb9).c1
                    rw [HS5.out.1] at m1
                    clear hb9 m0
                    go_wp2_with fail
                    go_roundw
                    case rel => exact ⟨j + 1, ot + 1, congrArg (Value.int .i64) (by omega), hjl, rfl, by omega, HS5.out.2, HBJ2⟩
                    case measure => simp [intOf]; omega
                · obtain rfl : j = lq := by omega
                  have HOT : Hid (r.out = ot + 1) := Lib.hid (by have := said_end HSA.out HLQ.out; omega)
                  have HPJ := Lib.hid (HPK.out.later HBJ.out)
                  have HGJ := Lib.hid (HGK.out.later HBJ.out)
                  have HRJ := Lib.hid (HRK.out.later HBJ.out)
                  have q9 : decide (r.inn.next < s.inn.next) = false := decide_eq_false (by have := HNX.out.next; omega)
                  obtain ⟨-, y1, -, -, -, -, -⟩ := HPJ.out.cells
                  obtain ⟨-, z1, -, -, -, -, -⟩ := HGJ.out.cells
                  have ew3 : IntKind.i64.wrap (ot + 1) = ot + 1 := by rw [IntKind.wrap_i64]; have := HOT.out; omega
                  clear HSA hj hjl
                  go_wp2_with (refine wpList_load_arr_g (by rfl) 28 _ rfl p 0 rfl (r.arr a6 rn c6) _ HPJ.out.range Try.underlying28 rfl (arr_info _ _ _ _) ?_)
                  refine (right_is _ r a6 c6 rn rfl HRN.out (by omega) _ HRJ.out (HLW.out _ HBX.out).1 true HNX.out.right).mono ?_
                  rintro e w9 ⟨rfl, hb9⟩
                  have HP9 := Lib.hid (HPJ.out.later hb9)
                  have HG9 := Lib.hid (HGJ.out.later hb9)
                  have HR9 := Lib.hid (HRJ.out.later hb9)
                  have HB9 := Lib.hid (HBX.out.trans (hb9.mono HBX.out.size))
                  clear hb9 y1 z1 q9
                  have y3 := HP9.out.cells.c3
                  rw [HOT.out] at y3
                  go_wp2_with (first | (refine wpList_load_arr_g (by rfl) 28 _ rfl p 0 rfl (r.arr a6 rn c6) _ HP9.out.range Try.underlying28 rfl (arr_info _ _ _ _) ?_) | (refine wpList_store_row rfl 28 _ _ rfl g (r.arr a6 rn c6) rfl rfl _ _ HG9.out (arr_info _ _ _ _) rfl (arr_one _ _ _ _) ?_))
                  go_roundw
                  case rel => exact ⟨i + 1, now2, lt, ot, r, a6, c6, rn, rfl, rfl, rfl, congrArg (Value.int .i64) (by omega), by omega, by omega, u0, by omega, by omega, by have := HOT.out; omega, ⟨HNX.out.right, HOT.out, HLT.out, HNX.out.held⟩, HRN.out, HG9.out.put r a6 rn c6, HG9.out.row (by decide) HR9.out _, below_setRow HB9.out HGS.out _⟩
                  case measure => simp [intOf]; omega
      · have q2 : decide ((i : Int) < 100) = false := decide_eq_false (by omega)
        go_wp2_with fail
        go_ret
        exact ⟨rfl, HBI.out⟩
    · obtain rfl : i = len := by omega
      go_wp2_with fail
      go_ret
      exact ⟨rfl, HBI.out⟩

end Ses
end Go.Proofs.Ytnmmokdkngccjaa
