/-
  The walk of layer 6's laws: ReseqRight.
-/
import Derived.Test.YtnldllmlfckecaaRsqH
import Derived.Test.YtnldllmlfckecaaRsqF
import Derived.Deep.RegionHeld3
namespace Go.Proofs.Ytnldllmlfckecaa
open Go.RowKit
namespace Rsq
open Num
open Msg (I64)

attribute [local go_sem ↓] load_item
attribute [local go_sem] blkOf_ptr offOf_ptr

theorem drain_out : ∀ {n : Int} {h : List It} {y : It}, y ∈ (drain n h).1 → y ∈ h
  | n, [], y, hy => by simp [drain] at hy
  | n, z :: r, y, hy => by
    unfold drain at hy
    split at hy
    · cases hy
    · split at hy
      · rcases List.mem_cons.1 hy with rfl | hy
        · exact List.mem_cons_self
        · exact List.mem_cons_of_mem _ (drain_out hy)
      · exact List.mem_cons_of_mem _ (drain_out hy)
theorem come_out {l : Li} {x y : It} (hy : y ∈ (come l x).2.1) : y ∈ l.held ∨ y = x := by
  unfold come at hy
  split at hy
  · cases hy
  split at hy
  · cases hy
  split at hy
  · split at hy
    · cases hy
    · split at hy <;> cases hy
  · rcases List.mem_cons.1 hy with h | h
    · exact .inr h
    · exact .inl (drain_out h)
theorem drain_lens : ∀ (n : Int) (h : List It), (drain n h).1.length ≤ h.length ∧ (drain n h).2.2.length ≤ h.length
  | n, [] => by simp [drain]
  | n, z :: r => by
    unfold drain
    split
    · simp
    · split
      · have := drain_lens z.to r
        simp only [List.length_cons]
        omega
      · have := drain_lens n r
        simp only [List.length_cons]
        omega
theorem come_outs (l : Li) (x : It) : (come l x).2.1.length ≤ l.held.length + 1 := by
  unfold come
  repeat' split
  all_goals first
    | exact Nat.zero_le _
    | (have := (drain_lens x.to l.held).1; simp only [List.length_cons]; omega)
theorem come_held (l : Li) (x : It) : (come l x).1.held.length ≤ l.held.length + 1 := by
  unfold come
  repeat' split
  all_goals first
    | exact Nat.le_succ _
    | exact Nat.le_of_eq (ins_len x l.held)
    | (have := (drain_lens x.to l.held).2; simp only; omega)
theorem rcome_is (c d : Array Value) (l : Li) (x : It) (a : Option Addr) (cap n : Nat) (hc : c = #[.int .i64 l.next, .slice a n cap]) (hd : d = x.arr) (hn : l.held.length = n) (hn9 : n ≤ 100000000) (w : World) (hr : RowAt encI w a cap l.held)
    (m : Li) (out : List It) (k : Int) (p q : Nat) (hp : come l x = (m, out, k)) (hm : m.held.length = p) (ho : out.length = q) :
    Calls Try.prog 9 #[.agg c, .agg d] w fun e w' => ∃ a' c' b' d', e = .returned (.tuple #[.agg #[.int .i64 m.next, .slice a' p c'], .slice b' q d', .int .i64 k]) ∧ RowAt encI w' a' c' m.held ∧ RowAt encI w' b' d' out ∧ Below w.heap.size w w' := by
  subst hc hd hm ho
  have h := rcome_any l x a cap n hn hn9 w hr
  rw [hp] at h
  exact h

set_option maxRecDepth 100000 in
set_option maxHeartbeats 8000000 in
theorem law_ReseqRight (nx : Int) (a : Option Addr) (len cap : Nat) (zs : List It) (x : It) (w : World) (h0 : I64 nx ∧ IsIts w a len cap zs) (h1 : x.Fits) (hl : Laid w) :
    Calls Try.prog 3 #[.agg #[.int .i64 nx, .slice a len cap], .agg x.arr] w fun e w' => e = .returned (.bool true) ∧ Below w.heap.size w w' := by
  obtain ⟨_, hzl, _, hzr, hzf⟩ := h0
  have HZL := Lib.hid hzl
  have HZF := Lib.hid hzf
  have HXF := Lib.hid h1
  have HL := Lib.hid hl
  obtain ⟨XA, hXA⟩ : ∃ c, x.arr = c := ⟨_, rfl⟩
  have HXA := Lib.hid hXA.symm
  have hiX : (Try.prog.info? 30).map (·.size) = some XA.size := by rw [← hXA]; kernel_rfl
  rw [hXA]
  have hal1 : Below w.heap.size w (w.alloc (.cells #[.int .i64 nx, .slice a len cap] 24)) := (Below.refl _ _).alloc (Nat.le_refl _) _
  have e1 : (w.alloc (.cells #[.int .i64 nx, .slice a len cap] 24)).heap.size = w.heap.size + 1 := by simp
  have HB0 : Hid (Below w.heap.size w ((w.alloc (.cells #[.int .i64 nx, .slice a len cap] 24)).alloc (.cells XA 30))) := Lib.hid (hal1.alloc hal1.size _)
  have HG0 : Hid (LnAt ((w.alloc (.cells #[.int .i64 nx, .slice a len cap] 24)).alloc (.cells XA 30)) w.heap.size nx a len cap) := Lib.hid (alloc_block (LnAt.made w nx a len cap))
  have HX0 : Hid (((w.alloc (.cells #[.int .i64 nx, .slice a len cap] 24)).alloc (.cells XA 30)).heap[w.heap.size + 1]? = some (.cells XA 30 (0, 0))) := Lib.hid (by
    have h := heap_alloc_new (w.alloc (.cells #[.int .i64 nx, .slice a len cap] 24)) (.cells XA 30)
    rwa [e1] at h)
  have HLW : Hid (∀ W, Below w.heap.size w W → Laid W ∧ RowAt encI W a cap zs) := Lib.hid fun W h => ⟨HL.out.below h, hzr.later h⟩
  clear hzl hzf hl h1 hXA hal1 e1
  go_enter Try.func3, Try.ntmps3
  go_upto_region 1 with fail
  generalize (w.alloc (.cells #[.int .i64 nx, .slice a len cap] 24)).alloc (.cells XA 30) = w0 at HB0 HG0 HX0 ⊢
  clear hzr
  go_wp2_with fail
  refine (awake6_any _ (HLW.out _ HB0.out).1).mono ?_
  rintro e wr ⟨rfl, hb1⟩
  have HG := Lib.hid (HG0.out.later hb1)
  have HX := Lib.hid (below_block HX0.out hb1)
  have HB := Lib.hid (HB0.out.trans (hb1.mono HB0.out.size))
  clear hb1 HG0 HX0 HB0
  obtain ⟨z0, z1, f0, f1, s0⟩ := HG.out.facts
  by_cases h80 : 80 < len
  · have q1 : decide ((80 : Int) < (len : Int)) = true := decide_eq_true (by omega)
    go_wp2_with fail
    go_ret
    exact ⟨rfl, HB.out⟩
  have q1 : decide ((80 : Int) < (len : Int)) = false := decide_eq_false (by omega)
  obtain ⟨j0, hi0, hz0, hz1, hz2⟩ := info_parts infoI
  have HJ0 := Lib.hid hi0
  have HY0 := Lib.hid hz0
  have HY1 := Lib.hid hz1
  have HY2 := Lib.hid hz2
  clear hi0 hz0 hz1 hz2
  have HXK : Hid (∀ W, Below wr.heap.size wr W → W.cell? ⟨w.heap.size, 0, none⟩ = some (.int .i64 nx) ∧ W.cell? ⟨w.heap.size, 1, none⟩ = some (.slice a len cap)) := Lib.hid fun W hW => by
    have ⟨z0, z1, _⟩ := (HG.out.later hW).facts
    exact ⟨z0, z1⟩
  have HRZ : Hid (∀ W, Below wr.heap.size wr W → RowAt encI W a cap zs) := Lib.hid fun W hW => (HLW.out W (HB.out.trans (hW.mono HB.out.size))).2
  go_upto_region 5 with fail
  go_cut [5] (fun s5 wx => ∃ p a5 c5, s5 = .pointer (some ⟨p, 0, none⟩) ∧ wr.heap.size ≤ p ∧ LnAt wx p nx a5 len c5 ∧ RowAt encI wx a5 c5 zs ∧ Below wr.heap.size wr wx)
  case first =>
    have hb0 : Below wr.heap.size wr wr.drew := (Below.refl _ _).drew
    refine wp_region_held_drew (S := (fun w' => Below wr.heap.size wr w' ∧ w'.cell? ⟨w.heap.size, 0, none⟩ = some (.int .i64 nx) ∧ w'.cell? ⟨w.heap.size, 1, none⟩ = some (.slice a len cap))) (by kernel_rfl) ?hs0 (fun hHeld => ?_)
    case hs0 => exact ⟨hb0, HXK.out _ hb0⟩
    refine' wpAnyH_take (i := 0) (oi := _) (v := _) rfl (by kernel_rfl) (by kernel_rfl) (by kernel_rfl) (fun _ _ _ h => h) (Or.inl ⟨by rfl, ?hy⟩) (by assumption) ?_
    case hy => (intro w hSw; (try dsimp only at hSw); (try simp only [List.getElem_toArray, List.getElem_cons_zero]); go_simp; try with_reducible rfl)
    try simp only [List.getElem_toArray, List.getElem_cons_zero, Act.put, List.setIfInBounds_toArray, List.set_cons_zero, List.set_cons_succ]
    refine' wpAnyH_take (i := 1) (oi := _) (v := _) rfl (by kernel_rfl) (by kernel_rfl) (by kernel_rfl) (fun _ _ _ h => h) (Or.inl ⟨by rfl, ?hy⟩) (by assumption) ?_
    case hy => (intro w hSw; (try dsimp only at hSw); (try simp only [List.getElem_toArray, List.getElem_cons_zero, List.getElem_cons_succ]); go_simp; try with_reducible rfl)
    try simp only [List.getElem_toArray, List.getElem_cons_zero, List.getElem_cons_succ, Act.put, List.setIfInBounds_toArray, List.set_cons_zero, List.set_cons_succ]
    refine' wpAnyH_take (i := 3) (oi := _) (v := _) rfl (by kernel_rfl) (by kernel_rfl) (by kernel_rfl) (fun _ _ _ h => h) (Or.inl ⟨by rfl, ?hy⟩) (by assumption) ?_
    case hy => (intro w hSw; (try dsimp only at hSw); (try simp only [List.getElem_toArray, List.getElem_cons_zero, List.getElem_cons_succ]); go_simp; try with_reducible rfl)
    try simp only [List.getElem_toArray, List.getElem_cons_zero, List.getElem_cons_succ, Act.put, List.setIfInBounds_toArray, List.set_cons_zero, List.set_cons_succ]
    refine' wpAnyH_take (i := 4) (oi := _) (v := _) rfl (by kernel_rfl) (by kernel_rfl) (by kernel_rfl) (fun _ _ _ h => h) (Or.inl ⟨by rfl, ?hy⟩) (by assumption) ?_
    case hy => (intro w hSw; (try dsimp only at hSw); (try simp only [List.getElem_toArray, List.getElem_cons_zero, List.getElem_cons_succ]); go_simp; try with_reducible rfl)
    try simp only [List.getElem_toArray, List.getElem_cons_zero, List.getElem_cons_succ, Act.put, List.setIfInBounds_toArray, List.set_cons_zero, List.set_cons_succ]
    refine wpAnyH_ready (rs := [2, 7]) (by kernel_rfl) (by simp) ?_
    refine AllReadyH.cons (o := _) rfl (fun K hK => ?_) (AllReadyH.cons (o := _) rfl (fun K hK => ?_) AllReadyH.nil)
    · try simp only [List.getElem_toArray, List.getElem_cons_zero, List.getElem_cons_succ, Act.put, List.setIfInBounds_toArray, List.set_cons_zero, List.set_cons_succ]
      go_simp
      have hb3 : Below wr.heap.size wr (wr.alloc (.cells #[] 30)).drew := ((Below.refl _ _).alloc (Nat.le_refl _) _).drew
      have hown3 : OwnE encI 30 (wr.alloc (.cells #[] 30)).drew wr.heap.size (.slice (some ⟨wr.heap.size, 0, none⟩) 0 0) [] := ownE_empty encI wr 30 wr.heap.size (Nat.le_refl _)
      refine hK.out _ _ ?hs1 (fun hHeld => ?_)
      case hs1 => exact ⟨hb3, HXK.out _ hb3⟩
      clear hK K
      try simp only [List.getElem_toArray, List.getElem_cons_zero, List.getElem_cons_succ, Act.put, List.setIfInBounds_toArray, List.set_cons_zero, List.set_cons_succ]
      generalize (wr.alloc (.cells #[] 30)).drew = w3 at hb3 hown3 hHeld ⊢
      clear hb0
      refine wpAnyH_ready (rs := [5, 7]) (by kernel_rfl) (by simp) ?_
      refine AllReadyH.cons (o := _) rfl (fun K hK => ?_) (AllReadyH.cons (o := _) rfl (fun K hK => ?_) AllReadyH.nil)
      · skip
        try simp only [List.getElem_toArray, List.getElem_cons_zero, List.getElem_cons_succ, Act.put]
        refine step_append_any encI (by decide) rfl (.tmp 24) (.tmp 26) _ (by rfl) wr.heap.size 30 j0 _ 208 Try.underlying22 HJ0.out HY0.out HY1.out HY2.out (by rfl) _ [] (by rfl) hown3 a len cap zs (by rfl) HZL.out (HRZ.out _ hb3) (by rw [HZL.out]; simp only [List.length_nil, maxLen]; omega) (by rw [HZL.out]; simp only [List.length_nil]; omega) hb3.size ?_
        intro v2 w8 hown8 hbb8 hk8
        rw [List.nil_append] at hown8
        have hb8 : Below wr.heap.size wr w8 := hb3.trans hbb8
        obtain ⟨a5, c5, rfl, hr8⟩ := hown8.row
        rw [HZL.out]
        refine hK.out _ _ ?hs1 (fun hHeld => ?_)
        case hs1 => exact ⟨hb8, HXK.out _ hb8⟩
        clear hK K
        try simp only [Act.put, List.setIfInBounds_toArray, List.set_cons_zero, List.set_cons_succ]
        refine' wpAnyH_take (i := 6) (oi := _) (v := _) rfl (by kernel_rfl) (by kernel_rfl) (by kernel_rfl) (fun _ _ _ h => h) (Or.inl ⟨by rfl, ?hy⟩) (by assumption) ?_
        case hy => (intro w hSw; (try dsimp only at hSw); (try simp only [List.getElem_toArray, List.getElem_cons_zero, List.getElem_cons_succ]); go_simp; try with_reducible rfl)
        try simp only [List.getElem_toArray, List.getElem_cons_zero, List.getElem_cons_succ, Act.put, List.setIfInBounds_toArray, List.set_cons_zero, List.set_cons_succ]
        refine wpAnyH_ready (rs := [7]) (by kernel_rfl) (by simp) ?_
        refine AllReadyH.cons (o := _) rfl (fun K hK => ?_) AllReadyH.nil
        try simp only [List.getElem_toArray, List.getElem_cons_zero, List.getElem_cons_succ, Act.put, List.setIfInBounds_toArray, List.set_cons_zero, List.set_cons_succ]
        go_simp
        have hal : Below w8.heap.size w8 (w8.alloc (.cells #[.int .i64 0, .slice none 0 0] 24)) := (Below.refl _ _).alloc (Nat.le_refl _) _
        have hb9 : Below wr.heap.size wr (w8.alloc (.cells #[.int .i64 0, .slice none 0 0] 24)) := hb8.alloc hb8.size _
        have hr9 := hr8.later hal
        have hz9 := LnAt.made w8 0 none 0 0
        refine hK.out _ _ ?hs1 (fun hHeld => ?_)
        case hs1 => exact ⟨hb9, HXK.out _ hb9⟩
        clear hK K
        try simp only [List.getElem_toArray, List.getElem_cons_zero, List.getElem_cons_succ, Act.put, List.setIfInBounds_toArray, List.set_cons_zero, List.set_cons_succ]
        obtain ⟨p, hp⟩ : ∃ p, w8.heap.size = p := ⟨_, rfl⟩
        have hwp : wr.heap.size ≤ p := by have := hb8.size; omega
        rw [hp] at hz9 ⊢
        generalize w8.alloc (.cells #[.int .i64 0, .slice none 0 0] 24) = w9 at hb9 hr9 hz9 hHeld ⊢
        clear hal hown8 hbb8 hk8 hr8 hp
        obtain ⟨x0, x1, e0, e1, sp⟩ := hz9.facts
        have HM9 := Lib.hid (hz9.row hr9 nx a5 len c5)
        have HP9 := Lib.hid (hz9.put nx a5 len c5)
        have hb10 : Below wr.heap.size wr ((w9.setCell ⟨p, 0, none⟩ (.int .i64 nx)).setCell ⟨p, 1, none⟩ (.slice a5 len c5)) := (hb9.setCell hwp _).setCell hwp _
        refine wpAnyH_ready (rs := [8]) (by kernel_rfl) (by simp) ?_
        refine AllReadyH.cons (o := _) rfl (fun K hK => ?_) AllReadyH.nil
        try simp only [List.getElem_toArray, List.getElem_cons_zero, List.getElem_cons_succ, Act.put]
        go_simp
        refine hK.out _ _ ?hs1 (fun hHeld => ?_)
        case hs1 => exact ⟨hb10, HXK.out _ hb10⟩
        clear hK K
        try simp only [List.getElem_toArray, List.getElem_cons_zero, List.getElem_cons_succ, Act.put, List.setIfInBounds_toArray, List.set_cons_zero, List.set_cons_succ]
        refine wpAnyH_done (by kernel_rfl) ?_ _
        go_wp2_with fail
        go_meet
        exact ⟨p, a5, c5, rfl, hwp, HP9.out, HM9.out, hb10⟩
      · try simp only [List.getElem_toArray, List.getElem_cons_zero, List.getElem_cons_succ, Act.put, List.setIfInBounds_toArray, List.set_cons_zero, List.set_cons_succ]
        go_simp
        have hal : Below w3.heap.size w3 (w3.alloc (.cells #[.int .i64 0, .slice none 0 0] 24)) := (Below.refl _ _).alloc (Nat.le_refl _) _
        have hb4 : Below wr.heap.size wr (w3.alloc (.cells #[.int .i64 0, .slice none 0 0] 24)) := hb3.alloc hb3.size _
        have hown4 := hown3.kept hal
        have hz4 := LnAt.made w3 0 none 0 0
        refine hK.out _ _ ?hs1 (fun hHeld => ?_)
        case hs1 => exact ⟨hb4, HXK.out _ hb4⟩
        clear hK K
        try simp only [List.getElem_toArray, List.getElem_cons_zero, List.getElem_cons_succ, Act.put, List.setIfInBounds_toArray, List.set_cons_zero, List.set_cons_succ]
        obtain ⟨p, hp⟩ : ∃ p, w3.heap.size = p := ⟨_, rfl⟩
        have hwp : wr.heap.size ≤ p := by have := hb3.size; omega
        rw [hp] at hz4 ⊢
        generalize w3.alloc (.cells #[.int .i64 0, .slice none 0 0] 24) = w4 at hb4 hown4 hz4 hHeld ⊢
        clear hal hp
        refine wpAnyH_ready (rs := [5]) (by kernel_rfl) (by simp) ?_
        refine AllReadyH.cons (o := _) rfl (fun K hK => ?_) AllReadyH.nil
        try simp only [List.getElem_toArray, List.getElem_cons_zero, List.getElem_cons_succ, Act.put]
        refine step_append_any encI (by decide) rfl (.tmp 24) (.tmp 26) _ (by rfl) wr.heap.size 30 j0 _ 208 Try.underlying22 HJ0.out HY0.out HY1.out HY2.out (by rfl) _ [] (by rfl) hown4 a len cap zs (by rfl) HZL.out (HRZ.out _ hb4) (by rw [HZL.out]; simp only [List.length_nil, maxLen]; omega) (by rw [HZL.out]; simp only [List.length_nil]; omega) hb4.size ?_
        intro v2 w8 hown8 hbb8 hk8
        rw [List.nil_append] at hown8
        have hb8 : Below wr.heap.size wr w8 := hb4.trans hbb8
        obtain ⟨a5, c5, rfl, hr8⟩ := hown8.row
        rw [HZL.out]
        refine hK.out _ _ ?hs1 (fun hHeld => ?_)
        case hs1 => exact ⟨hb8, HXK.out _ hb8⟩
        clear hK K
        try simp only [Act.put, List.setIfInBounds_toArray, List.set_cons_zero, List.set_cons_succ]
        refine' wpAnyH_take (i := 6) (oi := _) (v := _) rfl (by kernel_rfl) (by kernel_rfl) (by kernel_rfl) (fun _ _ _ h => h) (Or.inl ⟨by rfl, ?hy⟩) (by assumption) ?_
        case hy => (intro w hSw; (try dsimp only at hSw); (try simp only [List.getElem_toArray, List.getElem_cons_zero, List.getElem_cons_succ]); go_simp; try with_reducible rfl)
        try simp only [List.getElem_toArray, List.getElem_cons_zero, List.getElem_cons_succ, Act.put, List.setIfInBounds_toArray, List.set_cons_zero, List.set_cons_succ]
        have hz9 : LnAt w8 p 0 none 0 0 := hk8 _ _ _ _ (by decide) hz4
        have hr9 := hr8
        have hb9 := hb8
        generalize w8 = w9 at hb9 hr9 hz9 hHeld ⊢
        obtain ⟨x0, x1, e0, e1, sp⟩ := hz9.facts
        have HM9 := Lib.hid (hz9.row hr9 nx a5 len c5)
        have HP9 := Lib.hid (hz9.put nx a5 len c5)
        have hb10 : Below wr.heap.size wr ((w9.setCell ⟨p, 0, none⟩ (.int .i64 nx)).setCell ⟨p, 1, none⟩ (.slice a5 len c5)) := (hb9.setCell hwp _).setCell hwp _
        refine wpAnyH_ready (rs := [8]) (by kernel_rfl) (by simp) ?_
        refine AllReadyH.cons (o := _) rfl (fun K hK => ?_) AllReadyH.nil
        try simp only [List.getElem_toArray, List.getElem_cons_zero, List.getElem_cons_succ, Act.put]
        go_simp
        refine hK.out _ _ ?hs1 (fun hHeld => ?_)
        case hs1 => exact ⟨hb10, HXK.out _ hb10⟩
        clear hK K
        try simp only [List.getElem_toArray, List.getElem_cons_zero, List.getElem_cons_succ, Act.put, List.setIfInBounds_toArray, List.set_cons_zero, List.set_cons_succ]
        refine wpAnyH_done (by kernel_rfl) ?_ _
        go_wp2_with fail
        go_meet
        exact ⟨p, a5, c5, rfl, hwp, HP9.out, HM9.out, hb10⟩
    · try simp only [List.getElem_toArray, List.getElem_cons_zero, List.getElem_cons_succ, Act.put, List.setIfInBounds_toArray, List.set_cons_zero, List.set_cons_succ]
      go_simp
      have hb3 : Below wr.heap.size wr (wr.alloc (.cells #[.int .i64 0, .slice none 0 0] 24)).drew := ((Below.refl _ _).alloc (Nat.le_refl _) _).drew
      have hz3 : LnAt (wr.alloc (.cells #[.int .i64 0, .slice none 0 0] 24)).drew wr.heap.size 0 none 0 0 := LnAt.made wr 0 none 0 0
      refine hK.out _ _ ?hs1 (fun hHeld => ?_)
      case hs1 => exact ⟨hb3, HXK.out _ hb3⟩
      clear hK K
      try simp only [List.getElem_toArray, List.getElem_cons_zero, List.getElem_cons_succ, Act.put, List.setIfInBounds_toArray, List.set_cons_zero, List.set_cons_succ]
      obtain ⟨p, hp⟩ : ∃ p, wr.heap.size = p := ⟨_, rfl⟩
      have hwp : wr.heap.size ≤ p := by omega
      rw [hp] at hz3
      generalize (wr.alloc (.cells #[.int .i64 0, .slice none 0 0] 24)).drew = w3 at hb3 hz3 hHeld ⊢
      clear hb0
      refine wpAnyH_ready (rs := [2]) (by kernel_rfl) (by simp) ?_
      refine AllReadyH.cons (o := _) rfl (fun K hK => ?_) AllReadyH.nil
      try simp only [List.getElem_toArray, List.getElem_cons_zero, List.getElem_cons_succ, Act.put, List.setIfInBounds_toArray, List.set_cons_zero, List.set_cons_succ]
      go_simp
      have hal : Below w3.heap.size w3 (w3.alloc (.cells #[] 30)) := (Below.refl _ _).alloc (Nat.le_refl _) _
      have hb4 : Below wr.heap.size wr (w3.alloc (.cells #[] 30)) := hb3.alloc hb3.size _
      have hown4 : OwnE encI 30 (w3.alloc (.cells #[] 30)) wr.heap.size (.slice (some ⟨w3.heap.size, 0, none⟩) 0 0) [] := ownE_empty encI w3 30 wr.heap.size hb3.size
      have hz4 := hz3.later hal
      refine hK.out _ _ ?hs1 (fun hHeld => ?_)
      case hs1 => exact ⟨hb4, HXK.out _ hb4⟩
      clear hK K
      try simp only [List.getElem_toArray, List.getElem_cons_zero, List.getElem_cons_succ, Act.put, List.setIfInBounds_toArray, List.set_cons_zero, List.set_cons_succ]
      generalize w3.alloc (.cells #[] 30) = w4 at hb4 hown4 hz4 hHeld ⊢
      clear hal hp
      refine wpAnyH_ready (rs := [5]) (by kernel_rfl) (by simp) ?_
      refine AllReadyH.cons (o := _) rfl (fun K hK => ?_) AllReadyH.nil
      try simp only [List.getElem_toArray, List.getElem_cons_zero, List.getElem_cons_succ, Act.put]
      refine step_append_any encI (by decide) rfl (.tmp 24) (.tmp 26) _ (by rfl) wr.heap.size 30 j0 _ 208 Try.underlying22 HJ0.out HY0.out HY1.out HY2.out (by rfl) _ [] (by rfl) hown4 a len cap zs (by rfl) HZL.out (HRZ.out _ hb4) (by rw [HZL.out]; simp only [List.length_nil, maxLen]; omega) (by rw [HZL.out]; simp only [List.length_nil]; omega) hb4.size ?_
      intro v2 w8 hown8 hbb8 hk8
      rw [List.nil_append] at hown8
      have hb8 : Below wr.heap.size wr w8 := hb4.trans hbb8
      obtain ⟨a5, c5, rfl, hr8⟩ := hown8.row
      rw [HZL.out]
      refine hK.out _ _ ?hs1 (fun hHeld => ?_)
      case hs1 => exact ⟨hb8, HXK.out _ hb8⟩
      clear hK K
      try simp only [Act.put, List.setIfInBounds_toArray, List.set_cons_zero, List.set_cons_succ]
      refine' wpAnyH_take (i := 6) (oi := _) (v := _) rfl (by kernel_rfl) (by kernel_rfl) (by kernel_rfl) (fun _ _ _ h => h) (Or.inl ⟨by rfl, ?hy⟩) (by assumption) ?_
      case hy => (intro w hSw; (try dsimp only at hSw); (try simp only [List.getElem_toArray, List.getElem_cons_zero, List.getElem_cons_succ]); go_simp; try with_reducible rfl)
      try simp only [List.getElem_toArray, List.getElem_cons_zero, List.getElem_cons_succ, Act.put, List.setIfInBounds_toArray, List.set_cons_zero, List.set_cons_succ]
      have hz9 : LnAt w8 p 0 none 0 0 := hk8 _ _ _ _ (by decide) hz4
      have hr9 := hr8
      have hb9 := hb8
      generalize w8 = w9 at hb9 hr9 hz9 hHeld ⊢
      obtain ⟨x0, x1, e0, e1, sp⟩ := hz9.facts
      have HM9 := Lib.hid (hz9.row hr9 nx a5 len c5)
      have HP9 := Lib.hid (hz9.put nx a5 len c5)
      have hb10 : Below wr.heap.size wr ((w9.setCell ⟨p, 0, none⟩ (.int .i64 nx)).setCell ⟨p, 1, none⟩ (.slice a5 len c5)) := (hb9.setCell hwp _).setCell hwp _
      refine wpAnyH_ready (rs := [8]) (by kernel_rfl) (by simp) ?_
      refine AllReadyH.cons (o := _) rfl (fun K hK => ?_) AllReadyH.nil
      try simp only [List.getElem_toArray, List.getElem_cons_zero, List.getElem_cons_succ, Act.put]
      go_simp
      refine hK.out _ _ ?hs1 (fun hHeld => ?_)
      case hs1 => exact ⟨hb10, HXK.out _ hb10⟩
      clear hK K
      try simp only [List.getElem_toArray, List.getElem_cons_zero, List.getElem_cons_succ, Act.put, List.setIfInBounds_toArray, List.set_cons_zero, List.set_cons_succ]
      refine wpAnyH_done (by kernel_rfl) ?_ _
      go_wp2_with fail
      go_meet
      exact ⟨p, a5, c5, rfl, hwp, HP9.out, HM9.out, hb10⟩
  case rest =>
    obtain ⟨p, a5, c5, rfl, hwp, hpl, hpr, hbc⟩ := hcut
    have HPW := Lib.hid hwp
    have HP1 := Lib.hid hpl
    have HPR1 := Lib.hid hpr
    have HBC := Lib.hid (HB.out.trans (hbc.mono HB.out.size))
    have HG1 := Lib.hid (HG.out.later hbc)
    have HX1 := Lib.hid (below_block HX.out hbc)
    clear hpl hpr hbc z0 z1 f0 f1 s0
    obtain ⟨⟨m, out, kk⟩, hcm⟩ : ∃ r, come ⟨nx, zs⟩ x = r := ⟨_, rfl⟩
    obtain ⟨mq, hmq⟩ : ∃ q, m.held.length = q := ⟨_, rfl⟩
    obtain ⟨oq, hoq⟩ : ∃ q, out.length = q := ⟨_, rfl⟩
    have HCO := Lib.hid hcm
    have HMQ := Lib.hid hmq
    have HOQ := Lib.hid hoq
    clear hcm hmq hoq
    obtain ⟨y0, y1, -, -, -⟩ := HP1.out.facts
    have HXL1 := Lib.hid (block_range HX1.out)
    go_wp2_with (refine wpList_load_arr_g (by rfl) 30 _ rfl (w.heap.size + 1) 0 rfl XA _ HXL1.out Try.underlying30 rfl hiX ?_)
    refine (come_is _ _ ⟨nx, zs⟩ x a5 c5 len rfl HXA.out HZL.out (by omega) _ HPR1.out (HLW.out _ HBC.out).1 m out kk mq oq HCO.out HMQ.out HOQ.out).mono ?_
    rintro e w2 ⟨a6, c6, b6, d6, rfl, hm2, ho2, hb2⟩
    obtain ⟨p6, hp6⟩ : ∃ p, w2.heap.size = p := ⟨_, rfl⟩
    have hal : Below w2.heap.size w2 (w2.alloc (.cells #[.int .i64 m.next, .slice a6 mq c6] 24)) := (Below.refl _ _).alloc (Nat.le_refl _) _
    have HA3 : Hid (LnAt (w2.alloc (.cells #[.int .i64 m.next, .slice a6 mq c6] 24)) p6 m.next a6 mq c6) := Lib.hid (hp6 ▸ LnAt.made w2 m.next a6 mq c6)
    have HM3 := Lib.hid (hm2.later hal)
    have HO3 := Lib.hid (ho2.later hal)
    have HP3 := Lib.hid ((HP1.out.later hb2).later hal)
    have HPR3 := Lib.hid ((HPR1.out.later hb2).later hal)
    have HG3 := Lib.hid ((HG1.out.later hb2).later hal)
    have HX3 := Lib.hid (below_block (below_block HX1.out hb2) hal)
    have HB3 := Lib.hid ((HBC.out.trans (hb2.mono HBC.out.size)).trans (hal.mono (Nat.le_trans HBC.out.size hb2.size)))
    clear hal hm2 ho2 hb2 y0 y1 HP1 HPR1 HG1 HX1 HXL1
    go_upto_region 7 with fail
    generalize w2.alloc (.cells #[.int .i64 m.next, .slice a6 mq c6] 24) = w3 at HA3 HM3 HO3 HP3 HPR3 HG3 HX3 HB3 ⊢
    clear hp6
    obtain ⟨z0, z1, -, -, -⟩ := HG3.out.facts
    have HXL3 := Lib.hid (block_range HX3.out)
    go_wp2_with (refine wpList_load_arr_g (by rfl) 30 _ rfl (w.heap.size + 1) 0 rfl XA _ HXL3.out Try.underlying30 rfl hiX ?_)
    refine (rcome_is _ _ ⟨nx, zs⟩ x a cap len rfl HXA.out HZL.out (by omega) _ (HLW.out _ HB3.out).2 m out kk mq oq HCO.out HMQ.out HOQ.out).mono ?_
    rintro e w4 ⟨a7, c7, b7, d7, rfl, hm4, ho4, hb4⟩
    obtain ⟨p7, hp7⟩ : ∃ p, w4.heap.size = p := ⟨_, rfl⟩
    have hal : Below w4.heap.size w4 (w4.alloc (.cells #[.int .i64 m.next, .slice a7 mq c7] 24)) := (Below.refl _ _).alloc (Nat.le_refl _) _
    have HA5 := Lib.hid ((HA3.out.later hb4).later hal)
    have HM5 := Lib.hid ((HM3.out.later hb4).later hal)
    have HO5 := Lib.hid ((HO3.out.later hb4).later hal)
    have HP5 := Lib.hid ((HP3.out.later hb4).later hal)
    have HPR5 := Lib.hid ((HPR3.out.later hb4).later hal)
    have HG5 := Lib.hid ((HG3.out.later hb4).later hal)
    have HX5 := Lib.hid (below_block (below_block HX3.out hb4) hal)
    have HC5 : Hid (LnAt (w4.alloc (.cells #[.int .i64 m.next, .slice a7 mq c7] 24)) p7 m.next a7 mq c7) := Lib.hid (hp7 ▸ LnAt.made w4 m.next a7 mq c7)
    have HN5 := Lib.hid (hm4.later hal)
    have HU5 := Lib.hid (ho4.later hal)
    have HB5 := Lib.hid ((HB3.out.trans (hb4.mono HB3.out.size)).trans (hal.mono (Nat.le_trans HB3.out.size hb4.size)))
    clear hal hm4 ho4 hb4 z0 z1 HA3 HM3 HO3 HP3 HPR3 HG3 HX3 HXL3
    go_upto_region 8 with fail
    generalize w4.alloc (.cells #[.int .i64 m.next, .slice a7 mq c7] 24) = w5 at HA5 HM5 HO5 HP5 HPR5 HG5 HX5 HC5 HN5 HU5 HB5 ⊢
    clear hp7
    obtain ⟨y0, y1, -, -, -⟩ := HP5.out.facts
    obtain ⟨⟨gx, gy, gb⟩, hgp⟩ : ∃ r, gapL ⟨nx, zs⟩ = r := ⟨_, rfl⟩
    have HGP := Lib.hid hgp
    clear hgp
    go_wp2_with fail
    refine (gap_is _ ⟨nx, zs⟩ a5 c5 len rfl HZL.out (by omega) _ HPR5.out (HLW.out _ HB5.out).1 gx gy gb HGP.out).mono ?_
    rintro e w6 ⟨rfl, hb6⟩
    have HA6 := Lib.hid (HA5.out.later hb6)
    have HM6 := Lib.hid (HM5.out.later hb6)
    have HO6 := Lib.hid (HO5.out.later hb6)
    have HP6 := Lib.hid (HP5.out.later hb6)
    have HPR6 := Lib.hid (HPR5.out.later hb6)
    have HG6 := Lib.hid (HG5.out.later hb6)
    have HX6 := Lib.hid (below_block HX5.out hb6)
    have HC6 := Lib.hid (HC5.out.later hb6)
    have HN6 := Lib.hid (HN5.out.later hb6)
    have HU6 := Lib.hid (HU5.out.later hb6)
    have HB6 := Lib.hid (HB5.out.trans (hb6.mono HB5.out.size))
    clear hb6 y0 y1 HA5 HM5 HO5 HP5 HPR5 HG5 HX5 HC5 HN5 HU5 HB5
    obtain ⟨z0, z1, -, -, -⟩ := HG6.out.facts
    obtain ⟨br, hbr⟩ : ∃ br, rightL ⟨nx, zs⟩ = br := ⟨_, rfl⟩
    have HBR := Lib.hid hbr
    clear hbr
    obtain ⟨sm, hsm⟩ : ∃ sm, (br && decide (0 < len)) = sm := ⟨_, rfl⟩
    have HSM := Lib.hid hsm
    clear hsm
    go_upto_region 9 with fail
    go_cut [15] (fun s15 wx => s15 = .bool sm ∧ Below w6.heap.size w6 wx)
    case first =>
      go_wp2_with fail
      refine (rright_c _ ⟨nx, zs⟩ a cap len rfl HZL.out (by omega) _ (HLW.out _ HB6.out).2 br HBR.out).mono ?_
      rintro e w7 ⟨rfl, hb7⟩
      have HB7 := Lib.hid hb7
      have HG7 := Lib.hid (HG6.out.later hb7)
      clear z0 z1 hb7
      obtain ⟨z0, z1, -, -, -⟩ := HG7.out.facts
      cases br
      · go_wp2_with fail
        go_meet
        exact ⟨by rw [← HSM.out]; rfl, HB7.out⟩
      · go_wp2_with fail
        go_meet
        exact ⟨by rw [← HSM.out]; simp, HB7.out⟩
    case rest =>
    obtain ⟨rfl, hb7⟩ := hcut
    have HA7 := Lib.hid (HA6.out.later hb7)
    have HM7 := Lib.hid (HM6.out.later hb7)
    have HO7 := Lib.hid (HO6.out.later hb7)
    have HP7 := Lib.hid (HP6.out.later hb7)
    have HPR7 := Lib.hid (HPR6.out.later hb7)
    have HG7 := Lib.hid (HG6.out.later hb7)
    have HX7 := Lib.hid (below_block HX6.out hb7)
    have HC7 := Lib.hid (HC6.out.later hb7)
    have HN7 := Lib.hid (HN6.out.later hb7)
    have HU7 := Lib.hid (HU6.out.later hb7)
    have HB7 := Lib.hid (HB6.out.trans (hb7.mono HB6.out.size))
    clear hb7 z0 z1 HA6 HM6 HO6 HP6 HPR6 HG6 HX6 HC6 HN6 HU6 HB6
    obtain ⟨z0, z1, -, -, -⟩ := HG7.out.facts
    go_upto_region 10 with fail
    go_cut [90] (fun s90 wx => s90 = .bool false ∧ wx = wc)
    case first =>
      cases sm
      · have HE : Hid (gx = 0 ∧ gy = 0 ∧ gb = false) := Lib.hid (by
          have h : gapL ⟨nx, zs⟩ = (0, 0, false) := by
            cases hbr : br
            · exact gap_none (by rw [HBR.out, hbr])
            · refine gap_nil (List.length_eq_zero_iff.1 ?_)
              have := HSM.out
              rw [hbr] at this
              simp only [Bool.true_and, decide_eq_false_iff_not] at this
              have := HZL.out
              show zs.length = 0
              omega
          rw [HGP.out] at h
          injection h with e1 e2
          injection e2 with e2 e3
          exact ⟨e1, e2, e3⟩)
        obtain ⟨rfl, rfl, rfl⟩ := HE.out
        go_wp2_with fail
        go_meet
        exact ⟨rfl, rfl⟩
      · obtain ⟨hbr, hln⟩ : br = true ∧ 0 < len := by
          have := HSM.out
          simpa using this
        obtain ⟨y, r, hy⟩ : ∃ y r, zs = y :: r := by
          cases hz : zs with
          | nil => have := HZL.out; rw [hz] at this; simp at this; omega
          | cons y r => exact ⟨y, r, rfl⟩
        have HE : Hid (gx = nx ∧ gy = y.fr - 1 ∧ gb = true) := Lib.hid (by
          have h := gap_some (l := ⟨nx, zs⟩) (by rw [HBR.out, hbr]) hy
          rw [HGP.out] at h
          injection h with e1 e2
          injection e2 with e2 e3
          exact ⟨e1, e2, e3⟩)
        have hyf : 0 < y.fr ∧ y.fr ≤ 2199023255552 := by
          have h1 := ((right_iff _).1 (by rw [HBR.out, hbr] : rightL ⟨nx, zs⟩ = true)).2.2.2
          have h2 := (may_iff y).1 (rise_mem h1 y (by show y ∈ zs; rw [hy]; exact List.mem_cons_self)).1
          have h3 : top = 2199023255552 := rfl
          omega
        obtain ⟨bb, off, rfl, hc⟩ := (HLW.out _ HB7.out).2.at (by rw [HZL.out]; exact hln) (by decide)
        have b0 : wc.cell? ⟨bb, off, none⟩ = some (.int .i64 y.fr) := by
          have := hc 0 y (by rw [hy]; rfl) 0 _ rfl
          simpa using this
        have hcap : len ≤ cap := by
          rcases (HLW.out _ HB7.out).2 with ⟨h, _⟩ | ⟨_, _, h, _⟩
          · cases h
          · rwa [HZL.out] at h
        obtain ⟨rfl, rfl, rfl⟩ := HE.out
        have ew : IntKind.i64.wrap (y.fr - 1) = y.fr - 1 := by rw [IntKind.wrap_i64]; omega
        clear hc hy
        go_wp2_with fail
        go_meet
        exact ⟨rfl, rfl⟩
    case rest =>
    obtain ⟨rfl, hwc⟩ := hcut
    subst hwc
    clear z0 z1
    obtain ⟨bm, hbm⟩ : ∃ bm, mayI x = bm := ⟨_, rfl⟩
    have hmf : ∀ i ∈ m.held, i.Fits := fun i hi => by
      have hi' : i ∈ (come ⟨nx, zs⟩ x).1.held := by rw [HCO.out]; exact hi
      rcases come_mem hi' with h | h
      · exact HZF.out i h
      · rw [h]; exact HXF.out
    have hof : ∀ i ∈ out, i.Fits := fun i hi => by
      have hi' : i ∈ (come ⟨nx, zs⟩ x).2.1 := by rw [HCO.out]; exact hi
      rcases come_out hi' with h | h
      · exact HZF.out i h
      · rw [h]; exact HXF.out
    have hms : mq ≤ 100000 := by
      have := come_held ⟨nx, zs⟩ x
      rw [HCO.out] at this
      have h1 := HMQ.out
      have h2 := HZL.out
      simp only at this
      omega
    have hos : oq ≤ 100000 := by
      have := come_outs ⟨nx, zs⟩ x
      rw [HCO.out] at this
      have h1 := HOQ.out
      have h2 := HZL.out
      simp only at this
      omega
    have HBB : Hid (∀ W, Below wc.heap.size wc W → Laid W ∧ RowAt encI W a cap zs) := Lib.hid fun W hW => HLW.out W (HB7.out.trans (hW.mono HB7.out.size))
    have HK1 : Hid (∀ W, Below wc.heap.size wc W → Calls Try.prog 12 #[.agg XA] W fun e w' => e = .returned (.bool bm) ∧ Below wc.heap.size wc w') := Lib.hid fun W hW => (may_h XA x HXA.out W (HBB.out W hW).1 bm hbm).mono fun _ _ h => ⟨h.1, hW.trans (h.2.mono hW.size)⟩
    have HK2 : Hid (∀ W, Below wc.heap.size wc W → Calls Try.prog 13 #[.agg XA] W fun e w' => e = .returned (.bool bm) ∧ Below wc.heap.size wc w') := Lib.hid fun W hW => (may_is XA x HXA.out bm hbm W).mono fun _ _ h => ⟨h.1, hW.trans (h.2.mono hW.size)⟩
    have HK3 : Hid (∀ W, Below wc.heap.size wc W → Calls Try.prog 14 #[.agg #[.int .i64 nx, .slice a5 len c5]] W fun e w' => e = .returned (.bool br) ∧ Below wc.heap.size wc w') := Lib.hid fun W hW => (right_h _ ⟨nx, zs⟩ a5 c5 len rfl HZL.out (by omega) W (HPR7.out.later hW) (HBB.out W hW).1 br HBR.out).mono fun _ _ h => ⟨h.1, hW.trans (h.2.mono hW.size)⟩
    have HK4 : Hid (∀ W, Below wc.heap.size wc W → Calls Try.prog 11 #[.agg #[.int .i64 nx, .slice a len cap]] W fun e w' => e = .returned (.bool br) ∧ Below wc.heap.size wc w') := Lib.hid fun W hW => (rright_c _ ⟨nx, zs⟩ a cap len rfl HZL.out (by omega) W (HBB.out W hW).2 br HBR.out).mono fun _ _ h => ⟨h.1, hW.trans (h.2.mono hW.size)⟩
    have HK5 : Hid (∀ W, Below wc.heap.size wc W → Calls Try.prog 15 #[.agg #[.int .i64 m.next, .slice a6 mq c6], .agg #[.int .i64 m.next, .slice a7 mq c7]] W fun e w' => e = .returned (.bool true) ∧ Below wc.heap.size wc w') := Lib.hid fun W hW => (same_i _ _ m m hmf hmf a6 c6 mq a7 c7 mq rfl rfl HMQ.out HMQ.out (by omega) (by omega) W (HM7.out.later hW) (HN7.out.later hW) true (by simp)).mono fun _ _ h => ⟨h.1, hW.trans (h.2.mono hW.size)⟩
    have HK6 : Hid (∀ W, Below wc.heap.size wc W → Calls Try.prog 16 #[.slice b6 oq d6, .slice b7 oq d7] W fun e w' => e = .returned (.bool true) ∧ Below wc.heap.size wc w') := Lib.hid fun W hW => by
      have h := ritems_any out out hof hof b6 d6 oq b7 d7 oq HOQ.out HOQ.out (by omega) (by omega) W (HO7.out.later hW) (HU7.out.later hW)
      refine h.mono fun _ _ h => ⟨by rw [h.1]; simp, hW.trans (h.2.mono hW.size)⟩
    have HK7 : Hid (∀ W, Below wc.heap.size wc W → Calls Try.prog 15 #[.agg #[.int .i64 nx, .slice a5 len c5], .agg #[.int .i64 nx, .slice a len cap]] W fun e w' => e = .returned (.bool true) ∧ Below wc.heap.size wc w') := Lib.hid fun W hW => (same_i _ _ ⟨nx, zs⟩ ⟨nx, zs⟩ HZF.out HZF.out a5 c5 len a cap len rfl rfl HZL.out HZL.out (by omega) (by omega) W (HPR7.out.later hW) (HBB.out W hW).2 true (by simp)).mono fun _ _ h => ⟨h.1, hW.trans (h.2.mono hW.size)⟩
    have HSS : Hid (∀ W, Below wc.heap.size wc W → W.cell? ⟨p, 0, none⟩ = some (.int .i64 nx) ∧ W.cell? ⟨p, 1, none⟩ = some (.slice a5 len c5) ∧ W.cell? ⟨w.heap.size, 0, none⟩ = some (.int .i64 nx) ∧ W.cell? ⟨w.heap.size, 1, none⟩ = some (.slice a len cap) ∧ W.cell? ⟨p6, 0, none⟩ = some (.int .i64 m.next) ∧ W.cell? ⟨p6, 1, none⟩ = some (.slice a6 mq c6) ∧ W.cell? ⟨p7, 0, none⟩ = some (.int .i64 m.next) ∧ W.cell? ⟨p7, 1, none⟩ = some (.slice a7 mq c7) ∧ CellsOk W (w.heap.size + 1) 0 20 ∧ cellsAt W (w.heap.size + 1) 0 20 = XA) := Lib.hid fun W hW => by
      have ⟨f1, f2, _⟩ := (HP7.out.later hW).facts
      have ⟨f3, f4, _⟩ := (HG7.out.later hW).facts
      have ⟨f5, f6, _⟩ := (HA7.out.later hW).facts
      have ⟨f7, f8, _⟩ := (HC7.out.later hW).facts
      have hx := block_range (below_block HX7.out hW)
      have hsz : XA.size = 20 := by rw [HXA.out]; rfl
      have ⟨g1, g2⟩ := CellsOk.of hx
      rw [hsz] at g1 g2
      exact ⟨f1, f2, f3, f4, f5, f6, f7, f8, g1, g2⟩
    clear hbm hmf hof hms hos
    go_upto_region 12 with fail
    have hbq := Below.refl wc.heap.size wc
    have ⟨s0, s1, s2, s3, s4, s5, s6, s7, s8, s9⟩ := HSS.out _ hbq
    go_region_held3 (fun w' => Below wc.heap.size wc w' ∧ w'.cell? ⟨p, 0, none⟩ = some (.int .i64 nx) ∧ w'.cell? ⟨p, 1, none⟩ = some (.slice a5 len c5) ∧ w'.cell? ⟨w.heap.size, 0, none⟩ = some (.int .i64 nx) ∧ w'.cell? ⟨w.heap.size, 1, none⟩ = some (.slice a len cap) ∧ w'.cell? ⟨p6, 0, none⟩ = some (.int .i64 m.next) ∧ w'.cell? ⟨p6, 1, none⟩ = some (.slice a6 mq c6) ∧ w'.cell? ⟨p7, 0, none⟩ = some (.int .i64 m.next) ∧ w'.cell? ⟨p7, 1, none⟩ = some (.slice a7 mq c7) ∧ CellsOk w' (w.heap.size + 1) 0 20 ∧ cellsAt w' (w.heap.size + 1) 0 20 = XA)
      (((try dsimp only); (repeat' apply And.intro); all_goals (first | exact hbq.drew | assumption | exact (HSS.out _ hbq.drew).1 | exact (HSS.out _ hbq.drew).2.1 | exact (HSS.out _ hbq.drew).2.2.1 | exact (HSS.out _ hbq.drew).2.2.2.1 | exact (HSS.out _ hbq.drew).2.2.2.2.1 | exact (HSS.out _ hbq.drew).2.2.2.2.2.1 | exact (HSS.out _ hbq.drew).2.2.2.2.2.2.1 | exact (HSS.out _ hbq.drew).2.2.2.2.2.2.2.1 | exact (HSS.out _ hbq.drew).2.2.2.2.2.2.2.2.1 | exact (HSS.out _ hbq.drew).2.2.2.2.2.2.2.2.2 | go_keep)))
      (first
        | (go_at_call 12; with_reducible refine (HK1.out _ (by first | assumption | exact hbq.drew)).mono ?_; rintro e w6 ⟨rfl, hb6⟩; have ⟨t0, t1, t2, t3, t4, t5, t6, t7, t8, t9⟩ := HSS.out _ hb6)
        | (go_at_call 13; with_reducible refine (HK2.out _ (by first | assumption | exact hbq.drew)).mono ?_; rintro e w6 ⟨rfl, hb6⟩; have ⟨t0, t1, t2, t3, t4, t5, t6, t7, t8, t9⟩ := HSS.out _ hb6)
        | (go_at_call 14; with_reducible refine (HK3.out _ (by first | assumption | exact hbq.drew)).mono ?_; rintro e w6 ⟨rfl, hb6⟩; have ⟨t0, t1, t2, t3, t4, t5, t6, t7, t8, t9⟩ := HSS.out _ hb6)
        | (go_at_call 11; with_reducible refine (HK4.out _ (by first | assumption | exact hbq.drew)).mono ?_; rintro e w6 ⟨rfl, hb6⟩; have ⟨t0, t1, t2, t3, t4, t5, t6, t7, t8, t9⟩ := HSS.out _ hb6)
        | (go_at_call 15; with_reducible refine (HK5.out _ (by first | assumption | exact hbq.drew)).mono ?_; rintro e w6 ⟨rfl, hb6⟩; have ⟨t0, t1, t2, t3, t4, t5, t6, t7, t8, t9⟩ := HSS.out _ hb6)
        | (go_at_call 15; with_reducible refine (HK7.out _ (by first | assumption | exact hbq.drew)).mono ?_; rintro e w6 ⟨rfl, hb6⟩; have ⟨t0, t1, t2, t3, t4, t5, t6, t7, t8, t9⟩ := HSS.out _ hb6)
        | (go_at_call 16; with_reducible refine (HK6.out _ (by first | assumption | exact hbq.drew)).mono ?_; rintro e w6 ⟨rfl, hb6⟩; have ⟨t0, t1, t2, t3, t4, t5, t6, t7, t8, t9⟩ := HSS.out _ hb6))
    all_goals
      go_wp2_with fail
      go_ret
      exact ⟨by simp, HB7.out.trans (hb6.mono HB7.out.size)⟩

end Rsq
end Go.Proofs.Ytnldllmlfckecaa
