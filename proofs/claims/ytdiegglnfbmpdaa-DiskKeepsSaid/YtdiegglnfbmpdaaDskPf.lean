/-
  The program's layer 9: Crash.
-/
import Derived.Test.YtdiegglnfbmpdaaDskPe
import Derived.Deep.QuietTactic
namespace Go.Proofs.Ytdiegglnfbmpdaa
open Go.RowKit
namespace Dsk

theorem kept_take (S T : List UInt8) (m k : Nat) (hm : T.length = m) : (S ++ T).take (S.length + min k m) = S ++ T.take k := by
  rw [List.take_append, List.take_of_length_le (by omega)]
  congr 1
  rw [show S.length + min k m - S.length = min k m by omega, ← hm]
  rcases Nat.le_total k T.length with h | h
  · rw [Nat.min_eq_left h]
  · rw [Nat.min_eq_right h, List.take_length, List.take_of_length_le h]
theorem three (w : World) (o1 o2 o3 : Obj) (g : Nat) (hg : w.heap.size = g) : (((w.alloc o1).alloc o2).alloc o3).heap[g]? = some o1 ∧ (((w.alloc o1).alloc o2).alloc o3).heap[g + 1]? = some o2 ∧ (((w.alloc o1).alloc o2).alloc o3).heap[g + 2]? = some o3 ∧ Below w.heap.size w (((w.alloc o1).alloc o2).alloc o3) := by
  subst hg
  have e1 : (w.alloc o1).heap.size = w.heap.size + 1 := by simp
  have e2 : ((w.alloc o1).alloc o2).heap.size = w.heap.size + 2 := by simp
  have h2 := heap_alloc_new (w.alloc o1) o2
  have h3 := heap_alloc_new ((w.alloc o1).alloc o2) o3
  rw [e1] at h2
  rw [e2] at h3
  exact ⟨alloc_block (alloc_block (heap_alloc_new w o1)), alloc_block h2, h3, (below_two w o1 o2).alloc (by rw [e2]; omega) _⟩
theorem fin_C {w0 w : World} {z B : Nat} {d : Dk} {k : Hs} (hz : w0.heap.size ≤ z) (hzB : z < B) (ho : Owns w B d k) (hb : Below w0.heap.size w0 w) (hin : (Nat → Prop) → Prop) (A : Array Value) (hA : d.arr k = A) :
    GotC w0 hin d (.returned (.agg A)) (w.setRow z A) := by
  subst hA
  have h := ho.setRow hzB (d.arr k)
  exact ⟨k, rfl, h.at, below_setRow hb hz _, fun P hP _ => h.inn.mono fun n hn => hP n (by omega)⟩

/-- how it stands in the middle of a crash -/
structure CrAt (w0 w : World) (g : Nat) (k0 k1 : Int) (d : Dk) (k : Hs) : Prop where
  box : DkBox w g d k
  keep : w.heap[g + 1]? = some (.cells #[.int .i64 k0, .int .i64 k1] 37 (0, 0))
  res : w.heap[g + 2]? = some (.cells #[.slice none 0 0, .slice none 0 0, .slice none 0 0, .slice none 0 0] 29 (0, 0))
  own : Owns w (g + 3) d k
  below : Below w0.heap.size w0 w
theorem CrAt.later {w0 w w' : World} {g : Nat} {k0 k1 : Int} {d : Dk} {k : Hs} (h : CrAt w0 w g k0 k1 d k) (hb : Below w.heap.size w w') : CrAt w0 w' g k0 k1 d k :=
  ⟨h.box.later hb, below_block h.keep hb, below_block h.res hb, h.own.kept hb, h.below.trans (hb.mono h.below.size)⟩
theorem CrAt.put {w0 w : World} {g : Nat} {k0 k1 : Int} {d d' : Dk} {k k' : Hs} (h : CrAt w0 w g k0 k1 d k) (hg : w0.heap.size = g) (ho : Owns w (g + 3) d' k') : CrAt w0 (w.setRow g (d'.arr k')) g k0 k1 d' k' :=
  ⟨h.box.put d' k', (setRow_other _ _ _ _ (by omega)).trans h.keep, (setRow_other _ _ _ _ (by omega)).trans h.res, ho.setRow (by omega) _, below_setRow h.below (Nat.le_of_eq hg) _⟩

set_option maxRecDepth 100000 in
set_option maxHeartbeats 8000000 in
theorem crash_any (d : Dk) (h : Hs) (k0 k1 : Int) (w : World) (hd : DkAt w d h) (hs : d.small) (hl : Laid w) : Calls Try.prog 8 #[.agg (d.arr h), .agg #[.int .i64 k0, .int .i64 k1]] w (GotC w (fun P => DkIn P d h) (crashK d k0 k1)) := by
  have HD := Lib.hid hd
  have HL := Lib.hid hl
  clear hd hl
  obtain ⟨DA, hDA⟩ : ∃ X, d.arr h = X := ⟨_, rfl⟩
  have HDA := Lib.hid hDA
  have HDI : Hid ((Try.prog.info? 29).map (·.size) = some DA.size) := Lib.hid (hDA ▸ dk_info d h)
  obtain ⟨g, hg⟩ : ∃ g, w.heap.size = g := ⟨_, rfl⟩
  obtain ⟨z0, z1, z2, z3⟩ := three w (.cells DA 29) (.cells #[.int .i64 k0, .int .i64 k1] 37) (.cells #[.slice none 0 0, .slice none 0 0, .slice none 0 0, .slice none 0 0] 29) g hg
  have HX0 : Hid (DkBox (((w.alloc (.cells DA 29)).alloc (.cells #[.int .i64 k0, .int .i64 k1] 37)).alloc (.cells #[.slice none 0 0, .slice none 0 0, .slice none 0 0, .slice none 0 0] 29)) g d h) := Lib.hid (by
    rw [← hDA] at z0 ⊢
    exact z0)
  have HQ0 := Lib.hid z1
  have HZ0 := Lib.hid z2
  have HB0 := Lib.hid z3
  clear z0 z1 z2 z3
  obtain ⟨o, ho⟩ : ∃ o, rightK d = o := ⟨_, rfl⟩
  have HOK := Lib.hid ho
  have HG := Lib.hid hg
  obtain ⟨R, hR⟩ : ∃ R, crashK d k0 k1 = R := ⟨_, rfl⟩
  have HCR := Lib.hid hR
  rw [hDA, hR]
  clear hDA ho hR
  go_enter Try.func8, Try.ntmps8
  go_upto_region 1 with fail
  try rw [hg]
  clear hg
  generalize ((w.alloc (.cells DA 29)).alloc (.cells #[.int .i64 k0, .int .i64 k1] 37)).alloc (.cells #[.slice none 0 0, .slice none 0 0, .slice none 0 0, .slice none 0 0] 29) = v0 at HX0 HQ0 HZ0 HB0 ⊢
  go_wp2_with (refine wpList_load_arr_g (by rfl) 29 _ rfl g 0 rfl DA _ (by rw [← HDA.out]; exact HX0.out.range) Try.underlying29 rfl HDI.out ?_)
  refine (own_any d h DA HDA.out v0 (HD.out.later HB0.out) hs).mono ?_
  rintro e w1 ⟨k, rfl, ho, -, hb⟩
  have HB1' := Lib.hid (HB0.out.trans (hb.mono HB0.out.size))
  have HX1' := Lib.hid (HX0.out.later hb)
  have HQ1' := Lib.hid (below_block HQ0.out hb)
  have HZ1' := Lib.hid (below_block HZ0.out hb)
  have HO1' := Lib.hid (ho.mono (Nat.succ_le_of_lt (Array.getElem?_eq_some_iff.1 HZ0.out).1))
  clear ho hb HB0 HX0 HQ0 HZ0
  go_upto_region 2 with (refine wpList_store_row rfl 29 _ _ rfl g (d.arr k) rfl rfl _ _ HX1'.out (dk_info _ _) rfl (dk_one _ _) ?_)
  obtain ⟨KA, hKA⟩ : ∃ X, d.arr k = X := ⟨_, rfl⟩
  have HKA := Lib.hid hKA
  have HKI : Hid ((Try.prog.info? 29).map (·.size) = some KA.size) := Lib.hid (hKA ▸ dk_info d k)
  have HKO : Hid (KA.all (·.oneCell') = true) := Lib.hid (hKA ▸ dk_one d k)
  have HX1 := Lib.hid (HX1'.out.put d k)
  have HQ1 : Hid ((w1.setRow g (d.arr k)).heap[g + 1]? = some (.cells #[.int .i64 k0, .int .i64 k1] 37 (0, 0))) := Lib.hid ((setRow_other _ _ _ _ (by omega)).trans HQ1'.out)
  have HZ1 : Hid ((w1.setRow g (d.arr k)).heap[g + 2]? = some (.cells #[.slice none 0 0, .slice none 0 0, .slice none 0 0, .slice none 0 0] 29 (0, 0))) := Lib.hid ((setRow_other _ _ _ _ (by omega)).trans HZ1'.out)
  have HO1 : Hid (Owns (w1.setRow g (d.arr k)) (g + 3) d k) := Lib.hid (HO1'.out.setRow (by omega) _)
  have HB1 := Lib.hid (below_setRow HB1'.out (Nat.le_of_eq HG.out) (d.arr k))
  rw [hKA] at HX1 HQ1 HZ1 HO1 HB1 ⊢
  clear HX1' HQ1' HZ1' HO1' HB1' hKA
  generalize w1.setRow g KA = v1 at HX1 HQ1 HZ1 HO1 HB1 ⊢
  go_wp2_with (refine wpList_load_arr_g (by rfl) 29 _ rfl g 0 rfl KA _ (by rw [← HKA.out]; exact HX1.out.range) Try.underlying29 rfl HKI.out ?_)
  refine (right_is0 d k KA HKA.out v1 HO1.out.at hs (HL.out.below HB1.out) o HOK.out).mono ?_
  rintro e w2 ⟨rfl, hb⟩
  have HQ2 := Lib.hid (below_block HQ1.out hb)
  clear HQ1
  have HX2 := Lib.hid (HX1.out.later hb)
  have HZ2 := Lib.hid (below_block HZ1.out hb)
  have HO2 := Lib.hid (HO1.out.kept hb)
  have HB2 := Lib.hid (HB1.out.trans (hb.mono HB1.out.size))
  clear hb HX1 HZ1 HO1 HB1
  cases o
  · have HR : Hid (R = d) := Lib.hid (by rw [← HCR.out]; unfold crashK; rw [HOK.out]; rfl)
    go_wp2_with (first | (refine wpList_load_arr_g (by rfl) 29 _ rfl g 0 rfl KA _ (by rw [← HKA.out]; exact HX2.out.range) Try.underlying29 rfl HKI.out ?_) | (refine wpList_store_row rfl 29 _ _ rfl (g + 2) KA rfl rfl _ _ HZ2.out HKI.out (by rw [← HKA.out]; rfl) HKO.out ?_))
    refine bodyPost_ret (results_one9 rfl _ _ _ (g + 2) 29 KA (0, 0) _ rfl (setRow_heap _ _ _ _ _ _ HZ2.out) Try.underlying29 rfl HKI.out) rfl ?_
    rw [HR.out]
    exact fin_C (by have := HG.out; omega) (Nat.lt_succ_self _) HO2.out HB2.out _ KA HKA.out
  have HRC : Hid (R = ⟨kept d.f0 k0, kept d.f1 k1⟩) := Lib.hid (by rw [← HCR.out]; unfold crashK; rw [HOK.out]; exact if_pos rfl)
  have HC2 : Hid (CrAt w w2 g k0 k1 d k) := Lib.hid ⟨HX2.out, HQ2.out, HZ2.out, HO2.out, HB2.out⟩
  have HS0 := Lib.hid hs.1
  have HS1 := Lib.hid hs.2
  clear HCR HOK HKA HKI HKO HDA HDI HX2 HQ2 HZ2 HO2 HB2
  go_wp2_with fail
  refine wp_loop_rounds 3 ?_
  rw [rounds_succ]
  obtain ⟨m0, hm0⟩ : ∃ m, d.f0.safe.length = m := ⟨_, rfl⟩
  obtain ⟨m1, hm1⟩ : ∃ m, d.f0.tail.length = m := ⟨_, rfl⟩
  have HM0 := Lib.hid hm0
  have HM1 := Lib.hid hm1
  have HMS : Hid (m0 ≤ 100000 ∧ m1 ≤ 100000) := Lib.hid (by rw [← hm0, ← hm1]; exact ⟨HS0.out.1, HS0.out.2⟩)
  have HBA : Hid (∀ W : World, DkBox W g d k → W.rangeAt g 0 [.slice k.s0.1 m0 k.s0.2, .slice k.t0.1 m1 k.t0.2]) := Lib.hid (fun W h => range_row h (by rw [← hm0, ← hm1]; rfl))
  have HAL : Hid ((d.get 0).all.length = m0 + m1) := Lib.hid (by
    show (d.f0.safe ++ d.f0.tail).length = _
    rw [List.length_append, hm0, hm1])
  have q0 : w2.cell? ⟨g + 1, 0, none⟩ = some (.int .i64 k0) := by rw [cell_of_row _ _ _ _ _ _ HC2.out.keep]; rfl
  have t0 := (two_range (HBA.out _ HC2.out.box)).2
  obtain ⟨jj, hjj⟩ : ∃ j : Nat, min k0.toNat m1 = j := ⟨_, rfl⟩
  have HJJ := Lib.hid hjj
  obtain ⟨L, hL⟩ : ∃ L, d.f0.safe ++ d.f0.tail.take k0.toNat = L := ⟨_, rfl⟩
  have HL2 := Lib.hid hL
  have HLL : Hid ((d.f0.safe ++ d.f0.tail).take (m0 + jj) = L) := Lib.hid (by rw [← hL, ← hjj, ← hm0]; exact kept_take _ _ m1 _ hm1)
  have HJL : Hid (m0 + jj ≤ m0 + m1) := Lib.hid (by omega)
  have HWR : Hid (IntKind.i64.wrap ((m0 : Int) + jj) = ((m0 + jj : Nat) : Int)) := Lib.hid (by have h1 := HMS.out; rw [(IntWalk.i64_left _).trans (IntWalk.wrap64_in _ ⟨by omega, by omega⟩)]; simp)
  clear hL
  go_upto_block 1 with fail
  go_cut [7] (fun _ wx => ∃ k' : Hs, CrAt w wx g k0 k1 ⟨⟨L, []⟩, d.f1⟩ k')
  case first =>
    go_upto_region 8 with fail
    go_cut [7] (fun s_ wx => s_ = .int .i64 jj ∧ Below w2.heap.size w2 wx)
    case first =>
      by_cases c1 : k0 < 0
      · have d1 : decide (k0 < 0) = true := decide_eq_true c1
        go_quiet (fail)
        have e : (if (m1 : Int) < 0 then (m1 : Int) else 0) = (jj : Int) := by split <;> omega
        rw [e]
        go_wp2_with fail
        go_meet
        exact ⟨rfl, ⟨rfl, rfl, rfl, Nat.le_refl _, fun _ _ => rfl⟩⟩
      · have d1 : decide (k0 < 0) = false := decide_eq_false c1
        go_quiet (fail)
        have e : (if (m1 : Int) < k0 then (m1 : Int) else k0) = (jj : Int) := by split <;> omega
        rw [e]
        go_wp2_with fail
        go_meet
        exact ⟨rfl, ⟨rfl, rfl, rfl, Nat.le_refl _, fun _ _ => rfl⟩⟩
    case rest =>
      obtain ⟨rfl, hb⟩ := hcut
      have HC8 := Lib.hid (HC2.out.later hb)
      clear hb q0 t0 HC2 hm0 hm1 hjj
      go_upto_region 9 with fail
      have HCD := Lib.hid (HC8.out.later ⟨rfl, rfl, rfl, Nat.le_refl _, fun _ _ => rfl⟩ : CrAt w wc.drew g k0 k1 d k)
      refine wp_region_held_drew (S := fun _ => True) (by kernel_rfl) ?hs0 (fun hHeld => ?_)
      case hs0 => trivial
      generalize wc.drew = wd at HCD hHeld ⊢
      refine' wpAnyH_take (i := 0) (oi := _) (v := _) rfl (by kernel_rfl) (by kernel_rfl) (by kernel_rfl) (fun _ _ _ h => h) (Or.inl ⟨by rfl, ?hy⟩) (by assumption) ?_
      case hy => (intro w hSw; (try dsimp only at hSw); (try simp only [List.getElem_toArray, List.getElem_cons_zero]); go_simp; try with_reducible rfl)
      try simp only [List.getElem_toArray, List.getElem_cons_zero, Act.put, List.setIfInBounds_toArray, List.set_cons_zero, List.set_cons_succ]
      refine' wpAnyH_take (i := 1) (oi := _) (v := _) rfl (by kernel_rfl) (by kernel_rfl) (by kernel_rfl) (fun _ _ _ h => h) (Or.inl ⟨by rfl, ?hy⟩) (by assumption) ?_
      case hy => (intro w hSw; (try dsimp only at hSw); (try simp only [List.getElem_toArray, List.getElem_cons_zero, List.getElem_cons_succ]); go_simp; try with_reducible rfl)
      try simp only [List.getElem_toArray, List.getElem_cons_zero, List.getElem_cons_succ, Act.put, List.setIfInBounds_toArray, List.set_cons_zero, List.set_cons_succ]
      refine' wpAnyH_take (i := 2) (oi := _) (v := _) rfl (by kernel_rfl) (by kernel_rfl) (by kernel_rfl) (fun _ _ _ h => h) (Or.inl ⟨by rfl, ?hy⟩) (by assumption) ?_
      case hy => (intro w hSw; (try dsimp only at hSw); (try simp only [List.getElem_toArray, List.getElem_cons_zero, List.getElem_cons_succ]); go_simp; try with_reducible rfl)
      try simp only [List.getElem_toArray, List.getElem_cons_zero, List.getElem_cons_succ, Act.put, List.setIfInBounds_toArray, List.set_cons_zero, List.set_cons_succ]
      refine' wpAnyH_take (i := 4) (oi := _) (v := _) rfl (by kernel_rfl) (by kernel_rfl) (by kernel_rfl) (fun _ _ _ h => h) (Or.inl ⟨by rfl, ?hy⟩) (by assumption) ?_
      case hy => (intro w hSw; (try dsimp only at hSw); (try simp only [List.getElem_toArray, List.getElem_cons_zero, List.getElem_cons_succ]); go_simp; try with_reducible rfl)
      try simp only [List.getElem_toArray, List.getElem_cons_zero, List.getElem_cons_succ, Act.put, List.setIfInBounds_toArray, List.set_cons_zero, List.set_cons_succ]
      refine' wpAnyH_take (i := 5) (oi := _) (v := _) rfl (by kernel_rfl) (by kernel_rfl) (by kernel_rfl) (fun _ _ _ h => h) (Or.inl ⟨by rfl, ?hy⟩) (by assumption) ?_
      case hy => (intro w hSw; (try dsimp only at hSw); (try simp only [List.getElem_toArray, List.getElem_cons_zero, List.getElem_cons_succ]); go_simp; try with_reducible rfl)
      try simp only [List.getElem_toArray, List.getElem_cons_zero, List.getElem_cons_succ, Act.put, List.setIfInBounds_toArray, List.set_cons_zero, List.set_cons_succ]
      refine' wpAnyH_take (i := 6) (oi := _) (v := _) rfl (by kernel_rfl) (by kernel_rfl) (by kernel_rfl) (fun _ _ _ h => h) (Or.inl ⟨by rfl, ?hy⟩) (by assumption) ?_
      case hy => (intro w hSw; (try dsimp only at hSw); (try simp only [List.getElem_toArray, List.getElem_cons_zero, List.getElem_cons_succ]); go_simp; try with_reducible rfl)
      try simp only [List.getElem_toArray, List.getElem_cons_zero, List.getElem_cons_succ, Act.put, List.setIfInBounds_toArray, List.set_cons_zero, List.set_cons_succ]
      refine' wpAnyH_take (i := 9) (oi := _) (v := _) rfl (by kernel_rfl) (by kernel_rfl) (by kernel_rfl) (fun _ _ _ h => h) (Or.inl ⟨by rfl, ?hy⟩) (by assumption) ?_
      case hy => (intro w hSw; (try dsimp only at hSw); (try simp only [List.getElem_toArray, List.getElem_cons_zero, List.getElem_cons_succ]); go_simp; try with_reducible rfl)
      try simp only [List.getElem_toArray, List.getElem_cons_zero, List.getElem_cons_succ, Act.put, List.setIfInBounds_toArray, List.set_cons_zero, List.set_cons_succ]
      refine wpAnyH_ready (rs := [3, 7]) (by kernel_rfl) (by simp) ?_
      refine AllReadyH.cons (o := _) rfl (fun K hK => ?_) (AllReadyH.cons (o := _) rfl (fun K hK => ?_) AllReadyH.nil)
      · try simp only [List.getElem_toArray, List.getElem_cons_zero, List.getElem_cons_succ, Act.put, List.setIfInBounds_toArray, List.set_cons_zero, List.set_cons_succ]
        refine step_load_arr rfl 26 (.tmp 32) rfl g 0 rfl #[.slice k.s0.1 m0 k.s0.2, .slice k.t0.1 m1 k.t0.2] _ (HBA.out _ HCD.out.box) Try.underlying26 rfl (by kernel_rfl) ?_
        refine hK.out _ _ ?hs1 (fun hHeld => ?_)
        case hs1 => trivial
        clear hK K
        try simp only [Act.put, List.setIfInBounds_toArray, List.set_cons_zero, List.set_cons_succ]
        refine wpAnyH_ready (rs := [7]) (by kernel_rfl) (by simp) ?_
        refine AllReadyH.cons (o := _) rfl (fun K hK => ?_) AllReadyH.nil
        try simp only [List.getElem_toArray, List.getElem_cons_zero, List.getElem_cons_succ, Act.put, List.setIfInBounds_toArray, List.set_cons_zero, List.set_cons_succ]
        have cs := (two_range (HBA.out _ HCD.out.box)).1
        rw [if_pos (by rfl)]
        go_simp
        refine hK.out _ _ ?hs1 (fun hHeld => ?_)
        case hs1 => trivial
        clear hK K
        clear cs
        refine' wpAnyH_take (i := 8) (oi := _) (v := _) rfl (by kernel_rfl) (by kernel_rfl) (by kernel_rfl) (fun _ _ _ h => h) (Or.inl ⟨by rfl, ?hy⟩) (by assumption) ?_
        case hy => (intro w hSw; (try dsimp only at hSw); (try simp only [List.getElem_toArray, List.getElem_cons_zero, List.getElem_cons_succ]); go_simp; try with_reducible rfl)
        try simp only [List.getElem_toArray, List.getElem_cons_zero, List.getElem_cons_succ, Act.put, List.setIfInBounds_toArray, List.set_cons_zero, List.set_cons_succ]
        refine' wpAnyH_take (i := 10) (oi := _) (v := _) rfl (by kernel_rfl) (by kernel_rfl) (by kernel_rfl) (fun _ _ _ h => h) (Or.inl ⟨by rfl, ?hy⟩) (by assumption) ?_
        case hy => (intro w hSw; (try dsimp only at hSw); (try simp only [List.getElem_toArray, List.getElem_cons_zero, List.getElem_cons_succ]); go_simp; try with_reducible rfl)
        try simp only [List.getElem_toArray, List.getElem_cons_zero, List.getElem_cons_succ, Act.put, List.setIfInBounds_toArray, List.set_cons_zero, List.set_cons_succ]
        refine wpAnyH_ready (rs := [11]) (by kernel_rfl) (by simp) ?_
        refine AllReadyH.cons (o := _) rfl (fun K hK => ?_) AllReadyH.nil
        try simp only [List.getElem_toArray, List.getElem_cons_zero, List.getElem_cons_succ, Act.put, List.setIfInBounds_toArray, List.set_cons_zero, List.set_cons_succ]
        rw [if_pos (by rfl)]
        go_simp
        refine (first_is k.s0.1 k.t0.1 m0 m1 k.s0.2 k.t0.2 d.f0.safe d.f0.tail HM0.out HM1.out HMS.out.1 HMS.out.2 (m0 + jj) _ (by first | exact HWR.out | simp) HJL.out L HLL.out _ HCD.out.own.at.s0 HCD.out.own.at.t0).mono ?_
        rintro e w5 ⟨b5, q5, rfl, ho, hb⟩
        have HF : Hid (Own 5 w5 (g + 3) (.slice b5 (m0 + jj) q5) L) := Lib.hid (ho.mono (Nat.succ_le_of_lt (Array.getElem?_eq_some_iff.1 HCD.out.res).1))
        have HC5 := Lib.hid (HCD.out.later hb)
        clear ho hb
        go_wp2_with fail
        refine hK.out _ _ ?hs1 (fun hHeld => ?_)
        case hs1 => trivial
        clear hK K
        try simp only [Act.put, List.setIfInBounds_toArray, List.set_cons_zero, List.set_cons_succ]
        refine' wpAnyH_take (i := 12) (oi := _) (v := _) rfl (by kernel_rfl) (by kernel_rfl) (by kernel_rfl) (fun _ _ _ h => h) (Or.inl ⟨by rfl, ?hy⟩) (by assumption) ?_
        case hy => (intro w hSw; (try dsimp only at hSw); (try simp only [List.getElem_toArray, List.getElem_cons_zero, List.getElem_cons_succ]); go_simp; try with_reducible rfl)
        try simp only [List.getElem_toArray, List.getElem_cons_zero, List.getElem_cons_succ, Act.put, List.setIfInBounds_toArray, List.set_cons_zero, List.set_cons_succ]
        refine wpAnyH_ready (rs := [13]) (by kernel_rfl) (by simp) ?_
        refine AllReadyH.cons (o := _) rfl (fun K hK => ?_) AllReadyH.nil
        try simp only [List.getElem_toArray, List.getElem_cons_zero, List.getElem_cons_succ, Act.put]
        have HC6 := Lib.hid (HC5.out.put HG.out (HC5.out.own.file0 HF.out))
        have HE : w5.setCells g 0 [.slice b5 (m0 + jj) q5, .slice none 0 0] = w5.setRow g (Dk.arr ⟨⟨L, []⟩, d.f1⟩ ⟨(b5, q5), (none, 0), k.s1, k.t1⟩) := by
          rw [file_set HC5.out.box, ← own_len HF.out]
          rfl
        have HE2 : (w5.setCell ⟨g, 0, none⟩ (.slice b5 (m0 + jj) q5)).setCell ⟨g, 1, none⟩ (.slice none 0 0) = w5.setRow g (Dk.arr ⟨⟨L, []⟩, d.f1⟩ ⟨(b5, q5), (none, 0), k.s1, k.t1⟩) := HE
        refine step_store_mid rfl 26 (.tmp 42) (.tmp 41) rfl g 0 #[.slice b5 (m0 + jj) q5, .slice none 0 0] rfl rfl (there_row HC5.out.box (by show 0 + 2 ≤ 4; omega)) (by kernel_rfl) (file_one _ _ _ _ _ _) ?_
        first | rw [HE] | rw [HE2]
        clear HE HE2
        refine hK.out _ _ ?hs1 (fun hHeld => ?_)
        case hs1 => trivial
        clear hK K
        refine wpAnyH_done (by kernel_rfl) ?_ _
        go_wp2_with fail
        go_meet
        exact ⟨_, HC6.out⟩
      · try simp only [List.getElem_toArray, List.getElem_cons_zero, List.getElem_cons_succ, Act.put, List.setIfInBounds_toArray, List.set_cons_zero, List.set_cons_succ]
        have cs := (two_range (HBA.out _ HCD.out.box)).1
        rw [if_pos (by rfl)]
        go_simp
        refine hK.out _ _ ?hs1 (fun hHeld => ?_)
        case hs1 => trivial
        clear hK K
        clear cs
        refine' wpAnyH_take (i := 8) (oi := _) (v := _) rfl (by kernel_rfl) (by kernel_rfl) (by kernel_rfl) (fun _ _ _ h => h) (Or.inl ⟨by rfl, ?hy⟩) (by assumption) ?_
        case hy => (intro w hSw; (try dsimp only at hSw); (try simp only [List.getElem_toArray, List.getElem_cons_zero, List.getElem_cons_succ]); go_simp; try with_reducible rfl)
        try simp only [List.getElem_toArray, List.getElem_cons_zero, List.getElem_cons_succ, Act.put, List.setIfInBounds_toArray, List.set_cons_zero, List.set_cons_succ]
        refine' wpAnyH_take (i := 10) (oi := _) (v := _) rfl (by kernel_rfl) (by kernel_rfl) (by kernel_rfl) (fun _ _ _ h => h) (Or.inl ⟨by rfl, ?hy⟩) (by assumption) ?_
        case hy => (intro w hSw; (try dsimp only at hSw); (try simp only [List.getElem_toArray, List.getElem_cons_zero, List.getElem_cons_succ]); go_simp; try with_reducible rfl)
        try simp only [List.getElem_toArray, List.getElem_cons_zero, List.getElem_cons_succ, Act.put, List.setIfInBounds_toArray, List.set_cons_zero, List.set_cons_succ]
        refine wpAnyH_ready (rs := [3]) (by kernel_rfl) (by simp) ?_
        refine AllReadyH.cons (o := _) rfl (fun K hK => ?_) AllReadyH.nil
        try simp only [List.getElem_toArray, List.getElem_cons_zero, List.getElem_cons_succ, Act.put, List.setIfInBounds_toArray, List.set_cons_zero, List.set_cons_succ]
        refine step_load_arr rfl 26 (.tmp 32) rfl g 0 rfl #[.slice k.s0.1 m0 k.s0.2, .slice k.t0.1 m1 k.t0.2] _ (HBA.out _ HCD.out.box) Try.underlying26 rfl (by kernel_rfl) ?_
        refine hK.out _ _ ?hs1 (fun hHeld => ?_)
        case hs1 => trivial
        clear hK K
        try simp only [Act.put, List.setIfInBounds_toArray, List.set_cons_zero, List.set_cons_succ]
        refine wpAnyH_ready (rs := [11]) (by kernel_rfl) (by simp) ?_
        refine AllReadyH.cons (o := _) rfl (fun K hK => ?_) AllReadyH.nil
        try simp only [List.getElem_toArray, List.getElem_cons_zero, List.getElem_cons_succ, Act.put, List.setIfInBounds_toArray, List.set_cons_zero, List.set_cons_succ]
        rw [if_pos (by rfl)]
        go_simp
        refine (first_is k.s0.1 k.t0.1 m0 m1 k.s0.2 k.t0.2 d.f0.safe d.f0.tail HM0.out HM1.out HMS.out.1 HMS.out.2 (m0 + jj) _ (by first | exact HWR.out | simp) HJL.out L HLL.out _ HCD.out.own.at.s0 HCD.out.own.at.t0).mono ?_
        rintro e w5 ⟨b5, q5, rfl, ho, hb⟩
        have HF : Hid (Own 5 w5 (g + 3) (.slice b5 (m0 + jj) q5) L) := Lib.hid (ho.mono (Nat.succ_le_of_lt (Array.getElem?_eq_some_iff.1 HCD.out.res).1))
        have HC5 := Lib.hid (HCD.out.later hb)
        clear ho hb
        go_wp2_with fail
        refine hK.out _ _ ?hs1 (fun hHeld => ?_)
        case hs1 => trivial
        clear hK K
        try simp only [Act.put, List.setIfInBounds_toArray, List.set_cons_zero, List.set_cons_succ]
        refine' wpAnyH_take (i := 12) (oi := _) (v := _) rfl (by kernel_rfl) (by kernel_rfl) (by kernel_rfl) (fun _ _ _ h => h) (Or.inl ⟨by rfl, ?hy⟩) (by assumption) ?_
        case hy => (intro w hSw; (try dsimp only at hSw); (try simp only [List.getElem_toArray, List.getElem_cons_zero, List.getElem_cons_succ]); go_simp; try with_reducible rfl)
        try simp only [List.getElem_toArray, List.getElem_cons_zero, List.getElem_cons_succ, Act.put, List.setIfInBounds_toArray, List.set_cons_zero, List.set_cons_succ]
        refine wpAnyH_ready (rs := [13]) (by kernel_rfl) (by simp) ?_
        refine AllReadyH.cons (o := _) rfl (fun K hK => ?_) AllReadyH.nil
        try simp only [List.getElem_toArray, List.getElem_cons_zero, List.getElem_cons_succ, Act.put]
        have HC6 := Lib.hid (HC5.out.put HG.out (HC5.out.own.file0 HF.out))
        have HE : w5.setCells g 0 [.slice b5 (m0 + jj) q5, .slice none 0 0] = w5.setRow g (Dk.arr ⟨⟨L, []⟩, d.f1⟩ ⟨(b5, q5), (none, 0), k.s1, k.t1⟩) := by
          rw [file_set HC5.out.box, ← own_len HF.out]
          rfl
        have HE2 : (w5.setCell ⟨g, 0, none⟩ (.slice b5 (m0 + jj) q5)).setCell ⟨g, 1, none⟩ (.slice none 0 0) = w5.setRow g (Dk.arr ⟨⟨L, []⟩, d.f1⟩ ⟨(b5, q5), (none, 0), k.s1, k.t1⟩) := HE
        refine step_store_mid rfl 26 (.tmp 42) (.tmp 41) rfl g 0 #[.slice b5 (m0 + jj) q5, .slice none 0 0] rfl rfl (there_row HC5.out.box (by show 0 + 2 ≤ 4; omega)) (by kernel_rfl) (file_one _ _ _ _ _ _) ?_
        first | rw [HE] | rw [HE2]
        clear HE HE2
        refine hK.out _ _ ?hs1 (fun hHeld => ?_)
        case hs1 => trivial
        clear hK K
        refine wpAnyH_done (by kernel_rfl) ?_ _
        go_wp2_with fail
        go_meet
        exact ⟨_, HC6.out⟩
  case rest =>
    obtain ⟨k, hC⟩ := hcut
    have HRC' : Hid (R = ⟨⟨L, []⟩, kept d.f1 k1⟩) := Lib.hid (by rw [HRC.out, ← HL2.out]; rfl)
    obtain ⟨d, hd⟩ : ∃ x : Dk, ⟨⟨L, []⟩, d.f1⟩ = x := ⟨_, rfl⟩
    rw [hd] at hC
    have HRC : Hid (R = ⟨d.f0, kept d.f1 k1⟩) := Lib.hid (by rw [HRC'.out, ← hd])
    have HS1 : Hid (d.f1.safe.length ≤ 100000 ∧ d.f1.tail.length ≤ 100000) := Lib.hid (by rw [← hd]; exact HS1.out)
    have HC2 := Lib.hid hC
    clear hC hd HRC' HL2 HLL HJL HJJ HWR HAL HBA HMS HM0 HM1 hm0 hm1 hjj q0 t0
    go_wp2_with fail
    rw [rounds_succ]
    obtain ⟨m0, hm0⟩ : ∃ m, d.f1.safe.length = m := ⟨_, rfl⟩
    obtain ⟨m1, hm1⟩ : ∃ m, d.f1.tail.length = m := ⟨_, rfl⟩
    have HM0 := Lib.hid hm0
    have HM1 := Lib.hid hm1
    have HMS : Hid (m0 ≤ 100000 ∧ m1 ≤ 100000) := Lib.hid (by rw [← hm0, ← hm1]; exact ⟨HS1.out.1, HS1.out.2⟩)
    have HBA : Hid (∀ W : World, DkBox W g d k → W.rangeAt g 2 [.slice k.s1.1 m0 k.s1.2, .slice k.t1.1 m1 k.t1.2]) := Lib.hid (fun W h => range_row h (by rw [← hm0, ← hm1]; rfl))
    have HAL : Hid ((d.get 1).all.length = m0 + m1) := Lib.hid (by
      show (d.f1.safe ++ d.f1.tail).length = _
      rw [List.length_append, hm0, hm1])
    have q1 : wc.cell? ⟨g + 1, 1, none⟩ = some (.int .i64 k1) := by rw [cell_of_row _ _ _ _ _ _ HC2.out.keep]; rfl
    have t1 := (two_range (HBA.out _ HC2.out.box)).2
    obtain ⟨jj, hjj⟩ : ∃ j : Nat, min k1.toNat m1 = j := ⟨_, rfl⟩
    have HJJ := Lib.hid hjj
    obtain ⟨L, hL⟩ : ∃ L, d.f1.safe ++ d.f1.tail.take k1.toNat = L := ⟨_, rfl⟩
    have HL2 := Lib.hid hL
    have HLL : Hid ((d.f1.safe ++ d.f1.tail).take (m0 + jj) = L) := Lib.hid (by rw [← hL, ← hjj, ← hm0]; exact kept_take _ _ m1 _ hm1)
    have HJL : Hid (m0 + jj ≤ m0 + m1) := Lib.hid (by omega)
    have HWR : Hid (IntKind.i64.wrap ((m0 : Int) + jj) = ((m0 + jj : Nat) : Int)) := Lib.hid (by have h1 := HMS.out; rw [(IntWalk.i64_left _).trans (IntWalk.wrap64_in _ ⟨by omega, by omega⟩)]; simp)
    clear hL
    go_upto_block 1 with fail
    go_cut [7] (fun _ wx => ∃ k' : Hs, CrAt w wx g k0 k1 ⟨d.f0, ⟨L, []⟩⟩ k')
    case first =>
      go_upto_region 8 with fail
      go_cut [7] (fun s_ wx => s_ = .int .i64 jj ∧ Below wc.heap.size wc wx)
      case first =>
        by_cases c1 : k1 < 0
        · have d1 : decide (k1 < 0) = true := decide_eq_true c1
          go_quiet (fail)
          have e : (if (m1 : Int) < 0 then (m1 : Int) else 0) = (jj : Int) := by split <;> omega
          rw [e]
          go_wp2_with fail
          go_meet
          exact ⟨rfl, ⟨rfl, rfl, rfl, Nat.le_refl _, fun _ _ => rfl⟩⟩
        · have d1 : decide (k1 < 0) = false := decide_eq_false c1
          go_quiet (fail)
          have e : (if (m1 : Int) < k1 then (m1 : Int) else k1) = (jj : Int) := by split <;> omega
          rw [e]
          go_wp2_with fail
          go_meet
          exact ⟨rfl, ⟨rfl, rfl, rfl, Nat.le_refl _, fun _ _ => rfl⟩⟩
      case rest =>
        obtain ⟨rfl, hb⟩ := hcut
        have HC8 := Lib.hid (HC2.out.later hb)
        clear hb q1 t1 HC2 hm0 hm1 hjj
        go_upto_region 9 with fail
        have HCD := Lib.hid (HC8.out.later ⟨rfl, rfl, rfl, Nat.le_refl _, fun _ _ => rfl⟩ : CrAt w wc.drew g k0 k1 d k)
        refine wp_region_held_drew (S := fun _ => True) (by kernel_rfl) ?hs0 (fun hHeld => ?_)
        case hs0 => trivial
        generalize wc.drew = wd at HCD hHeld ⊢
        refine' wpAnyH_take (i := 0) (oi := _) (v := _) rfl (by kernel_rfl) (by kernel_rfl) (by kernel_rfl) (fun _ _ _ h => h) (Or.inl ⟨by rfl, ?hy⟩) (by assumption) ?_
        case hy => (intro w hSw; (try dsimp only at hSw); (try simp only [List.getElem_toArray, List.getElem_cons_zero]); go_simp; try with_reducible rfl)
        try simp only [List.getElem_toArray, List.getElem_cons_zero, Act.put, List.setIfInBounds_toArray, List.set_cons_zero, List.set_cons_succ]
        refine' wpAnyH_take (i := 1) (oi := _) (v := _) rfl (by kernel_rfl) (by kernel_rfl) (by kernel_rfl) (fun _ _ _ h => h) (Or.inl ⟨by rfl, ?hy⟩) (by assumption) ?_
        case hy => (intro w hSw; (try dsimp only at hSw); (try simp only [List.getElem_toArray, List.getElem_cons_zero, List.getElem_cons_succ]); go_simp; try with_reducible rfl)
        try simp only [List.getElem_toArray, List.getElem_cons_zero, List.getElem_cons_succ, Act.put, List.setIfInBounds_toArray, List.set_cons_zero, List.set_cons_succ]
        refine' wpAnyH_take (i := 2) (oi := _) (v := _) rfl (by kernel_rfl) (by kernel_rfl) (by kernel_rfl) (fun _ _ _ h => h) (Or.inl ⟨by rfl, ?hy⟩) (by assumption) ?_
        case hy => (intro w hSw; (try dsimp only at hSw); (try simp only [List.getElem_toArray, List.getElem_cons_zero, List.getElem_cons_succ]); go_simp; try with_reducible rfl)
        try simp only [List.getElem_toArray, List.getElem_cons_zero, List.getElem_cons_succ, Act.put, List.setIfInBounds_toArray, List.set_cons_zero, List.set_cons_succ]
        refine' wpAnyH_take (i := 4) (oi := _) (v := _) rfl (by kernel_rfl) (by kernel_rfl) (by kernel_rfl) (fun _ _ _ h => h) (Or.inl ⟨by rfl, ?hy⟩) (by assumption) ?_
        case hy => (intro w hSw; (try dsimp only at hSw); (try simp only [List.getElem_toArray, List.getElem_cons_zero, List.getElem_cons_succ]); go_simp; try with_reducible rfl)
        try simp only [List.getElem_toArray, List.getElem_cons_zero, List.getElem_cons_succ, Act.put, List.setIfInBounds_toArray, List.set_cons_zero, List.set_cons_succ]
        refine' wpAnyH_take (i := 5) (oi := _) (v := _) rfl (by kernel_rfl) (by kernel_rfl) (by kernel_rfl) (fun _ _ _ h => h) (Or.inl ⟨by rfl, ?hy⟩) (by assumption) ?_
        case hy => (intro w hSw; (try dsimp only at hSw); (try simp only [List.getElem_toArray, List.getElem_cons_zero, List.getElem_cons_succ]); go_simp; try with_reducible rfl)
        try simp only [List.getElem_toArray, List.getElem_cons_zero, List.getElem_cons_succ, Act.put, List.setIfInBounds_toArray, List.set_cons_zero, List.set_cons_succ]
        refine' wpAnyH_take (i := 6) (oi := _) (v := _) rfl (by kernel_rfl) (by kernel_rfl) (by kernel_rfl) (fun _ _ _ h => h) (Or.inl ⟨by rfl, ?hy⟩) (by assumption) ?_
        case hy => (intro w hSw; (try dsimp only at hSw); (try simp only [List.getElem_toArray, List.getElem_cons_zero, List.getElem_cons_succ]); go_simp; try with_reducible rfl)
        try simp only [List.getElem_toArray, List.getElem_cons_zero, List.getElem_cons_succ, Act.put, List.setIfInBounds_toArray, List.set_cons_zero, List.set_cons_succ]
        refine' wpAnyH_take (i := 9) (oi := _) (v := _) rfl (by kernel_rfl) (by kernel_rfl) (by kernel_rfl) (fun _ _ _ h => h) (Or.inl ⟨by rfl, ?hy⟩) (by assumption) ?_
        case hy => (intro w hSw; (try dsimp only at hSw); (try simp only [List.getElem_toArray, List.getElem_cons_zero, List.getElem_cons_succ]); go_simp; try with_reducible rfl)
        try simp only [List.getElem_toArray, List.getElem_cons_zero, List.getElem_cons_succ, Act.put, List.setIfInBounds_toArray, List.set_cons_zero, List.set_cons_succ]
        refine wpAnyH_ready (rs := [3, 7]) (by kernel_rfl) (by simp) ?_
        refine AllReadyH.cons (o := _) rfl (fun K hK => ?_) (AllReadyH.cons (o := _) rfl (fun K hK => ?_) AllReadyH.nil)
        · try simp only [List.getElem_toArray, List.getElem_cons_zero, List.getElem_cons_succ, Act.put, List.setIfInBounds_toArray, List.set_cons_zero, List.set_cons_succ]
          refine step_load_arr rfl 26 (.tmp 32) rfl g 2 rfl #[.slice k.s1.1 m0 k.s1.2, .slice k.t1.1 m1 k.t1.2] _ (HBA.out _ HCD.out.box) Try.underlying26 rfl (by kernel_rfl) ?_
          refine hK.out _ _ ?hs1 (fun hHeld => ?_)
          case hs1 => trivial
          clear hK K
          try simp only [Act.put, List.setIfInBounds_toArray, List.set_cons_zero, List.set_cons_succ]
          refine wpAnyH_ready (rs := [7]) (by kernel_rfl) (by simp) ?_
          refine AllReadyH.cons (o := _) rfl (fun K hK => ?_) AllReadyH.nil
          try simp only [List.getElem_toArray, List.getElem_cons_zero, List.getElem_cons_succ, Act.put, List.setIfInBounds_toArray, List.set_cons_zero, List.set_cons_succ]
          have cs := (two_range (HBA.out _ HCD.out.box)).1
          rw [if_pos (by rfl)]
          go_simp
          refine hK.out _ _ ?hs1 (fun hHeld => ?_)
          case hs1 => trivial
          clear hK K
          clear cs
          refine' wpAnyH_take (i := 8) (oi := _) (v := _) rfl (by kernel_rfl) (by kernel_rfl) (by kernel_rfl) (fun _ _ _ h => h) (Or.inl ⟨by rfl, ?hy⟩) (by assumption) ?_
          case hy => (intro w hSw; (try dsimp only at hSw); (try simp only [List.getElem_toArray, List.getElem_cons_zero, List.getElem_cons_succ]); go_simp; try with_reducible rfl)
          try simp only [List.getElem_toArray, List.getElem_cons_zero, List.getElem_cons_succ, Act.put, List.setIfInBounds_toArray, List.set_cons_zero, List.set_cons_succ]
          refine' wpAnyH_take (i := 10) (oi := _) (v := _) rfl (by kernel_rfl) (by kernel_rfl) (by kernel_rfl) (fun _ _ _ h => h) (Or.inl ⟨by rfl, ?hy⟩) (by assumption) ?_
          case hy => (intro w hSw; (try dsimp only at hSw); (try simp only [List.getElem_toArray, List.getElem_cons_zero, List.getElem_cons_succ]); go_simp; try with_reducible rfl)
          try simp only [List.getElem_toArray, List.getElem_cons_zero, List.getElem_cons_succ, Act.put, List.setIfInBounds_toArray, List.set_cons_zero, List.set_cons_succ]
          refine wpAnyH_ready (rs := [11]) (by kernel_rfl) (by simp) ?_
          refine AllReadyH.cons (o := _) rfl (fun K hK => ?_) AllReadyH.nil
          try simp only [List.getElem_toArray, List.getElem_cons_zero, List.getElem_cons_succ, Act.put, List.setIfInBounds_toArray, List.set_cons_zero, List.set_cons_succ]
          rw [if_pos (by rfl)]
          go_simp
          refine (first_is k.s1.1 k.t1.1 m0 m1 k.s1.2 k.t1.2 d.f1.safe d.f1.tail HM0.out HM1.out HMS.out.1 HMS.out.2 (m0 + jj) _ (by first | exact HWR.out | simp) HJL.out L HLL.out _ HCD.out.own.at.s1 HCD.out.own.at.t1).mono ?_
          rintro e w5 ⟨b5, q5, rfl, ho, hb⟩
          have HF : Hid (Own 5 w5 (g + 3) (.slice b5 (m0 + jj) q5) L) := Lib.hid (ho.mono (Nat.succ_le_of_lt (Array.getElem?_eq_some_iff.1 HCD.out.res).1))
          have HC5 := Lib.hid (HCD.out.later hb)
          clear ho hb
          go_wp2_with fail
          refine hK.out _ _ ?hs1 (fun hHeld => ?_)
          case hs1 => trivial
          clear hK K
          try simp only [Act.put, List.setIfInBounds_toArray, List.set_cons_zero, List.set_cons_succ]
          refine' wpAnyH_take (i := 12) (oi := _) (v := _) rfl (by kernel_rfl) (by kernel_rfl) (by kernel_rfl) (fun _ _ _ h => h) (Or.inl ⟨by rfl, ?hy⟩) (by assumption) ?_
          case hy => (intro w hSw; (try dsimp only at hSw); (try simp only [List.getElem_toArray, List.getElem_cons_zero, List.getElem_cons_succ]); go_simp; try with_reducible rfl)
          try simp only [List.getElem_toArray, List.getElem_cons_zero, List.getElem_cons_succ, Act.put, List.setIfInBounds_toArray, List.set_cons_zero, List.set_cons_succ]
          refine wpAnyH_ready (rs := [13]) (by kernel_rfl) (by simp) ?_
          refine AllReadyH.cons (o := _) rfl (fun K hK => ?_) AllReadyH.nil
          try simp only [List.getElem_toArray, List.getElem_cons_zero, List.getElem_cons_succ, Act.put]
          have HC6 := Lib.hid (HC5.out.put HG.out (HC5.out.own.file1 HF.out))
          have HE : w5.setCells g 2 [.slice b5 (m0 + jj) q5, .slice none 0 0] = w5.setRow g (Dk.arr ⟨d.f0, ⟨L, []⟩⟩ ⟨k.s0, k.t0, (b5, q5), (none, 0)⟩) := by
            rw [file_set HC5.out.box, ← own_len HF.out]
            rfl
          have HE2 : (w5.setCell ⟨g, 2, none⟩ (.slice b5 (m0 + jj) q5)).setCell ⟨g, 3, none⟩ (.slice none 0 0) = w5.setRow g (Dk.arr ⟨d.f0, ⟨L, []⟩⟩ ⟨k.s0, k.t0, (b5, q5), (none, 0)⟩) := HE
          refine step_store_mid rfl 26 (.tmp 42) (.tmp 41) rfl g 2 #[.slice b5 (m0 + jj) q5, .slice none 0 0] rfl rfl (there_row HC5.out.box (by show 2 + 2 ≤ 4; omega)) (by kernel_rfl) (file_one _ _ _ _ _ _) ?_
          first | rw [HE] | rw [HE2]
          clear HE HE2
          refine hK.out _ _ ?hs1 (fun hHeld => ?_)
          case hs1 => trivial
          clear hK K
          refine wpAnyH_done (by kernel_rfl) ?_ _
          go_wp2_with fail
          go_meet
          exact ⟨_, HC6.out⟩
        · try simp only [List.getElem_toArray, List.getElem_cons_zero, List.getElem_cons_succ, Act.put, List.setIfInBounds_toArray, List.set_cons_zero, List.set_cons_succ]
          have cs := (two_range (HBA.out _ HCD.out.box)).1
          rw [if_pos (by rfl)]
          go_simp
          refine hK.out _ _ ?hs1 (fun hHeld => ?_)
          case hs1 => trivial
          clear hK K
          clear cs
          refine' wpAnyH_take (i := 8) (oi := _) (v := _) rfl (by kernel_rfl) (by kernel_rfl) (by kernel_rfl) (fun _ _ _ h => h) (Or.inl ⟨by rfl, ?hy⟩) (by assumption) ?_
          case hy => (intro w hSw; (try dsimp only at hSw); (try simp only [List.getElem_toArray, List.getElem_cons_zero, List.getElem_cons_succ]); go_simp; try with_reducible rfl)
          try simp only [List.getElem_toArray, List.getElem_cons_zero, List.getElem_cons_succ, Act.put, List.setIfInBounds_toArray, List.set_cons_zero, List.set_cons_succ]
          refine' wpAnyH_take (i := 10) (oi := _) (v := _) rfl (by kernel_rfl) (by kernel_rfl) (by kernel_rfl) (fun _ _ _ h => h) (Or.inl ⟨by rfl, ?hy⟩) (by assumption) ?_
          case hy => (intro w hSw; (try dsimp only at hSw); (try simp only [List.getElem_toArray, List.getElem_cons_zero, List.getElem_cons_succ]); go_simp; try with_reducible rfl)
          try simp only [List.getElem_toArray, List.getElem_cons_zero, List.getElem_cons_succ, Act.put, List.setIfInBounds_toArray, List.set_cons_zero, List.set_cons_succ]
          refine wpAnyH_ready (rs := [3]) (by kernel_rfl) (by simp) ?_
          refine AllReadyH.cons (o := _) rfl (fun K hK => ?_) AllReadyH.nil
          try simp only [List.getElem_toArray, List.getElem_cons_zero, List.getElem_cons_succ, Act.put, List.setIfInBounds_toArray, List.set_cons_zero, List.set_cons_succ]
          refine step_load_arr rfl 26 (.tmp 32) rfl g 2 rfl #[.slice k.s1.1 m0 k.s1.2, .slice k.t1.1 m1 k.t1.2] _ (HBA.out _ HCD.out.box) Try.underlying26 rfl (by kernel_rfl) ?_
          refine hK.out _ _ ?hs1 (fun hHeld => ?_)
          case hs1 => trivial
          clear hK K
          try simp only [Act.put, List.setIfInBounds_toArray, List.set_cons_zero, List.set_cons_succ]
          refine wpAnyH_ready (rs := [11]) (by kernel_rfl) (by simp) ?_
          refine AllReadyH.cons (o := _) rfl (fun K hK => ?_) AllReadyH.nil
          try simp only [List.getElem_toArray, List.getElem_cons_zero, List.getElem_cons_succ, Act.put, List.setIfInBounds_toArray, List.set_cons_zero, List.set_cons_succ]
          rw [if_pos (by rfl)]
          go_simp
          refine (first_is k.s1.1 k.t1.1 m0 m1 k.s1.2 k.t1.2 d.f1.safe d.f1.tail HM0.out HM1.out HMS.out.1 HMS.out.2 (m0 + jj) _ (by first | exact HWR.out | simp) HJL.out L HLL.out _ HCD.out.own.at.s1 HCD.out.own.at.t1).mono ?_
          rintro e w5 ⟨b5, q5, rfl, ho, hb⟩
          have HF : Hid (Own 5 w5 (g + 3) (.slice b5 (m0 + jj) q5) L) := Lib.hid (ho.mono (Nat.succ_le_of_lt (Array.getElem?_eq_some_iff.1 HCD.out.res).1))
          have HC5 := Lib.hid (HCD.out.later hb)
          clear ho hb
          go_wp2_with fail
          refine hK.out _ _ ?hs1 (fun hHeld => ?_)
          case hs1 => trivial
          clear hK K
          try simp only [Act.put, List.setIfInBounds_toArray, List.set_cons_zero, List.set_cons_succ]
          refine' wpAnyH_take (i := 12) (oi := _) (v := _) rfl (by kernel_rfl) (by kernel_rfl) (by kernel_rfl) (fun _ _ _ h => h) (Or.inl ⟨by rfl, ?hy⟩) (by assumption) ?_
          case hy => (intro w hSw; (try dsimp only at hSw); (try simp only [List.getElem_toArray, List.getElem_cons_zero, List.getElem_cons_succ]); go_simp; try with_reducible rfl)
          try simp only [List.getElem_toArray, List.getElem_cons_zero, List.getElem_cons_succ, Act.put, List.setIfInBounds_toArray, List.set_cons_zero, List.set_cons_succ]
          refine wpAnyH_ready (rs := [13]) (by kernel_rfl) (by simp) ?_
          refine AllReadyH.cons (o := _) rfl (fun K hK => ?_) AllReadyH.nil
          try simp only [List.getElem_toArray, List.getElem_cons_zero, List.getElem_cons_succ, Act.put]
          have HC6 := Lib.hid (HC5.out.put HG.out (HC5.out.own.file1 HF.out))
          have HE : w5.setCells g 2 [.slice b5 (m0 + jj) q5, .slice none 0 0] = w5.setRow g (Dk.arr ⟨d.f0, ⟨L, []⟩⟩ ⟨k.s0, k.t0, (b5, q5), (none, 0)⟩) := by
            rw [file_set HC5.out.box, ← own_len HF.out]
            rfl
          have HE2 : (w5.setCell ⟨g, 2, none⟩ (.slice b5 (m0 + jj) q5)).setCell ⟨g, 3, none⟩ (.slice none 0 0) = w5.setRow g (Dk.arr ⟨d.f0, ⟨L, []⟩⟩ ⟨k.s0, k.t0, (b5, q5), (none, 0)⟩) := HE
          refine step_store_mid rfl 26 (.tmp 42) (.tmp 41) rfl g 2 #[.slice b5 (m0 + jj) q5, .slice none 0 0] rfl rfl (there_row HC5.out.box (by show 2 + 2 ≤ 4; omega)) (by kernel_rfl) (file_one _ _ _ _ _ _) ?_
          first | rw [HE] | rw [HE2]
          clear HE HE2
          refine hK.out _ _ ?hs1 (fun hHeld => ?_)
          case hs1 => trivial
          clear hK K
          refine wpAnyH_done (by kernel_rfl) ?_ _
          go_wp2_with fail
          go_meet
          exact ⟨_, HC6.out⟩
    case rest =>
      obtain ⟨k, hC⟩ := hcut
      have HRC' : Hid (R = ⟨d.f0, ⟨L, []⟩⟩) := Lib.hid (by rw [HRC.out, ← HL2.out]; rfl)
      obtain ⟨d, hd⟩ : ∃ x : Dk, ⟨d.f0, ⟨L, []⟩⟩ = x := ⟨_, rfl⟩
      rw [hd] at hC
      have HRC : Hid (R = d) := Lib.hid (by rw [HRC'.out, ← hd])
      have HC2 := Lib.hid hC
      clear hC hd HRC' HL2 HLL HJL HJJ HWR HAL HBA HMS HM0 HM1 hm0 hm1 hjj q1 t1
      go_wp2_with fail
      rw [rounds_succ]
      obtain ⟨KA, hKA⟩ : ∃ X, d.arr k = X := ⟨_, rfl⟩
      have HKA := Lib.hid hKA
      have HKI : Hid ((Try.prog.info? 29).map (·.size) = some KA.size) := Lib.hid (hKA ▸ dk_info d k)
      have HKO : Hid (KA.all (·.oneCell') = true) := Lib.hid (hKA ▸ dk_one d k)
      have HX2 := Lib.hid HC2.out.box
      have HZ2 := Lib.hid HC2.out.res
      have HO2 := Lib.hid HC2.out.own
      have HB2 := Lib.hid HC2.out.below
      have HR := HRC
      clear hKA
      go_wp2_with (first | (refine wpList_load_arr_g (by rfl) 29 _ rfl g 0 rfl KA _ (by rw [← HKA.out]; exact HX2.out.range) Try.underlying29 rfl HKI.out ?_) | (refine wpList_store_row rfl 29 _ _ rfl (g + 2) KA rfl rfl _ _ HZ2.out HKI.out (by rw [← HKA.out]; rfl) HKO.out ?_))
      refine bodyPost_ret (results_one9 rfl _ _ _ (g + 2) 29 KA (0, 0) _ rfl (setRow_heap _ _ _ _ _ _ HZ2.out) Try.underlying29 rfl HKI.out) rfl ?_
      rw [HR.out]
      exact fin_C (by have := HG.out; omega) (Nat.lt_succ_self _) HO2.out HB2.out _ KA HKA.out

end Dsk
end Go.Proofs.Ytdiegglnfbmpdaa
