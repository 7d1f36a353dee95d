/-
  The program's layer 9: Sync, Crash.
-/
import Derived.Test.YtdiegglnfbmpdaaDskPd
namespace Go.Proofs.Ytdiegglnfbmpdaa
open Go.RowKit
namespace Dsk

theorem step_store_mid {P : Program} {ops : Array Oper} {o : Oper} {a : Act} {w : World} {K : Act → World → Prop} {Q : Exit → Act → World → Prop} {E : Prop} {tm : Array Value} (hgd : o.guard = none) (ty : TypeId) (x y : Operand) (ho : o.op = .store ty x y)
    (b f : Nat) (cells : Array Value) (hx : a.eval x = .pointer (some ⟨b, f, none⟩)) (hy : a.eval y = .agg cells) (ht : w.there b f cells.size) (hi : (P.info? ty).map (·.size) = some cells.size) (h1 : cells.all (·.oneCell') = true)
    (h : K (a.put o.dst undef) (w.setCells b f cells.toList)) : if Region.wanted o (yielded ops tm) = true then Oper.wp P o a w K Q else E := by
  rw [if_pos (by simp [Region.wanted, hgd])]
  exact wp_store_mid ty x y ho b f cells hx hy ht hi h1 h
/-- a file's two cells -/
def TwoAt (w : World) (g o : Nat) (u v : Value) : Prop := w.cell? ⟨g, o, none⟩ = some u ∧ w.cell? ⟨g, o + 1, none⟩ = some v
theorem two_range {w : World} {g o : Nat} {u v : Value} (h : w.rangeAt g o [u, v]) : w.cell? ⟨g, o, none⟩ = some u ∧ w.cell? ⟨g, o + 1, none⟩ = some v := ⟨h 0 u rfl, h 1 v rfl⟩

theorem first_is (s t : Option Addr) (n m cn cm : Nat) (S T : List UInt8) (hS : S.length = n) (hT : T.length = m) (hn : n ≤ 100000) (hm : m ≤ 100000) (k : Nat) (x : Int) (hx : x = (k : Int)) (hk : k ≤ n + m) (K : List UInt8) (hK : (S ++ T).take k = K) (w : World) (bs : BytesAt w s cn S) (bt : BytesAt w t cm T) :
    Calls Try.prog 16 #[.agg #[.slice s n cn, .slice t m cm], .int .i64 x] w fun e w' => ∃ b q, e = .returned (.agg #[.slice b k q, .slice none 0 0]) ∧ Own 5 w' w.heap.size (.slice b k q) K ∧ Below w.heap.size w w' := by
  subst hx
  exact first_any s t n m cn cm S T hS hT hn hm k hk K hK w bs bt

set_option maxRecDepth 100000 in
set_option maxHeartbeats 8000000 in
theorem sync_any (d : Dk) (h : Hs) (n : Int) (w : World) (hd : DkAt w d h) (hs : d.small) (hl : Laid w) : Calls Try.prog 7 #[.agg (d.arr h), .int .i64 n] w (GotK w (fun P => DkIn P d h) (syncK d n)) := by
  have HD := Lib.hid hd
  have HL := Lib.hid hl
  clear hd hl
  obtain ⟨DA, hDA⟩ : ∃ X, d.arr h = X := ⟨_, rfl⟩
  have HDA := Lib.hid hDA
  have HDI : Hid ((Try.prog.info? 29).map (·.size) = some DA.size) := Lib.hid (hDA ▸ dk_info d h)
  obtain ⟨g, hg⟩ : ∃ g, w.heap.size = g := ⟨_, rfl⟩
  have HX0 : Hid (DkBox ((w.alloc (.cells DA 29)).alloc (.cells #[.slice none 0 0, .slice none 0 0, .slice none 0 0, .slice none 0 0] 29)) g d h) := Lib.hid (by
    have h1 : ((w.alloc (.cells DA 29)).alloc (.cells #[.slice none 0 0, .slice none 0 0, .slice none 0 0, .slice none 0 0] 29)).heap[g]? = some (.cells DA 29 (0, 0)) := hg ▸ alloc_block (heap_alloc_new _ _)
    rw [← hDA] at h1 ⊢
    exact h1)
  have HZ0 : Hid (((w.alloc (.cells DA 29)).alloc (.cells #[.slice none 0 0, .slice none 0 0, .slice none 0 0, .slice none 0 0] 29)).heap[g + 1]? = some (.cells #[.slice none 0 0, .slice none 0 0, .slice none 0 0, .slice none 0 0] 29 (0, 0))) := Lib.hid (by
    have h := heap_alloc_new (w.alloc (.cells DA 29)) (.cells #[.slice none 0 0, .slice none 0 0, .slice none 0 0, .slice none 0 0] 29)
    rwa [show (w.alloc (.cells DA 29)).heap.size = g + 1 by simp [hg]] at h)
  have HB0 := Lib.hid (below_two w (.cells DA 29) (.cells #[.slice none 0 0, .slice none 0 0, .slice none 0 0, .slice none 0 0] 29))
  obtain ⟨o, ho⟩ : ∃ o, okK d n = o := ⟨_, rfl⟩
  have HOK := Lib.hid ho
  have HG := Lib.hid hg
  rw [hDA]
  clear hDA ho
  go_enter Try.func7, Try.ntmps7
  go_upto_region 1 with fail
  try rw [hg]
  clear hg
  generalize (w.alloc (.cells DA 29)).alloc (.cells #[.slice none 0 0, .slice none 0 0, .slice none 0 0, .slice none 0 0] 29) = v0 at HX0 HZ0 HB0 ⊢
  go_wp2_with (refine wpList_load_arr_g (by rfl) 29 _ rfl g 0 rfl DA _ (by rw [← HDA.out]; exact HX0.out.range) Try.underlying29 rfl HDI.out ?_)
  refine (own_any d h DA HDA.out v0 (HD.out.later HB0.out) hs).mono ?_
  rintro e w1 ⟨k, rfl, ho, hap, hb⟩
  have HB1' := Lib.hid (HB0.out.trans (hb.mono HB0.out.size))
  have HX1' := Lib.hid (HX0.out.later hb)
  have HZ1' := Lib.hid (below_block HZ0.out hb)
  have HO1' := Lib.hid (ho.mono (Nat.succ_le_of_lt (Array.getElem?_eq_some_iff.1 HZ0.out).1))
  have HAP := Lib.hid hap
  clear ho hb hap HB0 HX0 HZ0
  go_upto_region 2 with (refine wpList_store_row rfl 29 _ _ rfl g (d.arr k) rfl rfl _ _ HX1'.out (dk_info _ _) rfl (dk_one _ _) ?_)
  obtain ⟨KA, hKA⟩ : ∃ X, d.arr k = X := ⟨_, rfl⟩
  have HKA := Lib.hid hKA
  have HKI : Hid ((Try.prog.info? 29).map (·.size) = some KA.size) := Lib.hid (hKA ▸ dk_info d k)
  have HKO : Hid (KA.all (·.oneCell') = true) := Lib.hid (hKA ▸ dk_one d k)
  have HKS : Hid (KA.size = 4) := Lib.hid (hKA ▸ rfl)
  have HX1 := Lib.hid (HX1'.out.put d k)
  have HZ1 : Hid ((w1.setRow g (d.arr k)).heap[g + 1]? = some (.cells #[.slice none 0 0, .slice none 0 0, .slice none 0 0, .slice none 0 0] 29 (0, 0))) := Lib.hid ((setRow_other _ _ _ _ (by omega)).trans HZ1'.out)
  have HO1 : Hid (Owns (w1.setRow g (d.arr k)) (g + 2) d k) := Lib.hid (HO1'.out.setRow (by omega) _)
  have HB1 := Lib.hid (below_setRow HB1'.out (Nat.le_of_eq HG.out) (d.arr k))
  rw [hKA] at HX1 HZ1 HO1 HB1 ⊢
  clear HX1' HZ1' HO1' HB1' hKA
  generalize w1.setRow g KA = v1 at HX1 HZ1 HO1 HB1 ⊢
  go_wp2_with (refine wpList_load_arr_g (by rfl) 29 _ rfl g 0 rfl KA _ (by rw [← HKA.out]; exact HX1.out.range) Try.underlying29 rfl HKI.out ?_)
  refine (may_any d k KA HKA.out n v1 HO1.out.at hs (HL.out.below HB1.out) o HOK.out).mono ?_
  rintro e w2 ⟨rfl, hb⟩
  have HX2 := Lib.hid (HX1.out.later hb)
  have HZ2 := Lib.hid (below_block HZ1.out hb)
  have HO2 := Lib.hid (HO1.out.kept hb)
  have HB2 := Lib.hid (HB1.out.trans (hb.mono HB1.out.size))
  clear hb HX1 HZ1 HO1 HB1
  cases o
  · have HR : Hid (syncK d n = (d, 1)) := Lib.hid (by unfold syncK; rw [HOK.out]; exact if_neg (by simp))
    go_wp2_with (first | (refine wpList_load_arr_g (by rfl) 29 _ rfl g 0 rfl KA _ (by rw [← HKA.out]; exact HX2.out.range) Try.underlying29 rfl HKI.out ?_) | (refine wpList_store_row rfl 29 _ _ rfl (g + 1) KA rfl rfl _ _ HZ2.out HKI.out (by rw [← HKA.out]; rfl) HKO.out ?_))
    refine bodyPost_ret (results_row_tmp rfl _ _ _ (g + 1) 29 KA (0, 0) _ rfl (setRow_heap _ _ _ _ _ _ HZ2.out) Try.underlying29 rfl HKI.out) rfl ?_
    rw [HR.out]
    exact fin_K (by have := HG.out; omega) (Nat.lt_succ_self _) HO2.out HB2.out _ 1 KA HKA.out
  obtain ⟨hr, hn⟩ := ok_right HOK.out
  have hsz := (right_iff d).1 hr
  have HKT : Hid (KA = d.arr k) := Lib.hid HKA.out.symm
  have HW : Hid (syncK d n = (d.put n ⟨(d.get n).all, []⟩, 0)) := Lib.hid (by
    unfold syncK
    rw [HOK.out]
    exact if_pos rfl)
  rcases hn with rfl | rfl
  · obtain ⟨m0, hm0⟩ : ∃ m, d.f0.safe.length = m := ⟨_, rfl⟩
    obtain ⟨m1, hm1⟩ : ∃ m, d.f0.tail.length = m := ⟨_, rfl⟩
    have HM0 := Lib.hid hm0
    have HM1 := Lib.hid hm1
    have HMS : Hid (m0 ≤ 100000 ∧ m1 ≤ 100000) := Lib.hid (by rw [← hm0, ← hm1]; exact ⟨hs.1.1, hs.1.2⟩)
    have HBA : Hid (∀ W : World, DkBox W g d k → W.rangeAt g 0 [.slice k.s0.1 m0 k.s0.2, .slice k.t0.1 m1 k.t0.2]) := Lib.hid (fun W h => range_row h (by rw [← hm0, ← hm1]; rfl))
    have HAL : Hid ((d.get 0).all.length = m0 + m1) := Lib.hid (by
      show (d.f0.safe ++ d.f0.tail).length = _
      rw [List.length_append, hm0, hm1])
    obtain ⟨L, hL⟩ : ∃ L, d.f0.safe ++ d.f0.tail = L := ⟨_, rfl⟩
    have HLL : Hid ((d.f0.safe ++ d.f0.tail).take (m0 + m1) = L) := Lib.hid (by rw [← hL, List.take_of_length_le]; rw [List.length_append, HM0.out, HM1.out]; exact Nat.le_refl _)
    have HJL : Hid (m0 + m1 ≤ m0 + m1) := Lib.hid (Nat.le_refl _)
    have HR : Hid (syncK d 0 = (⟨⟨L, []⟩, d.f1⟩, 0)) := Lib.hid (by
      rw [HW.out, ← hL]
      rfl)
    clear hL
    go_upto_region 5 with fail
    have hbd : Below w2.heap.size w2 w2.drew := ⟨rfl, rfl, rfl, Nat.le_refl _, fun _ _ => rfl⟩
    have HXD : Hid (DkBox w2.drew g d k) := Lib.hid (HX2.out.later hbd)
    have HZD : Hid (w2.drew.heap[g + 1]? = some (.cells #[.slice none 0 0, .slice none 0 0, .slice none 0 0, .slice none 0 0] 29 (0, 0))) := Lib.hid (below_block HZ2.out hbd)
    have HOD : Hid (Owns w2.drew (g + 2) d k) := Lib.hid (HO2.out.kept hbd)
    have HBD : Hid (Below w.heap.size w w2.drew) := Lib.hid (HB2.out.trans (hbd.mono HB2.out.size))
    clear hbd HX2 HZ2 HO2 HB2
    refine wp_region_held_drew (S := fun _ => True) (by kernel_rfl) ?hs0 (fun hHeld => ?_)
    case hs0 => trivial
    generalize w2.drew = wd at HXD HZD HOD HBD hHeld ⊢
    refine' wpAnyH_take (i := 0) (oi := _) (v := _) rfl (by kernel_rfl) (by kernel_rfl) (by kernel_rfl) (fun _ _ _ h => h) (Or.inl ⟨by rfl, ?hy⟩) (by assumption) ?_
    case hy => (intro w hSw; (try dsimp only at hSw); (try simp only [List.getElem_toArray, List.getElem_cons_zero]); go_simp; try with_reducible rfl)
    try simp only [List.getElem_toArray, List.getElem_cons_zero, Act.put, List.setIfInBounds_toArray, List.set_cons_zero, List.set_cons_succ]
    refine' wpAnyH_take (i := 1) (oi := _) (v := _) rfl (by kernel_rfl) (by kernel_rfl) (by kernel_rfl) (fun _ _ _ h => h) (Or.inl ⟨by rfl, ?hy⟩) (by assumption) ?_
    case hy => (intro w hSw; (try dsimp only at hSw); (try simp only [List.getElem_toArray, List.getElem_cons_zero, List.getElem_cons_succ]); go_simp; try with_reducible rfl)
    try simp only [List.getElem_toArray, List.getElem_cons_zero, List.getElem_cons_succ, Act.put, List.setIfInBounds_toArray, List.set_cons_zero, List.set_cons_succ]
    refine' wpAnyH_take (i := 2) (oi := _) (v := _) rfl (by kernel_rfl) (by kernel_rfl) (by kernel_rfl) (fun _ _ _ h => h) (Or.inl ⟨by rfl, ?hy⟩) (by assumption) ?_
    case hy => (intro w hSw; (try dsimp only at hSw); (try simp only [List.getElem_toArray, List.getElem_cons_zero, List.getElem_cons_succ]); go_simp; try with_reducible rfl)
    try simp only [List.getElem_toArray, List.getElem_cons_zero, List.getElem_cons_succ, Act.put, List.setIfInBounds_toArray, List.set_cons_zero, List.set_cons_succ]
    refine' wpAnyH_take (i := 4) (oi := _) (v := _) rfl (by kernel_rfl) (by kernel_rfl) (by kernel_rfl) (fun _ _ _ h => h) (Or.inl ⟨by rfl, ?hy⟩) (by assumption) ?_
    case hy => (intro w hSw; (try dsimp only at hSw); (try simp only [List.getElem_toArray, List.getElem_cons_zero, List.getElem_cons_succ]); go_simp; try with_reducible rfl)
    try simp only [List.getElem_toArray, List.getElem_cons_zero, List.getElem_cons_succ, Act.put, List.setIfInBounds_toArray, List.set_cons_zero, List.set_cons_succ]
    refine' wpAnyH_take (i := 5) (oi := _) (v := _) rfl (by kernel_rfl) (by kernel_rfl) (by kernel_rfl) (fun _ _ _ h => h) (Or.inl ⟨by rfl, ?hy⟩) (by assumption) ?_
    case hy => (intro w hSw; (try dsimp only at hSw); (try simp only [List.getElem_toArray, List.getElem_cons_zero, List.getElem_cons_succ]); go_simp; try with_reducible rfl)
    try simp only [List.getElem_toArray, List.getElem_cons_zero, List.getElem_cons_succ, Act.put, List.setIfInBounds_toArray, List.set_cons_zero, List.set_cons_succ]
    refine wpAnyH_ready (rs := [3, 6]) (by kernel_rfl) (by simp) ?_
    refine AllReadyH.cons (o := _) rfl (fun K hK => ?_) (AllReadyH.cons (o := _) rfl (fun K hK => ?_) AllReadyH.nil)
    · try simp only [List.getElem_toArray, List.getElem_cons_zero, List.getElem_cons_succ, Act.put, List.setIfInBounds_toArray, List.set_cons_zero, List.set_cons_succ]
      refine step_load_arr rfl 26 (.tmp 19) rfl g 0 rfl #[.slice k.s0.1 m0 k.s0.2, .slice k.t0.1 m1 k.t0.2] _ (HBA.out _ HXD.out) Try.underlying26 rfl (by kernel_rfl) ?_
      refine hK.out _ _ ?hs1 (fun hHeld => ?_)
      case hs1 => trivial
      clear hK K
      try simp only [Act.put, List.setIfInBounds_toArray, List.set_cons_zero, List.set_cons_succ]
      refine wpAnyH_ready (rs := [6]) (by kernel_rfl) (by simp) ?_
      refine AllReadyH.cons (o := _) rfl (fun K hK => ?_) AllReadyH.nil
      try simp only [List.getElem_toArray, List.getElem_cons_zero, List.getElem_cons_succ, Act.put, List.setIfInBounds_toArray, List.set_cons_zero, List.set_cons_succ]
      refine step_load_arr rfl 26 (.tmp 22) rfl g 0 rfl #[.slice k.s0.1 m0 k.s0.2, .slice k.t0.1 m1 k.t0.2] _ (HBA.out _ HXD.out) Try.underlying26 rfl (by kernel_rfl) ?_
      refine hK.out _ _ ?hs1 (fun hHeld => ?_)
      case hs1 => trivial
      clear hK K
      try simp only [Act.put, List.setIfInBounds_toArray, List.set_cons_zero, List.set_cons_succ]
      refine wpAnyH_ready (rs := [7]) (by kernel_rfl) (by simp) ?_
      refine AllReadyH.cons (o := _) rfl (fun K hK => ?_) AllReadyH.nil
      try simp only [List.getElem_toArray, List.getElem_cons_zero, List.getElem_cons_succ, Act.put, List.setIfInBounds_toArray, List.set_cons_zero, List.set_cons_succ]
      rw [if_pos (by rfl)]
      go_simp
      refine (length_any k.s0.1 k.t0.1 m0 m1 k.s0.2 k.t0.2 HMS.out.1 HMS.out.2 _).mono ?_
      rintro e w3 ⟨rfl, hb⟩
      have HX3 := Lib.hid (HXD.out.later hb)
      have HZ3 := Lib.hid (below_block HZD.out hb)
      have HO3 := Lib.hid (HOD.out.kept hb)
      have HB3 := Lib.hid (HBD.out.trans (hb.mono HBD.out.size))
      clear hb HXD HZD HOD HBD
      go_wp2_with fail
      refine hK.out _ _ ?hs1 (fun hHeld => ?_)
      case hs1 => trivial
      clear hK K
      try simp only [Act.put, List.setIfInBounds_toArray, List.set_cons_zero, List.set_cons_succ]
      refine wpAnyH_ready (rs := [8]) (by kernel_rfl) (by simp) ?_
      refine AllReadyH.cons (o := _) rfl (fun K hK => ?_) AllReadyH.nil
      try simp only [List.getElem_toArray, List.getElem_cons_zero, List.getElem_cons_succ, Act.put, List.setIfInBounds_toArray, List.set_cons_zero, List.set_cons_succ]
      rw [if_pos (by rfl)]
      go_simp
      refine (first_is k.s0.1 k.t0.1 m0 m1 k.s0.2 k.t0.2 d.f0.safe d.f0.tail HM0.out HM1.out HMS.out.1 HMS.out.2 (m0 + m1) _ (by simp) HJL.out L HLL.out _ HO3.out.at.s0 HO3.out.at.t0).mono ?_
      rintro e w5 ⟨b5, q5, rfl, ho, hb⟩
      have HF : Hid (Own 5 w5 (g + 2) (.slice b5 (m0 + m1) q5) L) := Lib.hid (ho.mono (Nat.succ_le_of_lt (Array.getElem?_eq_some_iff.1 HZ3.out).1))
      clear ho
      have HX5 := Lib.hid (HX3.out.later hb)
      have HZ5 := Lib.hid (below_block HZ3.out hb)
      have HO5 := Lib.hid (HO3.out.kept hb)
      have HB5 := Lib.hid (HB3.out.trans (hb.mono HB3.out.size))
      clear hb HX3 HZ3 HO3 HB3
      go_wp2_with fail
      refine hK.out _ _ ?hs1 (fun hHeld => ?_)
      case hs1 => trivial
      clear hK K
      try simp only [Act.put, List.setIfInBounds_toArray, List.set_cons_zero, List.set_cons_succ]
      refine' wpAnyH_take (i := 9) (oi := _) (v := _) rfl (by kernel_rfl) (by kernel_rfl) (by kernel_rfl) (fun _ _ _ h => h) (Or.inl ⟨by rfl, ?hy⟩) (by assumption) ?_
      case hy => (intro w hSw; (try dsimp only at hSw); (try simp only [List.getElem_toArray, List.getElem_cons_zero, List.getElem_cons_succ]); go_simp; try with_reducible rfl)
      try simp only [List.getElem_toArray, List.getElem_cons_zero, List.getElem_cons_succ, Act.put, List.setIfInBounds_toArray, List.set_cons_zero, List.set_cons_succ]
      refine wpAnyH_ready (rs := [10]) (by kernel_rfl) (by simp) ?_
      refine AllReadyH.cons (o := _) rfl (fun K hK => ?_) AllReadyH.nil
      try simp only [List.getElem_toArray, List.getElem_cons_zero, List.getElem_cons_succ, Act.put]
      have HOF : Hid (Owns w5 (g + 2) ⟨⟨L, []⟩, d.f1⟩ ⟨(b5, q5), (none, 0), k.s1, k.t1⟩) := Lib.hid (HO5.out.file0 HF.out)
      obtain ⟨NA, hNA⟩ : ∃ X : Array Value, Dk.arr ⟨⟨L, []⟩, d.f1⟩ ⟨(b5, q5), (none, 0), k.s1, k.t1⟩ = X := ⟨_, rfl⟩
      have HNA := Lib.hid hNA
      have HNI : Hid ((Try.prog.info? 29).map (·.size) = some NA.size) := Lib.hid (hNA ▸ dk_info _ _)
      have HNO : Hid (NA.all (·.oneCell') = true) := Lib.hid (hNA ▸ dk_one _ _)
      have HE : w5.setCells g 0 [.slice b5 (m0 + m1) q5, .slice none 0 0] = w5.setRow g NA := by
        rw [file_set HX5.out, ← hNA, ← own_len HF.out]
        rfl
      have HX6 : Hid (DkBox (w5.setRow g NA) g ⟨⟨L, []⟩, d.f1⟩ ⟨(b5, q5), (none, 0), k.s1, k.t1⟩) := Lib.hid (by rw [← hNA]; exact HX5.out.put _ _)
      have HZ6 : Hid ((w5.setRow g NA).heap[g + 1]? = some (.cells #[.slice none 0 0, .slice none 0 0, .slice none 0 0, .slice none 0 0] 29 (0, 0))) := Lib.hid ((setRow_other _ _ _ _ (by omega)).trans HZ5.out)
      have HO6 : Hid (Owns (w5.setRow g NA) (g + 2) ⟨⟨L, []⟩, d.f1⟩ ⟨(b5, q5), (none, 0), k.s1, k.t1⟩) := Lib.hid (HOF.out.setRow (by omega) _)
      have HB6 := Lib.hid (below_setRow HB5.out (Nat.le_of_eq HG.out) NA)
      have HE2 : (w5.setCell ⟨g, 0, none⟩ (.slice b5 (m0 + m1) q5)).setCell ⟨g, 1, none⟩ (.slice none 0 0) = w5.setRow g NA := HE
      refine step_store_mid rfl 26 (.tmp 26) (.tmp 25) rfl g 0 #[.slice b5 (m0 + m1) q5, .slice none 0 0] rfl rfl (there_row HX5.out (by show 0 + 2 ≤ 4; omega)) (by kernel_rfl) (file_one _ _ _ _ _ _) ?_
      first | rw [HE] | rw [HE2]
      clear HE HE2
      refine hK.out _ _ ?hs1 (fun hHeld => ?_)
      case hs1 => trivial
      clear hK K
      refine wpAnyH_done (by kernel_rfl) ?_ _
      clear hNA HX5 HZ5 HO5 HB5 HF HOF
      generalize w5.setRow g NA = w6 at HX6 HZ6 HO6 HB6 ⊢
      go_wp2_with (first | (refine wpList_load_arr_g (by rfl) 29 _ rfl g 0 rfl NA _ (by rw [← HNA.out]; exact HX6.out.range) Try.underlying29 rfl HNI.out ?_) | (refine wpList_store_row rfl 29 _ _ rfl (g + 1) NA rfl rfl _ _ HZ6.out HNI.out (by rw [← HNA.out]; rfl) HNO.out ?_))
      refine bodyPost_ret (results_row_tmp rfl _ _ _ (g + 1) 29 NA (0, 0) _ rfl (setRow_heap _ _ _ _ _ _ HZ6.out) Try.underlying29 rfl HNI.out) rfl ?_
      rw [HR.out]
      exact fin_K (by have := HG.out; omega) (Nat.lt_succ_self _) HO6.out HB6.out _ 0 NA HNA.out
    · try simp only [List.getElem_toArray, List.getElem_cons_zero, List.getElem_cons_succ, Act.put, List.setIfInBounds_toArray, List.set_cons_zero, List.set_cons_succ]
      refine step_load_arr rfl 26 (.tmp 22) rfl g 0 rfl #[.slice k.s0.1 m0 k.s0.2, .slice k.t0.1 m1 k.t0.2] _ (HBA.out _ HXD.out) Try.underlying26 rfl (by kernel_rfl) ?_
      refine hK.out _ _ ?hs1 (fun hHeld => ?_)
      case hs1 => trivial
      clear hK K
      try simp only [Act.put, List.setIfInBounds_toArray, List.set_cons_zero, List.set_cons_succ]
      refine wpAnyH_ready (rs := [3, 7]) (by kernel_rfl) (by simp) ?_
      refine AllReadyH.cons (o := _) rfl (fun K hK => ?_) (AllReadyH.cons (o := _) rfl (fun K hK => ?_) AllReadyH.nil)
      · try simp only [List.getElem_toArray, List.getElem_cons_zero, List.getElem_cons_succ, Act.put, List.setIfInBounds_toArray, List.set_cons_zero, List.set_cons_succ]
        refine step_load_arr rfl 26 (.tmp 19) rfl g 0 rfl #[.slice k.s0.1 m0 k.s0.2, .slice k.t0.1 m1 k.t0.2] _ (HBA.out _ HXD.out) Try.underlying26 rfl (by kernel_rfl) ?_
        refine hK.out _ _ ?hs1 (fun hHeld => ?_)
        case hs1 => trivial
        clear hK K
        try simp only [Act.put, List.setIfInBounds_toArray, List.set_cons_zero, List.set_cons_succ]
        refine wpAnyH_ready (rs := [7]) (by kernel_rfl) (by simp) ?_
        refine AllReadyH.cons (o := _) rfl (fun K hK => ?_) AllReadyH.nil
        try simp only [List.getElem_toArray, List.getElem_cons_zero, List.getElem_cons_succ, Act.put, List.setIfInBounds_toArray, List.set_cons_zero, List.set_cons_succ]
        rw [if_pos (by rfl)]
        go_simp
        refine (length_any k.s0.1 k.t0.1 m0 m1 k.s0.2 k.t0.2 HMS.out.1 HMS.out.2 _).mono ?_
        rintro e w3 ⟨rfl, hb⟩
        have HX3 := Lib.hid (HXD.out.later hb)
        have HZ3 := Lib.hid (below_block HZD.out hb)
        have HO3 := Lib.hid (HOD.out.kept hb)
        have HB3 := Lib.hid (HBD.out.trans (hb.mono HBD.out.size))
        clear hb HXD HZD HOD HBD
        go_wp2_with fail
        refine hK.out _ _ ?hs1 (fun hHeld => ?_)
        case hs1 => trivial
        clear hK K
        try simp only [Act.put, List.setIfInBounds_toArray, List.set_cons_zero, List.set_cons_succ]
        refine wpAnyH_ready (rs := [8]) (by kernel_rfl) (by simp) ?_
        refine AllReadyH.cons (o := _) rfl (fun K hK => ?_) AllReadyH.nil
        try simp only [List.getElem_toArray, List.getElem_cons_zero, List.getElem_cons_succ, Act.put, List.setIfInBounds_toArray, List.set_cons_zero, List.set_cons_succ]
        rw [if_pos (by rfl)]
        go_simp
        refine (first_is k.s0.1 k.t0.1 m0 m1 k.s0.2 k.t0.2 d.f0.safe d.f0.tail HM0.out HM1.out HMS.out.1 HMS.out.2 (m0 + m1) _ (by simp) HJL.out L HLL.out _ HO3.out.at.s0 HO3.out.at.t0).mono ?_
        rintro e w5 ⟨b5, q5, rfl, ho, hb⟩
        have HF : Hid (Own 5 w5 (g + 2) (.slice b5 (m0 + m1) q5) L) := Lib.hid (ho.mono (Nat.succ_le_of_lt (Array.getElem?_eq_some_iff.1 HZ3.out).1))
        clear ho
        have HX5 := Lib.hid (HX3.out.later hb)
        have HZ5 := Lib.hid (below_block HZ3.out hb)
        have HO5 := Lib.hid (HO3.out.kept hb)
        have HB5 := Lib.hid (HB3.out.trans (hb.mono HB3.out.size))
        clear hb HX3 HZ3 HO3 HB3
        go_wp2_with fail
        refine hK.out _ _ ?hs1 (fun hHeld => ?_)
        case hs1 => trivial
        clear hK K
        try simp only [Act.put, List.setIfInBounds_toArray, List.set_cons_zero, List.set_cons_succ]
        refine' wpAnyH_take (i := 9) (oi := _) (v := _) rfl (by kernel_rfl) (by kernel_rfl) (by kernel_rfl) (fun _ _ _ h => h) (Or.inl ⟨by rfl, ?hy⟩) (by assumption) ?_
        case hy => (intro w hSw; (try dsimp only at hSw); (try simp only [List.getElem_toArray, List.getElem_cons_zero, List.getElem_cons_succ]); go_simp; try with_reducible rfl)
        try simp only [List.getElem_toArray, List.getElem_cons_zero, List.getElem_cons_succ, Act.put, List.setIfInBounds_toArray, List.set_cons_zero, List.set_cons_succ]
        refine wpAnyH_ready (rs := [10]) (by kernel_rfl) (by simp) ?_
        refine AllReadyH.cons (o := _) rfl (fun K hK => ?_) AllReadyH.nil
        try simp only [List.getElem_toArray, List.getElem_cons_zero, List.getElem_cons_succ, Act.put]
        have HOF : Hid (Owns w5 (g + 2) ⟨⟨L, []⟩, d.f1⟩ ⟨(b5, q5), (none, 0), k.s1, k.t1⟩) := Lib.hid (HO5.out.file0 HF.out)
        obtain ⟨NA, hNA⟩ : ∃ X : Array Value, Dk.arr ⟨⟨L, []⟩, d.f1⟩ ⟨(b5, q5), (none, 0), k.s1, k.t1⟩ = X := ⟨_, rfl⟩
        have HNA := Lib.hid hNA
        have HNI : Hid ((Try.prog.info? 29).map (·.size) = some NA.size) := Lib.hid (hNA ▸ dk_info _ _)
        have HNO : Hid (NA.all (·.oneCell') = true) := Lib.hid (hNA ▸ dk_one _ _)
        have HE : w5.setCells g 0 [.slice b5 (m0 + m1) q5, .slice none 0 0] = w5.setRow g NA := by
          rw [file_set HX5.out, ← hNA, ← own_len HF.out]
          rfl
        have HX6 : Hid (DkBox (w5.setRow g NA) g ⟨⟨L, []⟩, d.f1⟩ ⟨(b5, q5), (none, 0), k.s1, k.t1⟩) := Lib.hid (by rw [← hNA]; exact HX5.out.put _ _)
        have HZ6 : Hid ((w5.setRow g NA).heap[g + 1]? = some (.cells #[.slice none 0 0, .slice none 0 0, .slice none 0 0, .slice none 0 0] 29 (0, 0))) := Lib.hid ((setRow_other _ _ _ _ (by omega)).trans HZ5.out)
        have HO6 : Hid (Owns (w5.setRow g NA) (g + 2) ⟨⟨L, []⟩, d.f1⟩ ⟨(b5, q5), (none, 0), k.s1, k.t1⟩) := Lib.hid (HOF.out.setRow (by omega) _)
        have HB6 := Lib.hid (below_setRow HB5.out (Nat.le_of_eq HG.out) NA)
        have HE2 : (w5.setCell ⟨g, 0, none⟩ (.slice b5 (m0 + m1) q5)).setCell ⟨g, 1, none⟩ (.slice none 0 0) = w5.setRow g NA := HE
        refine step_store_mid rfl 26 (.tmp 26) (.tmp 25) rfl g 0 #[.slice b5 (m0 + m1) q5, .slice none 0 0] rfl rfl (there_row HX5.out (by show 0 + 2 ≤ 4; omega)) (by kernel_rfl) (file_one _ _ _ _ _ _) ?_
        first | rw [HE] | rw [HE2]
        clear HE HE2
        refine hK.out _ _ ?hs1 (fun hHeld => ?_)
        case hs1 => trivial
        clear hK K
        refine wpAnyH_done (by kernel_rfl) ?_ _
        clear hNA HX5 HZ5 HO5 HB5 HF HOF
        generalize w5.setRow g NA = w6 at HX6 HZ6 HO6 HB6 ⊢
        go_wp2_with (first | (refine wpList_load_arr_g (by rfl) 29 _ rfl g 0 rfl NA _ (by rw [← HNA.out]; exact HX6.out.range) Try.underlying29 rfl HNI.out ?_) | (refine wpList_store_row rfl 29 _ _ rfl (g + 1) NA rfl rfl _ _ HZ6.out HNI.out (by rw [← HNA.out]; rfl) HNO.out ?_))
        refine bodyPost_ret (results_row_tmp rfl _ _ _ (g + 1) 29 NA (0, 0) _ rfl (setRow_heap _ _ _ _ _ _ HZ6.out) Try.underlying29 rfl HNI.out) rfl ?_
        rw [HR.out]
        exact fin_K (by have := HG.out; omega) (Nat.lt_succ_self _) HO6.out HB6.out _ 0 NA HNA.out
      · try simp only [List.getElem_toArray, List.getElem_cons_zero, List.getElem_cons_succ, Act.put, List.setIfInBounds_toArray, List.set_cons_zero, List.set_cons_succ]
        rw [if_pos (by rfl)]
        go_simp
        refine (length_any k.s0.1 k.t0.1 m0 m1 k.s0.2 k.t0.2 HMS.out.1 HMS.out.2 _).mono ?_
        rintro e w3 ⟨rfl, hb⟩
        have HX3 := Lib.hid (HXD.out.later hb)
        have HZ3 := Lib.hid (below_block HZD.out hb)
        have HO3 := Lib.hid (HOD.out.kept hb)
        have HB3 := Lib.hid (HBD.out.trans (hb.mono HBD.out.size))
        clear hb HXD HZD HOD HBD
        go_wp2_with fail
        refine hK.out _ _ ?hs1 (fun hHeld => ?_)
        case hs1 => trivial
        clear hK K
        try simp only [Act.put, List.setIfInBounds_toArray, List.set_cons_zero, List.set_cons_succ]
        refine wpAnyH_ready (rs := [3]) (by kernel_rfl) (by simp) ?_
        refine AllReadyH.cons (o := _) rfl (fun K hK => ?_) AllReadyH.nil
        try simp only [List.getElem_toArray, List.getElem_cons_zero, List.getElem_cons_succ, Act.put, List.setIfInBounds_toArray, List.set_cons_zero, List.set_cons_succ]
        refine step_load_arr rfl 26 (.tmp 19) rfl g 0 rfl #[.slice k.s0.1 m0 k.s0.2, .slice k.t0.1 m1 k.t0.2] _ (HBA.out _ HX3.out) Try.underlying26 rfl (by kernel_rfl) ?_
        refine hK.out _ _ ?hs1 (fun hHeld => ?_)
        case hs1 => trivial
        clear hK K
        try simp only [Act.put, List.setIfInBounds_toArray, List.set_cons_zero, List.set_cons_succ]
        refine wpAnyH_ready (rs := [8]) (by kernel_rfl) (by simp) ?_
        refine AllReadyH.cons (o := _) rfl (fun K hK => ?_) AllReadyH.nil
        try simp only [List.getElem_toArray, List.getElem_cons_zero, List.getElem_cons_succ, Act.put, List.setIfInBounds_toArray, List.set_cons_zero, List.set_cons_succ]
        rw [if_pos (by rfl)]
        go_simp
        refine (first_is k.s0.1 k.t0.1 m0 m1 k.s0.2 k.t0.2 d.f0.safe d.f0.tail HM0.out HM1.out HMS.out.1 HMS.out.2 (m0 + m1) _ (by simp) HJL.out L HLL.out _ HO3.out.at.s0 HO3.out.at.t0).mono ?_
        rintro e w5 ⟨b5, q5, rfl, ho, hb⟩
        have HF : Hid (Own 5 w5 (g + 2) (.slice b5 (m0 + m1) q5) L) := Lib.hid (ho.mono (Nat.succ_le_of_lt (Array.getElem?_eq_some_iff.1 HZ3.out).1))
        clear ho
        have HX5 := Lib.hid (HX3.out.later hb)
        have HZ5 := Lib.hid (below_block HZ3.out hb)
        have HO5 := Lib.hid (HO3.out.kept hb)
        have HB5 := Lib.hid (HB3.out.trans (hb.mono HB3.out.size))
        clear hb HX3 HZ3 HO3 HB3
        go_wp2_with fail
        refine hK.out _ _ ?hs1 (fun hHeld => ?_)
        case hs1 => trivial
        clear hK K
        try simp only [Act.put, List.setIfInBounds_toArray, List.set_cons_zero, List.set_cons_succ]
        refine' wpAnyH_take (i := 9) (oi := _) (v := _) rfl (by kernel_rfl) (by kernel_rfl) (by kernel_rfl) (fun _ _ _ h => h) (Or.inl ⟨by rfl, ?hy⟩) (by assumption) ?_
        case hy => (intro w hSw; (try dsimp only at hSw); (try simp only [List.getElem_toArray, List.getElem_cons_zero, List.getElem_cons_succ]); go_simp; try with_reducible rfl)
        try simp only [List.getElem_toArray, List.getElem_cons_zero, List.getElem_cons_succ, Act.put, List.setIfInBounds_toArray, List.set_cons_zero, List.set_cons_succ]
        refine wpAnyH_ready (rs := [10]) (by kernel_rfl) (by simp) ?_
        refine AllReadyH.cons (o := _) rfl (fun K hK => ?_) AllReadyH.nil
        try simp only [List.getElem_toArray, List.getElem_cons_zero, List.getElem_cons_succ, Act.put]
        have HOF : Hid (Owns w5 (g + 2) ⟨⟨L, []⟩, d.f1⟩ ⟨(b5, q5), (none, 0), k.s1, k.t1⟩) := Lib.hid (HO5.out.file0 HF.out)
        obtain ⟨NA, hNA⟩ : ∃ X : Array Value, Dk.arr ⟨⟨L, []⟩, d.f1⟩ ⟨(b5, q5), (none, 0), k.s1, k.t1⟩ = X := ⟨_, rfl⟩
        have HNA := Lib.hid hNA
        have HNI : Hid ((Try.prog.info? 29).map (·.size) = some NA.size) := Lib.hid (hNA ▸ dk_info _ _)
        have HNO : Hid (NA.all (·.oneCell') = true) := Lib.hid (hNA ▸ dk_one _ _)
        have HE : w5.setCells g 0 [.slice b5 (m0 + m1) q5, .slice none 0 0] = w5.setRow g NA := by
          rw [file_set HX5.out, ← hNA, ← own_len HF.out]
          rfl
        have HX6 : Hid (DkBox (w5.setRow g NA) g ⟨⟨L, []⟩, d.f1⟩ ⟨(b5, q5), (none, 0), k.s1, k.t1⟩) := Lib.hid (by rw [← hNA]; exact HX5.out.put _ _)
        have HZ6 : Hid ((w5.setRow g NA).heap[g + 1]? = some (.cells #[.slice none 0 0, .slice none 0 0, .slice none 0 0, .slice none 0 0] 29 (0, 0))) := Lib.hid ((setRow_other _ _ _ _ (by omega)).trans HZ5.out)
        have HO6 : Hid (Owns (w5.setRow g NA) (g + 2) ⟨⟨L, []⟩, d.f1⟩ ⟨(b5, q5), (none, 0), k.s1, k.t1⟩) := Lib.hid (HOF.out.setRow (by omega) _)
        have HB6 := Lib.hid (below_setRow HB5.out (Nat.le_of_eq HG.out) NA)
        have HE2 : (w5.setCell ⟨g, 0, none⟩ (.slice b5 (m0 + m1) q5)).setCell ⟨g, 1, none⟩ (.slice none 0 0) = w5.setRow g NA := HE
        refine step_store_mid rfl 26 (.tmp 26) (.tmp 25) rfl g 0 #[.slice b5 (m0 + m1) q5, .slice none 0 0] rfl rfl (there_row HX5.out (by show 0 + 2 ≤ 4; omega)) (by kernel_rfl) (file_one _ _ _ _ _ _) ?_
        first | rw [HE] | rw [HE2]
        clear HE HE2
        refine hK.out _ _ ?hs1 (fun hHeld => ?_)
        case hs1 => trivial
        clear hK K
        refine wpAnyH_done (by kernel_rfl) ?_ _
        clear hNA HX5 HZ5 HO5 HB5 HF HOF
        generalize w5.setRow g NA = w6 at HX6 HZ6 HO6 HB6 ⊢
        go_wp2_with (first | (refine wpList_load_arr_g (by rfl) 29 _ rfl g 0 rfl NA _ (by rw [← HNA.out]; exact HX6.out.range) Try.underlying29 rfl HNI.out ?_) | (refine wpList_store_row rfl 29 _ _ rfl (g + 1) NA rfl rfl _ _ HZ6.out HNI.out (by rw [← HNA.out]; rfl) HNO.out ?_))
        refine bodyPost_ret (results_row_tmp rfl _ _ _ (g + 1) 29 NA (0, 0) _ rfl (setRow_heap _ _ _ _ _ _ HZ6.out) Try.underlying29 rfl HNI.out) rfl ?_
        rw [HR.out]
        exact fin_K (by have := HG.out; omega) (Nat.lt_succ_self _) HO6.out HB6.out _ 0 NA HNA.out
  · obtain ⟨m0, hm0⟩ : ∃ m, d.f1.safe.length = m := ⟨_, rfl⟩
    obtain ⟨m1, hm1⟩ : ∃ m, d.f1.tail.length = m := ⟨_, rfl⟩
    have HM0 := Lib.hid hm0
    have HM1 := Lib.hid hm1
    have HMS : Hid (m0 ≤ 100000 ∧ m1 ≤ 100000) := Lib.hid (by rw [← hm0, ← hm1]; exact ⟨hs.2.1, hs.2.2⟩)
    have HBA : Hid (∀ W : World, DkBox W g d k → W.rangeAt g 2 [.slice k.s1.1 m0 k.s1.2, .slice k.t1.1 m1 k.t1.2]) := Lib.hid (fun W h => range_row h (by rw [← hm0, ← hm1]; rfl))
    have HAL : Hid ((d.get 1).all.length = m0 + m1) := Lib.hid (by
      show (d.f1.safe ++ d.f1.tail).length = _
      rw [List.length_append, hm0, hm1])
    obtain ⟨L, hL⟩ : ∃ L, d.f1.safe ++ d.f1.tail = L := ⟨_, rfl⟩
    have HLL : Hid ((d.f1.safe ++ d.f1.tail).take (m0 + m1) = L) := Lib.hid (by rw [← hL, List.take_of_length_le]; rw [List.length_append, HM0.out, HM1.out]; exact Nat.le_refl _)
    have HJL : Hid (m0 + m1 ≤ m0 + m1) := Lib.hid (Nat.le_refl _)
    have HR : Hid (syncK d 1 = (⟨d.f0, ⟨L, []⟩⟩, 0)) := Lib.hid (by
      rw [HW.out, ← hL]
      rfl)
    clear hL
    go_upto_region 5 with fail
    have hbd : Below w2.heap.size w2 w2.drew := ⟨rfl, rfl, rfl, Nat.le_refl _, fun _ _ => rfl⟩
    have HXD : Hid (DkBox w2.drew g d k) := Lib.hid (HX2.out.later hbd)
    have HZD : Hid (w2.drew.heap[g + 1]? = some (.cells #[.slice none 0 0, .slice none 0 0, .slice none 0 0, .slice none 0 0] 29 (0, 0))) := Lib.hid (below_block HZ2.out hbd)
    have HOD : Hid (Owns w2.drew (g + 2) d k) := Lib.hid (HO2.out.kept hbd)
    have HBD : Hid (Below w.heap.size w w2.drew) := Lib.hid (HB2.out.trans (hbd.mono HB2.out.size))
    clear hbd HX2 HZ2 HO2 HB2
    refine wp_region_held_drew (S := fun _ => True) (by kernel_rfl) ?hs0 (fun hHeld => ?_)
    case hs0 => trivial
    generalize w2.drew = wd at HXD HZD HOD HBD hHeld ⊢
    refine' wpAnyH_take (i := 0) (oi := _) (v := _) rfl (by kernel_rfl) (by kernel_rfl) (by kernel_rfl) (fun _ _ _ h => h) (Or.inl ⟨by rfl, ?hy⟩) (by assumption) ?_
    case hy => (intro w hSw; (try dsimp only at hSw); (try simp only [List.getElem_toArray, List.getElem_cons_zero]); go_simp; try with_reducible rfl)
    try simp only [List.getElem_toArray, List.getElem_cons_zero, Act.put, List.setIfInBounds_toArray, List.set_cons_zero, List.set_cons_succ]
    refine' wpAnyH_take (i := 1) (oi := _) (v := _) rfl (by kernel_rfl) (by kernel_rfl) (by kernel_rfl) (fun _ _ _ h => h) (Or.inl ⟨by rfl, ?hy⟩) (by assumption) ?_
    case hy => (intro w hSw; (try dsimp only at hSw); (try simp only [List.getElem_toArray, List.getElem_cons_zero, List.getElem_cons_succ]); go_simp; try with_reducible rfl)
    try simp only [List.getElem_toArray, List.getElem_cons_zero, List.getElem_cons_succ, Act.put, List.setIfInBounds_toArray, List.set_cons_zero, List.set_cons_succ]
    refine' wpAnyH_take (i := 2) (oi := _) (v := _) rfl (by kernel_rfl) (by kernel_rfl) (by kernel_rfl) (fun _ _ _ h => h) (Or.inl ⟨by rfl, ?hy⟩) (by assumption) ?_
    case hy => (intro w hSw; (try dsimp only at hSw); (try simp only [List.getElem_toArray, List.getElem_cons_zero, List.getElem_cons_succ]); go_simp; try with_reducible rfl)
    try simp only [List.getElem_toArray, List.getElem_cons_zero, List.getElem_cons_succ, Act.put, List.setIfInBounds_toArray, List.set_cons_zero, List.set_cons_succ]
    refine' wpAnyH_take (i := 4) (oi := _) (v := _) rfl (by kernel_rfl) (by kernel_rfl) (by kernel_rfl) (fun _ _ _ h => h) (Or.inl ⟨by rfl, ?hy⟩) (by assumption) ?_
    case hy => (intro w hSw; (try dsimp only at hSw); (try simp only [List.getElem_toArray, List.getElem_cons_zero, List.getElem_cons_succ]); go_simp; try with_reducible rfl)
    try simp only [List.getElem_toArray, List.getElem_cons_zero, List.getElem_cons_succ, Act.put, List.setIfInBounds_toArray, List.set_cons_zero, List.set_cons_succ]
    refine' wpAnyH_take (i := 5) (oi := _) (v := _) rfl (by kernel_rfl) (by kernel_rfl) (by kernel_rfl) (fun _ _ _ h => h) (Or.inl ⟨by rfl, ?hy⟩) (by assumption) ?_
    case hy => (intro w hSw; (try dsimp only at hSw); (try simp only [List.getElem_toArray, List.getElem_cons_zero, List.getElem_cons_succ]); go_simp; try with_reducible rfl)
    try simp only [List.getElem_toArray, List.getElem_cons_zero, List.getElem_cons_succ, Act.put, List.setIfInBounds_toArray, List.set_cons_zero, List.set_cons_succ]
    refine wpAnyH_ready (rs := [3, 6]) (by kernel_rfl) (by simp) ?_
    refine AllReadyH.cons (o := _) rfl (fun K hK => ?_) (AllReadyH.cons (o := _) rfl (fun K hK => ?_) AllReadyH.nil)
    · try simp only [List.getElem_toArray, List.getElem_cons_zero, List.getElem_cons_succ, Act.put, List.setIfInBounds_toArray, List.set_cons_zero, List.set_cons_succ]
      refine step_load_arr rfl 26 (.tmp 19) rfl g 2 rfl #[.slice k.s1.1 m0 k.s1.2, .slice k.t1.1 m1 k.t1.2] _ (HBA.out _ HXD.out) Try.underlying26 rfl (by kernel_rfl) ?_
      refine hK.out _ _ ?hs1 (fun hHeld => ?_)
      case hs1 => trivial
      clear hK K
      try simp only [Act.put, List.setIfInBounds_toArray, List.set_cons_zero, List.set_cons_succ]
      refine wpAnyH_ready (rs := [6]) (by kernel_rfl) (by simp) ?_
      refine AllReadyH.cons (o := _) rfl (fun K hK => ?_) AllReadyH.nil
      try simp only [List.getElem_toArray, List.getElem_cons_zero, List.getElem_cons_succ, Act.put, List.setIfInBounds_toArray, List.set_cons_zero, List.set_cons_succ]
      refine step_load_arr rfl 26 (.tmp 22) rfl g 2 rfl #[.slice k.s1.1 m0 k.s1.2, .slice k.t1.1 m1 k.t1.2] _ (HBA.out _ HXD.out) Try.underlying26 rfl (by kernel_rfl) ?_
      refine hK.out _ _ ?hs1 (fun hHeld => ?_)
      case hs1 => trivial
      clear hK K
      try simp only [Act.put, List.setIfInBounds_toArray, List.set_cons_zero, List.set_cons_succ]
      refine wpAnyH_ready (rs := [7]) (by kernel_rfl) (by simp) ?_
      refine AllReadyH.cons (o := _) rfl (fun K hK => ?_) AllReadyH.nil
      try simp only [List.getElem_toArray, List.getElem_cons_zero, List.getElem_cons_succ, Act.put, List.setIfInBounds_toArray, List.set_cons_zero, List.set_cons_succ]
      rw [if_pos (by rfl)]
      go_simp
      refine (length_any k.s1.1 k.t1.1 m0 m1 k.s1.2 k.t1.2 HMS.out.1 HMS.out.2 _).mono ?_
      rintro e w3 ⟨rfl, hb⟩
      have HX3 := Lib.hid (HXD.out.later hb)
      have HZ3 := Lib.hid (below_block HZD.out hb)
      have HO3 := Lib.hid (HOD.out.kept hb)
      have HB3 := Lib.hid (HBD.out.trans (hb.mono HBD.out.size))
      clear hb HXD HZD HOD HBD
      go_wp2_with fail
      refine hK.out _ _ ?hs1 (fun hHeld => ?_)
      case hs1 => trivial
      clear hK K
      try simp only [Act.put, List.setIfInBounds_toArray, List.set_cons_zero, List.set_cons_succ]
      refine wpAnyH_ready (rs := [8]) (by kernel_rfl) (by simp) ?_
      refine AllReadyH.cons (o := _) rfl (fun K hK => ?_) AllReadyH.nil
      try simp only [List.getElem_toArray, List.getElem_cons_zero, List.getElem_cons_succ, Act.put, List.setIfInBounds_toArray, List.set_cons_zero, List.set_cons_succ]
      rw [if_pos (by rfl)]
      go_simp
      refine (first_is k.s1.1 k.t1.1 m0 m1 k.s1.2 k.t1.2 d.f1.safe d.f1.tail HM0.out HM1.out HMS.out.1 HMS.out.2 (m0 + m1) _ (by simp) HJL.out L HLL.out _ HO3.out.at.s1 HO3.out.at.t1).mono ?_
      rintro e w5 ⟨b5, q5, rfl, ho, hb⟩
      have HF : Hid (Own 5 w5 (g + 2) (.slice b5 (m0 + m1) q5) L) := Lib.hid (ho.mono (Nat.succ_le_of_lt (Array.getElem?_eq_some_iff.1 HZ3.out).1))
      clear ho
      have HX5 := Lib.hid (HX3.out.later hb)
      have HZ5 := Lib.hid (below_block HZ3.out hb)
      have HO5 := Lib.hid (HO3.out.kept hb)
      have HB5 := Lib.hid (HB3.out.trans (hb.mono HB3.out.size))
      clear hb HX3 HZ3 HO3 HB3
      go_wp2_with fail
      refine hK.out _ _ ?hs1 (fun hHeld => ?_)
      case hs1 => trivial
      clear hK K
      try simp only [Act.put, List.setIfInBounds_toArray, List.set_cons_zero, List.set_cons_succ]
      refine' wpAnyH_take (i := 9) (oi := _) (v := _) rfl (by kernel_rfl) (by kernel_rfl) (by kernel_rfl) (fun _ _ _ h => h) (Or.inl ⟨by rfl, ?hy⟩) (by assumption) ?_
      case hy => (intro w hSw; (try dsimp only at hSw); (try simp only [List.getElem_toArray, List.getElem_cons_zero, List.getElem_cons_succ]); go_simp; try with_reducible rfl)
      try simp only [List.getElem_toArray, List.getElem_cons_zero, List.getElem_cons_succ, Act.put, List.setIfInBounds_toArray, List.set_cons_zero, List.set_cons_succ]
      refine wpAnyH_ready (rs := [10]) (by kernel_rfl) (by simp) ?_
      refine AllReadyH.cons (o := _) rfl (fun K hK => ?_) AllReadyH.nil
      try simp only [List.getElem_toArray, List.getElem_cons_zero, List.getElem_cons_succ, Act.put]
      have HOF : Hid (Owns w5 (g + 2) ⟨d.f0, ⟨L, []⟩⟩ ⟨k.s0, k.t0, (b5, q5), (none, 0)⟩) := Lib.hid (HO5.out.file1 HF.out)
      obtain ⟨NA, hNA⟩ : ∃ X : Array Value, Dk.arr ⟨d.f0, ⟨L, []⟩⟩ ⟨k.s0, k.t0, (b5, q5), (none, 0)⟩ = X := ⟨_, rfl⟩
      have HNA := Lib.hid hNA
      have HNI : Hid ((Try.prog.info? 29).map (·.size) = some NA.size) := Lib.hid (hNA ▸ dk_info _ _)
      have HNO : Hid (NA.all (·.oneCell') = true) := Lib.hid (hNA ▸ dk_one _ _)
      have HE : w5.setCells g 2 [.slice b5 (m0 + m1) q5, .slice none 0 0] = w5.setRow g NA := by
        rw [file_set HX5.out, ← hNA, ← own_len HF.out]
        rfl
      have HX6 : Hid (DkBox (w5.setRow g NA) g ⟨d.f0, ⟨L, []⟩⟩ ⟨k.s0, k.t0, (b5, q5), (none, 0)⟩) := Lib.hid (by rw [← hNA]; exact HX5.out.put _ _)
      have HZ6 : Hid ((w5.setRow g NA).heap[g + 1]? = some (.cells #[.slice none 0 0, .slice none 0 0, .slice none 0 0, .slice none 0 0] 29 (0, 0))) := Lib.hid ((setRow_other _ _ _ _ (by omega)).trans HZ5.out)
      have HO6 : Hid (Owns (w5.setRow g NA) (g + 2) ⟨d.f0, ⟨L, []⟩⟩ ⟨k.s0, k.t0, (b5, q5), (none, 0)⟩) := Lib.hid (HOF.out.setRow (by omega) _)
      have HB6 := Lib.hid (below_setRow HB5.out (Nat.le_of_eq HG.out) NA)
      have HE2 : (w5.setCell ⟨g, 2, none⟩ (.slice b5 (m0 + m1) q5)).setCell ⟨g, 3, none⟩ (.slice none 0 0) = w5.setRow g NA := HE
      refine step_store_mid rfl 26 (.tmp 26) (.tmp 25) rfl g 2 #[.slice b5 (m0 + m1) q5, .slice none 0 0] rfl rfl (there_row HX5.out (by show 2 + 2 ≤ 4; omega)) (by kernel_rfl) (file_one _ _ _ _ _ _) ?_
      first | rw [HE] | rw [HE2]
      clear HE HE2
      refine hK.out _ _ ?hs1 (fun hHeld => ?_)
      case hs1 => trivial
      clear hK K
      refine wpAnyH_done (by kernel_rfl) ?_ _
      clear hNA HX5 HZ5 HO5 HB5 HF HOF
      generalize w5.setRow g NA = w6 at HX6 HZ6 HO6 HB6 ⊢
      go_wp2_with (first | (refine wpList_load_arr_g (by rfl) 29 _ rfl g 0 rfl NA _ (by rw [← HNA.out]; exact HX6.out.range) Try.underlying29 rfl HNI.out ?_) | (refine wpList_store_row rfl 29 _ _ rfl (g + 1) NA rfl rfl _ _ HZ6.out HNI.out (by rw [← HNA.out]; rfl) HNO.out ?_))
      refine bodyPost_ret (results_row_tmp rfl _ _ _ (g + 1) 29 NA (0, 0) _ rfl (setRow_heap _ _ _ _ _ _ HZ6.out) Try.underlying29 rfl HNI.out) rfl ?_
      rw [HR.out]
      exact fin_K (by have := HG.out; omega) (Nat.lt_succ_self _) HO6.out HB6.out _ 0 NA HNA.out
    · try simp only [List.getElem_toArray, List.getElem_cons_zero, List.getElem_cons_succ, Act.put, List.setIfInBounds_toArray, List.set_cons_zero, List.set_cons_succ]
      refine step_load_arr rfl 26 (.tmp 22) rfl g 2 rfl #[.slice k.s1.1 m0 k.s1.2, .slice k.t1.1 m1 k.t1.2] _ (HBA.out _ HXD.out) Try.underlying26 rfl (by kernel_rfl) ?_
      refine hK.out _ _ ?hs1 (fun hHeld => ?_)
      case hs1 => trivial
      clear hK K
      try simp only [Act.put, List.setIfInBounds_toArray, List.set_cons_zero, List.set_cons_succ]
      refine wpAnyH_ready (rs := [3, 7]) (by kernel_rfl) (by simp) ?_
      refine AllReadyH.cons (o := _) rfl (fun K hK => ?_) (AllReadyH.cons (o := _) rfl (fun K hK => ?_) AllReadyH.nil)
      · try simp only [List.getElem_toArray, List.getElem_cons_zero, List.getElem_cons_succ, Act.put, List.setIfInBounds_toArray, List.set_cons_zero, List.set_cons_succ]
        refine step_load_arr rfl 26 (.tmp 19) rfl g 2 rfl #[.slice k.s1.1 m0 k.s1.2, .slice k.t1.1 m1 k.t1.2] _ (HBA.out _ HXD.out) Try.underlying26 rfl (by kernel_rfl) ?_
        refine hK.out _ _ ?hs1 (fun hHeld => ?_)
        case hs1 => trivial
        clear hK K
        try simp only [Act.put, List.setIfInBounds_toArray, List.set_cons_zero, List.set_cons_succ]
        refine wpAnyH_ready (rs := [7]) (by kernel_rfl) (by simp) ?_
        refine AllReadyH.cons (o := _) rfl (fun K hK => ?_) AllReadyH.nil
        try simp only [List.getElem_toArray, List.getElem_cons_zero, List.getElem_cons_succ, Act.put, List.setIfInBounds_toArray, List.set_cons_zero, List.set_cons_succ]
        rw [if_pos (by rfl)]
        go_simp
        refine (length_any k.s1.1 k.t1.1 m0 m1 k.s1.2 k.t1.2 HMS.out.1 HMS.out.2 _).mono ?_
        rintro e w3 ⟨rfl, hb⟩
        have HX3 := Lib.hid (HXD.out.later hb)
        have HZ3 := Lib.hid (below_block HZD.out hb)
        have HO3 := Lib.hid (HOD.out.kept hb)
        have HB3 := Lib.hid (HBD.out.trans (hb.mono HBD.out.size))
        clear hb HXD HZD HOD HBD
        go_wp2_with fail
        refine hK.out _ _ ?hs1 (fun hHeld => ?_)
        case hs1 => trivial
        clear hK K
        try simp only [Act.put, List.setIfInBounds_toArray, List.set_cons_zero, List.set_cons_succ]
        refine wpAnyH_ready (rs := [8]) (by kernel_rfl) (by simp) ?_
        refine AllReadyH.cons (o := _) rfl (fun K hK => ?_) AllReadyH.nil
        try simp only [List.getElem_toArray, List.getElem_cons_zero, List.getElem_cons_succ, Act.put, List.setIfInBounds_toArray, List.set_cons_zero, List.set_cons_succ]
        rw [if_pos (by rfl)]
        go_simp
        refine (first_is k.s1.1 k.t1.1 m0 m1 k.s1.2 k.t1.2 d.f1.safe d.f1.tail HM0.out HM1.out HMS.out.1 HMS.out.2 (m0 + m1) _ (by simp) HJL.out L HLL.out _ HO3.out.at.s1 HO3.out.at.t1).mono ?_
        rintro e w5 ⟨b5, q5, rfl, ho, hb⟩
        have HF : Hid (Own 5 w5 (g + 2) (.slice b5 (m0 + m1) q5) L) := Lib.hid (ho.mono (Nat.succ_le_of_lt (Array.getElem?_eq_some_iff.1 HZ3.out).1))
        clear ho
        have HX5 := Lib.hid (HX3.out.later hb)
        have HZ5 := Lib.hid (below_block HZ3.out hb)
        have HO5 := Lib.hid (HO3.out.kept hb)
        have HB5 := Lib.hid (HB3.out.trans (hb.mono HB3.out.size))
        clear hb HX3 HZ3 HO3 HB3
        go_wp2_with fail
        refine hK.out _ _ ?hs1 (fun hHeld => ?_)
        case hs1 => trivial
        clear hK K
        try simp only [Act.put, List.setIfInBounds_toArray, List.set_cons_zero, List.set_cons_succ]
        refine' wpAnyH_take (i := 9) (oi := _) (v := _) rfl (by kernel_rfl) (by kernel_rfl) (by kernel_rfl) (fun _ _ _ h => h) (Or.inl ⟨by rfl, ?hy⟩) (by assumption) ?_
        case hy => (intro w hSw; (try dsimp only at hSw); (try simp only [List.getElem_toArray, List.getElem_cons_zero, List.getElem_cons_succ]); go_simp; try with_reducible rfl)
        try simp only [List.getElem_toArray, List.getElem_cons_zero, List.getElem_cons_succ, Act.put, List.setIfInBounds_toArray, List.set_cons_zero, List.set_cons_succ]
        refine wpAnyH_ready (rs := [10]) (by kernel_rfl) (by simp) ?_
        refine AllReadyH.cons (o := _) rfl (fun K hK => ?_) AllReadyH.nil
        try simp only [List.getElem_toArray, List.getElem_cons_zero, List.getElem_cons_succ, Act.put]
        have HOF : Hid (Owns w5 (g + 2) ⟨d.f0, ⟨L, []⟩⟩ ⟨k.s0, k.t0, (b5, q5), (none, 0)⟩) := Lib.hid (HO5.out.file1 HF.out)
        obtain ⟨NA, hNA⟩ : ∃ X : Array Value, Dk.arr ⟨d.f0, ⟨L, []⟩⟩ ⟨k.s0, k.t0, (b5, q5), (none, 0)⟩ = X := ⟨_, rfl⟩
        have HNA := Lib.hid hNA
        have HNI : Hid ((Try.prog.info? 29).map (·.size) = some NA.size) := Lib.hid (hNA ▸ dk_info _ _)
        have HNO : Hid (NA.all (·.oneCell') = true) := Lib.hid (hNA ▸ dk_one _ _)
        have HE : w5.setCells g 2 [.slice b5 (m0 + m1) q5, .slice none 0 0] = w5.setRow g NA := by
          rw [file_set HX5.out, ← hNA, ← own_len HF.out]
          rfl
        have HX6 : Hid (DkBox (w5.setRow g NA) g ⟨d.f0, ⟨L, []⟩⟩ ⟨k.s0, k.t0, (b5, q5), (none, 0)⟩) := Lib.hid (by rw [← hNA]; exact HX5.out.put _ _)
        have HZ6 : Hid ((w5.setRow g NA).heap[g + 1]? = some (.cells #[.slice none 0 0, .slice none 0 0, .slice none 0 0, .slice none 0 0] 29 (0, 0))) := Lib.hid ((setRow_other _ _ _ _ (by omega)).trans HZ5.out)
        have HO6 : Hid (Owns (w5.setRow g NA) (g + 2) ⟨d.f0, ⟨L, []⟩⟩ ⟨k.s0, k.t0, (b5, q5), (none, 0)⟩) := Lib.hid (HOF.out.setRow (by omega) _)
        have HB6 := Lib.hid (below_setRow HB5.out (Nat.le_of_eq HG.out) NA)
        have HE2 : (w5.setCell ⟨g, 2, none⟩ (.slice b5 (m0 + m1) q5)).setCell ⟨g, 3, none⟩ (.slice none 0 0) = w5.setRow g NA := HE
        refine step_store_mid rfl 26 (.tmp 26) (.tmp 25) rfl g 2 #[.slice b5 (m0 + m1) q5, .slice none 0 0] rfl rfl (there_row HX5.out (by show 2 + 2 ≤ 4; omega)) (by kernel_rfl) (file_one _ _ _ _ _ _) ?_
        first | rw [HE] | rw [HE2]
        clear HE HE2
        refine hK.out _ _ ?hs1 (fun hHeld => ?_)
        case hs1 => trivial
        clear hK K
        refine wpAnyH_done (by kernel_rfl) ?_ _
        clear hNA HX5 HZ5 HO5 HB5 HF HOF
        generalize w5.setRow g NA = w6 at HX6 HZ6 HO6 HB6 ⊢
        go_wp2_with (first | (refine wpList_load_arr_g (by rfl) 29 _ rfl g 0 rfl NA _ (by rw [← HNA.out]; exact HX6.out.range) Try.underlying29 rfl HNI.out ?_) | (refine wpList_store_row rfl 29 _ _ rfl (g + 1) NA rfl rfl _ _ HZ6.out HNI.out (by rw [← HNA.out]; rfl) HNO.out ?_))
        refine bodyPost_ret (results_row_tmp rfl _ _ _ (g + 1) 29 NA (0, 0) _ rfl (setRow_heap _ _ _ _ _ _ HZ6.out) Try.underlying29 rfl HNI.out) rfl ?_
        rw [HR.out]
        exact fin_K (by have := HG.out; omega) (Nat.lt_succ_self _) HO6.out HB6.out _ 0 NA HNA.out
      · try simp only [List.getElem_toArray, List.getElem_cons_zero, List.getElem_cons_succ, Act.put, List.setIfInBounds_toArray, List.set_cons_zero, List.set_cons_succ]
        rw [if_pos (by rfl)]
        go_simp
        refine (length_any k.s1.1 k.t1.1 m0 m1 k.s1.2 k.t1.2 HMS.out.1 HMS.out.2 _).mono ?_
        rintro e w3 ⟨rfl, hb⟩
        have HX3 := Lib.hid (HXD.out.later hb)
        have HZ3 := Lib.hid (below_block HZD.out hb)
        have HO3 := Lib.hid (HOD.out.kept hb)
        have HB3 := Lib.hid (HBD.out.trans (hb.mono HBD.out.size))
        clear hb HXD HZD HOD HBD
        go_wp2_with fail
        refine hK.out _ _ ?hs1 (fun hHeld => ?_)
        case hs1 => trivial
        clear hK K
        try simp only [Act.put, List.setIfInBounds_toArray, List.set_cons_zero, List.set_cons_succ]
        refine wpAnyH_ready (rs := [3]) (by kernel_rfl) (by simp) ?_
        refine AllReadyH.cons (o := _) rfl (fun K hK => ?_) AllReadyH.nil
        try simp only [List.getElem_toArray, List.getElem_cons_zero, List.getElem_cons_succ, Act.put, List.setIfInBounds_toArray, List.set_cons_zero, List.set_cons_succ]
        refine step_load_arr rfl 26 (.tmp 19) rfl g 2 rfl #[.slice k.s1.1 m0 k.s1.2, .slice k.t1.1 m1 k.t1.2] _ (HBA.out _ HX3.out) Try.underlying26 rfl (by kernel_rfl) ?_
        refine hK.out _ _ ?hs1 (fun hHeld => ?_)
        case hs1 => trivial
        clear hK K
        try simp only [Act.put, List.setIfInBounds_toArray, List.set_cons_zero, List.set_cons_succ]
        refine wpAnyH_ready (rs := [8]) (by kernel_rfl) (by simp) ?_
        refine AllReadyH.cons (o := _) rfl (fun K hK => ?_) AllReadyH.nil
        try simp only [List.getElem_toArray, List.getElem_cons_zero, List.getElem_cons_succ, Act.put, List.setIfInBounds_toArray, List.set_cons_zero, List.set_cons_succ]
        rw [if_pos (by rfl)]
        go_simp
        refine (first_is k.s1.1 k.t1.1 m0 m1 k.s1.2 k.t1.2 d.f1.safe d.f1.tail HM0.out HM1.out HMS.out.1 HMS.out.2 (m0 + m1) _ (by simp) HJL.out L HLL.out _ HO3.out.at.s1 HO3.out.at.t1).mono ?_
        rintro e w5 ⟨b5, q5, rfl, ho, hb⟩
        have HF : Hid (Own 5 w5 (g + 2) (.slice b5 (m0 + m1) q5) L) := Lib.hid (ho.mono (Nat.succ_le_of_lt (Array.getElem?_eq_some_iff.1 HZ3.out).1))
        clear ho
        have HX5 := Lib.hid (HX3.out.later hb)
        have HZ5 := Lib.hid (below_block HZ3.out hb)
        have HO5 := Lib.hid (HO3.out.kept hb)
        have HB5 := Lib.hid (HB3.out.trans (hb.mono HB3.out.size))
        clear hb HX3 HZ3 HO3 HB3
        go_wp2_with fail
        refine hK.out _ _ ?hs1 (fun hHeld => ?_)
        case hs1 => trivial
        clear hK K
        try simp only [Act.put, List.setIfInBounds_toArray, List.set_cons_zero, List.set_cons_succ]
        refine' wpAnyH_take (i := 9) (oi := _) (v := _) rfl (by kernel_rfl) (by kernel_rfl) (by kernel_rfl) (fun _ _ _ h => h) (Or.inl ⟨by rfl, ?hy⟩) (by assumption) ?_
        case hy => (intro w hSw; (try dsimp only at hSw); (try simp only [List.getElem_toArray, List.getElem_cons_zero, List.getElem_cons_succ]); go_simp; try with_reducible rfl)
        try simp only [List.getElem_toArray, List.getElem_cons_zero, List.getElem_cons_succ, Act.put, List.setIfInBounds_toArray, List.set_cons_zero, List.set_cons_succ]
        refine wpAnyH_ready (rs := [10]) (by kernel_rfl) (by simp) ?_
        refine AllReadyH.cons (o := _) rfl (fun K hK => ?_) AllReadyH.nil
        try simp only [List.getElem_toArray, List.getElem_cons_zero, List.getElem_cons_succ, Act.put]
        have HOF : Hid (Owns w5 (g + 2) ⟨d.f0, ⟨L, []⟩⟩ ⟨k.s0, k.t0, (b5, q5), (none, 0)⟩) := Lib.hid (HO5.out.file1 HF.out)
        obtain ⟨NA, hNA⟩ : ∃ X : Array Value, Dk.arr ⟨d.f0, ⟨L, []⟩⟩ ⟨k.s0, k.t0, (b5, q5), (none, 0)⟩ = X := ⟨_, rfl⟩
        have HNA := Lib.hid hNA
        have HNI : Hid ((Try.prog.info? 29).map (·.size) = some NA.size) := Lib.hid (hNA ▸ dk_info _ _)
        have HNO : Hid (NA.all (·.oneCell') = true) := Lib.hid (hNA ▸ dk_one _ _)
        have HE : w5.setCells g 2 [.slice b5 (m0 + m1) q5, .slice none 0 0] = w5.setRow g NA := by
          rw [file_set HX5.out, ← hNA, ← own_len HF.out]
          rfl
        have HX6 : Hid (DkBox (w5.setRow g NA) g ⟨d.f0, ⟨L, []⟩⟩ ⟨k.s0, k.t0, (b5, q5), (none, 0)⟩) := Lib.hid (by rw [← hNA]; exact HX5.out.put _ _)
        have HZ6 : Hid ((w5.setRow g NA).heap[g + 1]? = some (.cells #[.slice none 0 0, .slice none 0 0, .slice none 0 0, .slice none 0 0] 29 (0, 0))) := Lib.hid ((setRow_other _ _ _ _ (by omega)).trans HZ5.out)
        have HO6 : Hid (Owns (w5.setRow g NA) (g + 2) ⟨d.f0, ⟨L, []⟩⟩ ⟨k.s0, k.t0, (b5, q5), (none, 0)⟩) := Lib.hid (HOF.out.setRow (by omega) _)
        have HB6 := Lib.hid (below_setRow HB5.out (Nat.le_of_eq HG.out) NA)
        have HE2 : (w5.setCell ⟨g, 2, none⟩ (.slice b5 (m0 + m1) q5)).setCell ⟨g, 3, none⟩ (.slice none 0 0) = w5.setRow g NA := HE
        refine step_store_mid rfl 26 (.tmp 26) (.tmp 25) rfl g 2 #[.slice b5 (m0 + m1) q5, .slice none 0 0] rfl rfl (there_row HX5.out (by show 2 + 2 ≤ 4; omega)) (by kernel_rfl) (file_one _ _ _ _ _ _) ?_
        first | rw [HE] | rw [HE2]
        clear HE HE2
        refine hK.out _ _ ?hs1 (fun hHeld => ?_)
        case hs1 => trivial
        clear hK K
        refine wpAnyH_done (by kernel_rfl) ?_ _
        clear hNA HX5 HZ5 HO5 HB5 HF HOF
        generalize w5.setRow g NA = w6 at HX6 HZ6 HO6 HB6 ⊢
        go_wp2_with (first | (refine wpList_load_arr_g (by rfl) 29 _ rfl g 0 rfl NA _ (by rw [← HNA.out]; exact HX6.out.range) Try.underlying29 rfl HNI.out ?_) | (refine wpList_store_row rfl 29 _ _ rfl (g + 1) NA rfl rfl _ _ HZ6.out HNI.out (by rw [← HNA.out]; rfl) HNO.out ?_))
        refine bodyPost_ret (results_row_tmp rfl _ _ _ (g + 1) 29 NA (0, 0) _ rfl (setRow_heap _ _ _ _ _ _ HZ6.out) Try.underlying29 rfl HNI.out) rfl ?_
        rw [HR.out]
        exact fin_K (by have := HG.out; omega) (Nat.lt_succ_self _) HO6.out HB6.out _ 0 NA HNA.out

end Dsk
end Go.Proofs.Ytdiegglnfbmpdaa
