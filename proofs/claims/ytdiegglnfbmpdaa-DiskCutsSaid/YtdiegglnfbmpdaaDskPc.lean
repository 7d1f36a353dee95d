/-
  The program's layer 9: a file's first bytes; a disk in memory of its own.
-/
import Derived.Test.YtdiegglnfbmpdaaDskPb
import Derived.Test.YtdiegglnfbmpdaaStepDk
namespace Go.Proofs.Ytdiegglnfbmpdaa
open Go.RowKit
namespace Dsk

theorem file_info (a b : Value) (_ha : a.oneCell' = true) (_hb : b.oneCell' = true) : (Try.prog.info? 26).map (·.size) = some (#[a, b] : Array Value).size := by
  rw [show (#[a, b] : Array Value).size = 2 from rfl]
  kernel_rfl
theorem file_one (s t : Option Addr) (n m cn cm : Nat) : (#[.slice s n cn, .slice t m cm] : Array Value).all (·.oneCell') = true := by simp [Value.oneCell']
theorem results_one8 {fn : Func} {p : Tmp} {ty : TypeId} (h : fn.results = #[.cell p ty]) (tmps : Array Value) (P : Program) (w : World) :
    (results fn tmps).run P w = ((asAddr (tmps.getD p undef)).run P w).andThen fun a w₁ => ((loadVar ty a).run P w₁).andThen fun v w₂ => .ok v w₂ := by
  simp only [results, h]
  simp [Sem.run_bind, Result.andThen]
  generalize Sem.run P (asAddr (tmps[p]?.getD undef)) w = r
  cases r with
  | ok a w1 =>
    dsimp only
    generalize Sem.run P (loadVar ty a) w1 = r2
    cases r2 <;> rfl
  | halt h w1 => rfl
theorem results_one9 {fn : Func} {p : Tmp} {ty : TypeId} (h : fn.results = #[.cell p ty]) (tmps : Array Value) (P : Program) (w : World) (g : Nat) (t : TypeId) (cs : Array Value) (fr : Nat × Nat) (d : TypeDesc)
    (hp : tmps.getD p undef = .pointer (some ⟨g, 0, none⟩)) (hg : w.heap[g]? = some (.cells cs t fr))
    (hu : P.underlying ty = some d) (hd : d.isRow = true) (hi : (P.info? ty).map (·.size) = some cs.size) :
    (results fn tmps).run P w = .ok (.agg cs) w := by
  have hl := run_loadVar_mid (P := P) w g 0 ty cs.toList d (block_range hg) hu hd (by simpa using hi)
  rw [Array.toArray_toList] at hl
  rw [results_one8 h, hp]
  simp [asAddr, Result.andThen, hl]

set_option maxRecDepth 100000 in
/-- a file's first bytes, as new memory -/
theorem first_any (s t : Option Addr) (n m cn cm : Nat) (S T : List UInt8) (hS : S.length = n) (hT : T.length = m) (hn : n ≤ 100000) (hm : m ≤ 100000) (k : Nat) (hk : k ≤ n + m) (K : List UInt8) (hK : (S ++ T).take k = K) (w : World) (bs : BytesAt w s cn S) (bt : BytesAt w t cm T) :
    Calls Try.prog 16 #[.agg #[.slice s n cn, .slice t m cm], .int .i64 k] w fun e w' => ∃ b q, e = .returned (.agg #[.slice b k q, .slice none 0 0]) ∧ Own 5 w' w.heap.size (.slice b k q) K ∧ Below w.heap.size w w' := by
  have HS := Lib.hid bs
  have HT := Lib.hid bt
  have HSL := Lib.hid hS
  have HTL := Lib.hid hT
  have HK := Lib.hid hK
  clear bs bt hS hT hK
  go_enter Try.func16, Try.ntmps16
  go_wp2_with fail
  have HB := Lib.hid (below_two w (.cells #[.slice s n cn, .slice t m cm] 26) (.cells #[.slice none 0 0, .slice none 0 0] 26))
  have HZ : Hid (((w.alloc (.cells #[.slice s n cn, .slice t m cm] 26)).alloc (.cells #[.slice none 0 0, .slice none 0 0] 26)).heap[w.heap.size + 1]? = some (.cells #[.slice none 0 0, .slice none 0 0] 26 (0, 0))) := Lib.hid (by
    have h := heap_alloc_new (w.alloc (.cells #[.slice s n cn, .slice t m cm] 26)) (.cells #[.slice none 0 0, .slice none 0 0] 26)
    rwa [show (w.alloc (.cells #[.slice s n cn, .slice t m cm] 26)).heap.size = w.heap.size + 1 by simp] at h)
  generalize (w.alloc (.cells #[.slice s n cn, .slice t m cm] 26)).alloc (.cells #[.slice none 0 0, .slice none 0 0] 26) = w1 at HB HZ ⊢
  refine (whole_any s t n m cn cm S T HSL.out HTL.out hn hm w1 (HS.out.later HB.out) (HT.out.later HB.out)).mono ?_
  rintro e w2 ⟨b, q, rfl, hby, _, hb⟩
  have hcap := hby.cap
  rw [List.length_append, HSL.out, HTL.out] at hcap
  have HBY := Lib.hid hby
  have HB2 := Lib.hid (HB.out.trans (hb.mono HB.out.size))
  replace HZ := Lib.hid (below_block HZ.out hb)
  have HZ0 : Hid (w.heap.size + 2 ≤ w2.heap.size) := Lib.hid (by have := (Array.getElem?_eq_some_iff.1 HZ.out).1; omega)
  clear hby hb
  go_wp2_with fail
  refine (clone_own b q K k (by rw [← HK.out, List.length_take, List.length_append, HSL.out, HTL.out]; omega) w2 (by rw [← HK.out]; exact HBY.out.take k) (by omega)).mono ?_
  rintro e w3 ⟨b3, q3, rfl, ho, hb⟩
  have HO3 := Lib.hid ho
  have HZ3 := Lib.hid (below_block HZ.out hb)
  have HB3 := Lib.hid (HB2.out.trans (hb.mono HB2.out.size))
  have HBZ := Lib.hid hcap
  clear ho hb
  go_wp2_with (refine wpList_store_row rfl 26 _ _ rfl (w.heap.size + 1) #[.slice b3 k q3, .slice none 0 0] rfl rfl _ _ HZ3.out (by kernel_rfl) rfl (file_one _ _ _ _ _ _) ?_)
  refine bodyPost_ret (results_one9 rfl _ _ _ (w.heap.size + 1) 26 #[.slice b3 k q3, .slice none 0 0] (0, 0) _ rfl (setRow_heap _ _ _ _ _ _ HZ3.out) Try.underlying26 rfl (by kernel_rfl)) rfl ?_
  have hz := HZ0.out
  exact ⟨b3, q3, rfl, (own_of_row ((own_row HO3.out).setRow _ (show w.heap.size + 1 < w2.heap.size by omega))).mono (by omega), below_setRow HB3.out (Nat.le_succ _) _⟩


def Lies (b : Option Addr) (p q : Nat) : Prop := ∀ x, b = some x → p ≤ x.block ∧ x.block < q

set_option maxRecDepth 100000 in
set_option maxHeartbeats 8000000 in
theorem own_raw (s0 s1 s2 s3 : Option Addr) (n0 n1 n2 n3 c0 c1 c2 c3 : Nat) (l0 l1 l2 l3 : List UInt8) (h0 : l0.length = n0) (h1 : l1.length = n1) (h2 : l2.length = n2) (h3 : l3.length = n3) (w : World)
    (y0 : BytesAt w s0 c0 l0) (y1 : BytesAt w s1 c1 l1) (y2 : BytesAt w s2 c2 l2) (y3 : BytesAt w s3 c3 l3) (z0 : n0 ≤ 100000) (z1 : n1 ≤ 100000) (z2 : n2 ≤ 100000) (z3 : n3 ≤ 100000) :
    Calls Try.prog 13 #[.agg #[.slice s0 n0 c0, .slice s1 n1 c1, .slice s2 n2 c2, .slice s3 n3 c3]] w fun e w' => ∃ b0 q0 b1 q1 b2 q2 b3 q3, e = .returned (.agg #[.slice b0 n0 q0, .slice b1 n1 q1, .slice b2 n2 q2, .slice b3 n3 q3]) ∧ Below w.heap.size w w' ∧
      Own 5 w' w.heap.size (.slice b0 n0 q0) l0 ∧ Own 5 w' w.heap.size (.slice b1 n1 q1) l1 ∧ Own 5 w' w.heap.size (.slice b2 n2 q2) l2 ∧ Own 5 w' w.heap.size (.slice b3 n3 q3) l3 ∧
      ∃ p1 p2 p3 : Nat, p1 ≤ p2 ∧ p2 ≤ p3 ∧ Lies b0 0 p1 ∧ Lies b1 p1 p2 ∧ Lies b2 p2 p3 ∧ ∀ x, b3 = some x → p3 ≤ x.block := by
  have HY0 := Lib.hid y0
  have HY1 := Lib.hid y1
  have HY2 := Lib.hid y2
  have HY3 := Lib.hid y3
  have HN0 := Lib.hid h0
  have HN1 := Lib.hid h1
  have HN2 := Lib.hid h2
  have HN3 := Lib.hid h3
  clear y0 y1 y2 y3 h0 h1 h2 h3
  go_enter Try.func13, Try.ntmps13
  go_upto_region 1 with fail
  obtain ⟨g, hg⟩ : ∃ g, w.heap.size = g := ⟨_, rfl⟩
  have HX0 : Hid (((w.alloc (.cells #[.slice s0 n0 c0, .slice s1 n1 c1, .slice s2 n2 c2, .slice s3 n3 c3] 29)).alloc (.cells #[.slice none 0 0, .slice none 0 0, .slice none 0 0, .slice none 0 0] 29)).heap[g]? = some (.cells #[.slice s0 n0 c0, .slice s1 n1 c1, .slice s2 n2 c2, .slice s3 n3 c3] 29 (0, 0))) := Lib.hid (hg ▸ alloc_block (heap_alloc_new _ _))
  have HZ0 : Hid (((w.alloc (.cells #[.slice s0 n0 c0, .slice s1 n1 c1, .slice s2 n2 c2, .slice s3 n3 c3] 29)).alloc (.cells #[.slice none 0 0, .slice none 0 0, .slice none 0 0, .slice none 0 0] 29)).heap[g + 1]? = some (.cells #[.slice none 0 0, .slice none 0 0, .slice none 0 0, .slice none 0 0] 29 (0, 0))) := Lib.hid (by
    have h := heap_alloc_new (w.alloc (.cells #[.slice s0 n0 c0, .slice s1 n1 c1, .slice s2 n2 c2, .slice s3 n3 c3] 29)) (.cells #[.slice none 0 0, .slice none 0 0, .slice none 0 0, .slice none 0 0] 29)
    rwa [show (w.alloc (.cells #[.slice s0 n0 c0, .slice s1 n1 c1, .slice s2 n2 c2, .slice s3 n3 c3] 29)).heap.size = g + 1 by simp [hg]] at h)
  have HB0 := Lib.hid (below_two w (.cells #[.slice s0 n0 c0, .slice s1 n1 c1, .slice s2 n2 c2, .slice s3 n3 c3] 29) (.cells #[.slice none 0 0, .slice none 0 0, .slice none 0 0, .slice none 0 0] 29))
  rw [hg] at HB0 ⊢
  have HG := Lib.hid hg
  clear hg
  generalize (w.alloc (.cells #[.slice s0 n0 c0, .slice s1 n1 c1, .slice s2 n2 c2, .slice s3 n3 c3] 29)).alloc (.cells #[.slice none 0 0, .slice none 0 0, .slice none 0 0, .slice none 0 0] 29) = v0 at HX0 HZ0 HB0 ⊢
  replace HY0 : Hid (BytesAt v0 s0 c0 l0) := Lib.hid (HY0.out.later (by rw [HG.out]; exact HB0.out))
  replace HY1 : Hid (BytesAt v0 s1 c1 l1) := Lib.hid (HY1.out.later (by rw [HG.out]; exact HB0.out))
  replace HY2 : Hid (BytesAt v0 s2 c2 l2) := Lib.hid (HY2.out.later (by rw [HG.out]; exact HB0.out))
  replace HY3 : Hid (BytesAt v0 s3 c3 l3) := Lib.hid (HY3.out.later (by rw [HG.out]; exact HB0.out))
  go_wp2_with fail
  refine wp_loop_rounds 3 ?_
  rw [rounds_succ]
  have e0 : v0.cell? ⟨g, 0, none⟩ = some (.slice s0 n0 c0) := by rw [cell_of_row _ _ _ _ _ _ HX0.out]; rfl
  have z0' : g < v0.heap.size := (Array.getElem?_eq_some_iff.1 HX0.out).1
  go_wp2_with fail
  refine (clone_own s0 c0 l0 n0 HN0.out v0 HY0.out (by omega)).mono ?_
  rintro e w0 ⟨b0, q0, rfl, ho, hb⟩
  have hr : ∀ x, b0 = some x → v0.heap.size ≤ x.block ∧ x.block < w0.heap.size := fun x hx => own_lt ho x.block (by rw [hx]; rfl)
  have HX0' := Lib.hid (below_block HX0.out hb)
  have HZ0' := Lib.hid (below_block HZ0.out hb)
  have HB0' := Lib.hid (HB0.out.trans (hb.mono (Nat.le_of_lt z0')))
  have HE : Hid (w0.setCell ⟨g, 0, none⟩ (.slice b0 n0 q0) = w0.setRow g #[.slice b0 n0 q0, .slice s1 n1 c1, .slice s2 n2 c2, .slice s3 n3 c3]) := Lib.hid (by rw [setCell_eq_setRow w0 g 0 _ _ _ _ HX0'.out]; rfl)
  have HX1 : Hid ((w0.setRow g #[.slice b0 n0 q0, .slice s1 n1 c1, .slice s2 n2 c2, .slice s3 n3 c3]).heap[g]? = some (.cells #[.slice b0 n0 q0, .slice s1 n1 c1, .slice s2 n2 c2, .slice s3 n3 c3] 29 (0, 0))) := Lib.hid (setRow_heap _ _ _ _ _ _ HX0'.out)
  have HZ1 : Hid ((w0.setRow g #[.slice b0 n0 q0, .slice s1 n1 c1, .slice s2 n2 c2, .slice s3 n3 c3]).heap[g + 1]? = some (.cells #[.slice none 0 0, .slice none 0 0, .slice none 0 0, .slice none 0 0] 29 (0, 0))) := Lib.hid ((setRow_other _ _ _ _ (by omega)).trans HZ0'.out)
  have HB1 : Hid (Below g w (w0.setRow g #[.slice b0 n0 q0, .slice s1 n1 c1, .slice s2 n2 c2, .slice s3 n3 c3])) := Lib.hid (below_setRow HB0'.out (Nat.le_refl _) _)
  have HSZ : Hid ((w0.setRow g #[.slice b0 n0 q0, .slice s1 n1 c1, .slice s2 n2 c2, .slice s3 n3 c3]).heap.size = w0.heap.size ∧ v0.heap.size ≤ w0.heap.size) := Lib.hid ⟨by simp [World.setRow], hb.size⟩
  have ho' : Own 5 (w0.setRow g #[.slice b0 n0 q0, .slice s1 n1 c1, .slice s2 n2 c2, .slice s3 n3 c3]) (g + 2) (.slice b0 n0 q0) l0 := own_of_row ((own_row (ho.mono (Nat.succ_le_of_lt (Array.getElem?_eq_some_iff.1 HZ0.out).1))).setRow _ (by omega))
  replace HY1 : Hid (BytesAt (w0.setRow g #[.slice b0 n0 q0, .slice s1 n1 c1, .slice s2 n2 c2, .slice s3 n3 c3]) s1 c1 l1) := Lib.hid (bytes_setRow (HY1.out.later hb) HX0'.out (by intro v hv n e; subst e; simp at hv) _)
  replace HY2 : Hid (BytesAt (w0.setRow g #[.slice b0 n0 q0, .slice s1 n1 c1, .slice s2 n2 c2, .slice s3 n3 c3]) s2 c2 l2) := Lib.hid (bytes_setRow (HY2.out.later hb) HX0'.out (by intro v hv n e; subst e; simp at hv) _)
  replace HY3 : Hid (BytesAt (w0.setRow g #[.slice b0 n0 q0, .slice s1 n1 c1, .slice s2 n2 c2, .slice s3 n3 c3]) s3 c3 l3) := Lib.hid (bytes_setRow (HY3.out.later hb) HX0'.out (by intro v hv n e; subst e; simp at hv) _)
  have HO0 := Lib.hid ho'
  have HR0 := Lib.hid hr
  have e0' : w0.cell? ⟨g, 0, none⟩ = some (.slice s0 n0 c0) := by rw [cell_of_row _ _ _ _ _ _ HX0'.out]; rfl
  have f0' : w0.frozen? ⟨g, 0, none⟩ = false := frozen_of_row _ _ _ _ _ HX0'.out
  have k0' : g < w0.heap.size := (Array.getElem?_eq_some_iff.1 HX0'.out).1
  clear ho ho' hb hr e0 z0'
  go_upto_region 6 with fail
  rw [HE.out]
  have p1 : w0.heap.size ≤ w0.heap.size := Nat.le_refl _
  obtain ⟨p1, hp⟩ : ∃ p, w0.heap.size = p := ⟨_, rfl⟩
  rw [hp] at HR0 HSZ
  generalize w0.setRow g #[.slice b0 n0 q0, .slice s1 n1 c1, .slice s2 n2 c2, .slice s3 n3 c3] = v1 at HX1 HZ1 HB1 HSZ HO0 HY1 HY2 HY3 ⊢
  have HP1 := HSZ
  clear HE HX0 HZ0 HB0 HX0' HZ0' HB0' HSZ e0' f0' k0' hp
  have e1 : v1.cell? ⟨g, 1, none⟩ = some (.slice s1 n1 c1) := by rw [cell_of_row _ _ _ _ _ _ HX1.out]; rfl
  have z1' : g < v1.heap.size := (Array.getElem?_eq_some_iff.1 HX1.out).1
  go_wp2_with fail
  refine (clone_own s1 c1 l1 n1 HN1.out v1 HY1.out (by omega)).mono ?_
  rintro e w1 ⟨b1, q1, rfl, ho, hb⟩
  have hr : ∀ x, b1 = some x → v1.heap.size ≤ x.block ∧ x.block < w1.heap.size := fun x hx => own_lt ho x.block (by rw [hx]; rfl)
  have HX1' := Lib.hid (below_block HX1.out hb)
  have HZ1' := Lib.hid (below_block HZ1.out hb)
  have HB1' := Lib.hid (HB1.out.trans (hb.mono (Nat.le_of_lt z1')))
  have HE : Hid (w1.setCell ⟨g, 1, none⟩ (.slice b1 n1 q1) = w1.setRow g #[.slice b0 n0 q0, .slice b1 n1 q1, .slice s2 n2 c2, .slice s3 n3 c3]) := Lib.hid (by rw [setCell_eq_setRow w1 g 1 _ _ _ _ HX1'.out]; rfl)
  have HX2 : Hid ((w1.setRow g #[.slice b0 n0 q0, .slice b1 n1 q1, .slice s2 n2 c2, .slice s3 n3 c3]).heap[g]? = some (.cells #[.slice b0 n0 q0, .slice b1 n1 q1, .slice s2 n2 c2, .slice s3 n3 c3] 29 (0, 0))) := Lib.hid (setRow_heap _ _ _ _ _ _ HX1'.out)
  have HZ2 : Hid ((w1.setRow g #[.slice b0 n0 q0, .slice b1 n1 q1, .slice s2 n2 c2, .slice s3 n3 c3]).heap[g + 1]? = some (.cells #[.slice none 0 0, .slice none 0 0, .slice none 0 0, .slice none 0 0] 29 (0, 0))) := Lib.hid ((setRow_other _ _ _ _ (by omega)).trans HZ1'.out)
  have HB2 : Hid (Below g w (w1.setRow g #[.slice b0 n0 q0, .slice b1 n1 q1, .slice s2 n2 c2, .slice s3 n3 c3])) := Lib.hid (below_setRow HB1'.out (Nat.le_refl _) _)
  have HSZ : Hid ((w1.setRow g #[.slice b0 n0 q0, .slice b1 n1 q1, .slice s2 n2 c2, .slice s3 n3 c3]).heap.size = w1.heap.size ∧ v1.heap.size ≤ w1.heap.size) := Lib.hid ⟨by simp [World.setRow], hb.size⟩
  have ho' : Own 5 (w1.setRow g #[.slice b0 n0 q0, .slice b1 n1 q1, .slice s2 n2 c2, .slice s3 n3 c3]) (g + 2) (.slice b1 n1 q1) l1 := own_of_row ((own_row (ho.mono (Nat.succ_le_of_lt (Array.getElem?_eq_some_iff.1 HZ1.out).1))).setRow _ (by omega))
  replace HO0 : Hid (Own 5 (w1.setRow g #[.slice b0 n0 q0, .slice b1 n1 q1, .slice s2 n2 c2, .slice s3 n3 c3]) (g + 2) (.slice b0 n0 q0) l0) := Lib.hid (own_of_row ((own_row (HO0.out.kept hb)).setRow _ (by omega)))
  replace HY2 : Hid (BytesAt (w1.setRow g #[.slice b0 n0 q0, .slice b1 n1 q1, .slice s2 n2 c2, .slice s3 n3 c3]) s2 c2 l2) := Lib.hid (bytes_setRow (HY2.out.later hb) HX1'.out (by intro v hv n e; subst e; simp at hv) _)
  replace HY3 : Hid (BytesAt (w1.setRow g #[.slice b0 n0 q0, .slice b1 n1 q1, .slice s2 n2 c2, .slice s3 n3 c3]) s3 c3 l3) := Lib.hid (bytes_setRow (HY3.out.later hb) HX1'.out (by intro v hv n e; subst e; simp at hv) _)
  have HO1 := Lib.hid ho'
  have HR1 := Lib.hid hr
  have e1' : w1.cell? ⟨g, 1, none⟩ = some (.slice s1 n1 c1) := by rw [cell_of_row _ _ _ _ _ _ HX1'.out]; rfl
  have f1' : w1.frozen? ⟨g, 1, none⟩ = false := frozen_of_row _ _ _ _ _ HX1'.out
  have k1' : g < w1.heap.size := (Array.getElem?_eq_some_iff.1 HX1'.out).1
  clear ho ho' hb hr e1 z1'
  go_upto_region 7 with fail
  rw [HE.out]
  have p2 : w1.heap.size ≤ w1.heap.size := Nat.le_refl _
  obtain ⟨p2, hp⟩ : ∃ p, w1.heap.size = p := ⟨_, rfl⟩
  rw [hp] at HR1 HSZ
  generalize w1.setRow g #[.slice b0 n0 q0, .slice b1 n1 q1, .slice s2 n2 c2, .slice s3 n3 c3] = v2 at HX2 HZ2 HB2 HSZ HO0 HO1 HY2 HY3 ⊢
  have HP2 := HSZ
  clear HE HX1 HZ1 HB1 HX1' HZ1' HB1' HSZ e1' f1' k1' hp
  go_wp2_with fail
  rw [rounds_succ]
  have e2 : v2.cell? ⟨g, 2, none⟩ = some (.slice s2 n2 c2) := by rw [cell_of_row _ _ _ _ _ _ HX2.out]; rfl
  have z2' : g < v2.heap.size := (Array.getElem?_eq_some_iff.1 HX2.out).1
  go_wp2_with fail
  refine (clone_own s2 c2 l2 n2 HN2.out v2 HY2.out (by omega)).mono ?_
  rintro e w2 ⟨b2, q2, rfl, ho, hb⟩
  have hr : ∀ x, b2 = some x → v2.heap.size ≤ x.block ∧ x.block < w2.heap.size := fun x hx => own_lt ho x.block (by rw [hx]; rfl)
  have HX2' := Lib.hid (below_block HX2.out hb)
  have HZ2' := Lib.hid (below_block HZ2.out hb)
  have HB2' := Lib.hid (HB2.out.trans (hb.mono (Nat.le_of_lt z2')))
  have HE : Hid (w2.setCell ⟨g, 2, none⟩ (.slice b2 n2 q2) = w2.setRow g #[.slice b0 n0 q0, .slice b1 n1 q1, .slice b2 n2 q2, .slice s3 n3 c3]) := Lib.hid (by rw [setCell_eq_setRow w2 g 2 _ _ _ _ HX2'.out]; rfl)
  have HX3 : Hid ((w2.setRow g #[.slice b0 n0 q0, .slice b1 n1 q1, .slice b2 n2 q2, .slice s3 n3 c3]).heap[g]? = some (.cells #[.slice b0 n0 q0, .slice b1 n1 q1, .slice b2 n2 q2, .slice s3 n3 c3] 29 (0, 0))) := Lib.hid (setRow_heap _ _ _ _ _ _ HX2'.out)
  have HZ3 : Hid ((w2.setRow g #[.slice b0 n0 q0, .slice b1 n1 q1, .slice b2 n2 q2, .slice s3 n3 c3]).heap[g + 1]? = some (.cells #[.slice none 0 0, .slice none 0 0, .slice none 0 0, .slice none 0 0] 29 (0, 0))) := Lib.hid ((setRow_other _ _ _ _ (by omega)).trans HZ2'.out)
  have HB3 : Hid (Below g w (w2.setRow g #[.slice b0 n0 q0, .slice b1 n1 q1, .slice b2 n2 q2, .slice s3 n3 c3])) := Lib.hid (below_setRow HB2'.out (Nat.le_refl _) _)
  have HSZ : Hid ((w2.setRow g #[.slice b0 n0 q0, .slice b1 n1 q1, .slice b2 n2 q2, .slice s3 n3 c3]).heap.size = w2.heap.size ∧ v2.heap.size ≤ w2.heap.size) := Lib.hid ⟨by simp [World.setRow], hb.size⟩
  have ho' : Own 5 (w2.setRow g #[.slice b0 n0 q0, .slice b1 n1 q1, .slice b2 n2 q2, .slice s3 n3 c3]) (g + 2) (.slice b2 n2 q2) l2 := own_of_row ((own_row (ho.mono (Nat.succ_le_of_lt (Array.getElem?_eq_some_iff.1 HZ2.out).1))).setRow _ (by omega))
  replace HO0 : Hid (Own 5 (w2.setRow g #[.slice b0 n0 q0, .slice b1 n1 q1, .slice b2 n2 q2, .slice s3 n3 c3]) (g + 2) (.slice b0 n0 q0) l0) := Lib.hid (own_of_row ((own_row (HO0.out.kept hb)).setRow _ (by omega)))
  replace HO1 : Hid (Own 5 (w2.setRow g #[.slice b0 n0 q0, .slice b1 n1 q1, .slice b2 n2 q2, .slice s3 n3 c3]) (g + 2) (.slice b1 n1 q1) l1) := Lib.hid (own_of_row ((own_row (HO1.out.kept hb)).setRow _ (by omega)))
  replace HY3 : Hid (BytesAt (w2.setRow g #[.slice b0 n0 q0, .slice b1 n1 q1, .slice b2 n2 q2, .slice s3 n3 c3]) s3 c3 l3) := Lib.hid (bytes_setRow (HY3.out.later hb) HX2'.out (by intro v hv n e; subst e; simp at hv) _)
  have HO2 := Lib.hid ho'
  have HR2 := Lib.hid hr
  have e2' : w2.cell? ⟨g, 2, none⟩ = some (.slice s2 n2 c2) := by rw [cell_of_row _ _ _ _ _ _ HX2'.out]; rfl
  have f2' : w2.frozen? ⟨g, 2, none⟩ = false := frozen_of_row _ _ _ _ _ HX2'.out
  have k2' : g < w2.heap.size := (Array.getElem?_eq_some_iff.1 HX2'.out).1
  clear ho ho' hb hr e2 z2'
  go_upto_region 6 with fail
  rw [HE.out]
  have p3 : w2.heap.size ≤ w2.heap.size := Nat.le_refl _
  obtain ⟨p3, hp⟩ : ∃ p, w2.heap.size = p := ⟨_, rfl⟩
  rw [hp] at HR2 HSZ
  generalize w2.setRow g #[.slice b0 n0 q0, .slice b1 n1 q1, .slice b2 n2 q2, .slice s3 n3 c3] = v3 at HX3 HZ3 HB3 HSZ HO0 HO1 HO2 HY3 ⊢
  have HP3 := HSZ
  clear HE HX2 HZ2 HB2 HX2' HZ2' HB2' HSZ e2' f2' k2' hp
  have e3 : v3.cell? ⟨g, 3, none⟩ = some (.slice s3 n3 c3) := by rw [cell_of_row _ _ _ _ _ _ HX3.out]; rfl
  have z3' : g < v3.heap.size := (Array.getElem?_eq_some_iff.1 HX3.out).1
  go_wp2_with fail
  refine (clone_own s3 c3 l3 n3 HN3.out v3 HY3.out (by omega)).mono ?_
  rintro e w3 ⟨b3, q3, rfl, ho, hb⟩
  have hr : ∀ x, b3 = some x → v3.heap.size ≤ x.block ∧ x.block < w3.heap.size := fun x hx => own_lt ho x.block (by rw [hx]; rfl)
  have HX3' := Lib.hid (below_block HX3.out hb)
  have HZ3' := Lib.hid (below_block HZ3.out hb)
  have HB3' := Lib.hid (HB3.out.trans (hb.mono (Nat.le_of_lt z3')))
  have HE : Hid (w3.setCell ⟨g, 3, none⟩ (.slice b3 n3 q3) = w3.setRow g #[.slice b0 n0 q0, .slice b1 n1 q1, .slice b2 n2 q2, .slice b3 n3 q3]) := Lib.hid (by rw [setCell_eq_setRow w3 g 3 _ _ _ _ HX3'.out]; rfl)
  have HX4 : Hid ((w3.setRow g #[.slice b0 n0 q0, .slice b1 n1 q1, .slice b2 n2 q2, .slice b3 n3 q3]).heap[g]? = some (.cells #[.slice b0 n0 q0, .slice b1 n1 q1, .slice b2 n2 q2, .slice b3 n3 q3] 29 (0, 0))) := Lib.hid (setRow_heap _ _ _ _ _ _ HX3'.out)
  have HZ4 : Hid ((w3.setRow g #[.slice b0 n0 q0, .slice b1 n1 q1, .slice b2 n2 q2, .slice b3 n3 q3]).heap[g + 1]? = some (.cells #[.slice none 0 0, .slice none 0 0, .slice none 0 0, .slice none 0 0] 29 (0, 0))) := Lib.hid ((setRow_other _ _ _ _ (by omega)).trans HZ3'.out)
  have HB4 : Hid (Below g w (w3.setRow g #[.slice b0 n0 q0, .slice b1 n1 q1, .slice b2 n2 q2, .slice b3 n3 q3])) := Lib.hid (below_setRow HB3'.out (Nat.le_refl _) _)
  have HSZ : Hid ((w3.setRow g #[.slice b0 n0 q0, .slice b1 n1 q1, .slice b2 n2 q2, .slice b3 n3 q3]).heap.size = w3.heap.size ∧ v3.heap.size ≤ w3.heap.size) := Lib.hid ⟨by simp [World.setRow], hb.size⟩
  have ho' : Own 5 (w3.setRow g #[.slice b0 n0 q0, .slice b1 n1 q1, .slice b2 n2 q2, .slice b3 n3 q3]) (g + 2) (.slice b3 n3 q3) l3 := own_of_row ((own_row (ho.mono (Nat.succ_le_of_lt (Array.getElem?_eq_some_iff.1 HZ3.out).1))).setRow _ (by omega))
  replace HO0 : Hid (Own 5 (w3.setRow g #[.slice b0 n0 q0, .slice b1 n1 q1, .slice b2 n2 q2, .slice b3 n3 q3]) (g + 2) (.slice b0 n0 q0) l0) := Lib.hid (own_of_row ((own_row (HO0.out.kept hb)).setRow _ (by omega)))
  replace HO1 : Hid (Own 5 (w3.setRow g #[.slice b0 n0 q0, .slice b1 n1 q1, .slice b2 n2 q2, .slice b3 n3 q3]) (g + 2) (.slice b1 n1 q1) l1) := Lib.hid (own_of_row ((own_row (HO1.out.kept hb)).setRow _ (by omega)))
  replace HO2 : Hid (Own 5 (w3.setRow g #[.slice b0 n0 q0, .slice b1 n1 q1, .slice b2 n2 q2, .slice b3 n3 q3]) (g + 2) (.slice b2 n2 q2) l2) := Lib.hid (own_of_row ((own_row (HO2.out.kept hb)).setRow _ (by omega)))
  have HO3 := Lib.hid ho'
  have HR3 := Lib.hid hr
  have e3' : w3.cell? ⟨g, 3, none⟩ = some (.slice s3 n3 c3) := by rw [cell_of_row _ _ _ _ _ _ HX3'.out]; rfl
  have f3' : w3.frozen? ⟨g, 3, none⟩ = false := frozen_of_row _ _ _ _ _ HX3'.out
  have k3' : g < w3.heap.size := (Array.getElem?_eq_some_iff.1 HX3'.out).1
  clear ho ho' hb hr e3 z3'
  go_upto_region 7 with fail
  rw [HE.out]
  have p4 : w3.heap.size ≤ w3.heap.size := Nat.le_refl _
  obtain ⟨p4, hp⟩ : ∃ p, w3.heap.size = p := ⟨_, rfl⟩
  rw [hp] at HR3 HSZ
  generalize w3.setRow g #[.slice b0 n0 q0, .slice b1 n1 q1, .slice b2 n2 q2, .slice b3 n3 q3] = v4 at HX4 HZ4 HB4 HSZ HO0 HO1 HO2 HO3  ⊢
  have HP4 := HSZ
  clear HE HX3 HZ3 HB3 HX3' HZ3' HB3' HSZ e3' f3' k3' hp
  go_wp2_with fail
  rw [rounds_succ]
  go_wp2_with (first | (refine wpList_load_arr_g (by rfl) 29 _ rfl g 0 rfl #[.slice b0 n0 q0, .slice b1 n1 q1, .slice b2 n2 q2, .slice b3 n3 q3] _ (block_range HX4.out) Try.underlying29 rfl (by kernel_rfl) ?_) | (refine wpList_store_row rfl 29 _ _ rfl (g + 1) #[.slice b0 n0 q0, .slice b1 n1 q1, .slice b2 n2 q2, .slice b3 n3 q3] rfl rfl _ _ HZ4.out (by kernel_rfl) rfl (by simp [Value.oneCell']) ?_))
  refine bodyPost_ret (results_one9 rfl _ _ _ (g + 1) 29 #[.slice b0 n0 q0, .slice b1 n1 q1, .slice b2 n2 q2, .slice b3 n3 q3] (0, 0) _ rfl (setRow_heap _ _ _ _ _ _ HZ4.out) Try.underlying29 rfl (by kernel_rfl)) rfl ?_
  refine ⟨b0, q0, b1, q1, b2, q2, b3, q3, rfl, ?_, ?_, ?_, ?_, ?_, p1, p2, p3, by have h1 := HP1.out; have h2 := HP2.out; omega, by have h1 := HP2.out; have h2 := HP3.out; omega, fun x hx => ⟨Nat.zero_le _, (HR0.out x hx).2⟩, fun x hx => ?_, fun x hx => ?_, fun x hx => ?_⟩
  · rw [HG.out]; exact below_setRow HB4.out (Nat.le_succ _) _
  · rw [HG.out]; exact (own_of_row ((own_row HO0.out).setRow _ (by omega))).mono (by omega)
  · rw [HG.out]; exact (own_of_row ((own_row HO1.out).setRow _ (by omega))).mono (by omega)
  · rw [HG.out]; exact (own_of_row ((own_row HO2.out).setRow _ (by omega))).mono (by omega)
  · rw [HG.out]; exact (own_of_row ((own_row HO3.out).setRow _ (by omega))).mono (by omega)
  · have h1 := HR1.out x hx; have h2 := HP1.out; exact ⟨by omega, h1.2⟩
  · have h1 := HR2.out x hx; have h2 := HP2.out; exact ⟨by omega, h1.2⟩
  · have h1 := HR3.out x hx; have h2 := HP3.out; omega

/-- a disk whose slices are the call's own -/
structure Owns (w : World) (base : Nat) (d : Dk) (h : Hs) : Prop where
  s0 : Own 5 w base (.slice h.s0.1 d.f0.safe.length h.s0.2) d.f0.safe
  t0 : Own 5 w base (.slice h.t0.1 d.f0.tail.length h.t0.2) d.f0.tail
  s1 : Own 5 w base (.slice h.s1.1 d.f1.safe.length h.s1.2) d.f1.safe
  t1 : Own 5 w base (.slice h.t1.1 d.f1.tail.length h.t1.2) d.f1.tail
theorem own_read {e : TypeId} {w : World} {base n cap : Nat} {a : Option Addr} {l : List UInt8} (h : Own e w base (.slice a n cap) l) : BytesAt w a cap l := h.g.read
theorem Owns.at {w : World} {base : Nat} {d : Dk} {h : Hs} (k : Owns w base d h) : DkAt w d h := ⟨own_read k.s0, own_read k.t0, own_read k.s1, own_read k.t1⟩
theorem Owns.inn {w : World} {base : Nat} {d : Dk} {h : Hs} (k : Owns w base d h) : DkIn (base ≤ ·) d h := ⟨own_blk k.s0.g, own_blk k.t0.g, own_blk k.s1.g, own_blk k.t1.g⟩
theorem Owns.kept {w w' : World} {base : Nat} {d : Dk} {h : Hs} (k : Owns w base d h) (hb : Below w.heap.size w w') : Owns w' base d h := ⟨k.s0.kept hb, k.t0.kept hb, k.s1.kept hb, k.t1.kept hb⟩
theorem Owns.mono {w : World} {base base' : Nat} {d : Dk} {h : Hs} (k : Owns w base d h) (hb : base' ≤ base) : Owns w base' d h := ⟨k.s0.mono hb, k.t0.mono hb, k.s1.mono hb, k.t1.mono hb⟩
theorem Owns.setRow {w : World} {base g : Nat} {d : Dk} {h : Hs} (k : Owns w base d h) (hg : g < base) (cs : Array Value) : Owns (w.setRow g cs) base d h :=
  ⟨own_of_row ((own_row k.s0).setRow cs hg), own_of_row ((own_row k.t0).setRow cs hg), own_of_row ((own_row k.s1).setRow cs hg), own_of_row ((own_row k.t1).setRow cs hg)⟩
/-- no tail lies where another slice does -/
structure Apart (h : Hs) : Prop where
  a0 : ∀ x, h.t0.1 = some x → h.s0.1.map (·.block) ≠ some x.block ∧ h.s1.1.map (·.block) ≠ some x.block ∧ h.t1.1.map (·.block) ≠ some x.block
  a1 : ∀ x, h.t1.1 = some x → h.s0.1.map (·.block) ≠ some x.block ∧ h.s1.1.map (·.block) ≠ some x.block ∧ h.t0.1.map (·.block) ≠ some x.block

theorem own_any (d : Dk) (h : Hs) (DA : Array Value) (hDA : d.arr h = DA) (w : World) (hd : DkAt w d h) (hs : d.small) :
    Calls Try.prog 13 #[.agg DA] w fun e w' => ∃ k, e = .returned (.agg (d.arr k)) ∧ Owns w' w.heap.size d k ∧ Apart k ∧ Below w.heap.size w w' := by
  subst hDA
  refine (own_raw _ _ _ _ _ _ _ _ _ _ _ _ _ _ _ _ rfl rfl rfl rfl w hd.s0 hd.t0 hd.s1 hd.t1 hs.1.1 hs.1.2 hs.2.1 hs.2.2).mono ?_
  rintro e w' ⟨b0, q0, b1, q1, b2, q2, b3, q3, rfl, hb, o0, o1, o2, o3, p1, p2, p3, m1, m2, k0, k1, k2, k3⟩
  have far : ∀ {a : Option Addr} {p : Nat} (_ : ∀ x, a = some x → x.block ≠ p), a.map (·.block) ≠ some p := by
    intro a p h e
    cases a with
    | none => cases e
    | some x => exact h x rfl (Option.some.inj e)
  refine ⟨⟨(b0, q0), (b1, q1), (b2, q2), (b3, q3)⟩, rfl, ⟨o0, o1, o2, o3⟩, ⟨fun x hx => ?_, fun x hx => ?_⟩, hb⟩
  · have h1 := k1 x hx
    exact ⟨far fun y hy => by have := k0 y hy; omega, far fun y hy => by have := k2 y hy; omega, far fun y hy => by have h2 := k3 y hy; have h3 := k2 y; omega⟩
  · have h1 := k3 x hx
    exact ⟨far fun y hy => by have h2 := k0 y hy; omega, far fun y hy => by have := k2 y hy; omega, far fun y hy => by have := k1 y hy; omega⟩

end Dsk
end Go.Proofs.Ytdiegglnfbmpdaa
