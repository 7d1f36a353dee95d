/-
  The program's layer 9: Read, Write, Cut.
-/
import Derived.Test.YtdiegglnfbmpdaaDskPc
namespace Go.Proofs.Ytdiegglnfbmpdaa
open Go.RowKit
namespace Dsk

theorem file_set {w : World} {g o : Nat} {cur : Array Value} {t : TypeId} (hg : w.heap[g]? = some (.cells cur t (0, 0))) (u v : Value) : w.setCells g o [u, v] = w.setRow g ((cur.setIfInBounds o u).setIfInBounds (o + 1) v) := by
  show (w.setCell ⟨g, o, none⟩ u).setCell ⟨g, o + 1, none⟩ v = _
  rw [setCell_eq_setRow w g o cur t (0, 0) u hg, setCell_eq_setRow _ g (o + 1) _ t (0, 0) v (setRow_heap w g cur _ t _ hg), setRow_setRow]
theorem there_row {w : World} {g o n : Nat} {cur : Array Value} {t : TypeId} (hg : w.heap[g]? = some (.cells cur t (0, 0))) (h : o + n ≤ cur.size) : w.there g o n := fun j hj =>
  ⟨by rw [cell_of_row _ _ _ _ _ _ hg, Array.getElem?_eq_getElem (by omega)]; rfl, frozen_of_row _ _ _ _ _ hg⟩
theorem range_row {w : World} {g o : Nat} {cur : Array Value} {t : TypeId} {cs : List Value} (hg : w.heap[g]? = some (.cells cur t (0, 0))) (h : (cur.toList.drop o).take cs.length = cs) : w.rangeAt g o cs := fun j v hv => by
  rw [cell_of_row _ _ _ _ _ _ hg]
  have hj : j < cs.length := (List.getElem?_eq_some_iff.1 hv).1
  rw [← h, List.getElem?_take, if_pos hj, List.getElem?_drop] at hv
  simpa using hv
theorem fin_K {w0 w : World} {z B : Nat} {d : Dk} {k : Hs} (hz : w0.heap.size ≤ z) (hzB : z < B) (ho : Owns w B d k) (hb : Below w0.heap.size w0 w) (hin : (Nat → Prop) → Prop) (c : Int) (A : Array Value) (hA : d.arr k = A) :
    GotK w0 hin (d, c) (.returned (.tuple #[.agg A, .int .i64 c])) (w.setRow z A) := by
  subst hA
  have h := ho.setRow hzB (d.arr k)
  exact ⟨k, rfl, h.at, below_setRow hb hz _, fun P hP _ => h.inn.mono fun n hn => hP n (by omega)⟩
theorem ok_right {d : Dk} {n : Int} (h : okK d n = true) : rightK d = true ∧ (n = 0 ∨ n = 1) := by
  unfold okK at h
  rw [Bool.and_eq_true] at h
  exact ⟨h.1, (isF_iff n).1 h.2⟩
/-- a tail of the call's own is another one; the others stand -/
theorem Owns.tail0 {w w' : World} {B q c : Nat} {a : Option Addr} {d : Dk} {k : Hs} {l : List UInt8} (h : Owns w B d k) (hp : Apart k) (hv : Own 5 w' B (.slice a q c) l) (hg : w.grownBy w' (Value.ownBlock (.slice k.t0.1 d.f0.tail.length k.t0.2))) :
    Owns w' B ⟨⟨d.f0.safe, l⟩, d.f1⟩ ⟨k.s0, (a, c), k.s1, k.t1⟩ := by
  have far : ∀ {b : Option Addr} {n m : Nat} {x : List UInt8} (_ : Own 5 w B (.slice b n m) x) (_ : ∀ y, k.t0.1 = some y → b.map (·.block) ≠ some y.block), Own 5 w' B (.slice b n m) x := by
    intro b n m x ho hb
    refine own_of_row ((own_row ho).grown hg fun g e1 e2 => ?_)
    rcases hk : k.t0.1 with _ | y
    · rw [hk] at e2; cases e2
    · rw [hk] at e2
      refine hb y hk ?_
      rcases b with _ | z
      · cases e1
      · exact e1.trans e2.symm
  have e := own_len hv
  exact ⟨far h.s0 fun y hy => (hp.a0 y hy).1, e ▸ hv, far h.s1 fun y hy => (hp.a0 y hy).2.1, far h.t1 fun y hy => (hp.a0 y hy).2.2⟩
theorem Owns.tail1 {w w' : World} {B q c : Nat} {a : Option Addr} {d : Dk} {k : Hs} {l : List UInt8} (h : Owns w B d k) (hp : Apart k) (hv : Own 5 w' B (.slice a q c) l) (hg : w.grownBy w' (Value.ownBlock (.slice k.t1.1 d.f1.tail.length k.t1.2))) :
    Owns w' B ⟨d.f0, ⟨d.f1.safe, l⟩⟩ ⟨k.s0, k.t0, k.s1, (a, c)⟩ := by
  have far : ∀ {b : Option Addr} {n m : Nat} {x : List UInt8} (_ : Own 5 w B (.slice b n m) x) (_ : ∀ y, k.t1.1 = some y → b.map (·.block) ≠ some y.block), Own 5 w' B (.slice b n m) x := by
    intro b n m x ho hb
    refine own_of_row ((own_row ho).grown hg fun g e1 e2 => ?_)
    rcases hk : k.t1.1 with _ | y
    · rw [hk] at e2; cases e2
    · rw [hk] at e2
      refine hb y hk ?_
      rcases b with _ | z
      · cases e1
      · exact e1.trans e2.symm
  have e := own_len hv
  exact ⟨far h.s0 fun y hy => (hp.a1 y hy).1, far h.t0 fun y hy => (hp.a1 y hy).2.2, far h.s1 fun y hy => (hp.a1 y hy).2.1, e ▸ hv⟩

/-- a file of first bytes in one's place -/
theorem Owns.file0 {w : World} {B q c : Nat} {a : Option Addr} {d : Dk} {k : Hs} {l : List UInt8} (h : Owns w B d k) (hv : Own 5 w B (.slice a q c) l) : Owns w B ⟨⟨l, []⟩, d.f1⟩ ⟨(a, c), (none, 0), k.s1, k.t1⟩ :=
  ⟨own_len hv ▸ hv, Own.nil _ _ _, h.s1, h.t1⟩
theorem Owns.file1 {w : World} {B q c : Nat} {a : Option Addr} {d : Dk} {k : Hs} {l : List UInt8} (h : Owns w B d k) (hv : Own 5 w B (.slice a q c) l) : Owns w B ⟨d.f0, ⟨l, []⟩⟩ ⟨k.s0, k.t0, (a, c), (none, 0)⟩ :=
  ⟨h.s0, h.t0, own_len hv ▸ hv, Own.nil _ _ _⟩

set_option maxRecDepth 100000 in
set_option maxHeartbeats 8000000 in
theorem read_any (d : Dk) (h : Hs) (n : Int) (w : World) (hd : DkAt w d h) (hs : d.small) (hl : Laid w) : Calls Try.prog 9 #[.agg (d.arr h), .int .i64 n] w (GotB w (readK d n)) := by
  have HD := Lib.hid hd
  have HL := Lib.hid hl
  clear hd hl
  obtain ⟨DA, hDA⟩ : ∃ X, d.arr h = X := ⟨_, rfl⟩
  have HDA := Lib.hid hDA
  have HDI : Hid ((Try.prog.info? 29).map (·.size) = some DA.size) := Lib.hid (hDA ▸ dk_info d h)
  have HX0 : Hid (DkBox (w.alloc (.cells DA 29)) w.heap.size d h) := Lib.hid (by rw [← hDA]; exact heap_alloc_new _ _)
  have HB0 : Hid (Below w.heap.size w (w.alloc (.cells DA 29))) := Lib.hid ((Below.refl _ _).alloc (Nat.le_refl _) _)
  obtain ⟨o, ho⟩ : ∃ o, okK d n = o := ⟨_, rfl⟩
  have HOK := Lib.hid ho
  rw [hDA]
  clear hDA ho
  go_enter Try.func9, Try.ntmps9
  go_upto_region 1 with fail
  generalize w.alloc (.cells DA 29) = w1 at HX0 HB0 ⊢
  go_wp2_with (refine wpList_load_arr_g (by rfl) 29 _ rfl w.heap.size 0 rfl DA _ (by rw [← HDA.out]; exact HX0.out.range) Try.underlying29 rfl HDI.out ?_)
  refine (may_any d h DA HDA.out n w1 (HD.out.later HB0.out) hs (HL.out.below HB0.out) o HOK.out).mono ?_
  rintro e w2 ⟨rfl, hb⟩
  have HX2 := Lib.hid (HX0.out.later hb)
  have HB2 := Lib.hid (HB0.out.trans (hb.mono HB0.out.size))
  clear hb HX0 HB0
  cases o
  · have HR : Hid (readK d n = []) := Lib.hid (by unfold readK; rw [HOK.out]; rfl)
    go_wp2_with fail
    go_ret
    rw [HR.out]
    exact ⟨none, 0, rfl, .inl ⟨rfl, rfl, rfl⟩, HB2.out⟩
  obtain ⟨hr, hn⟩ := ok_right HOK.out
  have hsz := (right_iff d).1 hr
  have HR : Hid (readK d n = (d.get n).all) := Lib.hid (by unfold readK; rw [HOK.out]; rfl)
  have HS2 := Lib.hid (HD.out.later HB2.out)
  rcases hn with rfl | rfl
  · have HR2 : Hid (readK d 0 = d.f0.safe ++ d.f0.tail) := Lib.hid HR.out
    have HBA : Hid (w2.rangeAt w.heap.size 0 [.slice h.s0.1 d.f0.safe.length h.s0.2, .slice h.t0.1 d.f0.tail.length h.t0.2]) := Lib.hid (range_row HX2.out rfl)
    go_wp2_with (refine wpList_load_mid_g (by rfl) 26 _ rfl w.heap.size 0 rfl _ _ HBA.out Try.underlying26 rfl (by kernel_rfl) ?_)
    refine (whole_any h.s0.1 h.t0.1 _ _ h.s0.2 h.t0.2 d.f0.safe d.f0.tail rfl rfl hs.1.1 hs.1.2 w2 HS2.out.s0 HS2.out.t0).mono ?_
    rintro e w3 ⟨b, k, rfl, hby, _, hb⟩
    have HBY := Lib.hid hby
    have HB3 := Lib.hid (HB2.out.trans (hb.mono HB2.out.size))
    clear hby hb
    go_wp2_with fail
    go_ret
    rw [HR2.out]
    refine ⟨b, k, ?_, HBY.out, HB3.out⟩
    rw [List.length_append]
    rfl
  · have HR2 : Hid (readK d 1 = d.f1.safe ++ d.f1.tail) := Lib.hid HR.out
    have HBA : Hid (w2.rangeAt w.heap.size 2 [.slice h.s1.1 d.f1.safe.length h.s1.2, .slice h.t1.1 d.f1.tail.length h.t1.2]) := Lib.hid (range_row HX2.out rfl)
    go_wp2_with (refine wpList_load_mid_g (by rfl) 26 _ rfl w.heap.size 2 rfl _ _ HBA.out Try.underlying26 rfl (by kernel_rfl) ?_)
    refine (whole_any h.s1.1 h.t1.1 _ _ h.s1.2 h.t1.2 d.f1.safe d.f1.tail rfl rfl hs.2.1 hs.2.2 w2 HS2.out.s1 HS2.out.t1).mono ?_
    rintro e w3 ⟨b, k, rfl, hby, _, hb⟩
    have HBY := Lib.hid hby
    have HB3 := Lib.hid (HB2.out.trans (hb.mono HB2.out.size))
    clear hby hb
    go_wp2_with fail
    go_ret
    rw [HR2.out]
    refine ⟨b, k, ?_, HBY.out, HB3.out⟩
    rw [List.length_append]
    rfl

set_option maxRecDepth 100000 in
set_option maxHeartbeats 8000000 in
theorem write_any (d : Dk) (h : Hs) (n : Int) (b : List UInt8) (a : Option Addr) (q cap : Nat) (hq : b.length = q) (_hq9 : q ≤ 1000000) (w : World) (hd : DkAt w d h) (hs : d.small) (hb : BytesAt w a cap b) (hl : Laid w) :
    Calls Try.prog 6 #[.agg (d.arr h), .int .i64 n, .slice a q cap] w (GotK w (fun P => DkIn P d h ∧ Blk P a b) (writeK d n b)) := by
  have HBY := Lib.hid hb
  have HQ := Lib.hid hq
  obtain ⟨i0, hi0, hz0, hz1, hz2⟩ := info_parts infoU9
  have HI0 := Lib.hid hi0
  have HZ0' := Lib.hid hz0
  have HZ1' := Lib.hid hz1
  have HZ2' := Lib.hid hz2
  clear hb hq hi0 hz0 hz1 hz2
  have HD := Lib.hid hd
  have HL := Lib.hid hl
  clear hd hl
  obtain ⟨DA, hDA⟩ : ∃ X, d.arr h = X := ⟨_, rfl⟩
  have HDA := Lib.hid hDA
  have HDI : Hid ((Try.prog.info? 29).map (·.size) = some DA.size) := Lib.hid (hDA ▸ dk_info d h)
  obtain ⟨g, hg⟩ : ∃ g, w.heap.size = g := ⟨_, rfl⟩
  have HX0 : Hid (DkBox ((w.alloc (.cells DA 29)).alloc (.cells #[.slice none 0 0, .slice none 0 0, .slice none 0 0, .slice none 0 0] 29)) g d h) := Lib.hid (by
    have h1 : ((w.alloc (.cells DA 29)).alloc (.cells #[.slice none 0 0, .slice none 0 0, .slice none 0 0, .slice none 0 0] 29)).heap[g]? = some (.cells DA 29 (0, 0)) := hg ▸ alloc_block (heap_alloc_new _ _)
    rw [← hDA] at h1 ⊢
    exact h1)
  have HZ0 : Hid (((w.alloc (.cells DA 29)).alloc (.cells #[.slice none 0 0, .slice none 0 0, .slice none 0 0, .slice none 0 0] 29)).heap[g + 1]? = some (.cells #[.slice none 0 0, .slice none 0 0, .slice none 0 0, .slice none 0 0] 29 (0, 0))) := Lib.hid (by
    have h := heap_alloc_new (w.alloc (.cells DA 29)) (.cells #[.slice none 0 0, .slice none 0 0, .slice none 0 0, .slice none 0 0] 29)
    rwa [show (w.alloc (.cells DA 29)).heap.size = g + 1 by simp [hg]] at h)
  have HB0 := Lib.hid (below_two w (.cells DA 29) (.cells #[.slice none 0 0, .slice none 0 0, .slice none 0 0, .slice none 0 0] 29))
  obtain ⟨o, ho⟩ : ∃ o, okK d n = o := ⟨_, rfl⟩
  have HOK := Lib.hid ho
  have HG := Lib.hid hg
  rw [hDA]
  clear hDA ho
  go_enter Try.func6, Try.ntmps6
  go_upto_region 1 with fail
  try rw [hg]
  clear hg
  generalize (w.alloc (.cells DA 29)).alloc (.cells #[.slice none 0 0, .slice none 0 0, .slice none 0 0, .slice none 0 0] 29) = v0 at HX0 HZ0 HB0 ⊢
  go_wp2_with (refine wpList_load_arr_g (by rfl) 29 _ rfl g 0 rfl DA _ (by rw [← HDA.out]; exact HX0.out.range) Try.underlying29 rfl HDI.out ?_)
  refine (own_any d h DA HDA.out v0 (HD.out.later HB0.out) hs).mono ?_
  rintro e w1 ⟨k, rfl, ho, hap, hb⟩
  have HB1' := Lib.hid (HB0.out.trans (hb.mono HB0.out.size))
  have HX1' := Lib.hid (HX0.out.later hb)
  have HZ1'' := Lib.hid (below_block HZ0.out hb)
  have HO1' := Lib.hid (ho.mono (Nat.succ_le_of_lt (Array.getElem?_eq_some_iff.1 HZ0.out).1))
  have HAP := Lib.hid hap
  clear ho hb hap HB0 HX0 HZ0
  go_upto_region 2 with (refine wpList_store_row rfl 29 _ _ rfl g (d.arr k) rfl rfl _ _ HX1'.out (dk_info _ _) rfl (dk_one _ _) ?_)
  obtain ⟨KA, hKA⟩ : ∃ X, d.arr k = X := ⟨_, rfl⟩
  have HKA := Lib.hid hKA
  have HKI : Hid ((Try.prog.info? 29).map (·.size) = some KA.size) := Lib.hid (hKA ▸ dk_info d k)
  have HKO : Hid (KA.all (·.oneCell') = true) := Lib.hid (hKA ▸ dk_one d k)
  have HKS : Hid (KA.size = 4) := Lib.hid (hKA ▸ rfl)
  have HX1 := Lib.hid (HX1'.out.put d k)
  have HZ1 : Hid ((w1.setRow g (d.arr k)).heap[g + 1]? = some (.cells #[.slice none 0 0, .slice none 0 0, .slice none 0 0, .slice none 0 0] 29 (0, 0))) := Lib.hid ((setRow_other _ _ _ _ (by omega)).trans HZ1''.out)
  have HO1 : Hid (Owns (w1.setRow g (d.arr k)) (g + 2) d k) := Lib.hid (HO1'.out.setRow (by omega) _)
  have HB1 := Lib.hid (below_setRow HB1'.out (Nat.le_of_eq HG.out) (d.arr k))
  rw [hKA] at HX1 HZ1 HO1 HB1 ⊢
  clear HX1' HZ1'' HO1' HB1' hKA
  generalize w1.setRow g KA = v1 at HX1 HZ1 HO1 HB1 ⊢
  go_wp2_with (refine wpList_load_arr_g (by rfl) 29 _ rfl g 0 rfl KA _ (by rw [← HKA.out]; exact HX1.out.range) Try.underlying29 rfl HKI.out ?_)
  refine (may_any d k KA HKA.out n v1 HO1.out.at hs (HL.out.below HB1.out) o HOK.out).mono ?_
  rintro e w2 ⟨rfl, hb⟩
  have HX2 := Lib.hid (HX1.out.later hb)
  have HZ2 := Lib.hid (below_block HZ1.out hb)
  have HO2 := Lib.hid (HO1.out.kept hb)
  have HB2 := Lib.hid (HB1.out.trans (hb.mono HB1.out.size))
  clear hb HX1 HZ1 HO1 HB1
  cases o
  · have HR : Hid (writeK d n b = (d, 1)) := Lib.hid (by unfold writeK; rw [HOK.out]; rfl)
    go_wp2_with (first | (refine wpList_load_arr_g (by rfl) 29 _ rfl g 0 rfl KA _ (by rw [← HKA.out]; exact HX2.out.range) Try.underlying29 rfl HKI.out ?_) | (refine wpList_store_row rfl 29 _ _ rfl (g + 1) KA rfl rfl _ _ HZ2.out HKI.out (by rw [← HKA.out]; rfl) HKO.out ?_))
    refine bodyPost_ret (results_row_tmp rfl _ _ _ (g + 1) 29 KA (0, 0) _ rfl (setRow_heap _ _ _ _ _ _ HZ2.out) Try.underlying29 rfl HKI.out) rfl ?_
    rw [HR.out]
    exact fin_K (by have := HG.out; omega) (Nat.lt_succ_self _) HO2.out HB2.out _ 1 KA HKA.out
  obtain ⟨hr, hn⟩ := ok_right HOK.out
  have hsz := (right_iff d).1 hr
  have HKT : Hid (KA = d.arr k) := Lib.hid HKA.out.symm
  rcases hn with rfl | rfl
  · obtain ⟨m0, hm0⟩ : ∃ m, d.f0.safe.length = m := ⟨_, rfl⟩
    obtain ⟨m1, hm1⟩ : ∃ m, d.f0.tail.length = m := ⟨_, rfl⟩
    have HM0 := Lib.hid hm0
    have HM1 := Lib.hid hm1
    have HMS : Hid (m0 ≤ 100000 ∧ m1 ≤ 100000) := Lib.hid (by rw [← hm0, ← hm1]; exact ⟨hs.1.1, hs.1.2⟩)
    have HBA : Hid (w2.rangeAt g 0 [.slice k.s0.1 m0 k.s0.2, .slice k.t0.1 m1 k.t0.2]) := Lib.hid (range_row HX2.out (by rw [← hm0, ← hm1]; rfl))
    have HW0 : Hid (okK d 0 = true → writeK d 0 b = if m0 + m1 + q ≤ 65536 then (⟨⟨d.f0.safe, d.f0.tail ++ b⟩, d.f1⟩, 0) else (d, 5)) := Lib.hid (fun h => by
      unfold writeK
      rw [if_pos h]
      have e : (d.get 0).all.length + b.length = m0 + m1 + q := by
        show (d.f0.safe ++ d.f0.tail).length + b.length = _
        rw [List.length_append, hm0, hm1, HQ.out]
      rw [e]
      rfl)
    clear hm0 hm1
    go_wp2_with (refine wpList_load_mid_g (by rfl) 26 _ rfl g 0 rfl _ _ HBA.out Try.underlying26 rfl (by kernel_rfl) ?_)
    refine (room_any k.s0.1 k.t0.1 m0 m1 k.s0.2 k.t0.2 HMS.out.1 HMS.out.2 w2).mono ?_
    rintro e w3 ⟨rfl, hb⟩
    have HX3 := Lib.hid (HX2.out.later hb)
    have HZ3 := Lib.hid (below_block HZ2.out hb)
    have HO3 := Lib.hid (HO2.out.kept hb)
    have HB3 := Lib.hid (HB2.out.trans (hb.mono HB2.out.size))
    clear hb HX2 HZ2 HO2 HB2 HBA
    obtain ⟨x, hx⟩ : ∃ x : Int, 65536 - ((m0 : Int) + m1) = x := ⟨_, rfl⟩
    rw [hx]
    by_cases hfit : m0 + m1 + q ≤ 65536
    rotate_left
    · have d1 : decide (x < (q : Int)) = true := decide_eq_true (by omega)
      have HR : Hid (writeK d 0 b = (d, 5)) := Lib.hid (by rw [HW0.out HOK.out, if_neg hfit])
      clear hx
      go_wp2_with (first | (refine wpList_load_arr_g (by rfl) 29 _ rfl g 0 rfl KA _ (by rw [← HKA.out]; exact HX3.out.range) Try.underlying29 rfl HKI.out ?_) | (refine wpList_store_row rfl 29 _ _ rfl (g + 1) KA rfl rfl _ _ HZ3.out HKI.out (by rw [← HKA.out]; rfl) HKO.out ?_))
      refine bodyPost_ret (results_row_tmp rfl _ _ _ (g + 1) 29 KA (0, 0) _ rfl (setRow_heap _ _ _ _ _ _ HZ3.out) Try.underlying29 rfl HKI.out) rfl ?_
      rw [HR.out]
      exact fin_K (by have := HG.out; omega) (Nat.lt_succ_self _) HO3.out HB3.out _ 5 KA HKA.out
    have d1 : decide (x < (q : Int)) = false := decide_eq_false (by omega)
    have HR : Hid (writeK d 0 b = (⟨⟨d.f0.safe, d.f0.tail ++ b⟩, d.f1⟩, 0)) := Lib.hid (by rw [HW0.out HOK.out, if_pos hfit])
    clear hx
    have c3 : w3.cell? ⟨g, 1, none⟩ = some (.slice k.t0.1 m1 k.t0.2) := by
      have h1 := HX3.out
      unfold DkBox at h1
      rw [cell_of_row _ _ _ _ _ _ h1, ← HM1.out]
      rfl
    have HFT := Lib.hid hfit
    clear hfit
    go_upto_region 8 with (at_builtin; refine wpList_append_by rfl (.tmp 31) (.tmp 32) 24 rfl (g + 2) 5 i0 _ Try.underlying24 HI0.out HZ0'.out HZ1'.out HZ2'.out rfl _ d.f0.tail rfl (HM1.out ▸ HO3.out.t0) a q cap b rfl HQ.out (HBY.out.later HB3.out) (by have h1 := HM1.out; have h2 := HQ.out; have h3 := HFT.out; omega) (Nat.succ_le_of_lt (Array.getElem?_eq_some_iff.1 HZ3.out).1) ?_
                           intro v2 w4 hown hgr _
                           have HX4 : Hid (DkBox w4 g d k) := Lib.hid ((hgr.block g HX3.out.lt (fun e => by have := (own_lt HO3.out.t0 g (HM1.out ▸ e.symm)).1; omega)).trans HX3.out)
                           have HZ4 : Hid (w4.heap[g + 1]? = some (.cells #[.slice none 0 0, .slice none 0 0, .slice none 0 0, .slice none 0 0] 29 (0, 0))) := Lib.hid ((hgr.block (g + 1) (Array.getElem?_eq_some_iff.1 HZ3.out).1 (fun e => by have := (own_lt HO3.out.t0 (g + 1) (HM1.out ▸ e.symm)).1; omega)).trans HZ3.out)
                           obtain ⟨a2, c2, rfl, _⟩ := hown.bytes
                           have HO4 : Hid (Owns w4 (g + 2) ⟨⟨d.f0.safe, d.f0.tail ++ b⟩, d.f1⟩ ⟨k.s0, (a2, c2), k.s1, k.t1⟩) := Lib.hid (HO3.out.tail0 HAP.out hown (HM1.out ▸ hgr))
                           have HB4 : Hid (Below w.heap.size w w4) := Lib.hid (HB3.out.grown hgr HB3.out.size (fun j hj => by have := (own_lt HO3.out.t0 j (HM1.out ▸ hj)).1; have := HG.out; omega))
                           have c4 : w4.cell? ⟨g, 1, none⟩ = some (.slice k.t0.1 m1 k.t0.2) := (by have h1 := HX4.out; unfold DkBox at h1; rw [cell_of_row _ _ _ _ _ _ h1, ← HM1.out]; rfl)
                           have f4 : w4.frozen? ⟨g, 1, none⟩ = false := frozen_of_row _ _ _ _ _ HX4.out
                           have k4 := HX4.out.lt
                           clear hown hgr c3)
    obtain ⟨NA, hNA⟩ : ∃ X : Array Value, Dk.arr ⟨⟨d.f0.safe, d.f0.tail ++ b⟩, d.f1⟩ ⟨k.s0, (a2, c2), k.s1, k.t1⟩ = X := ⟨_, rfl⟩
    have HNA := Lib.hid hNA
    have HNI : Hid ((Try.prog.info? 29).map (·.size) = some NA.size) := Lib.hid (hNA ▸ dk_info _ _)
    have HNO : Hid (NA.all (·.oneCell') = true) := Lib.hid (hNA ▸ dk_one _ _)
    have HE : w4.setCell ⟨g, 1, none⟩ (.slice a2 (d.f0.tail.length + b.length) c2) = w4.setRow g NA := by
      rw [← List.length_append, setCell_eq_setRow w4 g _ _ _ _ _ HX4.out, ← hNA]
      rfl
    have HX5 : Hid (DkBox (w4.setRow g NA) g ⟨⟨d.f0.safe, d.f0.tail ++ b⟩, d.f1⟩ ⟨k.s0, (a2, c2), k.s1, k.t1⟩) := Lib.hid (by rw [← hNA]; exact HX4.out.put _ _)
    have HZ5 : Hid ((w4.setRow g NA).heap[g + 1]? = some (.cells #[.slice none 0 0, .slice none 0 0, .slice none 0 0, .slice none 0 0] 29 (0, 0))) := Lib.hid ((setRow_other _ _ _ _ (by omega)).trans HZ4.out)
    have HO5 : Hid (Owns (w4.setRow g NA) (g + 2) ⟨⟨d.f0.safe, d.f0.tail ++ b⟩, d.f1⟩ ⟨k.s0, (a2, c2), k.s1, k.t1⟩) := Lib.hid (HO4.out.setRow (by omega) _)
    have HB5 := Lib.hid (below_setRow HB4.out (Nat.le_of_eq HG.out) NA)
    rw [HE]
    clear hNA HX4 HZ4 HO4 HB4 HE c4 f4 k4
    generalize w4.setRow g NA = w5 at HX5 HZ5 HO5 HB5 ⊢
    go_wp2_with (first | (refine wpList_load_arr_g (by rfl) 29 _ rfl g 0 rfl NA _ (by rw [← HNA.out]; exact HX5.out.range) Try.underlying29 rfl HNI.out ?_) | (refine wpList_store_row rfl 29 _ _ rfl (g + 1) NA rfl rfl _ _ HZ5.out HNI.out (by rw [← HNA.out]; rfl) HNO.out ?_))
    refine bodyPost_ret (results_row_tmp rfl _ _ _ (g + 1) 29 NA (0, 0) _ rfl (setRow_heap _ _ _ _ _ _ HZ5.out) Try.underlying29 rfl HNI.out) rfl ?_
    rw [HR.out]
    exact fin_K (by have := HG.out; omega) (Nat.lt_succ_self _) HO5.out HB5.out _ 0 NA HNA.out
  · obtain ⟨m0, hm0⟩ : ∃ m, d.f1.safe.length = m := ⟨_, rfl⟩
    obtain ⟨m1, hm1⟩ : ∃ m, d.f1.tail.length = m := ⟨_, rfl⟩
    have HM0 := Lib.hid hm0
    have HM1 := Lib.hid hm1
    have HMS : Hid (m0 ≤ 100000 ∧ m1 ≤ 100000) := Lib.hid (by rw [← hm0, ← hm1]; exact ⟨hs.2.1, hs.2.2⟩)
    have HBA : Hid (w2.rangeAt g 2 [.slice k.s1.1 m0 k.s1.2, .slice k.t1.1 m1 k.t1.2]) := Lib.hid (range_row HX2.out (by rw [← hm0, ← hm1]; rfl))
    have HW0 : Hid (okK d 1 = true → writeK d 1 b = if m0 + m1 + q ≤ 65536 then (⟨d.f0, ⟨d.f1.safe, d.f1.tail ++ b⟩⟩, 0) else (d, 5)) := Lib.hid (fun h => by
      unfold writeK
      rw [if_pos h]
      have e : (d.get 1).all.length + b.length = m0 + m1 + q := by
        show (d.f1.safe ++ d.f1.tail).length + b.length = _
        rw [List.length_append, hm0, hm1, HQ.out]
      rw [e]
      rfl)
    clear hm0 hm1
    go_wp2_with (refine wpList_load_mid_g (by rfl) 26 _ rfl g 2 rfl _ _ HBA.out Try.underlying26 rfl (by kernel_rfl) ?_)
    refine (room_any k.s1.1 k.t1.1 m0 m1 k.s1.2 k.t1.2 HMS.out.1 HMS.out.2 w2).mono ?_
    rintro e w3 ⟨rfl, hb⟩
    have HX3 := Lib.hid (HX2.out.later hb)
    have HZ3 := Lib.hid (below_block HZ2.out hb)
    have HO3 := Lib.hid (HO2.out.kept hb)
    have HB3 := Lib.hid (HB2.out.trans (hb.mono HB2.out.size))
    clear hb HX2 HZ2 HO2 HB2 HBA
    obtain ⟨x, hx⟩ : ∃ x : Int, 65536 - ((m0 : Int) + m1) = x := ⟨_, rfl⟩
    rw [hx]
    by_cases hfit : m0 + m1 + q ≤ 65536
    rotate_left
    · have d1 : decide (x < (q : Int)) = true := decide_eq_true (by omega)
      have HR : Hid (writeK d 1 b = (d, 5)) := Lib.hid (by rw [HW0.out HOK.out, if_neg hfit])
      clear hx
      go_wp2_with (first | (refine wpList_load_arr_g (by rfl) 29 _ rfl g 0 rfl KA _ (by rw [← HKA.out]; exact HX3.out.range) Try.underlying29 rfl HKI.out ?_) | (refine wpList_store_row rfl 29 _ _ rfl (g + 1) KA rfl rfl _ _ HZ3.out HKI.out (by rw [← HKA.out]; rfl) HKO.out ?_))
      refine bodyPost_ret (results_row_tmp rfl _ _ _ (g + 1) 29 KA (0, 0) _ rfl (setRow_heap _ _ _ _ _ _ HZ3.out) Try.underlying29 rfl HKI.out) rfl ?_
      rw [HR.out]
      exact fin_K (by have := HG.out; omega) (Nat.lt_succ_self _) HO3.out HB3.out _ 5 KA HKA.out
    have d1 : decide (x < (q : Int)) = false := decide_eq_false (by omega)
    have HR : Hid (writeK d 1 b = (⟨d.f0, ⟨d.f1.safe, d.f1.tail ++ b⟩⟩, 0)) := Lib.hid (by rw [HW0.out HOK.out, if_pos hfit])
    clear hx
    have c3 : w3.cell? ⟨g, 3, none⟩ = some (.slice k.t1.1 m1 k.t1.2) := by
      have h1 := HX3.out
      unfold DkBox at h1
      rw [cell_of_row _ _ _ _ _ _ h1, ← HM1.out]
      rfl
    have HFT := Lib.hid hfit
    clear hfit
    go_upto_region 8 with (at_builtin; refine wpList_append_by rfl (.tmp 31) (.tmp 32) 24 rfl (g + 2) 5 i0 _ Try.underlying24 HI0.out HZ0'.out HZ1'.out HZ2'.out rfl _ d.f1.tail rfl (HM1.out ▸ HO3.out.t1) a q cap b rfl HQ.out (HBY.out.later HB3.out) (by have h1 := HM1.out; have h2 := HQ.out; have h3 := HFT.out; omega) (Nat.succ_le_of_lt (Array.getElem?_eq_some_iff.1 HZ3.out).1) ?_
                           intro v2 w4 hown hgr _
                           have HX4 : Hid (DkBox w4 g d k) := Lib.hid ((hgr.block g HX3.out.lt (fun e => by have := (own_lt HO3.out.t1 g (HM1.out ▸ e.symm)).1; omega)).trans HX3.out)
                           have HZ4 : Hid (w4.heap[g + 1]? = some (.cells #[.slice none 0 0, .slice none 0 0, .slice none 0 0, .slice none 0 0] 29 (0, 0))) := Lib.hid ((hgr.block (g + 1) (Array.getElem?_eq_some_iff.1 HZ3.out).1 (fun e => by have := (own_lt HO3.out.t1 (g + 1) (HM1.out ▸ e.symm)).1; omega)).trans HZ3.out)
                           obtain ⟨a2, c2, rfl, _⟩ := hown.bytes
                           have HO4 : Hid (Owns w4 (g + 2) ⟨d.f0, ⟨d.f1.safe, d.f1.tail ++ b⟩⟩ ⟨k.s0, k.t0, k.s1, (a2, c2)⟩) := Lib.hid (HO3.out.tail1 HAP.out hown (HM1.out ▸ hgr))
                           have HB4 : Hid (Below w.heap.size w w4) := Lib.hid (HB3.out.grown hgr HB3.out.size (fun j hj => by have := (own_lt HO3.out.t1 j (HM1.out ▸ hj)).1; have := HG.out; omega))
                           have c4 : w4.cell? ⟨g, 3, none⟩ = some (.slice k.t1.1 m1 k.t1.2) := (by have h1 := HX4.out; unfold DkBox at h1; rw [cell_of_row _ _ _ _ _ _ h1, ← HM1.out]; rfl)
                           have f4 : w4.frozen? ⟨g, 3, none⟩ = false := frozen_of_row _ _ _ _ _ HX4.out
                           have k4 := HX4.out.lt
                           clear hown hgr c3)
    obtain ⟨NA, hNA⟩ : ∃ X : Array Value, Dk.arr ⟨d.f0, ⟨d.f1.safe, d.f1.tail ++ b⟩⟩ ⟨k.s0, k.t0, k.s1, (a2, c2)⟩ = X := ⟨_, rfl⟩
    have HNA := Lib.hid hNA
    have HNI : Hid ((Try.prog.info? 29).map (·.size) = some NA.size) := Lib.hid (hNA ▸ dk_info _ _)
    have HNO : Hid (NA.all (·.oneCell') = true) := Lib.hid (hNA ▸ dk_one _ _)
    have HE : w4.setCell ⟨g, 3, none⟩ (.slice a2 (d.f1.tail.length + b.length) c2) = w4.setRow g NA := by
      rw [← List.length_append, setCell_eq_setRow w4 g _ _ _ _ _ HX4.out, ← hNA]
      rfl
    have HX5 : Hid (DkBox (w4.setRow g NA) g ⟨d.f0, ⟨d.f1.safe, d.f1.tail ++ b⟩⟩ ⟨k.s0, k.t0, k.s1, (a2, c2)⟩) := Lib.hid (by rw [← hNA]; exact HX4.out.put _ _)
    have HZ5 : Hid ((w4.setRow g NA).heap[g + 1]? = some (.cells #[.slice none 0 0, .slice none 0 0, .slice none 0 0, .slice none 0 0] 29 (0, 0))) := Lib.hid ((setRow_other _ _ _ _ (by omega)).trans HZ4.out)
    have HO5 : Hid (Owns (w4.setRow g NA) (g + 2) ⟨d.f0, ⟨d.f1.safe, d.f1.tail ++ b⟩⟩ ⟨k.s0, k.t0, k.s1, (a2, c2)⟩) := Lib.hid (HO4.out.setRow (by omega) _)
    have HB5 := Lib.hid (below_setRow HB4.out (Nat.le_of_eq HG.out) NA)
    rw [HE]
    clear hNA HX4 HZ4 HO4 HB4 HE c4 f4 k4
    generalize w4.setRow g NA = w5 at HX5 HZ5 HO5 HB5 ⊢
    go_wp2_with (first | (refine wpList_load_arr_g (by rfl) 29 _ rfl g 0 rfl NA _ (by rw [← HNA.out]; exact HX5.out.range) Try.underlying29 rfl HNI.out ?_) | (refine wpList_store_row rfl 29 _ _ rfl (g + 1) NA rfl rfl _ _ HZ5.out HNI.out (by rw [← HNA.out]; rfl) HNO.out ?_))
    refine bodyPost_ret (results_row_tmp rfl _ _ _ (g + 1) 29 NA (0, 0) _ rfl (setRow_heap _ _ _ _ _ _ HZ5.out) Try.underlying29 rfl HNI.out) rfl ?_
    rw [HR.out]
    exact fin_K (by have := HG.out; omega) (Nat.lt_succ_self _) HO5.out HB5.out _ 0 NA HNA.out

set_option maxRecDepth 100000 in
set_option maxHeartbeats 8000000 in
theorem cut_any (d : Dk) (h : Hs) (n x : Int) (w : World) (hd : DkAt w d h) (hs : d.small) (hl : Laid w) : Calls Try.prog 11 #[.agg (d.arr h), .int .i64 n, .int .i64 x] w (GotK w (fun P => DkIn P d h) (cutK d n x)) := by
  have HD := Lib.hid hd
  have HL := Lib.hid hl
  clear hd hl
  obtain ⟨DA, hDA⟩ : ∃ X, d.arr h = X := ⟨_, rfl⟩
  have HDA := Lib.hid hDA
  have HDI : Hid ((Try.prog.info? 29).map (·.size) = some DA.size) := Lib.hid (hDA ▸ dk_info d h)
  obtain ⟨g, hg⟩ : ∃ g, w.heap.size = g := ⟨_, rfl⟩
  have HX0 : Hid (DkBox ((w.alloc (.cells DA 29)).alloc (.cells #[.slice none 0 0, .slice none 0 0, .slice none 0 0, .slice none 0 0] 29)) g d h) := Lib.hid (by
    have h1 : ((w.alloc (.cells DA 29)).alloc (.cells #[.slice none 0 0, .slice none 0 0, .slice none 0 0, .slice none 0 0] 29)).heap[g]? = some (.cells DA 29 (0, 0)) := hg ▸ alloc_block (heap_alloc_new _ _)
    rw [← hDA] at h1 ⊢
    exact h1)
  have HZ0 : Hid (((w.alloc (.cells DA 29)).alloc (.cells #[.slice none 0 0, .slice none 0 0, .slice none 0 0, .slice none 0 0] 29)).heap[g + 1]? = some (.cells #[.slice none 0 0, .slice none 0 0, .slice none 0 0, .slice none 0 0] 29 (0, 0))) := Lib.hid (by
    have h := heap_alloc_new (w.alloc (.cells DA 29)) (.cells #[.slice none 0 0, .slice none 0 0, .slice none 0 0, .slice none 0 0] 29)
    rwa [show (w.alloc (.cells DA 29)).heap.size = g + 1 by simp [hg]] at h)
  have HB0 := Lib.hid (below_two w (.cells DA 29) (.cells #[.slice none 0 0, .slice none 0 0, .slice none 0 0, .slice none 0 0] 29))
  obtain ⟨o, ho⟩ : ∃ o, okK d n = o := ⟨_, rfl⟩
  have HOK := Lib.hid ho
  have HG := Lib.hid hg
  rw [hDA]
  clear hDA ho
  go_enter Try.func11, Try.ntmps11
  go_upto_region 1 with fail
  try rw [hg]
  clear hg
  generalize (w.alloc (.cells DA 29)).alloc (.cells #[.slice none 0 0, .slice none 0 0, .slice none 0 0, .slice none 0 0] 29) = v0 at HX0 HZ0 HB0 ⊢
  go_wp2_with (refine wpList_load_arr_g (by rfl) 29 _ rfl g 0 rfl DA _ (by rw [← HDA.out]; exact HX0.out.range) Try.underlying29 rfl HDI.out ?_)
  refine (own_any d h DA HDA.out v0 (HD.out.later HB0.out) hs).mono ?_
  rintro e w1 ⟨k, rfl, ho, hap, hb⟩
  have HB1' := Lib.hid (HB0.out.trans (hb.mono HB0.out.size))
  have HX1' := Lib.hid (HX0.out.later hb)
  have HZ1' := Lib.hid (below_block HZ0.out hb)
  have HO1' := Lib.hid (ho.mono (Nat.succ_le_of_lt (Array.getElem?_eq_some_iff.1 HZ0.out).1))
  have HAP := Lib.hid hap
  clear ho hb hap HB0 HX0 HZ0
  go_upto_region 2 with (refine wpList_store_row rfl 29 _ _ rfl g (d.arr k) rfl rfl _ _ HX1'.out (dk_info _ _) rfl (dk_one _ _) ?_)
  obtain ⟨KA, hKA⟩ : ∃ X, d.arr k = X := ⟨_, rfl⟩
  have HKA := Lib.hid hKA
  have HKI : Hid ((Try.prog.info? 29).map (·.size) = some KA.size) := Lib.hid (hKA ▸ dk_info d k)
  have HKO : Hid (KA.all (·.oneCell') = true) := Lib.hid (hKA ▸ dk_one d k)
  have HKS : Hid (KA.size = 4) := Lib.hid (hKA ▸ rfl)
  have HX1 := Lib.hid (HX1'.out.put d k)
  have HZ1 : Hid ((w1.setRow g (d.arr k)).heap[g + 1]? = some (.cells #[.slice none 0 0, .slice none 0 0, .slice none 0 0, .slice none 0 0] 29 (0, 0))) := Lib.hid ((setRow_other _ _ _ _ (by omega)).trans HZ1'.out)
  have HO1 : Hid (Owns (w1.setRow g (d.arr k)) (g + 2) d k) := Lib.hid (HO1'.out.setRow (by omega) _)
  have HB1 := Lib.hid (below_setRow HB1'.out (Nat.le_of_eq HG.out) (d.arr k))
  rw [hKA] at HX1 HZ1 HO1 HB1 ⊢
  clear HX1' HZ1' HO1' HB1' hKA
  generalize w1.setRow g KA = v1 at HX1 HZ1 HO1 HB1 ⊢
  go_wp2_with (refine wpList_load_arr_g (by rfl) 29 _ rfl g 0 rfl KA _ (by rw [← HKA.out]; exact HX1.out.range) Try.underlying29 rfl HKI.out ?_)
  refine (may_any d k KA HKA.out n v1 HO1.out.at hs (HL.out.below HB1.out) o HOK.out).mono ?_
  rintro e w2 ⟨rfl, hb⟩
  have HX2 := Lib.hid (HX1.out.later hb)
  have HZ2 := Lib.hid (below_block HZ1.out hb)
  have HO2 := Lib.hid (HO1.out.kept hb)
  have HB2 := Lib.hid (HB1.out.trans (hb.mono HB1.out.size))
  clear hb HX1 HZ1 HO1 HB1
  cases o
  · have HR : Hid (cutK d n x = (d, 1)) := Lib.hid (by unfold cutK; rw [HOK.out]; exact if_neg (by simp))
    go_wp2_with (first | (refine wpList_load_arr_g (by rfl) 29 _ rfl g 0 rfl KA _ (by rw [← HKA.out]; exact HX2.out.range) Try.underlying29 rfl HKI.out ?_) | (refine wpList_store_row rfl 29 _ _ rfl (g + 1) KA rfl rfl _ _ HZ2.out HKI.out (by rw [← HKA.out]; rfl) HKO.out ?_))
    refine bodyPost_ret (results_row_tmp rfl _ _ _ (g + 1) 29 KA (0, 0) _ rfl (setRow_heap _ _ _ _ _ _ HZ2.out) Try.underlying29 rfl HKI.out) rfl ?_
    rw [HR.out]
    exact fin_K (by have := HG.out; omega) (Nat.lt_succ_self _) HO2.out HB2.out _ 1 KA HKA.out
  obtain ⟨hr, hn⟩ := ok_right HOK.out
  have hsz := (right_iff d).1 hr
  have HKT : Hid (KA = d.arr k) := Lib.hid HKA.out.symm
  have HW : Hid (cutK d n x = if 0 ≤ x ∧ x ≤ (d.get n).all.length then (d.put n ⟨(d.get n).all.take x.toNat, []⟩, 0) else (d, 1)) := Lib.hid (by
    unfold cutK
    rw [HOK.out]
    by_cases c : 0 ≤ x ∧ x ≤ (d.get n).all.length
    · rw [if_pos c, if_pos ⟨rfl, c⟩]
    · rw [if_neg c, if_neg (fun e => c e.2)])
  rcases hn with rfl | rfl
  · obtain ⟨m0, hm0⟩ : ∃ m, d.f0.safe.length = m := ⟨_, rfl⟩
    obtain ⟨m1, hm1⟩ : ∃ m, d.f0.tail.length = m := ⟨_, rfl⟩
    have HM0 := Lib.hid hm0
    have HM1 := Lib.hid hm1
    have HMS : Hid (m0 ≤ 100000 ∧ m1 ≤ 100000) := Lib.hid (by rw [← hm0, ← hm1]; exact ⟨hs.1.1, hs.1.2⟩)
    have HBA : Hid (∀ W : World, DkBox W g d k → W.rangeAt g 0 [.slice k.s0.1 m0 k.s0.2, .slice k.t0.1 m1 k.t0.2]) := Lib.hid (fun W h => range_row h (by rw [← hm0, ← hm1]; rfl))
    have HAL : Hid ((d.get 0).all.length = m0 + m1) := Lib.hid (by
      show (d.f0.safe ++ d.f0.tail).length = _
      rw [List.length_append, hm0, hm1])
    by_cases hx0 : x < 0
    · have d1 : decide (x < 0) = true := decide_eq_true hx0
      have HR : Hid (cutK d 0 x = (d, 1)) := Lib.hid (by rw [HW.out, if_neg (by omega)])
      clear hx0
      go_wp2_with (first | (refine wpList_load_arr_g (by rfl) 29 _ rfl g 0 rfl KA _ (by rw [← HKA.out]; exact HX2.out.range) Try.underlying29 rfl HKI.out ?_) | (refine wpList_store_row rfl 29 _ _ rfl (g + 1) KA rfl rfl _ _ HZ2.out HKI.out (by rw [← HKA.out]; rfl) HKO.out ?_))
      refine bodyPost_ret (results_row_tmp rfl _ _ _ (g + 1) 29 KA (0, 0) _ rfl (setRow_heap _ _ _ _ _ _ HZ2.out) Try.underlying29 rfl HKI.out) rfl ?_
      rw [HR.out]
      exact fin_K (by have := HG.out; omega) (Nat.lt_succ_self _) HO2.out HB2.out _ 1 KA HKA.out
    have d1 : decide (x < 0) = false := decide_eq_false hx0
    go_wp2_with (refine wpList_load_mid_g (by rfl) 26 _ rfl g 0 rfl _ _ (HBA.out _ HX2.out) Try.underlying26 rfl (by kernel_rfl) ?_)
    refine (length_any k.s0.1 k.t0.1 m0 m1 k.s0.2 k.t0.2 HMS.out.1 HMS.out.2 w2).mono ?_
    rintro e w3 ⟨rfl, hb⟩
    have HX3 := Lib.hid (HX2.out.later hb)
    have HZ3 := Lib.hid (below_block HZ2.out hb)
    have HO3 := Lib.hid (HO2.out.kept hb)
    have HB3 := Lib.hid (HB2.out.trans (hb.mono HB2.out.size))
    clear hb HX2 HZ2 HO2 HB2
    obtain ⟨y, hy⟩ : ∃ y : Int, (m0 : Int) + m1 = y := ⟨_, rfl⟩
    rw [hy]
    by_cases hxy : y < x
    · have d2 : decide (y < x) = true := decide_eq_true hxy
      have HR : Hid (cutK d 0 x = (d, 1)) := Lib.hid (by rw [HW.out, if_neg (by rw [HAL.out]; omega)])
      clear hy hxy hx0
      go_wp2_with (first | (refine wpList_load_arr_g (by rfl) 29 _ rfl g 0 rfl KA _ (by rw [← HKA.out]; exact HX3.out.range) Try.underlying29 rfl HKI.out ?_) | (refine wpList_store_row rfl 29 _ _ rfl (g + 1) KA rfl rfl _ _ HZ3.out HKI.out (by rw [← HKA.out]; rfl) HKO.out ?_))
      refine bodyPost_ret (results_row_tmp rfl _ _ _ (g + 1) 29 KA (0, 0) _ rfl (setRow_heap _ _ _ _ _ _ HZ3.out) Try.underlying29 rfl HKI.out) rfl ?_
      rw [HR.out]
      exact fin_K (by have := HG.out; omega) (Nat.lt_succ_self _) HO3.out HB3.out _ 1 KA HKA.out
    have d2 : decide (y < x) = false := decide_eq_false hxy
    obtain ⟨j, hj⟩ : ∃ j : Nat, x = (j : Int) := ⟨x.toNat, by omega⟩
    have HJ : Hid (j ≤ m0 + m1) := Lib.hid (by omega)
    obtain ⟨K, hK⟩ : ∃ K, (d.f0.safe ++ d.f0.tail).take j = K := ⟨_, rfl⟩
    have HK := Lib.hid hK
    have HR : Hid (cutK d 0 x = (⟨⟨K, []⟩, d.f1⟩, 0)) := Lib.hid (by
      rw [HW.out, if_pos (by rw [HAL.out]; omega), hj, ← hK]
      rfl)
    subst hj
    clear hy hxy hx0 hK
    go_wp2_with (refine wpList_load_mid_g (by rfl) 26 _ rfl g 0 rfl _ _ (HBA.out _ HX3.out) Try.underlying26 rfl (by kernel_rfl) ?_)
    refine (first_any k.s0.1 k.t0.1 m0 m1 k.s0.2 k.t0.2 d.f0.safe d.f0.tail HM0.out HM1.out HMS.out.1 HMS.out.2 j HJ.out K HK.out w3 HO3.out.at.s0 HO3.out.at.t0).mono ?_
    rintro e w5 ⟨b5, q5, rfl, ho, hb⟩
    have HF : Hid (Own 5 w5 (g + 2) (.slice b5 j q5) K) := Lib.hid (ho.mono (Nat.succ_le_of_lt (Array.getElem?_eq_some_iff.1 HZ3.out).1))
    clear ho
    have HX5 := Lib.hid (HX3.out.later hb)
    have HZ5 := Lib.hid (below_block HZ3.out hb)
    have HO5 := Lib.hid (HO3.out.kept hb)
    have HB5 := Lib.hid (HB3.out.trans (hb.mono HB3.out.size))
    clear hb HX3 HZ3 HO3 HB3
    go_upto_region 8 with (refine wpList_store_mid rfl 26 (.tmp 36) (.tmp 35) rfl g 0 #[.slice b5 j q5, .slice none 0 0] rfl rfl (there_row HX5.out (by show 0 + 2 ≤ 4; omega)) (by kernel_rfl) (file_one _ _ _ _ _ _) ?_)
    have HOF : Hid (Owns w5 (g + 2) ⟨⟨K, []⟩, d.f1⟩ ⟨(b5, q5), (none, 0), k.s1, k.t1⟩) := Lib.hid (HO5.out.file0 HF.out)
    obtain ⟨NA, hNA⟩ : ∃ X : Array Value, Dk.arr ⟨⟨K, []⟩, d.f1⟩ ⟨(b5, q5), (none, 0), k.s1, k.t1⟩ = X := ⟨_, rfl⟩
    have HNA := Lib.hid hNA
    have HNI : Hid ((Try.prog.info? 29).map (·.size) = some NA.size) := Lib.hid (hNA ▸ dk_info _ _)
    have HNO : Hid (NA.all (·.oneCell') = true) := Lib.hid (hNA ▸ dk_one _ _)
    have HE : w5.setCells g 0 [.slice b5 j q5, .slice none 0 0] = w5.setRow g NA := by
      rw [file_set HX5.out, ← hNA, ← own_len HF.out]
      rfl
    have HX6 : Hid (DkBox (w5.setRow g NA) g ⟨⟨K, []⟩, d.f1⟩ ⟨(b5, q5), (none, 0), k.s1, k.t1⟩) := Lib.hid (by rw [← hNA]; exact HX5.out.put _ _)
    have HZ6 : Hid ((w5.setRow g NA).heap[g + 1]? = some (.cells #[.slice none 0 0, .slice none 0 0, .slice none 0 0, .slice none 0 0] 29 (0, 0))) := Lib.hid ((setRow_other _ _ _ _ (by omega)).trans HZ5.out)
    have HO6 : Hid (Owns (w5.setRow g NA) (g + 2) ⟨⟨K, []⟩, d.f1⟩ ⟨(b5, q5), (none, 0), k.s1, k.t1⟩) := Lib.hid (HOF.out.setRow (by omega) _)
    have HB6 := Lib.hid (below_setRow HB5.out (Nat.le_of_eq HG.out) NA)
    have HE2 : (w5.setCell ⟨g, 0, none⟩ (.slice b5 j q5)).setCell ⟨g, 1, none⟩ (.slice none 0 0) = w5.setRow g NA := HE
    first | rw [HE] | rw [HE2]
    clear hNA HX5 HZ5 HO5 HB5 HE HE2 HF HOF
    generalize w5.setRow g NA = w6 at HX6 HZ6 HO6 HB6 ⊢
    go_wp2_with (first | (refine wpList_load_arr_g (by rfl) 29 _ rfl g 0 rfl NA _ (by rw [← HNA.out]; exact HX6.out.range) Try.underlying29 rfl HNI.out ?_) | (refine wpList_store_row rfl 29 _ _ rfl (g + 1) NA rfl rfl _ _ HZ6.out HNI.out (by rw [← HNA.out]; rfl) HNO.out ?_))
    refine bodyPost_ret (results_row_tmp rfl _ _ _ (g + 1) 29 NA (0, 0) _ rfl (setRow_heap _ _ _ _ _ _ HZ6.out) Try.underlying29 rfl HNI.out) rfl ?_
    rw [HR.out]
    exact fin_K (by have := HG.out; omega) (Nat.lt_succ_self _) HO6.out HB6.out _ 0 NA HNA.out
  · obtain ⟨m0, hm0⟩ : ∃ m, d.f1.safe.length = m := ⟨_, rfl⟩
    obtain ⟨m1, hm1⟩ : ∃ m, d.f1.tail.length = m := ⟨_, rfl⟩
    have HM0 := Lib.hid hm0
    have HM1 := Lib.hid hm1
    have HMS : Hid (m0 ≤ 100000 ∧ m1 ≤ 100000) := Lib.hid (by rw [← hm0, ← hm1]; exact ⟨hs.2.1, hs.2.2⟩)
    have HBA : Hid (∀ W : World, DkBox W g d k → W.rangeAt g 2 [.slice k.s1.1 m0 k.s1.2, .slice k.t1.1 m1 k.t1.2]) := Lib.hid (fun W h => range_row h (by rw [← hm0, ← hm1]; rfl))
    have HAL : Hid ((d.get 1).all.length = m0 + m1) := Lib.hid (by
      show (d.f1.safe ++ d.f1.tail).length = _
      rw [List.length_append, hm0, hm1])
    by_cases hx0 : x < 0
    · have d1 : decide (x < 0) = true := decide_eq_true hx0
      have HR : Hid (cutK d 1 x = (d, 1)) := Lib.hid (by rw [HW.out, if_neg (by omega)])
      clear hx0
      go_wp2_with (first | (refine wpList_load_arr_g (by rfl) 29 _ rfl g 0 rfl KA _ (by rw [← HKA.out]; exact HX2.out.range) Try.underlying29 rfl HKI.out ?_) | (refine wpList_store_row rfl 29 _ _ rfl (g + 1) KA rfl rfl _ _ HZ2.out HKI.out (by rw [← HKA.out]; rfl) HKO.out ?_))
      refine bodyPost_ret (results_row_tmp rfl _ _ _ (g + 1) 29 KA (0, 0) _ rfl (setRow_heap _ _ _ _ _ _ HZ2.out) Try.underlying29 rfl HKI.out) rfl ?_
      rw [HR.out]
      exact fin_K (by have := HG.out; omega) (Nat.lt_succ_self _) HO2.out HB2.out _ 1 KA HKA.out
    have d1 : decide (x < 0) = false := decide_eq_false hx0
    go_wp2_with (refine wpList_load_mid_g (by rfl) 26 _ rfl g 2 rfl _ _ (HBA.out _ HX2.out) Try.underlying26 rfl (by kernel_rfl) ?_)
    refine (length_any k.s1.1 k.t1.1 m0 m1 k.s1.2 k.t1.2 HMS.out.1 HMS.out.2 w2).mono ?_
    rintro e w3 ⟨rfl, hb⟩
    have HX3 := Lib.hid (HX2.out.later hb)
    have HZ3 := Lib.hid (below_block HZ2.out hb)
    have HO3 := Lib.hid (HO2.out.kept hb)
    have HB3 := Lib.hid (HB2.out.trans (hb.mono HB2.out.size))
    clear hb HX2 HZ2 HO2 HB2
    obtain ⟨y, hy⟩ : ∃ y : Int, (m0 : Int) + m1 = y := ⟨_, rfl⟩
    rw [hy]
    by_cases hxy : y < x
    · have d2 : decide (y < x) = true := decide_eq_true hxy
      have HR : Hid (cutK d 1 x = (d, 1)) := Lib.hid (by rw [HW.out, if_neg (by rw [HAL.out]; omega)])
      clear hy hxy hx0
      go_wp2_with (first | (refine wpList_load_arr_g (by rfl) 29 _ rfl g 0 rfl KA _ (by rw [← HKA.out]; exact HX3.out.range) Try.underlying29 rfl HKI.out ?_) | (refine wpList_store_row rfl 29 _ _ rfl (g + 1) KA rfl rfl _ _ HZ3.out HKI.out (by rw [← HKA.out]; rfl) HKO.out ?_))
      refine bodyPost_ret (results_row_tmp rfl _ _ _ (g + 1) 29 KA (0, 0) _ rfl (setRow_heap _ _ _ _ _ _ HZ3.out) Try.underlying29 rfl HKI.out) rfl ?_
      rw [HR.out]
      exact fin_K (by have := HG.out; omega) (Nat.lt_succ_self _) HO3.out HB3.out _ 1 KA HKA.out
    have d2 : decide (y < x) = false := decide_eq_false hxy
    obtain ⟨j, hj⟩ : ∃ j : Nat, x = (j : Int) := ⟨x.toNat, by omega⟩
    have HJ : Hid (j ≤ m0 + m1) := Lib.hid (by omega)
    obtain ⟨K, hK⟩ : ∃ K, (d.f1.safe ++ d.f1.tail).take j = K := ⟨_, rfl⟩
    have HK := Lib.hid hK
    have HR : Hid (cutK d 1 x = (⟨d.f0, ⟨K, []⟩⟩, 0)) := Lib.hid (by
      rw [HW.out, if_pos (by rw [HAL.out]; omega), hj, ← hK]
      rfl)
    subst hj
    clear hy hxy hx0 hK
    go_wp2_with (refine wpList_load_mid_g (by rfl) 26 _ rfl g 2 rfl _ _ (HBA.out _ HX3.out) Try.underlying26 rfl (by kernel_rfl) ?_)
    refine (first_any k.s1.1 k.t1.1 m0 m1 k.s1.2 k.t1.2 d.f1.safe d.f1.tail HM0.out HM1.out HMS.out.1 HMS.out.2 j HJ.out K HK.out w3 HO3.out.at.s1 HO3.out.at.t1).mono ?_
    rintro e w5 ⟨b5, q5, rfl, ho, hb⟩
    have HF : Hid (Own 5 w5 (g + 2) (.slice b5 j q5) K) := Lib.hid (ho.mono (Nat.succ_le_of_lt (Array.getElem?_eq_some_iff.1 HZ3.out).1))
    clear ho
    have HX5 := Lib.hid (HX3.out.later hb)
    have HZ5 := Lib.hid (below_block HZ3.out hb)
    have HO5 := Lib.hid (HO3.out.kept hb)
    have HB5 := Lib.hid (HB3.out.trans (hb.mono HB3.out.size))
    clear hb HX3 HZ3 HO3 HB3
    go_upto_region 8 with (refine wpList_store_mid rfl 26 (.tmp 36) (.tmp 35) rfl g 2 #[.slice b5 j q5, .slice none 0 0] rfl rfl (there_row HX5.out (by show 2 + 2 ≤ 4; omega)) (by kernel_rfl) (file_one _ _ _ _ _ _) ?_)
    have HOF : Hid (Owns w5 (g + 2) ⟨d.f0, ⟨K, []⟩⟩ ⟨k.s0, k.t0, (b5, q5), (none, 0)⟩) := Lib.hid (HO5.out.file1 HF.out)
    obtain ⟨NA, hNA⟩ : ∃ X : Array Value, Dk.arr ⟨d.f0, ⟨K, []⟩⟩ ⟨k.s0, k.t0, (b5, q5), (none, 0)⟩ = X := ⟨_, rfl⟩
    have HNA := Lib.hid hNA
    have HNI : Hid ((Try.prog.info? 29).map (·.size) = some NA.size) := Lib.hid (hNA ▸ dk_info _ _)
    have HNO : Hid (NA.all (·.oneCell') = true) := Lib.hid (hNA ▸ dk_one _ _)
    have HE : w5.setCells g 2 [.slice b5 j q5, .slice none 0 0] = w5.setRow g NA := by
      rw [file_set HX5.out, ← hNA, ← own_len HF.out]
      rfl
    have HX6 : Hid (DkBox (w5.setRow g NA) g ⟨d.f0, ⟨K, []⟩⟩ ⟨k.s0, k.t0, (b5, q5), (none, 0)⟩) := Lib.hid (by rw [← hNA]; exact HX5.out.put _ _)
    have HZ6 : Hid ((w5.setRow g NA).heap[g + 1]? = some (.cells #[.slice none 0 0, .slice none 0 0, .slice none 0 0, .slice none 0 0] 29 (0, 0))) := Lib.hid ((setRow_other _ _ _ _ (by omega)).trans HZ5.out)
    have HO6 : Hid (Owns (w5.setRow g NA) (g + 2) ⟨d.f0, ⟨K, []⟩⟩ ⟨k.s0, k.t0, (b5, q5), (none, 0)⟩) := Lib.hid (HOF.out.setRow (by omega) _)
    have HB6 := Lib.hid (below_setRow HB5.out (Nat.le_of_eq HG.out) NA)
    have HE2 : (w5.setCell ⟨g, 2, none⟩ (.slice b5 j q5)).setCell ⟨g, 3, none⟩ (.slice none 0 0) = w5.setRow g NA := HE
    first | rw [HE] | rw [HE2]
    clear hNA HX5 HZ5 HO5 HB5 HE HE2 HF HOF
    generalize w5.setRow g NA = w6 at HX6 HZ6 HO6 HB6 ⊢
    go_wp2_with (first | (refine wpList_load_arr_g (by rfl) 29 _ rfl g 0 rfl NA _ (by rw [← HNA.out]; exact HX6.out.range) Try.underlying29 rfl HNI.out ?_) | (refine wpList_store_row rfl 29 _ _ rfl (g + 1) NA rfl rfl _ _ HZ6.out HNI.out (by rw [← HNA.out]; rfl) HNO.out ?_))
    refine bodyPost_ret (results_row_tmp rfl _ _ _ (g + 1) 29 NA (0, 0) _ rfl (setRow_heap _ _ _ _ _ _ HZ6.out) Try.underlying29 rfl HNI.out) rfl ?_
    rw [HR.out]
    exact fin_K (by have := HG.out; omega) (Nat.lt_succ_self _) HO6.out HB6.out _ 0 NA HNA.out

end Dsk
end Go.Proofs.Ytdiegglnfbmpdaa
