/-
  The walk of layer 7's laws: an act.
-/
import Derived.Test.YtnmmokdkngccjaaSesL
import Derived.Test.YtnmmokdkngccjaaSesT
namespace Go.Proofs.Ytnmmokdkngccjaa
open Go.RowKit
namespace Ses
open Num
open Msg (I64)

/-- the message in an act's cells -/
theorem act_msg {w : World} {b o : Nat} {x : Ac} (h : w.rangeAt b o x.arr.toList) : w.rangeAt b (o + 1) x.m.cells.toList := fun j v hv => by
  have := h (j + 1) v (by
    rw [Ac.arr_list, List.getElem?_cons_succ, List.getElem?_append_left (List.getElem?_eq_some_iff.1 hv).1]
    exact hv)
  rw [show o + 1 + j = o + (j + 1) by omega]
  exact this
theorem msg_info (m : Msg.Ms) : (Try.prog.info? 36).map (·.size) = some m.cells.size := by
  rw [show m.cells.size = 18 from rfl]
  kernel_rfl
/-- what an act tells -/
def GotA (w : World) (r : Se × List Msg.Ms × List Msg.Ms) (e : Ending) (w' : World) : Prop :=
  ∃ a c b d p q, e = .returned (.tuple #[.agg (r.1.arr a r.1.inn.held.length c), .slice b r.2.1.length d, .slice p r.2.2.length q]) ∧ RowAt Rsq.encI w' a c r.1.inn.held ∧ RowAt encM w' b d r.2.1 ∧ RowAt encM w' p q r.2.2 ∧ Below w.heap.size w w'
theorem sess_end {fn : Func} (hfn : fn.results = #[.cell 6 28, .tmp 7, .tmp 8]) (g : Nat) (W : World) (cs old : Array Value) (tmps : Array Value) (hw : W.heap[g]? = some (.cells old 28 (0, 0))) (hcs : cs.size = 10)
    (ht : tmps.getD 6 undef = .pointer (some ⟨g, 0, none⟩)) : (results fn tmps).run Try.prog (W.setRow g cs) = .ok (.tuple #[.agg cs, tmps.getD 7 undef, tmps.getD 8 undef]) (W.setRow g cs) := by
  have hl := run_loadVar_mid (P := Try.prog) (W.setRow g cs) g 0 28 cs.toList _ (block_range (setRow_heap W g old cs _ _ hw)) Try.underlying28 rfl (by rw [Array.length_toList, hcs]; kernel_rfl)
  rw [Array.toArray_toList] at hl
  simp only [results, hfn]
  simp [Sem.run_bind, Result.andThen] at ht ⊢
  simp [ht, asAddr, hl]
def z0 : Se := ⟨0, ⟨0, []⟩, 0, 0, 0, 0, 0, 0, false⟩
/-- the end of an act -/
theorem told {w W : World} {g n c p q d u : Nat} {r s : Se} {l t : List Msg.Ms} {a b f v : Option Addr} {m k : Nat} {R : Se × List Msg.Ms × List Msg.Ms} (hz : SeAt W g s v m k) (hg : w.heap.size ≤ g) (hb : Below w.heap.size w W)
    (h1 : RowAt Rsq.encI W a c r.inn.held) (h2 : RowAt encM W b d l) (h3 : RowAt encM W f u t) (hn : r.inn.held.length = n) (hp : l.length = p) (hq : t.length = q) (hR : R = (r, l, t)) (cs : Array Value) :
    GotA w R (.returned (.tuple #[.agg (r.arr a n c), .slice b p d, .slice f q u])) (W.setRow g cs) := by
  subst hn hp hq hR
  exact ⟨a, c, b, d, f, u, rfl, hz.row (by decide) h1 cs, hz.row (by decide) h2 cs, hz.row (by decide) h3 cs, below_setRow hb hg cs⟩
theorem nil_msgs (w : World) : RowAt encM w none 0 [] := .inl ⟨rfl, rfl, rfl⟩

set_option maxRecDepth 100000 in
set_option maxHeartbeats 16000000 in
theorem do_any (s : Se) (x : Ac) (hx : x.Fits) (now : Int) (a : Option Addr) (cap n : Nat) (hn : s.inn.held.length = n) (hn9 : n ≤ 100000000) (w : World) (hr : RowAt Rsq.encI w a cap s.inn.held) (hl : Laid w) :
    Calls Try.prog 10 #[.agg (s.arr a n cap), .agg x.arr, .int .i64 now] w (GotA w (doS x.k s x.m now)) := by
  have hk := hx.k
  have HM := Lib.hid hx.m
  have HL := Lib.hid hl
  have HN := Lib.hid hn
  have HR := Lib.hid hr
  clear hl hn hr hx
  have e1 : (w.alloc (.cells (s.arr a n cap) 28)).heap.size = w.heap.size + 1 := by simp
  have e2 : ((w.alloc (.cells (s.arr a n cap) 28)).alloc (.cells x.arr 38)).heap.size = w.heap.size + 2 := by simp
  obtain ⟨ZL, hZL⟩ : ∃ Z : Array Value, z0.arr none 0 0 = Z := ⟨_, rfl⟩
  have hZ2 : #[.int .i64 0, .int .i64 0, .slice none 0 0, .int .i64 0, .int .i64 0, .int .i64 0, .int .i64 0, .int .i64 0, .int .i64 0, .bool false] = ZL := hZL
  have HB0 : Hid (Below w.heap.size w (((w.alloc (.cells (s.arr a n cap) 28)).alloc (.cells x.arr 38)).alloc (.cells ZL 28))) := Lib.hid ((((Below.refl _ _).alloc (Nat.le_refl _) _).alloc (by rw [e1]; omega) _).alloc (by rw [e2]; omega) _)
  have HX0 : Hid ((((w.alloc (.cells (s.arr a n cap) 28)).alloc (.cells x.arr 38)).alloc (.cells ZL 28)).heap[w.heap.size]? = some (.cells (s.arr a n cap) 28 (0, 0)) ∧
      (((w.alloc (.cells (s.arr a n cap) 28)).alloc (.cells x.arr 38)).alloc (.cells ZL 28)).heap[w.heap.size + 1]? = some (.cells x.arr 38 (0, 0)) ∧
      (((w.alloc (.cells (s.arr a n cap) 28)).alloc (.cells x.arr 38)).alloc (.cells ZL 28)).heap[w.heap.size + 2]? = some (.cells ZL 28 (0, 0))) := Lib.hid
    ⟨alloc_block (alloc_block (heap_alloc_new w _)), alloc_block (by have h := heap_alloc_new (w.alloc (.cells (s.arr a n cap) 28)) (.cells x.arr 38); rwa [e1] at h), by
      have h := heap_alloc_new ((w.alloc (.cells (s.arr a n cap) 28)).alloc (.cells x.arr 38)) (.cells ZL 28)
      rwa [e2] at h⟩
  clear e1 e2
  go_enter Try.func10, Try.ntmps10
  go_upto_region 1 with fail
  try rw [hZ2]
  generalize ((w.alloc (.cells (s.arr a n cap) 28)).alloc (.cells x.arr 38)).alloc (.cells ZL 28) = w0 at HB0 HX0 ⊢
  obtain ⟨g, hg⟩ : ∃ g, w.heap.size = g := ⟨_, rfl⟩
  obtain ⟨z, hz⟩ : ∃ z, w.heap.size + 1 + 1 = z := ⟨_, rfl⟩
  have HG : Hid (SeAt w0 g s a n cap) := Lib.hid (hg ▸ HX0.out.1)
  have HZ : Hid (SeAt w0 z z0 none 0 0) := Lib.hid (by have h := HX0.out.2.2; rw [← hZL] at h; rw [← hz]; exact h)
  have HZG : Hid (w.heap.size ≤ z ∧ g ≠ z) := Lib.hid (by omega)
  have HA := Lib.hid HX0.out.2.1
  have HR0 := Lib.hid (HR.out.later HB0.out)
  rw [hz, hg]
  rw [hg] at HA
  clear hZL hZ2 HX0 HR hg hz
  have c0 : w0.cell? ⟨g + 1, 0, none⟩ = some (.int .u8 x.k) := cell_at HA.out rfl
  have HLW := Lib.hid (HL.out.below HB0.out)
  by_cases k0 : x.k % 4 = 0
  · have HRR : Hid (doS x.k s x.m now = ((connect s now).1, (connect s now).2.1, [])) := Lib.hid (by unfold doS; rw [if_pos k0])
    have q0 : (x.k % 4 == 0) = true := by rw [beq_iff_eq]; exact k0
    obtain ⟨⟨r, l, kk⟩, hr⟩ : ∃ r, connect s now = r := ⟨_, rfl⟩
    rw [hr] at HRR
    have HCO := Lib.hid hr
    clear hr k0
    go_wp2_with (refine wpList_load_arr_g (by rfl) 28 _ rfl g 0 rfl (s.arr a n cap) _ HG.out.range Try.underlying28 rfl (arr_info _ _ _ _) ?_)
    refine (connect_is _ s now a cap n rfl HN.out hn9 _ HR0.out HLW.out r l kk _ _ HCO.out rfl rfl).mono ?_
    rintro e w1 ⟨a1, c1, b1, d1, rfl, hr, hm, hb⟩
    go_upto_region 4 with (refine wpList_store_row rfl 28 _ _ rfl w1.heap.size (r.arr a1 r.inn.held.length c1) rfl rfl _ _ (heap_alloc_last _ _) (arr_info _ _ _ _) rfl (arr_one _ _ _ _) ?_; rw [World.setRow_alloc_new])
    have hbl : Below w1.heap.size w1 (w1.alloc (.cells (r.arr a1 r.inn.held.length c1) 28)) := (Below.refl _ _).alloc (Nat.le_refl _) _
    have hb2 := HB0.out.trans (hb.mono HB0.out.size)
    have HZ2 := Lib.hid ((HZ.out.later hb).later hbl)
    have HP2 := Lib.hid (SeAt.made w1 r a1 r.inn.held.length c1)
    have HR2 := Lib.hid (hr.later hbl)
    have HM2 := Lib.hid (hm.later hbl)
    have HT2 : Hid (RowAt encM (w1.alloc (.cells (r.arr a1 r.inn.held.length c1) 28)) none 0 []) := Lib.hid (nil_msgs _)
    have HB2 := Lib.hid (hb2.trans (hbl.mono hb2.size))
    obtain ⟨u, hu⟩ : ∃ u, w1.heap.size = u := ⟨_, rfl⟩
    rw [hu] at HP2 ⊢
    clear hbl hb2 hb hr hm hu c0 HG HZ
    generalize w1.alloc (.cells (r.arr a1 r.inn.held.length c1) 28) = w2 at HZ2 HP2 HR2 HM2 HT2 HB2 ⊢
    go_wp2_with (first | (refine wpList_load_arr_g (by rfl) 28 _ rfl u 0 rfl (r.arr a1 r.inn.held.length c1) _ HP2.out.range Try.underlying28 rfl (arr_info _ _ _ _) ?_) | (refine wpList_store_row rfl 28 _ _ rfl z (r.arr a1 r.inn.held.length c1) rfl rfl _ _ HZ2.out (arr_info _ _ _ _) rfl (arr_one _ _ _ _) ?_))
    refine bodyPost_ret (sess_end rfl z _ _ _ _ HZ2.out rfl rfl) rfl ?_
    exact told HZ2.out HZG.out.1 HB2.out HR2.out HM2.out HT2.out rfl rfl rfl HRR.out _
  · have q0 : (x.k % 4 == 0) = false := by rw [beq_eq_false_iff_ne]; exact k0
    by_cases k1 : x.k % 4 = 1
    · have HRR : Hid (doS x.k s x.m now = ((comeS s x.m now).1, (comeS s x.m now).2.1, (comeS s x.m now).2.2.1)) := Lib.hid (by unfold doS; rw [if_neg k0, if_pos k1])
      have q1 : (x.k % 4 == 1) = true := by rw [beq_iff_eq]; exact k1
      obtain ⟨⟨r, l, tl, bb, kk⟩, hr⟩ : ∃ r, comeS s x.m now = r := ⟨_, rfl⟩
      rw [hr] at HRR
      have HCO := Lib.hid hr
      have HAM := Lib.hid (act_msg (block_range HA.out))
      clear hr k0 k1
      go_wp2_with (first | (refine wpList_load_arr_g (by rfl) 28 _ rfl g 0 rfl (s.arr a n cap) _ HG.out.range Try.underlying28 rfl (arr_info _ _ _ _) ?_) | (refine wpList_load_arr_g (by rfl) 36 _ rfl (g + 1) 1 rfl x.m.cells _ HAM.out Try.underlying36 rfl (msg_info _) ?_))
      refine (come_is _ _ s x.m HM.out now a cap n rfl rfl HN.out hn9 _ HR0.out HLW.out r l tl bb kk _ _ _ HCO.out rfl rfl rfl).mono ?_
      rintro e w1 ⟨a1, c1, b1, d1, p1, q1, rfl, hr, hm, ht, hb⟩
      go_upto_region 7 with (refine wpList_store_row rfl 28 _ _ rfl w1.heap.size (r.arr a1 r.inn.held.length c1) rfl rfl _ _ (heap_alloc_last _ _) (arr_info _ _ _ _) rfl (arr_one _ _ _ _) ?_; rw [World.setRow_alloc_new])
      have hbl : Below w1.heap.size w1 (w1.alloc (.cells (r.arr a1 r.inn.held.length c1) 28)) := (Below.refl _ _).alloc (Nat.le_refl _) _
      have hb2 := HB0.out.trans (hb.mono HB0.out.size)
      have HZ2 := Lib.hid ((HZ.out.later hb).later hbl)
      have HP2 := Lib.hid (SeAt.made w1 r a1 r.inn.held.length c1)
      have HR2 := Lib.hid (hr.later hbl)
      have HM2 := Lib.hid (hm.later hbl)
      have HT2 : Hid (RowAt encM (w1.alloc (.cells (r.arr a1 r.inn.held.length c1) 28)) p1 q1 tl) := Lib.hid (ht.later hbl)
      have HB2 := Lib.hid (hb2.trans (hbl.mono hb2.size))
      obtain ⟨u, hu⟩ : ∃ u, w1.heap.size = u := ⟨_, rfl⟩
      rw [hu] at HP2 ⊢
      clear hbl hb2 hb hr hm ht hu c0 HG HZ
      generalize w1.alloc (.cells (r.arr a1 r.inn.held.length c1) 28) = w2 at HZ2 HP2 HR2 HM2 HT2 HB2 ⊢
      go_wp2_with (first | (refine wpList_load_arr_g (by rfl) 28 _ rfl u 0 rfl (r.arr a1 r.inn.held.length c1) _ HP2.out.range Try.underlying28 rfl (arr_info _ _ _ _) ?_) | (refine wpList_store_row rfl 28 _ _ rfl z (r.arr a1 r.inn.held.length c1) rfl rfl _ _ HZ2.out (arr_info _ _ _ _) rfl (arr_one _ _ _ _) ?_))
      refine bodyPost_ret (sess_end rfl z _ _ _ _ HZ2.out rfl rfl) rfl ?_
      exact told HZ2.out HZG.out.1 HB2.out HR2.out HM2.out HT2.out rfl rfl rfl HRR.out _
    · have q1 : (x.k % 4 == 1) = false := by rw [beq_eq_false_iff_ne]; exact k1
      by_cases k2 : x.k % 4 = 2
      · have HRR : Hid (doS x.k s x.m now = ((tick s now).1, (tick s now).2.1, [])) := Lib.hid (by unfold doS; rw [if_neg k0, if_neg k1, if_pos k2])
        have q2 : (x.k % 4 == 2) = true := by rw [beq_iff_eq]; exact k2
        obtain ⟨⟨r, l, kk⟩, hr⟩ : ∃ r, tick s now = r := ⟨_, rfl⟩
        rw [hr] at HRR
        have HCO := Lib.hid hr
        clear hr k0 k1 k2
        go_wp2_with (refine wpList_load_arr_g (by rfl) 28 _ rfl g 0 rfl (s.arr a n cap) _ HG.out.range Try.underlying28 rfl (arr_info _ _ _ _) ?_)
        refine (tick_is _ s now a cap n rfl HN.out hn9 _ HR0.out HLW.out r l kk _ _ HCO.out rfl rfl).mono ?_
        rintro e w1 ⟨a1, c1, b1, d1, rfl, hr, hm, hb⟩
        go_upto_region 10 with (refine wpList_store_row rfl 28 _ _ rfl w1.heap.size (r.arr a1 r.inn.held.length c1) rfl rfl _ _ (heap_alloc_last _ _) (arr_info _ _ _ _) rfl (arr_one _ _ _ _) ?_; rw [World.setRow_alloc_new])
        have hbl : Below w1.heap.size w1 (w1.alloc (.cells (r.arr a1 r.inn.held.length c1) 28)) := (Below.refl _ _).alloc (Nat.le_refl _) _
        have hb2 := HB0.out.trans (hb.mono HB0.out.size)
        have HZ2 := Lib.hid ((HZ.out.later hb).later hbl)
        have HP2 := Lib.hid (SeAt.made w1 r a1 r.inn.held.length c1)
        have HR2 := Lib.hid (hr.later hbl)
        have HM2 := Lib.hid (hm.later hbl)
        have HT2 : Hid (RowAt encM (w1.alloc (.cells (r.arr a1 r.inn.held.length c1) 28)) none 0 []) := Lib.hid (nil_msgs _)
        have HB2 := Lib.hid (hb2.trans (hbl.mono hb2.size))
        obtain ⟨u, hu⟩ : ∃ u, w1.heap.size = u := ⟨_, rfl⟩
        rw [hu] at HP2 ⊢
        clear hbl hb2 hb hr hm hu c0 HG HZ
        generalize w1.alloc (.cells (r.arr a1 r.inn.held.length c1) 28) = w2 at HZ2 HP2 HR2 HM2 HT2 HB2 ⊢
        go_wp2_with (first | (refine wpList_load_arr_g (by rfl) 28 _ rfl u 0 rfl (r.arr a1 r.inn.held.length c1) _ HP2.out.range Try.underlying28 rfl (arr_info _ _ _ _) ?_) | (refine wpList_store_row rfl 28 _ _ rfl z (r.arr a1 r.inn.held.length c1) rfl rfl _ _ HZ2.out (arr_info _ _ _ _) rfl (arr_one _ _ _ _) ?_))
        refine bodyPost_ret (sess_end rfl z _ _ _ _ HZ2.out rfl rfl) rfl ?_
        exact told HZ2.out HZG.out.1 HB2.out HR2.out HM2.out HT2.out rfl rfl rfl HRR.out _
      · have HRR : Hid (doS x.k s x.m now = (drop s, [], [])) := Lib.hid (by unfold doS; rw [if_neg k0, if_neg k1, if_neg k2])
        have q2 : (x.k % 4 == 2) = false := by rw [beq_eq_false_iff_ne]; exact k2
        obtain ⟨r, hr⟩ : ∃ r, drop s = r := ⟨_, rfl⟩
        rw [hr] at HRR
        have HCO := Lib.hid hr
        clear hr k0 k1 k2
        go_wp2_with (refine wpList_load_arr_g (by rfl) 28 _ rfl g 0 rfl (s.arr a n cap) _ HG.out.range Try.underlying28 rfl (arr_info _ _ _ _) ?_)
        refine (drop_is _ s a cap n rfl HN.out hn9 _ HR0.out HLW.out r _ HCO.out rfl).mono ?_
        rintro e w1 ⟨a1, c1, rfl, hr, hb⟩
        have HZ1 := Lib.hid (HZ.out.later hb)
        have HB1 := Lib.hid (HB0.out.trans (hb.mono HB0.out.size))
        have HR1 := Lib.hid hr
        clear hb hr
        go_wp2_with (refine wpList_store_row rfl 28 _ _ rfl z (r.arr a1 r.inn.held.length c1) rfl rfl _ _ HZ1.out (arr_info _ _ _ _) rfl (arr_one _ _ _ _) ?_)
        refine bodyPost_ret (sess_end rfl z _ _ _ _ HZ1.out rfl rfl) rfl ?_
        exact told HZ1.out HZG.out.1 HB1.out HR1.out (nil_msgs _) (nil_msgs _) rfl rfl rfl HRR.out _

end Ses
end Go.Proofs.Ytnmmokdkngccjaa
