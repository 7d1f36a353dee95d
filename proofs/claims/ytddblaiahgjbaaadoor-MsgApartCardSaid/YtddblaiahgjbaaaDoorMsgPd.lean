/-
  The program's fieldsOf and Put of layer 5.
-/
import Derived.Test.YtddblaiahgjbaaaDoorMsgPc
import Derived.Test.YtddblaiahgjbaaaDoorMsgPe
import Derived.Test.YtddblaiahgjbaaaDoorFldP
namespace Go.Proofs.YtddblaiahgjbaaaDoor
open Go.RowKit
namespace Msg
open Num
open Fld (F)

theorem kind_cut {k : Int} (h1 : 1 ≤ k) (h7 : k ≤ 7) : ∃ j : Nat, k = (j : Int) + 1 ∧ j ≤ 6 ∧ IntKind.i64.wrap (k - 1) = (j : Int) ∧ ((⟨#[65, 48, 49, 50, 52, 53, 56]⟩ : ByteArray).extract j 7).extract 0 1 = kindS k ∧ ((⟨#[65, 48, 49, 50, 52, 53, 56]⟩ : ByteArray).extract j 7).size = 7 - j := by
  have h : k = 1 ∨ k = 2 ∨ k = 3 ∨ k = 4 ∨ k = 5 ∨ k = 6 ∨ k = 7 := by omega
  rcases h with rfl | rfl | rfl | rfl | rfl | rfl | rfl
  · exact ⟨0, by decide, by decide, by decide, by decide, by decide⟩
  · exact ⟨1, by decide, by decide, by decide, by decide, by decide⟩
  · exact ⟨2, by decide, by decide, by decide, by decide, by decide⟩
  · exact ⟨3, by decide, by decide, by decide, by decide, by decide⟩
  · exact ⟨4, by decide, by decide, by decide, by decide, by decide⟩
  · exact ⟨5, by decide, by decide, by decide, by decide, by decide⟩
  · exact ⟨6, by decide, by decide, by decide, by decide, by decide⟩

set_option maxRecDepth 100000 in
set_option maxHeartbeats 4000000 in
theorem fieldsOf_any (m : Ms) (h1 : 1 ≤ m.kind) (h7 : m.kind ≤ 7) (w : World) (hl : Laid w) :
    Calls Tryd.prog 13 #[.agg m.cells] w fun e w' => ∃ a cap, e = .returned (.slice a (fieldsP m).length cap) ∧ RowAt encF w' a cap (fieldsP m) ∧ Below w.heap.size w w' := by
  have HBX0 := Lib.hid (BoxM.made w m 25)
  have HB0 : Hid (Below w.heap.size w (w.alloc (.cells m.cells 25))) := Lib.hid ((Below.refl _ _).alloc (Nat.le_refl _) _)
  have HL0 := Lib.hid (hl.below HB0.out)
  clear hl
  obtain ⟨K, hK⟩ : ∃ K, m.kind = K := ⟨_, rfl⟩
  have HKS : Hid (fieldsP m = [⟨35, kindS K⟩, numF 34 m.seq, numF 52 m.time] ++ optF m.copy ⟨43, yS⟩ ++
      (if K = 1 then [numF 108 m.a] else if K = 2 ∨ K = 3 then optF (decide (m.text ≠ emp)) ⟨112, m.text⟩ else if K = 4 then [numF 7 m.a, numF 16 m.b]
       else if K = 5 then optF m.gap ⟨123, yS⟩ ++ [numF 36 m.a] else if K = 7 then execF m.exec else [])) := Lib.hid (by rw [← hK]; rfl)
  generalize fieldsP m = LP at HKS ⊢
  rw [hK] at h1 h7
  have HK := Lib.hid hK
  clear hK
  obtain ⟨j, hj, hj6, hjw, hjs, hjz⟩ := kind_cut h1 h7
  have HJS := Lib.hid hjs
  have HJ := Lib.hid hj
  clear hjs hj
  go_enter Tryd.func13, Tryd.ntmps13
  go_upto_region 1 with fail
  generalize w.alloc (.cells m.cells 25) = w0 at HBX0 HB0 HL0 ⊢
  have S0 : Hid (Fs w0 (w0.alloc (.cells #[.slice none 0 0] 43)) w0.heap.size []) := Lib.hid
    ⟨(Below.refl _ _).alloc (Nat.le_refl _) _, Nat.le_refl _, .slice none 0 0, heap_alloc_new _ _, OwnE.nil _ _ _ _⟩
  have HBX : Hid (∀ W l, Fs w0 W w0.heap.size l → BoxM W w.heap.size m) := Lib.hid (fun W l h => HBX0.out.later h.B)
  have HLW : Hid (∀ W l, Fs w0 W w0.heap.size l → Laid W) := Lib.hid (fun W l h => HL0.out.below h.B)
  go_upto_region 2 with fail
  generalize w0.alloc (.cells #[.slice none 0 0] 43) = u0 at S0 ⊢
  have c0 := HK.out ▸ (HBX.out _ _ S0.out).c0
  go_wp2_with fail
  refine (putText_any 35 _ w0 _ w0.heap.size [] S0.out (by simp)).mono ?_
  rw [HJS.out]
  rintro e u1 ⟨rfl, hs, -⟩
  have S1 : Hid (Fs w0 u1 w0.heap.size [⟨35, kindS K⟩]) := Lib.hid hs
  clear hs c0
  have c1 := (HBX.out _ _ S1.out).c1
  go_wp2_with fail
  refine (putNumber_any 34 m.seq w0 _ w0.heap.size _ S1.out (by simp) (HLW.out _ _ S1.out)).mono ?_
  rintro e u2 ⟨rfl, hs, -⟩
  have S2 : Hid (Fs w0 u2 w0.heap.size [⟨35, kindS K⟩, numF 34 m.seq]) := Lib.hid hs
  clear hs c1
  have c2 := (HBX.out _ _ S2.out).c2
  go_wp2_with fail
  refine (putNumber_any 52 m.time w0 _ w0.heap.size _ S2.out (by simp) (HLW.out _ _ S2.out)).mono ?_
  rintro e u3 ⟨rfl, hs, -⟩
  have S3 : Hid (Fs w0 u3 w0.heap.size [⟨35, kindS K⟩, numF 34 m.seq, numF 52 m.time]) := Lib.hid hs
  clear hs c2
  have c3 := (HBX.out _ _ S3.out).c3
  go_wp2_with fail
  refine (putFlag_any 43 m.copy w0 _ w0.heap.size _ S3.out (by simp)).mono ?_
  rintro e u4 ⟨rfl, hs, -⟩
  have S4 := Lib.hid hs
  clear hs c3
  have hlen : ([⟨35, kindS K⟩, numF 34 m.seq, numF 52 m.time] ++ optF m.copy ⟨43, yS⟩ : List F).length ≤ 4 := by
    rw [List.length_append]
    have := optF_le m.copy ⟨43, yS⟩
    simp only [List.length_cons, List.length_nil]
    omega
  obtain ⟨L, hL⟩ : ∃ L, ([⟨35, kindS K⟩, numF 34 m.seq, numF 52 m.time] ++ optF m.copy ⟨43, yS⟩ : List F) = L := ⟨_, rfl⟩
  rw [hL] at HKS S4 hlen
  clear hL
  have c0 := HK.out ▸ (HBX.out _ _ S4.out).c0
  have HEND : Hid (∀ W l, Fs w0 W w0.heap.size l → ∃ a cap, W.cell? ⟨w0.heap.size, 0, none⟩ = some (.slice a l.length cap) ∧ RowAt encF W a cap l ∧ Below w.heap.size w W) := Lib.hid (fun W l h => by
    obtain ⟨B, _, v, hv, ho⟩ := h
    obtain ⟨a, cap, rfl, hr⟩ := ho.row
    exact ⟨a, cap, cell_at hv rfl, hr, HB0.out.trans (B.mono HB0.out.size)⟩)
  by_cases k1 : K = 1
  · have HP : Hid (LP = L ++ [numF 108 m.a]) := Lib.hid (by rw [HKS.out, if_pos k1])
    have c5 := (HBX.out _ _ S4.out).c4
    go_wp2_with fail
    refine (putNumber_any 108 m.a w0 _ w0.heap.size _ S4.out (Nat.le_trans hlen (by omega)) (HLW.out _ _ S4.out)).mono ?_
    rintro e u5 ⟨rfl, hs, -⟩
    have S5 := Lib.hid hs
    clear hs
    clear c5
    obtain ⟨a, cap, z0, hr, hb⟩ := HEND.out u5 LP (by rw [HP.out]; exact S5.out)
    have HR := Lib.hid hr
    have HB := Lib.hid hb
    clear hr hb
    go_wp2_with fail
    go_ret
    exact ⟨a, cap, rfl, HR.out, HB.out⟩
  by_cases k2 : K = 2
  · have HP : Hid (LP = L ++ optF (decide (m.text ≠ emp)) ⟨112, m.text⟩) := Lib.hid (by rw [HKS.out, if_neg k1, if_pos (.inl k2)])
    have c5 := (HBX.out _ _ S4.out).c7
    go_wp2_with fail
    refine (putThere_any 112 m.text w0 _ w0.heap.size _ S4.out (Nat.le_trans hlen (by omega))).mono ?_
    rintro e u5 ⟨rfl, hs, -⟩
    have S5 := Lib.hid hs
    clear hs
    clear c5
    obtain ⟨a, cap, z0, hr, hb⟩ := HEND.out u5 LP (by rw [HP.out]; exact S5.out)
    have HR := Lib.hid hr
    have HB := Lib.hid hb
    clear hr hb
    go_wp2_with fail
    go_ret
    exact ⟨a, cap, rfl, HR.out, HB.out⟩
  by_cases k3 : K = 3
  · have HP : Hid (LP = L ++ optF (decide (m.text ≠ emp)) ⟨112, m.text⟩) := Lib.hid (by rw [HKS.out, if_neg k1, if_pos (.inr k3)])
    have c5 := (HBX.out _ _ S4.out).c7
    go_wp2_with fail
    refine (putThere_any 112 m.text w0 _ w0.heap.size _ S4.out (Nat.le_trans hlen (by omega))).mono ?_
    rintro e u5 ⟨rfl, hs, -⟩
    have S5 := Lib.hid hs
    clear hs
    clear c5
    obtain ⟨a, cap, z0, hr, hb⟩ := HEND.out u5 LP (by rw [HP.out]; exact S5.out)
    have HR := Lib.hid hr
    have HB := Lib.hid hb
    clear hr hb
    go_wp2_with fail
    go_ret
    exact ⟨a, cap, rfl, HR.out, HB.out⟩
  by_cases k4 : K = 4
  · have HP : Hid (LP = L ++ [numF 7 m.a] ++ [numF 16 m.b]) := Lib.hid (by rw [HKS.out, if_neg k1, if_neg (by omega : ¬ (K = 2 ∨ K = 3)), if_pos k4]; simp)
    have c5 := (HBX.out _ _ S4.out).c4
    go_wp2_with fail
    refine (putNumber_any 7 m.a w0 _ w0.heap.size _ S4.out (Nat.le_trans hlen (by omega)) (HLW.out _ _ S4.out)).mono ?_
    rintro e u5 ⟨rfl, hs, -⟩
    have S5 := Lib.hid hs
    clear hs
    clear c5
    have c6 := (HBX.out _ _ S5.out).c5
    go_wp2_with fail
    refine (putNumber_any 16 m.b w0 _ w0.heap.size _ S5.out (by simp only [List.length_append, List.length_cons, List.length_nil]; omega) (HLW.out _ _ S5.out)).mono ?_
    rintro e u6 ⟨rfl, hs, -⟩
    have S6 := Lib.hid hs
    clear hs
    clear c6
    obtain ⟨a, cap, z0, hr, hb⟩ := HEND.out u6 LP (by rw [HP.out]; exact S6.out)
    have HR := Lib.hid hr
    have HB := Lib.hid hb
    clear hr hb
    go_wp2_with fail
    go_ret
    exact ⟨a, cap, rfl, HR.out, HB.out⟩
  by_cases k5 : K = 5
  · have HP : Hid (LP = L ++ optF m.gap ⟨123, yS⟩ ++ [numF 36 m.a]) := Lib.hid (by rw [HKS.out, if_neg k1, if_neg (by omega : ¬ (K = 2 ∨ K = 3)), if_neg k4, if_pos k5]; simp)
    have c5 := (HBX.out _ _ S4.out).c6
    go_wp2_with fail
    refine (putFlag_any 123 m.gap w0 _ w0.heap.size _ S4.out (Nat.le_trans hlen (by omega))).mono ?_
    rintro e u5 ⟨rfl, hs, -⟩
    have S5 := Lib.hid hs
    clear hs
    clear c5
    have c6 := (HBX.out _ _ S5.out).c4
    go_wp2_with fail
    refine (putNumber_any 36 m.a w0 _ w0.heap.size _ S5.out (by have := optF_le m.gap ⟨123, yS⟩; rw [List.length_append]; omega) (HLW.out _ _ S5.out)).mono ?_
    rintro e u6 ⟨rfl, hs, -⟩
    have S6 := Lib.hid hs
    clear hs
    clear c6
    obtain ⟨a, cap, z0, hr, hb⟩ := HEND.out u6 LP (by rw [HP.out]; exact S6.out)
    have HR := Lib.hid hr
    have HB := Lib.hid hb
    clear hr hb
    go_wp2_with fail
    go_ret
    exact ⟨a, cap, rfl, HR.out, HB.out⟩
  by_cases k7 : K = 7
  · have HP : Hid (LP = L ++ execF m.exec) := Lib.hid (by rw [HKS.out, if_neg k1, if_neg (by omega : ¬ (K = 2 ∨ K = 3)), if_neg k4, if_neg k5, if_pos k7])
    have HRX := Lib.hid (HBX.out _ _ S4.out).rangeX
    go_wp2_with (refine wpList_load_mid_g (by rfl) 23 _ rfl w.heap.size 8 rfl _ _ HRX.out Tryd.underlying23 rfl (by kernel_rfl) ?_)
    refine (putExec_any m.exec w0 _ w0.heap.size _ S4.out (Nat.le_trans hlen (by omega)) HL0.out).mono ?_
    rintro e u5 ⟨rfl, hs, -⟩
    have S5 := Lib.hid hs
    clear hs
    obtain ⟨a, cap, z0, hr, hb⟩ := HEND.out u5 LP (by rw [HP.out]; exact S5.out)
    have HR := Lib.hid hr
    have HB := Lib.hid hb
    clear hr hb
    go_wp2_with fail
    go_ret
    exact ⟨a, cap, rfl, HR.out, HB.out⟩
  · have HP : Hid (LP = L) := Lib.hid (by rw [HKS.out, if_neg k1, if_neg (by omega : ¬ (K = 2 ∨ K = 3)), if_neg k4, if_neg k5, if_neg k7]; exact List.append_nil L)
    obtain ⟨a, cap, z0, hr, hb⟩ := HEND.out u4 LP (by rw [HP.out]; exact S4.out)
    have HR := Lib.hid hr
    have HB := Lib.hid hb
    clear hr hb
    go_wp2_with fail
    go_ret
    exact ⟨a, cap, rfl, HR.out, HB.out⟩

theorem fieldsOf_is (c : Array Value) (m : Ms) (hc : c = m.cells) (h : rightM m = true) (w : World) (hl : Laid w) :
    Calls Tryd.prog 13 #[.agg c] w fun e w' => ∃ a cap, e = .returned (.slice a (fieldsM m).length cap) ∧ RowAt encF w' a cap (fieldsM m) ∧ Below w.heap.size w w' := by
  subst hc
  have p := parts h
  rw [← fields_p h]
  exact fieldsOf_any m p.k1 p.k7 w hl
theorem right_k (c : Array Value) (m : Ms) (o : Bool) (hc : c = m.cells) (ho : rightM m = o) (hm : m.Fits) (w : World) (hl : Laid w) : Calls Tryd.prog 11 #[.agg c] w fun e w' => e = .returned (.bool o) ∧ Below w.heap.size w w' := by
  subst hc ho
  exact right_any m hm w hl

set_option maxRecDepth 100000 in
set_option maxHeartbeats 2000000 in
theorem put_any (m : Ms) (hm : m.Fits) (w : World) (hl : Laid w) : Calls Tryd.prog 7 #[.agg m.cells] w (GotBytes w (putM m).1 (putM m).2) := by
  have HF := Lib.hid hm
  obtain ⟨C, hC⟩ : ∃ C, m.cells = C := ⟨_, rfl⟩
  have HC := Lib.hid hC.symm
  have hi : (Tryd.prog.info? 25).map (·.size) = some C.size := by rw [← hC]; kernel_rfl
  have HX0 : Hid ((w.alloc (.cells C 25)).heap[w.heap.size]? = some (.cells C 25 (0, 0))) := Lib.hid (heap_alloc_new w _)
  have HB0 : Hid (Below w.heap.size w (w.alloc (.cells C 25))) := Lib.hid ((Below.refl _ _).alloc (Nat.le_refl _) _)
  have HL := Lib.hid hl
  rw [hC]
  clear hC hm hl
  obtain ⟨y, n, hp⟩ : ∃ y n, putM m = (y, n) := ⟨_, _, rfl⟩
  rw [hp]
  have HP := Lib.hid hp
  clear hp
  obtain ⟨o, ho⟩ : ∃ o, rightM m = o := ⟨_, rfl⟩
  have HO := Lib.hid ho
  go_enter Tryd.func7, Tryd.ntmps7
  go_upto_region 1 with fail
  generalize w.alloc (.cells C 25) = w0 at HX0 HB0 ⊢
  have HR0 := Lib.hid (block_range HX0.out)
  go_wp2_with (refine wpList_load_arr_g (by rfl) 25 _ rfl w.heap.size 0 rfl C _ HR0.out Tryd.underlying25 rfl hi ?_)
  refine (right_k C m o HC.out ho HF.out _ (HL.out.below HB0.out)).mono ?_
  rintro e w1 ⟨rfl, hb1⟩
  have HB1 := Lib.hid (HB0.out.trans (hb1.mono HB0.out.size))
  have HX1 := Lib.hid (below_block HX0.out hb1)
  have HR1 := Lib.hid (block_range HX1.out)
  clear hb1 HX0 HR0 ho
  cases o
  · have HE : Hid (([], 1) = (y, n)) := Lib.hid (by rw [← HP.out]; unfold putM; rw [if_neg (by rw [HO.out]; simp)])
    go_wp2_with fail
    go_ret2
    obtain ⟨rfl, rfl⟩ := Prod.mk.inj HE.out
    exact ⟨⟨none, 0, rfl, .inl ⟨rfl, rfl, rfl⟩⟩, HB1.out⟩
  · have HE : Hid (Fld.putB (fieldsM m) = y ∧ Fld.putE (fieldsM m) = n) := Lib.hid (by
      have h := HP.out
      unfold putM at h
      rw [if_pos HO.out] at h
      obtain ⟨h1, h2⟩ := Prod.mk.inj h
      exact ⟨h1, by rw [← h2]; exact (fields_put HO.out).1⟩)
    go_wp2_with (refine wpList_load_arr_g (by rfl) 25 _ rfl w.heap.size 0 rfl C _ HR1.out Tryd.underlying25 rfl hi ?_)
    refine (fieldsOf_is C m HC.out HO.out _ (HL.out.below HB1.out)).mono ?_
    rintro e w2 ⟨a, cap, rfl, hr, hb2⟩
    have HB2 := Lib.hid (HB1.out.trans (hb2.mono HB1.out.size))
    have HR2 := Lib.hid hr
    have hln : (fieldsM m).length ≤ 9223372036854775807 := by have := (fields_may HO.out).2.2; omega
    have HPT := Lib.hid (fun w h => Fld.put_any a cap (fieldsM m) w (RowAt.flds HR2.out |>.later (h : Below w2.heap.size w2 w)) (fits_fields HO.out) hln (HL.out.below (HB2.out.trans (h.mono HB2.out.size))))
    rw [HE.out.1, HE.out.2] at HPT
    clear hr hb2 hln
    go_wp2_with fail
    refine (HPT.out _ (Below.refl _ _)).mono ?_
    rintro e w3 ⟨⟨a3, c3, rfl, h3⟩, hb3⟩
    have HY := Lib.hid h3
    have HB3 := Lib.hid (HB2.out.trans (hb3.mono HB2.out.size))
    clear h3 hb3
    go_wp2_with fail
    go_ret2
    exact ⟨⟨a3, c3, rfl, HY.out⟩, HB3.out⟩

end Msg
end Go.Proofs.YtddblaiahgjbaaaDoor
