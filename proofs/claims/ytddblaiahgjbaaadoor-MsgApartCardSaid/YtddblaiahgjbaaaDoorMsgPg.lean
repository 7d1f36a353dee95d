/-
  The program's Read of layer 5.
-/
import Derived.Test.YtddblaiahgjbaaaDoorMsgPd
import Derived.Test.YtddblaiahgjbaaaDoorFldR
namespace Go.Proofs.YtddblaiahgjbaaaDoor
open Go.RowKit
namespace Msg
open Num
open Fld (F getV numV getO numO)

theorem str_is (v : ByteArray) (c : UInt8) : (v.toList == [c]) = decide (v = ⟨#[c]⟩) := by
  rw [Bool.eq_iff_iff, beq_iff_eq, decide_eq_true_eq, ByteArray.toList_eq]
  constructor
  · intro h
    obtain ⟨⟨x⟩⟩ := v
    simp at h
    rw [h]
  · intro h; rw [h]
/-- what is read out of fields that came in -/
structure Src (w wi : World) (a : Option Addr) (l : List F) : Prop where
  B : Below w.heap.size w wi
  f : Flds wi a l
  L : Laid wi
theorem Src.later {w wi w' : World} {a : Option Addr} {l : List F} (h : Src w wi a l) (hb : Below wi.heap.size wi w') : Src w w' a l := ⟨h.B.trans (hb.mono h.B.size), h.f.later hb, h.L.below hb⟩

theorem text_l (a : Option Addr) (cap : Nat) (l : List F) (t : Int) (w : World) (hfl : Flds w a l) (hlen : l.length ≤ 9223372036854775807) :
    Calls Tryd.prog 31 #[.slice a l.length cap, .int .i64 t] w fun e w' => e = .returned (.string (getV l t)) ∧ Below w.heap.size w w' := by
  have HC := Lib.hid (fun w h => Fld.get_any a cap l t w h hlen)
  have HF := Lib.hid hfl
  clear hfl
  go_enter Tryd.func31, Tryd.ntmps31
  go_wp2_with fail
  refine (HC.out _ HF.out).mono ?_
  rintro e w1 ⟨rfl, hb⟩
  go_wp2_with fail
  go_ret
  exact ⟨rfl, hb⟩
theorem num_l (a : Option Addr) (cap : Nat) (l : List F) (t : Int) (w : World) (hfl : Flds w a l) (hfit : Fld.Fits l) (hlen : l.length ≤ 9223372036854775807) (hl : Laid w) :
    Calls Tryd.prog 32 #[.slice a l.length cap, .int .i64 t] w fun e w' => e = .returned (.int .i64 (numV l t)) ∧ Below w.heap.size w w' := by
  have HC := Lib.hid (fun w h hl => Fld.num_any a cap l t w h hfit hlen hl)
  have HF := Lib.hid hfl
  have HL := Lib.hid hl
  clear hfl hl hfit
  go_enter Tryd.func32, Tryd.ntmps32
  go_wp2_with fail
  refine (HC.out _ HF.out HL.out).mono ?_
  rintro e w1 ⟨rfl, hb⟩
  go_wp2_with fail
  go_ret
  exact ⟨rfl, hb⟩
theorem flag_l (a : Option Addr) (cap : Nat) (l : List F) (t : Int) (w : World) (hfl : Flds w a l) (hlen : l.length ≤ 9223372036854775807) :
    Calls Tryd.prog 33 #[.slice a l.length cap, .int .i64 t] w fun e w' => e = .returned (.bool (decide (getV l t = yS))) ∧ Below w.heap.size w w' := by
  have HC := Lib.hid (fun w h => text_l a cap l t w h hlen)
  have HF := Lib.hid hfl
  clear hfl
  generalize getV l t = v at HC ⊢
  have HV := Lib.hid (str_is v 89)
  go_enter Tryd.func33, Tryd.ntmps33
  go_wp2_with fail
  refine (HC.out _ HF.out).mono ?_
  rintro e w1 ⟨rfl, hb⟩
  go_wp2_with fail
  go_ret
  exact ⟨ret_b HV.out, hb⟩

theorem numV_fits (l : List F) (t : Int) : I64 (numV l t) := by rw [Fld.num_is.1]; exact parseV_fits _
theorem getV_fits {l : List F} (h : Fld.Fits l) (t : Int) : Str (getV l t) := Fld.getV_size h
theorem ofEx_fits {l : List F} (h : Fld.Fits l) : (ofEx l).Fits := ⟨getV_fits h _, getV_fits h _, getV_fits h _, getV_fits h _, getV_fits h _, numV_fits l _, numV_fits l _, numV_fits l _, numV_fits l _⟩
theorem ofL_fits {l : List F} (h : Fld.Fits l) {K : Int} (hK : I64 K) : (ofL K l).Fits := by
  have z : I64 0 := by unfold I64; decide
  unfold ofL
  split
  · exact ⟨hK, numV_fits l _, numV_fits l _, numV_fits l _, z, emp_str, noEx_fits2⟩
  split
  · exact ⟨hK, numV_fits l _, numV_fits l _, z, z, getV_fits h _, noEx_fits2⟩
  split
  · exact ⟨hK, numV_fits l _, numV_fits l _, numV_fits l _, numV_fits l _, emp_str, noEx_fits2⟩
  split
  · exact ⟨hK, numV_fits l _, numV_fits l _, numV_fits l _, z, emp_str, noEx_fits2⟩
  split
  · exact ⟨hK, numV_fits l _, numV_fits l _, z, z, emp_str, ofEx_fits h⟩
  · exact ⟨hK, numV_fits l _, numV_fits l _, z, z, emp_str, noEx_fits2⟩

theorem ex_end {fn : Func} (hfn : fn.results = #[.cell 2 23]) (g : Nat) (W : World) (cs old : Array Value) (tmps : Array Value) (hw : W.heap[g]? = some (.cells old 23 (0, 0))) (hcs : cs.size = 10)
    (ht2 : tmps.getD 2 undef = .pointer (some ⟨g, 0, none⟩)) : (results fn tmps).run Tryd.prog (W.setRow g cs) = .ok (.agg cs) (W.setRow g cs) :=
  results_row_one hfn tmps _ _ g 23 cs (0, 0) _ ht2 (setRow_heap W _ _ cs _ _ hw) Tryd.underlying23 rfl (by rw [hcs]; kernel_rfl)

set_option maxRecDepth 100000 in
set_option maxHeartbeats 4000000 in
theorem exec_l (a : Option Addr) (cap : Nat) (l : List F) (w : World) (hfl : Flds w a l) (hfit : Fld.Fits l) (hlen : l.length ≤ 9223372036854775807) (hl : Laid w) :
    Calls Tryd.prog 34 #[.slice a l.length cap] w fun e w' => e = .returned (.agg (ofEx l).cells) ∧ Below w.heap.size w w' := by
  have S0 : Hid (Src w (w.alloc (.cells noEx.cells 23)) a l) := Lib.hid ⟨(Below.refl _ _).alloc (Nat.le_refl _) _, hfl.later ((Below.refl _ _).alloc (Nat.le_refl _) _), hl.below ((Below.refl _ _).alloc (Nat.le_refl _) _)⟩
  have R0 : Hid ((w.alloc (.cells noEx.cells 23)).heap[w.heap.size]? = some (.cells noEx.cells 23 (0, 0))) := Lib.hid (heap_alloc_new _ _)
  have HT := Lib.hid (fun t w h => text_l a cap l t w h hlen)
  have HN := Lib.hid (fun t w h hl => num_l a cap l t w h hfit hlen hl)
  have HX : Hid (ofEx l = ⟨getV l 17, getV l 19, getV l 11, getV l 1, getV l 55, numV l 150, decide (getV l 54 = ⟨#[49]⟩), numV l 32, numV l 31, numV l 60⟩) := Lib.hid rfl
  generalize ofEx l = X at HX ⊢
  clear hfl hl hfit
  go_enter Tryd.func34, Tryd.ntmps34
  go_upto_region 1 with fail
  change Code.wp _ _ _ _ (w.alloc (.cells noEx.cells 23))
  generalize w.alloc (.cells noEx.cells 23) = u0 at S0 R0 ⊢
  go_wp2_with fail
  refine (HT.out 17 _ S0.out.f).mono ?_
  rintro e u1 ⟨rfl, hb⟩
  have S1 := Lib.hid (S0.out.later hb)
  have R1 := Lib.hid (below_block R0.out hb)
  clear hb S0 R0
  generalize getV l 17 = v0 at HX ⊢
  go_wp2_with fail
  refine (HT.out 19 _ S1.out.f).mono ?_
  rintro e u2 ⟨rfl, hb⟩
  have S2 := Lib.hid (S1.out.later hb)
  have R2 := Lib.hid (below_block R1.out hb)
  clear hb S1 R1
  generalize getV l 19 = v1 at HX ⊢
  go_wp2_with fail
  refine (HT.out 11 _ S2.out.f).mono ?_
  rintro e u3 ⟨rfl, hb⟩
  have S3 := Lib.hid (S2.out.later hb)
  have R3 := Lib.hid (below_block R2.out hb)
  clear hb S2 R2
  generalize getV l 11 = v2 at HX ⊢
  go_wp2_with fail
  refine (HT.out 1 _ S3.out.f).mono ?_
  rintro e u4 ⟨rfl, hb⟩
  have S4 := Lib.hid (S3.out.later hb)
  have R4 := Lib.hid (below_block R3.out hb)
  clear hb S3 R3
  generalize getV l 1 = v3 at HX ⊢
  go_wp2_with fail
  refine (HT.out 55 _ S4.out.f).mono ?_
  rintro e u5 ⟨rfl, hb⟩
  have S5 := Lib.hid (S4.out.later hb)
  have R5 := Lib.hid (below_block R4.out hb)
  clear hb S4 R4
  generalize getV l 55 = v4 at HX ⊢
  go_wp2_with fail
  refine (HN.out 150 _ S5.out.f S5.out.L).mono ?_
  rintro e u6 ⟨rfl, hb⟩
  have S6 := Lib.hid (S5.out.later hb)
  have R6 := Lib.hid (below_block R5.out hb)
  clear hb S5 R5
  generalize numV l 150 = v5 at HX ⊢
  go_wp2_with fail
  refine (HT.out 54 _ S6.out.f).mono ?_
  rintro e u7 ⟨rfl, hb⟩
  have S7 := Lib.hid (S6.out.later hb)
  have R7 := Lib.hid (below_block R6.out hb)
  clear hb S6 R6
  generalize getV l 54 = v6 at HX ⊢
  go_wp2_with fail
  refine (HN.out 32 _ S7.out.f S7.out.L).mono ?_
  rintro e u8 ⟨rfl, hb⟩
  have S8 := Lib.hid (S7.out.later hb)
  have R8 := Lib.hid (below_block R7.out hb)
  clear hb S7 R7
  generalize numV l 32 = v7 at HX ⊢
  go_wp2_with fail
  refine (HN.out 31 _ S8.out.f S8.out.L).mono ?_
  rintro e u9 ⟨rfl, hb⟩
  have S9 := Lib.hid (S8.out.later hb)
  have R9 := Lib.hid (below_block R8.out hb)
  clear hb S8 R8
  generalize numV l 31 = v8 at HX ⊢
  go_wp2_with fail
  refine (HN.out 60 _ S9.out.f S9.out.L).mono ?_
  rintro e u10 ⟨rfl, hb⟩
  have S10 := Lib.hid (S9.out.later hb)
  have R10 := Lib.hid (below_block R9.out hb)
  clear hb S9 R9
  generalize numV l 60 = v9 at HX ⊢
  have HB1 := Lib.hid (str_is v6 49)
  generalize decide (v6 = ⟨#[49]⟩) = by6 at HX HB1
  go_wp2_with (refine wpList_store_row rfl 23 _ _ rfl w.heap.size _ rfl rfl _ _ R10.out (by kernel_rfl) (by rfl) (ex_one ⟨v0, v1, v2, v3, v4, v5, _, v7, v8, v9⟩) ?_)
  refine bodyPost_ret (ex_end rfl w.heap.size _ _ _ _ R10.out rfl rfl) rfl ?_
  rw [HX.out, ← HB1.out]
  exact ⟨rfl, below_setRow S10.out.B (Nat.le_refl _) _⟩

theorem index_fits (s : List UInt8) : -1 ≤ Lib.index [65, 48, 49, 50, 52, 53, 56] s ∧ Lib.index [65, 48, 49, 50, 52, 53, 56] s ≤ 7 :=
  ⟨Lib.index_ge _ _, Lib.index_le _ _⟩
/-- a kind by its sign -/
def kindI (s : ByteArray) : Int := 1 + Lib.index [65, 48, 49, 50, 52, 53, 56] s.data.toList
theorem kindI_is {s : ByteArray} (k : Int) (h1 : 1 ≤ k) (h7 : k ≤ 7) (h : s = kindS k) : kindI s = k := by
  subst h
  have h : k = 1 ∨ k = 2 ∨ k = 3 ∨ k = 4 ∨ k = 5 ∨ k = 6 ∨ k = 7 := by omega
  rcases h with rfl | rfl | rfl | rfl | rfl | rfl | rfl <;> decide
theorem kindI_fits (s : ByteArray) : 0 ≤ kindI s ∧ kindI s ≤ 8 := by
  have := index_fits s.data.toList
  unfold kindI
  omega

set_option maxRecDepth 100000 in
set_option maxHeartbeats 4000000 in
theorem messageOf_any (a : Option Addr) (cap : Nat) (l : List F) (w : World) (hfl : Flds w a l) (hfit : Fld.Fits l) (hlen : l.length ≤ 9223372036854775807) (hl : Laid w) :
    Calls Tryd.prog 14 #[.slice a l.length cap] w fun e w' => e = .returned (.agg (ofL (kindI (getV l 35)) l).cells) ∧ Below w.heap.size w w' := by
  have S0 : Hid (Src w (w.alloc (.cells noMs.cells 25)) a l) := Lib.hid ⟨(Below.refl _ _).alloc (Nat.le_refl _) _, hfl.later ((Below.refl _ _).alloc (Nat.le_refl _) _), hl.below ((Below.refl _ _).alloc (Nat.le_refl _) _)⟩
  have R0 : Hid ((w.alloc (.cells noMs.cells 25)).heap[w.heap.size]? = some (.cells noMs.cells 25 (0, 0))) := Lib.hid (heap_alloc_new _ _)
  have HT := Lib.hid (fun t w h => text_l a cap l t w h hlen)
  have HN := Lib.hid (fun t w h hl => num_l a cap l t w h hfit hlen hl)
  have HG := Lib.hid (fun t w h => flag_l a cap l t w h hlen)
  have HXX := Lib.hid (fun w h hl => exec_l a cap l w h hfit hlen hl)
  obtain ⟨K, hK⟩ : ∃ K, kindI (getV l 35) = K := ⟨_, rfl⟩
  have hKF := kindI_fits (getV l 35)
  rw [hK] at hKF
  have HK := Lib.hid hK
  have HIF := Lib.hid (index_fits (getV l 35).data.toList)
  have HKI : Hid (1 + Lib.index [65, 48, 49, 50, 52, 53, 56] (getV l 35).data.toList = K) := Lib.hid hK
  have HSI := Lib.hid (fun w m h => Tryd.strings_Index ⟨#[65, 48, 49, 50, 52, 53, 56]⟩ (getV l 35) m w (by decide) h)
  rw [hK]
  have HOF : Hid (ofL K l = if K = 1 then {ofHead K l with a := numV l 108} else if K = 2 ∨ K = 3 then {ofHead K l with text := getV l 112} else if K = 4 then {ofHead K l with a := numV l 7, b := numV l 16}
    else if K = 5 then {ofHead K l with a := numV l 36, gap := decide (getV l 123 = yS)} else if K = 7 then {ofHead K l with exec := ofEx l} else ofHead K l) := Lib.hid rfl
  have HHD : Hid (ofHead K l = {noMs with kind := K, seq := numV l 34, time := numV l 52, copy := decide (getV l 43 = yS)}) := Lib.hid rfl
  generalize ofL K l = Y at HOF ⊢
  generalize ofHead K l = H0 at HOF HHD
  clear hfl hl hfit hK
  go_enter Tryd.func14, Tryd.ntmps14
  go_upto_region 1 with fail
  change Code.wp _ _ _ _ (w.alloc (.cells noMs.cells 25))
  generalize w.alloc (.cells noMs.cells 25) = u0 at S0 R0 ⊢
  go_wp2_with fail
  refine (HT.out 35 _ S0.out.f).mono ?_
  rintro e u1 ⟨rfl, hb⟩
  have S1 := Lib.hid (S0.out.later hb)
  have R1 := Lib.hid (below_block R0.out hb)
  clear hb S0 R0
  obtain ⟨mx, hmx⟩ := S1.out.L.max
  have HMX := Lib.hid hmx
  clear hmx
  have HI := Lib.hid (HSI.out u1 mx HMX.out)
  clear HSI
  change Hid (Calls _ _ _ _ fun e w' => e = .returned (.int .i64 (Lib.index [65, 48, 49, 50, 52, 53, 56] (getV l 35).data.toList)) ∧ w' = u1) at HI
  obtain ⟨ix, hix⟩ : ∃ ix, Lib.index [65, 48, 49, 50, 52, 53, 56] (getV l 35).data.toList = ix := ⟨_, rfl⟩
  rw [hix] at HI HIF HKI
  clear hix
  obtain ⟨hi1, hi7⟩ := HIF.out
  have hw : IntKind.i64.wrap (1 + ix) = K := by rw [IntKind.wrap_i64]; have := HKI.out; omega
  go_wp2_with fail
  refine HI.out.mono ?_
  rintro e w' ⟨rfl, rfl⟩
  go_wp2_with fail
  refine (HN.out 34 _ S1.out.f S1.out.L).mono ?_
  rintro e u2 ⟨rfl, hb⟩
  have S2 := Lib.hid (S1.out.later hb)
  have R2 := Lib.hid (below_block R1.out hb)
  clear hb S1 R1
  generalize numV l 34 = v34 at HHD ⊢
  go_wp2_with fail
  refine (HN.out 52 _ S2.out.f S2.out.L).mono ?_
  rintro e u3 ⟨rfl, hb⟩
  have S3 := Lib.hid (S2.out.later hb)
  have R3 := Lib.hid (below_block R2.out hb)
  clear hb S2 R2
  generalize numV l 52 = v52 at HHD ⊢
  go_wp2_with fail
  refine (HG.out 43 _ S3.out.f).mono ?_
  rintro e u4 ⟨rfl, hb⟩
  have S4 := Lib.hid (S3.out.later hb)
  have R4 := Lib.hid (below_block R3.out hb)
  clear hb S3 R3
  generalize decide (getV l 43 = yS) = v43 at HHD ⊢
  go_upto_region 2 with (refine wpList_store_row rfl 25 _ _ rfl u4.heap.size _ rfl rfl _ _ (heap_alloc_last _ _) (by kernel_rfl) (by rfl) (ms_one ⟨K, v34, v52, v43, 0, 0, false, emp, noEx⟩) ?_; rw [World.setRow_alloc_new])
  change Code.wp _ _ _ _ (u4.alloc (.cells (Ms.cells ⟨K, v34, v52, v43, 0, 0, false, emp, noEx⟩) 25))
  have HHE : Hid (H0 = ⟨K, v34, v52, v43, 0, 0, false, emp, noEx⟩) := HHD
  have A0 : Hid (At w (u4.alloc (.cells (Ms.cells ⟨K, v34, v52, v43, 0, 0, false, emp, noEx⟩) 25)) w.heap.size u4.heap.size ⟨K, v34, v52, v43, 0, 0, false, emp, noEx⟩) := Lib.hid
    ⟨S4.out.B.alloc S4.out.B.size _, Nat.le_refl _, (Array.getElem?_eq_some_iff.1 R4.out).1, alloc_block R4.out, heap_alloc_new _ _⟩
  have Q0 := Lib.hid (S4.out.later ((Below.refl _ _).alloc (Nat.le_refl _) (.cells (Ms.cells ⟨K, v34, v52, v43, 0, 0, false, emp, noEx⟩) 25)))
  generalize u4.alloc (.cells (Ms.cells ⟨K, v34, v52, v43, 0, 0, false, emp, noEx⟩) 25) = a0 at A0 Q0 ⊢
  rw [HHE.out] at HOF
  clear HHD HHE S4 R4 HI
  obtain ⟨p, hp⟩ : ∃ p, u4.heap.size = p := ⟨_, rfl⟩
  rw [hp] at A0 ⊢
  clear hp
  obtain ⟨y0, -, -⟩ := A0.out.cell 0
  have c0 : a0.cell? ⟨p, 0, none⟩ = some (.int .i64 K) := y0
  clear y0
  by_cases k1 : K = 1
  · have HY : Hid (Y = ⟨K, v34, v52, v43, numV l 108, 0, false, emp, noEx⟩) := Lib.hid (by rw [HOF.out, if_pos k1])
    clear HOF
    go_wp2_with fail
    refine (HN.out 108 _ Q0.out.f Q0.out.L).mono ?_
    rintro e a1 ⟨rfl, hb⟩
    have A1 := Lib.hid (A0.out.later hb)
    have Q1 := Lib.hid (Q0.out.later hb)
    clear hb c0
    generalize numV l 108 = x0 at HY ⊢
    obtain ⟨y0, f0, s0⟩ := A1.out.cell 4
    have z0 : a1.cell? ⟨p, 4, none⟩ = some (.int .i64 0) := y0
    clear y0
    have B1 := Lib.hid (A1.out.put 4 (.int .i64 x0) ⟨K, v34, v52, v43, x0, 0, false, emp, noEx⟩ rfl)
    go_upto_region 14 with fail
    generalize (a1.setCell ⟨p, 4, none⟩ (.int .i64 x0)) = u9 at B1 ⊢
    go_wp2_with (first | (refine wpList_load_mid_g (by rfl) 25 _ rfl p 0 rfl _ _ B1.out.range Tryd.underlying25 rfl (by kernel_rfl) ?_) | (refine wpList_store_row rfl 25 _ _ rfl w.heap.size _ rfl rfl _ _ B1.out.R (by kernel_rfl) (by rfl) (ms_one _) ?_))
    refine bodyPost_ret (one_end rfl w.heap.size _ _ _ _ B1.out.R rfl rfl) rfl ?_
    rw [HY.out]
    exact ⟨rfl, below_setRow B1.out.B (Nat.le_refl _) _⟩
  by_cases k2 : K = 2
  · have HY : Hid (Y = ⟨K, v34, v52, v43, 0, 0, false, getV l 112, noEx⟩) := Lib.hid (by rw [HOF.out, if_neg k1, if_pos (.inl k2)])
    clear HOF
    go_wp2_with fail
    refine (HT.out 112 _ Q0.out.f).mono ?_
    rintro e a1 ⟨rfl, hb⟩
    have A1 := Lib.hid (A0.out.later hb)
    have Q1 := Lib.hid (Q0.out.later hb)
    clear hb c0
    generalize getV l 112 = x0 at HY ⊢
    obtain ⟨y0, f0, s0⟩ := A1.out.cell 7
    have z0 : a1.cell? ⟨p, 7, none⟩ = some (.string ⟨#[]⟩) := y0
    clear y0
    have B1 := Lib.hid (A1.out.put 7 (.string x0) ⟨K, v34, v52, v43, 0, 0, false, x0, noEx⟩ rfl)
    go_upto_region 14 with fail
    generalize (a1.setCell ⟨p, 7, none⟩ (.string x0)) = u9 at B1 ⊢
    go_wp2_with (first | (refine wpList_load_mid_g (by rfl) 25 _ rfl p 0 rfl _ _ B1.out.range Tryd.underlying25 rfl (by kernel_rfl) ?_) | (refine wpList_store_row rfl 25 _ _ rfl w.heap.size _ rfl rfl _ _ B1.out.R (by kernel_rfl) (by rfl) (ms_one _) ?_))
    refine bodyPost_ret (one_end rfl w.heap.size _ _ _ _ B1.out.R rfl rfl) rfl ?_
    rw [HY.out]
    exact ⟨rfl, below_setRow B1.out.B (Nat.le_refl _) _⟩
  by_cases k3 : K = 3
  · have HY : Hid (Y = ⟨K, v34, v52, v43, 0, 0, false, getV l 112, noEx⟩) := Lib.hid (by rw [HOF.out, if_neg k1, if_pos (.inr k3)])
    clear HOF
    go_wp2_with fail
    refine (HT.out 112 _ Q0.out.f).mono ?_
    rintro e a1 ⟨rfl, hb⟩
    have A1 := Lib.hid (A0.out.later hb)
    have Q1 := Lib.hid (Q0.out.later hb)
    clear hb c0
    generalize getV l 112 = x0 at HY ⊢
    obtain ⟨y0, f0, s0⟩ := A1.out.cell 7
    have z0 : a1.cell? ⟨p, 7, none⟩ = some (.string ⟨#[]⟩) := y0
    clear y0
    have B1 := Lib.hid (A1.out.put 7 (.string x0) ⟨K, v34, v52, v43, 0, 0, false, x0, noEx⟩ rfl)
    go_upto_region 14 with fail
    generalize (a1.setCell ⟨p, 7, none⟩ (.string x0)) = u9 at B1 ⊢
    go_wp2_with (first | (refine wpList_load_mid_g (by rfl) 25 _ rfl p 0 rfl _ _ B1.out.range Tryd.underlying25 rfl (by kernel_rfl) ?_) | (refine wpList_store_row rfl 25 _ _ rfl w.heap.size _ rfl rfl _ _ B1.out.R (by kernel_rfl) (by rfl) (ms_one _) ?_))
    refine bodyPost_ret (one_end rfl w.heap.size _ _ _ _ B1.out.R rfl rfl) rfl ?_
    rw [HY.out]
    exact ⟨rfl, below_setRow B1.out.B (Nat.le_refl _) _⟩
  by_cases k4 : K = 4
  · have HY : Hid (Y = ⟨K, v34, v52, v43, numV l 7, numV l 16, false, emp, noEx⟩) := Lib.hid (by rw [HOF.out, if_neg k1, if_neg (by omega : ¬ (K = 2 ∨ K = 3)), if_pos k4])
    clear HOF
    go_wp2_with fail
    refine (HN.out 7 _ Q0.out.f Q0.out.L).mono ?_
    rintro e a1 ⟨rfl, hb⟩
    have A1 := Lib.hid (A0.out.later hb)
    have Q1 := Lib.hid (Q0.out.later hb)
    clear hb c0
    generalize numV l 7 = x0 at HY ⊢
    go_wp2_with fail
    refine (HN.out 16 _ Q1.out.f Q1.out.L).mono ?_
    rintro e a2 ⟨rfl, hb⟩
    have A2 := Lib.hid (A1.out.later hb)
    have Q2 := Lib.hid (Q1.out.later hb)
    clear hb
    generalize numV l 16 = x1 at HY ⊢
    obtain ⟨y0, f0, s0⟩ := A2.out.cell 4
    have z0 : a2.cell? ⟨p, 4, none⟩ = some (.int .i64 0) := y0
    clear y0
    have B1 := Lib.hid (A2.out.put 4 (.int .i64 x0) ⟨K, v34, v52, v43, x0, 0, false, emp, noEx⟩ rfl)
    obtain ⟨y1, f1, s1⟩ := B1.out.cell 5
    have z1 : (a2.setCell ⟨p, 4, none⟩ (.int .i64 x0)).cell? ⟨p, 5, none⟩ = some (.int .i64 0) := y1
    clear y1
    have B2 := Lib.hid (B1.out.put 5 (.int .i64 x1) ⟨K, v34, v52, v43, x0, x1, false, emp, noEx⟩ rfl)
    go_upto_region 14 with fail
    generalize ((a2.setCell ⟨p, 4, none⟩ (.int .i64 x0)).setCell ⟨p, 5, none⟩ (.int .i64 x1)) = u9 at B2 ⊢
    go_wp2_with (first | (refine wpList_load_mid_g (by rfl) 25 _ rfl p 0 rfl _ _ B2.out.range Tryd.underlying25 rfl (by kernel_rfl) ?_) | (refine wpList_store_row rfl 25 _ _ rfl w.heap.size _ rfl rfl _ _ B2.out.R (by kernel_rfl) (by rfl) (ms_one _) ?_))
    refine bodyPost_ret (one_end rfl w.heap.size _ _ _ _ B2.out.R rfl rfl) rfl ?_
    rw [HY.out]
    exact ⟨rfl, below_setRow B2.out.B (Nat.le_refl _) _⟩
  by_cases k5 : K = 5
  · have HY : Hid (Y = ⟨K, v34, v52, v43, numV l 36, 0, decide (getV l 123 = yS), emp, noEx⟩) := Lib.hid (by rw [HOF.out, if_neg k1, if_neg (by omega : ¬ (K = 2 ∨ K = 3)), if_neg k4, if_pos k5])
    clear HOF
    go_wp2_with fail
    refine (HN.out 36 _ Q0.out.f Q0.out.L).mono ?_
    rintro e a1 ⟨rfl, hb⟩
    have A1 := Lib.hid (A0.out.later hb)
    have Q1 := Lib.hid (Q0.out.later hb)
    clear hb c0
    generalize numV l 36 = x0 at HY ⊢
    go_wp2_with fail
    refine (HG.out 123 _ Q1.out.f).mono ?_
    rintro e a2 ⟨rfl, hb⟩
    have A2 := Lib.hid (A1.out.later hb)
    have Q2 := Lib.hid (Q1.out.later hb)
    clear hb
    generalize decide (getV l 123 = yS) = x1 at HY ⊢
    obtain ⟨y0, f0, s0⟩ := A2.out.cell 4
    have z0 : a2.cell? ⟨p, 4, none⟩ = some (.int .i64 0) := y0
    clear y0
    have B1 := Lib.hid (A2.out.put 4 (.int .i64 x0) ⟨K, v34, v52, v43, x0, 0, false, emp, noEx⟩ rfl)
    obtain ⟨y1, f1, s1⟩ := B1.out.cell 6
    have z1 : (a2.setCell ⟨p, 4, none⟩ (.int .i64 x0)).cell? ⟨p, 6, none⟩ = some (.bool false) := y1
    clear y1
    have B2 := Lib.hid (B1.out.put 6 (.bool x1) ⟨K, v34, v52, v43, x0, 0, x1, emp, noEx⟩ rfl)
    go_upto_region 14 with fail
    generalize ((a2.setCell ⟨p, 4, none⟩ (.int .i64 x0)).setCell ⟨p, 6, none⟩ (.bool x1)) = u9 at B2 ⊢
    go_wp2_with (first | (refine wpList_load_mid_g (by rfl) 25 _ rfl p 0 rfl _ _ B2.out.range Tryd.underlying25 rfl (by kernel_rfl) ?_) | (refine wpList_store_row rfl 25 _ _ rfl w.heap.size _ rfl rfl _ _ B2.out.R (by kernel_rfl) (by rfl) (ms_one _) ?_))
    refine bodyPost_ret (one_end rfl w.heap.size _ _ _ _ B2.out.R rfl rfl) rfl ?_
    rw [HY.out]
    exact ⟨rfl, below_setRow B2.out.B (Nat.le_refl _) _⟩
  by_cases k7 : K = 7
  · have HY : Hid (Y = ⟨K, v34, v52, v43, 0, 0, false, emp, ofEx l⟩) := Lib.hid (by rw [HOF.out, if_neg k1, if_neg (by omega : ¬ (K = 2 ∨ K = 3)), if_neg k4, if_neg k5, if_pos k7])
    clear HOF
    go_wp2_with fail
    refine (HXX.out _ Q0.out.f Q0.out.L).mono ?_
    rintro e a1 ⟨rfl, hb⟩
    have A1 := Lib.hid (A0.out.later hb)
    have Q1 := Lib.hid (Q0.out.later hb)
    clear hb c0
    generalize ofEx l = x0 at HY ⊢
    have HTH := Lib.hid A1.out.there
    have B1 := Lib.hid (A1.out.putExec x0)
    go_upto_region 14 with (refine wpList_store_mid rfl 23 _ _ rfl p 8 _ rfl rfl HTH.out (by kernel_rfl) (ex_one x0) ?_)
    generalize a1.setCells p 8 x0.cells.toList = u9 at B1 ⊢
    go_wp2_with (first | (refine wpList_load_mid_g (by rfl) 25 _ rfl p 0 rfl _ _ B1.out.range Tryd.underlying25 rfl (by kernel_rfl) ?_) | (refine wpList_store_row rfl 25 _ _ rfl w.heap.size _ rfl rfl _ _ B1.out.R (by kernel_rfl) (by rfl) (ms_one _) ?_))
    refine bodyPost_ret (one_end rfl w.heap.size _ _ _ _ B1.out.R rfl rfl) rfl ?_
    rw [HY.out]
    exact ⟨rfl, below_setRow B1.out.B (Nat.le_refl _) _⟩
  · have HY : Hid (Y = ⟨K, v34, v52, v43, 0, 0, false, emp, noEx⟩) := Lib.hid (by rw [HOF.out, if_neg k1, if_neg (by omega : ¬ (K = 2 ∨ K = 3)), if_neg k4, if_neg k5, if_neg k7])
    clear HOF
    go_upto_region 14 with fail
    go_wp2_with (first | (refine wpList_load_mid_g (by rfl) 25 _ rfl p 0 rfl _ _ A0.out.range Tryd.underlying25 rfl (by kernel_rfl) ?_) | (refine wpList_store_row rfl 25 _ _ rfl w.heap.size _ rfl rfl _ _ A0.out.R (by kernel_rfl) (by rfl) (ms_one _) ?_))
    refine bodyPost_ret (one_end rfl w.heap.size _ _ _ _ A0.out.R rfl rfl) rfl ?_
    rw [HY.out]
    exact ⟨rfl, below_setRow A0.out.B (Nat.le_refl _) _⟩

end Msg
end Go.Proofs.YtddblaiahgjbaaaDoor
