/-
  The program's fields of layer 5: put one behind the other.
-/
import Derived.Test.YtddblaiahgjbaaaDoorMsgPa
import Derived.Test.YtddblaiahgjbaaaDoorFldC
import Derived.Test.YtddblaiahgjbaaaDoorNumSh
namespace Go.Proofs.YtddblaiahgjbaaaDoor
open Go.RowKit
namespace Msg
open Num
open Fld (F infoF)

/-- a list of fields that grows: its variable's cell, and its row behind it -/
structure Fs (w wi : World) (g : Nat) (l : List F) : Prop where
  B : Below w.heap.size w wi
  lg : w.heap.size ≤ g
  V : ∃ v, wi.heap[g]? = some (.cells #[v] 43 (0, 0)) ∧ OwnE encF 38 wi (g + 1) v l
/-- what is neither the variable nor a row of fields stands -/
def KpX (g : Nat) (w w' : World) : Prop := ∀ (q : Nat) (cs : Array Value) (e : TypeId) (m : Nat × Nat), e ≠ 38 → q ≠ g → w.heap[q]? = some (.cells cs e m) → w'.heap[q]? = some (.cells cs e m)
theorem KpX.of_below {g : Nat} {w w' : World} (h : Below w.heap.size w w') : KpX g w w' := fun _ _ _ _ _ _ hq => below_block hq h
theorem KpX.trans {g : Nat} {a b c : World} (h : KpX g a b) (k : KpX g b c) : KpX g a c := fun q cs e m hn hg hq => k q cs e m hn hg (h q cs e m hn hg hq)
theorem Fs.later {w wi w' : World} {g : Nat} {l : List F} (h : Fs w wi g l) (hb : Below wi.heap.size wi w') : Fs w w' g l := by
  obtain ⟨B, lg, v, hv, ho⟩ := h
  exact ⟨B.trans (hb.mono B.size), lg, v, below_block hv hb, ho.kept hb⟩
theorem own_set {w : World} {base g i : Nat} {v u : Value} {l : List F} (h : OwnE encF 38 w base v l) (hg : g < base) : OwnE encF 38 (w.setCell ⟨g, i, none⟩ u) base v l := by
  have h2 := h
  unfold OwnE at h ⊢
  refine h.kept (row := some g) ⟨rfl, rfl, rfl, by simp [World.setCell], fun j _ hj => heap_setCell_other w _ j u (fun e => hj (by rw [e]))⟩ ?_
  rcases h2.2 with ⟨rfl, _⟩ | ⟨g', cap, cur, rfl, hb, _⟩
  · exact .inl rfl
  · refine .inr (fun e => ?_)
    simp [Value.ownBlock] at e
    omega
def PutPost (w wi : World) (g : Nat) (l : List F) (e : Ending) (w' : World) : Prop := e = .returned (.tuple #[]) ∧ Fs w w' g l ∧ KpX g wi w'

set_option maxRecDepth 100000 in
set_option maxHeartbeats 1000000 in
theorem putText_any (t : Int) (s : ByteArray) (w wi : World) (g : Nat) (l : List F) (h : Fs w wi g l) (hlen : l.length ≤ 100) :
    Calls Tryd.prog 25 #[.pointer (some ⟨g, 0, none⟩), .int .i64 t, .string s] wi (PutPost w wi g (l ++ [⟨t, s⟩])) := by
  unfold PutPost
  obtain ⟨B, lg, v, hv, ho⟩ := h
  obtain ⟨a, cap, rfl, _⟩ := ho.row
  have c0 : wi.cell? ⟨g, 0, none⟩ = some (.slice a l.length cap) := cell_at hv rfl
  have hgs : g < wi.heap.size := (Array.getElem?_eq_some_iff.1 hv).1
  obtain ⟨i0, hi0, hz0, hz1, hz2⟩ := info_parts infoF
  have HI0 := Lib.hid hi0
  have HZ0 := Lib.hid hz0
  have HZ1 := Lib.hid hz1
  have HZ2 := Lib.hid hz2
  have HV := Lib.hid hv
  have HO := Lib.hid ho
  have HB := Lib.hid B
  have HG := Lib.hid hgs
  have HLG := Lib.hid lg
  clear hi0 hz0 hz1 hz2 hv ho B hgs lg
  go_enter Tryd.func25, Tryd.ntmps25
  go_wp2_with (at_builtin; refine wpList_append_rowk encF (by decide) rfl (.tmp 9) (.tmp 13) _ rfl (g + 1) 38 i0 _ 24 Tryd.underlying43 HI0.out HZ0.out HZ1.out HZ2.out (by rfl) _ l rfl (HO.out.kept ((Below.refl _ _).alloc (Nat.le_refl _) _)) _ _ _ [⟨t, s⟩] rfl (by rfl) (one_row encF _ 38 ⟨t, s⟩ _ rfl) (by simp only [List.length_cons, List.length_nil, maxLen]; omega) (by simp only [List.length_cons, List.length_nil]; omega) (by have := HG.out; simp; omega) ?_; intro v2 w2 hown2 hb2 hk2
               obtain ⟨a2, cap2, hv2, _⟩ := hown2.row
               generalize (l ++ [(⟨t, s⟩ : F)]).length = n2 at hv2
               subst hv2
               have HO2 := Lib.hid hown2
               have HB2 : Hid (Below w.heap.size w w2) := Lib.hid ((HB.out.alloc HB.out.size _).trans (hb2.mono (Nat.le_trans HLG.out (Nat.le_succ _))))
               have HV2 : Hid (w2.heap[g]? = some (.cells #[.slice a l.length cap] 43 (0, 0))) := Lib.hid ((hb2.block g (Nat.lt_succ_self g)).trans (alloc_block HV.out))
               have HK2 : Hid (KpX g wi w2) := Lib.hid (KpX.trans (KpX.of_below ((Below.refl _ _).alloc (Nat.le_refl _) _)) (fun q cs e m hn _ hq => hk2 q cs e m hn hq))
               have x0 : w2.cell? ⟨g, 0, none⟩ = some (.slice a l.length cap) := cell_at HV2.out rfl
               have x1 : w2.frozen? ⟨g, 0, none⟩ = false := frozen_of_row w2 _ 0 _ _ HV2.out
               have x2 : g < w2.heap.size := (Array.getElem?_eq_some_iff.1 HV2.out).1
               clear hown2 hb2 hk2 c0)
  go_end0
  refine ⟨rfl, ⟨HB2.out.setCell HLG.out _, HLG.out, .slice a2 n2 cap2, heap_setCell_same w2 _ 0 _ _ _ HV2.out, own_set HO2.out (Nat.lt_succ_self g)⟩, fun q cs e m hn hq hc => ?_⟩
  rw [heap_setCell_other w2 _ q _ (fun e => hq e)]
  exact HK2.out q cs e m hn hq hc
theorem putNumber_any (t n : Int) (w wi : World) (g : Nat) (l : List F) (h : Fs w wi g l) (hlen : l.length ≤ 100) (hl : Laid wi) :
    Calls Tryd.prog 26 #[.pointer (some ⟨g, 0, none⟩), .int .i64 t, .int .i64 n] wi (PutPost w wi g (l ++ [numF t n])) := by
  have H := Lib.hid h
  have HL := Lib.hid hl
  clear h hl
  go_enter Tryd.func26, Tryd.ntmps26
  go_wp2_with fail
  refine (Num.show_any n _ HL.out).mono ?_
  rintro e w1 ⟨rfl, hb1⟩
  have H1 := Lib.hid (H.out.later hb1)
  have K1 : Hid (KpX g wi w1) := Lib.hid (KpX.of_below hb1)
  clear hb1
  go_wp2_with fail
  refine (putText_any t (showS n) w _ g l H1.out hlen).mono ?_
  rintro e w2 ⟨rfl, h2, k2⟩
  go_wp2_with fail
  go_end0
  exact ⟨rfl, h2, K1.out.trans k2⟩
theorem putFlag_any (t : Int) (on : Bool) (w wi : World) (g : Nat) (l : List F) (h : Fs w wi g l) (hlen : l.length ≤ 100) :
    Calls Tryd.prog 27 #[.pointer (some ⟨g, 0, none⟩), .int .i64 t, .bool on] wi (PutPost w wi g (l ++ optF on ⟨t, yS⟩)) := by
  have H := Lib.hid h
  clear h
  cases on
  · go_enter Tryd.func27, Tryd.ntmps27
    go_wp2_with fail
    go_end0
    refine ⟨rfl, ?_, KpX.of_below (Below.refl _ _)⟩
    rw [show optF false ⟨t, yS⟩ = [] from rfl, List.append_nil]
    exact H.out
  · go_enter Tryd.func27, Tryd.ntmps27
    go_wp2_with fail
    refine (putText_any t yS w _ g l H.out hlen).mono ?_
    rintro e w2 ⟨rfl, h2, k2⟩
    go_wp2_with fail
    go_end0
    exact ⟨rfl, h2, k2⟩
theorem putThere_any (t : Int) (s : ByteArray) (w wi : World) (g : Nat) (l : List F) (h : Fs w wi g l) (hlen : l.length ≤ 100) :
    Calls Tryd.prog 28 #[.pointer (some ⟨g, 0, none⟩), .int .i64 t, .string s] wi (PutPost w wi g (l ++ optF (decide (s ≠ emp)) ⟨t, s⟩)) := by
  have H := Lib.hid h
  have he := empty_is s
  clear h
  by_cases hs : s = emp
  · have HE : Hid (l ++ optF (decide (s ≠ emp)) ⟨t, s⟩ = l) := Lib.hid (by rw [decide_eq_false (fun h => h hs)]; exact List.append_nil l)
    rw [HE.out]
    rw [decide_eq_true hs] at he
    clear hs
    go_enter Tryd.func28, Tryd.ntmps28
    go_wp2_with fail
    go_end0
    exact ⟨rfl, H.out, KpX.of_below (Below.refl _ _)⟩
  · have HE : Hid (l ++ optF (decide (s ≠ emp)) ⟨t, s⟩ = l ++ [⟨t, s⟩]) := Lib.hid (by rw [decide_eq_true hs]; rfl)
    rw [HE.out]
    rw [decide_eq_false hs] at he
    clear hs
    go_enter Tryd.func28, Tryd.ntmps28
    go_wp2_with fail
    refine (putText_any t s w _ g l H.out hlen).mono ?_
    rintro e w2 ⟨rfl, h2, k2⟩
    go_wp2_with fail
    go_end0
    exact ⟨rfl, h2, k2⟩

/-- the list, so many at most, and an execution's own cells beside it -/
structure StX (w u : World) (g : Nat) (l : List F) (n : Nat) (b : Nat) (x : Ex) : Prop where
  f : Fs w u g l
  n : l.length ≤ n
  X : u.heap[b]? = some (.cells x.cells 23 (0, 0))
  L : Laid u
theorem laid_of {w u : World} {g : Nat} {l : List F} (hl : Laid w) (h : Fs w u g l) : Laid u := hl.below h.B
theorem StX.step {w u u' : World} {g : Nat} {l l' : List F} {n b : Nat} {x : Ex} (h : StX w u g l n b x) (hl : Laid w) (hb : b ≠ g) {e : Ending} (p : PutPost w u g l' e u') (hn : l'.length ≤ l.length + 1) : StX w u' g l' (n + 1) b x :=
  ⟨p.2.1, Nat.le_trans hn (Nat.succ_le_succ h.n), p.2.2 _ _ _ _ (by decide) hb h.X, laid_of hl p.2.1⟩
theorem len_one (l : List F) (f : F) : (l ++ [f]).length ≤ l.length + 1 := by simp
theorem len_opt (l : List F) (b : Bool) (f : F) : (l ++ optF b f).length ≤ l.length + 1 := by
  rw [List.length_append]
  have := optF_le b f
  omega

set_option maxRecDepth 100000 in
set_option maxHeartbeats 4000000 in
theorem putExec_any (x : Ex) (w wi : World) (g : Nat) (l : List F) (h : Fs w wi g l) (hlen : l.length ≤ 80) (hl : Laid w) :
    Calls Tryd.prog 29 #[.pointer (some ⟨g, 0, none⟩), .agg x.cells] wi (PutPost w wi g (l ++ execF x)) := by
  have hgs : g ≠ wi.heap.size := by
    obtain ⟨_, _, v, hv, _⟩ := h
    exact Nat.ne_of_lt (Array.getElem?_eq_some_iff.1 hv).1
  have hbg : wi.heap.size ≠ g := fun e => hgs e.symm
  have HL := Lib.hid hl
  have S0 : Hid (StX w (wi.alloc (.cells x.cells 23)) g l 80 wi.heap.size x) := Lib.hid
    ⟨h.later ((Below.refl _ _).alloc (Nat.le_refl _) _), hlen, heap_alloc_new _ _, hl.below ((h.later ((Below.refl _ _).alloc (Nat.le_refl _) _)).B)⟩
  have HK0 : Hid (∀ W, KpX g (wi.alloc (.cells x.cells 23)) W → KpX g wi W) := Lib.hid (fun W hk => (KpX.of_below ((Below.refl _ _).alloc (Nat.le_refl _) _)).trans hk)
  clear h hl hgs
  go_enter Tryd.func29, Tryd.ntmps29
  go_upto_region 1 with fail
  generalize wi.alloc (.cells x.cells 23) = u0 at S0 HK0 ⊢
  have d0 : u0.cell? ⟨wi.heap.size, 0, none⟩ = some (.string x.id) := cell_at S0.out.X rfl
  go_wp2_with fail
  refine (putText_any 17 x.id w _ g l S0.out.f (Nat.le_trans S0.out.n (by omega))).mono ?_
  intro e u1 hp
  obtain rfl := hp.1
  have HK1 : Hid (KpX g u0 u1) := Lib.hid hp.2.2
  have HS := S0.out.step HL.out hbg hp (len_one _ _)
  obtain ⟨L1, hL1⟩ : ∃ L, l ++ [⟨17, x.id⟩] = L := ⟨_, rfl⟩
  rw [hL1] at HS
  have S1 := Lib.hid HS
  have HE1 := Lib.hid hL1
  clear HS hp hL1 d0
  have d1 : u1.cell? ⟨wi.heap.size, 1, none⟩ = some (.string x.ref) := cell_at S1.out.X rfl
  go_wp2_with fail
  refine (putThere_any 19 x.ref w _ g L1 S1.out.f (Nat.le_trans S1.out.n (by omega))).mono ?_
  intro e u2 hp
  obtain rfl := hp.1
  have HK2 : Hid (KpX g u1 u2) := Lib.hid hp.2.2
  have HS := S1.out.step HL.out hbg hp (len_opt _ _ _)
  obtain ⟨L2, hL2⟩ : ∃ L, L1 ++ optF (decide (x.ref ≠ emp)) ⟨19, x.ref⟩ = L := ⟨_, rfl⟩
  rw [hL2] at HS
  have S2 := Lib.hid HS
  have HE2 := Lib.hid hL2
  clear HS hp hL2 d1
  have d2 : u2.cell? ⟨wi.heap.size, 2, none⟩ = some (.string x.order) := cell_at S2.out.X rfl
  go_wp2_with fail
  refine (putText_any 11 x.order w _ g L2 S2.out.f (Nat.le_trans S2.out.n (by omega))).mono ?_
  intro e u3 hp
  obtain rfl := hp.1
  have HK3 : Hid (KpX g u2 u3) := Lib.hid hp.2.2
  have HS := S2.out.step HL.out hbg hp (len_one _ _)
  obtain ⟨L3, hL3⟩ : ∃ L, L2 ++ [⟨11, x.order⟩] = L := ⟨_, rfl⟩
  rw [hL3] at HS
  have S3 := Lib.hid HS
  have HE3 := Lib.hid hL3
  clear HS hp hL3 d2
  have d3 : u3.cell? ⟨wi.heap.size, 3, none⟩ = some (.string x.account) := cell_at S3.out.X rfl
  go_wp2_with fail
  refine (putText_any 1 x.account w _ g L3 S3.out.f (Nat.le_trans S3.out.n (by omega))).mono ?_
  intro e u4 hp
  obtain rfl := hp.1
  have HK4 : Hid (KpX g u3 u4) := Lib.hid hp.2.2
  have HS := S3.out.step HL.out hbg hp (len_one _ _)
  obtain ⟨L4, hL4⟩ : ∃ L, L3 ++ [⟨1, x.account⟩] = L := ⟨_, rfl⟩
  rw [hL4] at HS
  have S4 := Lib.hid HS
  have HE4 := Lib.hid hL4
  clear HS hp hL4 d3
  have d4 : u4.cell? ⟨wi.heap.size, 4, none⟩ = some (.string x.symbol) := cell_at S4.out.X rfl
  go_wp2_with fail
  refine (putText_any 55 x.symbol w _ g L4 S4.out.f (Nat.le_trans S4.out.n (by omega))).mono ?_
  intro e u5 hp
  obtain rfl := hp.1
  have HK5 : Hid (KpX g u4 u5) := Lib.hid hp.2.2
  have HS := S4.out.step HL.out hbg hp (len_one _ _)
  obtain ⟨L5, hL5⟩ : ∃ L, L4 ++ [⟨55, x.symbol⟩] = L := ⟨_, rfl⟩
  rw [hL5] at HS
  have S5 := Lib.hid HS
  have HE5 := Lib.hid hL5
  clear HS hp hL5 d4
  have d5 : u5.cell? ⟨wi.heap.size, 6, none⟩ = some (.bool x.buy) := cell_at S5.out.X rfl
  obtain ⟨sd, hsd⟩ : ∃ sd, showS (if x.buy = true then 1 else 2) = sd := ⟨_, rfl⟩
  have HSD := Lib.hid hsd
  have HS1 : Hid (x.buy = true → sd = ⟨#[49]⟩) := Lib.hid (fun e => by rw [← hsd, e]; decide +kernel)
  have HS2 : Hid (x.buy = false → sd = ⟨#[50]⟩) := Lib.hid (fun e => by rw [← hsd, e]; decide +kernel)
  clear hsd
  have HPS := Lib.hid (fun W (h : Fs w W g L5) => putText_any 54 sd w W g L5 h (Nat.le_trans S5.out.n (by omega)))
  go_upto_if 26 with fail
  go_cut [4] (fun s4 wx => s4 = .string sd ∧ wx = u5)
  case first =>
    cases hby : x.buy
    · rw [hby] at d5
      have e := HS2.out hby
      clear hby
      go_wp2_with fail
      go_meet
      exact ⟨by rw [e], rfl⟩
    · rw [hby] at d5
      have e := HS1.out hby
      clear hby
      go_wp2_with fail
      go_meet
      exact ⟨by rw [e], rfl⟩
  case rest =>
  obtain ⟨rfl, rfl⟩ := hcut
  go_wp2_with fail
  refine (HPS.out _ S5.out.f).mono ?_
  intro e u6 hp
  obtain rfl := hp.1
  have HK6 : Hid (KpX g wc u6) := Lib.hid hp.2.2
  have HS := S5.out.step HL.out hbg hp (len_one _ _)
  obtain ⟨L6, hL6⟩ : ∃ L, L5 ++ [⟨54, sd⟩] = L := ⟨_, rfl⟩
  rw [hL6] at HS
  have S6 := Lib.hid HS
  have HE6 := Lib.hid hL6
  clear HS hp hL6 d5
  have d6 : u6.cell? ⟨wi.heap.size, 5, none⟩ = some (.int .i64 x.kind) := cell_at S6.out.X rfl
  go_wp2_with fail
  refine (putNumber_any 150 x.kind w _ g L6 S6.out.f (Nat.le_trans S6.out.n (by omega)) S6.out.L).mono ?_
  intro e u7 hp
  obtain rfl := hp.1
  have HK7 : Hid (KpX g u6 u7) := Lib.hid hp.2.2
  have HS := S6.out.step HL.out hbg hp (len_one _ _)
  obtain ⟨L7, hL7⟩ : ∃ L, L6 ++ [(numF 150 x.kind)] = L := ⟨_, rfl⟩
  rw [hL7] at HS
  have S7 := Lib.hid HS
  have HE7 := Lib.hid hL7
  clear HS hp hL7 d6
  have d7 : u7.cell? ⟨wi.heap.size, 7, none⟩ = some (.int .i64 x.qty) := cell_at S7.out.X rfl
  go_wp2_with fail
  refine (putNumber_any 32 x.qty w _ g L7 S7.out.f (Nat.le_trans S7.out.n (by omega)) S7.out.L).mono ?_
  intro e u8 hp
  obtain rfl := hp.1
  have HK8 : Hid (KpX g u7 u8) := Lib.hid hp.2.2
  have HS := S7.out.step HL.out hbg hp (len_one _ _)
  obtain ⟨L8, hL8⟩ : ∃ L, L7 ++ [(numF 32 x.qty)] = L := ⟨_, rfl⟩
  rw [hL8] at HS
  have S8 := Lib.hid HS
  have HE8 := Lib.hid hL8
  clear HS hp hL8 d7
  have d8 : u8.cell? ⟨wi.heap.size, 8, none⟩ = some (.int .i64 x.price) := cell_at S8.out.X rfl
  go_wp2_with fail
  refine (putNumber_any 31 x.price w _ g L8 S8.out.f (Nat.le_trans S8.out.n (by omega)) S8.out.L).mono ?_
  intro e u9 hp
  obtain rfl := hp.1
  have HK9 : Hid (KpX g u8 u9) := Lib.hid hp.2.2
  have HS := S8.out.step HL.out hbg hp (len_one _ _)
  obtain ⟨L9, hL9⟩ : ∃ L, L8 ++ [(numF 31 x.price)] = L := ⟨_, rfl⟩
  rw [hL9] at HS
  have S9 := Lib.hid HS
  have HE9 := Lib.hid hL9
  clear HS hp hL9 d8
  have d9 : u9.cell? ⟨wi.heap.size, 9, none⟩ = some (.int .i64 x.time) := cell_at S9.out.X rfl
  go_wp2_with fail
  refine (putNumber_any 60 x.time w _ g L9 S9.out.f (Nat.le_trans S9.out.n (by omega)) S9.out.L).mono ?_
  intro e u10 hp
  obtain rfl := hp.1
  have HK10 : Hid (KpX g u9 u10) := Lib.hid hp.2.2
  have HS := S9.out.step HL.out hbg hp (len_one _ _)
  obtain ⟨L10, hL10⟩ : ∃ L, L9 ++ [(numF 60 x.time)] = L := ⟨_, rfl⟩
  rw [hL10] at HS
  have S10 := Lib.hid HS
  have HE10 := Lib.hid hL10
  clear HS hp hL10 d9
  go_wp2_with fail
  go_end0
  refine ⟨rfl, ?_, HK0.out _ (HK1.out.trans (HK2.out.trans (HK3.out.trans (HK4.out.trans (HK5.out.trans (HK6.out.trans (HK7.out.trans (HK8.out.trans (HK9.out.trans HK10.out)))))))))⟩
  have e : l ++ execF x = L10 := by
    rw [← HE10.out, ← HE9.out, ← HE8.out, ← HE7.out, ← HE6.out, ← HE5.out, ← HE4.out, ← HE3.out, ← HE2.out, ← HE1.out]
    unfold execF
    rw [← HSD.out]
    simp only [List.append_assoc, List.cons_append, List.nil_append]
    rfl
  rw [e]
  exact S10.out.f

end Msg
end Go.Proofs.YtddblaiahgjbaaaDoor
