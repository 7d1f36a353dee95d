/-
  The program's layer 6: take: what goes out at Held's head.
-/
import Derived.Test.YtnldllmlfckecaaRsqPa
import Derived.Test.YtnldllmlfckecaaRsqF
import Derived.Deep.LoopGhost
namespace Go.Proofs.Ytnldllmlfckecaa
open Go.RowKit
namespace Rsq
open Num
open Msg (I64)

/-- what take tells: the line, and what is told -/
def GotT (w : World) (r : Li × List It) (e : Ending) (w' : World) : Prop :=
  ∃ a c b d, e = .returned (.tuple #[.agg #[.int .i64 r.1.next, .slice a r.1.held.length c], .slice b r.2.length d]) ∧ RowAt encI w' a c r.1.held ∧ RowAt encI w' b d r.2 ∧ Below w.heap.size w w'
theorem line_end2 {fn : Func} (hfn : fn.results = #[.cell 4 24, .tmp 5]) (g : Nat) (W : World) (cs old : Array Value) (tmps : Array Value) (hw : W.heap[g]? = some (.cells old 24 (0, 0))) (hcs : cs.size = 2)
    (ht : tmps.getD 4 undef = .pointer (some ⟨g, 0, none⟩)) : (results fn tmps).run Try.prog (W.setRow g cs) = .ok (.tuple #[.agg cs, tmps.getD 5 undef]) (W.setRow g cs) := by
  have hl := run_loadVar_mid (P := Try.prog) (W.setRow g cs) g 0 24 cs.toList _ (block_range (setRow_heap W g old cs _ _ hw)) Try.underlying24 rfl (by rw [Array.length_toList, hcs]; kernel_rfl)
  rw [Array.toArray_toList] at hl
  simp only [results, hfn]
  simp [Sem.run_bind, Result.andThen] at ht ⊢
  simp [ht, asAddr, hl]
/-- the end: the line, as it stands, and what is told -/
theorem Lp.told2 {w W : World} {B : Nat} {XA ZL : Array Value} {nx : Int} {ha hb : Option Addr} {q c p d : Nat} {hs os : List It} {r : Li × List It} (h : Lp w W B #[.int .i64 nx, .slice ha q c] XA ZL)
    (h1 : RowAt encI w ha c hs) (hq : hs.length = q) (h2 : OwnE encI 30 W B (.slice hb p d) os) (hr : r = (⟨nx, hs⟩, os)) (cs : Array Value) :
    GotT w r (.returned (.tuple #[.agg #[.int .i64 nx, .slice ha q c], .slice hb p d])) (W.setRow (w.heap.size + 1 + 1) cs) := by
  have hlt : w.heap.size + 1 + 1 < B := by have := h.t; omega
  have hb1 := below_setRow (B := w.heap.size) (g := w.heap.size + 1 + 1) h.b (by omega) cs
  have g2 := (h2.setRow cs hlt).at
  obtain ⟨rfl, g2⟩ := g2
  subst hr hq
  exact ⟨ha, c, hb, d, rfl, h1.later hb1, g2, hb1⟩
/-- Held without its first item -/
theorem row_tail {w : World} {b off cap : Nat} {y : It} {r : List It} (h : RowAt encI w (some ⟨b, off, none⟩) cap (y :: r)) : RowAt encI w (some ⟨b, off + 20, none⟩) (cap - 1) r := by
  rcases h with ⟨h, _⟩ | ⟨z, hz, hl, hc⟩
  · cases h
  · obtain rfl := Option.some.inj hz
    rw [List.length_cons] at hl
    refine .inr ⟨_, rfl, by omega, fun j u hj => ?_⟩
    have h1 := hc (20 + j) u (by
      rw [List.flatMap_cons, List.getElem?_append_right (by rw [encI.len]; exact Nat.le_add_right _ _), encI.len]
      show (r.flatMap encI.of)[20 + j - 20]? = some u
      rw [Nat.add_sub_cancel_left]
      exact hj)
    rw [add_none] at h1 ⊢
    rw [Nat.add_assoc]
    exact h1

set_option maxRecDepth 100000 in
set_option maxHeartbeats 16000000 in
theorem take_any (l : Li) (x : It) (LA XA : Array Value) (a : Option Addr) (cap n : Nat) (hLA : #[.int .i64 l.next, .slice a n cap] = LA) (hXA : x.arr = XA) (hn : l.held.length = n) (hn9 : n ≤ 1000) (w : World) (hr : RowAt encI w a cap l.held) :
    Calls Try.prog 18 #[.agg LA, .agg XA] w (GotT w (takeL l x)) := by
  have HR := Lib.hid hr
  have HN := Lib.hid hn
  have hiX : (Try.prog.info? 30).map (·.size) = some XA.size := by rw [← hXA]; kernel_rfl
  have HLA := Lib.hid hLA
  have HXF : Hid (20 = XA.size ∧ XA.toList = encI.of x) := Lib.hid (by rw [← hXA]; exact ⟨rfl, rfl⟩)
  have HXV : Hid (XA[0]? = some (.int .i64 x.fr) ∧ XA[1]? = some (.int .i64 x.to)) := Lib.hid (by rw [← hXA]; exact ⟨rfl, rfl⟩)
  have hxs : XA.size = 20 := HXF.out.1.symm
  clear hr hn hLA hXA
  have e1 : (w.alloc (.cells LA 24)).heap.size = w.heap.size + 1 := by simp
  have e2 : ((w.alloc (.cells LA 24)).alloc (.cells XA 30)).heap.size = w.heap.size + 2 := by simp
  obtain ⟨ZL, hZL⟩ : ∃ Z : Array Value, #[.int .i64 0, .slice none 0 0] = Z := ⟨_, rfl⟩
  have HB0 : Hid (Below w.heap.size w (((w.alloc (.cells LA 24)).alloc (.cells XA 30)).alloc (.cells ZL 24))) := Lib.hid ((((Below.refl _ _).alloc (Nat.le_refl _) _).alloc (by rw [e1]; omega) _).alloc (by rw [e2]; omega) _)
  have HX0 : Hid ((((w.alloc (.cells LA 24)).alloc (.cells XA 30)).alloc (.cells ZL 24)).heap[w.heap.size]? = some (.cells LA 24 (0, 0)) ∧
      (((w.alloc (.cells LA 24)).alloc (.cells XA 30)).alloc (.cells ZL 24)).heap[w.heap.size + 1]? = some (.cells XA 30 (0, 0)) ∧
      (((w.alloc (.cells LA 24)).alloc (.cells XA 30)).alloc (.cells ZL 24)).heap[w.heap.size + 2]? = some (.cells ZL 24 (0, 0))) := Lib.hid
    ⟨alloc_block (alloc_block (heap_alloc_new w _)), alloc_block (by have h := heap_alloc_new (w.alloc (.cells LA 24)) (.cells XA 30); rwa [e1] at h), by
      have h := heap_alloc_new ((w.alloc (.cells LA 24)).alloc (.cells XA 30)) (.cells ZL 24)
      rwa [e2] at h⟩
  have HS0 : Hid (w.heap.size + 3 ≤ (((w.alloc (.cells LA 24)).alloc (.cells XA 30)).alloc (.cells ZL 24)).heap.size) := Lib.hid (by simp)
  clear e1 e2
  go_enter Try.func18, Try.ntmps18
  go_upto_region 1 with fail
  try rw [hZL]
  generalize ((w.alloc (.cells LA 24)).alloc (.cells XA 30)).alloc (.cells ZL 24) = w0 at HB0 HX0 HS0 ⊢
  have HSZ3 : Hid (ZL.size = 2) := Lib.hid (by rw [← hZL]; rfl)
  clear hZL
  have S0 : Hid (Lp w w0 w0.heap.size #[.int .i64 l.next, .slice a n cap] XA ZL) := Lib.hid ⟨HB0.out, by rw [HLA.out]; exact HX0.out.1, HX0.out.2.1, HX0.out.2.2, Nat.le_refl _, HS0.out⟩
  clear HB0 HX0 HS0
  go_upto_region 2 with (refine wpList_load_arr_g (by rfl) 30 _ rfl (w.heap.size + 1) 0 rfl XA _ (block_range S0.out.x) Try.underlying30 rfl hiX ?_)
  rw [fill_all (k := 20) (Y := XA) rfl hxs]
  have HO3 : Hid (OwnE encI 30 (w0.alloc (.cells XA 30)) w0.heap.size (.slice (some ⟨w0.heap.size, 0, none⟩) 1 1) [x]) := Lib.hid (row_own encI w0 30 [x] XA (by rw [HXF.out.2]; simp) 1 rfl (by simp [maxLen]) w0.heap.size (Nat.le_refl _))
  have S3 : Hid (Lp w (w0.alloc (.cells XA 30)) w0.heap.size #[.int .i64 l.next, .slice a n cap] XA ZL) := Lib.hid (S0.out.later ((Below.refl _ w0).alloc (Nat.le_refl _) _))
  generalize (.slice (some ⟨w0.heap.size, 0, none⟩) 1 1 : Value) = ov at HO3 ⊢
  generalize hw3 : w0.alloc (.cells XA 30) = w3 at HO3 S3 ⊢
  clear hw3 S0
  have k3 : w3.cell? ⟨w.heap.size + 1, 1, none⟩ = some (.int .i64 x.to) := cell_at S3.out.x HXV.out.2
  obtain ⟨y3, f3, s3⟩ := S3.out.cell 0
  have z3 : w3.cell? ⟨w.heap.size, 0, none⟩ = some (.int .i64 l.next) := y3
  clear y3
  have S4 := Lib.hid (S3.out.set 0 (.int .i64 x.to) #[.int .i64 x.to, .slice a n cap] rfl)
  have HO4 := Lib.hid (HO3.out.set (g := w.heap.size) (i := 0) (u := .int .i64 x.to) (by have := S3.out.t; omega))
  go_wp2_with fail
  generalize w3.setCell ⟨w.heap.size, 0, none⟩ (.int .i64 x.to) = w4 at S4 HO4 ⊢
  clear k3 z3 f3 s3 S3 HO3
  obtain ⟨j0, hi0, hz0, hz1, hz2⟩ := info_parts infoI
  have HJ0 := Lib.hid hi0
  have HY0 := Lib.hid hz0
  have HY1 := Lib.hid hz1
  have HY2 := Lib.hid hz2
  clear hi0 hz0 hz1 hz2
  go_loopg [6] n (fun k o_ wr => ∃ (nx : Int) (os hs : List It) (ha : Option Addr) (hc q : Nat), hs.length = q ∧ q ≤ k ∧ os.length + q ≤ n ∧ Hid (Out x.to l.held os nx hs) ∧ Hid (OwnE encI 30 wr w0.heap.size o_ (x :: os)) ∧ Hid (RowAt encI w ha hc hs) ∧ Hid (Lp w wr w0.heap.size #[.int .i64 nx, .slice ha q hc] XA ZL))
  case atStart => exact ⟨x.to, [], l.held, a, cap, n, HN.out, Nat.le_refl _, by simp, Out.start _ _, HO4.out, HR.out, S4.out⟩
  case round =>
    obtain ⟨nx, os, hs, ha, hc, q, hq, hqk, hoq, HOU, HO, HRK, S⟩ := hrel
    clear S4 HO4
    obtain ⟨zz0, f0, s0⟩ := S.out.cell 0
    have z0 : wr.cell? ⟨w.heap.size, 0, none⟩ = some (.int .i64 nx) := zz0
    obtain ⟨zz1, f1, -⟩ := S.out.cell 1
    have z1 : wr.cell? ⟨w.heap.size, 1, none⟩ = some (.slice ha q hc) := zz1
    clear zz0 zz1
    cases hs with
    | nil =>
      obtain rfl : 0 = q := hq
      have HT : Hid (takeL l x = (⟨nx, []⟩, x :: os)) := Lib.hid (by unfold takeL; rw [HOU.out.dry])
      go_upto_region 3 with fail
      go_quiet (fail)
      have HD : Hid (Below wr.heap.size wr (wr.drewN nq)) := Lib.hid ⟨rfl, rfl, rfl, Nat.le_refl _, fun _ _ => rfl⟩
      generalize wr.drewN nq = w5 at HD ⊢
      have S5 := Lib.hid (S.out.later (HD.out.mono S.out.s))
      have HO5 := Lib.hid (HO.out.kept HD.out)
      clear z0 z1 f0 f1 s0 S HO
      obtain ⟨oa, oc, rfl, _⟩ := HO5.out.row
      generalize (x :: os).length = q2 at HO5 ⊢
      have hiB : (Try.prog.info? 24).map (·.size) = some (#[.int .i64 nx, .slice ha 0 hc] : Array Value).size := by kernel_rfl
      have HLR := Lib.hid (block_range S5.out.l)
      go_wp2_with (first | (refine wpList_load_arr_g (by rfl) 24 _ rfl w.heap.size 0 rfl #[.int .i64 nx, .slice ha 0 hc] _ HLR.out Try.underlying24 rfl hiB ?_) | (refine wpList_store_row rfl 24 _ _ rfl (w.heap.size + 1 + 1) #[.int .i64 nx, .slice ha 0 hc] rfl rfl _ _ S5.out.z hiB HSZ3.out (li_one _ _ _ _) ?_))
      refine bodyPost_ret (line_end2 rfl (w.heap.size + 1 + 1) _ _ _ _ S5.out.z rfl rfl) rfl ?_
      exact S5.out.told2 HRK.out rfl HO5.out HT.out _
    | cons y r =>
      rw [List.length_cons] at hq
      obtain ⟨b, off, rfl, _⟩ := HRK.out.at (by simp) (by decide)
      have hcq : q ≤ hc := by
        rcases HRK.out with ⟨h, _⟩ | ⟨_, _, h, _⟩
        · cases h
        · rw [List.length_cons, hq] at h; exact h
      have HEL : Hid (wr.rangeAt b off y.arr.toList) := Lib.hid (by
        have := item_at (HRK.out.later S.out.b) (k := 0) (x := y) rfl
        rwa [Nat.zero_mul, Nat.add_zero] at this)
      have k4 : wr.cell? ⟨b, off, none⟩ = some (.int .i64 y.fr) := by
        have := HEL.out 0 _ rfl
        rwa [Nat.add_zero] at this
      have q1 : (0 : Int) < q := by omega
      have q2 : 0 < q := by omega
      by_cases c1 : y.fr ≤ nx
      · go_upto_region 3 with fail
        go_quiet (fail)
        have HD : Hid (Below wr.heap.size wr (wr.drewN nq)) := Lib.hid ⟨rfl, rfl, rfl, Nat.le_refl _, fun _ _ => rfl⟩
        generalize wr.drewN nq = w5 at HD ⊢
        have S5 := Lib.hid (S.out.later (HD.out.mono S.out.s))
        have HO5 := Lib.hid (HO.out.kept HD.out)
        have HEL5 : Hid (w5.rangeAt b off y.arr.toList) := Lib.hid (by
          have := item_at (HRK.out.later S5.out.b) (k := 0) (x := y) rfl
          rwa [Nat.zero_mul, Nat.add_zero] at this)
        clear z0 z1 f0 f1 s0 S HO HEL k4 HD
        obtain ⟨YA, hYA⟩ : ∃ X, y.arr = X := ⟨_, rfl⟩
        have hiY : (Try.prog.info? 30).map (·.size) = some YA.size := by rw [← hYA]; kernel_rfl
        rw [hYA] at HEL5
        have HYF : Hid (20 = YA.size ∧ YA.toList = encI.of y ∧ YA.all (·.oneCell') = true ∧ YA[0]? = some (.int .i64 y.fr) ∧ YA[1]? = some (.int .i64 y.to)) := Lib.hid (by rw [← hYA]; exact ⟨rfl, rfl, by unfold It.arr; simp [Value.oneCell'], rfl, rfl⟩)
        have hys : YA.size = 20 := HYF.out.1.symm
        clear hYA
        obtain ⟨zz1, f1, s1⟩ := S5.out.cell 1
        have z1 : w5.cell? ⟨w.heap.size, 1, none⟩ = some (.slice (some ⟨b, off, none⟩) q hc) := zz1
        clear zz1
        go_upto_region 5 with (first | (refine wpList_load_arr_g (by rfl) 30 _ rfl b off rfl YA _ HEL5.out Try.underlying30 rfl hiY ?_) | (refine wpList_store_row rfl 30 _ _ rfl w5.heap.size YA rfl rfl _ _ (heap_alloc_last _ _) hiY HYF.out.1 HYF.out.2.2.1 ?_; rw [World.setRow_alloc_new]))
        obtain ⟨p, hp⟩ : ∃ p, w5.heap.size = p := ⟨_, rfl⟩
        have HYB : Hid ((w5.alloc (.cells YA 30)).heap[p]? = some (.cells YA 30 (0, 0))) := Lib.hid (hp ▸ heap_alloc_new _ _)
        have HPB : Hid (w0.heap.size ≤ p) := Lib.hid (hp ▸ S5.out.s)
        have S6 := Lib.hid (S5.out.later ((Below.refl _ w5).alloc S5.out.s (.cells YA 30)))
        have HO6 := Lib.hid (HO5.out.kept ((Below.refl _ _).alloc (Nat.le_refl _) (.cells YA 30)))
        have HOL := Lib.hid (fun g hg => Nat.lt_of_lt_of_eq (HO5.out.lt g hg).2 hp)
        rw [hp]
        generalize w5.alloc (.cells YA 30) = w6 at HYB S6 HO6 ⊢
        clear hp z1 f1 s1 S5 HO5 HEL5
        obtain ⟨zz1, f1, s1⟩ := S6.out.cell 1
        have z1 : w6.cell? ⟨w.heap.size, 1, none⟩ = some (.slice (some ⟨b, off, none⟩) q hc) := zz1
        clear zz1
        by_cases hc1 : hc = 1
        · subst hc1
          obtain rfl : q = 1 := by omega
          obtain rfl : r = [] := List.length_eq_zero_iff.1 (by omega)
          have HRT : Hid (RowAt encI w (some ⟨b, off, none⟩) 0 []) := Lib.hid (.inr ⟨_, rfl, Nat.le_refl _, fun j u hj => by simp at hj⟩)
          have S7 := Lib.hid (S6.out.set 1 (.slice (some ⟨b, off, none⟩) 0 0) #[.int .i64 nx, .slice (some ⟨b, off, none⟩) 0 0] rfl)
          have HO7 := Lib.hid (HO6.out.set (g := w.heap.size) (i := 1) (u := .slice (some ⟨b, off, none⟩) 0 0) (by have := S6.out.t; omega))
          have HYB7 : Hid ((w6.setCell ⟨w.heap.size, 1, none⟩ (.slice (some ⟨b, off, none⟩) 0 0)).heap[p]? = some (.cells YA 30 (0, 0))) := Lib.hid ((heap_setCell_other w6 _ _ _ (fun e => by have h1 : w.heap.size = p := e.symm; have h2 := S6.out.t; have h3 := HPB.out; omega)).trans HYB.out)
          go_upto_region 6 with fail
          generalize w6.setCell ⟨w.heap.size, 1, none⟩ (.slice (some ⟨b, off, none⟩) 0 0) = w7 at S7 HO7 HYB7 ⊢
          clear z1 f1 s1 S6 HO6 HYB
          have hPs : p < w7.heap.size := (Array.getElem?_eq_some_iff.1 HYB7.out).1
          have HPS := Lib.hid hPs
          clear hPs
          have HYR := Lib.hid (block_range HYB7.out)
          have y1 : w7.cell? ⟨p, 1, none⟩ = some (.int .i64 y.to) := cell_at HYB7.out HYF.out.2.2.2.2
          obtain ⟨zz0, f0, s0⟩ := S7.out.cell 0
          have z0 : w7.cell? ⟨w.heap.size, 0, none⟩ = some (.int .i64 nx) := zz0
          clear zz0
          by_cases c4 : nx < y.to
          · have HOU2 := Lib.hid (HOU.out.told c1 c4)
            go_upto_region 8 with (first | (at_builtin; refine wpList_append_row2 encI (by decide) rfl (.tmp 40) (.tmp 42) _ rfl w0.heap.size 30 j0 _ 208 Try.underlying22 HJ0.out HY0.out HY1.out HY2.out (by rfl) _ (x :: os) rfl (HO7.out.kept ((Below.refl _ _).alloc (Nat.le_refl _) _)) _ _ _ [y] rfl (by rfl) (one_row encI _ 30 _ _ (by rw [fill_all (k := 20)]; exact HYF.out.2.1; rfl; exact HYF.out.1.symm)) (by simp only [List.length_cons, List.length_nil, maxLen]; omega) (by simp only [List.length_cons, List.length_nil]; omega) (Nat.le_trans S7.out.s (by simp)) ?_; intro v2 w8 hown2 hgr hat; have HB8 := Lib.hid (below_grown (HO7.out.kept ((Below.refl _ _).alloc (Nat.le_refl _) _)) (Nat.le_trans S7.out.s (by simp)) hgr); have S8 := Lib.hid ((S7.out.later ((Below.refl _ _).alloc S7.out.s _)).later HB8.out); have HO8 := Lib.hid hown2; have HY8 : Hid (w8.heap[p]? = some (.cells YA 30 (0, 0))) := Lib.hid ((hgr.block p (by have := HPS.out; simp; omega) (fun e => Nat.lt_irrefl _ (HOL.out p e.symm))).trans (alloc_block HYB7.out)); clear hown2 hgr hat) | (refine wpList_load_arr_g (by rfl) 30 _ rfl p 0 rfl YA _ HYR.out Try.underlying30 rfl hiY ?_))
            have y8 : w8.cell? ⟨p, 1, none⟩ = some (.int .i64 y.to) := cell_at HY8.out HYF.out.2.2.2.2
            clear y1 z0 f0 s0
            obtain ⟨zz0, f0, s0⟩ := S8.out.cell 0
            have z0 : w8.cell? ⟨w.heap.size, 0, none⟩ = some (.int .i64 nx) := zz0
            clear zz0
            have S9 := Lib.hid (S8.out.set 0 (.int .i64 y.to) #[.int .i64 y.to, .slice (some ⟨b, off, none⟩) 0 0] rfl)
            have HO9 := Lib.hid (HO8.out.set (g := w.heap.size) (i := 0) (u := .int .i64 y.to) (by have := S8.out.t; omega))
            go_wp2_with fail
            go_roundg (0)
            case measure => omega
            case rel => exact ⟨y.to, os ++ [y], [], (some ⟨b, off, none⟩), 0, 0, rfl, Nat.le_refl _, by rw [List.length_append, List.length_cons, List.length_nil]; omega, HOU2, HO9, HRT, S9⟩
          · have HOU2 := Lib.hid (HOU.out.old c1 c4)
            go_wp2_with fail
            go_roundg (0)
            case measure => omega
            case rel => exact ⟨nx, os, [], (some ⟨b, off, none⟩), 0, 0, rfl, Nat.le_refl _, by omega, HOU2, HO7, HRT, S7⟩
        · have HRT := Lib.hid (row_tail HRK.out)
          have hr1 : r.length = q - 1 := by omega
          have hcc : ¬ 1 = hc := fun e => hc1 e.symm
          have S7 := Lib.hid (S6.out.set 1 (.slice (some ⟨b, off + 20, none⟩) (q - 1) (hc - 1)) #[.int .i64 nx, .slice (some ⟨b, off + 20, none⟩) (q - 1) (hc - 1)] rfl)
          have HO7 := Lib.hid (HO6.out.set (g := w.heap.size) (i := 1) (u := .slice (some ⟨b, off + 20, none⟩) (q - 1) (hc - 1)) (by have := S6.out.t; omega))
          have HYB7 : Hid ((w6.setCell ⟨w.heap.size, 1, none⟩ (.slice (some ⟨b, off + 20, none⟩) (q - 1) (hc - 1))).heap[p]? = some (.cells YA 30 (0, 0))) := Lib.hid ((heap_setCell_other w6 _ _ _ (fun e => by have h1 : w.heap.size = p := e.symm; have h2 := S6.out.t; have h3 := HPB.out; omega)).trans HYB.out)
          go_upto_region 6 with fail
          generalize w6.setCell ⟨w.heap.size, 1, none⟩ (.slice (some ⟨b, off + 20, none⟩) (q - 1) (hc - 1)) = w7 at S7 HO7 HYB7 ⊢
          clear z1 f1 s1 S6 HO6 HYB
          have hPs : p < w7.heap.size := (Array.getElem?_eq_some_iff.1 HYB7.out).1
          have HPS := Lib.hid hPs
          clear hPs
          have HYR := Lib.hid (block_range HYB7.out)
          have y1 : w7.cell? ⟨p, 1, none⟩ = some (.int .i64 y.to) := cell_at HYB7.out HYF.out.2.2.2.2
          obtain ⟨zz0, f0, s0⟩ := S7.out.cell 0
          have z0 : w7.cell? ⟨w.heap.size, 0, none⟩ = some (.int .i64 nx) := zz0
          clear zz0
          by_cases c4 : nx < y.to
          · have HOU2 := Lib.hid (HOU.out.told c1 c4)
            go_upto_region 8 with (first | (at_builtin; refine wpList_append_row2 encI (by decide) rfl (.tmp 40) (.tmp 42) _ rfl w0.heap.size 30 j0 _ 208 Try.underlying22 HJ0.out HY0.out HY1.out HY2.out (by rfl) _ (x :: os) rfl (HO7.out.kept ((Below.refl _ _).alloc (Nat.le_refl _) _)) _ _ _ [y] rfl (by rfl) (one_row encI _ 30 _ _ (by rw [fill_all (k := 20)]; exact HYF.out.2.1; rfl; exact HYF.out.1.symm)) (by simp only [List.length_cons, List.length_nil, maxLen]; omega) (by simp only [List.length_cons, List.length_nil]; omega) (Nat.le_trans S7.out.s (by simp)) ?_; intro v2 w8 hown2 hgr hat; have HB8 := Lib.hid (below_grown (HO7.out.kept ((Below.refl _ _).alloc (Nat.le_refl _) _)) (Nat.le_trans S7.out.s (by simp)) hgr); have S8 := Lib.hid ((S7.out.later ((Below.refl _ _).alloc S7.out.s _)).later HB8.out); have HO8 := Lib.hid hown2; have HY8 : Hid (w8.heap[p]? = some (.cells YA 30 (0, 0))) := Lib.hid ((hgr.block p (by have := HPS.out; simp; omega) (fun e => Nat.lt_irrefl _ (HOL.out p e.symm))).trans (alloc_block HYB7.out)); clear hown2 hgr hat) | (refine wpList_load_arr_g (by rfl) 30 _ rfl p 0 rfl YA _ HYR.out Try.underlying30 rfl hiY ?_))
            have y8 : w8.cell? ⟨p, 1, none⟩ = some (.int .i64 y.to) := cell_at HY8.out HYF.out.2.2.2.2
            clear y1 z0 f0 s0
            obtain ⟨zz0, f0, s0⟩ := S8.out.cell 0
            have z0 : w8.cell? ⟨w.heap.size, 0, none⟩ = some (.int .i64 nx) := zz0
            clear zz0
            have S9 := Lib.hid (S8.out.set 0 (.int .i64 y.to) #[.int .i64 y.to, .slice (some ⟨b, off + 20, none⟩) (q - 1) (hc - 1)] rfl)
            have HO9 := Lib.hid (HO8.out.set (g := w.heap.size) (i := 0) (u := .int .i64 y.to) (by have := S8.out.t; omega))
            go_wp2_with fail
            go_roundg ((q - 1))
            case measure => omega
            case rel => exact ⟨y.to, os ++ [y], r, (some ⟨b, off + 20, none⟩), (hc - 1), (q - 1), hr1, Nat.le_refl _, by rw [List.length_append, List.length_cons, List.length_nil]; omega, HOU2, HO9, HRT, S9⟩
          · have HOU2 := Lib.hid (HOU.out.old c1 c4)
            go_wp2_with fail
            go_roundg ((q - 1))
            case measure => omega
            case rel => exact ⟨nx, os, r, (some ⟨b, off + 20, none⟩), (hc - 1), (q - 1), hr1, Nat.le_refl _, by omega, HOU2, HO7, HRT, S7⟩
      · have HT : Hid (takeL l x = (⟨nx, y :: r⟩, x :: os)) := Lib.hid (by unfold takeL; rw [HOU.out.stop c1])
        go_upto_region 3 with fail
        go_quiet (fail)
        have HD : Hid (Below wr.heap.size wr (wr.drewN nq)) := Lib.hid ⟨rfl, rfl, rfl, Nat.le_refl _, fun _ _ => rfl⟩
        generalize wr.drewN nq = w5 at HD ⊢
        have S5 := Lib.hid (S.out.later (HD.out.mono S.out.s))
        have HO5 := Lib.hid (HO.out.kept HD.out)
        clear z0 z1 f0 f1 s0 S HO HEL k4
        obtain ⟨oa, oc, rfl, _⟩ := HO5.out.row
        generalize (x :: os).length = q2 at HO5 ⊢
        have hiB : (Try.prog.info? 24).map (·.size) = some (#[.int .i64 nx, .slice (some ⟨b, off, none⟩) q hc] : Array Value).size := by kernel_rfl
        have HLR := Lib.hid (block_range S5.out.l)
        go_wp2_with (first | (refine wpList_load_arr_g (by rfl) 24 _ rfl w.heap.size 0 rfl #[.int .i64 nx, .slice (some ⟨b, off, none⟩) q hc] _ HLR.out Try.underlying24 rfl hiB ?_) | (refine wpList_store_row rfl 24 _ _ rfl (w.heap.size + 1 + 1) #[.int .i64 nx, .slice (some ⟨b, off, none⟩) q hc] rfl rfl _ _ S5.out.z hiB HSZ3.out (li_one _ _ _ _) ?_))
        refine bodyPost_ret (line_end2 rfl (w.heap.size + 1 + 1) _ _ _ _ S5.out.z rfl rfl) rfl ?_
        exact S5.out.told2 HRK.out hq HO5.out HT.out _

end Rsq
end Go.Proofs.Ytnldllmlfckecaa
