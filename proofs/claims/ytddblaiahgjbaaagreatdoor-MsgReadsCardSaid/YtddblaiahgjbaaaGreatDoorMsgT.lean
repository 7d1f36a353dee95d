/-
  The reference's taker of layer 5: fields taken one behind the other, by a pointer.
-/
import Derived.Test.YtddblaiahgjbaaaGreatDoorMsgB
import Derived.Test.YtddblaiahgjbaaaGreatDoorFldC
import Derived.Test.YtddblaiahgjbaaaGreatDoorNumP
namespace Go.Proofs.YtddblaiahgjbaaaGreatDoor
open Go.RowKit
namespace Msg
open Num
open Fld (F)

/-- a taker in its block: all fields, how many were taken, whether something was wrong -/
def TkAt (w : World) (g : Nat) (a : Option Addr) (cap : Nat) (l : List F) (k : Nat) (bad : Bool) : Prop := w.heap[g]? = some (.cells #[.slice a l.length cap, .int .i64 k, .bool bad] 61 (0, 0))
theorem TkAt.facts {w : World} {g : Nat} {a : Option Addr} {cap : Nat} {l : List F} {k : Nat} {bad : Bool} (h : TkAt w g a cap l k bad) :
    w.cell? ⟨g, 0, none⟩ = some (.slice a l.length cap) ∧ w.cell? ⟨g, 1, none⟩ = some (.int .i64 k) ∧ w.cell? ⟨g, 2, none⟩ = some (.bool bad) ∧ w.frozen? ⟨g, 1, none⟩ = false ∧ w.frozen? ⟨g, 2, none⟩ = false ∧ g < w.heap.size :=
  ⟨by rw [cell_of_row w g 0 _ _ _ h]; rfl, by rw [cell_of_row w g 1 _ _ _ h]; rfl, by rw [cell_of_row w g 2 _ _ _ h]; rfl, frozen_of_row w g 1 _ _ h, frozen_of_row w g 2 _ _ h, (Array.getElem?_eq_some_iff.1 h).1⟩
theorem grown_refl (w : World) (r : Option Nat) : w.grownBy w r := ⟨rfl, rfl, rfl, Nat.le_refl _, fun _ _ _ => rfl⟩
theorem grown_set (w : World) (g i : Nat) (v : Value) : w.grownBy (w.setCell ⟨g, i, none⟩ v) (some g) := ⟨rfl, rfl, rfl, by simp [World.setCell], fun j _ hj => heap_setCell_other w _ j v (fun e => hj (by rw [e]))⟩
theorem grown_trans {a b c : World} {r : Option Nat} (h : a.grownBy b r) (k : b.grownBy c r) : a.grownBy c r := by
  obtain ⟨o1, t1, p1, s1, b1⟩ := h
  obtain ⟨o2, t2, p2, s2, b2⟩ := k
  exact ⟨o2.trans o1, t2.trans t1, p2.trans p1, Nat.le_trans s1 s2, fun j hj hr => (b2 j (Nat.lt_of_lt_of_le hj s1) hr).trans (b1 j hj hr)⟩
theorem grown_drew (w : World) (n : Nat) (r : Option Nat) : w.grownBy (w.drewN n) r := ⟨rfl, rfl, rfl, Nat.le_refl _, fun _ _ _ => rfl⟩

theorem TkAt.set1 {w : World} {g : Nat} {a : Option Addr} {cap : Nat} {l : List F} {k : Nat} {bad : Bool} (h : TkAt w g a cap l k bad) (n : Nat) (j : Nat) : TkAt ((w.drewN n).setCell ⟨g, 1, none⟩ (.int .i64 j)) g a cap l j bad := heap_setCell_same (w.drewN n) g 1 _ _ _ h
theorem TkAt.set2 {w : World} {g : Nat} {a : Option Addr} {cap : Nat} {l : List F} {k : Nat} {bad : Bool} (h : TkAt w g a cap l k bad) (n : Nat) (b : Bool) : TkAt ((w.drewN n).setCell ⟨g, 2, none⟩ (.bool b)) g a cap l k b := heap_setCell_same (w.drewN n) g 2 _ _ _ h
theorem TkAt.put2 {w : World} {g : Nat} {a : Option Addr} {cap : Nat} {l : List F} {k : Nat} {bad : Bool} (h : TkAt w g a cap l k bad) (b : Bool) : TkAt (w.setCell ⟨g, 2, none⟩ (.bool b)) g a cap l k b := heap_setCell_same w g 2 _ _ _ h
theorem grown_row {w w' : World} {g : Nat} {x : Addr} {v : Value} (h : w.grownBy w' (some g)) (hc : w.cell? x = some v) (hn : x.block ≠ g) : w'.cell? x = some v := by
  obtain ⟨_, _, _, _, b1⟩ := h
  have := b1 x.block (cell_lt hc) (fun e => hn (Option.some.inj e))
  unfold World.cell? at hc ⊢
  rw [this]
  exact hc

/-- what is told: a text, or something else; the taker goes on -/
def Took (w : World) (g : Nat) (a : Option Addr) (cap : Nat) (l : List F) (v : Value) (s : Tk) (e : Ending) (w' : World) : Prop :=
  e = .returned v ∧ w.grownBy w' (some g) ∧ ∃ k : Nat, k ≤ l.length ∧ l.drop k = s.1 ∧ TkAt w' g a cap l k s.2

theorem take_end {t : Int} {l : List F} {k : Nat} {bad : Bool} (h : l.length ≤ k) : take t (l.drop k, bad) = (emp, l.drop k, true) := by
  rw [List.drop_eq_nil_of_le h]; rfl
theorem take_other {t : Int} {l : List F} {k : Nat} {bad : Bool} {f : F} (h : l[k]? = some f) (hn : f.tag ≠ t) : take t (l.drop k, bad) = (emp, l.drop k, true) := by
  have hk : k < l.length := (List.getElem?_eq_some_iff.1 h).1
  rw [List.drop_eq_getElem_cons hk]
  rw [List.getElem?_eq_getElem hk] at h
  rw [Option.some.inj h]
  unfold take
  exact if_neg hn
theorem take_this {t : Int} {l : List F} {k : Nat} {bad : Bool} {f : F} (h : l[k]? = some f) (hn : f.tag = t) : take t (l.drop k, bad) = (f.val, l.drop (k + 1), bad) := by
  have hk : k < l.length := (List.getElem?_eq_some_iff.1 h).1
  rw [List.drop_eq_getElem_cons hk]
  rw [List.getElem?_eq_getElem hk] at h
  rw [Option.some.inj h]
  unfold take
  exact if_pos hn

set_option maxHeartbeats 2000000 in
theorem rtake_any (t : Int) (g : Nat) (a : Option Addr) (cap : Nat) (l : List F) (k : Nat) (bad : Bool) (w : World) (h : TkAt w g a cap l k bad) (hk : k ≤ l.length) (hl : l.length ≤ 100) (hr : Flds w a l) (hne : ∀ x, a = some x → x.block ≠ g) :
    Calls Tryz.prog 35 #[.pointer (some ⟨g, 0, none⟩), .int .i64 t] w (Took w g a cap l (.string (take t (l.drop k, bad)).1) (take t (l.drop k, bad)).2) := by
  have HK := Lib.hid h
  have HR := Lib.hid hr
  obtain ⟨c0, c1, c2, f1, f2, hg⟩ := h.facts
  clear h hr
  by_cases hlt : k < l.length
  · obtain ⟨b, off, rfl, hc⟩ := HR.out.at (by omega)
    obtain ⟨⟨tg, u⟩, hf⟩ : ∃ f, l[k]? = some f := ⟨_, List.getElem?_eq_getElem hlt⟩
    have ⟨d0, d1⟩ := hc k _ hf
    have HFK := Lib.hid hf
    clear hc hf
    cases d : (tg != t)
    · have HT := Lib.hid (take_this (t := t) (bad := bad) HFK.out (bne_eq_false_iff_eq.1 d))
      go_enter Tryz.func35, Tryz.ntmps35
      go_wp2_with fail
      go_quiet (fail)
      go_wp2_with fail
      obtain ⟨k1, hk1⟩ : ∃ k1, k + 1 = k1 := ⟨_, rfl⟩
      rw [hk1] at HT
      have e1 : ((k : Int) + 1) = (k1 : Int) := by omega
      rw [e1]
      have HK1 := Lib.hid (HK.out.set1 nq k1)
      have HG1 := Lib.hid (grown_trans (grown_drew w nq (some g)) (grown_set (w.drewN nq) g 1 (.int .i64 (k1 : Int))))
      have hbg := hne _ rfl
      have d1' := grown_row HG1.out d1 hbg
      obtain ⟨c0', c1', _, _, _, _⟩ := HK1.out.facts
      generalize (w.drewN nq).setCell ⟨g, 1, none⟩ (.int .i64 (k1 : Int)) = w2 at HK1 HG1 d1' c0' c1' ⊢
      have e2 : ((k1 : Int) - 1) = (k : Int) := by omega
      have hk1l : k1 ≤ l.length := by omega
      clear c0 c1 c2 f1 f2 d0 d1 hne e1 hk1
      go_wp2_with fail
      go_quiet (fail)
      go_wp2_with fail
      go_ret
      rw [HT.out]
      exact ⟨rfl, grown_trans HG1.out (grown_drew _ _ _), k1, hk1l, rfl, HK1.out⟩
    · have HT := Lib.hid (take_other (t := t) (bad := bad) HFK.out (by simpa using d))
      go_enter Tryz.func35, Tryz.ntmps35
      go_wp2_with fail
      go_quiet (fail)
      go_wp2_with fail
      go_ret
      rw [HT.out]
      exact ⟨rfl, grown_trans (grown_drew _ _ _) (grown_set _ _ _ _), k, by omega, rfl, HK.out.set2 _ _⟩
  · have HT := Lib.hid (take_end (t := t) (bad := bad) (l := l) (k := k) (by omega))
    obtain rfl : k = l.length := by omega
    go_enter Tryz.func35, Tryz.ntmps35
    go_wp2_with fail
    go_quiet (fail)
    go_wp2_with fail
    go_ret
    rw [HT.out]
    exact ⟨rfl, grown_trans (grown_drew _ _ _) (grown_set _ _ _ _), l.length, by omega, rfl, HK.out.set2 _ _⟩

theorem maybe_this {t : Int} {l : List F} {k : Nat} {bad : Bool} {f : F} (h : l[k]? = some f) (hn : f.tag = t) : maybe t (l.drop k, bad) = take t (l.drop k, bad) := by
  rw [take_this h hn]
  have hk : k < l.length := (List.getElem?_eq_some_iff.1 h).1
  rw [List.drop_eq_getElem_cons hk]
  rw [List.getElem?_eq_getElem hk] at h
  rw [Option.some.inj h]
  unfold maybe
  exact if_pos hn
theorem maybe_other {t : Int} {l : List F} {k : Nat} {bad : Bool} {f : F} (h : l[k]? = some f) (hn : f.tag ≠ t) : maybe t (l.drop k, bad) = (emp, l.drop k, bad) := by
  have hk : k < l.length := (List.getElem?_eq_some_iff.1 h).1
  rw [List.drop_eq_getElem_cons hk]
  rw [List.getElem?_eq_getElem hk] at h
  rw [Option.some.inj h]
  unfold maybe
  exact if_neg hn
theorem maybe_end {t : Int} {l : List F} {k : Nat} {bad : Bool} (h : l.length ≤ k) : maybe t (l.drop k, bad) = (emp, l.drop k, bad) := by
  rw [List.drop_eq_nil_of_le h]; rfl

set_option maxHeartbeats 2000000 in
theorem rmaybe_any (t : Int) (g : Nat) (a : Option Addr) (cap : Nat) (l : List F) (k : Nat) (bad : Bool) (w : World) (h : TkAt w g a cap l k bad) (hk : k ≤ l.length) (hl : l.length ≤ 100) (hr : Flds w a l) (hne : ∀ x, a = some x → x.block ≠ g) :
    Calls Tryz.prog 38 #[.pointer (some ⟨g, 0, none⟩), .int .i64 t] w (Took w g a cap l (.string (maybe t (l.drop k, bad)).1) (maybe t (l.drop k, bad)).2) := by
  have HK := Lib.hid h
  have HR := Lib.hid hr
  have HTK := Lib.hid (fun W h r => rtake_any t g a cap l k bad W h hk hl r hne)
  obtain ⟨c0, c1, _, _, _, hg⟩ := h.facts
  clear h hr
  by_cases hlt : k < l.length
  · obtain ⟨b, off, rfl, hc⟩ := HR.out.at (by omega)
    obtain ⟨⟨tg, u⟩, hf⟩ : ∃ f, l[k]? = some f := ⟨_, List.getElem?_eq_getElem hlt⟩
    have ⟨d0, _⟩ := hc k _ hf
    have HFK := Lib.hid hf
    have HRW : Hid (∀ n, Flds (w.drewN n) (some ⟨b, off, none⟩) l) := Lib.hid (fun n => HR.out.later ⟨rfl, rfl, rfl, Nat.le_refl _, fun _ _ => rfl⟩)
    clear hc hf
    cases d : (tg == t)
    · have HT := Lib.hid (maybe_other (t := t) (bad := bad) HFK.out (by simpa using d))
      go_enter Tryz.func38, Tryz.ntmps38
      go_wp2_with fail
      go_quiet (fail)
      go_wp2_with fail
      go_ret
      rw [HT.out]
      exact ⟨rfl, grown_drew _ _ _, k, by omega, rfl, HK.out⟩
    · have HT := Lib.hid (maybe_this (t := t) (bad := bad) HFK.out (beq_iff_eq.1 d))
      go_enter Tryz.func38, Tryz.ntmps38
      go_wp2_with fail
      go_quiet (fail)
      go_wp2_with fail
      refine (HTK.out (w.drewN nq) HK.out (HRW.out nq)).mono ?_
      rintro e w1 ⟨rfl, hg1, hx1⟩
      have HG1 := Lib.hid (grown_trans (grown_drew w nq (some g)) hg1)
      have HX1 := Lib.hid hx1
      clear hg1 hx1
      go_wp2_with fail
      go_ret
      rw [HT.out]
      exact ⟨rfl, HG1.out, HX1.out⟩
  · have HT := Lib.hid (maybe_end (t := t) (bad := bad) (l := l) (k := k) (by omega))
    obtain rfl : k = l.length := by omega
    go_enter Tryz.func38, Tryz.ntmps38
    go_wp2_with fail
    go_quiet (fail)
    go_wp2_with fail
    go_ret
    rw [HT.out]
    exact ⟨rfl, grown_drew _ _ _, l.length, by omega, rfl, HK.out⟩

set_option maxHeartbeats 2000000 in
theorem rnumber_any (t : Int) (g : Nat) (a : Option Addr) (cap : Nat) (l : List F) (k : Nat) (bad : Bool) (w : World) (h : TkAt w g a cap l k bad) (hk : k ≤ l.length) (hl : l.length ≤ 100) (hr : Flds w a l) (hne : ∀ x, a = some x → x.block ≠ g) :
    Calls Tryz.prog 36 #[.pointer (some ⟨g, 0, none⟩), .int .i64 t] w (Took w g a cap l (.int .i64 (number t (l.drop k, bad)).1) (number t (l.drop k, bad)).2) := by
  have HTK := Lib.hid (rtake_any t g a cap l k bad w h hk hl hr hne)
  have HN : Hid (number t (l.drop k, bad) = (parseV (take t (l.drop k, bad)).1.data.toList, (take t (l.drop k, bad)).2.1, (take t (l.drop k, bad)).2.2 || decide (parseE (take t (l.drop k, bad)).1.data.toList ≠ 0))) := Lib.hid rfl
  obtain ⟨⟨v, r, bd⟩, hp⟩ : ∃ p, take t (l.drop k, bad) = p := ⟨_, rfl⟩
  rw [hp] at HTK HN
  dsimp only at HTK HN
  rw [HN.out]
  clear hp HN h
  go_enter Tryz.func36, Tryz.ntmps36
  go_wp2_with fail
  refine HTK.out.mono ?_
  rintro e w1 ⟨rfl, hg1, k1, hk1, hd1, hx1⟩
  dsimp only at hd1 hx1
  have HG1 := Lib.hid hg1
  have HX1 := Lib.hid hx1
  have HD1 := Lib.hid hd1
  obtain ⟨_, _, c2, _, f2, hg⟩ := hx1.facts
  clear hg1 hx1 hd1 HTK
  go_wp2_with fail
  refine (Num.rparse_any v _).mono ?_
  rintro e w' ⟨rfl, rfl⟩
  obtain ⟨pe, hpe⟩ : ∃ pe, parseE v.data.toList = pe := ⟨_, rfl⟩
  rw [hpe]
  have HPE := Lib.hid hpe
  clear hpe
  cases d : (pe != 0)
  · have e0 : pe = 0 := bne_eq_false_iff_eq.1 d
    subst e0
    go_wp2_with fail
    go_ret
    exact ⟨rfl, HG1.out, k1, hk1, HD1.out, by dsimp only; rw [HPE.out]; simpa using HX1.out⟩
  · have e0 : pe ≠ 0 := by simpa using d
    have HE := Lib.hid e0
    clear e0
    go_wp2_with fail
    go_ret
    exact ⟨rfl, grown_trans HG1.out (grown_set _ _ _ _), k1, hk1, HD1.out, by
      have := HX1.out.put2 true
      dsimp only
      rw [HPE.out, decide_eq_true HE.out, Bool.or_true]
      exact this⟩

set_option maxHeartbeats 2000000 in
theorem ryes_any (t : Int) (g : Nat) (a : Option Addr) (cap : Nat) (l : List F) (k : Nat) (bad : Bool) (w : World) (h : TkAt w g a cap l k bad) (hk : k ≤ l.length) (hl : l.length ≤ 100) (hr : Flds w a l) (hne : ∀ x, a = some x → x.block ≠ g) :
    Calls Tryz.prog 37 #[.pointer (some ⟨g, 0, none⟩), .int .i64 t] w (Took w g a cap l (.bool (yes t (l.drop k, bad)).1) (yes t (l.drop k, bad)).2) := by
  have HTK := Lib.hid (rmaybe_any t g a cap l k bad w h hk hl hr hne)
  have HN : Hid (yes t (l.drop k, bad) = (decide ((maybe t (l.drop k, bad)).1 = yS), (maybe t (l.drop k, bad)).2.1, (maybe t (l.drop k, bad)).2.2 || (decide ((maybe t (l.drop k, bad)).1 ≠ emp) && decide ((maybe t (l.drop k, bad)).1 ≠ yS)))) := Lib.hid rfl
  obtain ⟨⟨v, r, bd⟩, hp⟩ : ∃ p, maybe t (l.drop k, bad) = p := ⟨_, rfl⟩
  rw [hp] at HTK HN
  dsimp only at HTK HN
  rw [HN.out]
  clear hp HN h
  have hy : (v.toList == [89]) = decide (v = yS) := by rw [← str_eq, ByteArray.toList_eq yS]; rfl
  have he : v.toList.isEmpty = decide (v = emp) := empty_is v
  have ey : decide (v ≠ yS) = !decide (v = yS) := by simp
  have ee : decide (v ≠ emp) = !decide (v = emp) := by simp
  rw [ey, ee]
  clear ey ee
  obtain ⟨qy, hqy⟩ : ∃ q, decide (v = yS) = q := ⟨_, rfl⟩
  obtain ⟨qe, hqe⟩ : ∃ q, decide (v = emp) = q := ⟨_, rfl⟩
  rw [hqy] at hy ⊢
  rw [hqe] at he ⊢
  clear hqy hqe
  have HY := Lib.hid hy
  have HEM := Lib.hid he
  clear hy he
  go_enter Tryz.func37, Tryz.ntmps37
  go_wp2_with fail
  refine HTK.out.mono ?_
  rintro e w1 ⟨rfl, hg1, k1, hk1, hd1, hx1⟩
  dsimp only at hd1 hx1
  have HG1 := Lib.hid hg1
  have HX1 := Lib.hid hx1
  have HD1 := Lib.hid hd1
  obtain ⟨_, _, c2, _, f2, hg⟩ := hx1.facts
  clear hg1 hx1 hd1 HTK
  have hy := HY.out
  have he := HEM.out
  clear HY HEM
  cases qe <;> cases qy
  all_goals go_wp2_with fail
  all_goals go_ret
  · exact ⟨rfl, grown_trans HG1.out (grown_set _ _ _ _), k1, hk1, HD1.out, by simpa using HX1.out.put2 true⟩
  all_goals exact ⟨rfl, HG1.out, k1, hk1, HD1.out, by simpa using HX1.out⟩

end Msg
end Go.Proofs.YtddblaiahgjbaaaGreatDoor
