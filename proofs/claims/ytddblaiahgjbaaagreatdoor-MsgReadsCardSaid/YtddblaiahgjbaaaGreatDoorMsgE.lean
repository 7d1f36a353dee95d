/-
  The reference's taker of layer 5: an execution, taken field by field.
-/
import Derived.Test.YtddblaiahgjbaaaGreatDoorMsgT
import Derived.Test.YtddblaiahgjbaaaGreatDoorMsgN
import Derived.Deep.CutBlock
import Derived.Deep.DeepCutAuto
import Derived.Deep.Cut
namespace Go.Proofs.YtddblaiahgjbaaaGreatDoor
open Go.RowKit
namespace Msg
open Num
open Fld (F)

theorem flds_grown {w w' : World} {g : Nat} {a : Option Addr} {l : List F} (h : Flds w a l) (hg : w.grownBy w' (some g)) (hne : ∀ x, a = some x → x.block ≠ g) : Flds w' a l := by
  rcases h with h | ⟨x, rfl, hc⟩
  · exact .inl h
  · refine .inr ⟨x, rfl, fun i f hi => ?_⟩
    have ⟨h1, h2⟩ := hc i f hi
    exact ⟨grown_row hg h1 (by rw [block_add]; exact hne x rfl), grown_row hg h2 (by rw [block_add]; exact hne x rfl)⟩
/-- how it stands between two calls: the taker, the result's cell, the execution so far -/
structure ExSt (w wi : World) (g : Nat) (a : Option Addr) (cap : Nat) (l : List F) (k : Nat) (bad : Bool) (X : Array Value) : Prop where
  G : w.grownBy wi (some g)
  T : TkAt wi g a cap l k bad
  R : wi.heap[w.heap.size]? = some (.cells noEx.cells 23 (0, 0))
  X : wi.heap[w.heap.size + 1]? = some (.cells X 23 (0, 0))
theorem ExSt.call {w wi w' : World} {g : Nat} {a : Option Addr} {cap : Nat} {l : List F} {k k' : Nat} {bad bad' : Bool} {X : Array Value} (h : ExSt w wi g a cap l k bad X) (hlt : g < w.heap.size) (hg : wi.grownBy w' (some g)) (ht : TkAt w' g a cap l k' bad') : ExSt w w' g a cap l k' bad' X := by
  obtain ⟨G, T, R, X⟩ := h
  have hk := hg
  obtain ⟨_, _, _, _, b1⟩ := hk
  exact ⟨grown_trans G hg, ht, (b1 _ (Array.getElem?_eq_some_iff.1 R).1 (fun e => by have := Option.some.inj e; omega)).trans R, (b1 _ (Array.getElem?_eq_some_iff.1 X).1 (fun e => by have := Option.some.inj e; omega)).trans X⟩
theorem ExSt.setX {w wi : World} {g : Nat} {a : Option Addr} {cap : Nat} {l : List F} {k : Nat} {bad : Bool} {X : Array Value} (h : ExSt w wi g a cap l k bad X) (hlt : g < w.heap.size) (j : Nat) (v : Value) (Y : Array Value) (hY : X.setIfInBounds j v = Y) : ExSt w (wi.setCell ⟨w.heap.size + 1, j, none⟩ v) g a cap l k bad Y := by
  subst hY
  obtain ⟨G, T, R, X⟩ := h
  obtain ⟨o1, t1, p1, s1, b1⟩ := G
  refine ⟨⟨o1, t1, p1, by simpa [World.setCell] using s1, fun i hi hr => (heap_setCell_other wi _ i v (fun e => by have : i = w.heap.size + 1 := e; omega)).trans (b1 i hi hr)⟩, ?_, (heap_setCell_other wi _ _ v (fun e => by have : w.heap.size = w.heap.size + 1 := e; omega)).trans R, heap_setCell_same wi _ j _ _ v X⟩
  exact (heap_setCell_other wi _ _ v (fun e => by have : g = w.heap.size + 1 := e; omega)).trans T
theorem ExSt.setBad {w wi : World} {g : Nat} {a : Option Addr} {cap : Nat} {l : List F} {k : Nat} {bad : Bool} {X : Array Value} (h : ExSt w wi g a cap l k bad X) (hlt : g < w.heap.size) (b : Bool) : ExSt w (wi.setCell ⟨g, 2, none⟩ (.bool b)) g a cap l k b X :=
  h.call hlt (grown_set wi g 2 _) (h.T.put2 b)
theorem fin_set {w u : World} {g : Nat} {a : Option Addr} {cap : Nat} {l : List F} {k : Nat} {bad : Bool} (h : w.grownBy u (some g) ∧ TkAt u g a cap l k bad) (hlt : g < w.heap.size) (j : Nat) (v : Value) : w.grownBy (u.setCell ⟨w.heap.size, j, none⟩ v) (some g) ∧ TkAt (u.setCell ⟨w.heap.size, j, none⟩ v) g a cap l k bad := by
  obtain ⟨⟨o1, t1, p1, s1, b1⟩, T⟩ := h
  refine ⟨⟨o1, t1, p1, by simpa [World.setCell] using s1, fun i hi hr => (heap_setCell_other u _ i v (fun e => by have : i = w.heap.size := e; omega)).trans (b1 i hi hr)⟩, ?_⟩
  exact (heap_setCell_other u _ _ v (fun e => by have : g = w.heap.size := e; omega)).trans T
theorem ExSt.start {w : World} {g : Nat} {a : Option Addr} {cap : Nat} {l : List F} {k : Nat} {bad : Bool} (h : TkAt w g a cap l k bad) : ExSt w ((w.alloc (.cells noEx.cells 23)).alloc (.cells noEx.cells 23)) g a cap l k bad noEx.cells := by
  have hg := h.facts.2.2.2.2.2
  have e1 : ∀ i, i < w.heap.size → ((w.alloc (.cells noEx.cells 23)).alloc (.cells noEx.cells 23)).heap[i]? = w.heap[i]? := fun i hi => by
    rw [heap_alloc_old _ _ (by simp; omega), heap_alloc_old _ _ hi]
  have e2 := heap_alloc_new (w.alloc (.cells noEx.cells 23)) (.cells noEx.cells 23)
  have e3 : (w.alloc (.cells noEx.cells 23)).heap.size = w.heap.size + 1 := by simp
  rw [e3] at e2
  exact ⟨⟨rfl, rfl, rfl, by simp; omega, fun j hj _ => e1 j hj⟩, (e1 g hg).trans h, by rw [heap_alloc_old _ _ (by simp), heap_alloc_new], e2⟩
theorem ExSt.cell {w wi : World} {g : Nat} {a : Option Addr} {cap : Nat} {l : List F} {k : Nat} {bad : Bool} {X : Array Value} (h : ExSt w wi g a cap l k bad X) (j : Nat) : wi.cell? ⟨w.heap.size + 1, j, none⟩ = X[j]? ∧ wi.frozen? ⟨w.heap.size + 1, j, none⟩ = false ∧ w.heap.size + 1 < wi.heap.size :=
  ⟨cell_of_row wi _ j _ _ _ h.X, frozen_of_row wi _ j _ _ h.X, (Array.getElem?_eq_some_iff.1 h.X).1⟩

set_option maxRecDepth 100000 in
set_option maxHeartbeats 4000000 in
theorem rexecT_any (g : Nat) (a : Option Addr) (cap : Nat) (l : List F) (k0 : Nat) (b0 : Bool) (w : World) (h : TkAt w g a cap l k0 b0) (hk0 : k0 ≤ l.length) (hl : l.length ≤ 100) (hr : Flds w a l) (hne : ∀ x, a = some x → x.block ≠ g) :
    Calls Tryz.prog 39 #[.pointer (some ⟨g, 0, none⟩)] w (Took w g a cap l (.agg (execR (l.drop k0, b0)).1.cells) (execR (l.drop k0, b0)).2) := by
  have hlt : g < w.heap.size := h.facts.2.2.2.2.2
  have HR := Lib.hid (fun W (hg : w.grownBy W (some g)) => flds_grown hr hg hne)
  have HNE := Lib.hid hne
  have S0 := Lib.hid h
  clear h hr hne
  go_enter Tryz.func39, Tryz.ntmps39
  go_wp2_with fail
  have hgx : ¬ g = w.heap.size + 1 := by omega
  have hgx' : ¬ w.heap.size + 1 = g := by omega
  obtain ⟨u0, hu0⟩ : ∃ W, (w.alloc (.cells noEx.cells 23)).alloc (.cells noEx.cells 23) = W := ⟨_, rfl⟩
  have S1 : ExSt w u0 g a cap l k0 b0 #[.string ⟨#[]⟩, .string ⟨#[]⟩, .string ⟨#[]⟩, .string ⟨#[]⟩, .string ⟨#[]⟩, .int .i64 0, .bool false, .int .i64 0, .int .i64 0, .int .i64 0] := hu0 ▸ ExSt.start S0.out
  change Calls _ _ _ ((w.alloc (.cells noEx.cells 23)).alloc (.cells noEx.cells 23)) _
  rw [hu0]
  clear hu0 S0
  refine (rtake_any 17 g a cap l k0 b0 _ S1.T hk0 hl (HR.out _ S1.G) HNE.out).mono ?_
  rintro e w1 ⟨rfl, hg1, k1, hk1, hd1, ht1⟩
  obtain ⟨⟨v1, r1, b1⟩, hp⟩ : ∃ p, take 17 (l.drop k0, b0) = p := ⟨_, rfl⟩
  rw [hp] at hd1 ht1 ⊢
  dsimp only at hd1 ht1 ⊢
  subst hd1
  have HP1 := Lib.hid hp
  have S2 := S1.call hlt hg1 ht1
  clear hg1 ht1 hp S1
  have ⟨x, fz, sz⟩ := S2.cell 0
  have x : w1.cell? ⟨w.heap.size + 1, 0, none⟩ = some (.string ⟨#[]⟩) := x
  go_wp2_with fail
  have S1 := S2.setX hlt 0 (.string v1) #[.string v1, .string ⟨#[]⟩, .string ⟨#[]⟩, .string ⟨#[]⟩, .string ⟨#[]⟩, .int .i64 0, .bool false, .int .i64 0, .int .i64 0, .int .i64 0] rfl
  generalize w1.setCell ⟨w.heap.size + 1, 0, none⟩ (.string v1) = u1 at S1 ⊢
  clear S2 x fz sz
  refine (rmaybe_any 19 g a cap l k1 b1 _ S1.T hk1 hl (HR.out _ S1.G) HNE.out).mono ?_
  rintro e w2 ⟨rfl, hg1, k2, hk2, hd1, ht1⟩
  obtain ⟨⟨v2, r2, b2⟩, hp⟩ : ∃ p, maybe 19 (l.drop k1, b1) = p := ⟨_, rfl⟩
  rw [hp] at hd1 ht1 ⊢
  dsimp only at hd1 ht1 ⊢
  subst hd1
  have HP2 := Lib.hid hp
  have S2 := S1.call hlt hg1 ht1
  clear hg1 ht1 hp S1
  have ⟨x, fz, sz⟩ := S2.cell 1
  have x : w2.cell? ⟨w.heap.size + 1, 1, none⟩ = some (.string ⟨#[]⟩) := x
  go_wp2_with fail
  have S1 := S2.setX hlt 1 (.string v2) #[.string v1, .string v2, .string ⟨#[]⟩, .string ⟨#[]⟩, .string ⟨#[]⟩, .int .i64 0, .bool false, .int .i64 0, .int .i64 0, .int .i64 0] rfl
  generalize w2.setCell ⟨w.heap.size + 1, 1, none⟩ (.string v2) = u2 at S1 ⊢
  clear S2 x fz sz
  refine (rtake_any 11 g a cap l k2 b2 _ S1.T hk2 hl (HR.out _ S1.G) HNE.out).mono ?_
  rintro e w3 ⟨rfl, hg1, k3, hk3, hd1, ht1⟩
  obtain ⟨⟨v3, r3, b3⟩, hp⟩ : ∃ p, take 11 (l.drop k2, b2) = p := ⟨_, rfl⟩
  rw [hp] at hd1 ht1 ⊢
  dsimp only at hd1 ht1 ⊢
  subst hd1
  have HP3 := Lib.hid hp
  have S2 := S1.call hlt hg1 ht1
  clear hg1 ht1 hp S1
  have ⟨x, fz, sz⟩ := S2.cell 2
  have x : w3.cell? ⟨w.heap.size + 1, 2, none⟩ = some (.string ⟨#[]⟩) := x
  go_wp2_with fail
  have S1 := S2.setX hlt 2 (.string v3) #[.string v1, .string v2, .string v3, .string ⟨#[]⟩, .string ⟨#[]⟩, .int .i64 0, .bool false, .int .i64 0, .int .i64 0, .int .i64 0] rfl
  generalize w3.setCell ⟨w.heap.size + 1, 2, none⟩ (.string v3) = u3 at S1 ⊢
  clear S2 x fz sz
  refine (rtake_any 1 g a cap l k3 b3 _ S1.T hk3 hl (HR.out _ S1.G) HNE.out).mono ?_
  rintro e w4 ⟨rfl, hg1, k4, hk4, hd1, ht1⟩
  obtain ⟨⟨v4, r4, b4⟩, hp⟩ : ∃ p, take 1 (l.drop k3, b3) = p := ⟨_, rfl⟩
  rw [hp] at hd1 ht1 ⊢
  dsimp only at hd1 ht1 ⊢
  subst hd1
  have HP4 := Lib.hid hp
  have S2 := S1.call hlt hg1 ht1
  clear hg1 ht1 hp S1
  have ⟨x, fz, sz⟩ := S2.cell 3
  have x : w4.cell? ⟨w.heap.size + 1, 3, none⟩ = some (.string ⟨#[]⟩) := x
  go_wp2_with fail
  have S1 := S2.setX hlt 3 (.string v4) #[.string v1, .string v2, .string v3, .string v4, .string ⟨#[]⟩, .int .i64 0, .bool false, .int .i64 0, .int .i64 0, .int .i64 0] rfl
  generalize w4.setCell ⟨w.heap.size + 1, 3, none⟩ (.string v4) = u4 at S1 ⊢
  clear S2 x fz sz
  refine (rtake_any 55 g a cap l k4 b4 _ S1.T hk4 hl (HR.out _ S1.G) HNE.out).mono ?_
  rintro e w5 ⟨rfl, hg1, k5, hk5, hd1, ht1⟩
  obtain ⟨⟨v5, r5, b5⟩, hp⟩ : ∃ p, take 55 (l.drop k4, b4) = p := ⟨_, rfl⟩
  rw [hp] at hd1 ht1 ⊢
  dsimp only at hd1 ht1 ⊢
  subst hd1
  have HP5 := Lib.hid hp
  have S2 := S1.call hlt hg1 ht1
  clear hg1 ht1 hp S1
  have ⟨x, fz, sz⟩ := S2.cell 4
  have x : w5.cell? ⟨w.heap.size + 1, 4, none⟩ = some (.string ⟨#[]⟩) := x
  go_wp2_with fail
  have S1 := S2.setX hlt 4 (.string v5) #[.string v1, .string v2, .string v3, .string v4, .string v5, .int .i64 0, .bool false, .int .i64 0, .int .i64 0, .int .i64 0] rfl
  generalize w5.setCell ⟨w.heap.size + 1, 4, none⟩ (.string v5) = u5 at S1 ⊢
  clear S2 x fz sz
  refine (rtake_any 54 g a cap l k5 b5 _ S1.T hk5 hl (HR.out _ S1.G) HNE.out).mono ?_
  rintro e w6 ⟨rfl, hg1, k6, hk6, hd1, ht1⟩
  obtain ⟨⟨v6, r6, b6⟩, hp⟩ : ∃ p, take 54 (l.drop k5, b5) = p := ⟨_, rfl⟩
  rw [hp] at hd1 ht1 ⊢
  dsimp only at hd1 ht1 ⊢
  subst hd1
  have HP6 := Lib.hid hp
  have S2 := S1.call hlt hg1 ht1
  clear hg1 ht1 hp S1
  have h1 : (v6.toList == [49]) = decide (v6 = ⟨#[49]⟩) := by rw [← str_eq, ByteArray.toList_eq ⟨#[49]⟩]
  have h2 : (v6.toList == [50]) = decide (v6 = ⟨#[50]⟩) := by rw [← str_eq, ByteArray.toList_eq ⟨#[50]⟩]
  obtain ⟨q1, hq1⟩ : ∃ q, decide (v6 = ⟨#[49]⟩) = q := ⟨_, rfl⟩
  obtain ⟨q2, hq2⟩ : ∃ q, decide (v6 = ⟨#[50]⟩) = q := ⟨_, rfl⟩
  rw [hq1] at h1
  rw [hq2] at h2
  have HQ1 := Lib.hid hq1
  have HQ2 := Lib.hid hq2
  clear hq1 hq2
  have ⟨x, fz, sz⟩ := S2.cell 6
  have x : w6.cell? ⟨w.heap.size + 1, 6, none⟩ = some (.bool false) := x
  go_upto_region 9 with fail
  have S1 := S2.setX hlt 6 (.bool q1) #[.string v1, .string v2, .string v3, .string v4, .string v5, .int .i64 0, .bool q1, .int .i64 0, .int .i64 0, .int .i64 0] rfl
  generalize w6.setCell ⟨w.heap.size + 1, 6, none⟩ (.bool q1) = u6 at S1 ⊢
  clear S2 x fz sz
  go_cut [31] (fun s31 wx => s31 = .bool (!q1 && !q2) ∧ wx = u6)
  case first =>
    cases q1 <;> cases q2
    all_goals go_wp2_with fail
    all_goals
      go_meet
      exact ⟨rfl, rfl⟩
  case rest =>
    obtain ⟨rfl, rfl⟩ := hcut
    obtain ⟨bd, hbd⟩ : ∃ bd, (!q1 && !q2) = bd := ⟨_, rfl⟩
    rw [hbd]
    have HBD := Lib.hid hbd
    clear hbd h1 h2
    go_upto_if 31 with fail
    go_cut [4] (fun s4 wx => s4 = .string v6 ∧ ExSt w wx g a cap l k6 (b6 || bd) #[.string v1, .string v2, .string v3, .string v4, .string v5, .int .i64 0, .bool q1, .int .i64 0, .int .i64 0, .int .i64 0])
    case first =>
      have ⟨_, _, c2, _, f2, hg2⟩ := S1.T.facts
      cases bd
      · go_wp2_with fail
        go_meet
        rw [Bool.or_false]
        exact ⟨rfl, S1⟩
      · go_wp2_with fail
        go_meet
        rw [Bool.or_true]
        exact ⟨rfl, S1.setBad hlt true⟩
    case rest =>
      obtain ⟨rfl, S3⟩ := hcut
      clear S1
      obtain ⟨b6x, hb6x⟩ : ∃ b, (b6 || bd) = b := ⟨_, rfl⟩
      rw [hb6x] at S3
      have HB6 := Lib.hid hb6x
      clear hb6x
      go_wp2_with fail
      refine (rnumber_any 150 g a cap l k6 b6x _ S3.T hk6 hl (HR.out _ S3.G) HNE.out).mono ?_
      rintro e w7 ⟨rfl, hg1, k7, hk7, hd1, ht1⟩
      obtain ⟨⟨v7, r7, b7⟩, hp⟩ : ∃ p, number 150 (l.drop k6, b6x) = p := ⟨_, rfl⟩
      rw [hp] at hd1 ht1 ⊢
      dsimp only at hd1 ht1 ⊢
      subst hd1
      have HP7 := Lib.hid hp
      have S1 := S3.call hlt hg1 ht1
      clear hg1 ht1 hp S3
      generalize hl1 : decide (v7 < 1) = l1
      generalize hl8 : decide (8 < v7) = l8
      have HL1 := Lib.hid hl1
      have HL8 := Lib.hid hl8
      go_upto_region 12 with fail
      go_cut [42] (fun s42 wx => s42 = .bool (l1 || l8) ∧ wx = w7)
      case first =>
        cases l1 <;> cases l8
        all_goals go_wp2_with fail
        all_goals
          go_meet
          exact ⟨rfl, rfl⟩
      case rest =>
        obtain ⟨rfl, rfl⟩ := hcut
        obtain ⟨bk, hbk⟩ : ∃ bk, (l1 || l8) = bk := ⟨_, rfl⟩
        rw [hbk]
        have HBK := Lib.hid hbk
        clear hbk hl1 hl8
        go_upto_if 42 with fail
        go_cut [5] (fun s5 wx => s5 = .int .i64 (if bk = true then 0 else v7) ∧ ExSt w wx g a cap l k7 (b7 || bk) #[.string v1, .string v2, .string v3, .string v4, .string v5, .int .i64 0, .bool q1, .int .i64 0, .int .i64 0, .int .i64 0])
        case first =>
          have ⟨_, _, c2, _, f2, hg2⟩ := S1.T.facts
          cases bk
          · go_wp2_with fail
            go_meet
            rw [Bool.or_false]
            exact ⟨by simp, S1⟩
          · go_wp2_with fail
            go_meet
            rw [Bool.or_true]
            exact ⟨by simp, S1.setBad hlt true⟩
        case rest =>
          obtain ⟨rfl, S2⟩ := hcut
          clear S1
          obtain ⟨b7x, hb7x⟩ : ∃ b, (b7 || bk) = b := ⟨_, rfl⟩
          obtain ⟨v7x, hv7x⟩ : ∃ v, (if bk = true then 0 else v7) = v := ⟨_, rfl⟩
          rw [hb7x] at S2
          rw [hv7x]
          have HB7 := Lib.hid hb7x
          have HV7 := Lib.hid hv7x
          clear hb7x hv7x
          have ⟨x, fz, sz⟩ := S2.cell 5
          have x : wc.cell? ⟨w.heap.size + 1, 5, none⟩ = some (.int .i64 0) := x
          go_wp2_with fail
          have S1 := S2.setX hlt 5 (.int .i64 v7x) #[.string v1, .string v2, .string v3, .string v4, .string v5, .int .i64 v7x, .bool q1, .int .i64 0, .int .i64 0, .int .i64 0] rfl
          generalize wc.setCell ⟨w.heap.size + 1, 5, none⟩ (.int .i64 v7x) = u7 at S1 ⊢
          clear S2 x fz sz
          refine (rnumber_any 32 g a cap l k7 b7x _ S1.T hk7 hl (HR.out _ S1.G) HNE.out).mono ?_
          rintro e w8 ⟨rfl, hg1, k8, hk8, hd1, ht1⟩
          obtain ⟨⟨v8, r8, b8⟩, hp⟩ : ∃ p, number 32 (l.drop k7, b7x) = p := ⟨_, rfl⟩
          rw [hp] at hd1 ht1 ⊢
          dsimp only at hd1 ht1 ⊢
          subst hd1
          have HP8 := Lib.hid hp
          have S2 := S1.call hlt hg1 ht1
          clear hg1 ht1 hp S1
          have ⟨x, fz, sz⟩ := S2.cell 7
          have x : w8.cell? ⟨w.heap.size + 1, 7, none⟩ = some (.int .i64 0) := x
          go_wp2_with fail
          have S1 := S2.setX hlt 7 (.int .i64 v8) #[.string v1, .string v2, .string v3, .string v4, .string v5, .int .i64 v7x, .bool q1, .int .i64 v8, .int .i64 0, .int .i64 0] rfl
          generalize w8.setCell ⟨w.heap.size + 1, 7, none⟩ (.int .i64 v8) = u8 at S1 ⊢
          clear S2 x fz sz
          refine (rnumber_any 31 g a cap l k8 b8 _ S1.T hk8 hl (HR.out _ S1.G) HNE.out).mono ?_
          rintro e w9 ⟨rfl, hg1, k9, hk9, hd1, ht1⟩
          obtain ⟨⟨v9, r9, b9⟩, hp⟩ : ∃ p, number 31 (l.drop k8, b8) = p := ⟨_, rfl⟩
          rw [hp] at hd1 ht1 ⊢
          dsimp only at hd1 ht1 ⊢
          subst hd1
          have HP9 := Lib.hid hp
          have S2 := S1.call hlt hg1 ht1
          clear hg1 ht1 hp S1
          have ⟨x, fz, sz⟩ := S2.cell 8
          have x : w9.cell? ⟨w.heap.size + 1, 8, none⟩ = some (.int .i64 0) := x
          go_wp2_with fail
          have S1 := S2.setX hlt 8 (.int .i64 v9) #[.string v1, .string v2, .string v3, .string v4, .string v5, .int .i64 v7x, .bool q1, .int .i64 v8, .int .i64 v9, .int .i64 0] rfl
          generalize w9.setCell ⟨w.heap.size + 1, 8, none⟩ (.int .i64 v9) = u9 at S1 ⊢
          clear S2 x fz sz
          refine (rnumber_any 60 g a cap l k9 b9 _ S1.T hk9 hl (HR.out _ S1.G) HNE.out).mono ?_
          rintro e w10 ⟨rfl, hg1, k10, hk10, hd1, ht1⟩
          obtain ⟨⟨v10, r10, b10⟩, hp⟩ : ∃ p, number 60 (l.drop k9, b9) = p := ⟨_, rfl⟩
          rw [hp] at hd1 ht1 ⊢
          dsimp only at hd1 ht1 ⊢
          subst hd1
          have HP10 := Lib.hid hp
          have S2 := S1.call hlt hg1 ht1
          clear hg1 ht1 hp S1
          have ⟨x, fz, sz⟩ := S2.cell 9
          have x : w10.cell? ⟨w.heap.size + 1, 9, none⟩ = some (.int .i64 0) := x
          go_upto_region 19 with fail
          have S1 := S2.setX hlt 9 (.int .i64 v10) #[.string v1, .string v2, .string v3, .string v4, .string v5, .int .i64 v7x, .bool q1, .int .i64 v8, .int .i64 v9, .int .i64 v10] rfl
          generalize w10.setCell ⟨w.heap.size + 1, 9, none⟩ (.int .i64 v10) = u10 at S1 ⊢
          clear S2 x fz sz
          have y0 : u10.cell? ⟨w.heap.size + 1, 0, none⟩ = some (.string v1) := (S1.cell 0).1
          have y1 : u10.cell? ⟨w.heap.size + 1, 1, none⟩ = some (.string v2) := (S1.cell 1).1
          have y2 : u10.cell? ⟨w.heap.size + 1, 2, none⟩ = some (.string v3) := (S1.cell 2).1
          have y3 : u10.cell? ⟨w.heap.size + 1, 3, none⟩ = some (.string v4) := (S1.cell 3).1
          have y4 : u10.cell? ⟨w.heap.size + 1, 4, none⟩ = some (.string v5) := (S1.cell 4).1
          have y5 : u10.cell? ⟨w.heap.size + 1, 5, none⟩ = some (.int .i64 v7x) := (S1.cell 5).1
          have y6 : u10.cell? ⟨w.heap.size + 1, 6, none⟩ = some (.bool q1) := (S1.cell 6).1
          have y7 : u10.cell? ⟨w.heap.size + 1, 7, none⟩ = some (.int .i64 v8) := (S1.cell 7).1
          have y8 : u10.cell? ⟨w.heap.size + 1, 8, none⟩ = some (.int .i64 v9) := (S1.cell 8).1
          have y9 : u10.cell? ⟨w.heap.size + 1, 9, none⟩ = some (.int .i64 v10) := (S1.cell 9).1
          have z0 : u10.cell? ⟨w.heap.size, 0, none⟩ = some (.string ⟨#[]⟩) := cell_of_row u10 _ 0 _ _ _ S1.R
          have fz0 : u10.frozen? ⟨w.heap.size, 0, none⟩ = false := frozen_of_row u10 _ 0 _ _ S1.R
          have z1 : u10.cell? ⟨w.heap.size, 1, none⟩ = some (.string ⟨#[]⟩) := cell_of_row u10 _ 1 _ _ _ S1.R
          have fz1 : u10.frozen? ⟨w.heap.size, 1, none⟩ = false := frozen_of_row u10 _ 1 _ _ S1.R
          have z2 : u10.cell? ⟨w.heap.size, 2, none⟩ = some (.string ⟨#[]⟩) := cell_of_row u10 _ 2 _ _ _ S1.R
          have fz2 : u10.frozen? ⟨w.heap.size, 2, none⟩ = false := frozen_of_row u10 _ 2 _ _ S1.R
          have z3 : u10.cell? ⟨w.heap.size, 3, none⟩ = some (.string ⟨#[]⟩) := cell_of_row u10 _ 3 _ _ _ S1.R
          have fz3 : u10.frozen? ⟨w.heap.size, 3, none⟩ = false := frozen_of_row u10 _ 3 _ _ S1.R
          have z4 : u10.cell? ⟨w.heap.size, 4, none⟩ = some (.string ⟨#[]⟩) := cell_of_row u10 _ 4 _ _ _ S1.R
          have fz4 : u10.frozen? ⟨w.heap.size, 4, none⟩ = false := frozen_of_row u10 _ 4 _ _ S1.R
          have z5 : u10.cell? ⟨w.heap.size, 5, none⟩ = some (.int .i64 0) := cell_of_row u10 _ 5 _ _ _ S1.R
          have fz5 : u10.frozen? ⟨w.heap.size, 5, none⟩ = false := frozen_of_row u10 _ 5 _ _ S1.R
          have z6 : u10.cell? ⟨w.heap.size, 6, none⟩ = some (.bool false) := cell_of_row u10 _ 6 _ _ _ S1.R
          have fz6 : u10.frozen? ⟨w.heap.size, 6, none⟩ = false := frozen_of_row u10 _ 6 _ _ S1.R
          have z7 : u10.cell? ⟨w.heap.size, 7, none⟩ = some (.int .i64 0) := cell_of_row u10 _ 7 _ _ _ S1.R
          have fz7 : u10.frozen? ⟨w.heap.size, 7, none⟩ = false := frozen_of_row u10 _ 7 _ _ S1.R
          have z8 : u10.cell? ⟨w.heap.size, 8, none⟩ = some (.int .i64 0) := cell_of_row u10 _ 8 _ _ _ S1.R
          have fz8 : u10.frozen? ⟨w.heap.size, 8, none⟩ = false := frozen_of_row u10 _ 8 _ _ S1.R
          have z9 : u10.cell? ⟨w.heap.size, 9, none⟩ = some (.int .i64 0) := cell_of_row u10 _ 9 _ _ _ S1.R
          have fz9 : u10.frozen? ⟨w.heap.size, 9, none⟩ = false := frozen_of_row u10 _ 9 _ _ S1.R
          have sz : w.heap.size < u10.heap.size := (Array.getElem?_eq_some_iff.1 S1.R).1
          have HX : Hid (execR (l.drop k0, b0) = (⟨v1, v2, v3, v4, v5, v7x, q1, v8, v9, v10⟩, l.drop k10, b10)) := Lib.hid (by
            have e1 := HP1.out; have e2 := HP2.out; have e3 := HP3.out; have e4 := HP4.out; have e5 := HP5.out; have e6 := HP6.out; have e7 := HP7.out; have e8 := HP8.out; have e9 := HP9.out; have e10 := HP10.out
            have eq1 := HQ1.out; have eq2 := HQ2.out; have ebd := HBD.out; have eb6 := HB6.out; have ebk := HBK.out; have el1 := HL1.out; have el8 := HL8.out; have eb7 := HB7.out; have ev7 := HV7.out
            unfold execR
            simp only [e1, e2, e3, e4, e5, e6, ne_eq, decide_not, eq1, eq2, ebd, eb6, e7, el1, el8, ebk, eb7, e8, e9, e10, ev7])
          clear HP1 HP2 HP3 HP4 HP5 HP6 HP7 HP8 HP9 HP10 HQ1 HQ2 HBD HB6 HBK HL1 HL8 HB7 HV7 HR HNE
          go_wp2_with fail
          have F := fin_set (fin_set (fin_set (fin_set (fin_set (fin_set (fin_set (fin_set (fin_set (fin_set (⟨S1.G, S1.T⟩) hlt 0 (.string v1)) hlt 1 (.string v2)) hlt 2 (.string v3)) hlt 3 (.string v4)) hlt 4 (.string v5)) hlt 5 (.int .i64 v7x)) hlt 6 (.bool q1)) hlt 7 (.int .i64 v8)) hlt 8 (.int .i64 v9)) hlt 9 (.int .i64 v10)
          rw [HX.out]
          refine bodyPost_ret (v := .agg #[.string v1, .string v2, .string v3, .string v4, .string v5, .int .i64 v7x, .bool q1, .int .i64 v8, .int .i64 v9, .int .i64 v10]) ?_ rfl ⟨rfl, F.1, k10, hk10, rfl, F.2⟩
          rw [results_cell_one rfl]
          go_simp

end Msg
end Go.Proofs.YtddblaiahgjbaaaGreatDoor
