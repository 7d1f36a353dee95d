/-
  The reference's Read of layer 5.
-/
import Derived.Test.YtddblaiahgjbaaaGreatDoorMsgD
import Derived.Test.YtddblaiahgjbaaaGreatDoorMsgE
namespace Go.Proofs.YtddblaiahgjbaaaGreatDoor
open Go.RowKit
namespace Msg
open Num
open Fld (F)

/-- how it stands between two calls: the taker, the message so far (in the block behind) -/
structure RdSt (w wi : World) (g : Nat) (a : Option Addr) (cap : Nat) (l : List F) (k : Nat) (bad : Bool) (X : Array Value) : Prop where
  G : w.grownBy wi (some g)
  T : TkAt wi g a cap l k bad
  X : wi.heap[w.heap.size]? = some (.cells X 25 (0, 0))
theorem RdSt.call {w wi w' : World} {g : Nat} {a : Option Addr} {cap : Nat} {l : List F} {k k' : Nat} {bad bad' : Bool} {X : Array Value} (h : RdSt w wi g a cap l k bad X) (hlt : g < w.heap.size) (hg : wi.grownBy w' (some g)) (ht : TkAt w' g a cap l k' bad') : RdSt w w' g a cap l k' bad' X := by
  obtain ⟨G, T, X⟩ := h
  have hk := hg
  obtain ⟨_, _, _, _, b1⟩ := hk
  exact ⟨grown_trans G hg, ht, (b1 _ (Array.getElem?_eq_some_iff.1 X).1 (fun e => by have := Option.some.inj e; omega)).trans X⟩
theorem RdSt.setX {w wi : World} {g : Nat} {a : Option Addr} {cap : Nat} {l : List F} {k : Nat} {bad : Bool} {X : Array Value} (h : RdSt w wi g a cap l k bad X) (hlt : g < w.heap.size) (j : Nat) (v : Value) (Y : Array Value) (hY : X.setIfInBounds j v = Y) : RdSt w (wi.setCell ⟨w.heap.size, j, none⟩ v) g a cap l k bad Y := by
  subst hY
  obtain ⟨G, T, X⟩ := h
  obtain ⟨o1, t1, p1, s1, b1⟩ := G
  refine ⟨⟨o1, t1, p1, by simpa [World.setCell] using s1, fun i hi hr => (heap_setCell_other wi _ i v (fun e => by have : i = w.heap.size := e; omega)).trans (b1 i hi hr)⟩, ?_, heap_setCell_same wi _ j _ _ v X⟩
  exact (heap_setCell_other wi _ _ v (fun e => by have : g = w.heap.size := e; omega)).trans T
theorem RdSt.start {w : World} {g : Nat} {a : Option Addr} {cap : Nat} {l : List F} {k : Nat} {bad : Bool} (h : TkAt w g a cap l k bad) (X : Array Value) : RdSt w (w.alloc (.cells X 25)) g a cap l k bad X :=
  ⟨⟨rfl, rfl, rfl, by simp, fun j hj _ => heap_alloc_old _ _ hj⟩, (heap_alloc_old _ _ h.facts.2.2.2.2.2).trans h, heap_alloc_new _ _⟩
theorem RdSt.cell {w wi : World} {g : Nat} {a : Option Addr} {cap : Nat} {l : List F} {k : Nat} {bad : Bool} {X : Array Value} (h : RdSt w wi g a cap l k bad X) (j : Nat) : wi.cell? ⟨w.heap.size, j, none⟩ = X[j]? ∧ wi.frozen? ⟨w.heap.size, j, none⟩ = false ∧ w.heap.size < wi.heap.size :=
  ⟨cell_of_row wi _ j _ _ _ h.X, frozen_of_row wi _ j _ _ h.X, (Array.getElem?_eq_some_iff.1 h.X).1⟩

/-- the kind, as the loop finds it behind k rounds -/
def kindK (s : ByteArray) : Nat → Int
  | 0 => 0
  | k + 1 => if s = kindS (k + 1) then k + 1 else kindK s k
theorem kindK_all (s : ByteArray) : kindK s 7 = kindR s := by
  by_cases h1 : s = ⟨#[65]⟩
  · subst h1; decide
  by_cases h2 : s = ⟨#[48]⟩
  · subst h2; decide
  by_cases h3 : s = ⟨#[49]⟩
  · subst h3; decide
  by_cases h4 : s = ⟨#[50]⟩
  · subst h4; decide
  by_cases h5 : s = ⟨#[52]⟩
  · subst h5; decide
  by_cases h6 : s = ⟨#[53]⟩
  · subst h6; decide
  by_cases h7 : s = ⟨#[56]⟩
  · subst h7; decide
  · have e : kindR s = 0 := by unfold kindR; rw [if_neg h1, if_neg h2, if_neg h3, if_neg h4, if_neg h5, if_neg h6, if_neg h7]
    rw [e]
    unfold kindK kindK kindK kindK kindK kindK kindK kindK
    rw [if_neg (show ¬ s = kindS ((6 : Nat) + 1) from h7), if_neg (show ¬ s = kindS ((5 : Nat) + 1) from h6), if_neg (show ¬ s = kindS ((4 : Nat) + 1) from h5), if_neg (show ¬ s = kindS ((3 : Nat) + 1) from h4), if_neg (show ¬ s = kindS ((2 : Nat) + 1) from h3), if_neg (show ¬ s = kindS ((1 : Nat) + 1) from h2), if_neg (show ¬ s = kindS ((0 : Nat) + 1) from h1)]

/-! ### what is read may be asked of Right -/
/-! ### the end: the load behind a guard, the result's cell -/
theorem RdSt.there {w wi : World} {g : Nat} {a : Option Addr} {cap : Nat} {l : List F} {k : Nat} {bad : Bool} {X : Array Value} (h : RdSt w wi g a cap l k bad X) (o n : Nat) (hn : o + n ≤ X.size) : wi.there w.heap.size o n := fun j hj =>
  ⟨by rw [(h.cell (o + j)).1, Array.getElem?_eq_getElem (by omega)]; rfl, (h.cell (o + j)).2.1⟩
theorem readB_of {b : List UInt8} {l : List F} (h : Fld.parseL b = (l, 0)) {M : Ms} {k : Nat} {bd : Bool} (hr : readP l = (M, l.drop k, bd)) (hk : k ≤ l.length) : readB b = if bd = true ∨ k ≠ l.length ∨ rightM M = false then (noMs, 3) else (M, 0) := by
  unfold readB
  rw [h, if_neg (by simp)]
  unfold readM
  dsimp only
  rw [hr]
  have e : (l.drop k ≠ []) = (k ≠ l.length) := by
    rw [ne_eq, List.drop_eq_nil_iff]
    apply propext
    omega
  simp only [e]

set_option maxRecDepth 100000 in
set_option maxHeartbeats 8000000 in
theorem rread_any (a : Option Addr) (cap : Nat) (b : List UInt8) (w : World) (hby : BytesAt w a cap b) (hlen : b.length ≤ 1000000) :
    Calls Tryz.prog 16 #[.slice a b.length cap] w (GotM w (readB b)) := by
  have HBY : Hid (BytesAt (w.alloc (.cells noMs.cells 25)) a cap b) := Lib.hid (hby.later ((Below.refl _ _).alloc (Nat.le_refl _) _))
  have HR0 : Hid ((w.alloc (.cells noMs.cells 25)).heap[w.heap.size]? = some (.cells noMs.cells 25 (0, 0))) := Lib.hid (heap_alloc_new _ _)
  have HB0 : Hid (Below w.heap.size w (w.alloc (.cells noMs.cells 25))) := Lib.hid ((Below.refl _ _).alloc (Nat.le_refl _) _)
  have HS0 : Hid ((w.alloc (.cells noMs.cells 25)).heap.size = w.heap.size + 1) := Lib.hid (by simp)
  clear hby
  obtain ⟨l, n, hln⟩ : ∃ l n, Fld.parseL b = (l, n) := ⟨_, _, rfl⟩
  have HLN := Lib.hid hln
  go_enter Tryz.func16, Tryz.ntmps16
  go_upto_region 1 with fail
  change Code.wp _ _ _ _ (w.alloc (.cells noMs.cells 25))
  generalize w.alloc (.cells noMs.cells 25) = w0 at HBY HR0 HB0 HS0 ⊢
  have HC := Lib.hid (Fld.rparse_any a cap b w0 HBY.out (by omega))
  rw [hln] at HC
  clear hln
  go_wp2_with fail
  refine HC.out.mono ?_
  rintro e w1 ⟨⟨v, rfl, ho⟩, hb1⟩
  obtain ⟨fa, fc, rfl, hrow⟩ := ho.row
  have HO := Lib.hid ho
  have HFL := Lib.hid hrow.flds
  have HB1 := Lib.hid hb1
  have HR1 : Hid (w1.heap[w.heap.size]? = some (.cells noMs.cells 25 (0, 0))) := Lib.hid (below_block HR0.out hb1)
  have HS1 : Hid (w.heap.size + 1 ≤ w1.heap.size) := Lib.hid (HS0.out ▸ hb1.size)
  clear ho hrow hb1 HC HBY
  by_cases hn0 : n = 0
  · subst hn0
    have ⟨hra, hl⟩ := parse_right HLN.out
    have HRA := Lib.hid hra
    clear hra
    obtain ⟨g, hg⟩ : ∃ g, w1.heap.size = g := ⟨_, rfl⟩
    have HNE : Hid (∀ x, fa = some x → x.block ≠ g) := Lib.hid (own_far HO.out (by omega))
    have HT2 : Hid (TkAt (w1.alloc (.cells #[.slice fa l.length fc, .int .i64 0, .bool false] 61)) g fa fc l 0 false) := Lib.hid (hg ▸ heap_alloc_new _ _)
    have HB2 : Hid (Below w1.heap.size w1 (w1.alloc (.cells #[.slice fa l.length fc, .int .i64 0, .bool false] 61))) := Lib.hid ((Below.refl _ _).alloc (Nat.le_refl _) _)
    have HG2 : Hid (g < (w1.alloc (.cells #[.slice fa l.length fc, .int .i64 0, .bool false] 61)).heap.size) := Lib.hid (by simp [hg])
    go_upto_region 5 with fail
    try rw [hg]
    generalize (w1.alloc (.cells #[.slice fa l.length fc, .int .i64 0, .bool false] 61)) = w2 at HT2 HB2 HG2 ⊢
    have S1 := RdSt.start HT2.out noMs.cells
    have HR : Hid (∀ W, w2.grownBy W (some g) → Flds W fa l) := Lib.hid fun W h => flds_grown (HFL.out.later HB2.out) h HNE.out
    have hlt := HG2.out
    have S2 : RdSt w2 (w2.alloc (.cells #[.int .i64 0, .int .i64 0, .int .i64 0, .bool false, .int .i64 0, .int .i64 0, .bool false, .string ⟨#[]⟩, .string ⟨#[]⟩, .string ⟨#[]⟩, .string ⟨#[]⟩, .string ⟨#[]⟩, .string ⟨#[]⟩, .int .i64 0, .bool false, .int .i64 0, .int .i64 0, .int .i64 0] 25)) g fa fc l 0 false #[.int .i64 0, .int .i64 0, .int .i64 0, .bool false, .int .i64 0, .int .i64 0, .bool false, .string ⟨#[]⟩, .string ⟨#[]⟩, .string ⟨#[]⟩, .string ⟨#[]⟩, .string ⟨#[]⟩, .string ⟨#[]⟩, .int .i64 0, .bool false, .int .i64 0, .int .i64 0, .int .i64 0] := S1
    clear S1
    go_upto_region 6 with fail
    generalize w2.alloc (.cells #[.int .i64 0, .int .i64 0, .int .i64 0, .bool false, .int .i64 0, .int .i64 0, .bool false, .string ⟨#[]⟩, .string ⟨#[]⟩, .string ⟨#[]⟩, .string ⟨#[]⟩, .string ⟨#[]⟩, .string ⟨#[]⟩, .int .i64 0, .bool false, .int .i64 0, .int .i64 0, .int .i64 0] 25) = u0 at S2 ⊢
    go_wp2_with fail
    refine (rtake_any 35 g fa fc l 0 false _ S2.T (Nat.zero_le _) hl (HR.out _ S2.G) HNE.out).mono ?_
    rintro e w3 ⟨rfl, hg1, k1, hk1, hd1, ht1⟩
    obtain ⟨⟨s1, r1, b1⟩, hp⟩ : ∃ p, take 35 (l, false) = p := ⟨_, rfl⟩
    rw [List.drop_zero, hp] at hd1 ht1 ⊢
    dsimp only at hd1 ht1 ⊢
    subst hd1
    have HP1 := Lib.hid hp
    have S3 := S2.call hlt hg1 ht1
    clear hg1 ht1 hp S2
    have hix : ∀ (q : Nat), q < 7 → ∀ W, (Instr.index 45 (.agg #[.string ⟨#[65]⟩, .string ⟨#[48]⟩, .string ⟨#[49]⟩, .string ⟨#[50]⟩, .string ⟨#[52]⟩, .string ⟨#[53]⟩, .string ⟨#[56]⟩]) (.int .i64 q)).run Tryz.prog W = .ok (.string (kindS (q + 1))) W := by
      intro q hq
      rcases (show q = 0 ∨ q = 1 ∨ q = 2 ∨ q = 3 ∨ q = 4 ∨ q = 5 ∨ q = 6 by omega) with rfl | rfl | rfl | rfl | rfl | rfl | rfl <;> intro W <;> kernel_rfl
    have HIX := Lib.hid hix
    clear hix
    go_wp2_with fail
    go_loopw [9] (fun i_ wr => ∃ q : Nat, q ≤ 7 ∧ i_ = .int .i64 q ∧ RdSt w2 wr g fa fc l k1 b1 #[.int .i64 (kindK s1 q), .int .i64 0, .int .i64 0, .bool false, .int .i64 0, .int .i64 0, .bool false, .string ⟨#[]⟩, .string ⟨#[]⟩, .string ⟨#[]⟩, .string ⟨#[]⟩, .string ⟨#[]⟩, .string ⟨#[]⟩, .int .i64 0, .bool false, .int .i64 0, .int .i64 0, .int .i64 0]) (fun i_ _ => 7 - (intOf i_).toNat)
    case atStart => exact ⟨0, Nat.zero_le _, rfl, S3⟩
    case round =>
      obtain ⟨q, hq7, rfl, S4⟩ := hrel
      clear S3
      by_cases hlt7 : q < 7
      · have hix := HIX.out q hlt7
        have ⟨x, fz, sz⟩ := S4.cell 0
        have x : wr.cell? ⟨w2.heap.size, 0, none⟩ = some (.int .i64 (kindK s1 q)) := x
        have HKK : Hid (kindK s1 (q + 1) = if s1 = kindS (q + 1) then (q : Int) + 1 else kindK s1 q) := Lib.hid rfl
        obtain ⟨ks, hks⟩ : ∃ ks, kindS ((q : Int) + 1) = ks := ⟨_, rfl⟩
        rw [hks] at hix HKK
        have h1 : (s1.toList == ks.toList) = decide (s1 = ks) := str_eq s1 ks
        cases hd : decide (s1 = ks) <;> rw [hd] at h1
        · have HKE : Hid (kindK s1 (q + 1) = kindK s1 q) := Lib.hid (by rw [HKK.out, if_neg (of_decide_eq_false hd)])
          clear hd hks
          go_wp2_with fail
          go_roundw
          case rel => exact ⟨q + 1, by omega, congrArg (Value.int .i64) (by omega), by rw [HKE.out]; exact S4⟩
          case measure => simp [intOf]; omega
        · have HKE : Hid (kindK s1 (q + 1) = (q : Int) + 1) := Lib.hid (by rw [HKK.out, if_pos (of_decide_eq_true hd)])
          clear hd hks
          go_wp2_with fail
          have S5 := S4.setX hlt 0 (.int .i64 ((q : Int) + 1)) #[.int .i64 ((q : Int) + 1), .int .i64 0, .int .i64 0, .bool false, .int .i64 0, .int .i64 0, .bool false, .string ⟨#[]⟩, .string ⟨#[]⟩, .string ⟨#[]⟩, .string ⟨#[]⟩, .string ⟨#[]⟩, .string ⟨#[]⟩, .int .i64 0, .bool false, .int .i64 0, .int .i64 0, .int .i64 0] rfl
          go_roundw
          case rel => exact ⟨q + 1, by omega, congrArg (Value.int .i64) (by omega), by rw [HKE.out]; exact S5⟩
          case measure => simp [intOf]; omega
      · obtain rfl : q = 7 := by omega
        rw [kindK_all] at S4
        obtain ⟨kd, hkd⟩ : ∃ kd, kindR s1 = kd := ⟨_, rfl⟩
        rw [hkd] at S4
        have HKD := Lib.hid hkd
        clear hkd
        clear HIX
        go_wp2_with fail
        refine (rnumber_any 34 g fa fc l k1 b1 _ S4.T hk1 hl (HR.out _ S4.G) HNE.out).mono ?_
        rintro e w4 ⟨rfl, hg1, k2, hk2, hd1, ht1⟩
        obtain ⟨⟨s2, r2, b2⟩, hp⟩ : ∃ p, number 34 (l.drop k1, b1) = p := ⟨_, rfl⟩
        rw [hp] at hd1 ht1 ⊢
        dsimp only at hd1 ht1 ⊢
        subst hd1
        have HP2 := Lib.hid hp
        have SC := S4.call hlt hg1 ht1
        clear hg1 ht1 hp S4
        have ⟨x, fz, sz⟩ := SC.cell 1
        have x : w4.cell? ⟨w2.heap.size, 1, none⟩ = some (.int .i64 0) := x
        go_wp2_with fail
        have S5 := SC.setX hlt 1 (.int .i64 s2) #[.int .i64 kd, .int .i64 s2, .int .i64 0, .bool false, .int .i64 0, .int .i64 0, .bool false, .string ⟨#[]⟩, .string ⟨#[]⟩, .string ⟨#[]⟩, .string ⟨#[]⟩, .string ⟨#[]⟩, .string ⟨#[]⟩, .int .i64 0, .bool false, .int .i64 0, .int .i64 0, .int .i64 0] rfl
        generalize w4.setCell ⟨w2.heap.size, 1, none⟩ (.int .i64 s2) = u1 at S5 ⊢
        clear SC x fz sz
        refine (rnumber_any 52 g fa fc l k2 b2 _ S5.T hk2 hl (HR.out _ S5.G) HNE.out).mono ?_
        rintro e w5 ⟨rfl, hg1, k3, hk3, hd1, ht1⟩
        obtain ⟨⟨s3, r3, b3⟩, hp⟩ : ∃ p, number 52 (l.drop k2, b2) = p := ⟨_, rfl⟩
        rw [hp] at hd1 ht1 ⊢
        dsimp only at hd1 ht1 ⊢
        subst hd1
        have HP3 := Lib.hid hp
        have SC := S5.call hlt hg1 ht1
        clear hg1 ht1 hp S5
        have ⟨x, fz, sz⟩ := SC.cell 2
        have x : w5.cell? ⟨w2.heap.size, 2, none⟩ = some (.int .i64 0) := x
        go_wp2_with fail
        have S6 := SC.setX hlt 2 (.int .i64 s3) #[.int .i64 kd, .int .i64 s2, .int .i64 s3, .bool false, .int .i64 0, .int .i64 0, .bool false, .string ⟨#[]⟩, .string ⟨#[]⟩, .string ⟨#[]⟩, .string ⟨#[]⟩, .string ⟨#[]⟩, .string ⟨#[]⟩, .int .i64 0, .bool false, .int .i64 0, .int .i64 0, .int .i64 0] rfl
        generalize w5.setCell ⟨w2.heap.size, 2, none⟩ (.int .i64 s3) = u2 at S6 ⊢
        clear SC x fz sz
        refine (ryes_any 43 g fa fc l k3 b3 _ S6.T hk3 hl (HR.out _ S6.G) HNE.out).mono ?_
        rintro e w6 ⟨rfl, hg1, k4, hk4, hd1, ht1⟩
        obtain ⟨⟨s4, r4, b4⟩, hp⟩ : ∃ p, yes 43 (l.drop k3, b3) = p := ⟨_, rfl⟩
        rw [hp] at hd1 ht1 ⊢
        dsimp only at hd1 ht1 ⊢
        subst hd1
        have HP4 := Lib.hid hp
        have SC := S6.call hlt hg1 ht1
        clear hg1 ht1 hp S6
        have ⟨x, fz, sz⟩ := SC.cell 3
        have x : w6.cell? ⟨w2.heap.size, 3, none⟩ = some (.bool false) := x
        go_upto_region 15 with fail
        have S7 := SC.setX hlt 3 (.bool s4) #[.int .i64 kd, .int .i64 s2, .int .i64 s3, .bool s4, .int .i64 0, .int .i64 0, .bool false, .string ⟨#[]⟩, .string ⟨#[]⟩, .string ⟨#[]⟩, .string ⟨#[]⟩, .string ⟨#[]⟩, .string ⟨#[]⟩, .int .i64 0, .bool false, .int .i64 0, .int .i64 0, .int .i64 0] rfl
        generalize w6.setCell ⟨w2.heap.size, 3, none⟩ (.bool s4) = u3 at S7 ⊢
        clear SC x fz sz
        have ⟨x, fz, sz⟩ := S7.cell 0
        have x : u3.cell? ⟨w2.heap.size, 0, none⟩ = some (.int .i64 kd) := x
        have HHD : Hid (∀ r, tailR ⟨kd, s2, s3, s4, 0, 0, false, emp, noEx⟩ (l.drop k4, b4) = r → readP l = r) := Lib.hid fun r hr => by
          have e1 := HP1.out; have e2 := HP2.out; have e3 := HP3.out; have e4 := HP4.out; have ek := HKD.out
          rw [← hr]
          unfold readP headR
          simp only [e1, e2, e3, e4, ek]
          rfl
        clear HP1 HP2 HP3 HP4
        go_upto_block 2 with fail
        go_cut [9] (fun _ wx => ∃ (k : Nat) (bd : Bool) (M : Ms), k ≤ l.length ∧ readP l = (M, l.drop k, bd) ∧ RdSt w2 wx g fa fc l k bd M.cells)
        case first =>
          by_cases c1 : kd = 1
          · subst c1
            go_wp2_with fail
            refine (rnumber_any 108 g fa fc l k4 b4 _ S7.T hk4 hl (HR.out _ S7.G) HNE.out).mono ?_
            rintro e w7 ⟨rfl, hg1, k5, hk5, hd1, ht1⟩
            obtain ⟨⟨s5, r5, b5⟩, hp⟩ : ∃ p, number 108 (l.drop k4, b4) = p := ⟨_, rfl⟩
            rw [hp] at hd1 ht1 ⊢
            dsimp only at hd1 ht1 ⊢
            subst hd1
            have HP5 := Lib.hid hp
            have SC := S7.call hlt hg1 ht1
            clear hg1 ht1 hp S7
            have ⟨x, fz, sz⟩ := SC.cell 4
            have x : w7.cell? ⟨w2.heap.size, 4, none⟩ = some (.int .i64 0) := x
            go_wp2_with fail
            have S8 := SC.setX hlt 4 (.int .i64 s5) #[.int .i64 1, .int .i64 s2, .int .i64 s3, .bool s4, .int .i64 s5, .int .i64 0, .bool false, .string ⟨#[]⟩, .string ⟨#[]⟩, .string ⟨#[]⟩, .string ⟨#[]⟩, .string ⟨#[]⟩, .string ⟨#[]⟩, .int .i64 0, .bool false, .int .i64 0, .int .i64 0, .int .i64 0] rfl
            generalize w7.setCell ⟨w2.heap.size, 4, none⟩ (.int .i64 s5) = u4 at S8 ⊢
            clear SC x fz sz
            go_meet
            exact ⟨k5, b5, ⟨1, s2, s3, s4, s5, 0, false, emp, noEx⟩, hk5, HHD.out _ (by unfold tailR; simp [HP5.out]), S8⟩
          have d1 : (kd == 1) = false := beq_eq_false_iff_ne.2 c1
          by_cases c2 : kd = 2
          · subst c2
            clear d1
            go_wp2_with fail
            refine (rmaybe_any 112 g fa fc l k4 b4 _ S7.T hk4 hl (HR.out _ S7.G) HNE.out).mono ?_
            rintro e w7 ⟨rfl, hg1, k5, hk5, hd1, ht1⟩
            obtain ⟨⟨s5, r5, b5⟩, hp⟩ : ∃ p, maybe 112 (l.drop k4, b4) = p := ⟨_, rfl⟩
            rw [hp] at hd1 ht1 ⊢
            dsimp only at hd1 ht1 ⊢
            subst hd1
            have HP5 := Lib.hid hp
            have SC := S7.call hlt hg1 ht1
            clear hg1 ht1 hp S7
            have ⟨x, fz, sz⟩ := SC.cell 7
            have x : w7.cell? ⟨w2.heap.size, 7, none⟩ = some (.string ⟨#[]⟩) := x
            go_wp2_with fail
            have S8 := SC.setX hlt 7 (.string s5) #[.int .i64 2, .int .i64 s2, .int .i64 s3, .bool s4, .int .i64 0, .int .i64 0, .bool false, .string s5, .string ⟨#[]⟩, .string ⟨#[]⟩, .string ⟨#[]⟩, .string ⟨#[]⟩, .string ⟨#[]⟩, .int .i64 0, .bool false, .int .i64 0, .int .i64 0, .int .i64 0] rfl
            generalize w7.setCell ⟨w2.heap.size, 7, none⟩ (.string s5) = u4 at S8 ⊢
            clear SC x fz sz
            go_meet
            exact ⟨k5, b5, ⟨2, s2, s3, s4, 0, 0, false, s5, noEx⟩, hk5, HHD.out _ (by unfold tailR; simp [HP5.out]), S8⟩
          have d2 : (kd == 2) = false := beq_eq_false_iff_ne.2 c2
          by_cases c3 : kd = 3
          · subst c3
            clear d1 d2 c2
            go_wp2_with fail
            refine (rmaybe_any 112 g fa fc l k4 b4 _ S7.T hk4 hl (HR.out _ S7.G) HNE.out).mono ?_
            rintro e w7 ⟨rfl, hg1, k5, hk5, hd1, ht1⟩
            obtain ⟨⟨s5, r5, b5⟩, hp⟩ : ∃ p, maybe 112 (l.drop k4, b4) = p := ⟨_, rfl⟩
            rw [hp] at hd1 ht1 ⊢
            dsimp only at hd1 ht1 ⊢
            subst hd1
            have HP5 := Lib.hid hp
            have SC := S7.call hlt hg1 ht1
            clear hg1 ht1 hp S7
            have ⟨x, fz, sz⟩ := SC.cell 7
            have x : w7.cell? ⟨w2.heap.size, 7, none⟩ = some (.string ⟨#[]⟩) := x
            go_wp2_with fail
            have S8 := SC.setX hlt 7 (.string s5) #[.int .i64 3, .int .i64 s2, .int .i64 s3, .bool s4, .int .i64 0, .int .i64 0, .bool false, .string s5, .string ⟨#[]⟩, .string ⟨#[]⟩, .string ⟨#[]⟩, .string ⟨#[]⟩, .string ⟨#[]⟩, .int .i64 0, .bool false, .int .i64 0, .int .i64 0, .int .i64 0] rfl
            generalize w7.setCell ⟨w2.heap.size, 7, none⟩ (.string s5) = u4 at S8 ⊢
            clear SC x fz sz
            go_meet
            exact ⟨k5, b5, ⟨3, s2, s3, s4, 0, 0, false, s5, noEx⟩, hk5, HHD.out _ (by unfold tailR; simp [HP5.out]), S8⟩
          have d3 : (kd == 3) = false := beq_eq_false_iff_ne.2 c3
          by_cases c4 : kd = 4
          · subst c4
            clear d1 d2 d3 c1 c2 c3
            go_wp2_with fail
            refine (rnumber_any 7 g fa fc l k4 b4 _ S7.T hk4 hl (HR.out _ S7.G) HNE.out).mono ?_
            rintro e w7 ⟨rfl, hg1, k5, hk5, hd1, ht1⟩
            obtain ⟨⟨s5, r5, b5⟩, hp⟩ : ∃ p, number 7 (l.drop k4, b4) = p := ⟨_, rfl⟩
            rw [hp] at hd1 ht1 ⊢
            dsimp only at hd1 ht1 ⊢
            subst hd1
            have HP5 := Lib.hid hp
            have SC := S7.call hlt hg1 ht1
            clear hg1 ht1 hp S7
            have ⟨x, fz, sz⟩ := SC.cell 4
            have x : w7.cell? ⟨w2.heap.size, 4, none⟩ = some (.int .i64 0) := x
            go_wp2_with fail
            have S8 := SC.setX hlt 4 (.int .i64 s5) #[.int .i64 4, .int .i64 s2, .int .i64 s3, .bool s4, .int .i64 s5, .int .i64 0, .bool false, .string ⟨#[]⟩, .string ⟨#[]⟩, .string ⟨#[]⟩, .string ⟨#[]⟩, .string ⟨#[]⟩, .string ⟨#[]⟩, .int .i64 0, .bool false, .int .i64 0, .int .i64 0, .int .i64 0] rfl
            generalize w7.setCell ⟨w2.heap.size, 4, none⟩ (.int .i64 s5) = u4 at S8 ⊢
            clear SC x fz sz
            refine (rnumber_any 16 g fa fc l k5 b5 _ S8.T hk5 hl (HR.out _ S8.G) HNE.out).mono ?_
            rintro e w8 ⟨rfl, hg1, k6, hk6, hd1, ht1⟩
            obtain ⟨⟨s6, r6, b6⟩, hp⟩ : ∃ p, number 16 (l.drop k5, b5) = p := ⟨_, rfl⟩
            rw [hp] at hd1 ht1 ⊢
            dsimp only at hd1 ht1 ⊢
            subst hd1
            have HP6 := Lib.hid hp
            have SC := S8.call hlt hg1 ht1
            clear hg1 ht1 hp S8
            have ⟨x, fz, sz⟩ := SC.cell 5
            have x : w8.cell? ⟨w2.heap.size, 5, none⟩ = some (.int .i64 0) := x
            go_wp2_with fail
            have S9 := SC.setX hlt 5 (.int .i64 s6) #[.int .i64 4, .int .i64 s2, .int .i64 s3, .bool s4, .int .i64 s5, .int .i64 s6, .bool false, .string ⟨#[]⟩, .string ⟨#[]⟩, .string ⟨#[]⟩, .string ⟨#[]⟩, .string ⟨#[]⟩, .string ⟨#[]⟩, .int .i64 0, .bool false, .int .i64 0, .int .i64 0, .int .i64 0] rfl
            generalize w8.setCell ⟨w2.heap.size, 5, none⟩ (.int .i64 s6) = u5 at S9 ⊢
            clear SC x fz sz
            go_meet
            exact ⟨k6, b6, ⟨4, s2, s3, s4, s5, s6, false, emp, noEx⟩, hk6, HHD.out _ (by unfold tailR; simp [HP5.out, HP6.out]), S9⟩
          have d4 : (kd == 4) = false := beq_eq_false_iff_ne.2 c4
          by_cases c5 : kd = 5
          · subst c5
            clear d1 d2 d3 d4 c1 c2 c3 c4
            go_wp2_with fail
            refine (ryes_any 123 g fa fc l k4 b4 _ S7.T hk4 hl (HR.out _ S7.G) HNE.out).mono ?_
            rintro e w7 ⟨rfl, hg1, k5, hk5, hd1, ht1⟩
            obtain ⟨⟨s5, r5, b5⟩, hp⟩ : ∃ p, yes 123 (l.drop k4, b4) = p := ⟨_, rfl⟩
            rw [hp] at hd1 ht1 ⊢
            dsimp only at hd1 ht1 ⊢
            subst hd1
            have HP5 := Lib.hid hp
            have SC := S7.call hlt hg1 ht1
            clear hg1 ht1 hp S7
            have ⟨x, fz, sz⟩ := SC.cell 6
            have x : w7.cell? ⟨w2.heap.size, 6, none⟩ = some (.bool false) := x
            go_wp2_with fail
            have S8 := SC.setX hlt 6 (.bool s5) #[.int .i64 5, .int .i64 s2, .int .i64 s3, .bool s4, .int .i64 0, .int .i64 0, .bool s5, .string ⟨#[]⟩, .string ⟨#[]⟩, .string ⟨#[]⟩, .string ⟨#[]⟩, .string ⟨#[]⟩, .string ⟨#[]⟩, .int .i64 0, .bool false, .int .i64 0, .int .i64 0, .int .i64 0] rfl
            generalize w7.setCell ⟨w2.heap.size, 6, none⟩ (.bool s5) = u4 at S8 ⊢
            clear SC x fz sz
            refine (rnumber_any 36 g fa fc l k5 b5 _ S8.T hk5 hl (HR.out _ S8.G) HNE.out).mono ?_
            rintro e w8 ⟨rfl, hg1, k6, hk6, hd1, ht1⟩
            obtain ⟨⟨s6, r6, b6⟩, hp⟩ : ∃ p, number 36 (l.drop k5, b5) = p := ⟨_, rfl⟩
            rw [hp] at hd1 ht1 ⊢
            dsimp only at hd1 ht1 ⊢
            subst hd1
            have HP6 := Lib.hid hp
            have SC := S8.call hlt hg1 ht1
            clear hg1 ht1 hp S8
            have ⟨x, fz, sz⟩ := SC.cell 4
            have x : w8.cell? ⟨w2.heap.size, 4, none⟩ = some (.int .i64 0) := x
            go_wp2_with fail
            have S9 := SC.setX hlt 4 (.int .i64 s6) #[.int .i64 5, .int .i64 s2, .int .i64 s3, .bool s4, .int .i64 s6, .int .i64 0, .bool s5, .string ⟨#[]⟩, .string ⟨#[]⟩, .string ⟨#[]⟩, .string ⟨#[]⟩, .string ⟨#[]⟩, .string ⟨#[]⟩, .int .i64 0, .bool false, .int .i64 0, .int .i64 0, .int .i64 0] rfl
            generalize w8.setCell ⟨w2.heap.size, 4, none⟩ (.int .i64 s6) = u5 at S9 ⊢
            clear SC x fz sz
            go_meet
            exact ⟨k6, b6, ⟨5, s2, s3, s4, s6, 0, s5, emp, noEx⟩, hk6, HHD.out _ (by unfold tailR; simp [HP5.out, HP6.out]), S9⟩
          have d5 : (kd == 5) = false := beq_eq_false_iff_ne.2 c5
          by_cases c7 : kd = 7
          · subst c7
            clear d1 d2 d3 d4 d5 c1 c2 c3 c4 c5
            go_wp2_with fail
            refine (rexecT_any g fa fc l k4 b4 _ S7.T hk4 hl (HR.out _ S7.G) HNE.out).mono ?_
            rintro e w7 ⟨rfl, hg1, k5, hk5, hd1, ht1⟩
            obtain ⟨⟨s5, r5, b5⟩, hp⟩ : ∃ p, execR (l.drop k4, b4) = p := ⟨_, rfl⟩
            rw [hp] at hd1 ht1 ⊢
            dsimp only at hd1 ht1 ⊢
            subst hd1
            have HP5 := Lib.hid hp
            have SC := S7.call hlt hg1 ht1
            clear hg1 ht1 hp S7
            have HTH := Lib.hid (SC.there 8 10 (by show 18 ≤ 18; omega))
            go_wp2_with (refine wpList_store_mid rfl 23 _ _ rfl w2.heap.size 8 _ rfl rfl HTH.out (by kernel_rfl) (ex_one s5) ?_)
            have SE0 := SC.setX hlt 8 (.string s5.id) #[.int .i64 7, .int .i64 s2, .int .i64 s3, .bool s4, .int .i64 0, .int .i64 0, .bool false, .string ⟨#[]⟩, .string s5.id, .string ⟨#[]⟩, .string ⟨#[]⟩, .string ⟨#[]⟩, .string ⟨#[]⟩, .int .i64 0, .bool false, .int .i64 0, .int .i64 0, .int .i64 0] rfl
            have SE1 := SE0.setX hlt 9 (.string s5.ref) #[.int .i64 7, .int .i64 s2, .int .i64 s3, .bool s4, .int .i64 0, .int .i64 0, .bool false, .string ⟨#[]⟩, .string s5.id, .string s5.ref, .string ⟨#[]⟩, .string ⟨#[]⟩, .string ⟨#[]⟩, .int .i64 0, .bool false, .int .i64 0, .int .i64 0, .int .i64 0] rfl
            have SE2 := SE1.setX hlt 10 (.string s5.order) #[.int .i64 7, .int .i64 s2, .int .i64 s3, .bool s4, .int .i64 0, .int .i64 0, .bool false, .string ⟨#[]⟩, .string s5.id, .string s5.ref, .string s5.order, .string ⟨#[]⟩, .string ⟨#[]⟩, .int .i64 0, .bool false, .int .i64 0, .int .i64 0, .int .i64 0] rfl
            have SE3 := SE2.setX hlt 11 (.string s5.account) #[.int .i64 7, .int .i64 s2, .int .i64 s3, .bool s4, .int .i64 0, .int .i64 0, .bool false, .string ⟨#[]⟩, .string s5.id, .string s5.ref, .string s5.order, .string s5.account, .string ⟨#[]⟩, .int .i64 0, .bool false, .int .i64 0, .int .i64 0, .int .i64 0] rfl
            have SE4 := SE3.setX hlt 12 (.string s5.symbol) #[.int .i64 7, .int .i64 s2, .int .i64 s3, .bool s4, .int .i64 0, .int .i64 0, .bool false, .string ⟨#[]⟩, .string s5.id, .string s5.ref, .string s5.order, .string s5.account, .string s5.symbol, .int .i64 0, .bool false, .int .i64 0, .int .i64 0, .int .i64 0] rfl
            have SE5 := SE4.setX hlt 13 (.int .i64 s5.kind) #[.int .i64 7, .int .i64 s2, .int .i64 s3, .bool s4, .int .i64 0, .int .i64 0, .bool false, .string ⟨#[]⟩, .string s5.id, .string s5.ref, .string s5.order, .string s5.account, .string s5.symbol, .int .i64 s5.kind, .bool false, .int .i64 0, .int .i64 0, .int .i64 0] rfl
            have SE6 := SE5.setX hlt 14 (.bool s5.buy) #[.int .i64 7, .int .i64 s2, .int .i64 s3, .bool s4, .int .i64 0, .int .i64 0, .bool false, .string ⟨#[]⟩, .string s5.id, .string s5.ref, .string s5.order, .string s5.account, .string s5.symbol, .int .i64 s5.kind, .bool s5.buy, .int .i64 0, .int .i64 0, .int .i64 0] rfl
            have SE7 := SE6.setX hlt 15 (.int .i64 s5.qty) #[.int .i64 7, .int .i64 s2, .int .i64 s3, .bool s4, .int .i64 0, .int .i64 0, .bool false, .string ⟨#[]⟩, .string s5.id, .string s5.ref, .string s5.order, .string s5.account, .string s5.symbol, .int .i64 s5.kind, .bool s5.buy, .int .i64 s5.qty, .int .i64 0, .int .i64 0] rfl
            have SE8 := SE7.setX hlt 16 (.int .i64 s5.price) #[.int .i64 7, .int .i64 s2, .int .i64 s3, .bool s4, .int .i64 0, .int .i64 0, .bool false, .string ⟨#[]⟩, .string s5.id, .string s5.ref, .string s5.order, .string s5.account, .string s5.symbol, .int .i64 s5.kind, .bool s5.buy, .int .i64 s5.qty, .int .i64 s5.price, .int .i64 0] rfl
            have SE9 := SE8.setX hlt 17 (.int .i64 s5.time) #[.int .i64 7, .int .i64 s2, .int .i64 s3, .bool s4, .int .i64 0, .int .i64 0, .bool false, .string ⟨#[]⟩, .string s5.id, .string s5.ref, .string s5.order, .string s5.account, .string s5.symbol, .int .i64 s5.kind, .bool s5.buy, .int .i64 s5.qty, .int .i64 s5.price, .int .i64 s5.time] rfl
            have S8 : RdSt w2 (w7.setCells w2.heap.size 8 s5.cells.toList) g fa fc l k5 b5 (Ms.cells ⟨7, s2, s3, s4, 0, 0, false, emp, s5⟩) := SE9
            go_meet
            exact ⟨k5, b5, ⟨7, s2, s3, s4, 0, 0, false, emp, s5⟩, hk5, HHD.out _ (by unfold tailR; simp [HP5.out]), S8⟩
          have d7 : (kd == 7) = false := beq_eq_false_iff_ne.2 c7
          go_wp2_with fail
          go_meet
          exact ⟨k4, b4, ⟨kd, s2, s3, s4, 0, 0, false, emp, noEx⟩, hk4, HHD.out _ (by unfold tailR; simp [c1, c2, c3, c4, c5, c7]), S7⟩
        case rest =>
          obtain ⟨k, bd, M, hk, hrp, S⟩ := hcut
          have HRB := Lib.hid (readB_of HLN.out hrp hk)
          have HMF : Hid M.Fits := Lib.hid (by have := readP_fits HRA.out; rw [hrp] at this; exact this)
          clear hrp HHD
          have HRR : Hid (∀ W, Below wc.heap.size wc W → W.heap[w.heap.size]? = some (.cells noMs.cells 25 (0, 0))) := Lib.hid fun W hW => by
            have hs := HS1.out
            have h2 : w2.heap[w.heap.size]? = some (.cells noMs.cells 25 (0, 0)) := below_block HR1.out HB2.out
            have h3 : wc.heap[w.heap.size]? = some (.cells noMs.cells 25 (0, 0)) := by rw [S.G.block _ (Array.getElem?_eq_some_iff.1 h2).1 (fun e => by have := Option.some.inj e; omega)]; exact h2
            exact below_block h3 hW
          have HBW : Hid (Below w.heap.size w wc) := Lib.hid (by
            have hs := HS1.out
            have h1 : Below w.heap.size w w1 := HB0.out.trans (HB1.out.mono HB0.out.size)
            have h2 : Below w.heap.size w w2 := h1.trans (HB2.out.mono h1.size)
            exact h2.grown S.G h2.size fun r hr => by have := Option.some.inj hr; omega)
          have ⟨_, y1, y2, _, _, yg⟩ := S.T.facts
          have HX := Lib.hid S.X
          have HBS := Lib.hid (RdSt.call S hlt (grown_refl _ _) S.T)
          clear S
          cases bd
          · cases dk : ((k : Int) != (l.length : Int))
            · have hke : k = l.length := by have := bne_eq_false_iff_eq.1 dk; omega
              have HRX : Hid (wc.rangeAt w2.heap.size 0 M.cells.toList) := Lib.hid (block_range HX.out)
              go_wp2_with (refine wpList_load_mid_g (by rfl) 25 _ rfl w2.heap.size 0 rfl _ _ HRX.out Tryz.underlying25 rfl (by kernel_rfl) ?_)
              refine (rright_any M HMF.out _).mono ?_
              rintro e w8 ⟨rfl, hb8⟩
              have HB8 := Lib.hid hb8
              have HRX8 : Hid (w8.rangeAt w2.heap.size 0 M.cells.toList) := Lib.hid (block_range (below_block HX.out hb8))
              have HR8 := Lib.hid (HRR.out _ hb8)
              have HBW8 : Hid (Below w.heap.size w w8) := Lib.hid (HBW.out.trans (hb8.mono HBW.out.size))
              clear hb8
              obtain ⟨o, ho⟩ : ∃ o, rightM M = o := ⟨_, rfl⟩
              rw [ho] at HRB ⊢
              clear ho
              cases o
              · have HRE : Hid (readB b = (noMs, 3)) := Lib.hid (by rw [HRB.out, if_pos (.inr (.inr rfl))])
                go_wp2_with (refine wpList_store_row rfl 25 _ _ rfl w.heap.size _ rfl rfl _ _ HR8.out (by kernel_rfl) (by rfl) (by simp [Value.oneCell']) ?_)
                refine bodyPost_ret (read_end rfl w.heap.size w8 _ _ _ _ HR8.out rfl rfl rfl) rfl ?_
                rw [HRE.out]
                exact ⟨rfl, below_setRow HBW8.out (Nat.le_refl _) _⟩
              · have HRE : Hid (readB b = (M, 0)) := Lib.hid (by rw [HRB.out, if_neg (by rintro (h | h | h); cases h; exact h hke; cases h)])
                go_wp2_with (first | (refine wpList_store_row rfl 25 _ _ rfl w.heap.size _ rfl rfl _ _ HR8.out (by kernel_rfl) (by rfl) (ms_one M) ?_) | (refine wpList_load_mid rfl 25 _ rfl w2.heap.size 0 rfl _ _ HRX8.out Tryz.underlying25 rfl (by kernel_rfl) ?_))
                refine bodyPost_ret (read_end rfl w.heap.size w8 _ _ _ _ HR8.out rfl rfl rfl) rfl ?_
                rw [HRE.out]
                exact ⟨rfl, below_setRow HBW8.out (Nat.le_refl _) _⟩
            · have hke : k ≠ l.length := fun e => by rw [e] at dk; simp at dk
              have HRE : Hid (readB b = (noMs, 3)) := Lib.hid (by rw [HRB.out, if_pos (.inr (.inl hke))])
              have HRC := Lib.hid (HRR.out _ (Below.refl _ _))
              go_wp2_with (refine wpList_store_row rfl 25 _ _ rfl w.heap.size _ rfl rfl _ _ HRC.out (by kernel_rfl) (by rfl) (by simp [Value.oneCell']) ?_)
              refine bodyPost_ret (read_end rfl w.heap.size wc _ _ _ _ HRC.out rfl rfl rfl) rfl ?_
              rw [HRE.out]
              exact ⟨rfl, below_setRow HBW.out (Nat.le_refl _) _⟩
          · have HRE : Hid (readB b = (noMs, 3)) := Lib.hid (by rw [HRB.out, if_pos (.inl rfl)])
            have HRC := Lib.hid (HRR.out _ (Below.refl _ _))
            go_wp2_with (refine wpList_store_row rfl 25 _ _ rfl w.heap.size _ rfl rfl _ _ HRC.out (by kernel_rfl) (by rfl) (by simp [Value.oneCell']) ?_)
            refine bodyPost_ret (read_end rfl w.heap.size wc _ _ _ _ HRC.out rfl rfl rfl) rfl ?_
            rw [HRE.out]
            exact ⟨rfl, below_setRow HBW.out (Nat.le_refl _) _⟩
  · have HRE : Hid (readB b = (noMs, n)) := Lib.hid (by unfold readB; rw [HLN.out, if_pos hn0])
    have dn : (n != 0) = true := by rw [bne_iff_ne]; exact hn0
    have HBW : Hid (Below w.heap.size w w1) := Lib.hid (HB0.out.trans (HB1.out.mono HB0.out.size))
    go_wp2_with (refine wpList_store_row rfl 25 _ _ rfl w.heap.size _ rfl rfl _ _ HR1.out (by kernel_rfl) (by rfl) (by simp [Value.oneCell']) ?_)
    refine bodyPost_ret (read_end rfl w.heap.size w1 _ _ _ _ HR1.out rfl rfl rfl) rfl ?_
    rw [HRE.out]
    exact ⟨rfl, below_setRow HBW.out (Nat.le_refl _) _⟩

end Msg
end Go.Proofs.YtddblaiahgjbaaaGreatDoor
