/-
  The reference's Right of layer 5.
-/
import Derived.Test.YtddblaiahgjbaaaGreatDoorMsgB
import Derived.Deep.CutBlock
import Derived.Deep.DeepCutAuto
import Derived.Deep.Cut
namespace Go.Proofs.YtddblaiahgjbaaaGreatDoor
open Go.RowKit
namespace Msg
open Num

theorem exec_h {x : Ex} {o : Bool} (h : execB x = o) (hx : x.Fits) (c : Array Value) (hc : c = x.cells) (w : World) : Calls Tryz.prog 12 #[.agg c] w fun e w' => e = .returned (.bool o) ∧ Below w.heap.size w w' := by
  subst hc; rw [← h]; exact rexec_any x hx w

/-- the tests, as the reference asks them, three at a time -/
def t1 (m : Ms) : Bool := decide (1 ≤ m.kind) && decide (m.kind ≤ 7) && decide (m.seq ≠ 0) && smallB m.seq && timeB m.time && smallB m.a && smallB m.b && textB m.text
def t2 (m : Ms) : Bool := if m.kind = 7 then execB m.exec else decide (m.exec = noEx)
def t3 (m : Ms) : Bool := (decide (m.kind = 5) || !m.gap) && (decide (m.kind = 4) || decide (m.b = 0)) && (decide (m.kind = 2) || decide (m.kind = 3) || decide (m.text = emp))
theorem right_t (m : Ms) : rightM m = (t1 m && t2 m && t3 m && kindA m) := by
  unfold rightM t1 t2 t3
  simp only [Bool.and_assoc]

set_option maxRecDepth 100000 in
set_option maxHeartbeats 8000000 in
theorem rright_any (m : Ms) (hm : m.Fits) (w : World) :
    Calls Tryz.prog 10 #[.agg m.cells] w fun e w' => e = .returned (.bool (rightM m)) ∧ Below w.heap.size w w' := by
  have HF := Lib.hid hm
  have hk := hm.kind
  unfold I64 at hk
  clear hm
  have HXN : Hid (∀ w, (binOp .neq 23 (.agg m.exec.cells) (.agg noEx.cells)).run Tryz.prog w = .ok (.bool (!(decide (m.exec = noEx)))) w) := Lib.hid fun w => by
    rw [run_flat_neq fitsEx (by decide) (Ex.cs HF.out.exec) (Ex.cs noEx_fits), ex_same]
  have HXE : Hid (∀ w, Calls Tryz.prog 12 #[.agg m.exec.cells] w fun e w' => e = .returned (.bool (execB m.exec)) ∧ Below w.heap.size w w') := Lib.hid fun w => rexec_any m.exec HF.out.exec w
  have HE := Lib.hid (right_t m)
  have HT1 : Hid (t1 m = (decide (1 ≤ m.kind) && decide (m.kind ≤ 7) && decide (m.seq ≠ 0) && smallB m.seq && timeB m.time && smallB m.a && smallB m.b && textB m.text)) := Lib.hid rfl
  have HT2 : Hid (t2 m = if m.kind = 7 then execB m.exec else decide (m.exec = noEx)) := Lib.hid rfl
  have HT3 : Hid (t3 m = ((decide (m.kind = 5) || !m.gap) && (decide (m.kind = 4) || decide (m.b = 0)) && (decide (m.kind = 2) || decide (m.kind = 3) || decide (m.text = emp)))) := Lib.hid rfl
  have HBOX := Lib.hid (BoxM.made w m 25)
  have HB0 : Hid (Below w.heap.size w (w.alloc (.cells m.cells 25))) := Lib.hid ((Below.refl _ _).alloc (Nat.le_refl _) _)
  obtain ⟨o, ho⟩ : ∃ o, rightM m = o := ⟨_, rfl⟩
  obtain ⟨b1, hb1⟩ : ∃ b, t1 m = b := ⟨_, rfl⟩
  obtain ⟨b2, hb2⟩ : ∃ b, t2 m = b := ⟨_, rfl⟩
  obtain ⟨b3, hb3⟩ : ∃ b, t3 m = b := ⟨_, rfl⟩
  rw [ho, hb1, hb2, hb3] at HE
  rw [hb1] at HT1
  rw [hb2] at HT2
  rw [hb3] at HT3
  rw [ho]
  clear ho hb1 hb2 hb3
  unfold Ex.cells at HXE
  unfold Ms.cells at HBOX HB0 ⊢
  go_enter Tryz.func10, Tryz.ntmps10
  go_upto_region 1 with fail
  generalize hW : w.alloc (.cells _ 25) = w0 at HBOX HB0 ⊢
  generalize Value.agg #[.int .i64 m.kind, .int .i64 m.seq, .int .i64 m.time, .bool m.copy, .int .i64 m.a, .int .i64 m.b, .bool m.gap, .string m.text, .string m.exec.id, .string m.exec.ref, .string m.exec.order, .string m.exec.account, .string m.exec.symbol, .int .i64 m.exec.kind, .bool m.exec.buy, .int .i64 m.exec.qty, .int .i64 m.exec.price, .int .i64 m.exec.time] = v0
  clear hW
  obtain ⟨c0, c1, c2, _, c4, c5, c6, c7, _, _, _, _, _, _, _, _, _, _⟩ := HBOX.out
  go_cut [46] (fun s46 wx => s46 = .bool (!b1) ∧ wx = w0)
  case first =>
    generalize hp1 : decide (m.kind < 1) = p1
    generalize hp2 : decide (7 < m.kind) = p2
    generalize hp3 : (m.seq == 0) = p3
    have HP : Hid (b1 = (!p1 && !p2 && !p3 && smallB m.seq && timeB m.time && smallB m.a && smallB m.b && textB m.text)) := Lib.hid (by rw [HT1.out]; grind)
    go_wp2_with (first
      | (refine (rtext_any _ _ HF.out.text).mono ?_; rintro e w' ⟨rfl, rfl⟩)
      | (refine (rsmall_any _ _).mono ?_; rintro e w' ⟨rfl, rfl⟩)
      | (refine (rtime_any _ _).mono ?_; rintro e w' ⟨rfl, rfl⟩))
    all_goals
      go_meet
      refine ⟨congrArg Value.bool ?_, rfl⟩
      rw [HP.out]
      clear HE HF HT1 HT2 HT3 HBOX HB0 HXN HXE HP
      simp [*]
  case rest =>
    obtain ⟨rfl, rfl⟩ := hcut
    cases b1
    · go_wp2_with fail
      go_ret
      exact ⟨ret_b (by rw [HE.out]; rfl), HB0.out⟩
    · have hxg : ∀ (op : BinOp) (x y : Operand) (a b : Array Value) (w : World), (eqGuard op 23 x y (.agg a) (.agg b)).run Tryz.prog w = .ok () w := fun op x y a b w => run_eqGuard_agg w op _ _ _ _ _ (by kernel_rfl)
      have HBX1 : Hid (∀ W, Below wc.heap.size wc W → Below w.heap.size w W ∧ BoxM W w.heap.size m) := Lib.hid fun W h => ⟨HB0.out.trans (h.mono HB0.out.size), HBOX.out.later h⟩
      go_upto_region 4 with fail
      clear c0 c1 c2 c4 c5 c6 c7
      have k0 : ∀ o, (wc.alloc o).cell? ⟨w.heap.size, 0, none⟩ = some (.int .i64 m.kind) := fun o => (HBX1.out _ ((Below.refl _ _).alloc (Nat.le_refl _) o)).2.c0
      have k8 : ∀ o, (wc.alloc o).cell? ⟨w.heap.size, 8, none⟩ = some (.string m.exec.id) := fun o => (HBX1.out _ ((Below.refl _ _).alloc (Nat.le_refl _) o)).2.c8
      have k9 : ∀ o, (wc.alloc o).cell? ⟨w.heap.size, 9, none⟩ = some (.string m.exec.ref) := fun o => (HBX1.out _ ((Below.refl _ _).alloc (Nat.le_refl _) o)).2.c9
      have k10 : ∀ o, (wc.alloc o).cell? ⟨w.heap.size, 10, none⟩ = some (.string m.exec.order) := fun o => (HBX1.out _ ((Below.refl _ _).alloc (Nat.le_refl _) o)).2.c10
      have k11 : ∀ o, (wc.alloc o).cell? ⟨w.heap.size, 11, none⟩ = some (.string m.exec.account) := fun o => (HBX1.out _ ((Below.refl _ _).alloc (Nat.le_refl _) o)).2.c11
      have k12 : ∀ o, (wc.alloc o).cell? ⟨w.heap.size, 12, none⟩ = some (.string m.exec.symbol) := fun o => (HBX1.out _ ((Below.refl _ _).alloc (Nat.le_refl _) o)).2.c12
      have k13 : ∀ o, (wc.alloc o).cell? ⟨w.heap.size, 13, none⟩ = some (.int .i64 m.exec.kind) := fun o => (HBX1.out _ ((Below.refl _ _).alloc (Nat.le_refl _) o)).2.c13
      have k14 : ∀ o, (wc.alloc o).cell? ⟨w.heap.size, 14, none⟩ = some (.bool m.exec.buy) := fun o => (HBX1.out _ ((Below.refl _ _).alloc (Nat.le_refl _) o)).2.c14
      have k15 : ∀ o, (wc.alloc o).cell? ⟨w.heap.size, 15, none⟩ = some (.int .i64 m.exec.qty) := fun o => (HBX1.out _ ((Below.refl _ _).alloc (Nat.le_refl _) o)).2.c15
      have k16 : ∀ o, (wc.alloc o).cell? ⟨w.heap.size, 16, none⟩ = some (.int .i64 m.exec.price) := fun o => (HBX1.out _ ((Below.refl _ _).alloc (Nat.le_refl _) o)).2.c16
      have k17 : ∀ o, (wc.alloc o).cell? ⟨w.heap.size, 17, none⟩ = some (.int .i64 m.exec.time) := fun o => (HBX1.out _ ((Below.refl _ _).alloc (Nat.le_refl _) o)).2.c17
      go_cut [66] (fun s66 wx => s66 = .bool (!b2) ∧ Below w.heap.size w wx ∧ BoxM wx w.heap.size m)
      case first =>
        generalize hr7 : (m.kind == 7) = r7
        have HP : Hid (b2 = if r7 = true then execB m.exec else decide (m.exec = noEx)) := Lib.hid (by rw [HT2.out, ← hr7]; simp only [beq_iff_eq])
        have hr7n : (m.kind != 7) = !r7 := by rw [← hr7]; rfl
        obtain ⟨nb, hnb⟩ : ∃ nb, decide (m.exec = noEx) = nb := ⟨_, rfl⟩
        have hxn : ∀ W, (binOp .neq 23 (.agg #[.string m.exec.id, .string m.exec.ref, .string m.exec.order, .string m.exec.account, .string m.exec.symbol, .int .i64 m.exec.kind, .bool m.exec.buy, .int .i64 m.exec.qty, .int .i64 m.exec.price, .int .i64 m.exec.time]) (.agg #[.string ⟨#[]⟩, .string ⟨#[]⟩, .string ⟨#[]⟩, .string ⟨#[]⟩, .string ⟨#[]⟩, .int .i64 0, .bool false, .int .i64 0, .int .i64 0, .int .i64 0])).run Tryz.prog W = .ok (.bool (!nb)) W := fun W => by rw [← hnb]; exact HXN.out W
        rw [hnb] at HP
        clear hnb HE HT1 HT2 HT3 HBOX HB0 HXN
        cases r7
        · have HW := Lib.hid (HBX1.out _ ((Below.refl _ wc).alloc (Nat.le_refl _) (.cells #[.string ⟨#[]⟩, .string ⟨#[]⟩, .string ⟨#[]⟩, .string ⟨#[]⟩, .string ⟨#[]⟩, .int .i64 0, .bool false, .int .i64 0, .int .i64 0, .int .i64 0] 23)))
          go_wp2_with fail
          all_goals
            go_meet
            refine ⟨congrArg Value.bool ?_, HW.out.1, HW.out.2⟩
            rw [HP.out]
            simp [*]
        · have HW := Lib.hid (fun W (h : Below (wc.alloc (.cells #[.string ⟨#[]⟩, .string ⟨#[]⟩, .string ⟨#[]⟩, .string ⟨#[]⟩, .string ⟨#[]⟩, .int .i64 0, .bool false, .int .i64 0, .int .i64 0, .int .i64 0] 23)).heap.size (wc.alloc (.cells #[.string ⟨#[]⟩, .string ⟨#[]⟩, .string ⟨#[]⟩, .string ⟨#[]⟩, .string ⟨#[]⟩, .int .i64 0, .bool false, .int .i64 0, .int .i64 0, .int .i64 0] 23)) W) => HBX1.out W (((Below.refl _ wc).alloc (Nat.le_refl _) _).trans (h.mono (by simp))))
          go_wp2_with fail
          refine (HXE.out _).mono ?_
          rintro e w' ⟨rfl, hb1⟩
          have HB1 := Lib.hid (HW.out _ hb1)
          clear hb1
          obtain ⟨xb, hxb⟩ : ∃ xb, execB m.exec = xb := ⟨_, rfl⟩
          rw [hxb] at HP ⊢
          clear hxb
          have k0b := HB1.out.2.c0
          go_wp2_with fail
          all_goals
            go_meet
            refine ⟨congrArg Value.bool ?_, HB1.out.1, HB1.out.2⟩
            rw [HP.out]
            simp [*]
      case rest =>
        obtain ⟨rfl, hb2, hbox⟩ := hcut
        have HB2 := Lib.hid hb2
        clear hb2 hxg k0 k8 k9 k10 k11 k12 k13 k14 k15 k16 k17
        obtain ⟨c0, c1, c2, _, c4, c5, c6, c7, _, _, _, _, _, _, _, _, _, _⟩ := hbox
        cases b2
        · go_wp2_with fail
          go_ret
          exact ⟨ret_b (by rw [HE.out]; rfl), HB2.out⟩
        · go_upto_region 6 with fail
          go_cut [98] (fun s98 wx => s98 = .bool (!b3) ∧ wx = wc)
          case first =>
            have HP : Hid (b3 = !(((m.kind != 5) && m.gap) || ((m.kind != 4) && (m.b != 0)) || (((m.kind != 2) && (m.kind != 3)) && !m.text.toList.isEmpty))) := Lib.hid (by rw [HT3.out, empty_is]; grind)
            generalize hq5 : (m.kind != 5) = q5 at HP
            generalize hq4 : (m.kind != 4) = q4 at HP
            generalize hq2 : (m.kind != 2) = q2 at HP
            generalize hq3 : (m.kind != 3) = q3 at HP
            generalize hqb : (m.b != 0) = qb at HP
            generalize m.gap = qg at HP c6
            generalize hqt : m.text.toList.isEmpty = qt at HP
            clear HE HT1 HT2 HT3 HBOX HB0 HXN HXE HBX1
            go_wp2_with fail
            all_goals
              go_meet
              refine ⟨congrArg Value.bool ?_, rfl⟩
              rw [HP.out]
              simp [*]
          case rest =>
            obtain ⟨rfl, rfl⟩ := hcut
            cases b3
            · go_wp2_with fail
              go_ret
              exact ⟨ret_b (by rw [HE.out]; rfl), HB2.out⟩
            · have HP : Hid (o = if (m.kind == 1) = true then true else if (m.kind == 2) = true then (m.a == 0) else if (m.kind == 3) = true then ((m.a == 0) && !m.text.toList.isEmpty) else if (m.kind == 4 || m.kind == 5) = true then decide (0 < m.a) else (m.a == 0)) := Lib.hid (by
                rw [HE.out, empty_is]
                unfold kindA
                grind)
              generalize hr1 : (m.kind == 1) = r1 at HP
              generalize hr2 : (m.kind == 2) = r2 at HP
              generalize hr3 : (m.kind == 3) = r3 at HP
              generalize hr4 : (m.kind == 4) = r4 at HP
              generalize hr5 : (m.kind == 5) = r5 at HP
              generalize hra : (m.a == 0) = ra at HP
              generalize hrp : decide (0 < m.a) = rp at HP
              generalize hrt : m.text.toList.isEmpty = rt at HP
              clear HE HT1 HT2 HT3 HBOX HB0 HXN HXE HBX1
              go_wp2_with fail
              all_goals
                go_ret
                refine ⟨ret_b ?_, HB2.out⟩
                rw [HP.out]
                clear HP
                first
                  | (simp [*]; done)
                  | (exfalso; simp_all; done)

end Msg
end Go.Proofs.YtddblaiahgjbaaaGreatDoor
