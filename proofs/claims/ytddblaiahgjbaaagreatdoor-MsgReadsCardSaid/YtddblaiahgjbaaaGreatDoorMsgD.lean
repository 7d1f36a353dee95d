/-
  The reference's Put of layer 5.
-/
import Derived.Test.YtddblaiahgjbaaaGreatDoorMsgN
import Derived.Deep.RegionHeld3
import Derived.Deep.MidRow
import Derived.Deep.WholeRow
import Derived.Test.YtddblaiahgjbaaaGreatDoorMemS
import Derived.Test.YtddblaiahgjbaaaGreatDoorGen
namespace Go.Proofs.YtddblaiahgjbaaaGreatDoor
open Go.RowKit
namespace Msg
open Num
open Fld (F infoF)

theorem fields_chain (m : Ms) (K : Int) (hK : m.kind = K) : fieldsM m = [⟨35, kindS K⟩, numF 34 m.seq, numF 52 m.time] ++ optF m.copy ⟨43, yS⟩ ++ optF (K == 1) (numF 108 m.a) ++ optF (!m.text.toList.isEmpty) ⟨112, m.text⟩ ++
    (if (K == 4) = true then [numF 7 m.a, numF 16 m.b] else []) ++ optF m.gap ⟨123, yS⟩ ++ optF (K == 5) (numF 36 m.a) ++ (if (K == 7) = true then execF m.exec else []) := by
  subst hK
  have e1 : (m.kind == 1) = decide (m.kind = 1) := rfl
  have e5 : (m.kind == 5) = decide (m.kind = 5) := rfl
  unfold fieldsM
  rw [empty_is, e1, e5]
  simp only [beq_iff_eq, decide_not, ne_eq]
theorem rnum_x (t n : Int) (x : Nat) (X : Ex) (u4 : Value) (l : List F) (w0 : World) (b : Nat) (w : World) (hb : Below b w0 w) (hx : b ≤ w.heap.size) (hX : w.heap[x]? = some (Obj.cells X.cells 23 (0, 0))) (ho : OwnE encF 47 w b u4 l) :
    Calls Tryz.prog 19 #[.int .i64 t, .int .i64 n] w fun e w' => e = .returned (.agg #[.int .i64 t, .string (showS n)]) ∧ Below b w0 w' ∧ b ≤ w'.heap.size ∧ w'.heap[x]? = some (Obj.cells X.cells 23 (0, 0)) ∧
      w'.cell? ⟨x, 2, none⟩ = some (.string X.order) ∧ w'.cell? ⟨x, 3, none⟩ = some (.string X.account) ∧ w'.cell? ⟨x, 4, none⟩ = some (.string X.symbol) ∧ w'.cell? ⟨x, 5, none⟩ = some (.int .i64 X.kind) ∧
      w'.cell? ⟨x, 7, none⟩ = some (.int .i64 X.qty) ∧ w'.cell? ⟨x, 8, none⟩ = some (.int .i64 X.price) ∧ w'.cell? ⟨x, 9, none⟩ = some (.int .i64 X.time) ∧ OwnE encF 47 w' b u4 l :=
  (rnum_any t n w).mono fun _ w' ⟨he, h⟩ => by
    have h' := below_block hX h
    exact ⟨he, hb.trans (h.mono hx), Nat.le_trans hx h.size, h', cell_at h' rfl, cell_at h' rfl, cell_at h' rfl, cell_at h' rfl, cell_at h' rfl, cell_at h' rfl, cell_at h' rfl, ho.kept h⟩

theorem rnum_own (t n : Int) (g : Nat) (v4 v5 : Value) (u4 : Value) (l : List F) (w0 : World) (b : Nat) (w : World) (hb : Below b w0 w) (hx : b ≤ w.heap.size) (c4 : w.cell? ⟨g, 4, none⟩ = some v4) (c5 : w.cell? ⟨g, 5, none⟩ = some v5) (ho : OwnE encF 47 w b u4 l) :
    Calls Tryz.prog 19 #[.int .i64 t, .int .i64 n] w fun e w' => e = .returned (.agg #[.int .i64 t, .string (showS n)]) ∧ Below b w0 w' ∧ b ≤ w'.heap.size ∧ w'.cell? ⟨g, 4, none⟩ = some v4 ∧ w'.cell? ⟨g, 5, none⟩ = some v5 ∧ OwnE encF 47 w' b u4 l :=
  (rnum_any t n w).mono fun _ _ ⟨he, h⟩ => ⟨he, hb.trans (h.mono hx), Nat.le_trans hx h.size, (h.cell (cell_lt c4)).trans c4, (h.cell (cell_lt c5)).trans c5, ho.kept h⟩

set_option maxRecDepth 100000 in
set_option maxHeartbeats 8000000 in
theorem rput_any (m : Ms) (hm : m.Fits) (w : World) :
    Calls Tryz.prog 8 #[.agg m.cells] w (RetBytes 5 w (putM m).1 (putM m).2) := by
  have HF := Lib.hid hm
  have HR := Lib.hid (fun W => rright_any m hm W)
  clear hm
  have HBOX := Lib.hid (BoxM.made w m 25)
  have HB0 : Hid (Below w.heap.size w (w.alloc (.cells m.cells 25))) := Lib.hid ((Below.refl _ _).alloc (Nat.le_refl _) _)
  have HB00 : Hid ((w.alloc (.cells m.cells 25)).heap.size = w.heap.size + 1) := Lib.hid (by simp)
  obtain ⟨o, ho⟩ : ∃ o, rightM m = o := ⟨_, rfl⟩
  rw [ho] at HR
  have HO := Lib.hid ho
  clear ho
  obtain ⟨i0, hi0, hz0, hz1, hz2⟩ := info_parts infoF
  have HI0 := Lib.hid hi0
  have HZ0 := Lib.hid hz0
  have HZ1 := Lib.hid hz1
  have HZ2 := Lib.hid hz2
  clear hi0 hz0 hz1 hz2
  unfold Ms.cells at HR HBOX HB0 HB00 ⊢
  go_enter Tryz.func8, Tryz.ntmps8
  go_upto_region 1 with fail
  generalize hW : w.alloc (.cells _ 25) = w0 at HBOX HB0 HB00 ⊢
  clear hW
  have HRG := Lib.hid HBOX.out.range
  unfold Ms.cells at HRG
  go_wp2_with (refine wpList_load_mid rfl 25 _ rfl w.heap.size 0 rfl _ _ HRG.out Tryz.underlying25 rfl (by kernel_rfl) ?_)
  refine (HR.out _).mono ?_
  rintro e w1 ⟨rfl, hb1⟩
  have HB1 : Hid (Below (w.heap.size + 1) w0 w1) := Lib.hid (HB00.out ▸ hb1)
  have HBX1 := Lib.hid (HBOX.out.later hb1)
  have hsz1 : w.heap.size + 1 ≤ w1.heap.size := HB00.out ▸ hb1.size
  clear hb1
  obtain ⟨c0, c1, c2, c3, c4, c5, c6, c7, c8, c9, c10, c11, c12, c13, c14, c15, c16, c17⟩ := HBX1.out
  cases o
  · go_wp2_with fail
    go_ret2
    have hp : putM m = ([], 1) := by unfold putM; rw [HO.out]; rfl
    rw [hp]
    exact ⟨⟨.slice none 0 0, rfl, Own.nil _ _ _⟩, HB0.out.trans (HB1.out.mono (by omega))⟩
  · have hk1 : 1 ≤ m.kind ∧ m.kind ≤ 7 := by
      have h := HO.out
      rw [right_t] at h
      unfold t1 at h
      grind
    have HBK1 : Hid (∀ W, Below w1.heap.size w1 W → BoxM W w.heap.size m) := Lib.hid (fun W h => HBX1.out.later h)
    go_upto_region 3 with fail
    generalize Value.agg #[.int .i64 m.kind, .int .i64 m.seq, .int .i64 m.time, .bool m.copy, .int .i64 m.a, .int .i64 m.b, .bool m.gap, .string m.text, .string m.exec.id, .string m.exec.ref, .string m.exec.order, .string m.exec.account, .string m.exec.symbol, .int .i64 m.exec.kind, .bool m.exec.buy, .int .i64 m.exec.qty, .int .i64 m.exec.price, .int .i64 m.exec.time] = v0
    clear c3 c4 c5 c6 c7 c8 c9 c10 c11 c12 c13 c14 c15 c16 c17
    obtain ⟨K, hK⟩ : ∃ K, m.kind = K := ⟨_, rfl⟩
    rw [hK] at c0 hk1
    obtain ⟨ks, hks⟩ : ∃ ks, kindS K = ks := ⟨_, rfl⟩
    go_cut [4] (fun s4 wx => OwnE encF 47 wx w1.heap.size s4 [⟨35, ks⟩, numF 34 m.seq, numF 52 m.time] ∧ Below w1.heap.size w1 wx)
    case first =>
      have hbq := Below.refl w1.heap.size w1
      have hle := Nat.le_refl w1.heap.size
      have hix : ∀ W, (Instr.index 45 (.agg #[.string ⟨#[65]⟩, .string ⟨#[48]⟩, .string ⟨#[49]⟩, .string ⟨#[50]⟩, .string ⟨#[52]⟩, .string ⟨#[53]⟩, .string ⟨#[56]⟩]) (.int .i64 (K - 1))).run Tryz.prog W = .ok (.string (kindS K)) W := by
        rcases (show K = 1 ∨ K = 2 ∨ K = 3 ∨ K = 4 ∨ K = 5 ∨ K = 6 ∨ K = 7 by omega) with rfl | rfl | rfl | rfl | rfl | rfl | rfl <;> intro W <;> kernel_rfl
      rw [hks] at hix
      have hix2 : ∀ W, (Instr.index 45 (.agg #[.string ⟨#[65]⟩, .string ⟨#[48]⟩, .string ⟨#[49]⟩, .string ⟨#[50]⟩, .string ⟨#[52]⟩, .string ⟨#[53]⟩, .string ⟨#[56]⟩]) (.int .i64 (IntKind.i64.wrap (K - 1)))).run Tryz.prog W = .ok (.string ks) W := fun W => by
        have e : IntKind.i64.wrap (K - 1) = K - 1 := by
          rcases (show K = 1 ∨ K = 2 ∨ K = 3 ∨ K = 4 ∨ K = 5 ∨ K = 6 ∨ K = 7 by omega) with rfl | rfl | rfl | rfl | rfl | rfl | rfl <;> rfl
        rw [e]; exact hix W
      go_region_held3 (fun w' => Below w1.heap.size w1 w' ∧ w1.heap.size ≤ w'.heap.size ∧ w'.cell? ⟨w.heap.size, 0, none⟩ = some (.int .i64 K) ∧ w'.cell? ⟨w.heap.size, 1, none⟩ = some (.int .i64 m.seq) ∧ w'.cell? ⟨w.heap.size, 2, none⟩ = some (.int .i64 m.time))
          (((try dsimp only); (repeat' apply And.intro); all_goals (first | exact hbq.drew | assumption | exact Below.alloc (by assumption) (by assumption) _ | exact Nat.le_trans (by assumption) (by simp) | go_keep)))
          (first
            | (go_at_call 19; refine (rnum_held _ _ w.heap.size (.int .i64 K) (.int .i64 m.seq) (.int .i64 m.time) w1 w1.heap.size _ (by first | assumption | exact hbq.drew | (simp [*]; done) | (simp only [World.drew_heap]; assumption) | exact hle) (by first | assumption | exact hbq.drew | (simp [*]; done) | (simp only [World.drew_heap]; assumption) | exact hle) (by first | assumption | exact hbq.drew | (simp [*]; done) | (simp only [World.drew_heap]; assumption) | exact hle) (by first | assumption | exact hbq.drew | (simp [*]; done) | (simp only [World.drew_heap]; assumption) | exact hle) (by first | assumption | exact hbq.drew | (simp [*]; done) | (simp only [World.drew_heap]; assumption) | exact hle)).mono ?_; rintro e w6 ⟨rfl, hb6, hs6, hc6, hd6, he6⟩))
      all_goals
        go_wp2_with fail
        go_meet
        refine ⟨OwnE.mono (fields_row _ [⟨35, ks⟩, numF 34 m.seq, numF 52 m.time] _ rfl 3 rfl (by decide)) (by assumption), Below.alloc (by assumption) (by assumption) _⟩
    case rest =>
      obtain ⟨hown, hbel⟩ := hcut
      obtain ⟨L0, hL0⟩ : ∃ l, [⟨35, ks⟩, numF 34 m.seq, numF 52 m.time] = l := ⟨_, rfl⟩
      have hn0 : L0.length ≤ 3 := by rw [← hL0]; simp
      rw [hL0] at hown
      have HL0 := Lib.hid hL0.symm
      have HO0 := Lib.hid hown
      have HW0 := Lib.hid hbel
      have hwz : w1.heap.size ≤ wc.heap.size := hbel.size
      obtain ⟨-, -, -, c3, -, -, -, -, -, -, -, -, -, -, -, -, -, -⟩ := HBK1.out _ hbel
      clear hown hbel hL0
      go_upto_if 26 with fail
      go_cut [4] (fun s4 wx => OwnE encF 47 wx w1.heap.size s4 (L0 ++ optF m.copy (⟨43, yS⟩)) ∧ Below w1.heap.size w1 wx)
      case first =>
        cases hcb : m.copy <;> rw [hcb] at c3
        · go_wp2_with fail
          go_meet
          exact ⟨by rw [hcb, optF_f, List.append_nil]; exact HO0.out, HW0.out⟩
        · go_wp2_with (at_builtin; refine wpList_append_row encF (by decide) rfl (.tmp 27) (.tmp 29) _ rfl w1.heap.size 47 i0 _ 24 Tryz.underlying42 HI0.out HZ0.out HZ1.out HZ2.out (by rfl) _ _ rfl (HO0.out.kept ((Below.refl _ _).alloc (Nat.le_refl _) _)) _ _ _ [⟨43, yS⟩] rfl (by rfl) (one_row encF _ 47 _ _ (by rfl)) (by simp only [List.length_cons, List.length_nil, maxLen]; omega) (by simp only [List.length_cons, List.length_nil]; omega) (Nat.le_trans hwz (by simp)) ?_; intro v2 w2 hown2 hb2
                       have HOn := Lib.hid hown2; have HWn := Lib.hid ((HW0.out.alloc HW0.out.size _).trans hb2); clear hown2 hb2)
          go_meet
          exact ⟨by rw [hcb, optF_t]; exact HOn.out, HWn.out⟩
      
      case rest =>
        obtain ⟨hown, hbel⟩ := hcut
        obtain ⟨L1, hL1⟩ : ∃ l, L0 ++ optF m.copy (⟨43, yS⟩) = l := ⟨_, rfl⟩
        have hn1 : L1.length ≤ 4 := by rw [← hL1, List.length_append]; have := optF_le m.copy (⟨43, yS⟩); omega
        rw [hL1] at hown
        have HL1 := Lib.hid hL1.symm
        have HO1 := Lib.hid hown
        have HW1 := Lib.hid hbel
        have hwz : w1.heap.size ≤ wc.heap.size := hbel.size
        clear HO0 HW0 hn0
        obtain ⟨c0, -, -, -, c4, -, -, -, -, -, -, -, -, -, -, -, -, -⟩ := HBK1.out _ hbel
        clear hown hbel hL1
        go_upto_if 33 with fail
        go_cut [4] (fun s4 wx => OwnE encF 47 wx w1.heap.size s4 (L1 ++ optF (K == 1) (numF 108 m.a)) ∧ Below w1.heap.size w1 wx)
        case first =>
          cases hcb : (K == 1)
          · go_wp2_with fail
            go_meet
            exact ⟨by rw [hcb, optF_f, List.append_nil]; exact HO1.out, HW1.out⟩
          · go_wp2_with fail
            refine (rnum_any _ _ _).mono ?_
            rintro e w3 ⟨rfl, hb3⟩
            have HO3 := Lib.hid (HO1.out.kept hb3)
            have HW3 := Lib.hid (HW1.out.trans (hb3.mono HW1.out.size))
            have hwz3 : w1.heap.size ≤ w3.heap.size := HW3.out.size
            clear hb3
            go_wp2_with (at_builtin; refine wpList_append_row encF (by decide) rfl (.tmp 34) (.tmp 38) _ rfl w1.heap.size 47 i0 _ 24 Tryz.underlying42 HI0.out HZ0.out HZ1.out HZ2.out (by rfl) _ _ rfl (HO3.out.kept ((Below.refl _ _).alloc (Nat.le_refl _) _)) _ _ _ [numF 108 m.a] rfl (by rfl) (one_row encF _ 47 _ _ (by rfl)) (by simp only [List.length_cons, List.length_nil, maxLen]; omega) (by simp only [List.length_cons, List.length_nil]; omega) (Nat.le_trans hwz3 (by simp)) ?_; intro v2 w2 hown2 hb2
                         have HOn := Lib.hid hown2; have HWn := Lib.hid ((HW3.out.alloc HW3.out.size _).trans hb2); clear hown2 hb2)
            go_meet
            exact ⟨by rw [hcb, optF_t]; exact HOn.out, HWn.out⟩
        
        case rest =>
          obtain ⟨hown, hbel⟩ := hcut
          obtain ⟨L2, hL2⟩ : ∃ l, L1 ++ optF (K == 1) (numF 108 m.a) = l := ⟨_, rfl⟩
          have hn2 : L2.length ≤ 5 := by rw [← hL2, List.length_append]; have := optF_le (K == 1) (numF 108 m.a); omega
          rw [hL2] at hown
          have HL2 := Lib.hid hL2.symm
          have HO2 := Lib.hid hown
          have HW2 := Lib.hid hbel
          have hwz : w1.heap.size ≤ wc.heap.size := hbel.size
          clear HO1 HW1 hn1
          obtain ⟨-, -, -, -, -, -, -, c7, -, -, -, -, -, -, -, -, -, -⟩ := HBK1.out _ hbel
          clear hown hbel hL2
          go_upto_if 42 with fail
          go_cut [4] (fun s4 wx => OwnE encF 47 wx w1.heap.size s4 (L2 ++ optF (!m.text.toList.isEmpty) (⟨112, m.text⟩)) ∧ Below w1.heap.size w1 wx)
          case first =>
            cases hcb : m.text.toList.isEmpty
            · go_wp2_with (at_builtin; refine wpList_append_row encF (by decide) rfl (.tmp 43) (.tmp 47) _ rfl w1.heap.size 47 i0 _ 24 Tryz.underlying42 HI0.out HZ0.out HZ1.out HZ2.out (by rfl) _ _ rfl (HO2.out.kept ((Below.refl _ _).alloc (Nat.le_refl _) _)) _ _ _ [⟨112, m.text⟩] rfl (by rfl) (one_row encF _ 47 _ _ (by rfl)) (by simp only [List.length_cons, List.length_nil, maxLen]; omega) (by simp only [List.length_cons, List.length_nil]; omega) (Nat.le_trans hwz (by simp)) ?_; intro v2 w2 hown2 hb2
                           have HOn := Lib.hid hown2; have HWn := Lib.hid ((HW2.out.alloc HW2.out.size _).trans hb2); clear hown2 hb2)
              go_meet
              exact ⟨by rw [hcb, Bool.not_false, optF_t]; exact HOn.out, HWn.out⟩
            · go_wp2_with fail
              go_meet
              exact ⟨by rw [hcb, Bool.not_true, optF_f, List.append_nil]; exact HO2.out, HW2.out⟩
          
          case rest =>
            obtain ⟨hown, hbel⟩ := hcut
            obtain ⟨L3, hL3⟩ : ∃ l, L2 ++ optF (!m.text.toList.isEmpty) (⟨112, m.text⟩) = l := ⟨_, rfl⟩
            have hn3 : L3.length ≤ 6 := by rw [← hL3, List.length_append]; have := optF_le (!m.text.toList.isEmpty) (⟨112, m.text⟩); omega
            rw [hL3] at hown
            have HL3 := Lib.hid hL3.symm
            have HO3 := Lib.hid hown
            have HW3 := Lib.hid hbel
            have hwz : w1.heap.size ≤ wc.heap.size := hbel.size
            clear HO2 HW2 hn2
            obtain ⟨c0, -, -, -, c4, c5, -, -, -, -, -, -, -, -, -, -, -, -⟩ := HBK1.out _ hbel
            clear hown hbel hL3
            go_upto_if 51 with fail
            go_cut [4] (fun s4 wx => OwnE encF 47 wx w1.heap.size s4 (L3 ++ (if (K == 4) = true then [numF 7 m.a, numF 16 m.b] else [])) ∧ Below w1.heap.size w1 wx)
            case first =>
              cases hcb : (K == 4)
              · go_wp2_with fail
                go_meet
                exact ⟨by rw [hcb, if_neg (by simp), List.append_nil]; exact HO3.out, HW3.out⟩
              · have hbq : Below w1.heap.size w1 wc := HW3.out
                have hle := hwz
                have ho3 := HO3.out
                have hod : OwnE encF 47 wc.drew w1.heap.size u4 L3 := ho3.kept (Below.refl _ _).drew
                go_upto_region 11 with fail
                go_region_held3 (fun w' => Below w1.heap.size w1 w' ∧ w1.heap.size ≤ w'.heap.size ∧ w'.cell? ⟨w.heap.size, 4, none⟩ = some (.int .i64 m.a) ∧ w'.cell? ⟨w.heap.size, 5, none⟩ = some (.int .i64 m.b))
                  (((try dsimp only); (repeat' apply And.intro); all_goals (first | exact hbq.drew | assumption | exact Below.alloc (by assumption) (by assumption) _ | exact Nat.le_trans (by assumption) (by simp) | go_keep)))
                  (first
                    | (go_at_call 19; refine (rnum_own _ _ w.heap.size (.int .i64 m.a) (.int .i64 m.b) u4 L3 w1 w1.heap.size _ (by first | assumption | exact hbq.drew | (simp [*]; done) | (simp only [World.drew_heap]; assumption) | exact hle) (by first | assumption | exact hbq.drew | (simp [*]; done) | (simp only [World.drew_heap]; assumption) | exact hle) (by first | assumption | exact hbq.drew | (simp [*]; done) | (simp only [World.drew_heap]; assumption) | exact hle) (by first | assumption | exact hbq.drew | (simp [*]; done) | (simp only [World.drew_heap]; assumption) | exact hle) (by assumption)).mono ?_; rintro e w6 ⟨rfl, hb6, hs6, hc6, hd6, ho6⟩)
                    | (refine step_append_row encF (by decide) rfl (.tmp 52) (.tmp 59) _ (by rfl) w1.heap.size 47 i0 _ 24 Tryz.underlying42 HI0.out HZ0.out HZ1.out HZ2.out (by rfl) _ L3 (by rfl) (OwnE.kept (by assumption) ((Below.refl _ _).alloc (Nat.le_refl _) _)) _ 2 2 [numF 7 m.a, numF 16 m.b] (by rfl) (by rfl) (rows_alloc encF _ 47 _ _ (by rfl) _ (by simp)) (by simp only [List.length_cons, List.length_nil, maxLen]; omega) (by simp only [List.length_cons, List.length_nil]; omega) (Nat.le_trans (by assumption : w1.heap.size ≤ _) (by simp)) ?_; intro v2 w2 hown2 hb2 _; have hb9 : Below w1.heap.size w1 w2 := Below.trans (Below.alloc (by assumption) (by assumption) _) hb2; have hs9 := hb9.size; have hc9 := (HBK1.out _ hb9).c4; have hd9 := (HBK1.out _ hb9).c5))
                all_goals
                  go_wp2_with fail
                  go_meet
                  exact ⟨by rw [hcb, if_pos rfl]; assumption, by assumption⟩
            
            case rest =>
              obtain ⟨hown, hbel⟩ := hcut
              obtain ⟨L4, hL4⟩ : ∃ l, L3 ++ (if (K == 4) = true then [numF 7 m.a, numF 16 m.b] else []) = l := ⟨_, rfl⟩
              have hn4 : L4.length ≤ 8 := by rw [← hL4, List.length_append]; have : (if (K == 4) = true then [numF 7 m.a, numF 16 m.b] else []).length ≤ 2 := (by split <;> simp); omega
              rw [hL4] at hown
              have HL4 := Lib.hid hL4.symm
              have HO4 := Lib.hid hown
              have HW4 := Lib.hid hbel
              have hwz : w1.heap.size ≤ wc.heap.size := hbel.size
              clear HO3 HW3 hn3
              obtain ⟨-, -, -, -, -, -, c6, -, -, -, -, -, -, -, -, -, -, -⟩ := HBK1.out _ hbel
              clear hown hbel hL4
              go_upto_if 62 with fail
              go_cut [4] (fun s4 wx => OwnE encF 47 wx w1.heap.size s4 (L4 ++ optF m.gap (⟨123, yS⟩)) ∧ Below w1.heap.size w1 wx)
              case first =>
                cases hcb : m.gap <;> rw [hcb] at c6
                · go_wp2_with fail
                  go_meet
                  exact ⟨by rw [hcb, optF_f, List.append_nil]; exact HO4.out, HW4.out⟩
                · go_wp2_with (at_builtin; refine wpList_append_row encF (by decide) rfl (.tmp 63) (.tmp 65) _ rfl w1.heap.size 47 i0 _ 24 Tryz.underlying42 HI0.out HZ0.out HZ1.out HZ2.out (by rfl) _ _ rfl (HO4.out.kept ((Below.refl _ _).alloc (Nat.le_refl _) _)) _ _ _ [⟨123, yS⟩] rfl (by rfl) (one_row encF _ 47 _ _ (by rfl)) (by simp only [List.length_cons, List.length_nil, maxLen]; omega) (by simp only [List.length_cons, List.length_nil]; omega) (Nat.le_trans hwz (by simp)) ?_; intro v2 w2 hown2 hb2
                               have HOn := Lib.hid hown2; have HWn := Lib.hid ((HW4.out.alloc HW4.out.size _).trans hb2); clear hown2 hb2)
                  go_meet
                  exact ⟨by rw [hcb, optF_t]; exact HOn.out, HWn.out⟩
              
              case rest =>
                obtain ⟨hown, hbel⟩ := hcut
                obtain ⟨L5, hL5⟩ : ∃ l, L4 ++ optF m.gap (⟨123, yS⟩) = l := ⟨_, rfl⟩
                have hn5 : L5.length ≤ 9 := by rw [← hL5, List.length_append]; have := optF_le m.gap (⟨123, yS⟩); omega
                rw [hL5] at hown
                have HL5 := Lib.hid hL5.symm
                have HO5 := Lib.hid hown
                have HW5 := Lib.hid hbel
                have hwz : w1.heap.size ≤ wc.heap.size := hbel.size
                clear HO4 HW4 hn4
                obtain ⟨c0, -, -, -, c4, -, -, -, -, -, -, -, -, -, -, -, -, -⟩ := HBK1.out _ hbel
                clear hown hbel hL5
                go_upto_if 69 with fail
                go_cut [4] (fun s4 wx => OwnE encF 47 wx w1.heap.size s4 (L5 ++ optF (K == 5) (numF 36 m.a)) ∧ Below w1.heap.size w1 wx)
                case first =>
                  cases hcb : (K == 5)
                  · go_wp2_with fail
                    go_meet
                    exact ⟨by rw [hcb, optF_f, List.append_nil]; exact HO5.out, HW5.out⟩
                  · go_wp2_with fail
                    refine (rnum_any _ _ _).mono ?_
                    rintro e w3 ⟨rfl, hb3⟩
                    have HO3 := Lib.hid (HO5.out.kept hb3)
                    have HW3 := Lib.hid (HW5.out.trans (hb3.mono HW5.out.size))
                    have hwz3 : w1.heap.size ≤ w3.heap.size := HW3.out.size
                    clear hb3
                    go_wp2_with (at_builtin; refine wpList_append_row encF (by decide) rfl (.tmp 70) (.tmp 74) _ rfl w1.heap.size 47 i0 _ 24 Tryz.underlying42 HI0.out HZ0.out HZ1.out HZ2.out (by rfl) _ _ rfl (HO3.out.kept ((Below.refl _ _).alloc (Nat.le_refl _) _)) _ _ _ [numF 36 m.a] rfl (by rfl) (one_row encF _ 47 _ _ (by rfl)) (by simp only [List.length_cons, List.length_nil, maxLen]; omega) (by simp only [List.length_cons, List.length_nil]; omega) (Nat.le_trans hwz3 (by simp)) ?_; intro v2 w2 hown2 hb2
                                 have HOn := Lib.hid hown2; have HWn := Lib.hid ((HW3.out.alloc HW3.out.size _).trans hb2); clear hown2 hb2)
                    go_meet
                    exact ⟨by rw [hcb, optF_t]; exact HOn.out, HWn.out⟩
                
                case rest =>
                  obtain ⟨hown, hbel⟩ := hcut
                  obtain ⟨L6, hL6⟩ : ∃ l, L5 ++ optF (K == 5) (numF 36 m.a) = l := ⟨_, rfl⟩
                  have hn6 : L6.length ≤ 10 := by rw [← hL6, List.length_append]; have := optF_le (K == 5) (numF 36 m.a); omega
                  rw [hL6] at hown
                  have HL6 := Lib.hid hL6.symm
                  have HO6 := Lib.hid hown
                  have HW6 := Lib.hid hbel
                  have hwz : w1.heap.size ≤ wc.heap.size := hbel.size
                  clear HO5 HW5 hn5
                  obtain ⟨c0, -, -, -, -, -, -, -, -, -, -, -, -, -, -, -, -, -⟩ := HBK1.out _ hbel
                  clear hown hbel hL6
                  go_upto_if 78 with fail
                  go_cut [4] (fun s4 wx => OwnE encF 47 wx w1.heap.size s4 (L6 ++ (if (K == 7) = true then execF m.exec else [])) ∧ Below w1.heap.size w1 wx)
                  case first =>
                    cases hcb : (K == 7)
                    · go_wp2_with fail
                      go_meet
                      exact ⟨by rw [hcb, if_neg (by simp), List.append_nil]; exact HO6.out, HW6.out⟩
                    · have HRX := Lib.hid (HBK1.out _ HW6.out).rangeX
                      have HEX : Hid (execF m.exec = [⟨17, m.exec.id⟩] ++ optF (!m.exec.ref.toList.isEmpty) ⟨19, m.exec.ref⟩ ++ [⟨11, m.exec.order⟩, ⟨1, m.exec.account⟩, ⟨55, m.exec.symbol⟩, numF 54 (if m.exec.buy = true then 1 else 2), numF 150 m.exec.kind, numF 32 m.exec.qty, numF 31 m.exec.price, numF 60 m.exec.time]) := Lib.hid (by unfold execF; rw [empty_is]; simp [decide_not])
                      go_upto_region 18 with (first | (refine wpList_load_mid rfl 23 _ rfl w.heap.size 8 rfl _ _ HRX.out Tryz.underlying23 rfl (by kernel_rfl) ?_) | (refine wpList_store_row rfl 23 _ _ rfl _ _ rfl rfl _ _ (heap_alloc_last _ _) (by kernel_rfl) (by rfl) (ex_one m.exec) ?_; rw [World.setRow_alloc_new]))
                      obtain ⟨x, hx⟩ : ∃ x, wc.heap.size = x := ⟨_, rfl⟩
                      have HB7 : Hid (Below w1.heap.size w1 (wc.alloc (.cells m.exec.cells 23))) := Lib.hid (HW6.out.alloc HW6.out.size _)
                      have HO7 : Hid (OwnE encF 47 (wc.alloc (.cells m.exec.cells 23)) w1.heap.size u4 L6) := Lib.hid (HO6.out.kept ((Below.refl _ _).alloc (Nat.le_refl _) _))
                      have HX7 : Hid ((wc.alloc (.cells m.exec.cells 23)).heap[x]? = some (Obj.cells m.exec.cells 23 (0, 0))) := Lib.hid (hx ▸ heap_alloc_last _ _)
                      rw [hx]
                      generalize (wc.alloc (.cells m.exec.cells 23)) = w7 at HB7 HO7 HX7 ⊢
                      have e0 : w7.cell? ⟨x, 0, none⟩ = some (.string m.exec.id) := cell_at HX7.out rfl
                      clear hx
                      go_upto_region 19 with (at_builtin; refine wpList_append_rowk encF (by decide) rfl (.tmp 81) (.tmp 85) _ rfl w1.heap.size 47 i0 _ 24 Tryz.underlying42 HI0.out HZ0.out HZ1.out HZ2.out (by rfl) _ _ rfl (HO7.out.kept ((Below.refl _ _).alloc (Nat.le_refl _) _)) _ _ _ [⟨17, m.exec.id⟩] rfl (by rfl) (one_row encF _ 47 _ _ (by rfl)) (by simp only [List.length_cons, List.length_nil, maxLen]; omega) (by simp only [List.length_cons, List.length_nil]; omega) (Nat.le_trans HB7.out.size (by simp)) ?_; intro v2 w2 hown2 hb2 hk2; have HO8 := Lib.hid hown2; have HB8 := Lib.hid ((HB7.out.alloc HB7.out.size _).trans hb2); have HX8 := Lib.hid (hk2 _ _ _ _ (by decide) (alloc_block HX7.out)); clear hown2 hb2 hk2)
                      have e1 : w2.cell? ⟨x, 1, none⟩ = some (.string m.exec.ref) := cell_at HX8.out rfl
                      clear e0
                      go_upto_if 89 with fail
                      go_cut [4] (fun s4 wx => OwnE encF 47 wx w1.heap.size s4 (L6 ++ [⟨17, m.exec.id⟩] ++ optF (!m.exec.ref.toList.isEmpty) ⟨19, m.exec.ref⟩) ∧ Below w1.heap.size w1 wx ∧ wx.heap[x]? = some (Obj.cells m.exec.cells 23 (0, 0)))
                      case first =>
                        cases hrb : m.exec.ref.toList.isEmpty
                        · go_wp2_with (at_builtin; refine wpList_append_rowk encF (by decide) rfl (.tmp 90) (.tmp 94) _ rfl w1.heap.size 47 i0 _ 24 Tryz.underlying42 HI0.out HZ0.out HZ1.out HZ2.out (by rfl) _ _ rfl (HO8.out.kept ((Below.refl _ _).alloc (Nat.le_refl _) _)) _ _ _ [⟨19, m.exec.ref⟩] rfl (by rfl) (one_row encF _ 47 _ _ (by rfl)) (by simp only [List.length_cons, List.length_nil, List.length_append, maxLen]; omega) (by simp only [List.length_cons, List.length_nil, List.length_append]; omega) (Nat.le_trans HB8.out.size (by simp)) ?_; intro v2 w2 hown2 hb2 hk2; have HO9 := Lib.hid hown2; have HB9 := Lib.hid ((HB8.out.alloc HB8.out.size _).trans hb2); have HX9 := Lib.hid (hk2 _ _ _ _ (by decide) (alloc_block HX8.out)); clear hown2 hb2 hk2)
                          go_meet
                          exact ⟨by rw [hrb, Bool.not_false, optF_t]; exact HO9.out, HB9.out, HX9.out⟩
                        · go_wp2_with fail
                          go_meet
                          exact ⟨by rw [hrb, Bool.not_true, optF_f, List.append_nil]; exact HO8.out, HB8.out, HX8.out⟩
                      case rest =>
                        obtain ⟨hown, hbel, hxc⟩ := hcut
                        have e6 : wc.cell? ⟨x, 6, none⟩ = some (.bool m.exec.buy) := cell_at hxc rfl
                        have HO9 := Lib.hid hown
                        have HB9 := Lib.hid hbel
                        have HX9 := Lib.hid hxc
                        clear hown hbel hxc e1 HO8 HB8 HX8 HO7 HB7 HX7
                        go_upto_if 97 with fail
                        go_cut [6] (fun s6 wx => s6 = .int .i64 (if m.exec.buy = true then 1 else 2) ∧ wx = wc)
                        case first =>
                          cases hbb : m.exec.buy <;> rw [hbb] at e6
                          · go_wp2_with fail
                            go_meet
                            exact ⟨by rw [hbb]; rfl, rfl⟩
                          · go_wp2_with fail
                            go_meet
                            exact ⟨by rw [hbb]; rfl, rfl⟩
                        case rest =>
                          obtain ⟨rfl, hww⟩ := hcut
                          subst hww
                          obtain ⟨L7, hL7⟩ : ∃ l, L6 ++ [⟨17, m.exec.id⟩] ++ optF (!m.exec.ref.toList.isEmpty) ⟨19, m.exec.ref⟩ = l := ⟨_, rfl⟩
                          have hn7 : L7.length ≤ 12 := by rw [← hL7, List.length_append, List.length_append]; have := optF_le (!m.exec.ref.toList.isEmpty) ⟨19, m.exec.ref⟩; simp only [List.length_cons, List.length_nil]; omega
                          obtain ⟨sd, hsd⟩ : ∃ n : Int, (if m.exec.buy = true then 1 else 2) = n := ⟨_, rfl⟩
                          rw [hsd] at HEX ⊢
                          have HFIN : Hid (L7 ++ [⟨11, m.exec.order⟩, ⟨1, m.exec.account⟩, ⟨55, m.exec.symbol⟩, numF 54 sd, numF 150 m.exec.kind, numF 32 m.exec.qty, numF 31 m.exec.price, numF 60 m.exec.time] = L6 ++ (if (K == 7) = true then execF m.exec else [])) := Lib.hid (by rw [hcb, if_pos rfl, HEX.out, ← hL7]; simp only [List.append_assoc])
                          rw [hL7] at HO9
                          have hbq := HB9.out
                          have hle := HB9.out.size
                          have ho9 := HO9.out
                          have hod : OwnE encF 47 wc.drew w1.heap.size u4 L7 := ho9.kept (Below.refl _ _).drew
                          have hxb : wc.heap[x]? = some (Obj.cells m.exec.cells 23 (0, 0)) := HX9.out
                          have e2 : wc.cell? ⟨x, 2, none⟩ = some (.string m.exec.order) := cell_at hxb rfl
                          have e3 : wc.cell? ⟨x, 3, none⟩ = some (.string m.exec.account) := cell_at hxb rfl
                          have e4 : wc.cell? ⟨x, 4, none⟩ = some (.string m.exec.symbol) := cell_at hxb rfl
                          have e5 : wc.cell? ⟨x, 5, none⟩ = some (.int .i64 m.exec.kind) := cell_at hxb rfl
                          have e7 : wc.cell? ⟨x, 7, none⟩ = some (.int .i64 m.exec.qty) := cell_at hxb rfl
                          have e8 : wc.cell? ⟨x, 8, none⟩ = some (.int .i64 m.exec.price) := cell_at hxb rfl
                          have e9 : wc.cell? ⟨x, 9, none⟩ = some (.int .i64 m.exec.time) := cell_at hxb rfl
                          clear hL7 hsd e6 HO9 HB9 HX9
                          go_upto_region 24 with fail
                          go_region_held3 (fun w' => Below w1.heap.size w1 w' ∧ w1.heap.size ≤ w'.heap.size ∧ w'.heap[x]? = some (Obj.cells m.exec.cells 23 (0, 0)) ∧ w'.cell? ⟨x, 2, none⟩ = some (.string m.exec.order) ∧ w'.cell? ⟨x, 3, none⟩ = some (.string m.exec.account) ∧ w'.cell? ⟨x, 4, none⟩ = some (.string m.exec.symbol) ∧ w'.cell? ⟨x, 5, none⟩ = some (.int .i64 m.exec.kind) ∧ w'.cell? ⟨x, 7, none⟩ = some (.int .i64 m.exec.qty) ∧ w'.cell? ⟨x, 8, none⟩ = some (.int .i64 m.exec.price) ∧ w'.cell? ⟨x, 9, none⟩ = some (.int .i64 m.exec.time))
                            (((try dsimp only); (repeat' apply And.intro); all_goals (first | exact hbq.drew | assumption | exact Below.alloc (by assumption) (by assumption) _ | exact Nat.le_trans (by assumption) (by simp) | exact alloc_block (by assumption) | exact alloc_cell (by assumption) | exact cell_at (by assumption) rfl | go_keep)))
                            (first
                              | (go_at_call 19; refine (rnum_x _ _ x m.exec u4 L7 w1 w1.heap.size _ (by first | assumption | exact hbq.drew | (simp [*]; done) | (simp only [World.drew_heap]; assumption) | exact hle) (by first | assumption | exact hbq.drew | (simp [*]; done) | (simp only [World.drew_heap]; assumption) | exact hle) (by first | assumption | exact hbq.drew | (simp [*]; done) | (simp only [World.drew_heap]; assumption) | exact hle) (by assumption)).mono ?_; rintro e w6 ⟨rfl, hb6, hs6, hx6, h2, h3, h4, h5, h7, h8, h9, ho6⟩)
                              | (refine step_append_row encF (by decide) rfl (.tmp 98) (.tmp 122) _ (by rfl) w1.heap.size 47 i0 _ 24 Tryz.underlying42 HI0.out HZ0.out HZ1.out HZ2.out (by rfl) _ L7 (by rfl) (OwnE.kept (by assumption) ((Below.refl _ _).alloc (Nat.le_refl _) _)) _ 8 8 [⟨11, m.exec.order⟩, ⟨1, m.exec.account⟩, ⟨55, m.exec.symbol⟩, numF 54 sd, numF 150 m.exec.kind, numF 32 m.exec.qty, numF 31 m.exec.price, numF 60 m.exec.time] (by rfl) (by rfl) (rows_alloc encF _ 47 _ _ (by rfl) _ (by simp)) (by simp only [List.length_cons, List.length_nil, maxLen]; omega) (by simp only [List.length_cons, List.length_nil]; omega) (Nat.le_trans (by assumption : w1.heap.size ≤ _) (by simp)) ?_; intro v2 w2 hown2 hb2 hk2; have hb9 : Below w1.heap.size w1 w2 := Below.trans (Below.alloc (by assumption) (by assumption) _) hb2; have hs9 := hb9.size; have hx9 : w2.heap[x]? = some (Obj.cells m.exec.cells 23 (0, 0)) := hk2 _ _ _ _ (by decide) (alloc_block (by assumption))))
                          all_goals
                            go_wp2_with fail
                            go_meet
                            exact ⟨by rw [← HFIN.out]; assumption, by assumption⟩
                  case rest =>
                    obtain ⟨hown, hbel⟩ := hcut
                    have HFL : Hid (L6 ++ (if (K == 7) = true then execF m.exec else []) = fieldsM m) := Lib.hid (by rw [HL6.out, HL5.out, HL4.out, HL3.out, HL2.out, HL1.out, HL0.out, fields_chain m K hK, hks])
                    rw [HFL.out] at hown
                    have HW7 := Lib.hid hbel
                    obtain ⟨a7, c7, rfl, hrow⟩ := hown.row
                    have HRW := Lib.hid hrow.flds
                    have HFT := Lib.hid (fits_fields HO.out)
                    have hlen := (fields_may HO.out).2.2
                    obtain ⟨lf, hlf⟩ : ∃ l, fieldsM m = l := ⟨_, rfl⟩
                    have HP : Hid (putM m = (Fld.putB lf, 0)) := Lib.hid (by unfold putM; rw [if_pos HO.out, hlf])
                    rw [hlf] at HRW HFT hlen ⊢
                    clear hown hbel hrow HO6 HW6 hlf HFL
                    go_wp2_with fail
                    refine (Fld.rput_any a7 c7 lf _ HRW.out HFT.out (by omega)).mono ?_
                    rintro e w8 ⟨⟨v, rfl, ho⟩, hb8⟩
                    have HO8 := Lib.hid ho
                    have HB8 := Lib.hid hb8
                    clear ho hb8
                    go_wp2_with fail
                    go_ret2
                    rw [HP.out]
                    have h1 := HB1.out.size
                    have h7 := HW7.out.size
                    have hbb : Below w.heap.size w w8 := (HB0.out.trans (HB1.out.mono (by omega))).trans ((HW7.out.mono (by omega)).trans (HB8.out.mono (by omega)))
                    exact ⟨⟨v, rfl, HO8.out.mono (by omega)⟩, hbb⟩

end Msg
end Go.Proofs.YtddblaiahgjbaaaGreatDoor
