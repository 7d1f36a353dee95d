/-
  The walk of layer 6's laws: ReseqRoom.
-/
import Derived.Test.YtnldllmlfckecaaRsqL
import Derived.Test.YtnldllmlfckecaaRsqD
import Derived.OpenShut
import Derived.Deep.CutBlock
import Derived.Deep.DeepCutAuto
import Derived.Deep.Cut
namespace Go.Proofs.Ytnldllmlfckecaa
open Go.RowKit
namespace Rsq
open Num
open Msg (I64)

/-- so many wait, one behind the other, but for one ahead of them -/
def heldN (nx : Int) (k : Nat) : List It := run Msg.noMs (nx + 1) k
theorem heldN_len (nx : Int) (k : Nat) : (heldN nx k).length = k := run_len _ _ _
theorem it_fits (a b : Int) (ha : I64 a) (hb : I64 b) : (iOf a b).Fits := by
  have z : I64 0 := by unfold I64; decide
  exact ⟨ha, hb, ⟨z, z, z, z, z, by show Msg.emp.size ≤ 9223372036854775807; decide, Msg.noEx_fits⟩⟩
theorem heldN_fits {nx : Int} {k : Nat} (h0 : 0 < nx) (h1 : nx ≤ 1000000) (hk : k ≤ 64) : ∀ i ∈ heldN nx k, i.Fits := fun i hi => by
  have h := run_mem _ hi
  have e : i = iOf i.fr i.to := by
    have : ∀ {f : Int} {k : Nat} {y : It}, y ∈ run Msg.noMs f k → y.m = Msg.noMs := by
      intro f k
      induction k generalizing f with
      | zero => intro y hy; cases hy
      | succ k ih =>
        intro y hy
        unfold run at hy
        rcases List.mem_cons.1 hy with rfl | hy
        · rfl
        · exact ih hy
    obtain ⟨a, b, m⟩ := i
    have := this hi
    simp only at this
    subst this
    rfl
  rw [e]
  exact it_fits _ _ (by unfold I64; omega) (by unfold I64; omega)
theorem step_is {nx : Int} {k : Nat} (h0 : 0 < nx) (h1 : nx ≤ 1000000) (hk : k ≤ 64) (j : Nat) (hj : k = min j 64) (hj2 : j ≤ 1000) :
    come ⟨nx, heldN nx k⟩ (iOf (nx + 1 + j) (nx + 1 + j + 1)) = (⟨nx, heldN nx (min (j + 1) 64)⟩, [], if j < 64 then 2 else 4) := by
  have h := room_step Msg.noMs h0 h1 hk j hj hj2
  unfold heldN iOf
  rw [h]
  by_cases c : j < 64
  · rw [if_pos c, if_pos c, show min (j + 1) 64 = k + 1 by omega]
  · rw [if_neg c, if_neg c, show min (j + 1) 64 = k by omega]
theorem same_i (c d : Array Value) (x y : Li) (fx : ∀ i ∈ x.held, i.Fits) (fy : ∀ i ∈ y.held, i.Fits) (a0 : Option Addr) (cap0 n : Nat) (a1 : Option Addr) (cap1 m : Nat) (hc : c = #[.int .i64 x.next, .slice a0 n cap0]) (hd : d = #[.int .i64 y.next, .slice a1 m cap1])
    (hn : x.held.length = n) (hm : y.held.length = m) (hn9 : n ≤ 100000000) (hm9 : m ≤ 100000000) (w : World) (h0 : RowAt encI w a0 cap0 x.held) (h1 : RowAt encI w a1 cap1 y.held) (o : Bool) (ho : (decide (x.next = y.next) && decide (x.held = y.held)) = o) :
    Calls Try.prog 15 #[.agg c, .agg d] w fun e w' => e = .returned (.bool o) ∧ Below w.heap.size w w' := by
  subst hc hd ho
  exact rsame_any x y fx fy a0 cap0 n a1 cap1 m hn hm hn9 hm9 w h0 h1

set_option maxRecDepth 100000 in
set_option maxHeartbeats 8000000 in
theorem law_ReseqRoom (next more : Int) (joins : Bool) (w : World) (hx : (Lit.int .u16 next).wf = true) (hm : (Lit.int .u8 more).wf = true) (hl : Laid w) :
    Calls Try.prog 6 #[.int .u16 next, .int .u8 more, .bool joins] w fun e w' => e = .returned (.bool true) ∧ Below w.heap.size w w' := by
  have HL := Lib.hid hl
  have hx := bounds_u16 hx
  have hm := bounds_u8 hm
  obtain ⟨mr, rfl⟩ : ∃ mr : Nat, more = (mr : Int) := ⟨more.toNat, by omega⟩
  obtain ⟨nx, hnx⟩ : ∃ nx : Int, next = nx - 1 := ⟨next + 1, by omega⟩
  subst hnx
  have h0 : 0 < nx := by omega
  have h1 : nx ≤ 65536 := by omega
  have hmr : mr ≤ 255 := by omega
  clear hl hx hm
  go_enter Try.func6, Try.ntmps6
  go_wp2_with fail
  refine (awake6_any _ HL.out).mono ?_
  rintro e w1 ⟨rfl, hb1⟩
  have HB1 := Lib.hid hb1
  clear hb1
  have ew : IntKind.i64.wrap (nx - 1 + 1) = nx := by rw [IntKind.wrap_i64]; omega
  have ew0 : nx - 1 + 1 = nx := by omega
  obtain ⟨g, hg⟩ : ∃ g, w1.heap.size = g := ⟨_, rfl⟩
  have HG4 : Hid (LnAt (w1.alloc (.cells #[.int .i64 nx, .slice none 0 0] 24)) g nx none 0 0) := Lib.hid (hg ▸ LnAt.made w1 nx none 0 0)
  have HB4 : Hid (Below g w1 (w1.alloc (.cells #[.int .i64 nx, .slice none 0 0] 24))) := Lib.hid (hg ▸ (Below.refl _ _).alloc (Nat.le_refl _) _)
  have HGE : Hid (w1.heap.size = g) := Lib.hid hg
  go_upto_region 4 with fail
  generalize w1.alloc (.cells #[.int .i64 nx, .slice none 0 0] 24) = w4 at HG4 HB4 ⊢
  have HBW : Hid (∀ W, Below g w1 W → Below w.heap.size w W) := Lib.hid fun W h => HB1.out.trans (h.mono (by rw [← HGE.out]; exact HB1.out.size))
  clear hg ew ew0
  obtain ⟨z0, z1, f0, f1, s0⟩ := HG4.out.facts
  have ew1 : IntKind.i64.wrap (nx + 1) = nx + 1 := by rw [IntKind.wrap_i64]; omega
  go_wp2_with fail
  go_loopw [9] (fun i_ wr => ∃ (j q : Nat) (a : Option Addr) (c : Nat), i_ = .int .i64 j ∧ j ≤ mr ∧ q = min j 64 ∧ LnAt wr g nx a q c ∧ RowAt encI wr a c (heldN nx q) ∧ Below g w1 wr) (fun i_ _ => mr - (intOf i_).toNat)
  case atStart => exact ⟨0, 0, none, 0, rfl, Nat.zero_le _, rfl, HG4.out, .inl ⟨rfl, rfl, rfl⟩, HB4.out⟩
  case round =>
    obtain ⟨j, q, a, c, rfl, hj, hq, hln, hrow, hbel⟩ := hrel
    have HG := Lib.hid hln
    have HR := Lib.hid hrow
    have HB := Lib.hid hbel
    have HQ := Lib.hid hq
    have hq64 : q ≤ 64 := by omega
    clear hln hrow hbel z0 z1 f0 f1 s0 hq
    obtain ⟨z0, z1, f0, f1, s0⟩ := HG.out.facts
    by_cases hlt : j < mr
    · have ew2 : IntKind.i64.wrap (nx + 1 + (j : Int)) = nx + 1 + j := by rw [IntKind.wrap_i64]; omega
      have ew3 : IntKind.i64.wrap (nx + 1 + (j : Int) + 1) = nx + 1 + j + 1 := by rw [IntKind.wrap_i64]; omega
      obtain ⟨q2, hq2⟩ : ∃ q2, min (j + 1) 64 = q2 := ⟨_, rfl⟩
      obtain ⟨kk, hkk⟩ : ∃ kk : Int, (if j < 64 then 2 else 4) = kk := ⟨_, rfl⟩
      have HST := Lib.hid (step_is h0 (by omega) hq64 j HQ.out (by omega))
      rw [hq2, hkk] at HST
      have HQ2 := Lib.hid hq2
      have HKK := Lib.hid hkk
      clear hq2 hkk
      go_wp2_with fail
      refine (come_is _ _ ⟨nx, heldN nx q⟩ (iOf (nx + 1 + j) (nx + 1 + j + 1)) a c q rfl rfl (heldN_len _ _) (by omega) _ HR.out (HL.out.below (HBW.out _ HB.out)) _ _ _ q2 0 HST.out (heldN_len _ _) rfl).mono ?_
      rintro e w2 ⟨a', c', b', d', rfl, hr2, -, hb2⟩
      obtain ⟨p, hp⟩ : ∃ p, w2.heap.size = p := ⟨_, rfl⟩
      have HA3 : Hid (LnAt (w2.alloc (.cells #[.int .i64 nx, .slice a' q2 c'] 24)) p nx a' q2 c') := Lib.hid (hp ▸ LnAt.made w2 nx a' q2 c')
      have hba : Below w2.heap.size w2 (w2.alloc (.cells #[.int .i64 nx, .slice a' q2 c'] 24)) := (Below.refl _ _).alloc (Nat.le_refl _) _
      have HG3 := Lib.hid ((HG.out.later hb2).later hba)
      have HR3 := Lib.hid (hr2.later hba)
      have hgg : g ≤ wr.heap.size := Nat.le_of_lt s0
      have hbb : Below g w1 w2 := HB.out.trans (hb2.mono hgg)
      have HB3 := Lib.hid (hbb.trans (hba.mono (Nat.le_trans hgg hb2.size)))
      clear hb2 hr2 hba z0 z1 f0 f1 s0 hgg hbb
      go_upto_region 9 with fail
      generalize w2.alloc (.cells #[.int .i64 nx, .slice a' q2 c'] 24) = w3 at HA3 HG3 HR3 HB3 ⊢
      clear hp ew2 ew3
      obtain ⟨z0, z1, f0, f1, s0⟩ := HG3.out.facts
      obtain ⟨y0, y1, -, -, -⟩ := HA3.out.facts
      have HG5 := Lib.hid (HG3.out.put nx a' q2 c')
      have HR5 := Lib.hid (HG3.out.row HR3.out nx a' q2 c')
      have HB5 : Hid (Below g w1 ((w3.setCell ⟨g, 0, none⟩ (.int .i64 nx)).setCell ⟨g, 1, none⟩ (.slice a' q2 c'))) := Lib.hid ((HB3.out.setCell (Nat.le_refl _) _).setCell (Nat.le_refl _) _)
      by_cases c64 : j < 64
      · obtain rfl : kk = 2 := by rw [← HKK.out, if_pos c64]
        go_wp2_with fail
        go_roundw
        case rel => exact ⟨j + 1, q2, a', c', congrArg (Value.int .i64) (by omega), by omega, HQ2.out.symm, HG5.out, HR5.out, HB5.out⟩
        case measure => simp [intOf]; omega
      · obtain rfl : kk = 4 := by rw [← HKK.out, if_neg c64]
        go_wp2_with fail
        go_roundw
        case rel => exact ⟨j + 1, q2, a', c', congrArg (Value.int .i64) (by omega), by omega, HQ2.out.symm, HG5.out, HR5.out, HB5.out⟩
        case measure => simp [intOf]; omega
    · obtain rfl : j = mr := by omega
      have HSO := Lib.hid (room_old Msg.noMs h0 (by omega) hq64)
      have HSJ := Lib.hid (room_joins Msg.noMs h0 (by omega) hq64)
      have m1 : min (j : Int) 64 = (q : Int) := by have := HQ.out; omega
      have m2 : (if (j : Int) < 64 then (j : Int) else 64) = (q : Int) := by have := HQ.out; split <;> omega
      have m3 : (if (64 : Int) < (j : Int) then 64 else (j : Int)) = (q : Int) := by have := HQ.out; split <;> omega
      clear hlt hj
      go_upto_region 18 with fail
      clear m1 m2 m3
      have hgg : g ≤ wr.heap.size := Nat.le_of_lt s0
      have HGG := Lib.hid hgg
      clear hgg
      cases joins
      · have ew5 : IntKind.i64.wrap (nx - 1) = nx - 1 := by rw [IntKind.wrap_i64]; omega
        obtain ⟨kk, hkk⟩ : ∃ kk : Int, (if nx = 1 then 0 else 3) = kk := ⟨_, rfl⟩
        rw [hkk] at HSO
        have HKK := Lib.hid hkk
        clear hkk
        go_wp2_with fail
        refine (come_is _ _ ⟨nx, heldN nx q⟩ (iOf (nx - 1) nx) a c q rfl rfl (heldN_len _ _) (by omega) _ HR.out (HL.out.below (HBW.out _ HB.out)) _ _ _ q 0 HSO.out (heldN_len _ _) rfl).mono ?_
        rintro e w2 ⟨a', c', b', d', rfl, hr2, -, hb2⟩
        obtain ⟨p, hp⟩ : ∃ p, w2.heap.size = p := ⟨_, rfl⟩
        have HA3 : Hid (LnAt (w2.alloc (.cells #[.int .i64 nx, .slice a' q c'] 24)) p nx a' q c') := Lib.hid (hp ▸ LnAt.made w2 nx a' q c')
        have hba : Below w2.heap.size w2 (w2.alloc (.cells #[.int .i64 nx, .slice a' q c'] 24)) := (Below.refl _ _).alloc (Nat.le_refl _) _
        have HG3 := Lib.hid ((HG.out.later hb2).later hba)
        have HR3 := Lib.hid (hr2.later hba)
        have HR4 := Lib.hid ((HR.out.later hb2).later hba)
        have HB3 := Lib.hid ((HB.out.trans (hb2.mono HGG.out)).trans (hba.mono (Nat.le_trans HGG.out hb2.size)))
        clear hb2 hr2 hba z0 z1 f0 f1 s0
        go_upto_region 20 with fail
        generalize w2.alloc (.cells #[.int .i64 nx, .slice a' q c'] 24) = w3 at HA3 HG3 HR3 HR4 HB3 ⊢
        clear hp ew5
        obtain ⟨z0, z1, f0, f1, s0⟩ := HG3.out.facts
        obtain ⟨y0, y1, -, -, -⟩ := HA3.out.facts
        have HSM := Lib.hid (fun W h1 h2 => same_i _ _ ⟨nx, heldN nx q⟩ ⟨nx, heldN nx q⟩ (heldN_fits h0 (by omega) hq64) (heldN_fits h0 (by omega) hq64) a' c' q a c q rfl rfl (heldN_len _ _) (heldN_len _ _) (by omega) (by omega) W h1 h2 true (by simp))
        by_cases c1 : nx = 1
        · obtain rfl : kk = 0 := by rw [← HKK.out, if_pos c1]
          have d1 : (nx == 1) = true := by rw [beq_iff_eq]; exact c1
          clear c1
          go_wp2_with fail
          refine (HSM.out _ HR3.out HR4.out).mono ?_
          rintro e w5 ⟨rfl, hb⟩
          go_wp2_with fail
          go_ret
          exact ⟨rfl, HBW.out _ (HB3.out.trans (hb.mono (Nat.le_of_lt s0)))⟩
        · obtain rfl : kk = 3 := by rw [← HKK.out, if_neg c1]
          have d1 : (nx == 1) = false := by rw [beq_eq_false_iff_ne]; exact c1
          have d2 : decide (1 < nx) = true := decide_eq_true (by omega)
          clear c1
          go_wp2_with fail
          refine (HSM.out _ HR3.out HR4.out).mono ?_
          rintro e w5 ⟨rfl, hb⟩
          go_wp2_with fail
          go_ret
          exact ⟨rfl, HBW.out _ (HB3.out.trans (hb.mono (Nat.le_of_lt s0)))⟩
      · have HLN : Hid ((⟨nx, nx + 1, Msg.noMs⟩ :: run Msg.noMs (nx + 1) q : List It).length = q + 1) := Lib.hid (by rw [List.length_cons, run_len])
        obtain ⟨q1, hq1⟩ : ∃ q1, q + 1 = q1 := ⟨_, rfl⟩
        rw [hq1] at HLN
        have HQ1 := Lib.hid hq1
        clear hq1
        go_wp2_with fail
        refine (come_is _ _ ⟨nx, heldN nx q⟩ (iOf nx (nx + 1)) a c q rfl rfl (heldN_len _ _) (by omega) _ HR.out (HL.out.below (HBW.out _ HB.out)) _ _ _ 0 q1 HSJ.out rfl HLN.out).mono ?_
        rintro e w2 ⟨a', c', b', d', rfl, -, -, hb2⟩
        obtain ⟨p, hp⟩ : ∃ p, w2.heap.size = p := ⟨_, rfl⟩
        obtain ⟨nn, hnn⟩ : ∃ nn, nx + 1 + (q : Int) = nn := ⟨_, rfl⟩
        have HNN := Lib.hid hnn
        rw [hnn]
        clear hnn
        have HA3 : Hid (LnAt (w2.alloc (.cells #[.int .i64 nn, .slice a' 0 c'] 24)) p nn a' 0 c') := Lib.hid (hp ▸ LnAt.made w2 nn a' 0 c')
        have hba : Below w2.heap.size w2 (w2.alloc (.cells #[.int .i64 nn, .slice a' 0 c'] 24)) := (Below.refl _ _).alloc (Nat.le_refl _) _
        have HG3 := Lib.hid ((HG.out.later hb2).later hba)
        have HB3 := Lib.hid ((HB.out.trans (hb2.mono HGG.out)).trans (hba.mono (Nat.le_trans HGG.out hb2.size)))
        clear hb2 hba z0 z1 f0 f1 s0
        go_upto_region 22 with fail
        generalize w2.alloc (.cells #[.int .i64 nn, .slice a' 0 c'] 24) = w3 at HA3 HG3 HB3 ⊢
        clear hp
        obtain ⟨z0, z1, f0, f1, s0⟩ := HG3.out.facts
        obtain ⟨y0, y1, -, -, -⟩ := HA3.out.facts
        have e1 : IntKind.i64.wrap ((q : Int) + 1) = (q1 : Int) := by rw [IntKind.wrap_i64]; have := HQ1.out; omega
        have e2 : IntKind.i64.wrap (nx + (q : Int)) = nx + q := by rw [IntKind.wrap_i64]; omega
        have e3 : IntKind.i64.wrap (nx + (q : Int) + 1) = nn := by rw [IntKind.wrap_i64]; have := HNN.out; omega
        go_wp2_with fail
        go_ret
        exact ⟨rfl, HBW.out _ HB3.out⟩

end Rsq
end Go.Proofs.Ytnldllmlfckecaa
