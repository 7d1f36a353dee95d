/-
  The program's Sum and Right of layer 3 (as landed in 3f6d5d6e).
-/
import Derived.Test.YtddblaiahgjbaaaDoorFrmB
import Derived.Test.YtddblaiahgjbaaaDoorFldR
namespace Go.Proofs.YtddblaiahgjbaaaDoor
open Go.RowKit
namespace Frm
open Num
open Fld (parseL F)

theorem own_any (t : Int) (w : World) :
    Calls Tryd.prog 18 #[.int .i64 t] w fun e w' => e = .returned (.bool (t == 8 || t == 9 || t == 10)) ∧ w' = w := by
  cases d8 : (t == 8) <;> cases d9 : (t == 9) <;> cases d10 : (t == 10)
  all_goals
    go_enter Tryd.func18, Tryd.ntmps18
    go_wp2_with fail
    go_ret
    exact ⟨rfl, rfl⟩
theorem free_own (t : Int) (v : ByteArray) : freeF ⟨t, v⟩ = !(t == 8 || t == 9 || t == 10) := by
  rw [free_is]
  cases (t == 8) <;> cases (t == 9) <;> cases (t == 10) <;> rfl
theorem own_is (t : Int) (v : ByteArray) (o : Bool) (h : freeF ⟨t, v⟩ = !o) (w : World) :
    Calls Tryd.prog 18 #[.int .i64 t] w fun e w' => e = .returned (.bool o) ∧ w' = w := by
  have e : o = (t == 8 || t == 9 || t == 10) := by
    rw [free_own] at h
    generalize (t == 8 || t == 9 || t == 10) = x at h ⊢
    cases o <;> cases x <;> first | rfl | cases h
  rw [e]
  exact own_any t w
theorem right_err {b : List UInt8} (h : (parseL b).2 ≠ 0) : rightY b = false := by
  unfold rightY
  rw [decide_eq_false h]
  simp

set_option maxHeartbeats 1000000 in
theorem right_any (a : Option Addr) (cap : Nat) (b : List UInt8) (w : World) (hby : BytesAt w a cap b) (hlen : b.length ≤ 1000000) (hl : Laid w) :
    Calls Tryd.prog 10 #[.slice a b.length cap] w fun e w' => e = .returned (.bool (rightY b)) ∧ Below w.heap.size w w' := by
  have HF := Lib.hid hby
  have HL := Lib.hid hl
  clear hby hl
  by_cases h0 : b.length = 0
  · have HP := Lib.hid (right_len (.inl h0))
    go_enter Tryd.func10, Tryd.ntmps10
    go_wp2_with fail
    go_ret
    exact ⟨ret_b HP.out.symm, Below.refl _ _⟩
  have d0 : decide ((b.length : Int) < 1) = false := decide_eq_false (by omega)
  by_cases h1 : 8000 < b.length
  · have HP := Lib.hid (right_len (.inr h1))
    go_enter Tryd.func10, Tryd.ntmps10
    go_wp2_with fail
    go_ret
    exact ⟨ret_b HP.out.symm, Below.refl _ _⟩
  have HALL := Lib.hid (right_all h0 (by omega : b.length ≤ 8000))
  have HERR : Hid ((parseL b).2 ≠ 0 → rightY b = false) := Lib.hid right_err
  have HTAG : Hid (∀ k f, (parseL b).1[k]? = some f → freeF f = false → rightY b = false) := Lib.hid fun k f => right_tag
  have hl100 := parse_len b
  have d1 : decide ((8000 : Int) < (b.length : Int)) = false := decide_eq_false (by omega)
  have HPC := Lib.hid fun w h hl => Fld.parse_any a cap b w h (by omega) hl
  obtain ⟨l, hl⟩ : ∃ l, (parseL b).1 = l := ⟨_, rfl⟩
  obtain ⟨pe, hpe⟩ : ∃ pe, (parseL b).2 = pe := ⟨_, rfl⟩
  rw [hl, hpe] at HALL HPC
  rw [hpe] at HERR
  rw [hl] at HTAG hl100
  clear hl hpe
  go_enter Tryd.func10, Tryd.ntmps10
  go_wp2_with fail
  refine (HPC.out _ HF.out HL.out).mono ?_
  rintro e w1 ⟨⟨a2, c2, rfl, hrow⟩, hbel⟩
  have HR := Lib.hid hrow.flds
  have HB := Lib.hid hbel
  clear hrow hbel HPC HF
  cases dpe : (pe != 0)
  · have hpe0 : pe = 0 := bne_eq_false_iff_eq.1 dpe
    subst hpe0
    go_wp2_with fail
    go_loopw [24] (fun i_ wr => ∃ k : Nat, k ≤ l.length ∧ i_ = .int .i64 k ∧ (l.take k).all freeF = true ∧ Below w.heap.size w wr ∧ Flds wr a2 l) (fun i_ _ => l.length - (intOf i_).toNat)
    case atStart => exact ⟨0, Nat.zero_le _, rfl, by simp, HB.out, HR.out⟩
    case round =>
      obtain ⟨k, hk, rfl, hfree, hbel, hfl⟩ := hrel
      have HFR := Lib.hid hfree
      have HBR := Lib.hid hbel
      have HFL := Lib.hid hfl
      clear hfree hbel hfl
      by_cases hlt : k < l.length
      · obtain ⟨bb, off, rfl, hc⟩ := HFL.out.at (by omega)
        obtain ⟨⟨t, u⟩, hf⟩ : ∃ f, l[k]? = some f := ⟨_, List.getElem?_eq_getElem hlt⟩
        have ⟨c0, c1⟩ := hc k _ hf
        have HFK := Lib.hid hf
        clear hc hf
        cases hfr : freeF ⟨t, u⟩
        · have HN := Lib.hid (HTAG.out k _ HFK.out hfr)
          have HO := Lib.hid (fun w => own_is t u true (by rw [hfr]; rfl) w)
          clear hfr
          go_wp2_with fail
          refine (HO.out _).mono ?_
          rintro e w2 ⟨rfl, rfl⟩
          go_wp2_with fail
          go_ret
          exact ⟨ret_b HN.out.symm, HBR.out.alloc HBR.out.size _⟩
        · have HN := Lib.hid (free_step HFK.out HFR.out hfr)
          have HO := Lib.hid (fun w => own_is t u false (by rw [hfr]; rfl) w)
          clear hfr
          go_wp2_with fail
          refine (HO.out _).mono ?_
          rintro e w2 ⟨rfl, rfl⟩
          go_wp2_with fail
          go_roundw
          case rel => exact ⟨k + 1, by omega, by go_num, HN.out, HBR.out.alloc HBR.out.size _, HFL.out.later ((Below.refl _ _).alloc (Nat.le_refl _) _)⟩
          case measure => simp [intOf]; omega
      · obtain rfl : k = l.length := by omega
        have HN := Lib.hid (HALL.out HFR.out)
        go_wp2_with fail
        go_ret
        exact ⟨ret_b (by rw [HN.out]; rfl), HBR.out⟩
  · have HN := Lib.hid (HERR.out (by simpa using dpe))
    go_wp2_with fail
    go_ret
    exact ⟨ret_b HN.out.symm, HB.out⟩

theorem right_is (a : Option Addr) (cap : Nat) (b : List UInt8) (o : Bool) (ho : rightY b = o) (w : World) (hby : BytesAt w a cap b) (hlen : b.length ≤ 1000000) (hl : Laid w) :
    Calls Tryd.prog 10 #[.slice a b.length cap] w fun e w' => e = .returned (.bool o) ∧ Below w.heap.size w w' := by
  rw [← ho]; exact right_any a cap b w hby hlen hl

end Frm
end Go.Proofs.YtddblaiahgjbaaaDoor
