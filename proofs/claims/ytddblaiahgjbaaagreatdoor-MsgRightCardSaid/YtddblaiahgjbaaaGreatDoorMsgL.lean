/-
  The walk of layer 5's laws: awake.
-/
import Derived.Test.YtddblaiahgjbaaaGreatDoorMsgQ
import Derived.Test.YtddblaiahgjbaaaGreatDoorMsgS
import Derived.Test.YtddblaiahgjbaaaGreatDoorMemG
import Derived.Test.YtddblaiahgjbaaaGreatDoorPlMsgB

namespace Go.Proofs.YtddblaiahgjbaaaGreatDoor
open Go.RowKit
namespace Msg
open Num
open Fld (F)

def oneM : Ms := ⟨2, 2, 7, false, 0, 0, false, emp, noEx⟩
def oneB : List UInt8 := [51, 53, 61, 48, 1, 51, 52, 61, 50, 1, 53, 50, 61, 55, 1]
def twoM : Ms := ⟨4, 3, 0, true, 1, 0, false, emp, noEx⟩
def twoB : List UInt8 := [51, 53, 61, 50, 1, 51, 52, 61, 51, 1, 53, 50, 61, 48, 1, 52, 51, 61, 89, 1, 55, 61, 49, 1, 49, 54, 61, 48, 1]
theorem one_fits : oneM.Fits := ⟨by unfold I64; decide, by unfold I64; decide, by unfold I64; decide, by unfold I64; decide, by unfold I64; decide, emp_str, noEx_fits2⟩
theorem two_fits : twoM.Fits := ⟨by unfold I64; decide, by unfold I64; decide, by unfold I64; decide, by unfold I64; decide, by unfold I64; decide, emp_str, noEx_fits2⟩
theorem one_put : putM oneM = (oneB, 0) := by
  have h : rightM oneM = true := by
    have e : textB emp = true := by kernel_rfl
    simp [rightM, oneM, smallB, timeB, kindA, e]
  unfold putM
  rw [if_pos h, (fields_put h).2]
  have e : fieldsM oneM = [⟨35, ⟨#[48]⟩⟩, numF 34 2, numF 52 7] := by simp [fieldsM, oneM, optF, kindS, emp]
  have e2 : Fld.bytesL [⟨35, ⟨#[48]⟩⟩, numF 34 2, numF 52 7] = oneB := by kernel_rfl
  rw [e, e2]
theorem two_put : putM twoM = (twoB, 0) := by
  have h : rightM twoM = true := by
    have e : textB emp = true := by kernel_rfl
    simp [rightM, twoM, smallB, timeB, kindA, e]
  unfold putM
  rw [if_pos h, (fields_put h).2]
  have e : fieldsM twoM = [⟨35, ⟨#[50]⟩⟩, numF 34 3, numF 52 0, ⟨43, yS⟩, numF 7 1, numF 16 0] := by simp [fieldsM, twoM, optF, kindS, emp]
  have e2 : Fld.bytesL [⟨35, ⟨#[50]⟩⟩, numF 34 3, numF 52 0, ⟨43, yS⟩, numF 7 1, numF 16 0] = twoB := by kernel_rfl
  rw [e, e2]
theorem two_read : readB twoB = (twoM, 0) := by
  have h := said (m := twoM) (by rw [two_put])
  rw [two_put] at h
  exact h.2

theorem put_is (c : Array Value) (m : Ms) (hc : c = m.cells) (hm : m.Fits) (w : World) (hl : Laid w) (y : List UInt8) (n : Int) (hp : putM m = (y, n)) : Calls Tryz.prog 7 #[.agg c] w (GotBytes w y n) := by
  subst hc
  have h := put_any m hm w hl
  rwa [hp] at h
theorem read_is (a : Option Addr) (cap : Nat) (b : List UInt8) (k : Nat) (hk : b.length = k) (w : World) (hby : BytesAt w a cap b) (hlen : k ≤ 1000000) (hl : Laid w) (M : Ms) (n : Int) (hr : readB b = (M, n)) :
    Calls Tryz.prog 15 #[.slice a k cap] w (GotM w (M, n)) := by
  subst hk
  have h := read_any a cap b w hby hlen hl
  rwa [hr] at h
theorem eq_ms {x y : Ms} (hx : x.Fits) (hy : y.Fits) (w : World) : (binOp .eql 25 (.agg x.cells) (.agg y.cells)).run Tryz.prog w = .ok (.bool (decide (x = y))) w := by
  rw [run_flat_eql fitsMs (by decide) (Ms.cs hx) (Ms.cs hy), ms_same]

set_option maxRecDepth 100000 in
set_option maxHeartbeats 2000000 in
theorem awake5_any (w : World) (hl : Laid w) :
    Calls Tryz.prog 5 #[] w fun e w' => e = .returned (.bool true) ∧ Below w.heap.size w w' := by
  have HL := Lib.hid hl
  clear hl
  have kc := fun (w : World) (C : Array Value) (n c : Nat) => Lib.run_convert_bytes_const (P := Tryz.prog) w 28 5 C n c Tryz.underlying28 Tryz.underlying5
  have HEQ : Hid (∀ W, (binOp .eql 25 (.agg twoM.cells) (.agg twoM.cells)).run Tryz.prog W = .ok (.bool true) W) := Lib.hid fun W => by rw [eq_ms two_fits two_fits, decide_eq_true rfl]
  go_enter Tryz.func5, Tryz.ntmps5
  go_wp2_with fail
  refine (put_is _ oneM rfl one_fits _ HL.out _ _ one_put).mono ?_
  rintro e w1 ⟨⟨a1, c1, rfl, hby⟩, hb1⟩
  rw [show oneB.length = 15 from rfl]
  have HB1 := Lib.hid hb1
  have HY1 := Lib.hid hby
  clear hb1 hby
  have HL1 : Hid (∀ o, Laid (w1.alloc o)) := Lib.hid fun o => HL.out.below (HB1.out.trans (((Below.refl _ _).alloc (Nat.le_refl _) _).mono HB1.out.size))
  go_wp2_with fail
  refine (read_is _ _ twoB 29 rfl _ (bytes_alloc w1 _ _ _ twoB rfl 29 (Nat.le_refl _)) (by decide) (HL1.out _) _ _ two_read).mono ?_
  rintro e w2 ⟨rfl, hb2⟩
  have hb2' : Below w1.heap.size w1 w2 := ((Below.refl _ _).alloc (Nat.le_refl _) _).trans (hb2.mono (by simp))
  have HB2 := Lib.hid (HB1.out.trans (hb2'.mono HB1.out.size))
  have HY2 : Hid (BytesAt (w2.alloc (.cells twoM.cells 25)) a1 c1 oneB) := Lib.hid ((HY1.out.later hb2').later ((Below.refl _ _).alloc (Nat.le_refl _) _))
  have HRG : Hid ((w2.alloc (.cells twoM.cells 25)).rangeAt w2.heap.size 0 twoM.cells.toList) := Lib.hid (block_range (heap_alloc_new w2 _))
  have HBF : Hid (Below w.heap.size w (w2.alloc (.cells twoM.cells 25))) := Lib.hid (HB2.out.alloc HB2.out.size _)
  clear hb2 hb2'
  go_upto_region 3 with (first
    | (refine wpList_store_row rfl 25 _ _ rfl w2.heap.size _ rfl rfl _ _ (heap_alloc_last _ _) (by kernel_rfl) (by rfl) (ms_one twoM) ?_; rw [World.setRow_alloc_new]))
  generalize w2.alloc (.cells twoM.cells 25) = w3 at HY2 HRG HBF ⊢
  have cv : (convert 28 9 (.slice a1 15 c1)).run Tryz.prog w3 = .ok (.string ⟨#[51, 53, 61, 48, 1, 51, 52, 61, 50, 1, 53, 50, 61, 55, 1]⟩) w3 := string_of (P := Tryz.prog) Tryz.underlying28 Tryz.underlying5 Tryz.underlying9 HY2.out 15 rfl
  have heq : ∀ C, twoM.cells = C → (binOp .eql 25 (.agg C) (.agg #[.int .i64 4, .int .i64 3, .int .i64 0, .bool true, .int .i64 1, .int .i64 0, .bool false, .string ⟨#[]⟩, .string ⟨#[]⟩, .string ⟨#[]⟩, .string ⟨#[]⟩, .string ⟨#[]⟩, .string ⟨#[]⟩, .int .i64 0, .bool false, .int .i64 0, .int .i64 0, .int .i64 0])).run Tryz.prog w3 = .ok (.bool true) w3 := fun C hC => by subst hC; exact HEQ.out w3
  have hcs : ∀ C, twoM.cells = C → (Tryz.prog.info? 25).map (·.size) = some C.size := fun C hC => by subst hC; kernel_rfl
  obtain ⟨C, hC⟩ : ∃ C, twoM.cells = C := ⟨_, rfl⟩
  replace heq := heq C hC
  replace hcs := hcs C hC
  rw [hC] at HRG
  clear hC HEQ
  have HEQ := Lib.hid heq
  clear heq
  go_wp2_with (first | (refine wpList_load_arr_g (by rfl) 25 _ rfl w2.heap.size 0 rfl _ _ HRG.out Tryz.underlying25 rfl hcs ?_) | (refine wpList_eq_run_g (by rfl) .eql 25 _ _ _ rfl (.agg C) (.agg #[.int .i64 4, .int .i64 3, .int .i64 0, .bool true, .int .i64 1, .int .i64 0, .bool false, .string ⟨#[]⟩, .string ⟨#[]⟩, .string ⟨#[]⟩, .string ⟨#[]⟩, .string ⟨#[]⟩, .string ⟨#[]⟩, .int .i64 0, .bool false, .int .i64 0, .int .i64 0, .int .i64 0]) rfl rfl (eq_guard _ _ _ _ _ _) _ HEQ.out ?_))
  go_ret
  exact ⟨rfl, HBF.out⟩

theorem short_is (c : Array Value) (m : Ms) (hc : c = m.cells) (hm : m.Fits) (w : World) : Calls Tryz.prog 6 #[.agg c] w fun e w' => e = .returned (.bool (shortM m)) ∧ Below w.heap.size w w' := by
  subst hc
  exact rshort_any m hm w
theorem put_len (m : Ms) : (putM m).1.length ≤ 100000 := by
  unfold putM
  split
  · rename_i h
    rw [(fields_put h).2]
    show (Fld.bytesL (fieldsM m)).length ≤ 100000
    have := bytesL_len (fields_may h).1
    have := (fields_may h).2.2
    omega
  · exact Nat.zero_le _
theorem noMs_fits : noMs.Fits := ⟨by unfold I64; decide, by unfold I64; decide, by unfold I64; decide, by unfold I64; decide, by unfold I64; decide, emp_str, noEx_fits2⟩
theorem readB_fits (b : List UInt8) : (readB b).1.Fits := by
  unfold readB
  split
  · exact noMs_fits
  · rename_i h
    have h0 : (Fld.parseL b).2 = 0 := Decidable.byContradiction h
    have hr := (parse_right (b := b) (l := (Fld.parseL b).1) (by rw [← h0])).1
    unfold readM
    dsimp only
    split
    · exact noMs_fits
    · exact readP_fits hr

end Msg
end Go.Proofs.YtddblaiahgjbaaaGreatDoor
