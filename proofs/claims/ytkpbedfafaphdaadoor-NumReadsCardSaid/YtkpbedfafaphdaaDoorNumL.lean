/-
  The walks of layer 1's laws.
-/
import Derived.Test.YtkpbedfafaphdaaDoorNumE
import Derived.Test.YtkpbedfafaphdaaDoorNumP
import Derived.Test.YtkpbedfafaphdaaDoorNumS
import Derived.Test.YtkpbedfafaphdaaDoorNumT
namespace Go.Proofs.YtkpbedfafaphdaaDoor
open Go.RowKit
namespace Num

theorem add_is (a b v : Int) (o : Bool) (h1 : addV a b = v) (h2 : addO a b = o) (w : World) :
    Calls Tryd.prog 10 #[.int .i64 a, .int .i64 b] w fun e w' => e = .returned (.tuple #[.int .i64 v, .bool o]) ∧ w = w' := by
  rw [← h1, ← h2]; exact add_any a b w
theorem mul_is (a b v : Int) (o : Bool) (h1 : mulV a b = v) (h2 : mulO a b = o) (w : World) :
    Calls Tryd.prog 12 #[.int .i64 a, .int .i64 b] w fun e w' => e = .returned (.tuple #[.int .i64 v, .bool o]) ∧ w = w' := by
  rw [← h1, ← h2]; exact mul_any a b w
theorem parse_is (s : ByteArray) (v o : Int) (hs : s.size ≤ 9223372036854775807) (h1 : parseV s.data.toList = v) (h2 : parseE s.data.toList = o) (w : World) (hl : Laid w) :
    Calls Tryd.prog 18 #[.string s] w fun e w' => e = .returned (.tuple #[.int .i64 v, .int .i64 o]) ∧ Below w.heap.size w w' := by
  rw [← h1, ← h2]; exact parse_any s hs w hl
theorem show_is (n : Int) (t : ByteArray) (h : showS n = t) (w : World) (hl : Laid w) :
    Calls Tryd.prog 20 #[.int .i64 n] w fun e w' => e = .returned (.string t) ∧ Below w.heap.size w w' := by
  rw [← h]; exact show_any n w hl

theorem show70 : showS 70 = ⟨#[55, 48]⟩ := by
  have h : showL 70 = [55, 48] := by
    unfold showL
    rw [if_pos (by decide), itoa_nn 70 (by decide)]
    rw [show (70 : Int).toNat = 70 from rfl, Lib.decDigits, dif_neg (by decide), Lib.decDigits, dif_pos (by decide)]
    rfl
  unfold showS
  rw [h]
theorem read12 : parseV [45, 49, 50] = -12 ∧ parseE [45, 49, 50] = 0 := by decide +kernel

set_option maxHeartbeats 400000 in
theorem awake_any (w : World) (hl : Laid w) :
    Calls Tryd.prog 9 #[] w fun e w' => e = .returned (.bool true) ∧ Below w.heap.size w w' := by
  have HL := Lib.hid hl
  clear hl
  go_enter Tryd.func9, Tryd.ntmps9
  go_wp2_with fail
  refine (add_is 3 (-5) (-2) true (by decide) (by decide) _).mono ?_
  rintro e w' ⟨rfl, rfl⟩
  go_wp2_with fail
  refine (mul_is (-3) 5 (-15) true (by decide) (by decide) _).mono ?_
  rintro e w' ⟨rfl, rfl⟩
  go_wp2_with fail
  refine (add_is 4611686018427387904 1 0 false (by decide) (by decide) _).mono ?_
  rintro e w' ⟨rfl, rfl⟩
  go_wp2_with fail
  refine (parse_is ⟨#[45, 49, 50]⟩ (-12) 0 (by decide) read12.1 read12.2 _ HL.out).mono ?_
  rintro e w1 ⟨rfl, hb1⟩
  have HB1 := Lib.hid hb1
  have HL1 := Lib.hid (HL.out.below hb1)
  clear hb1
  go_wp2_with fail
  refine (show_is 70 _ show70 _ HL1.out).mono ?_
  rintro e w2 ⟨rfl, hb2⟩
  have HB2 := Lib.hid hb2
  clear hb2
  go_wp2_with fail
  go_ret
  exact ⟨rfl, HB1.out.trans (HB2.out.mono HB1.out.size)⟩

set_option maxHeartbeats 400000 in
theorem law_NumRight (a b : Int) (w : World) (_ha : (Lit.int .i64 a).wf = true) (_hb : (Lit.int .i64 b).wf = true) (hl : Laid w) :
    Calls Tryd.prog 3 #[.int .i64 a, .int .i64 b] w fun e w' => e = .returned (.bool true) ∧ Below w.heap.size w w' := by
  go_enter Tryd.func3, Tryd.ntmps3
  go_wp2_with fail
  refine (awake_any _ hl).mono ?_
  rintro e w1 ⟨rfl, hb1⟩
  have HB1 := Lib.hid hb1
  clear hb1
  go_wp2_with fail
  refine (add_any a b _).mono ?_
  rintro e w' ⟨rfl, rfl⟩
  go_wp2_with fail
  refine (radd_any a b _).mono ?_
  rintro e w' ⟨rfl, rfl⟩
  go_wp2_with fail
  refine (mul_any a b _).mono ?_
  rintro e w' ⟨rfl, rfl⟩
  go_wp2_with fail
  refine (rmul_any a b _).mono ?_
  rintro e w' ⟨rfl, rfl⟩
  go_wp2_with fail
  refine (right_any a _).mono ?_
  rintro e w' ⟨rfl, rfl⟩
  go_wp2_with fail
  refine (rright_any a _).mono ?_
  rintro e w' ⟨rfl, rfl⟩
  go_wp2_with fail
  go_ret
  exact ⟨rfl, HB1.out⟩

end Num
end Go.Proofs.YtkpbedfafaphdaaDoor
