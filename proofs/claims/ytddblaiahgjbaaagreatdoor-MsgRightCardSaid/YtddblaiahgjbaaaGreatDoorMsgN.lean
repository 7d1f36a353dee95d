/-
  The reference's num of layer 5; fields in memory, one behind the other.
-/
import Derived.Test.YtddblaiahgjbaaaGreatDoorMsgC
import Derived.Test.YtddblaiahgjbaaaGreatDoorFldB
import Derived.Test.YtddblaiahgjbaaaGreatDoorFldC
import Derived.Test.YtddblaiahgjbaaaGreatDoorRefD
namespace Go.Proofs.YtddblaiahgjbaaaGreatDoor
open Go.RowKit
namespace Msg
open Num
open Fld (F infoF)

theorem rnum_any (t n : Int) (w : World) : Calls Tryz.prog 19 #[.int .i64 t, .int .i64 n] w fun e w' => e = .returned (.agg #[.int .i64 t, .string (showS n)]) ∧ Below w.heap.size w w' := by
  go_enter Tryz.func19, Tryz.ntmps19
  go_wp2_with fail
  refine (rshow_any n _).mono ?_
  rintro e w' ⟨rfl, rfl⟩
  go_wp2_with fail
  refine bodyPost_ret (v := .agg #[.int .i64 t, .string (showS n)]) ?_ rfl ⟨rfl, ?_⟩
  · rw [results_cell_one rfl]
    go_simp
  · exact (Below.refl _ _).alloc (Nat.le_refl _) _
theorem rnum_held (t n : Int) (g : Nat) (v0 v1 v2 : Value) (w0 : World) (b : Nat) (w : World) (hb : Below b w0 w) (hx : b ≤ w.heap.size) (c0 : w.cell? ⟨g, 0, none⟩ = some v0) (c1 : w.cell? ⟨g, 1, none⟩ = some v1) (c2 : w.cell? ⟨g, 2, none⟩ = some v2) :
    Calls Tryz.prog 19 #[.int .i64 t, .int .i64 n] w fun e w' => e = .returned (.agg #[.int .i64 t, .string (showS n)]) ∧ Below b w0 w' ∧ b ≤ w'.heap.size ∧ w'.cell? ⟨g, 0, none⟩ = some v0 ∧ w'.cell? ⟨g, 1, none⟩ = some v1 ∧ w'.cell? ⟨g, 2, none⟩ = some v2 :=
  (rnum_any t n w).mono fun _ _ ⟨he, h⟩ => ⟨he, hb.trans (h.mono hx), Nat.le_trans hx h.size, (h.cell (cell_lt c0)).trans c0, (h.cell (cell_lt c1)).trans c1, (h.cell (cell_lt c2)).trans c2⟩

end Msg
end Go.Proofs.YtddblaiahgjbaaaGreatDoor
