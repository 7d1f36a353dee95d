/-
  A session's load in a region that draws its order; a store of a whole row as a step of one.
-/
import Derived.Test.YtnmmokdkngccjaaSesA
import Derived.Deep.RegionHeld3
namespace Go.Proofs.Ytnmmokdkngccjaa
open Go.RowKit
namespace Ses

theorem load_sess {ρ : Operand → Value} {d : Option Tmp} {ty : TypeId} {x : Operand} {pos : String} {af : Array Edge} {gd : Option (Nat × Bool)} {w : World} (hp : ρ x = .pointer (some ⟨blkOf (ρ x), offOf (ρ x), none⟩)) (h : CellsOk w (blkOf (ρ x)) (offOf (ρ x)) 10) :
    (execOp ρ ⟨d, .load 28 x, ty, pos, af, gd⟩).run Try.prog w = .ok (.value (.agg (cellsAt w (blkOf (ρ x)) (offOf (ρ x)) 10))) w :=
  run_load_cells 10 _ Try.underlying28 rfl (by kernel_rfl) hp h
theorem step_store_row {P : Program} {ops : Array Oper} {o : Oper} {a : Act} {w : World} {K : Act → World → Prop} {Q : Exit → Act → World → Prop} {E : Prop} {tm : Array Value} (hgd : o.guard = none) (ty : TypeId) (x y : Operand) (ho : o.op = .store ty x y)
    (g : Nat) (cells : Array Value) (hx : a.eval x = .pointer (some ⟨g, 0, none⟩)) (hy : a.eval y = .agg cells) (t : TypeId) (old : Array Value) (hg : w.heap[g]? = some (.cells old t (0, 0))) (hi : (P.info? ty).map (·.size) = some cells.size)
    (hold : old.size = cells.size) (h1 : cells.all (·.oneCell') = true) (h : K (a.put o.dst undef) (w.setRow g cells)) : if Region.wanted o (yielded ops tm) = true then Oper.wp P o a w K Q else E := by
  rw [if_pos (by simp [Region.wanted, hgd])]
  exact wp_store_row ty x y ho g cells hx hy t old hg hi hold h1 h

end Ses
end Go.Proofs.Ytnmmokdkngccjaa
