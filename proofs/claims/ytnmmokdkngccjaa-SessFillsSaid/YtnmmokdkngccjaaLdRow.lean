/-
  Whole structs read out of a block at one step: rules for the walk of a region that draws its order.
-/
import Derived.Test.YtnmmokdkngccjaaMsgU
namespace Go.Proofs.Ytnmmokdkngccjaa
open Go.RowKit

theorem load_msg {ρ : Operand → Value} {d : Option Tmp} {ty : TypeId} {x : Operand} {pos : String} {af : Array Edge} {gd : Option (Nat × Bool)} {w : World} (hp : ρ x = .pointer (some ⟨blkOf (ρ x), offOf (ρ x), none⟩)) (h : RowOk w (blkOf (ρ x)) 18) (hk : offOf (ρ x) + 18 ≤ 18) :
    (execOp ρ ⟨d, .load 36 x, ty, pos, af, gd⟩).run Try.prog w = .ok (.value (.agg ((rowAt w (blkOf (ρ x))).extract (offOf (ρ x)) (offOf (ρ x) + 18)))) w :=
  run_load_row 18 18 _ Try.underlying36 rfl (by kernel_rfl) hp h hk
theorem load_exec {ρ : Operand → Value} {d : Option Tmp} {ty : TypeId} {x : Operand} {pos : String} {af : Array Edge} {gd : Option (Nat × Bool)} {w : World} (hp : ρ x = .pointer (some ⟨blkOf (ρ x), offOf (ρ x), none⟩)) (h : RowOk w (blkOf (ρ x)) 18) (hk : offOf (ρ x) + 10 ≤ 18) :
    (execOp ρ ⟨d, .load 34 x, ty, pos, af, gd⟩).run Try.prog w = .ok (.value (.agg ((rowAt w (blkOf (ρ x))).extract (offOf (ρ x)) (offOf (ρ x) + 10)))) w :=
  run_load_row 18 10 _ Try.underlying34 rfl (by kernel_rfl) hp h hk

end Go.Proofs.Ytnmmokdkngccjaa
