/-
  A seat without listed variables: nothing is asked of the world.
-/
import Derived.Test.YtnldllmlfckecaaTools
namespace Go.Proofs.Ytnldllmlfckecaa
open Go.RowKit
def Laid (_w : World) : Prop := True
theorem Laid.below {w w' : World} (h : Laid w) (_hb : Below w.heap.size w w') : Laid w' := h
end Go.Proofs.Ytnldllmlfckecaa
