/-
  SCRATCH ONLY: a seat without listed variables.
-/
import Derived.Test.YtdiegglnfbmpdaaTools
namespace Go.Proofs.Ytdiegglnfbmpdaa
open Go.RowKit
def Laid (_w : World) : Prop := True
theorem Laid.below {w w' : World} (h : Laid w) (_hb : Below w.heap.size w w') : Laid w' := h
end Go.Proofs.Ytdiegglnfbmpdaa
