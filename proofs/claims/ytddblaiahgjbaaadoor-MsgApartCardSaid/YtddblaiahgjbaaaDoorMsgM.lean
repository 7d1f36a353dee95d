/-
  The walk of layer 5's laws: MsgRight.
-/
import Derived.Test.YtddblaiahgjbaaaDoorMsgL
import Derived.Test.YtddblaiahgjbaaaDoorPlMsgB
import Derived.Test.YtddblaiahgjbaaaDoorLdRow
namespace Go.Proofs.YtddblaiahgjbaaaDoor
open Go.RowKit
namespace Msg
open Num
open Fld (F)

attribute [local go_sem ↓] load_msg load_exec
attribute [local go_sem] blkOf_ptr offOf_ptr

theorem short_is (c : Array Value) (m : Ms) (hc : c = m.cells) (hm : m.Fits) (w : World) : Calls Tryd.prog 6 #[.agg c] w fun e w' => e = .returned (.bool (shortM m)) ∧ Below w.heap.size w w' := by
  subst hc
  exact rshort_any m hm w
theorem put_len (m : Ms) : (putM m).1.length ≤ 100000 := by
  unfold putM
  split
  · rename_i h
    rw [(fields_put h).2]
    show (Fld.bytesL (fieldsM m)).length ≤ 100000
    have := bytesL_len (fields_may h).1
    have := (fields_may h).2.2
    omega
  · exact Nat.zero_le _

theorem right_i (c : Array Value) (m : Ms) (hc : c = m.cells) (hm : m.Fits) (w4 w : World) (hl : ∀ W, Below w4.heap.size w4 W → Laid W) (hb : Below w4.heap.size w4 w) : Calls Tryd.prog 11 #[.agg c] w fun e w' => e = .returned (.bool (rightM m)) ∧ Below w4.heap.size w4 w' := by
  subst hc
  exact (right_any m hm w (hl _ hb)).mono fun _ _ h => ⟨h.1, hb.trans (h.2.mono hb.size)⟩
theorem exec_i (c : Array Value) (m : Ex) (hc : c = m.cells) (hm : m.Fits) (w4 w : World) (hl : ∀ W, Below w4.heap.size w4 W → Laid W) (hb : Below w4.heap.size w4 w) : Calls Tryd.prog 42 #[.agg c] w fun e w' => e = .returned (.bool (execB m)) ∧ Below w4.heap.size w4 w' := by
  subst hc
  exact (exec_any m hm w (hl _ hb)).mono fun _ _ h => ⟨h.1, hb.trans (h.2.mono hb.size)⟩
theorem name_i (s : ByteArray) (hs : Str s) (w4 w : World) (hl : ∀ W, Below w4.heap.size w4 W → Laid W) (hb : Below w4.heap.size w4 w) : Calls Tryd.prog 57 #[.string s] w fun e w' => e = .returned (.bool (nameB s)) ∧ Below w4.heap.size w4 w' :=
  (name_any s hs w (hl _ hb)).mono fun _ _ h => ⟨h.1, hb.trans (h.2.mono hb.size)⟩
end Msg
end Go.Proofs.YtddblaiahgjbaaaDoor
