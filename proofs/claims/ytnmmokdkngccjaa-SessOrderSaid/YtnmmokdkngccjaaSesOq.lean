/-
  The walk of layer 7's laws: SessOrder.
-/
import Derived.Test.YtnmmokdkngccjaaSesO
import Derived.Test.YtnmmokdkngccjaaMsgQ
import Derived.Test.YtnmmokdkngccjaaMsgS

namespace Go.Proofs.Ytnmmokdkngccjaa
open Go.RowKit
namespace Ses

theorem law_SessOrder (every : Int) (a : Option Addr) (len cap : Nat) (xs : List Ac) (w : World) (he : (Lit.int .u8 every).wf = true) (hx : IsAcs w a len cap xs) (hl : Laid w) :
    Calls Try.prog 3 #[.int .u8 every, .slice a len cap] w fun e w' => e = .returned (.bool true) ∧ Below w.heap.size w w' :=
  order_of (fun m hm w hl => Msg.right_any m hm w hl) (fun m hm w => (Msg.rshort_any m hm w).mono fun _ _ h => ⟨_, h.1, h.2⟩) every a len cap xs w he hx hl

end Ses
end Go.Proofs.Ytnmmokdkngccjaa
