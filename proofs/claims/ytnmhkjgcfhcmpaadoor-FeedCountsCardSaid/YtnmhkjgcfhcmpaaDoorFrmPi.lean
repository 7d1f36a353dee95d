/-
  The program's Put of layer 3 at given bytes; the first look's frame.
-/
import Derived.Test.YtnmhkjgcfhcmpaaDoorFrmPp
namespace Go.Proofs.YtnmhkjgcfhcmpaaDoor
open Go.RowKit
namespace Frm
open Num

/-- the body of the first look, and its frame -/
def oneY : List UInt8 := [51, 53, 61, 48, 1]
def oneF : List UInt8 := [56, 61, 70, 73, 88, 46, 52, 46, 52, 1, 57, 61, 53, 1, 51, 53, 61, 48, 1, 49, 48, 61, 49, 54, 51, 1]
theorem one_put : putE oneY = 0 ∧ putB oneY = oneF := by decide +kernel
theorem one_junk : nextY [120, 56, 61, 70] = (2, [], 1) := by decide +kernel
theorem one_next : nextY (oneF ++ [120]) = (1, oneY, 26) := by
  have h := next_frame one_put.1 [120]
  have e : frameY oneY = oneF := by rw [← putB_ok one_put.1]; exact one_put.2
  rw [e] at h
  exact h

theorem put_is (a : Option Addr) (cap : Nat) (b : List UInt8) (n : Nat) (hn : b.length = n) (w : World) (hby : BytesAt w a cap b) (hlen : n ≤ 1000000) (hl : Laid w) (B : List UInt8) (E : Int) (hB : putB b = B) (hE : putE b = E) :
    Calls Tryd.prog 11 #[.slice a n cap] w (RetG 5 w B E) := by
  subst hn hB hE
  exact put_any a cap b w hby hlen hl

end Frm
end Go.Proofs.YtnmhkjgcfhcmpaaDoor
