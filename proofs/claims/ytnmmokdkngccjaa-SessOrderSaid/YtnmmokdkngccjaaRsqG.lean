/-
  PLAIN: what Gap of layer 6 tells; what Come tells stands where it was told.
-/
import Derived.Test.YtnmmokdkngccjaaRsqR

namespace Go.Proofs.Ytnmmokdkngccjaa
open Go.RowKit
namespace Rsq
open Num
open Msg (I64)

def gapL (l : Li) : Int × Int × Bool := if rightL l = true then (match l.held with | [] => (0, 0, false) | y :: _ => (l.next, y.fr - 1, true)) else (0, 0, false)
def GotG (w : World) (r : Int × Int × Bool) (e : Ending) (w' : World) : Prop := e = .returned (.tuple #[.int .i64 r.1, .int .i64 r.2.1, .bool r.2.2]) ∧ Below w.heap.size w w'
theorem gap_none {l : Li} (h : rightL l = false) : gapL l = (0, 0, false) := if_neg (by rw [h]; simp)
theorem gap_nil {l : Li} (h : l.held = []) : gapL l = (0, 0, false) := by
  unfold gapL
  split
  · rw [h]
  · rfl
theorem gap_some {l : Li} {y : It} {r : List It} (hr : rightL l = true) (h : l.held = y :: r) : gapL l = (l.next, y.fr - 1, true) := by
  unfold gapL
  rw [if_pos hr, h]
theorem come_len {l : Li} (h : rightL l = true) (x : It) : (come l x).2.1.length ≤ l.held.length + 1 := by
  have ⟨r1, r2, r3, r4⟩ := (right_iff l).1 h
  unfold come
  split
  · exact Nat.zero_le _
  · rename_i hc
    split
    · exact Nat.zero_le _
    · split
      · split
        · exact Nat.zero_le _
        · split <;> exact Nat.zero_le _
      · have hm : mayI x = true := by
          cases e : mayI x
          · exact absurd (.inr e) hc
          · rfl
        have ⟨m1, m2, m3⟩ := (may_iff x).1 hm
        have := (drain_facts r4 (by omega : 0 < x.to) m3).2.2.2.2.2
        simp only [List.length_cons]
        omega

end Rsq
end Go.Proofs.Ytnmmokdkngccjaa
