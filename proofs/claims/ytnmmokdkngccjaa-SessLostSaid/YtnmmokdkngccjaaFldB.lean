/-
  The contract of the reference's Put (layer 2).
-/
import Derived.Test.YtnmmokdkngccjaaFldA
import Derived.Test.YtnmmokdkngccjaaMem
import Derived.Test.YtnmmokdkngccjaaRefD
namespace Go.Proofs.Ytnmmokdkngccjaa
open Go.RowKit
namespace Fld
open Num (showL showS)

theorem infoU8 : (Try.prog.info? 5).map (fun i => (i.zero, i.size, i.bytes)) = some (some (.int .u8 0), 1, 1) := by kernel_rfl

/-- what may be asked of fields that come in: tags are ints, values are strings -/
def Fits (l : List F) : Prop := ∀ f ∈ l, -9223372036854775808 ≤ f.tag ∧ f.tag ≤ 9223372036854775807 ∧ f.val.size ≤ 9223372036854775807

theorem putE_long {l : List F} (h : 100 < l.length) : putE l = 4 ∧ putB l = [] := by
  have e : putE l = 4 := by unfold putE; rw [if_pos h]
  exact ⟨e, by unfold putB; rw [e]; rfl⟩
theorem putE_bad {l : List F} {k : Nat} (h : ¬ 100 < l.length) (hk : k < l.length) (hr : rightF l[k] = false) : putE l = 1 ∧ putB l = [] := by
  have ha : l.all rightF = false := by rw [List.all_eq_false]; exact ⟨_, List.getElem_mem hk, by simp [hr]⟩
  have e : putE l = 1 := by unfold putE; rw [if_neg h, ha]; rfl
  exact ⟨e, by unfold putB; rw [e]; rfl⟩
theorem putE_good {l : List F} (h : ¬ 100 < l.length) (ha : l.all rightF = true) : putE l = 0 ∧ putB l = bytesL l := by
  have e : putE l = 0 := by unfold putE; rw [if_neg h, ha]; rfl
  exact ⟨e, by unfold putB; rw [e]; rfl⟩
theorem bytesL_succ {l : List F} {k : Nat} (hk : k < l.length) : bytesL (l.take (k + 1)) = bytesL (l.take k) ++ showL l[k].tag ++ [61] ++ l[k].val.data.toList ++ [1] := by
  rw [List.take_succ_eq_append_getElem hk]
  unfold bytesL
  rw [List.flatMap_append]
  simp [bytesF]
theorem all_succ {l : List F} {k : Nat} (hk : k < l.length) (ha : (l.take k).all rightF = true) (hr : rightF l[k] = true) : (l.take (k + 1)).all rightF = true := by
  rw [List.take_succ_eq_append_getElem hk, List.all_append, ha]
  simp [hr]

theorem len_take {l : List F} {k : Nat} (h : (l.take k).all rightF = true) (hk : k ≤ 100) : (bytesL (l.take k)).length ≤ 26200 := by
  have h1 := len_bytesL h
  rw [List.length_take] at h1
  have : 262 * min k l.length ≤ 262 * 100 := Nat.mul_le_mul_left _ (by omega)
  omega

end Fld
end Go.Proofs.Ytnmmokdkngccjaa
