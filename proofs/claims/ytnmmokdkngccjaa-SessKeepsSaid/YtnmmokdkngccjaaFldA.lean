/-
  The contracts of the reference's Right (layer 2).
-/
import Derived.Test.YtnmmokdkngccjaaPlField
import Derived.Test.YtnmmokdkngccjaaTools
import Derived.Test.YtnmmokdkngccjaaProg
import Derived.WalkSpells
import Derived.WalkLawsBesides
namespace Go.Proofs.Ytnmmokdkngccjaa
open Go.RowKit
namespace Fld

/-- none of the first k bytes is 1, and there are no more than 256 -/
def NoOne (v : ByteArray) (k : Nat) : Prop := k ≤ 256 ∧ ∀ c ∈ v.data.toList.take k, c ≠ 1
theorem NoOne.zero (v : ByteArray) : NoOne v 0 := ⟨by omega, by simp⟩
theorem byte_of (v : ByteArray) (k : Nat) (h : k < v.size) : v.data.toList[k]? = some v[k] := by
  have h2 : k < v.data.toList.length := h
  rw [List.getElem?_eq_getElem h2, Array.getElem_toList]; rfl
theorem NoOne.step {v : ByteArray} {k : Nat} (h : NoOne v k) (hk : k < v.size) (h1 : v[k].toNat ≠ 1) (h2 : k < 256) : NoOne v (k + 1) := by
  refine ⟨by omega, fun c hc => ?_⟩
  have hl : k < v.data.toList.length := hk
  rw [List.take_succ_eq_append_getElem hl, List.mem_append, List.mem_singleton] at hc
  rcases hc with hc | rfl
  · exact h.2 c hc
  · have e := byte_of v k hk
    rw [List.getElem?_eq_getElem hl] at e
    rw [Option.some.inj e]
    intro e2
    exact h1 (by rw [e2]; rfl)
theorem right_one {t : Int} {v : ByteArray} {k : Nat} (hk : k < v.size) (h1 : v[k].toNat = 1) : rightF ⟨t, v⟩ = false := by
  cases h : rightF ⟨t, v⟩
  · rfl
  · have ⟨_, _, _, _, e⟩ := (right_iff _).1 h
    exact absurd (UInt8.toNat_inj.1 h1 : v[k] = 1) (e v[k] (List.mem_of_getElem? (byte_of v k hk)))
theorem right_long {t : Int} {v : ByteArray} (h : 256 < v.size) : rightF ⟨t, v⟩ = false := by
  cases hr : rightF ⟨t, v⟩
  · rfl
  · have ⟨_, _, _, d, _⟩ := (right_iff _).1 hr
    have : v.size ≤ 256 := d
    omega
theorem right_end {t : Int} {v : ByteArray} (h : NoOne v v.size) : rightF ⟨t, v⟩ = (decide (0 < t) && decide (t < 10000) && decide (0 < v.size)) := by
  have h1 : v.data.toList.all (fun c => c != 1) = true := by
    rw [List.all_eq_true]
    intro c hc
    rw [bne_iff_ne]
    exact h.2 c (by have : v.size = v.data.toList.length := rfl
                    rw [this, List.take_length]; exact hc)
  unfold rightF
  rw [h1, decide_eq_true h.1, Bool.and_true, Bool.and_true]

end Fld
end Go.Proofs.Ytnmmokdkngccjaa
