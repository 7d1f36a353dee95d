/-
  The contracts of the reference's Right (layer 2).
-/
import Derived.Test.YtddblaiahgjbaaaGreatDoorPlField
import Derived.Test.YtddblaiahgjbaaaGreatDoorTools
import Derived.Test.YtddblaiahgjbaaaGreatDoorProg
import Derived.WalkSpells
import Derived.WalkLawsBesides
namespace Go.Proofs.YtddblaiahgjbaaaGreatDoor
open Go.RowKit
namespace Fld

/-- none of the first k bytes is 1, and there are no more than 256 -/
def NoOne (v : ByteArray) (k : Nat) : Prop := k ≤ 256 ∧ ∀ c ∈ v.data.toList.take k, c ≠ 1
theorem NoOne.zero (v : ByteArray) : NoOne v 0 := ⟨by omega, by simp⟩
theorem byte_of (v : ByteArray) (k : Nat) (h : k < v.size) : v.data.toList[k]? = some v[k] := by
  have h2 : k < v.data.toList.length := h
  rw [List.getElem?_eq_getElem h2, Array.getElem_toList]; rfl
theorem NoOne.step {v : ByteArray} {k : Nat} (h : NoOne v k) (hk : k < v.size) (h1 : v[k].toNat ≠ 1) (h2 : k < 256) : NoOne v (k + 1) := by
  refine ⟨by omega, fun c hc => ?_⟩
  have hl : k < v.data.toList.length := hk
  rw [List.take_succ_eq_append_getElem hl, List.mem_append, List.mem_singleton] at hc
  rcases hc with hc | rfl
  · exact h.2 c hc
  · have e := byte_of v k hk
    rw [List.getElem?_eq_getElem hl] at e
    rw [Option.some.inj e]
    intro e2
    exact h1 (by rw [e2]; rfl)
theorem right_one {t : Int} {v : ByteArray} {k : Nat} (hk : k < v.size) (h1 : v[k].toNat = 1) : rightF ⟨t, v⟩ = false := by
  cases h : rightF ⟨t, v⟩
  · rfl
  · have ⟨_, _, _, _, e⟩ := (right_iff _).1 h
    exact absurd (UInt8.toNat_inj.1 h1 : v[k] = 1) (e v[k] (List.mem_of_getElem? (byte_of v k hk)))
theorem right_long {t : Int} {v : ByteArray} (h : 256 < v.size) : rightF ⟨t, v⟩ = false := by
  cases hr : rightF ⟨t, v⟩
  · rfl
  · have ⟨_, _, _, d, _⟩ := (right_iff _).1 hr
    have : v.size ≤ 256 := d
    omega
theorem right_end {t : Int} {v : ByteArray} (h : NoOne v v.size) : rightF ⟨t, v⟩ = (decide (0 < t) && decide (t < 10000) && decide (0 < v.size)) := by
  have h1 : v.data.toList.all (fun c => c != 1) = true := by
    rw [List.all_eq_true]
    intro c hc
    rw [bne_iff_ne]
    exact h.2 c (by have : v.size = v.data.toList.length := rfl
                    rw [this, List.take_length]; exact hc)
  unfold rightF
  rw [h1, decide_eq_true h.1, Bool.and_true, Bool.and_true]

set_option maxHeartbeats 400000 in
theorem rright_any (t : Int) (v : ByteArray) (w : World) (hv : v.size ≤ 9223372036854775807) :
    Calls Tryz.prog 48 #[.agg #[.int .i64 t, .string v]] w fun e w' => e = .returned (.bool (rightF ⟨t, v⟩)) ∧ Below w.heap.size w w' := by
  go_enter Tryz.func48, Tryz.ntmps48
  go_wp2_with fail
  go_loopw [3] (fun i wr => ∃ k : Nat, k ≤ v.size ∧ i = .int .i64 k ∧ NoOne v k ∧ wr = w.alloc (.cells #[.int .i64 t, .string v] 47)) (fun i _ => v.size - (intOf i).toNat)
  case atStart => exact ⟨0, Nat.zero_le _, rfl, NoOne.zero v, rfl⟩
  case round =>
    obtain ⟨k, hk, rfl, hn, rfl⟩ := hrel
    have HN := Lib.hid hn
    clear hn
    by_cases hlt : k < v.size
    · cases d1 : (((v[k]'hlt).toNat : Int) == 1)
      · have hq : (v[k]'hlt).toNat ≠ 1 := by have := beq_eq_false_iff_ne.1 d1; omega
        cases d2 : decide ((256 : Int) ≤ (k : Int))
        · have hq2 : k < 256 := by have := of_decide_eq_false d2; omega
          have HQ := Lib.hid (HN.out.step hlt hq hq2)
          clear hq
          go_wp2_with fail
          go_roundw
          case rel => exact ⟨k + 1, by omega, by go_num, HQ.out, by first | rfl | trivial⟩
          case measure => simp [intOf]; omega
        · have hq2 : 256 ≤ k := by have := of_decide_eq_true d2; omega
          have HQ := Lib.hid (right_long (t := t) (v := v) (by omega))
          clear hq
          go_wp2_with fail
          go_ret
          exact ⟨ret_b HQ.out.symm, (Below.refl _ _).alloc (Nat.le_refl _) _⟩
      · have hq : (v[k]'hlt).toNat = 1 := by have := beq_iff_eq.1 d1; omega
        have HQ := Lib.hid (right_one (t := t) hlt hq)
        clear hq
        go_wp2_with fail
        go_ret
        exact ⟨ret_b HQ.out.symm, (Below.refl _ _).alloc (Nat.le_refl _) _⟩
    · obtain rfl : k = v.size := by omega
      have HE := Lib.hid (right_end (t := t) HN.out)
      go_wp2_with fail
      all_goals
        go_ret
        refine ⟨ret_b ?_, (Below.refl _ _).alloc (Nat.le_refl _) _⟩
        rw [HE.out]
        have hg : v.size = 0 ∨ 0 < v.size := by omega
        rcases hg with hg | hg <;> simp [hg] <;> omega

theorem rright_is (t : Int) (v : ByteArray) (o : Bool) (h : rightF ⟨t, v⟩ = o) (w : World) (hv : v.size ≤ 9223372036854775807) :
    Calls Tryz.prog 48 #[.agg #[.int .i64 t, .string v]] w fun e w' => e = .returned (.bool o) ∧ Below w.heap.size w w' := by
  rw [← h]; exact rright_any t v w hv

end Fld
end Go.Proofs.YtddblaiahgjbaaaGreatDoor
