/-
  The program's small parts of layer 2: rightTag, rightValue, Right, read.
-/
import Derived.Test.YtddblaiahgjbaaaGreatDoorFldA
import Derived.Test.YtddblaiahgjbaaaGreatDoorPlRead
import Derived.Test.YtddblaiahgjbaaaGreatDoorIxS
import Derived.Test.YtddblaiahgjbaaaGreatDoorNumPs
namespace Go.Proofs.YtddblaiahgjbaaaGreatDoor
open Go.RowKit
namespace Fld
open Num

theorem tag_any (t : Int) (w : World) : Calls Tryz.prog 58 #[.int .i64 t] w fun e w' => e = .returned (.bool (rightT t)) ∧ w' = w := by
  have HP := Lib.hid (show rightT t = (decide (1 ≤ t) && decide (t ≤ 9999)) from rfl)
  go_enter Tryz.func58, Tryz.ntmps58
  go_wp2_with fail
  all_goals
    go_ret
    refine ⟨ret_b ?_, rfl⟩
    rw [HP.out]
    simp <;> omega

/-- three tests, one behind the other -/
theorem rightV_cases (v : ByteArray) : (¬ 1 ≤ v.size ∧ rightV v.data.toList = false) ∨ (1 ≤ v.size ∧ ¬ v.size ≤ 256 ∧ rightV v.data.toList = false) ∨
    (1 ≤ v.size ∧ v.size ≤ 256 ∧ rightV v.data.toList = decide (Lib.indexByte v.data.toList 1 < 0)) := by
  have hl : v.data.toList.length = v.size := rfl
  have hi := indexByte_eq v.data.toList 1
  have hle := ahead_le 1 v.data.toList
  unfold rightV
  rw [hl] at *
  by_cases h1 : 1 ≤ v.size
  · by_cases h2 : v.size ≤ 256
    · refine .inr (.inr ⟨h1, h2, ?_⟩)
      rw [decide_eq_true h1, decide_eq_true h2, hi]
      by_cases h3 : ahead 1 v.data.toList < v.size
      · rw [if_pos h3, decide_eq_false (by omega), decide_eq_false (by omega)]; rfl
      · rw [if_neg h3, decide_eq_true (by omega)]; rfl
    · exact .inr (.inl ⟨h1, h2, by rw [decide_eq_false h2]; simp⟩)
  · exact .inl ⟨h1, by rw [decide_eq_false h1]; rfl⟩

theorem value_any (v : ByteArray) (w : World) (hv : v.size ≤ 9223372036854775807) :
    Calls Tryz.prog 59 #[.string v] w fun e w' => e = .returned (.bool (rightV v.data.toList)) ∧ w' = w := by
  rcases rightV_cases v with ⟨h1, hr⟩ | ⟨h1, h2, hr⟩ | ⟨h1, h2, hr⟩
  · have HR := Lib.hid hr
    clear hr
    have d1 : decide ((1 : Int) ≤ (v.size : Int)) = false := decide_eq_false (by omega)
    go_enter Tryz.func59, Tryz.ntmps59
    go_wp2_with fail
    go_ret
    exact ⟨ret_b HR.out.symm, rfl⟩
  · have HR := Lib.hid hr
    clear hr
    go_enter Tryz.func59, Tryz.ntmps59
    go_wp2_with fail
    go_ret
    exact ⟨ret_b HR.out.symm, rfl⟩
  · have HR := Lib.hid hr
    clear hr
    go_enter Tryz.func59, Tryz.ntmps59
    go_wp2_with fail
    refine (strings_IndexByte 1 1 rfl v _).mono ?_
    rintro e w' ⟨rfl, rfl⟩
    go_wp2_with fail
    go_ret
    exact ⟨ret_b HR.out.symm, rfl⟩

theorem right_any (t : Int) (v : ByteArray) (w : World) (hv : v.size ≤ 9223372036854775807) :
    Calls Tryz.prog 40 #[.agg #[.int .i64 t, .string v]] w fun e w' => e = .returned (.bool (rightF ⟨t, v⟩)) ∧ Below w.heap.size w w' := by
  cases hr : rightT t
  · have HR := Lib.hid (show rightF ⟨t, v⟩ = false by rw [rightF_split, show rightT (F.mk t v).tag = false from hr]; rfl)
    have HT := Lib.hid hr
    clear hr
    go_enter Tryz.func40, Tryz.ntmps40
    go_wp2_with fail
    refine (tag_any t _).mono ?_
    rw [HT.out]
    rintro e w' ⟨rfl, rfl⟩
    go_wp2_with fail
    go_ret
    exact ⟨ret_b HR.out.symm, (Below.refl _ _).alloc (Nat.le_refl _) _⟩
  · have HR := Lib.hid (show rightF ⟨t, v⟩ = rightV v.data.toList by rw [rightF_split, show rightT (F.mk t v).tag = true from hr]; rfl)
    have HT := Lib.hid hr
    clear hr
    go_enter Tryz.func40, Tryz.ntmps40
    go_wp2_with fail
    refine (tag_any t _).mono ?_
    rw [HT.out]
    rintro e w' ⟨rfl, rfl⟩
    go_wp2_with fail
    refine (value_any v _ hv).mono ?_
    rintro e w' ⟨rfl, rfl⟩
    go_wp2_with fail
    go_ret
    exact ⟨ret_b HR.out.symm, (Below.refl _ _).alloc (Nat.le_refl _) _⟩

theorem right_is (t : Int) (v : ByteArray) (o : Bool) (h : rightF ⟨t, v⟩ = o) (w : World) (hv : v.size ≤ 9223372036854775807) :
    Calls Tryz.prog 40 #[.agg #[.int .i64 t, .string v]] w fun e w' => e = .returned (.bool o) ∧ Below w.heap.size w w' := by
  rw [← h]; exact right_any t v w hv

end Fld
end Go.Proofs.YtddblaiahgjbaaaGreatDoor
