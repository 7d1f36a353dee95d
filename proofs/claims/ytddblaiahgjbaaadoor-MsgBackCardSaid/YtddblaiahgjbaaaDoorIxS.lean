/-
  Contracts of the library's search for one byte in a string: strings.IndexByte, strings.Cut at one byte.
-/
import Derived.Test.YtddblaiahgjbaaaDoorPlIx
import Derived.Test.YtddblaiahgjbaaaDoorTools
import Derived.Test.YtddblaiahgjbaaaDoorProg
import Derived.WalkSpells
import Derived.WalkLawsBesides
import Derived.Lib.BytesEntry
import Derived.Lib.Strings
import Derived.BigQuiet
namespace Go.Proofs.YtddblaiahgjbaaaDoor
open Go.RowKit

theorem drewn_below (w : World) (q : Nat) : Below w.heap.size w (w.drewN q) := ⟨rfl, rfl, rfl, Nat.le_refl _, fun _ _ => rfl⟩

set_option maxRecDepth 100000 in
theorem sl_IndexByte (c : UInt8) (n : Int) (hn : n = (c.toNat : Int)) (s : ByteArray) (w : World) :
    Calls Tryd.prog 60 #[.string s, .int .u8 n] w fun e w' => e = .returned (.int .i64 (Lib.indexByte s.data.toList c)) ∧ w' = w := by
  have hc : n.toNat.toUInt8 = c := by subst hn; simp
  clear hn
  have HC := Lib.hid hc
  clear hc
  go_enter Tryd.func60, Tryd.ntmps60
  go_wp2_with fail
  rw [run_callFunc_extern Tryd.func73 (by kernel_rfl) (by kernel_rfl) (by kernel_rfl) (e := Extern.BytealgIndexByte.indexByte) (by kernel_rfl), Lib.run_indexByteString, HC.out]
  simp only [Result.andThen]
  rw [Oper.upon_value]
  go_wp2_with fail
  go_ret
  exact ⟨rfl, rfl⟩

theorem strings_IndexByte (c : UInt8) (n : Int) (hn : n = (c.toNat : Int)) (s : ByteArray) (w : World) :
    Calls Tryd.prog 55 #[.string s, .int .u8 n] w fun e w' => e = .returned (.int .i64 (Lib.indexByte s.data.toList c)) ∧ w' = w := by
  have HN := Lib.hid hn
  clear hn
  go_enter Tryd.func55, Tryd.ntmps55
  go_wp2_with fail
  refine (sl_IndexByte c n HN.out s _).mono ?_
  rintro e w' ⟨rfl, rfl⟩
  go_wp2_with fail
  go_ret
  exact ⟨rfl, rfl⟩

set_option maxRecDepth 100000 in
set_option maxHeartbeats 1000000 in
theorem sl_Index_one (c : UInt8) (s : ByteArray) (w : World) :
    Calls Tryd.prog 45 #[.string s, .string ⟨#[c]⟩] w fun e w' => e = .returned (.int .i64 (Lib.indexByte s.data.toList c)) ∧ w' = w := by
  cases d : ([c] == s.toList)
  · go_enter Tryd.func45, Tryd.ntmps45
    go_wp2_with fail
    refine (sl_IndexByte c _ rfl s _).mono ?_
    rintro e w' ⟨rfl, rfl⟩
    go_wp2_with fail
    go_ret
    exact ⟨rfl, rfl⟩
  · have HI : Hid (Lib.indexByte s.data.toList c = 0) := Lib.hid (by
      have h := beq_iff_eq.1 d
      rw [Lib.toList_data] at h
      rw [← h]; simp [Lib.indexByte])
    go_enter Tryd.func45, Tryd.ntmps45
    go_wp2_with fail
    go_ret
    exact ⟨ret_i HI.out.symm, rfl⟩

set_option maxRecDepth 100000 in
set_option maxHeartbeats 1000000 in
theorem sl_Cut_hit (c : UInt8) (s : ByteArray) (w : World) (hs : s.size ≤ 9223372036854775807) (hi : ahead c s.data.toList < s.size) :
    Calls Tryd.prog 52 #[.string s, .string ⟨#[c]⟩] w fun e w' => e = .returned (.tuple #[.string (s.extract 0 (ahead c s.data.toList)), .string (s.extract (ahead c s.data.toList + 1) s.size), .bool true]) ∧ Below w.heap.size w w' := by
  have HI : Hid (Lib.indexByte s.data.toList c = (ahead c s.data.toList : Int)) := Lib.hid (by rw [indexByte_eq]; exact if_pos hi)
  obtain ⟨k, hk⟩ : ∃ k, ahead c s.data.toList = k := ⟨_, rfl⟩
  rw [hk] at HI hi ⊢
  clear hk
  go_enter Tryd.func52, Tryd.ntmps52
  go_wp2_with fail
  refine (sl_Index_one c s _).mono ?_
  rw [HI.out]
  rintro e w' ⟨rfl, rfl⟩
  go_wp2_with fail
  go_quiet (fail)
  go_wp2_with fail
  all_goals go_ret3
  all_goals exact ⟨rfl, drewn_below _ _⟩

set_option maxRecDepth 100000 in
set_option maxHeartbeats 1000000 in
theorem sl_Cut_miss (c : UInt8) (s : ByteArray) (w : World) (hi : ¬ ahead c s.data.toList < s.size) :
    Calls Tryd.prog 52 #[.string s, .string ⟨#[c]⟩] w fun e w' => e = .returned (.tuple #[.string s, .string ⟨#[]⟩, .bool false]) ∧ w' = w := by
  have HI : Hid (Lib.indexByte s.data.toList c = -1) := Lib.hid (by rw [indexByte_eq]; exact if_neg hi)
  clear hi
  go_enter Tryd.func52, Tryd.ntmps52
  go_wp2_with fail
  refine (sl_Index_one c s _).mono ?_
  rw [HI.out]
  rintro e w' ⟨rfl, rfl⟩
  go_wp2_with fail
  go_ret3
  exact ⟨rfl, rfl⟩

theorem strings_Cut_hit (c : UInt8) (s : ByteArray) (w : World) (hs : s.size ≤ 9223372036854775807) (hi : ahead c s.data.toList < s.size) :
    Calls Tryd.prog 36 #[.string s, .string ⟨#[c]⟩] w fun e w' => e = .returned (.tuple #[.string (s.extract 0 (ahead c s.data.toList)), .string (s.extract (ahead c s.data.toList + 1) s.size), .bool true]) ∧ Below w.heap.size w w' := by
  have HI := Lib.hid hi
  obtain ⟨u, hu⟩ : ∃ u, s.extract 0 (ahead c s.data.toList) = u := ⟨_, rfl⟩
  obtain ⟨v, hv⟩ : ∃ v, s.extract (ahead c s.data.toList + 1) s.size = v := ⟨_, rfl⟩
  have H := fun w => sl_Cut_hit c s w hs HI.out
  rw [hu, hv] at *
  have HH := Lib.hid H
  clear hu hv hi H HI
  go_enter Tryd.func36, Tryd.ntmps36
  go_wp2_with fail
  refine (HH.out _).mono ?_
  rintro e w' ⟨rfl, hb⟩
  have HB := Lib.hid hb
  clear hb
  go_wp2_with fail
  go_ret3
  exact ⟨rfl, HB.out⟩

theorem strings_Cut_miss (c : UInt8) (s : ByteArray) (w : World) (hi : ¬ ahead c s.data.toList < s.size) :
    Calls Tryd.prog 36 #[.string s, .string ⟨#[c]⟩] w fun e w' => e = .returned (.tuple #[.string s, .string ⟨#[]⟩, .bool false]) ∧ w' = w := by
  have HH := Lib.hid fun w => sl_Cut_miss c s w hi
  clear hi
  go_enter Tryd.func36, Tryd.ntmps36
  go_wp2_with fail
  refine (HH.out _).mono ?_
  rintro e w' ⟨rfl, rfl⟩
  go_wp2_with fail
  go_ret3
  exact ⟨rfl, rfl⟩

end Go.Proofs.YtddblaiahgjbaaaDoor
