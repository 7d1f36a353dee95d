/-
  The walks of layer 1's laws on lists and texts: NumSums, NumReads.
-/
import Derived.Test.YtkpbedfafaphdaaDoorNumL
import Derived.OpenShut
namespace Go.Proofs.YtkpbedfafaphdaaDoor
open Go.RowKit
namespace Num

theorem wf64 {n : Int} (h : (Lit.int .i64 n).wf = true) : -9223372036854775808 ≤ n ∧ n ≤ 9223372036854775807 := bounds_i64 h

set_option maxHeartbeats 1000000 in
theorem law_NumSums (a : Option Addr) (len cap : Nat) (l : List Int) (w : World) (hr : IsRow .i64 w a len cap l) (hl : Laid w) :
    Calls Tryd.prog 4 #[.slice a len cap] w fun e w' => e = .returned (.bool true) ∧ Below w.heap.size w w' := by
  obtain ⟨rfl, hm, hi, hw⟩ := hr
  have hcap : l.length ≤ cap := by rcases hi with ⟨_, rfl, rfl⟩ | ⟨_, _, h, _⟩ <;> simp_all
  unfold maxLen at hm
  obtain ⟨t, ht⟩ : ∃ t, l.take 1000 = t := ⟨_, rfl⟩
  have HI : Hid (Ints .i64 w a cap t) := Lib.hid (by rw [← ht]; exact hi.take 1000)
  have HW : Hid (∀ x ∈ t, -9223372036854775808 ≤ x ∧ x ≤ 9223372036854775807) := Lib.hid fun x hx => wf64 (hw x (List.mem_of_mem_take (by rw [ht]; exact hx)))
  have HT : Hid (t.length ≤ 1099511627776) := Lib.hid (by rw [← ht, List.length_take]; omega)
  have HN : Hid ((min (l.length : Int) 1000).toNat = t.length) := Lib.hid (by rw [← ht, List.length_take]; omega)
  have H0 : Hid (l = [] → (min (0 : Int) 1000).toNat = t.length) := Lib.hid (by rintro rfl; rw [← ht]; rfl)
  clear hw ht
  rcases hi with ⟨rfl, rfl, rfl⟩ | ⟨x, rfl, _, _⟩
  all_goals
    go_enter Tryd.func4, Tryd.ntmps4
    go_wp2_with fail
    refine (awake_any _ hl).mono ?_
    rintro e w1 ⟨rfl, hb1⟩
    have HB1 := Lib.hid hb1
    clear hb1
    go_wp2_with fail
    first | rw [HN.out] | rw [H0.out trivial]
    refine (sum_any _ _ t HT.out _ (HI.out.later HB1.out) HW.out).mono ?_
    rintro e w' ⟨rfl, rfl⟩
    go_wp2_with fail
    refine (rsum_any _ _ t HT.out _ (HI.out.later HB1.out)).mono ?_
    rintro e w' ⟨rfl, rfl⟩
    go_wp2_with fail
    go_ret
    exact ⟨rfl, HB1.out⟩

set_option maxHeartbeats 1000000 in
theorem law_NumReads (s : ByteArray) (n : Int) (w : World) (hs : s.size ≤ maxLen) (_hn : (Lit.int .i64 n).wf = true) (hl : Laid w) :
    Calls Tryd.prog 5 #[.string s, .int .i64 n] w fun e w' => e = .returned (.bool true) ∧ Below w.heap.size w w' := by
  unfold maxLen at hs
  go_enter Tryd.func5, Tryd.ntmps5
  go_wp2_with fail
  refine (awake_any _ hl).mono ?_
  rintro e w1 ⟨rfl, hb1⟩
  have HB1 := Lib.hid hb1
  have HL1 := Lib.hid (hl.below hb1)
  clear hb1
  go_wp2_with fail
  have hsz : (s.extract 0 (min (s.size : Int) 100).toNat).size ≤ 9223372036854775807 := by rw [ByteArray.size_extract]; omega
  generalize s.extract 0 (min (s.size : Int) 100).toNat = t at hsz ⊢
  refine (parse_any t hsz _ HL1.out).mono ?_
  rintro e w2 ⟨rfl, hb2⟩
  have HB2 := Lib.hid (HB1.out.trans (hb2.mono HB1.out.size))
  have HL2 := Lib.hid (HL1.out.below hb2)
  clear hb2
  go_wp2_with fail
  refine (rparse_any t _).mono ?_
  rintro e w' ⟨rfl, rfl⟩
  go_wp2_with fail
  refine (show_any n _ HL2.out).mono ?_
  rintro e w3 ⟨rfl, hb3⟩
  have HB3 := Lib.hid (HB2.out.trans (hb3.mono HB2.out.size))
  clear hb3
  go_wp2_with fail
  refine (rshow_any n _).mono ?_
  rintro e w' ⟨rfl, rfl⟩
  go_wp2_with fail
  go_ret
  exact ⟨rfl, HB3.out⟩

end Num
end Go.Proofs.YtkpbedfafaphdaaDoor
