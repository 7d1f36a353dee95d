/-
  The program's small tests of layer 5: a letter, a name, a small number, a time, a text, an execution, what a kind names.
  The program's parts, and what a kind names, of layer 5.
  The program's fields of layer 5: put one behind the other.
  The program's Right of layer 5.
  The program's fieldsOf and Put of layer 5.
  The program's Read of layer 5.
  The program's contracts of layer 5, as the layers above and the laws want them.
-/
import Derived.Test.YtddblaiahgjbaaaDoorMsgU
import Derived.Test.YtddblaiahgjbaaaDoorPlMsgP
import Derived.Test.YtddblaiahgjbaaaDoorLaid
import Derived.Test.YtddblaiahgjbaaaDoorPlIx
import Derived.Deep.CutBlock
import Derived.Deep.DeepCutAuto
import Derived.Deep.Cut
import Derived.RegionTactic
import Derived.ChangeAlike
import Derived.Test.YtddblaiahgjbaaaDoorFldC
import Derived.Test.YtddblaiahgjbaaaDoorNumSh
import Derived.Test.YtddblaiahgjbaaaDoorLdRow
import Derived.Deep.RegionHeld3
import Derived.Test.YtddblaiahgjbaaaDoorFldP
import Derived.Test.YtddblaiahgjbaaaDoorFldR

namespace Go.Proofs.YtddblaiahgjbaaaDoor
open Go.RowKit
namespace Msg
open Num

theorem nameC_n (c : UInt8) : nameC c = ((decide (65 ≤ (c.toNat : Int)) && decide ((c.toNat : Int) ≤ 90)) || (decide (97 ≤ (c.toNat : Int)) && decide ((c.toNat : Int) ≤ 122)) || (decide (48 ≤ (c.toNat : Int)) && decide ((c.toNat : Int) ≤ 57))) := by
  apply Bool.eq_iff_iff.2
  rw [nameC_t]
  simp only [Bool.or_eq_true, Bool.and_eq_true, decide_eq_true_eq]
theorem letter_any (c : UInt8) (w : World) : Calls Tryd.prog 68 #[.int .u8 (c.toNat : Int)] w fun e w' => e = .returned (.bool (nameC c)) ∧ w' = w := by
  have HC := Lib.hid (nameC_n c)
  generalize (c.toNat : Int) = n at HC ⊢
  generalize nameC c = o at HC ⊢
  go_enter Tryd.func68, Tryd.ntmps68
  go_wp2_with fail
  all_goals
    go_ret
    refine ⟨ret_b ?_, rfl⟩
    rw [HC.out]
    clear HC
    grind
set_option maxHeartbeats 1000000 in
theorem pname_any (s : ByteArray) (w : World) (hs : s.size ≤ 9223372036854775807) :
    Calls Tryd.prog 57 #[.string s] w fun e w' => e = .returned (.bool (nameB s)) ∧ w' = w := by
  by_cases hz : 1 ≤ s.size
  rotate_left
  · have HE : Hid (nameB s = false) := Lib.hid (by unfold nameB; rw [decide_eq_false (by omega : ¬ 0 < s.size)]; simp)
    obtain ⟨n, hn⟩ : ∃ n, s.size = n := ⟨_, rfl⟩
    have d : decide ((n : Int) < 1) = true := by simp; omega
    go_enter Tryd.func57, Tryd.ntmps57
    rw [HE.out]
    go_wp2_with fail
    all_goals first | (go_ret; exact ⟨rfl, rfl⟩) | (exfalso; omega)
  by_cases ht : s.size ≤ 16
  rotate_left
  · have HE : Hid (nameB s = false) := Lib.hid (by unfold nameB; rw [decide_eq_false ht]; simp)
    go_enter Tryd.func57, Tryd.ntmps57
    rw [HE.out]
    go_wp2_with fail
    all_goals first | (go_ret; exact ⟨rfl, rfl⟩) | (exfalso; omega)
  go_enter Tryd.func57, Tryd.ntmps57
  go_wp2_with fail
  go_loop [14] (fun i_ => ∃ k : Nat, i_ = .int .i64 k ∧ NameTo s k) (fun i_ => s.size - (intOf i_).toNat)
  case atStart => exact ⟨0, rfl, Nat.zero_le _, by simp⟩
  case round =>
    obtain ⟨k, rfl, hn⟩ := hrel
    have hk := hn.1
    have HN := Lib.hid hn
    clear hn
    by_cases hlt : k < s.size
    · have HSTEP : Hid (nameC s[k] = true → NameTo s (k + 1)) := Lib.hid fun h => name_step HN.out hlt h
      have HBAD : Hid (nameC s[k] = false → nameB s = false) := Lib.hid fun h => name_bad hlt h
      obtain ⟨c, hc⟩ : ∃ c, s[k] = c := ⟨_, rfl⟩
      rw [hc] at HSTEP HBAD
      obtain ⟨o, ho⟩ : ∃ o, nameC c = o := ⟨_, rfl⟩
      have HL := Lib.hid fun w => letter_any c w
      rw [ho] at HSTEP HBAD HL
      clear ho
      go_wp2_with fail
      refine (HL.out _).mono ?_
      rintro e w' ⟨rfl, rfl⟩
      cases o
      · go_wp2_with fail
        go_ret
        exact ⟨ret_b (HBAD.out (by trivial)).symm, rfl⟩
      · go_wp2_with fail
        go_round
        case rel => exact ⟨k + 1, by go_num, HSTEP.out (by trivial)⟩
        case measure => simp [intOf]; omega
    · obtain rfl : k = s.size := by omega
      have HE : Hid (nameB s = true) := Lib.hid (by rw [name_end HN.out, decide_eq_true (by omega : 0 < s.size), decide_eq_true ht]; rfl)
      go_wp2_with fail
      go_ret
      exact ⟨ret_b HE.out.symm, rfl⟩

theorem small_any (n : Int) (w : World) : Calls Tryd.prog 40 #[.int .i64 n] w fun e w' => e = .returned (.bool (smallB n)) ∧ w' = w := by
  go_enter Tryd.func40, Tryd.ntmps40
  go_wp2_with fail
  all_goals
    go_ret
    refine ⟨ret_b ?_, rfl⟩
    unfold smallB
    grind
theorem one_any (n : Int) (w : World) : Calls Tryd.prog 19 #[.int .i64 n] w fun e w' => e = .returned (.bool (fromB n)) ∧ w' = w := by
  have HC := Lib.hid fun w => small_any n w
  have HO : Hid (fromB n = ((n != 0) && smallB n)) := Lib.hid (by unfold fromB; congr 1; by_cases h : n = 0 <;> simp [h])
  generalize fromB n = o at HO ⊢
  generalize smallB n = q at HC HO
  go_enter Tryd.func19, Tryd.ntmps19
  cases d : (n != 0)
  · rw [d] at HO
    go_wp2_with fail
    go_ret
    exact ⟨ret_b (by rw [HO.out]; rfl), rfl⟩
  · rw [d] at HO
    go_wp2_with fail
    refine (HC.out _).mono ?_
    rintro e w' ⟨rfl, rfl⟩
    go_wp2_with fail
    go_ret
    exact ⟨ret_b (by rw [HO.out]; rfl), rfl⟩
theorem time_any (n : Int) (w : World) : Calls Tryd.prog 20 #[.int .i64 n] w fun e w' => e = .returned (.bool (timeB n)) ∧ w' = w := by
  go_enter Tryd.func20, Tryd.ntmps20
  go_wp2_with fail
  all_goals
    go_ret
    refine ⟨ret_b ?_, rfl⟩
    unfold timeB
    grind
theorem text_index (s : ByteArray) : textB s = (decide (s.size ≤ 64) && !decide (0 ≤ Lib.indexByte s.data.toList 1)) := by
  have hi := indexByte_eq s.data.toList 1
  have hm := ahead_lt 1 s.data.toList
  rw [hi]
  unfold textB
  rw [Bool.and_comm]
  congr 1
  by_cases h : (1 : UInt8) ∈ s.data.toList
  · rw [if_pos (hm.2 h), decide_eq_true (Int.natCast_nonneg _)]
    show _ = false
    rw [List.all_eq_false]
    exact ⟨1, h, by decide⟩
  · rw [if_neg (fun e => h (hm.1 e))]
    show _ = true
    rw [List.all_eq_true]
    intro x hx
    rw [bne_iff_ne]
    rintro rfl
    exact h hx
theorem text_any (s : ByteArray) (w : World) (hs : s.size ≤ 9223372036854775807) : Calls Tryd.prog 41 #[.string s] w fun e w' => e = .returned (.bool (textB s)) ∧ w' = w := by
  have HC := Lib.hid fun w => Tryd.strings_Contains_one s 1 w
  have HO := Lib.hid (text_index s)
  generalize textB s = o at HO ⊢
  generalize decide (0 ≤ Lib.indexByte s.data.toList 1) = q at HC HO
  by_cases d : s.size ≤ 64
  · rw [decide_eq_true d] at HO
    go_enter Tryd.func41, Tryd.ntmps41
    go_wp2_with fail
    refine (HC.out _).mono ?_
    rintro e w' ⟨rfl, rfl⟩
    go_wp2_with fail
    go_ret
    exact ⟨ret_b (by rw [HO.out]; simp), rfl⟩
  · rw [decide_eq_false d] at HO
    go_enter Tryd.func41, Tryd.ntmps41
    go_wp2_with fail
    go_ret
    exact ⟨ret_b (by rw [HO.out]; rfl), rfl⟩

/-- is the reference to another execution there just if its kind asks for it -/
def refB (x : Ex) : Bool := if refK x.kind = true then nameB x.ref else decide (x.ref = emp)
set_option maxHeartbeats 1000000 in
theorem ref_any (x : Ex) (hx : x.Fits) (w : World) : Calls Tryd.prog 58 #[.agg x.cells] w fun e w' => e = .returned (.bool (refB x)) ∧ Below w.heap.size w w' := by
  have HC := Lib.hid fun w => pname_any x.ref w hx.ref
  have HB : Hid (Below w.heap.size w (w.alloc (.cells x.cells 23))) := Lib.hid ((Below.refl _ _).alloc (Nat.le_refl _) _)
  have HO : Hid (refB x = if refK x.kind = true then nameB x.ref else decide (x.ref = emp)) := Lib.hid rfl
  generalize refB x = o at HO ⊢
  generalize nameB x.ref = q at HC HO
  unfold Ex.cells at HB ⊢
  by_cases d : x.kind = 4 ∨ x.kind = 7 ∨ x.kind = 8
  · have HE : Hid (o = q) := Lib.hid (by rw [HO.out, if_pos (by unfold refK; rcases d with d | d | d <;> rw [d] <;> rfl)])
    clear HO
    go_enter Tryd.func58, Tryd.ntmps58
    rcases d with d | d | d
    all_goals
      go_wp2_with fail
      refine (HC.out _).mono ?_
      rintro e w' ⟨rfl, rfl⟩
      go_wp2_with fail
      go_ret
      exact ⟨ret_b HE.out.symm, (Below.refl _ _).alloc (Nat.le_refl _) _⟩
  · have HE : Hid (o = decide (x.ref = emp)) := Lib.hid (by
      rw [HO.out, if_neg]
      unfold refK
      simp only [Bool.or_eq_true, beq_iff_eq]
      omega)
    have d4 : ¬ x.kind = 4 := fun e => d (.inl e)
    have d7 : ¬ x.kind = 7 := fun e => d (.inr (.inl e))
    have d8 : ¬ x.kind = 8 := fun e => d (.inr (.inr e))
    clear HO d
    go_enter Tryd.func58, Tryd.ntmps58
    go_wp2_with fail
    go_ret
    exact ⟨ret_b (by rw [HE.out, ← empty_is]), HB.out⟩

theorem exec_p (x : Ex) : execB x = (nameB x.id && nameB x.order && nameB x.account && nameB x.symbol && decide (1 ≤ x.kind) && decide (x.kind ≤ 8) && refB x && smallB x.qty && smallB x.price && timeB x.time) := by
  unfold execB refB
  apply Bool.eq_iff_iff.2
  simp only [Bool.and_eq_true]
  constructor
  · rintro ⟨⟨⟨⟨⟨⟨⟨⟨⟨h1, h2⟩, h3⟩, h4⟩, h5⟩, h6⟩, h7⟩, h8⟩, h9⟩, h10⟩
    exact ⟨⟨⟨⟨⟨⟨⟨⟨⟨h3, h4⟩, h5⟩, h6⟩, h1⟩, h2⟩, h7⟩, h8⟩, h9⟩, h10⟩
  · rintro ⟨⟨⟨⟨⟨⟨⟨⟨⟨h3, h4⟩, h5⟩, h6⟩, h1⟩, h2⟩, h7⟩, h8⟩, h9⟩, h10⟩
    exact ⟨⟨⟨⟨⟨⟨⟨⟨⟨h1, h2⟩, h3⟩, h4⟩, h5⟩, h6⟩, h7⟩, h8⟩, h9⟩, h10⟩
set_option maxRecDepth 100000 in
set_option maxHeartbeats 4000000 in
theorem exec_any (x : Ex) (hx : x.Fits) (w : World) (_hl : Laid w) : Calls Tryd.prog 42 #[.agg x.cells] w fun e w' => e = .returned (.bool (execB x)) ∧ Below w.heap.size w w' := by
  have HF := Lib.hid hx
  have hk := hx.kind
  unfold I64 at hk
  clear hx
  have HE := Lib.hid (exec_p x)
  have HRF := Lib.hid (fun w => ref_any x HF.out w)
  have HB0 : Hid (Below w.heap.size w (w.alloc (.cells x.cells 23))) := Lib.hid ((Below.refl _ _).alloc (Nat.le_refl _) _)
  have HBK : Hid ((w.alloc (.cells x.cells 23)).heap[w.heap.size]? = some (.cells x.cells 23 (0, 0))) := Lib.hid (heap_alloc_new _ _)
  generalize execB x = o at HE ⊢
  generalize refB x = r at HE HRF
  go_enter Tryd.func42, Tryd.ntmps42
  go_upto_region 1 with fail
  generalize w.alloc (.cells x.cells 23) = w0 at HB0 HBK ⊢
  have HRG := Lib.hid (block_range HBK.out)
  have c0 : w0.cell? ⟨w.heap.size, 0, none⟩ = some (.string x.id) := cell_at HBK.out rfl
  have c2 : w0.cell? ⟨w.heap.size, 2, none⟩ = some (.string x.order) := cell_at HBK.out rfl
  have c3 : w0.cell? ⟨w.heap.size, 3, none⟩ = some (.string x.account) := cell_at HBK.out rfl
  have c4 : w0.cell? ⟨w.heap.size, 4, none⟩ = some (.string x.symbol) := cell_at HBK.out rfl
  have c5 : w0.cell? ⟨w.heap.size, 5, none⟩ = some (.int .i64 x.kind) := cell_at HBK.out rfl
  obtain ⟨n1, hn1⟩ : ∃ n, nameB x.id = n := ⟨_, rfl⟩
  obtain ⟨n2, hn2⟩ : ∃ n, nameB x.order = n := ⟨_, rfl⟩
  obtain ⟨n3, hn3⟩ : ∃ n, nameB x.account = n := ⟨_, rfl⟩
  obtain ⟨n4, hn4⟩ : ∃ n, nameB x.symbol = n := ⟨_, rfl⟩
  have HN1 := Lib.hid (fun w => hn1 ▸ pname_any x.id w HF.out.id)
  have HN2 := Lib.hid (fun w => hn2 ▸ pname_any x.order w HF.out.order)
  have HN3 := Lib.hid (fun w => hn3 ▸ pname_any x.account w HF.out.account)
  have HN4 := Lib.hid (fun w => hn4 ▸ pname_any x.symbol w HF.out.symbol)
  rw [hn1, hn2, hn3, hn4] at HE
  clear hn1 hn2 hn3 hn4
  cases n1
  · go_wp2_with fail
    refine (HN1.out _).mono ?_
    rintro e w' ⟨rfl, rfl⟩
    go_wp2_with fail
    go_ret
    exact ⟨ret_b (by rw [HE.out]; rfl), HB0.out⟩
  cases n2
  · go_wp2_with fail
    refine (HN1.out _).mono ?_
    rintro e w' ⟨rfl, rfl⟩
    go_wp2_with fail
    refine (HN2.out _).mono ?_
    rintro e w' ⟨rfl, rfl⟩
    go_wp2_with fail
    go_ret
    exact ⟨ret_b (by rw [HE.out]; rfl), HB0.out⟩
  cases n3
  · go_wp2_with fail
    refine (HN1.out _).mono ?_
    rintro e w' ⟨rfl, rfl⟩
    go_wp2_with fail
    refine (HN2.out _).mono ?_
    rintro e w' ⟨rfl, rfl⟩
    go_wp2_with fail
    refine (HN3.out _).mono ?_
    rintro e w' ⟨rfl, rfl⟩
    go_wp2_with fail
    go_ret
    exact ⟨ret_b (by rw [HE.out]; rfl), HB0.out⟩
  cases n4
  · go_wp2_with fail
    refine (HN1.out _).mono ?_
    rintro e w' ⟨rfl, rfl⟩
    go_wp2_with fail
    refine (HN2.out _).mono ?_
    rintro e w' ⟨rfl, rfl⟩
    go_wp2_with fail
    refine (HN3.out _).mono ?_
    rintro e w' ⟨rfl, rfl⟩
    go_wp2_with fail
    refine (HN4.out _).mono ?_
    rintro e w' ⟨rfl, rfl⟩
    go_wp2_with fail
    go_ret
    exact ⟨ret_b (by rw [HE.out]; rfl), HB0.out⟩
  go_wp2_with fail
  refine (HN1.out _).mono ?_
  rintro e w' ⟨rfl, rfl⟩
  go_wp2_with fail
  refine (HN2.out _).mono ?_
  rintro e w' ⟨rfl, rfl⟩
  go_wp2_with fail
  refine (HN3.out _).mono ?_
  rintro e w' ⟨rfl, rfl⟩
  go_wp2_with fail
  refine (HN4.out _).mono ?_
  rintro e w' ⟨rfl, rfl⟩
  by_cases k1 : 1 ≤ x.kind
  rotate_left
  · go_wp2_with fail
    go_ret
    exact ⟨ret_b (by rw [HE.out, decide_eq_false (by omega : ¬ 1 ≤ x.kind)]; rfl), HB0.out⟩
  by_cases k8 : x.kind ≤ 8
  rotate_left
  · go_wp2_with fail
    go_ret
    exact ⟨ret_b (by rw [HE.out, decide_eq_true k1, decide_eq_false (by omega : ¬ x.kind ≤ 8)]; rfl), HB0.out⟩
  go_wp2_with (refine wpList_load_mid_g (by rfl) 23 _ rfl w.heap.size 0 rfl _ _ HRG.out Tryd.underlying23 rfl (by kernel_rfl) ?_)
  refine (HRF.out _).mono ?_
  rintro e w1 ⟨rfl, hb1⟩
  have HB1 := Lib.hid (HB0.out.trans (hb1.mono HB0.out.size))
  have HBK1 := Lib.hid (below_block HBK.out hb1)
  clear hb1 c0 c2 c3 c4 c5
  have c7 : w1.cell? ⟨w.heap.size, 7, none⟩ = some (.int .i64 x.qty) := cell_at HBK1.out rfl
  have c8 : w1.cell? ⟨w.heap.size, 8, none⟩ = some (.int .i64 x.price) := cell_at HBK1.out rfl
  have c9 : w1.cell? ⟨w.heap.size, 9, none⟩ = some (.int .i64 x.time) := cell_at HBK1.out rfl
  have HE2 : Hid (o = (r && smallB x.qty && smallB x.price && timeB x.time)) := Lib.hid (by rw [HE.out, decide_eq_true k1, decide_eq_true k8]; rfl)
  clear HE
  generalize hq : smallB x.qty = q at HE2
  generalize hp : smallB x.price = p at HE2
  generalize ht : timeB x.time = t at HE2
  have HC1 := Lib.hid (fun w => hq ▸ small_any x.qty w)
  have HC2 := Lib.hid (fun w => hp ▸ small_any x.price w)
  have HC3 := Lib.hid (fun w => ht ▸ time_any x.time w)
  clear hq hp ht
  cases r
  · go_wp2_with fail
    go_ret
    exact ⟨ret_b (by rw [HE2.out]; rfl), HB1.out⟩
  go_wp2_with fail
  refine (HC1.out _).mono ?_
  rintro e w' ⟨rfl, rfl⟩
  cases q
  · go_wp2_with fail
    go_ret
    exact ⟨ret_b (by rw [HE2.out]; rfl), HB1.out⟩
  go_wp2_with fail
  refine (HC2.out _).mono ?_
  rintro e w' ⟨rfl, rfl⟩
  cases p
  · go_wp2_with fail
    go_ret
    exact ⟨ret_b (by rw [HE2.out]; rfl), HB1.out⟩
  go_wp2_with fail
  refine (HC3.out _).mono ?_
  rintro e w' ⟨rfl, rfl⟩
  go_wp2_with fail
  go_ret
  exact ⟨ret_b (by rw [HE2.out]; rfl), HB1.out⟩

end Msg
end Go.Proofs.YtddblaiahgjbaaaDoor

namespace Go.Proofs.YtddblaiahgjbaaaDoor
open Go.RowKit
namespace Msg
open Num

set_option maxRecDepth 100000 in
set_option maxHeartbeats 4000000 in
theorem parts_any (m : Ms) (hm : m.Fits) (w : World) (hl : Laid w) : Calls Tryd.prog 22 #[.agg m.cells] w fun e w' => e = .returned (.bool (partsB m)) ∧ Below w.heap.size w w' := by
  have HBX0 := Lib.hid (BoxM.made w m 25)
  have HB0 : Hid (Below w.heap.size w (w.alloc (.cells m.cells 25))) := Lib.hid ((Below.refl _ _).alloc (Nat.le_refl _) _)
  have HF := Lib.hid hm
  have HL := Lib.hid (hl.below HB0.out)
  have hk := hm.kind
  unfold I64 at hk
  have HP : Hid (partsB m = if m.kind = 1 then smallB m.a else if m.kind = 2 then textB m.text else if m.kind = 3 then decide (m.text ≠ emp) && textB m.text else if m.kind = 4 then fromB m.a && smallB m.b
    else if m.kind = 5 then fromB m.a else if m.kind = 7 then execB m.exec else true) := Lib.hid rfl
  clear hm hl
  have HC1 := Lib.hid (fun w => small_any m.a w)
  have HC2 := Lib.hid (fun w => text_any m.text w HF.out.text)
  have HC3 := Lib.hid (fun w => small_any m.b w)
  have HC4 := Lib.hid (fun w => one_any m.a w)
  have HC5 := Lib.hid (fun w hl => exec_any m.exec HF.out.exec w hl)
  clear HF
  generalize partsB m = o at HP ⊢
  generalize smallB m.a = sa at HP HC1
  generalize textB m.text = st at HP HC2
  generalize smallB m.b = sb at HP HC3
  generalize fromB m.a = oa at HP HC4
  generalize execB m.exec = ex at HP HC5
  go_enter Tryd.func22, Tryd.ntmps22
  go_upto_region 1 with fail
  generalize w.alloc (.cells m.cells 25) = w0 at HBX0 HB0 HL ⊢
  have HRX := Lib.hid HBX0.out.rangeX
  have c0 := HBX0.out.c0
  have c4 := HBX0.out.c4
  have c5 := HBX0.out.c5
  have c7 := HBX0.out.c7
  clear HBX0
  by_cases k1 : m.kind = 1
  · have HE : Hid (o = sa) := Lib.hid (by rw [HP.out, if_pos k1])
    clear HP
    go_wp2_with fail
    refine (HC1.out _).mono ?_
    rintro e w' ⟨rfl, rfl⟩
    go_wp2_with fail
    go_ret
    exact ⟨ret_b HE.out.symm, HB0.out⟩
  by_cases k2 : m.kind = 2
  · have HE : Hid (o = st) := Lib.hid (by rw [HP.out, if_neg k1, if_pos k2])
    clear HP
    go_wp2_with fail
    refine (HC2.out _).mono ?_
    rintro e w' ⟨rfl, rfl⟩
    go_wp2_with fail
    go_ret
    exact ⟨ret_b HE.out.symm, HB0.out⟩
  by_cases k3 : m.kind = 3
  · have HE : Hid (o = (decide (m.text ≠ emp) && st)) := Lib.hid (by rw [HP.out, if_neg k1, if_neg k2, if_pos k3])
    clear HP
    have hes := empty_is m.text
    by_cases e0 : m.text = emp
    · rw [decide_eq_true e0] at hes
      have HE2 : Hid (o = false) := Lib.hid (by rw [HE.out, decide_eq_false (fun h => h e0)]; rfl)
      clear HE e0
      go_wp2_with fail
      go_ret
      exact ⟨ret_b HE2.out.symm, HB0.out⟩
    · rw [decide_eq_false e0] at hes
      have HE2 : Hid (o = st) := Lib.hid (by rw [HE.out, decide_eq_true e0]; rfl)
      clear HE e0
      go_wp2_with fail
      refine (HC2.out _).mono ?_
      rintro e w' ⟨rfl, rfl⟩
      go_wp2_with fail
      go_ret
      exact ⟨ret_b HE2.out.symm, HB0.out⟩
  by_cases k4 : m.kind = 4
  · have HE : Hid (o = (oa && sb)) := Lib.hid (by rw [HP.out, if_neg k1, if_neg k2, if_neg k3, if_pos k4])
    clear HP
    go_wp2_with fail
    refine (HC4.out _).mono ?_
    rintro e w' ⟨rfl, rfl⟩
    cases oa
    · go_wp2_with fail
      go_ret
      exact ⟨ret_b (by rw [HE.out]; rfl), HB0.out⟩
    · go_wp2_with fail
      refine (HC3.out _).mono ?_
      rintro e w' ⟨rfl, rfl⟩
      go_wp2_with fail
      go_ret
      exact ⟨ret_b (by rw [HE.out]; rfl), HB0.out⟩
  by_cases k5 : m.kind = 5
  · have HE : Hid (o = oa) := Lib.hid (by rw [HP.out, if_neg k1, if_neg k2, if_neg k3, if_neg k4, if_pos k5])
    clear HP
    go_wp2_with fail
    refine (HC4.out _).mono ?_
    rintro e w' ⟨rfl, rfl⟩
    go_wp2_with fail
    go_ret
    exact ⟨ret_b HE.out.symm, HB0.out⟩
  by_cases k7 : m.kind = 7
  · have HE : Hid (o = ex) := Lib.hid (by rw [HP.out, if_neg k1, if_neg k2, if_neg k3, if_neg k4, if_neg k5, if_pos k7])
    clear HP
    go_wp2_with (refine wpList_load_mid_g (by rfl) 23 _ rfl w.heap.size 8 rfl _ _ HRX.out Tryd.underlying23 rfl (by kernel_rfl) ?_)
    refine (HC5.out _ HL.out).mono ?_
    rintro e w' ⟨rfl, hb⟩
    have HB1 := Lib.hid (HB0.out.trans (hb.mono HB0.out.size))
    clear hb
    go_wp2_with fail
    go_ret
    exact ⟨ret_b HE.out.symm, HB1.out⟩
  · have HE : Hid (o = true) := Lib.hid (by rw [HP.out, if_neg k1, if_neg k2, if_neg k3, if_neg k4, if_neg k5, if_neg k7])
    clear HP
    go_wp2_with fail
    go_ret
    exact ⟨ret_b HE.out.symm, HB0.out⟩

/-! ### a message that is made part by part, in a block of its own, ahead of the result's -/
structure At (w wi : World) (r g : Nat) (M : Ms) : Prop where
  B : Below w.heap.size w wi
  lr : w.heap.size ≤ r
  lg : r < g
  R : wi.heap[r]? = some (.cells noMs.cells 25 (0, 0))
  M : wi.heap[g]? = some (.cells M.cells 25 (0, 0))
theorem At.later {w wi w' : World} {r g : Nat} {M : Ms} (h : At w wi r g M) (hb : Below wi.heap.size wi w') : At w w' r g M :=
  ⟨h.B.trans (hb.mono h.B.size), h.lr, h.lg, below_block h.R hb, below_block h.M hb⟩
theorem At.put {w wi : World} {r g : Nat} {M : Ms} (h : At w wi r g M) (j : Nat) (v : Value) (M' : Ms) (e : M.cells.setIfInBounds j v = M'.cells) : At w (wi.setCell ⟨g, j, none⟩ v) r g M' :=
  ⟨h.B.setCell (Nat.le_trans h.lr (Nat.le_of_lt h.lg)) _, h.lr, h.lg, (heap_setCell_other wi _ _ v (fun e => by have : r = g := e; have := h.lg; omega)).trans h.R, e ▸ heap_setCell_same wi _ j _ _ v h.M⟩
theorem At.cell {w wi : World} {r g : Nat} {M : Ms} (h : At w wi r g M) (j : Nat) : wi.cell? ⟨g, j, none⟩ = M.cells[j]? ∧ wi.frozen? ⟨g, j, none⟩ = false ∧ g < wi.heap.size :=
  ⟨cell_of_row wi _ j _ _ _ h.M, frozen_of_row wi _ j _ _ h.M, (Array.getElem?_eq_some_iff.1 h.M).1⟩
theorem At.range {w wi : World} {r g : Nat} {M : Ms} (h : At w wi r g M) : wi.rangeAt g 0 M.cells.toList := block_range h.M
theorem At.there {w wi : World} {r g : Nat} {M : Ms} (h : At w wi r g M) : wi.there g 8 10 := fun j hj =>
  ⟨by rw [(h.cell (8 + j)).1, Array.getElem?_eq_getElem (by show 8 + j < 18; omega)]; rfl, (h.cell (8 + j)).2.1⟩
theorem At.putExec {w wi : World} {r g : Nat} {M : Ms} (h : At w wi r g M) (x : Ex) : At w (wi.setCells g 8 x.cells.toList) r g {M with exec := x} := by
  obtain ⟨k, s, t, c, a, b, gp, tx, y⟩ := M
  have h0 := h.put 8 (.string x.id) ⟨k, s, t, c, a, b, gp, tx, ⟨x.id, y.ref, y.order, y.account, y.symbol, y.kind, y.buy, y.qty, y.price, y.time⟩⟩ rfl
  have h1 := h0.put 9 (.string x.ref) ⟨k, s, t, c, a, b, gp, tx, ⟨x.id, x.ref, y.order, y.account, y.symbol, y.kind, y.buy, y.qty, y.price, y.time⟩⟩ rfl
  have h2 := h1.put 10 (.string x.order) ⟨k, s, t, c, a, b, gp, tx, ⟨x.id, x.ref, x.order, y.account, y.symbol, y.kind, y.buy, y.qty, y.price, y.time⟩⟩ rfl
  have h3 := h2.put 11 (.string x.account) ⟨k, s, t, c, a, b, gp, tx, ⟨x.id, x.ref, x.order, x.account, y.symbol, y.kind, y.buy, y.qty, y.price, y.time⟩⟩ rfl
  have h4 := h3.put 12 (.string x.symbol) ⟨k, s, t, c, a, b, gp, tx, ⟨x.id, x.ref, x.order, x.account, x.symbol, y.kind, y.buy, y.qty, y.price, y.time⟩⟩ rfl
  have h5 := h4.put 13 (.int .i64 x.kind) ⟨k, s, t, c, a, b, gp, tx, ⟨x.id, x.ref, x.order, x.account, x.symbol, x.kind, y.buy, y.qty, y.price, y.time⟩⟩ rfl
  have h6 := h5.put 14 (.bool x.buy) ⟨k, s, t, c, a, b, gp, tx, ⟨x.id, x.ref, x.order, x.account, x.symbol, x.kind, x.buy, y.qty, y.price, y.time⟩⟩ rfl
  have h7 := h6.put 15 (.int .i64 x.qty) ⟨k, s, t, c, a, b, gp, tx, ⟨x.id, x.ref, x.order, x.account, x.symbol, x.kind, x.buy, x.qty, y.price, y.time⟩⟩ rfl
  have h8 := h7.put 16 (.int .i64 x.price) ⟨k, s, t, c, a, b, gp, tx, ⟨x.id, x.ref, x.order, x.account, x.symbol, x.kind, x.buy, x.qty, x.price, y.time⟩⟩ rfl
  exact h8.put 17 (.int .i64 x.time) ⟨k, s, t, c, a, b, gp, tx, x⟩ rfl

theorem results_row_one {fn : Func} {p : Tmp} {ty : TypeId} (h : fn.results = #[.cell p ty]) (tmps : Array Value) (P : Program) (w : World) (g : Nat) (t : TypeId) (cs : Array Value) (fr : Nat × Nat) (d : TypeDesc)
    (hp : tmps.getD p undef = .pointer (some ⟨g, 0, none⟩)) (hg : w.heap[g]? = some (.cells cs t fr))
    (hu : P.underlying ty = some d) (hd : d.isRow = true) (hi : (P.info? ty).map (·.size) = some cs.size) :
    (results fn tmps).run P w = .ok (.agg cs) w := by
  have hl := run_loadVar_mid (P := P) w g 0 ty cs.toList d (block_range hg) hu hd (by simpa using hi)
  rw [Array.toArray_toList] at hl
  rw [results_cell_one h, hp]
  simp [asAddr, Result.andThen, hl]
theorem one_end {fn : Func} (hfn : fn.results = #[.cell 2 25]) (g : Nat) (W : World) (cs old : Array Value) (tmps : Array Value) (hw : W.heap[g]? = some (.cells old 25 (0, 0))) (hcs : cs.size = 18)
    (ht2 : tmps.getD 2 undef = .pointer (some ⟨g, 0, none⟩)) : (results fn tmps).run Tryd.prog (W.setRow g cs) = .ok (.agg cs) (W.setRow g cs) :=
  results_row_one hfn tmps _ _ g 25 cs (0, 0) _ ht2 (setRow_heap W _ _ cs _ _ hw) Tryd.underlying25 rfl (by rw [hcs]; kernel_rfl)

/-- what stands ahead in each message -/
def headM (m : Ms) : Ms := {noMs with kind := m.kind, seq := m.seq, time := m.time, copy := m.copy}

set_option maxRecDepth 100000 in
set_option maxHeartbeats 4000000 in
theorem named_any (m : Ms) (hm : m.Fits) (w : World) : Calls Tryd.prog 21 #[.agg m.cells] w fun e w' => e = .returned (.agg (named m).cells) ∧ Below w.heap.size w w' := by
  have hk := hm.kind
  unfold I64 at hk
  have HBX0 : Hid (BoxM ((w.alloc (.cells m.cells 25)).alloc (.cells noMs.cells 25)) w.heap.size m) := Lib.hid ((BoxM.made w m 25).later ((Below.refl _ _).alloc (Nat.le_refl _) _))
  have HB0 : Hid (Below w.heap.size w ((w.alloc (.cells m.cells 25)).alloc (.cells noMs.cells 25))) := Lib.hid (alloc_below2 _ _)
  have HR0 : Hid (((w.alloc (.cells m.cells 25)).alloc (.cells noMs.cells 25)).heap[w.heap.size + 1]? = some (.cells noMs.cells 25 (0, 0))) := Lib.hid (by
    have := heap_alloc_new (w.alloc (.cells m.cells 25)) (.cells noMs.cells 25)
    rwa [show (w.alloc (.cells m.cells 25)).heap.size = w.heap.size + 1 from by simp] at this)
  have HS0 : Hid (((w.alloc (.cells m.cells 25)).alloc (.cells noMs.cells 25)).heap.size = w.heap.size + 2) := Lib.hid (by simp)
  clear hm
  go_enter Tryd.func21, Tryd.ntmps21
  go_upto_region 1 with fail
  change Code.wp _ _ _ _ ((w.alloc (.cells m.cells 25)).alloc (.cells noMs.cells 25))
  generalize (w.alloc (.cells m.cells 25)).alloc (.cells noMs.cells 25) = w0 at HBX0 HB0 HR0 HS0 ⊢
  have c0 := HBX0.out.c0
  have c1 := HBX0.out.c1
  have c2 := HBX0.out.c2
  have c3 := HBX0.out.c3
  go_upto_region 2 with (refine wpList_store_row rfl 25 _ _ rfl w0.heap.size _ rfl rfl _ _ (heap_alloc_last _ _) (by kernel_rfl) (by rfl) (ms_one (headM m)) ?_; rw [World.setRow_alloc_new])
  clear c0 c1 c2 c3
  change Code.wp _ _ _ _ (w0.alloc (.cells (headM m).cells 25))
  have S0 : Hid (At w (w0.alloc (.cells (headM m).cells 25)) (w.heap.size + 1) w0.heap.size (headM m)) := Lib.hid
    ⟨HB0.out.alloc HB0.out.size _, Nat.le_succ _, by have := HS0.out; omega, alloc_block HR0.out, heap_alloc_new _ _⟩
  have HBX : Hid (BoxM (w0.alloc (.cells (headM m).cells 25)) w.heap.size m) := Lib.hid (HBX0.out.later ((Below.refl _ _).alloc (Nat.le_refl _) _))
  generalize w0.alloc (.cells (headM m).cells 25) = u0 at S0 HBX ⊢
  clear HB0 HR0 HS0 HBX0
  have HNE : Hid (named m = if m.kind = 1 then {headM m with a := m.a} else if m.kind = 2 ∨ m.kind = 3 then {headM m with text := m.text} else if m.kind = 4 then {headM m with a := m.a, b := m.b}
    else if m.kind = 5 then {headM m with a := m.a, gap := m.gap} else if m.kind = 7 then {headM m with exec := m.exec} else headM m) := Lib.hid rfl
  have c0 := HBX.out.c0
  by_cases k1 : m.kind = 1
  · have HN : Hid (named m = {headM m with a := m.a}) := Lib.hid (by rw [HNE.out, if_pos k1])
    clear HNE
    have c4 := HBX.out.c4
    have ⟨y0, f0, s0⟩ := S0.out.cell 4
    have x0 : u0.cell? ⟨w0.heap.size, 4, none⟩ = some (.int .i64 0) := y0
    clear y0
    have S1 := Lib.hid (S0.out.put 4 (.int .i64 m.a) {headM m with a := m.a} rfl)
    go_upto_region 14 with fail
    generalize (u0.setCell ⟨w0.heap.size, 4, none⟩ (.int .i64 m.a)) = u9 at S1 ⊢
    go_wp2_with (first | (refine wpList_load_mid_g (by rfl) 25 _ rfl w0.heap.size 0 rfl _ _ S1.out.range Tryd.underlying25 rfl (by kernel_rfl) ?_) | (refine wpList_store_row rfl 25 _ _ rfl (w.heap.size + 1) _ rfl rfl _ _ S1.out.R (by kernel_rfl) (by rfl) (ms_one _) ?_))
    refine bodyPost_ret (one_end rfl (w.heap.size + 1) _ _ _ _ S1.out.R rfl rfl) rfl ?_
    rw [HN.out]
    exact ⟨rfl, below_setRow S1.out.B S1.out.lr _⟩
  by_cases k2 : m.kind = 2
  · have HN : Hid (named m = {headM m with text := m.text}) := Lib.hid (by rw [HNE.out, if_neg k1, if_pos (.inl k2)])
    clear HNE
    have c7 := HBX.out.c7
    have ⟨y0, f0, s0⟩ := S0.out.cell 7
    have x0 : u0.cell? ⟨w0.heap.size, 7, none⟩ = some (.string ⟨#[]⟩) := y0
    clear y0
    have S1 := Lib.hid (S0.out.put 7 (.string m.text) {headM m with text := m.text} rfl)
    go_upto_region 14 with fail
    generalize (u0.setCell ⟨w0.heap.size, 7, none⟩ (.string m.text)) = u9 at S1 ⊢
    go_wp2_with (first | (refine wpList_load_mid_g (by rfl) 25 _ rfl w0.heap.size 0 rfl _ _ S1.out.range Tryd.underlying25 rfl (by kernel_rfl) ?_) | (refine wpList_store_row rfl 25 _ _ rfl (w.heap.size + 1) _ rfl rfl _ _ S1.out.R (by kernel_rfl) (by rfl) (ms_one _) ?_))
    refine bodyPost_ret (one_end rfl (w.heap.size + 1) _ _ _ _ S1.out.R rfl rfl) rfl ?_
    rw [HN.out]
    exact ⟨rfl, below_setRow S1.out.B S1.out.lr _⟩
  by_cases k3 : m.kind = 3
  · have HN : Hid (named m = {headM m with text := m.text}) := Lib.hid (by rw [HNE.out, if_neg k1, if_pos (.inr k3)])
    clear HNE
    have c7 := HBX.out.c7
    have ⟨y0, f0, s0⟩ := S0.out.cell 7
    have x0 : u0.cell? ⟨w0.heap.size, 7, none⟩ = some (.string ⟨#[]⟩) := y0
    clear y0
    have S1 := Lib.hid (S0.out.put 7 (.string m.text) {headM m with text := m.text} rfl)
    go_upto_region 14 with fail
    generalize (u0.setCell ⟨w0.heap.size, 7, none⟩ (.string m.text)) = u9 at S1 ⊢
    go_wp2_with (first | (refine wpList_load_mid_g (by rfl) 25 _ rfl w0.heap.size 0 rfl _ _ S1.out.range Tryd.underlying25 rfl (by kernel_rfl) ?_) | (refine wpList_store_row rfl 25 _ _ rfl (w.heap.size + 1) _ rfl rfl _ _ S1.out.R (by kernel_rfl) (by rfl) (ms_one _) ?_))
    refine bodyPost_ret (one_end rfl (w.heap.size + 1) _ _ _ _ S1.out.R rfl rfl) rfl ?_
    rw [HN.out]
    exact ⟨rfl, below_setRow S1.out.B S1.out.lr _⟩
  by_cases k4 : m.kind = 4
  · have HN : Hid (named m = {headM m with a := m.a, b := m.b}) := Lib.hid (by rw [HNE.out, if_neg k1, if_neg (by omega : ¬ (m.kind = 2 ∨ m.kind = 3)), if_pos k4])
    clear HNE
    have c4 := HBX.out.c4
    have c5 := HBX.out.c5
    have ⟨y0, f0, s0⟩ := S0.out.cell 4
    have x0 : u0.cell? ⟨w0.heap.size, 4, none⟩ = some (.int .i64 0) := y0
    clear y0
    have S1 := Lib.hid (S0.out.put 4 (.int .i64 m.a) {headM m with a := m.a} rfl)
    have ⟨y1, f1, s1⟩ := S1.out.cell 5
    have x1 : (u0.setCell ⟨w0.heap.size, 4, none⟩ (.int .i64 m.a)).cell? ⟨w0.heap.size, 5, none⟩ = some (.int .i64 0) := y1
    clear y1
    have S2 := Lib.hid (S1.out.put 5 (.int .i64 m.b) {headM m with a := m.a, b := m.b} rfl)
    go_upto_region 9 with fail
    go_region
    go_upto_region 14 with fail
    generalize ((u0.setCell ⟨w0.heap.size, 4, none⟩ (.int .i64 m.a)).setCell ⟨w0.heap.size, 5, none⟩ (.int .i64 m.b)) = u9 at S2 ⊢
    go_wp2_with (first | (refine wpList_load_mid_g (by rfl) 25 _ rfl w0.heap.size 0 rfl _ _ S2.out.range Tryd.underlying25 rfl (by kernel_rfl) ?_) | (refine wpList_store_row rfl 25 _ _ rfl (w.heap.size + 1) _ rfl rfl _ _ S2.out.R (by kernel_rfl) (by rfl) (ms_one _) ?_))
    refine bodyPost_ret (one_end rfl (w.heap.size + 1) _ _ _ _ S2.out.R rfl rfl) rfl ?_
    rw [HN.out]
    exact ⟨rfl, below_setRow S2.out.B.drew S2.out.lr _⟩
  by_cases k5 : m.kind = 5
  · have HN : Hid (named m = {headM m with a := m.a, gap := m.gap}) := Lib.hid (by rw [HNE.out, if_neg k1, if_neg (by omega : ¬ (m.kind = 2 ∨ m.kind = 3)), if_neg k4, if_pos k5])
    clear HNE
    have c4 := HBX.out.c4
    have c6 := HBX.out.c6
    have ⟨y0, f0, s0⟩ := S0.out.cell 4
    have x0 : u0.cell? ⟨w0.heap.size, 4, none⟩ = some (.int .i64 0) := y0
    clear y0
    have S1 := Lib.hid (S0.out.put 4 (.int .i64 m.a) {headM m with a := m.a} rfl)
    have ⟨y1, f1, s1⟩ := S1.out.cell 6
    have x1 : (u0.setCell ⟨w0.heap.size, 4, none⟩ (.int .i64 m.a)).cell? ⟨w0.heap.size, 6, none⟩ = some (.bool false) := y1
    clear y1
    have S2 := Lib.hid (S1.out.put 6 (.bool m.gap) {headM m with a := m.a, gap := m.gap} rfl)
    go_upto_region 11 with fail
    go_region
    go_upto_region 14 with fail
    generalize ((u0.setCell ⟨w0.heap.size, 4, none⟩ (.int .i64 m.a)).setCell ⟨w0.heap.size, 6, none⟩ (.bool m.gap)) = u9 at S2 ⊢
    go_wp2_with (first | (refine wpList_load_mid_g (by rfl) 25 _ rfl w0.heap.size 0 rfl _ _ S2.out.range Tryd.underlying25 rfl (by kernel_rfl) ?_) | (refine wpList_store_row rfl 25 _ _ rfl (w.heap.size + 1) _ rfl rfl _ _ S2.out.R (by kernel_rfl) (by rfl) (ms_one _) ?_))
    refine bodyPost_ret (one_end rfl (w.heap.size + 1) _ _ _ _ S2.out.R rfl rfl) rfl ?_
    rw [HN.out]
    exact ⟨rfl, below_setRow S2.out.B.drew S2.out.lr _⟩
  by_cases k7 : m.kind = 7
  · have HN : Hid (named m = {headM m with exec := m.exec}) := Lib.hid (by rw [HNE.out, if_neg k1, if_neg (by omega : ¬ (m.kind = 2 ∨ m.kind = 3)), if_neg k4, if_neg k5, if_pos k7])
    clear HNE
    have HRX := Lib.hid HBX.out.rangeX
    have HTH := Lib.hid S0.out.there
    have SX := Lib.hid (S0.out.putExec m.exec)
    go_upto_region 14 with (first | (refine wpList_load_mid_g (by rfl) 23 _ rfl w.heap.size 8 rfl _ _ HRX.out Tryd.underlying23 rfl (by kernel_rfl) ?_) | (refine wpList_store_mid rfl 23 _ _ rfl w0.heap.size 8 _ rfl rfl HTH.out (by kernel_rfl) (ex_one m.exec) ?_))
    generalize (u0.setCells w0.heap.size 8 m.exec.cells.toList) = u9 at SX ⊢
    go_wp2_with (first | (refine wpList_load_mid_g (by rfl) 25 _ rfl w0.heap.size 0 rfl _ _ SX.out.range Tryd.underlying25 rfl (by kernel_rfl) ?_) | (refine wpList_store_row rfl 25 _ _ rfl (w.heap.size + 1) _ rfl rfl _ _ SX.out.R (by kernel_rfl) (by rfl) (ms_one _) ?_))
    refine bodyPost_ret (one_end rfl (w.heap.size + 1) _ _ _ _ SX.out.R rfl rfl) rfl ?_
    rw [HN.out]
    exact ⟨rfl, below_setRow SX.out.B SX.out.lr _⟩
  · have HN : Hid (named m = headM m) := Lib.hid (by rw [HNE.out, if_neg k1, if_neg (by omega : ¬ (m.kind = 2 ∨ m.kind = 3)), if_neg k4, if_neg k5, if_neg k7])
    clear HNE
    go_upto_region 14 with fail
    go_wp2_with (first | (refine wpList_load_mid_g (by rfl) 25 _ rfl w0.heap.size 0 rfl _ _ S0.out.range Tryd.underlying25 rfl (by kernel_rfl) ?_) | (refine wpList_store_row rfl 25 _ _ rfl (w.heap.size + 1) _ rfl rfl _ _ S0.out.R (by kernel_rfl) (by rfl) (ms_one _) ?_))
    refine bodyPost_ret (one_end rfl (w.heap.size + 1) _ _ _ _ S0.out.R rfl rfl) rfl ?_
    rw [HN.out]
    exact ⟨rfl, below_setRow S0.out.B S0.out.lr _⟩

end Msg
end Go.Proofs.YtddblaiahgjbaaaDoor

namespace Go.Proofs.YtddblaiahgjbaaaDoor
open Go.RowKit
namespace Msg
open Num
open Fld (F infoF)

/-- a list of fields that grows: its variable's cell, and its row behind it -/
structure Fs (w wi : World) (g : Nat) (l : List F) : Prop where
  B : Below w.heap.size w wi
  lg : w.heap.size ≤ g
  V : ∃ v, wi.heap[g]? = some (.cells #[v] 43 (0, 0)) ∧ OwnE encF 38 wi (g + 1) v l
/-- what is neither the variable nor a row of fields stands -/
def KpX (g : Nat) (w w' : World) : Prop := ∀ (q : Nat) (cs : Array Value) (e : TypeId) (m : Nat × Nat), e ≠ 38 → q ≠ g → w.heap[q]? = some (.cells cs e m) → w'.heap[q]? = some (.cells cs e m)
theorem KpX.of_below {g : Nat} {w w' : World} (h : Below w.heap.size w w') : KpX g w w' := fun _ _ _ _ _ _ hq => below_block hq h
theorem KpX.trans {g : Nat} {a b c : World} (h : KpX g a b) (k : KpX g b c) : KpX g a c := fun q cs e m hn hg hq => k q cs e m hn hg (h q cs e m hn hg hq)
theorem Fs.later {w wi w' : World} {g : Nat} {l : List F} (h : Fs w wi g l) (hb : Below wi.heap.size wi w') : Fs w w' g l := by
  obtain ⟨B, lg, v, hv, ho⟩ := h
  exact ⟨B.trans (hb.mono B.size), lg, v, below_block hv hb, ho.kept hb⟩
theorem own_set {w : World} {base g i : Nat} {v u : Value} {l : List F} (h : OwnE encF 38 w base v l) (hg : g < base) : OwnE encF 38 (w.setCell ⟨g, i, none⟩ u) base v l := by
  have h2 := h
  unfold OwnE at h ⊢
  refine h.kept (row := some g) ⟨rfl, rfl, rfl, by simp [World.setCell], fun j _ hj => heap_setCell_other w _ j u (fun e => hj (by rw [e]))⟩ ?_
  rcases h2.2 with ⟨rfl, _⟩ | ⟨g', cap, cur, rfl, hb, _⟩
  · exact .inl rfl
  · refine .inr (fun e => ?_)
    simp [Value.ownBlock] at e
    omega
def PutPost (w wi : World) (g : Nat) (l : List F) (e : Ending) (w' : World) : Prop := e = .returned (.tuple #[]) ∧ Fs w w' g l ∧ KpX g wi w'

set_option maxRecDepth 100000 in
set_option maxHeartbeats 1000000 in
theorem putText_any (t : Int) (s : ByteArray) (w wi : World) (g : Nat) (l : List F) (h : Fs w wi g l) (hlen : l.length ≤ 100) :
    Calls Tryd.prog 25 #[.pointer (some ⟨g, 0, none⟩), .int .i64 t, .string s] wi (PutPost w wi g (l ++ [⟨t, s⟩])) := by
  unfold PutPost
  obtain ⟨B, lg, v, hv, ho⟩ := h
  obtain ⟨a, cap, rfl, _⟩ := ho.row
  have c0 : wi.cell? ⟨g, 0, none⟩ = some (.slice a l.length cap) := cell_at hv rfl
  have hgs : g < wi.heap.size := (Array.getElem?_eq_some_iff.1 hv).1
  obtain ⟨i0, hi0, hz0, hz1, hz2⟩ := info_parts infoF
  have HI0 := Lib.hid hi0
  have HZ0 := Lib.hid hz0
  have HZ1 := Lib.hid hz1
  have HZ2 := Lib.hid hz2
  have HV := Lib.hid hv
  have HO := Lib.hid ho
  have HB := Lib.hid B
  have HG := Lib.hid hgs
  have HLG := Lib.hid lg
  clear hi0 hz0 hz1 hz2 hv ho B hgs lg
  go_enter Tryd.func25, Tryd.ntmps25
  go_wp2_with (at_builtin; refine wpList_append_rowk encF (by decide) rfl (.tmp 9) (.tmp 13) _ rfl (g + 1) 38 i0 _ 24 Tryd.underlying43 HI0.out HZ0.out HZ1.out HZ2.out (by rfl) _ l rfl (HO.out.kept ((Below.refl _ _).alloc (Nat.le_refl _) _)) _ _ _ [⟨t, s⟩] rfl (by rfl) (one_row encF _ 38 ⟨t, s⟩ _ rfl) (by simp only [List.length_cons, List.length_nil, maxLen]; omega) (by simp only [List.length_cons, List.length_nil]; omega) (by have := HG.out; simp; omega) ?_; intro v2 w2 hown2 hb2 hk2
               obtain ⟨a2, cap2, hv2, _⟩ := hown2.row
               generalize (l ++ [(⟨t, s⟩ : F)]).length = n2 at hv2
               subst hv2
               have HO2 := Lib.hid hown2
               have HB2 : Hid (Below w.heap.size w w2) := Lib.hid ((HB.out.alloc HB.out.size _).trans (hb2.mono (Nat.le_trans HLG.out (Nat.le_succ _))))
               have HV2 : Hid (w2.heap[g]? = some (.cells #[.slice a l.length cap] 43 (0, 0))) := Lib.hid ((hb2.block g (Nat.lt_succ_self g)).trans (alloc_block HV.out))
               have HK2 : Hid (KpX g wi w2) := Lib.hid (KpX.trans (KpX.of_below ((Below.refl _ _).alloc (Nat.le_refl _) _)) (fun q cs e m hn _ hq => hk2 q cs e m hn hq))
               have x0 : w2.cell? ⟨g, 0, none⟩ = some (.slice a l.length cap) := cell_at HV2.out rfl
               have x1 : w2.frozen? ⟨g, 0, none⟩ = false := frozen_of_row w2 _ 0 _ _ HV2.out
               have x2 : g < w2.heap.size := (Array.getElem?_eq_some_iff.1 HV2.out).1
               clear hown2 hb2 hk2 c0)
  go_end0
  refine ⟨rfl, ⟨HB2.out.setCell HLG.out _, HLG.out, .slice a2 n2 cap2, heap_setCell_same w2 _ 0 _ _ _ HV2.out, own_set HO2.out (Nat.lt_succ_self g)⟩, fun q cs e m hn hq hc => ?_⟩
  rw [heap_setCell_other w2 _ q _ (fun e => hq e)]
  exact HK2.out q cs e m hn hq hc
theorem putNumber_any (t n : Int) (w wi : World) (g : Nat) (l : List F) (h : Fs w wi g l) (hlen : l.length ≤ 100) (hl : Laid wi) :
    Calls Tryd.prog 26 #[.pointer (some ⟨g, 0, none⟩), .int .i64 t, .int .i64 n] wi (PutPost w wi g (l ++ [numF t n])) := by
  have H := Lib.hid h
  have HL := Lib.hid hl
  clear h hl
  go_enter Tryd.func26, Tryd.ntmps26
  go_wp2_with fail
  refine (Num.show_any n _ HL.out).mono ?_
  rintro e w1 ⟨rfl, hb1⟩
  have H1 := Lib.hid (H.out.later hb1)
  have K1 : Hid (KpX g wi w1) := Lib.hid (KpX.of_below hb1)
  clear hb1
  go_wp2_with fail
  refine (putText_any t (showS n) w _ g l H1.out hlen).mono ?_
  rintro e w2 ⟨rfl, h2, k2⟩
  go_wp2_with fail
  go_end0
  exact ⟨rfl, h2, K1.out.trans k2⟩
theorem putFlag_any (t : Int) (on : Bool) (w wi : World) (g : Nat) (l : List F) (h : Fs w wi g l) (hlen : l.length ≤ 100) :
    Calls Tryd.prog 27 #[.pointer (some ⟨g, 0, none⟩), .int .i64 t, .bool on] wi (PutPost w wi g (l ++ optF on ⟨t, yS⟩)) := by
  have H := Lib.hid h
  clear h
  cases on
  · go_enter Tryd.func27, Tryd.ntmps27
    go_wp2_with fail
    go_end0
    refine ⟨rfl, ?_, KpX.of_below (Below.refl _ _)⟩
    rw [show optF false ⟨t, yS⟩ = [] from rfl, List.append_nil]
    exact H.out
  · go_enter Tryd.func27, Tryd.ntmps27
    go_wp2_with fail
    refine (putText_any t yS w _ g l H.out hlen).mono ?_
    rintro e w2 ⟨rfl, h2, k2⟩
    go_wp2_with fail
    go_end0
    exact ⟨rfl, h2, k2⟩
theorem putThere_any (t : Int) (s : ByteArray) (w wi : World) (g : Nat) (l : List F) (h : Fs w wi g l) (hlen : l.length ≤ 100) :
    Calls Tryd.prog 28 #[.pointer (some ⟨g, 0, none⟩), .int .i64 t, .string s] wi (PutPost w wi g (l ++ optF (decide (s ≠ emp)) ⟨t, s⟩)) := by
  have H := Lib.hid h
  have he := empty_is s
  clear h
  by_cases hs : s = emp
  · have HE : Hid (l ++ optF (decide (s ≠ emp)) ⟨t, s⟩ = l) := Lib.hid (by rw [decide_eq_false (fun h => h hs)]; exact List.append_nil l)
    rw [HE.out]
    rw [decide_eq_true hs] at he
    clear hs
    go_enter Tryd.func28, Tryd.ntmps28
    go_wp2_with fail
    go_end0
    exact ⟨rfl, H.out, KpX.of_below (Below.refl _ _)⟩
  · have HE : Hid (l ++ optF (decide (s ≠ emp)) ⟨t, s⟩ = l ++ [⟨t, s⟩]) := Lib.hid (by rw [decide_eq_true hs]; rfl)
    rw [HE.out]
    rw [decide_eq_false hs] at he
    clear hs
    go_enter Tryd.func28, Tryd.ntmps28
    go_wp2_with fail
    refine (putText_any t s w _ g l H.out hlen).mono ?_
    rintro e w2 ⟨rfl, h2, k2⟩
    go_wp2_with fail
    go_end0
    exact ⟨rfl, h2, k2⟩

/-- the list, so many at most, and an execution's own cells beside it -/
structure StX (w u : World) (g : Nat) (l : List F) (n : Nat) (b : Nat) (x : Ex) : Prop where
  f : Fs w u g l
  n : l.length ≤ n
  X : u.heap[b]? = some (.cells x.cells 23 (0, 0))
  L : Laid u
theorem laid_of {w u : World} {g : Nat} {l : List F} (hl : Laid w) (h : Fs w u g l) : Laid u := hl.below h.B
theorem StX.step {w u u' : World} {g : Nat} {l l' : List F} {n b : Nat} {x : Ex} (h : StX w u g l n b x) (hl : Laid w) (hb : b ≠ g) {e : Ending} (p : PutPost w u g l' e u') (hn : l'.length ≤ l.length + 1) : StX w u' g l' (n + 1) b x :=
  ⟨p.2.1, Nat.le_trans hn (Nat.succ_le_succ h.n), p.2.2 _ _ _ _ (by decide) hb h.X, laid_of hl p.2.1⟩
theorem len_one (l : List F) (f : F) : (l ++ [f]).length ≤ l.length + 1 := by simp
theorem len_opt (l : List F) (b : Bool) (f : F) : (l ++ optF b f).length ≤ l.length + 1 := by
  rw [List.length_append]
  have := optF_le b f
  omega

set_option maxRecDepth 100000 in
set_option maxHeartbeats 4000000 in
theorem putExec_any (x : Ex) (w wi : World) (g : Nat) (l : List F) (h : Fs w wi g l) (hlen : l.length ≤ 80) (hl : Laid w) :
    Calls Tryd.prog 29 #[.pointer (some ⟨g, 0, none⟩), .agg x.cells] wi (PutPost w wi g (l ++ execF x)) := by
  have hgs : g ≠ wi.heap.size := by
    obtain ⟨_, _, v, hv, _⟩ := h
    exact Nat.ne_of_lt (Array.getElem?_eq_some_iff.1 hv).1
  have hbg : wi.heap.size ≠ g := fun e => hgs e.symm
  have HL := Lib.hid hl
  have S0 : Hid (StX w (wi.alloc (.cells x.cells 23)) g l 80 wi.heap.size x) := Lib.hid
    ⟨h.later ((Below.refl _ _).alloc (Nat.le_refl _) _), hlen, heap_alloc_new _ _, hl.below ((h.later ((Below.refl _ _).alloc (Nat.le_refl _) _)).B)⟩
  have HK0 : Hid (∀ W, KpX g (wi.alloc (.cells x.cells 23)) W → KpX g wi W) := Lib.hid (fun W hk => (KpX.of_below ((Below.refl _ _).alloc (Nat.le_refl _) _)).trans hk)
  clear h hl hgs
  go_enter Tryd.func29, Tryd.ntmps29
  go_upto_region 1 with fail
  generalize wi.alloc (.cells x.cells 23) = u0 at S0 HK0 ⊢
  have d0 : u0.cell? ⟨wi.heap.size, 0, none⟩ = some (.string x.id) := cell_at S0.out.X rfl
  go_wp2_with fail
  refine (putText_any 17 x.id w _ g l S0.out.f (Nat.le_trans S0.out.n (by omega))).mono ?_
  intro e u1 hp
  obtain rfl := hp.1
  have HK1 : Hid (KpX g u0 u1) := Lib.hid hp.2.2
  have HS := S0.out.step HL.out hbg hp (len_one _ _)
  obtain ⟨L1, hL1⟩ : ∃ L, l ++ [⟨17, x.id⟩] = L := ⟨_, rfl⟩
  rw [hL1] at HS
  have S1 := Lib.hid HS
  have HE1 := Lib.hid hL1
  clear HS hp hL1 d0
  have d1 : u1.cell? ⟨wi.heap.size, 1, none⟩ = some (.string x.ref) := cell_at S1.out.X rfl
  go_wp2_with fail
  refine (putThere_any 19 x.ref w _ g L1 S1.out.f (Nat.le_trans S1.out.n (by omega))).mono ?_
  intro e u2 hp
  obtain rfl := hp.1
  have HK2 : Hid (KpX g u1 u2) := Lib.hid hp.2.2
  have HS := S1.out.step HL.out hbg hp (len_opt _ _ _)
  obtain ⟨L2, hL2⟩ : ∃ L, L1 ++ optF (decide (x.ref ≠ emp)) ⟨19, x.ref⟩ = L := ⟨_, rfl⟩
  rw [hL2] at HS
  have S2 := Lib.hid HS
  have HE2 := Lib.hid hL2
  clear HS hp hL2 d1
  have d2 : u2.cell? ⟨wi.heap.size, 2, none⟩ = some (.string x.order) := cell_at S2.out.X rfl
  go_wp2_with fail
  refine (putText_any 11 x.order w _ g L2 S2.out.f (Nat.le_trans S2.out.n (by omega))).mono ?_
  intro e u3 hp
  obtain rfl := hp.1
  have HK3 : Hid (KpX g u2 u3) := Lib.hid hp.2.2
  have HS := S2.out.step HL.out hbg hp (len_one _ _)
  obtain ⟨L3, hL3⟩ : ∃ L, L2 ++ [⟨11, x.order⟩] = L := ⟨_, rfl⟩
  rw [hL3] at HS
  have S3 := Lib.hid HS
  have HE3 := Lib.hid hL3
  clear HS hp hL3 d2
  have d3 : u3.cell? ⟨wi.heap.size, 3, none⟩ = some (.string x.account) := cell_at S3.out.X rfl
  go_wp2_with fail
  refine (putText_any 1 x.account w _ g L3 S3.out.f (Nat.le_trans S3.out.n (by omega))).mono ?_
  intro e u4 hp
  obtain rfl := hp.1
  have HK4 : Hid (KpX g u3 u4) := Lib.hid hp.2.2
  have HS := S3.out.step HL.out hbg hp (len_one _ _)
  obtain ⟨L4, hL4⟩ : ∃ L, L3 ++ [⟨1, x.account⟩] = L := ⟨_, rfl⟩
  rw [hL4] at HS
  have S4 := Lib.hid HS
  have HE4 := Lib.hid hL4
  clear HS hp hL4 d3
  have d4 : u4.cell? ⟨wi.heap.size, 4, none⟩ = some (.string x.symbol) := cell_at S4.out.X rfl
  go_wp2_with fail
  refine (putText_any 55 x.symbol w _ g L4 S4.out.f (Nat.le_trans S4.out.n (by omega))).mono ?_
  intro e u5 hp
  obtain rfl := hp.1
  have HK5 : Hid (KpX g u4 u5) := Lib.hid hp.2.2
  have HS := S4.out.step HL.out hbg hp (len_one _ _)
  obtain ⟨L5, hL5⟩ : ∃ L, L4 ++ [⟨55, x.symbol⟩] = L := ⟨_, rfl⟩
  rw [hL5] at HS
  have S5 := Lib.hid HS
  have HE5 := Lib.hid hL5
  clear HS hp hL5 d4
  have d5 : u5.cell? ⟨wi.heap.size, 6, none⟩ = some (.bool x.buy) := cell_at S5.out.X rfl
  obtain ⟨sd, hsd⟩ : ∃ sd, showS (if x.buy = true then 1 else 2) = sd := ⟨_, rfl⟩
  have HSD := Lib.hid hsd
  have HS1 : Hid (x.buy = true → sd = ⟨#[49]⟩) := Lib.hid (fun e => by rw [← hsd, e]; decide +kernel)
  have HS2 : Hid (x.buy = false → sd = ⟨#[50]⟩) := Lib.hid (fun e => by rw [← hsd, e]; decide +kernel)
  clear hsd
  have HPS := Lib.hid (fun W (h : Fs w W g L5) => putText_any 54 sd w W g L5 h (Nat.le_trans S5.out.n (by omega)))
  go_upto_if 26 with fail
  go_cut [4] (fun s4 wx => s4 = .string sd ∧ wx = u5)
  case first =>
    cases hby : x.buy
    · rw [hby] at d5
      have e := HS2.out hby
      clear hby
      go_wp2_with fail
      go_meet
      exact ⟨by rw [e], rfl⟩
    · rw [hby] at d5
      have e := HS1.out hby
      clear hby
      go_wp2_with fail
      go_meet
      exact ⟨by rw [e], rfl⟩
  case rest =>
  obtain ⟨rfl, rfl⟩ := hcut
  go_wp2_with fail
  refine (HPS.out _ S5.out.f).mono ?_
  intro e u6 hp
  obtain rfl := hp.1
  have HK6 : Hid (KpX g wc u6) := Lib.hid hp.2.2
  have HS := S5.out.step HL.out hbg hp (len_one _ _)
  obtain ⟨L6, hL6⟩ : ∃ L, L5 ++ [⟨54, sd⟩] = L := ⟨_, rfl⟩
  rw [hL6] at HS
  have S6 := Lib.hid HS
  have HE6 := Lib.hid hL6
  clear HS hp hL6 d5
  have d6 : u6.cell? ⟨wi.heap.size, 5, none⟩ = some (.int .i64 x.kind) := cell_at S6.out.X rfl
  go_wp2_with fail
  refine (putNumber_any 150 x.kind w _ g L6 S6.out.f (Nat.le_trans S6.out.n (by omega)) S6.out.L).mono ?_
  intro e u7 hp
  obtain rfl := hp.1
  have HK7 : Hid (KpX g u6 u7) := Lib.hid hp.2.2
  have HS := S6.out.step HL.out hbg hp (len_one _ _)
  obtain ⟨L7, hL7⟩ : ∃ L, L6 ++ [(numF 150 x.kind)] = L := ⟨_, rfl⟩
  rw [hL7] at HS
  have S7 := Lib.hid HS
  have HE7 := Lib.hid hL7
  clear HS hp hL7 d6
  have d7 : u7.cell? ⟨wi.heap.size, 7, none⟩ = some (.int .i64 x.qty) := cell_at S7.out.X rfl
  go_wp2_with fail
  refine (putNumber_any 32 x.qty w _ g L7 S7.out.f (Nat.le_trans S7.out.n (by omega)) S7.out.L).mono ?_
  intro e u8 hp
  obtain rfl := hp.1
  have HK8 : Hid (KpX g u7 u8) := Lib.hid hp.2.2
  have HS := S7.out.step HL.out hbg hp (len_one _ _)
  obtain ⟨L8, hL8⟩ : ∃ L, L7 ++ [(numF 32 x.qty)] = L := ⟨_, rfl⟩
  rw [hL8] at HS
  have S8 := Lib.hid HS
  have HE8 := Lib.hid hL8
  clear HS hp hL8 d7
  have d8 : u8.cell? ⟨wi.heap.size, 8, none⟩ = some (.int .i64 x.price) := cell_at S8.out.X rfl
  go_wp2_with fail
  refine (putNumber_any 31 x.price w _ g L8 S8.out.f (Nat.le_trans S8.out.n (by omega)) S8.out.L).mono ?_
  intro e u9 hp
  obtain rfl := hp.1
  have HK9 : Hid (KpX g u8 u9) := Lib.hid hp.2.2
  have HS := S8.out.step HL.out hbg hp (len_one _ _)
  obtain ⟨L9, hL9⟩ : ∃ L, L8 ++ [(numF 31 x.price)] = L := ⟨_, rfl⟩
  rw [hL9] at HS
  have S9 := Lib.hid HS
  have HE9 := Lib.hid hL9
  clear HS hp hL9 d8
  have d9 : u9.cell? ⟨wi.heap.size, 9, none⟩ = some (.int .i64 x.time) := cell_at S9.out.X rfl
  go_wp2_with fail
  refine (putNumber_any 60 x.time w _ g L9 S9.out.f (Nat.le_trans S9.out.n (by omega)) S9.out.L).mono ?_
  intro e u10 hp
  obtain rfl := hp.1
  have HK10 : Hid (KpX g u9 u10) := Lib.hid hp.2.2
  have HS := S9.out.step HL.out hbg hp (len_one _ _)
  obtain ⟨L10, hL10⟩ : ∃ L, L9 ++ [(numF 60 x.time)] = L := ⟨_, rfl⟩
  rw [hL10] at HS
  have S10 := Lib.hid HS
  have HE10 := Lib.hid hL10
  clear HS hp hL10 d9
  go_wp2_with fail
  go_end0
  refine ⟨rfl, ?_, HK0.out _ (HK1.out.trans (HK2.out.trans (HK3.out.trans (HK4.out.trans (HK5.out.trans (HK6.out.trans (HK7.out.trans (HK8.out.trans (HK9.out.trans HK10.out)))))))))⟩
  have e : l ++ execF x = L10 := by
    rw [← HE10.out, ← HE9.out, ← HE8.out, ← HE7.out, ← HE6.out, ← HE5.out, ← HE4.out, ← HE3.out, ← HE2.out, ← HE1.out]
    unfold execF
    rw [← HSD.out]
    simp only [List.append_assoc, List.cons_append, List.nil_append]
    rfl
  rw [e]
  exact S10.out.f

end Msg
end Go.Proofs.YtddblaiahgjbaaaDoor

namespace Go.Proofs.YtddblaiahgjbaaaDoor
open Go.RowKit
namespace Msg
open Num

theorem eql_msg0 {xs ys : Array Value} {w : World} (hx : Cs flMs xs.toList) (hy : Cs flMs ys.toList) : (binOp .eql 25 (.agg xs) (.agg ys)).run Tryd.prog w = .ok (.bool (sameC xs.toList ys.toList)) w := run_flat_eql fitsMs (by decide) hx hy w
attribute [local go_sem ↓] load_msg eql_msg0
attribute [local go_sem] blkOf_ptr offOf_ptr eq_guard

theorem named_fits {m : Ms} (h : m.Fits) : (named m).Fits := by
  have z : I64 0 := by unfold I64; decide
  unfold named
  split
  · exact ⟨h.kind, h.seq, h.time, h.a, z, emp_str, noEx_fits2⟩
  split
  · exact ⟨h.kind, h.seq, h.time, z, z, h.text, noEx_fits2⟩
  split
  · exact ⟨h.kind, h.seq, h.time, h.a, h.b, emp_str, noEx_fits2⟩
  split
  · exact ⟨h.kind, h.seq, h.time, h.a, z, emp_str, noEx_fits2⟩
  split
  · exact ⟨h.kind, h.seq, h.time, z, z, emp_str, h.exec⟩
  · exact ⟨h.kind, h.seq, h.time, z, z, emp_str, noEx_fits2⟩
theorem one_i (n : Int) (o : Bool) (ho : fromB n = o) (w4 w : World) (hb : Below w4.heap.size w4 w) : Calls Tryd.prog 19 #[.int .i64 n] w fun e w' => e = .returned (.bool o) ∧ Below w4.heap.size w4 w' := by
  subst ho
  exact (one_any n w).mono fun _ _ h => ⟨h.1, by rw [h.2]; exact hb⟩
theorem time_i (n : Int) (o : Bool) (ho : timeB n = o) (w4 w : World) (hb : Below w4.heap.size w4 w) : Calls Tryd.prog 20 #[.int .i64 n] w fun e w' => e = .returned (.bool o) ∧ Below w4.heap.size w4 w' := by
  subst ho
  exact (time_any n w).mono fun _ _ h => ⟨h.1, by rw [h.2]; exact hb⟩
theorem named_i (c d : Array Value) (m : Ms) (hc : c = m.cells) (hd : (named m).cells = d) (hm : m.Fits) (w4 w : World) (hb : Below w4.heap.size w4 w) : Calls Tryd.prog 21 #[.agg c] w fun e w' => e = .returned (.agg d) ∧ Below w4.heap.size w4 w' := by
  subst hc hd
  exact (named_any m hm w).mono fun _ _ h => ⟨h.1, hb.trans (h.2.mono hb.size)⟩
theorem parts_i (c : Array Value) (o : Bool) (m : Ms) (hc : c = m.cells) (ho : partsB m = o) (hm : m.Fits) (w4 w : World) (hl : Laid w4) (hb : Below w4.heap.size w4 w) : Calls Tryd.prog 22 #[.agg c] w fun e w' => e = .returned (.bool o) ∧ Below w4.heap.size w4 w' := by
  subst hc ho
  exact (parts_any m hm w (hl.below hb)).mono fun _ _ h => ⟨h.1, hb.trans (h.2.mono hb.size)⟩

set_option maxRecDepth 100000 in
set_option maxHeartbeats 8000000 in
theorem right_any (m : Ms) (hm : m.Fits) (w : World) (hl : Laid w) : Calls Tryd.prog 11 #[.agg m.cells] w fun e w' => e = .returned (.bool (rightM m)) ∧ Below w.heap.size w w' := by
  have HF := Lib.hid hm
  obtain ⟨C, hC⟩ : ∃ C, m.cells = C := ⟨_, rfl⟩
  have HC := Lib.hid hC.symm
  obtain ⟨N, hN⟩ : ∃ N, (named m).cells = N := ⟨_, rfl⟩
  have HN := Lib.hid hN
  have HX0 : Hid ((w.alloc (.cells C 25)).heap[w.heap.size]? = some (.cells C 25 (0, 0))) := Lib.hid (heap_alloc_new w _)
  have HB0 : Hid (Below w.heap.size w (w.alloc (.cells C 25))) := Lib.hid ((Below.refl _ _).alloc (Nat.le_refl _) _)
  have HL0 : Hid (Laid (w.alloc (.cells C 25))) := Lib.hid (hl.below HB0.out)
  have HE := Lib.hid (right_named m)
  have HXC : Hid (C.extract 0 18 = C ∧ C.size = 18 ∧ C[0]? = some (.int .i64 m.kind) ∧ C[1]? = some (.int .i64 m.seq) ∧ C[2]? = some (.int .i64 m.time)) := Lib.hid (by rw [← hC]; exact ⟨rfl, rfl, rfl, rfl, rfl⟩)
  have HSC : Hid (Cs flMs C.toList ∧ Cs flMs N.toList ∧ sameC C.toList N.toList = decide (m = named m)) := Lib.hid (by
    rw [← hC, ← hN]
    exact ⟨Ms.cs hm, Ms.cs (named_fits hm), ms_same m (named m)⟩)
  generalize rightM m = o at HE ⊢
  rw [hC]
  clear hC hN hm hl
  go_enter Tryd.func11, Tryd.ntmps11
  go_upto_region 1 with fail
  generalize w.alloc (.cells C 25) = w0 at HX0 HB0 HL0 ⊢
  have HXK : Hid (∀ W, Below w0.heap.size w0 W → W.cell? ⟨w.heap.size, 0, none⟩ = some (.int .i64 m.kind) ∧ W.cell? ⟨w.heap.size, 1, none⟩ = some (.int .i64 m.seq) ∧ W.cell? ⟨w.heap.size, 2, none⟩ = some (.int .i64 m.time) ∧ RowOk W w.heap.size 18 ∧ rowAt W w.heap.size = C) := Lib.hid fun W hW => by
    have hx := below_block HX0.out hW
    have ⟨h1, h2⟩ := RowOk.of hx HXC.out.2.1
    exact ⟨cell_at hx HXC.out.2.2.1, cell_at hx HXC.out.2.2.2.1, cell_at hx HXC.out.2.2.2.2, h1, h2⟩
  have x1 := HXC.out.1
  have hb0 : Below w0.heap.size w0 w0.drew := (Below.refl _ _).drew
  have HLE : Hid (∀ W, Below w0.heap.size w0 W → Below w.heap.size w W) := Lib.hid fun W hW => HB0.out.trans (hW.mono HB0.out.size)
  clear HX0 HXC
  by_cases k1 : 1 ≤ m.kind
  rotate_left
  · have q1 : decide ((1 : Int) ≤ m.kind) = false := decide_eq_false k1
    have HO : Hid (o = false) := Lib.hid (by rw [HE.out, q1]; rfl)
    clear k1 HE
    refine wp_region_held_drew (S := (fun w' => Below w0.heap.size w0 w' ∧ w'.cell? ⟨w.heap.size, 0, none⟩ = some (.int .i64 m.kind) ∧ w'.cell? ⟨w.heap.size, 1, none⟩ = some (.int .i64 m.seq) ∧ w'.cell? ⟨w.heap.size, 2, none⟩ = some (.int .i64 m.time) ∧ RowOk w' w.heap.size 18 ∧ rowAt w' w.heap.size = C)) (by kernel_rfl) ?hs0 (fun hHeld => ?_)
    case hs0 => (exact ⟨hb0, HXK.out _ hb0⟩)
    refine' wpAnyH_take (i := 0) (oi := _) (v := _) rfl (by kernel_rfl) (by kernel_rfl) (by kernel_rfl) (fun _ _ _ h => h) (Or.inl ⟨by rfl, ?hy⟩) (by assumption) ?_
    case hy => (intro w hSw; (try dsimp only at hSw); (try simp only [List.getElem_toArray, List.getElem_cons_zero]); go_simp; try with_reducible rfl)
    try simp only [List.getElem_toArray, List.getElem_cons_zero, Act.put, List.setIfInBounds_toArray, List.set_cons_zero, List.set_cons_succ]
    refine' wpAnyH_take (i := 1) (oi := _) (v := _) rfl (by kernel_rfl) (by kernel_rfl) (by kernel_rfl) (fun _ _ _ h => h) (Or.inl ⟨by rfl, ?hy⟩) (by assumption) ?_
    case hy => (intro w hSw; (try dsimp only at hSw); (try simp only [List.getElem_toArray, List.getElem_cons_zero, List.getElem_cons_succ]); go_simp; try with_reducible rfl)
    try simp only [List.getElem_toArray, List.getElem_cons_zero, List.getElem_cons_succ, Act.put, List.setIfInBounds_toArray, List.set_cons_zero, List.set_cons_succ]
    refine' wpAnyH_take (i := 2) (oi := _) (v := _) rfl (by kernel_rfl) (by kernel_rfl) (by kernel_rfl) (fun _ _ _ h => h) (Or.inl ⟨by rfl, ?hy⟩) (by assumption) ?_
    case hy => (intro w hSw; (try dsimp only at hSw); (try simp only [List.getElem_toArray, List.getElem_cons_zero, List.getElem_cons_succ]); go_simp; try with_reducible rfl)
    try simp only [List.getElem_toArray, List.getElem_cons_zero, List.getElem_cons_succ, Act.put, List.setIfInBounds_toArray, List.set_cons_zero, List.set_cons_succ]
    refine' wpAnyH_take (i := 3) (oi := _) (v := _) rfl (by kernel_rfl) (by kernel_rfl) (by kernel_rfl) (fun _ _ _ h => h) (Or.inl ⟨by rfl, ?hy⟩) (by assumption) ?_
    case hy => (intro w hSw; (try dsimp only at hSw); (try simp only [List.getElem_toArray, List.getElem_cons_zero, List.getElem_cons_succ]); go_simp; try with_reducible rfl)
    try simp only [List.getElem_toArray, List.getElem_cons_zero, List.getElem_cons_succ, Act.put, List.setIfInBounds_toArray, List.set_cons_zero, List.set_cons_succ]
    refine' wpAnyH_take (i := 4) (oi := _) (v := _) rfl (by kernel_rfl) (by kernel_rfl) (by kernel_rfl) (fun _ _ _ h => h) (Or.inr ⟨by rfl, rfl⟩) (by assumption) ?_
    try simp only [List.getElem_toArray, List.getElem_cons_zero, List.getElem_cons_succ, Act.put, List.setIfInBounds_toArray, List.set_cons_zero, List.set_cons_succ]
    refine' wpAnyH_take (i := 5) (oi := _) (v := _) rfl (by kernel_rfl) (by kernel_rfl) (by kernel_rfl) (fun _ _ _ h => h) (Or.inr ⟨by rfl, rfl⟩) (by assumption) ?_
    try simp only [List.getElem_toArray, List.getElem_cons_zero, List.getElem_cons_succ, Act.put, List.setIfInBounds_toArray, List.set_cons_zero, List.set_cons_succ]
    refine' wpAnyH_take (i := 6) (oi := _) (v := _) rfl (by kernel_rfl) (by kernel_rfl) (by kernel_rfl) (fun _ _ _ h => h) (Or.inr ⟨by rfl, rfl⟩) (by assumption) ?_
    try simp only [List.getElem_toArray, List.getElem_cons_zero, List.getElem_cons_succ, Act.put, List.setIfInBounds_toArray, List.set_cons_zero, List.set_cons_succ]
    refine' wpAnyH_take (i := 7) (oi := _) (v := _) rfl (by kernel_rfl) (by kernel_rfl) (by kernel_rfl) (fun _ _ _ h => h) (Or.inl ⟨by rfl, ?hy⟩) (by assumption) ?_
    case hy => (intro w hSw; (try dsimp only at hSw); (try simp only [List.getElem_toArray, List.getElem_cons_zero, List.getElem_cons_succ]); go_simp; try with_reducible rfl)
    try simp only [List.getElem_toArray, List.getElem_cons_zero, List.getElem_cons_succ, Act.put, List.setIfInBounds_toArray, List.set_cons_zero, List.set_cons_succ]
    refine' wpAnyH_take (i := 8) (oi := _) (v := _) rfl (by kernel_rfl) (by kernel_rfl) (by kernel_rfl) (fun _ _ _ h => h) (Or.inl ⟨by rfl, ?hy⟩) (by assumption) ?_
    case hy => (intro w hSw; (try dsimp only at hSw); (try simp only [List.getElem_toArray, List.getElem_cons_zero, List.getElem_cons_succ]); go_simp; try with_reducible rfl)
    try simp only [List.getElem_toArray, List.getElem_cons_zero, List.getElem_cons_succ, Act.put, List.setIfInBounds_toArray, List.set_cons_zero, List.set_cons_succ]
    refine' wpAnyH_take (i := 9) (oi := _) (v := _) rfl (by kernel_rfl) (by kernel_rfl) (by kernel_rfl) (fun _ _ _ h => h) (Or.inr ⟨by rfl, rfl⟩) (by assumption) ?_
    try simp only [List.getElem_toArray, List.getElem_cons_zero, List.getElem_cons_succ, Act.put, List.setIfInBounds_toArray, List.set_cons_zero, List.set_cons_succ]
    refine' wpAnyH_take (i := 10) (oi := _) (v := _) rfl (by kernel_rfl) (by kernel_rfl) (by kernel_rfl) (fun _ _ _ h => h) (Or.inr ⟨by rfl, rfl⟩) (by assumption) ?_
    try simp only [List.getElem_toArray, List.getElem_cons_zero, List.getElem_cons_succ, Act.put, List.setIfInBounds_toArray, List.set_cons_zero, List.set_cons_succ]
    refine' wpAnyH_take (i := 11) (oi := _) (v := _) rfl (by kernel_rfl) (by kernel_rfl) (by kernel_rfl) (fun _ _ _ h => h) (Or.inr ⟨by rfl, rfl⟩) (by assumption) ?_
    try simp only [List.getElem_toArray, List.getElem_cons_zero, List.getElem_cons_succ, Act.put, List.setIfInBounds_toArray, List.set_cons_zero, List.set_cons_succ]
    refine' wpAnyH_take (i := 12) (oi := _) (v := _) rfl (by kernel_rfl) (by kernel_rfl) (by kernel_rfl) (fun _ _ _ h => h) (Or.inl ⟨by rfl, ?hy⟩) (by assumption) ?_
    case hy => (intro w hSw; (try dsimp only at hSw); (try simp only [List.getElem_toArray, List.getElem_cons_zero, List.getElem_cons_succ]); go_simp; try with_reducible rfl)
    try simp only [List.getElem_toArray, List.getElem_cons_zero, List.getElem_cons_succ, Act.put, List.setIfInBounds_toArray, List.set_cons_zero, List.set_cons_succ]
    refine' wpAnyH_take (i := 13) (oi := _) (v := _) rfl (by kernel_rfl) (by kernel_rfl) (by kernel_rfl) (fun _ _ _ h => h) (Or.inl ⟨by rfl, ?hy⟩) (by assumption) ?_
    case hy => (intro w hSw; (try dsimp only at hSw); (try simp only [List.getElem_toArray, List.getElem_cons_zero, List.getElem_cons_succ]); go_simp; try with_reducible rfl)
    try simp only [List.getElem_toArray, List.getElem_cons_zero, List.getElem_cons_succ, Act.put, List.setIfInBounds_toArray, List.set_cons_zero, List.set_cons_succ]
    refine' wpAnyH_take (i := 14) (oi := _) (v := _) rfl (by kernel_rfl) (by kernel_rfl) (by kernel_rfl) (fun _ _ _ h => h) (Or.inr ⟨by rfl, rfl⟩) (by assumption) ?_
    try simp only [List.getElem_toArray, List.getElem_cons_zero, List.getElem_cons_succ, Act.put, List.setIfInBounds_toArray, List.set_cons_zero, List.set_cons_succ]
    refine' wpAnyH_take (i := 15) (oi := _) (v := _) rfl (by kernel_rfl) (by kernel_rfl) (by kernel_rfl) (fun _ _ _ h => h) (Or.inr ⟨by rfl, rfl⟩) (by assumption) ?_
    try simp only [List.getElem_toArray, List.getElem_cons_zero, List.getElem_cons_succ, Act.put, List.setIfInBounds_toArray, List.set_cons_zero, List.set_cons_succ]
    refine' wpAnyH_take (i := 16) (oi := _) (v := _) rfl (by kernel_rfl) (by kernel_rfl) (by kernel_rfl) (fun _ _ _ h => h) (Or.inr ⟨by rfl, rfl⟩) (by assumption) ?_
    try simp only [List.getElem_toArray, List.getElem_cons_zero, List.getElem_cons_succ, Act.put, List.setIfInBounds_toArray, List.set_cons_zero, List.set_cons_succ]
    refine' wpAnyH_take (i := 17) (oi := _) (v := _) rfl (by kernel_rfl) (by kernel_rfl) (by kernel_rfl) (fun _ _ _ h => h) (Or.inl ⟨by rfl, ?hy⟩) (by assumption) ?_
    case hy => (intro w hSw; (try dsimp only at hSw); (try simp only [List.getElem_toArray, List.getElem_cons_zero, List.getElem_cons_succ]); go_simp; try with_reducible rfl)
    try simp only [List.getElem_toArray, List.getElem_cons_zero, List.getElem_cons_succ, Act.put, List.setIfInBounds_toArray, List.set_cons_zero, List.set_cons_succ]
    refine' wpAnyH_take (i := 18) (oi := _) (v := _) rfl (by kernel_rfl) (by kernel_rfl) (by kernel_rfl) (fun _ _ _ h => h) (Or.inl ⟨by rfl, ?hy⟩) (by assumption) ?_
    case hy => (intro w hSw; (try dsimp only at hSw); (try simp only [List.getElem_toArray, List.getElem_cons_zero, List.getElem_cons_succ]); go_simp; try with_reducible rfl)
    try simp only [List.getElem_toArray, List.getElem_cons_zero, List.getElem_cons_succ, Act.put, List.setIfInBounds_toArray, List.set_cons_zero, List.set_cons_succ]
    refine' wpAnyH_take (i := 19) (oi := _) (v := _) rfl (by kernel_rfl) (by kernel_rfl) (by kernel_rfl) (fun _ _ _ h => h) (Or.inr ⟨by rfl, rfl⟩) (by assumption) ?_
    try simp only [List.getElem_toArray, List.getElem_cons_zero, List.getElem_cons_succ, Act.put, List.setIfInBounds_toArray, List.set_cons_zero, List.set_cons_succ]
    refine' wpAnyH_take (i := 20) (oi := _) (v := _) rfl (by kernel_rfl) (by kernel_rfl) (by kernel_rfl) (fun _ _ _ h => h) (Or.inr ⟨by rfl, rfl⟩) (by assumption) ?_
    try simp only [List.getElem_toArray, List.getElem_cons_zero, List.getElem_cons_succ, Act.put, List.setIfInBounds_toArray, List.set_cons_zero, List.set_cons_succ]
    refine' wpAnyH_take (i := 21) (oi := _) (v := _) rfl (by kernel_rfl) (by kernel_rfl) (by kernel_rfl) (fun _ _ _ h => h) (Or.inr ⟨by rfl, rfl⟩) (by assumption) ?_
    try simp only [List.getElem_toArray, List.getElem_cons_zero, List.getElem_cons_succ, Act.put, List.setIfInBounds_toArray, List.set_cons_zero, List.set_cons_succ]
    refine' wpAnyH_take (i := 22) (oi := _) (v := _) rfl (by kernel_rfl) (by kernel_rfl) (by kernel_rfl) (fun _ _ _ h => h) (Or.inr ⟨by rfl, rfl⟩) (by assumption) ?_
    try simp only [List.getElem_toArray, List.getElem_cons_zero, List.getElem_cons_succ, Act.put, List.setIfInBounds_toArray, List.set_cons_zero, List.set_cons_succ]
    refine' wpAnyH_take (i := 23) (oi := _) (v := _) rfl (by kernel_rfl) (by kernel_rfl) (by kernel_rfl) (fun _ _ _ h => h) (Or.inl ⟨by rfl, ?hy⟩) (by assumption) ?_
    case hy => (intro w hSw; (try dsimp only at hSw); (try simp only [List.getElem_toArray, List.getElem_cons_zero, List.getElem_cons_succ]); go_simp; try with_reducible rfl)
    try simp only [List.getElem_toArray, List.getElem_cons_zero, List.getElem_cons_succ, Act.put, List.setIfInBounds_toArray, List.set_cons_zero, List.set_cons_succ]
    refine' wpAnyH_take (i := 24) (oi := _) (v := _) rfl (by kernel_rfl) (by kernel_rfl) (by kernel_rfl) (fun _ _ _ h => h) (Or.inl ⟨by rfl, ?hy⟩) (by assumption) ?_
    case hy => (intro w hSw; (try dsimp only at hSw); (try simp only [List.getElem_toArray, List.getElem_cons_zero, List.getElem_cons_succ]); go_simp; try with_reducible rfl)
    try simp only [List.getElem_toArray, List.getElem_cons_zero, List.getElem_cons_succ, Act.put, List.setIfInBounds_toArray, List.set_cons_zero, List.set_cons_succ]
    refine' wpAnyH_take (i := 25) (oi := _) (v := _) rfl (by kernel_rfl) (by kernel_rfl) (by kernel_rfl) (fun _ _ _ h => h) (Or.inr ⟨by rfl, rfl⟩) (by assumption) ?_
    try simp only [List.getElem_toArray, List.getElem_cons_zero, List.getElem_cons_succ, Act.put, List.setIfInBounds_toArray, List.set_cons_zero, List.set_cons_succ]
    refine' wpAnyH_take (i := 26) (oi := _) (v := _) rfl (by kernel_rfl) (by kernel_rfl) (by kernel_rfl) (fun _ _ _ h => h) (Or.inr ⟨by rfl, rfl⟩) (by assumption) ?_
    try simp only [List.getElem_toArray, List.getElem_cons_zero, List.getElem_cons_succ, Act.put, List.setIfInBounds_toArray, List.set_cons_zero, List.set_cons_succ]
    refine' wpAnyH_take (i := 27) (oi := _) (v := _) rfl (by kernel_rfl) (by kernel_rfl) (by kernel_rfl) (fun _ _ _ h => h) (Or.inl ⟨by rfl, ?hy⟩) (by assumption) ?_
    case hy => (intro w hSw; (try dsimp only at hSw); (try simp only [List.getElem_toArray, List.getElem_cons_zero, List.getElem_cons_succ]); go_simp; try with_reducible rfl)
    try simp only [List.getElem_toArray, List.getElem_cons_zero, List.getElem_cons_succ, Act.put, List.setIfInBounds_toArray, List.set_cons_zero, List.set_cons_succ]
    refine' wpAnyH_take (i := 28) (oi := _) (v := _) rfl (by kernel_rfl) (by kernel_rfl) (by kernel_rfl) (fun _ _ _ h => h) (Or.inl ⟨by rfl, ?hy⟩) (by assumption) ?_
    case hy => (intro w hSw; (try dsimp only at hSw); (try simp only [List.getElem_toArray, List.getElem_cons_zero, List.getElem_cons_succ]); go_simp; try with_reducible rfl)
    try simp only [List.getElem_toArray, List.getElem_cons_zero, List.getElem_cons_succ, Act.put, List.setIfInBounds_toArray, List.set_cons_zero, List.set_cons_succ]
    refine wpAnyH_done (by kernel_rfl) ?_ _
    go_wp2_with fail
    go_ret
    exact ⟨ret_b HO.out.symm, HLE.out _ hb0⟩
  have q1 : decide ((1 : Int) ≤ m.kind) = true := decide_eq_true k1
  rw [q1] at HE
  by_cases k7 : m.kind ≤ 7
  rotate_left
  · have q7 : decide (m.kind ≤ (7 : Int)) = false := decide_eq_false k7
    have HO : Hid (o = false) := Lib.hid (by rw [HE.out, q7]; rfl)
    clear k1 k7 HE
    refine wp_region_held_drew (S := (fun w' => Below w0.heap.size w0 w' ∧ w'.cell? ⟨w.heap.size, 0, none⟩ = some (.int .i64 m.kind) ∧ w'.cell? ⟨w.heap.size, 1, none⟩ = some (.int .i64 m.seq) ∧ w'.cell? ⟨w.heap.size, 2, none⟩ = some (.int .i64 m.time) ∧ RowOk w' w.heap.size 18 ∧ rowAt w' w.heap.size = C)) (by kernel_rfl) ?hs0 (fun hHeld => ?_)
    case hs0 => (exact ⟨hb0, HXK.out _ hb0⟩)
    refine' wpAnyH_take (i := 0) (oi := _) (v := _) rfl (by kernel_rfl) (by kernel_rfl) (by kernel_rfl) (fun _ _ _ h => h) (Or.inl ⟨by rfl, ?hy⟩) (by assumption) ?_
    case hy => (intro w hSw; (try dsimp only at hSw); (try simp only [List.getElem_toArray, List.getElem_cons_zero]); go_simp; try with_reducible rfl)
    try simp only [List.getElem_toArray, List.getElem_cons_zero, Act.put, List.setIfInBounds_toArray, List.set_cons_zero, List.set_cons_succ]
    refine' wpAnyH_take (i := 1) (oi := _) (v := _) rfl (by kernel_rfl) (by kernel_rfl) (by kernel_rfl) (fun _ _ _ h => h) (Or.inl ⟨by rfl, ?hy⟩) (by assumption) ?_
    case hy => (intro w hSw; (try dsimp only at hSw); (try simp only [List.getElem_toArray, List.getElem_cons_zero, List.getElem_cons_succ]); go_simp; try with_reducible rfl)
    try simp only [List.getElem_toArray, List.getElem_cons_zero, List.getElem_cons_succ, Act.put, List.setIfInBounds_toArray, List.set_cons_zero, List.set_cons_succ]
    refine' wpAnyH_take (i := 2) (oi := _) (v := _) rfl (by kernel_rfl) (by kernel_rfl) (by kernel_rfl) (fun _ _ _ h => h) (Or.inl ⟨by rfl, ?hy⟩) (by assumption) ?_
    case hy => (intro w hSw; (try dsimp only at hSw); (try simp only [List.getElem_toArray, List.getElem_cons_zero, List.getElem_cons_succ]); go_simp; try with_reducible rfl)
    try simp only [List.getElem_toArray, List.getElem_cons_zero, List.getElem_cons_succ, Act.put, List.setIfInBounds_toArray, List.set_cons_zero, List.set_cons_succ]
    refine' wpAnyH_take (i := 3) (oi := _) (v := _) rfl (by kernel_rfl) (by kernel_rfl) (by kernel_rfl) (fun _ _ _ h => h) (Or.inl ⟨by rfl, ?hy⟩) (by assumption) ?_
    case hy => (intro w hSw; (try dsimp only at hSw); (try simp only [List.getElem_toArray, List.getElem_cons_zero, List.getElem_cons_succ]); go_simp; try with_reducible rfl)
    try simp only [List.getElem_toArray, List.getElem_cons_zero, List.getElem_cons_succ, Act.put, List.setIfInBounds_toArray, List.set_cons_zero, List.set_cons_succ]
    refine' wpAnyH_take (i := 4) (oi := _) (v := _) rfl (by kernel_rfl) (by kernel_rfl) (by kernel_rfl) (fun _ _ _ h => h) (Or.inl ⟨by rfl, ?hy⟩) (by assumption) ?_
    case hy => (intro w hSw; (try dsimp only at hSw); (try simp only [List.getElem_toArray, List.getElem_cons_zero, List.getElem_cons_succ]); go_simp; try with_reducible rfl)
    try simp only [List.getElem_toArray, List.getElem_cons_zero, List.getElem_cons_succ, Act.put, List.setIfInBounds_toArray, List.set_cons_zero, List.set_cons_succ]
    refine' wpAnyH_take (i := 5) (oi := _) (v := _) rfl (by kernel_rfl) (by kernel_rfl) (by kernel_rfl) (fun _ _ _ h => h) (Or.inl ⟨by rfl, ?hy⟩) (by assumption) ?_
    case hy => (intro w hSw; (try dsimp only at hSw); (try simp only [List.getElem_toArray, List.getElem_cons_zero, List.getElem_cons_succ]); go_simp; try with_reducible rfl)
    try simp only [List.getElem_toArray, List.getElem_cons_zero, List.getElem_cons_succ, Act.put, List.setIfInBounds_toArray, List.set_cons_zero, List.set_cons_succ]
    refine' wpAnyH_take (i := 6) (oi := _) (v := _) rfl (by kernel_rfl) (by kernel_rfl) (by kernel_rfl) (fun _ _ _ h => h) (Or.inl ⟨by rfl, ?hy⟩) (by assumption) ?_
    case hy => (intro w hSw; (try dsimp only at hSw); (try simp only [List.getElem_toArray, List.getElem_cons_zero, List.getElem_cons_succ]); go_simp; try with_reducible rfl)
    try simp only [List.getElem_toArray, List.getElem_cons_zero, List.getElem_cons_succ, Act.put, List.setIfInBounds_toArray, List.set_cons_zero, List.set_cons_succ]
    refine' wpAnyH_take (i := 7) (oi := _) (v := _) rfl (by kernel_rfl) (by kernel_rfl) (by kernel_rfl) (fun _ _ _ h => h) (Or.inl ⟨by rfl, ?hy⟩) (by assumption) ?_
    case hy => (intro w hSw; (try dsimp only at hSw); (try simp only [List.getElem_toArray, List.getElem_cons_zero, List.getElem_cons_succ]); go_simp; try with_reducible rfl)
    try simp only [List.getElem_toArray, List.getElem_cons_zero, List.getElem_cons_succ, Act.put, List.setIfInBounds_toArray, List.set_cons_zero, List.set_cons_succ]
    refine' wpAnyH_take (i := 8) (oi := _) (v := _) rfl (by kernel_rfl) (by kernel_rfl) (by kernel_rfl) (fun _ _ _ h => h) (Or.inl ⟨by rfl, ?hy⟩) (by assumption) ?_
    case hy => (intro w hSw; (try dsimp only at hSw); (try simp only [List.getElem_toArray, List.getElem_cons_zero, List.getElem_cons_succ]); go_simp; try with_reducible rfl)
    try simp only [List.getElem_toArray, List.getElem_cons_zero, List.getElem_cons_succ, Act.put, List.setIfInBounds_toArray, List.set_cons_zero, List.set_cons_succ]
    refine' wpAnyH_take (i := 9) (oi := _) (v := _) rfl (by kernel_rfl) (by kernel_rfl) (by kernel_rfl) (fun _ _ _ h => h) (Or.inr ⟨by rfl, rfl⟩) (by assumption) ?_
    try simp only [List.getElem_toArray, List.getElem_cons_zero, List.getElem_cons_succ, Act.put, List.setIfInBounds_toArray, List.set_cons_zero, List.set_cons_succ]
    refine' wpAnyH_take (i := 10) (oi := _) (v := _) rfl (by kernel_rfl) (by kernel_rfl) (by kernel_rfl) (fun _ _ _ h => h) (Or.inr ⟨by rfl, rfl⟩) (by assumption) ?_
    try simp only [List.getElem_toArray, List.getElem_cons_zero, List.getElem_cons_succ, Act.put, List.setIfInBounds_toArray, List.set_cons_zero, List.set_cons_succ]
    refine' wpAnyH_take (i := 11) (oi := _) (v := _) rfl (by kernel_rfl) (by kernel_rfl) (by kernel_rfl) (fun _ _ _ h => h) (Or.inr ⟨by rfl, rfl⟩) (by assumption) ?_
    try simp only [List.getElem_toArray, List.getElem_cons_zero, List.getElem_cons_succ, Act.put, List.setIfInBounds_toArray, List.set_cons_zero, List.set_cons_succ]
    refine' wpAnyH_take (i := 12) (oi := _) (v := _) rfl (by kernel_rfl) (by kernel_rfl) (by kernel_rfl) (fun _ _ _ h => h) (Or.inl ⟨by rfl, ?hy⟩) (by assumption) ?_
    case hy => (intro w hSw; (try dsimp only at hSw); (try simp only [List.getElem_toArray, List.getElem_cons_zero, List.getElem_cons_succ]); go_simp; try with_reducible rfl)
    try simp only [List.getElem_toArray, List.getElem_cons_zero, List.getElem_cons_succ, Act.put, List.setIfInBounds_toArray, List.set_cons_zero, List.set_cons_succ]
    refine' wpAnyH_take (i := 13) (oi := _) (v := _) rfl (by kernel_rfl) (by kernel_rfl) (by kernel_rfl) (fun _ _ _ h => h) (Or.inl ⟨by rfl, ?hy⟩) (by assumption) ?_
    case hy => (intro w hSw; (try dsimp only at hSw); (try simp only [List.getElem_toArray, List.getElem_cons_zero, List.getElem_cons_succ]); go_simp; try with_reducible rfl)
    try simp only [List.getElem_toArray, List.getElem_cons_zero, List.getElem_cons_succ, Act.put, List.setIfInBounds_toArray, List.set_cons_zero, List.set_cons_succ]
    refine' wpAnyH_take (i := 14) (oi := _) (v := _) rfl (by kernel_rfl) (by kernel_rfl) (by kernel_rfl) (fun _ _ _ h => h) (Or.inr ⟨by rfl, rfl⟩) (by assumption) ?_
    try simp only [List.getElem_toArray, List.getElem_cons_zero, List.getElem_cons_succ, Act.put, List.setIfInBounds_toArray, List.set_cons_zero, List.set_cons_succ]
    refine' wpAnyH_take (i := 15) (oi := _) (v := _) rfl (by kernel_rfl) (by kernel_rfl) (by kernel_rfl) (fun _ _ _ h => h) (Or.inr ⟨by rfl, rfl⟩) (by assumption) ?_
    try simp only [List.getElem_toArray, List.getElem_cons_zero, List.getElem_cons_succ, Act.put, List.setIfInBounds_toArray, List.set_cons_zero, List.set_cons_succ]
    refine' wpAnyH_take (i := 16) (oi := _) (v := _) rfl (by kernel_rfl) (by kernel_rfl) (by kernel_rfl) (fun _ _ _ h => h) (Or.inr ⟨by rfl, rfl⟩) (by assumption) ?_
    try simp only [List.getElem_toArray, List.getElem_cons_zero, List.getElem_cons_succ, Act.put, List.setIfInBounds_toArray, List.set_cons_zero, List.set_cons_succ]
    refine' wpAnyH_take (i := 17) (oi := _) (v := _) rfl (by kernel_rfl) (by kernel_rfl) (by kernel_rfl) (fun _ _ _ h => h) (Or.inl ⟨by rfl, ?hy⟩) (by assumption) ?_
    case hy => (intro w hSw; (try dsimp only at hSw); (try simp only [List.getElem_toArray, List.getElem_cons_zero, List.getElem_cons_succ]); go_simp; try with_reducible rfl)
    try simp only [List.getElem_toArray, List.getElem_cons_zero, List.getElem_cons_succ, Act.put, List.setIfInBounds_toArray, List.set_cons_zero, List.set_cons_succ]
    refine' wpAnyH_take (i := 18) (oi := _) (v := _) rfl (by kernel_rfl) (by kernel_rfl) (by kernel_rfl) (fun _ _ _ h => h) (Or.inl ⟨by rfl, ?hy⟩) (by assumption) ?_
    case hy => (intro w hSw; (try dsimp only at hSw); (try simp only [List.getElem_toArray, List.getElem_cons_zero, List.getElem_cons_succ]); go_simp; try with_reducible rfl)
    try simp only [List.getElem_toArray, List.getElem_cons_zero, List.getElem_cons_succ, Act.put, List.setIfInBounds_toArray, List.set_cons_zero, List.set_cons_succ]
    refine' wpAnyH_take (i := 19) (oi := _) (v := _) rfl (by kernel_rfl) (by kernel_rfl) (by kernel_rfl) (fun _ _ _ h => h) (Or.inr ⟨by rfl, rfl⟩) (by assumption) ?_
    try simp only [List.getElem_toArray, List.getElem_cons_zero, List.getElem_cons_succ, Act.put, List.setIfInBounds_toArray, List.set_cons_zero, List.set_cons_succ]
    refine' wpAnyH_take (i := 20) (oi := _) (v := _) rfl (by kernel_rfl) (by kernel_rfl) (by kernel_rfl) (fun _ _ _ h => h) (Or.inr ⟨by rfl, rfl⟩) (by assumption) ?_
    try simp only [List.getElem_toArray, List.getElem_cons_zero, List.getElem_cons_succ, Act.put, List.setIfInBounds_toArray, List.set_cons_zero, List.set_cons_succ]
    refine' wpAnyH_take (i := 21) (oi := _) (v := _) rfl (by kernel_rfl) (by kernel_rfl) (by kernel_rfl) (fun _ _ _ h => h) (Or.inr ⟨by rfl, rfl⟩) (by assumption) ?_
    try simp only [List.getElem_toArray, List.getElem_cons_zero, List.getElem_cons_succ, Act.put, List.setIfInBounds_toArray, List.set_cons_zero, List.set_cons_succ]
    refine' wpAnyH_take (i := 22) (oi := _) (v := _) rfl (by kernel_rfl) (by kernel_rfl) (by kernel_rfl) (fun _ _ _ h => h) (Or.inr ⟨by rfl, rfl⟩) (by assumption) ?_
    try simp only [List.getElem_toArray, List.getElem_cons_zero, List.getElem_cons_succ, Act.put, List.setIfInBounds_toArray, List.set_cons_zero, List.set_cons_succ]
    refine' wpAnyH_take (i := 23) (oi := _) (v := _) rfl (by kernel_rfl) (by kernel_rfl) (by kernel_rfl) (fun _ _ _ h => h) (Or.inl ⟨by rfl, ?hy⟩) (by assumption) ?_
    case hy => (intro w hSw; (try dsimp only at hSw); (try simp only [List.getElem_toArray, List.getElem_cons_zero, List.getElem_cons_succ]); go_simp; try with_reducible rfl)
    try simp only [List.getElem_toArray, List.getElem_cons_zero, List.getElem_cons_succ, Act.put, List.setIfInBounds_toArray, List.set_cons_zero, List.set_cons_succ]
    refine' wpAnyH_take (i := 24) (oi := _) (v := _) rfl (by kernel_rfl) (by kernel_rfl) (by kernel_rfl) (fun _ _ _ h => h) (Or.inl ⟨by rfl, ?hy⟩) (by assumption) ?_
    case hy => (intro w hSw; (try dsimp only at hSw); (try simp only [List.getElem_toArray, List.getElem_cons_zero, List.getElem_cons_succ]); go_simp; try with_reducible rfl)
    try simp only [List.getElem_toArray, List.getElem_cons_zero, List.getElem_cons_succ, Act.put, List.setIfInBounds_toArray, List.set_cons_zero, List.set_cons_succ]
    refine' wpAnyH_take (i := 25) (oi := _) (v := _) rfl (by kernel_rfl) (by kernel_rfl) (by kernel_rfl) (fun _ _ _ h => h) (Or.inr ⟨by rfl, rfl⟩) (by assumption) ?_
    try simp only [List.getElem_toArray, List.getElem_cons_zero, List.getElem_cons_succ, Act.put, List.setIfInBounds_toArray, List.set_cons_zero, List.set_cons_succ]
    refine' wpAnyH_take (i := 26) (oi := _) (v := _) rfl (by kernel_rfl) (by kernel_rfl) (by kernel_rfl) (fun _ _ _ h => h) (Or.inr ⟨by rfl, rfl⟩) (by assumption) ?_
    try simp only [List.getElem_toArray, List.getElem_cons_zero, List.getElem_cons_succ, Act.put, List.setIfInBounds_toArray, List.set_cons_zero, List.set_cons_succ]
    refine' wpAnyH_take (i := 27) (oi := _) (v := _) rfl (by kernel_rfl) (by kernel_rfl) (by kernel_rfl) (fun _ _ _ h => h) (Or.inl ⟨by rfl, ?hy⟩) (by assumption) ?_
    case hy => (intro w hSw; (try dsimp only at hSw); (try simp only [List.getElem_toArray, List.getElem_cons_zero, List.getElem_cons_succ]); go_simp; try with_reducible rfl)
    try simp only [List.getElem_toArray, List.getElem_cons_zero, List.getElem_cons_succ, Act.put, List.setIfInBounds_toArray, List.set_cons_zero, List.set_cons_succ]
    refine' wpAnyH_take (i := 28) (oi := _) (v := _) rfl (by kernel_rfl) (by kernel_rfl) (by kernel_rfl) (fun _ _ _ h => h) (Or.inl ⟨by rfl, ?hy⟩) (by assumption) ?_
    case hy => (intro w hSw; (try dsimp only at hSw); (try simp only [List.getElem_toArray, List.getElem_cons_zero, List.getElem_cons_succ]); go_simp; try with_reducible rfl)
    try simp only [List.getElem_toArray, List.getElem_cons_zero, List.getElem_cons_succ, Act.put, List.setIfInBounds_toArray, List.set_cons_zero, List.set_cons_succ]
    refine wpAnyH_done (by kernel_rfl) ?_ _
    go_wp2_with fail
    go_ret
    exact ⟨ret_b HO.out.symm, HLE.out _ hb0⟩
  have q7 : decide (m.kind ≤ (7 : Int)) = true := decide_eq_true k7
  rw [q7] at HE
  cases h1 : fromB m.seq
  · have HO : Hid (o = false) := Lib.hid (by rw [HE.out, h1]; rfl)
    have H1 := Lib.hid h1
    clear k1 k7 HE h1
    refine wp_region_held_drew (S := (fun w' => Below w0.heap.size w0 w' ∧ w'.cell? ⟨w.heap.size, 0, none⟩ = some (.int .i64 m.kind) ∧ w'.cell? ⟨w.heap.size, 1, none⟩ = some (.int .i64 m.seq) ∧ w'.cell? ⟨w.heap.size, 2, none⟩ = some (.int .i64 m.time) ∧ RowOk w' w.heap.size 18 ∧ rowAt w' w.heap.size = C)) (by kernel_rfl) ?hs0 (fun hHeld => ?_)
    case hs0 => (exact ⟨hb0, HXK.out _ hb0⟩)
    refine' wpAnyH_take (i := 0) (oi := _) (v := _) rfl (by kernel_rfl) (by kernel_rfl) (by kernel_rfl) (fun _ _ _ h => h) (Or.inl ⟨by rfl, ?hy⟩) (by assumption) ?_
    case hy => (intro w hSw; (try dsimp only at hSw); (try simp only [List.getElem_toArray, List.getElem_cons_zero]); go_simp; try with_reducible rfl)
    try simp only [List.getElem_toArray, List.getElem_cons_zero, Act.put, List.setIfInBounds_toArray, List.set_cons_zero, List.set_cons_succ]
    refine' wpAnyH_take (i := 1) (oi := _) (v := _) rfl (by kernel_rfl) (by kernel_rfl) (by kernel_rfl) (fun _ _ _ h => h) (Or.inl ⟨by rfl, ?hy⟩) (by assumption) ?_
    case hy => (intro w hSw; (try dsimp only at hSw); (try simp only [List.getElem_toArray, List.getElem_cons_zero, List.getElem_cons_succ]); go_simp; try with_reducible rfl)
    try simp only [List.getElem_toArray, List.getElem_cons_zero, List.getElem_cons_succ, Act.put, List.setIfInBounds_toArray, List.set_cons_zero, List.set_cons_succ]
    refine' wpAnyH_take (i := 2) (oi := _) (v := _) rfl (by kernel_rfl) (by kernel_rfl) (by kernel_rfl) (fun _ _ _ h => h) (Or.inl ⟨by rfl, ?hy⟩) (by assumption) ?_
    case hy => (intro w hSw; (try dsimp only at hSw); (try simp only [List.getElem_toArray, List.getElem_cons_zero, List.getElem_cons_succ]); go_simp; try with_reducible rfl)
    try simp only [List.getElem_toArray, List.getElem_cons_zero, List.getElem_cons_succ, Act.put, List.setIfInBounds_toArray, List.set_cons_zero, List.set_cons_succ]
    refine' wpAnyH_take (i := 3) (oi := _) (v := _) rfl (by kernel_rfl) (by kernel_rfl) (by kernel_rfl) (fun _ _ _ h => h) (Or.inl ⟨by rfl, ?hy⟩) (by assumption) ?_
    case hy => (intro w hSw; (try dsimp only at hSw); (try simp only [List.getElem_toArray, List.getElem_cons_zero, List.getElem_cons_succ]); go_simp; try with_reducible rfl)
    try simp only [List.getElem_toArray, List.getElem_cons_zero, List.getElem_cons_succ, Act.put, List.setIfInBounds_toArray, List.set_cons_zero, List.set_cons_succ]
    refine' wpAnyH_take (i := 4) (oi := _) (v := _) rfl (by kernel_rfl) (by kernel_rfl) (by kernel_rfl) (fun _ _ _ h => h) (Or.inl ⟨by rfl, ?hy⟩) (by assumption) ?_
    case hy => (intro w hSw; (try dsimp only at hSw); (try simp only [List.getElem_toArray, List.getElem_cons_zero, List.getElem_cons_succ]); go_simp; try with_reducible rfl)
    try simp only [List.getElem_toArray, List.getElem_cons_zero, List.getElem_cons_succ, Act.put, List.setIfInBounds_toArray, List.set_cons_zero, List.set_cons_succ]
    refine' wpAnyH_take (i := 5) (oi := _) (v := _) rfl (by kernel_rfl) (by kernel_rfl) (by kernel_rfl) (fun _ _ _ h => h) (Or.inl ⟨by rfl, ?hy⟩) (by assumption) ?_
    case hy => (intro w hSw; (try dsimp only at hSw); (try simp only [List.getElem_toArray, List.getElem_cons_zero, List.getElem_cons_succ]); go_simp; try with_reducible rfl)
    try simp only [List.getElem_toArray, List.getElem_cons_zero, List.getElem_cons_succ, Act.put, List.setIfInBounds_toArray, List.set_cons_zero, List.set_cons_succ]
    refine' wpAnyH_take (i := 6) (oi := _) (v := _) rfl (by kernel_rfl) (by kernel_rfl) (by kernel_rfl) (fun _ _ _ h => h) (Or.inl ⟨by rfl, ?hy⟩) (by assumption) ?_
    case hy => (intro w hSw; (try dsimp only at hSw); (try simp only [List.getElem_toArray, List.getElem_cons_zero, List.getElem_cons_succ]); go_simp; try with_reducible rfl)
    try simp only [List.getElem_toArray, List.getElem_cons_zero, List.getElem_cons_succ, Act.put, List.setIfInBounds_toArray, List.set_cons_zero, List.set_cons_succ]
    refine' wpAnyH_take (i := 7) (oi := _) (v := _) rfl (by kernel_rfl) (by kernel_rfl) (by kernel_rfl) (fun _ _ _ h => h) (Or.inl ⟨by rfl, ?hy⟩) (by assumption) ?_
    case hy => (intro w hSw; (try dsimp only at hSw); (try simp only [List.getElem_toArray, List.getElem_cons_zero, List.getElem_cons_succ]); go_simp; try with_reducible rfl)
    try simp only [List.getElem_toArray, List.getElem_cons_zero, List.getElem_cons_succ, Act.put, List.setIfInBounds_toArray, List.set_cons_zero, List.set_cons_succ]
    refine' wpAnyH_take (i := 8) (oi := _) (v := _) rfl (by kernel_rfl) (by kernel_rfl) (by kernel_rfl) (fun _ _ _ h => h) (Or.inl ⟨by rfl, ?hy⟩) (by assumption) ?_
    case hy => (intro w hSw; (try dsimp only at hSw); (try simp only [List.getElem_toArray, List.getElem_cons_zero, List.getElem_cons_succ]); go_simp; try with_reducible rfl)
    try simp only [List.getElem_toArray, List.getElem_cons_zero, List.getElem_cons_succ, Act.put, List.setIfInBounds_toArray, List.set_cons_zero, List.set_cons_succ]
    refine' wpAnyH_take (i := 9) (oi := _) (v := _) rfl (by kernel_rfl) (by kernel_rfl) (by kernel_rfl) (fun _ _ _ h => h) (Or.inl ⟨by rfl, ?hy⟩) (by assumption) ?_
    case hy => (intro w hSw; (try dsimp only at hSw); (try simp only [List.getElem_toArray, List.getElem_cons_zero, List.getElem_cons_succ]); go_simp; try with_reducible rfl)
    try simp only [List.getElem_toArray, List.getElem_cons_zero, List.getElem_cons_succ, Act.put, List.setIfInBounds_toArray, List.set_cons_zero, List.set_cons_succ]
    refine' wpAnyH_take (i := 10) (oi := _) (v := _) rfl (by kernel_rfl) (by kernel_rfl) (by kernel_rfl) (fun _ _ _ h => h) (Or.inl ⟨by rfl, ?hy⟩) (by assumption) ?_
    case hy => (intro w hSw; (try dsimp only at hSw); (try simp only [List.getElem_toArray, List.getElem_cons_zero, List.getElem_cons_succ]); go_simp; try with_reducible rfl)
    try simp only [List.getElem_toArray, List.getElem_cons_zero, List.getElem_cons_succ, Act.put, List.setIfInBounds_toArray, List.set_cons_zero, List.set_cons_succ]
    refine wpAnyH_ready (rs := [11]) (by kernel_rfl) (by simp) ?_
    refine AllReadyH.cons (o := _) rfl (fun K hK => ?_) AllReadyH.nil
    try simp only [List.getElem_toArray, List.getElem_cons_zero, List.getElem_cons_succ, Act.put, List.setIfInBounds_toArray, List.set_cons_zero, List.set_cons_succ]
    go_simp
    (refine (one_i m.seq _ H1.out w0 _ hb0).mono ?_; rintro e w1 ⟨rfl, hb1⟩)
    go_wp2_with fail
    refine hK.out _ _ ?hs1 (fun hHeld => ?_)
    case hs1 => (exact ⟨hb1, HXK.out _ hb1⟩)
    clear hK K
    try simp only [List.getElem_toArray, List.getElem_cons_zero, List.getElem_cons_succ, Act.put, List.setIfInBounds_toArray, List.set_cons_zero, List.set_cons_succ]
    refine' wpAnyH_take (i := 12) (oi := _) (v := _) rfl (by kernel_rfl) (by kernel_rfl) (by kernel_rfl) (fun _ _ _ h => h) (Or.inl ⟨by rfl, ?hy⟩) (by assumption) ?_
    case hy => (intro w hSw; (try dsimp only at hSw); (try simp only [List.getElem_toArray, List.getElem_cons_zero, List.getElem_cons_succ]); go_simp; try with_reducible rfl)
    try simp only [List.getElem_toArray, List.getElem_cons_zero, List.getElem_cons_succ, Act.put, List.setIfInBounds_toArray, List.set_cons_zero, List.set_cons_succ]
    refine' wpAnyH_take (i := 13) (oi := _) (v := _) rfl (by kernel_rfl) (by kernel_rfl) (by kernel_rfl) (fun _ _ _ h => h) (Or.inl ⟨by rfl, ?hy⟩) (by assumption) ?_
    case hy => (intro w hSw; (try dsimp only at hSw); (try simp only [List.getElem_toArray, List.getElem_cons_zero, List.getElem_cons_succ]); go_simp; try with_reducible rfl)
    try simp only [List.getElem_toArray, List.getElem_cons_zero, List.getElem_cons_succ, Act.put, List.setIfInBounds_toArray, List.set_cons_zero, List.set_cons_succ]
    refine' wpAnyH_take (i := 14) (oi := _) (v := _) rfl (by kernel_rfl) (by kernel_rfl) (by kernel_rfl) (fun _ _ _ h => h) (Or.inr ⟨by rfl, rfl⟩) (by assumption) ?_
    try simp only [List.getElem_toArray, List.getElem_cons_zero, List.getElem_cons_succ, Act.put, List.setIfInBounds_toArray, List.set_cons_zero, List.set_cons_succ]
    refine' wpAnyH_take (i := 15) (oi := _) (v := _) rfl (by kernel_rfl) (by kernel_rfl) (by kernel_rfl) (fun _ _ _ h => h) (Or.inr ⟨by rfl, rfl⟩) (by assumption) ?_
    try simp only [List.getElem_toArray, List.getElem_cons_zero, List.getElem_cons_succ, Act.put, List.setIfInBounds_toArray, List.set_cons_zero, List.set_cons_succ]
    refine' wpAnyH_take (i := 16) (oi := _) (v := _) rfl (by kernel_rfl) (by kernel_rfl) (by kernel_rfl) (fun _ _ _ h => h) (Or.inr ⟨by rfl, rfl⟩) (by assumption) ?_
    try simp only [List.getElem_toArray, List.getElem_cons_zero, List.getElem_cons_succ, Act.put, List.setIfInBounds_toArray, List.set_cons_zero, List.set_cons_succ]
    refine' wpAnyH_take (i := 17) (oi := _) (v := _) rfl (by kernel_rfl) (by kernel_rfl) (by kernel_rfl) (fun _ _ _ h => h) (Or.inl ⟨by rfl, ?hy⟩) (by assumption) ?_
    case hy => (intro w hSw; (try dsimp only at hSw); (try simp only [List.getElem_toArray, List.getElem_cons_zero, List.getElem_cons_succ]); go_simp; try with_reducible rfl)
    try simp only [List.getElem_toArray, List.getElem_cons_zero, List.getElem_cons_succ, Act.put, List.setIfInBounds_toArray, List.set_cons_zero, List.set_cons_succ]
    refine' wpAnyH_take (i := 18) (oi := _) (v := _) rfl (by kernel_rfl) (by kernel_rfl) (by kernel_rfl) (fun _ _ _ h => h) (Or.inl ⟨by rfl, ?hy⟩) (by assumption) ?_
    case hy => (intro w hSw; (try dsimp only at hSw); (try simp only [List.getElem_toArray, List.getElem_cons_zero, List.getElem_cons_succ]); go_simp; try with_reducible rfl)
    try simp only [List.getElem_toArray, List.getElem_cons_zero, List.getElem_cons_succ, Act.put, List.setIfInBounds_toArray, List.set_cons_zero, List.set_cons_succ]
    refine' wpAnyH_take (i := 19) (oi := _) (v := _) rfl (by kernel_rfl) (by kernel_rfl) (by kernel_rfl) (fun _ _ _ h => h) (Or.inr ⟨by rfl, rfl⟩) (by assumption) ?_
    try simp only [List.getElem_toArray, List.getElem_cons_zero, List.getElem_cons_succ, Act.put, List.setIfInBounds_toArray, List.set_cons_zero, List.set_cons_succ]
    refine' wpAnyH_take (i := 20) (oi := _) (v := _) rfl (by kernel_rfl) (by kernel_rfl) (by kernel_rfl) (fun _ _ _ h => h) (Or.inr ⟨by rfl, rfl⟩) (by assumption) ?_
    try simp only [List.getElem_toArray, List.getElem_cons_zero, List.getElem_cons_succ, Act.put, List.setIfInBounds_toArray, List.set_cons_zero, List.set_cons_succ]
    refine' wpAnyH_take (i := 21) (oi := _) (v := _) rfl (by kernel_rfl) (by kernel_rfl) (by kernel_rfl) (fun _ _ _ h => h) (Or.inr ⟨by rfl, rfl⟩) (by assumption) ?_
    try simp only [List.getElem_toArray, List.getElem_cons_zero, List.getElem_cons_succ, Act.put, List.setIfInBounds_toArray, List.set_cons_zero, List.set_cons_succ]
    refine' wpAnyH_take (i := 22) (oi := _) (v := _) rfl (by kernel_rfl) (by kernel_rfl) (by kernel_rfl) (fun _ _ _ h => h) (Or.inr ⟨by rfl, rfl⟩) (by assumption) ?_
    try simp only [List.getElem_toArray, List.getElem_cons_zero, List.getElem_cons_succ, Act.put, List.setIfInBounds_toArray, List.set_cons_zero, List.set_cons_succ]
    refine' wpAnyH_take (i := 23) (oi := _) (v := _) rfl (by kernel_rfl) (by kernel_rfl) (by kernel_rfl) (fun _ _ _ h => h) (Or.inl ⟨by rfl, ?hy⟩) (by assumption) ?_
    case hy => (intro w hSw; (try dsimp only at hSw); (try simp only [List.getElem_toArray, List.getElem_cons_zero, List.getElem_cons_succ]); go_simp; try with_reducible rfl)
    try simp only [List.getElem_toArray, List.getElem_cons_zero, List.getElem_cons_succ, Act.put, List.setIfInBounds_toArray, List.set_cons_zero, List.set_cons_succ]
    refine' wpAnyH_take (i := 24) (oi := _) (v := _) rfl (by kernel_rfl) (by kernel_rfl) (by kernel_rfl) (fun _ _ _ h => h) (Or.inl ⟨by rfl, ?hy⟩) (by assumption) ?_
    case hy => (intro w hSw; (try dsimp only at hSw); (try simp only [List.getElem_toArray, List.getElem_cons_zero, List.getElem_cons_succ]); go_simp; try with_reducible rfl)
    try simp only [List.getElem_toArray, List.getElem_cons_zero, List.getElem_cons_succ, Act.put, List.setIfInBounds_toArray, List.set_cons_zero, List.set_cons_succ]
    refine' wpAnyH_take (i := 25) (oi := _) (v := _) rfl (by kernel_rfl) (by kernel_rfl) (by kernel_rfl) (fun _ _ _ h => h) (Or.inr ⟨by rfl, rfl⟩) (by assumption) ?_
    try simp only [List.getElem_toArray, List.getElem_cons_zero, List.getElem_cons_succ, Act.put, List.setIfInBounds_toArray, List.set_cons_zero, List.set_cons_succ]
    refine' wpAnyH_take (i := 26) (oi := _) (v := _) rfl (by kernel_rfl) (by kernel_rfl) (by kernel_rfl) (fun _ _ _ h => h) (Or.inr ⟨by rfl, rfl⟩) (by assumption) ?_
    try simp only [List.getElem_toArray, List.getElem_cons_zero, List.getElem_cons_succ, Act.put, List.setIfInBounds_toArray, List.set_cons_zero, List.set_cons_succ]
    refine' wpAnyH_take (i := 27) (oi := _) (v := _) rfl (by kernel_rfl) (by kernel_rfl) (by kernel_rfl) (fun _ _ _ h => h) (Or.inl ⟨by rfl, ?hy⟩) (by assumption) ?_
    case hy => (intro w hSw; (try dsimp only at hSw); (try simp only [List.getElem_toArray, List.getElem_cons_zero, List.getElem_cons_succ]); go_simp; try with_reducible rfl)
    try simp only [List.getElem_toArray, List.getElem_cons_zero, List.getElem_cons_succ, Act.put, List.setIfInBounds_toArray, List.set_cons_zero, List.set_cons_succ]
    refine' wpAnyH_take (i := 28) (oi := _) (v := _) rfl (by kernel_rfl) (by kernel_rfl) (by kernel_rfl) (fun _ _ _ h => h) (Or.inl ⟨by rfl, ?hy⟩) (by assumption) ?_
    case hy => (intro w hSw; (try dsimp only at hSw); (try simp only [List.getElem_toArray, List.getElem_cons_zero, List.getElem_cons_succ]); go_simp; try with_reducible rfl)
    try simp only [List.getElem_toArray, List.getElem_cons_zero, List.getElem_cons_succ, Act.put, List.setIfInBounds_toArray, List.set_cons_zero, List.set_cons_succ]
    refine wpAnyH_done (by kernel_rfl) ?_ _
    go_wp2_with fail
    go_ret
    exact ⟨ret_b HO.out.symm, HLE.out _ hb1⟩
  have H1 := Lib.hid h1
  rw [h1] at HE
  clear h1
  cases h2 : timeB m.time
  · have HO : Hid (o = false) := Lib.hid (by rw [HE.out, h2]; rfl)
    have H2 := Lib.hid h2
    clear k1 k7 HE h2
    refine wp_region_held_drew (S := (fun w' => Below w0.heap.size w0 w' ∧ w'.cell? ⟨w.heap.size, 0, none⟩ = some (.int .i64 m.kind) ∧ w'.cell? ⟨w.heap.size, 1, none⟩ = some (.int .i64 m.seq) ∧ w'.cell? ⟨w.heap.size, 2, none⟩ = some (.int .i64 m.time) ∧ RowOk w' w.heap.size 18 ∧ rowAt w' w.heap.size = C)) (by kernel_rfl) ?hs0 (fun hHeld => ?_)
    case hs0 => (exact ⟨hb0, HXK.out _ hb0⟩)
    refine' wpAnyH_take (i := 0) (oi := _) (v := _) rfl (by kernel_rfl) (by kernel_rfl) (by kernel_rfl) (fun _ _ _ h => h) (Or.inl ⟨by rfl, ?hy⟩) (by assumption) ?_
    case hy => (intro w hSw; (try dsimp only at hSw); (try simp only [List.getElem_toArray, List.getElem_cons_zero]); go_simp; try with_reducible rfl)
    try simp only [List.getElem_toArray, List.getElem_cons_zero, Act.put, List.setIfInBounds_toArray, List.set_cons_zero, List.set_cons_succ]
    refine' wpAnyH_take (i := 1) (oi := _) (v := _) rfl (by kernel_rfl) (by kernel_rfl) (by kernel_rfl) (fun _ _ _ h => h) (Or.inl ⟨by rfl, ?hy⟩) (by assumption) ?_
    case hy => (intro w hSw; (try dsimp only at hSw); (try simp only [List.getElem_toArray, List.getElem_cons_zero, List.getElem_cons_succ]); go_simp; try with_reducible rfl)
    try simp only [List.getElem_toArray, List.getElem_cons_zero, List.getElem_cons_succ, Act.put, List.setIfInBounds_toArray, List.set_cons_zero, List.set_cons_succ]
    refine' wpAnyH_take (i := 2) (oi := _) (v := _) rfl (by kernel_rfl) (by kernel_rfl) (by kernel_rfl) (fun _ _ _ h => h) (Or.inl ⟨by rfl, ?hy⟩) (by assumption) ?_
    case hy => (intro w hSw; (try dsimp only at hSw); (try simp only [List.getElem_toArray, List.getElem_cons_zero, List.getElem_cons_succ]); go_simp; try with_reducible rfl)
    try simp only [List.getElem_toArray, List.getElem_cons_zero, List.getElem_cons_succ, Act.put, List.setIfInBounds_toArray, List.set_cons_zero, List.set_cons_succ]
    refine' wpAnyH_take (i := 3) (oi := _) (v := _) rfl (by kernel_rfl) (by kernel_rfl) (by kernel_rfl) (fun _ _ _ h => h) (Or.inl ⟨by rfl, ?hy⟩) (by assumption) ?_
    case hy => (intro w hSw; (try dsimp only at hSw); (try simp only [List.getElem_toArray, List.getElem_cons_zero, List.getElem_cons_succ]); go_simp; try with_reducible rfl)
    try simp only [List.getElem_toArray, List.getElem_cons_zero, List.getElem_cons_succ, Act.put, List.setIfInBounds_toArray, List.set_cons_zero, List.set_cons_succ]
    refine' wpAnyH_take (i := 4) (oi := _) (v := _) rfl (by kernel_rfl) (by kernel_rfl) (by kernel_rfl) (fun _ _ _ h => h) (Or.inl ⟨by rfl, ?hy⟩) (by assumption) ?_
    case hy => (intro w hSw; (try dsimp only at hSw); (try simp only [List.getElem_toArray, List.getElem_cons_zero, List.getElem_cons_succ]); go_simp; try with_reducible rfl)
    try simp only [List.getElem_toArray, List.getElem_cons_zero, List.getElem_cons_succ, Act.put, List.setIfInBounds_toArray, List.set_cons_zero, List.set_cons_succ]
    refine' wpAnyH_take (i := 5) (oi := _) (v := _) rfl (by kernel_rfl) (by kernel_rfl) (by kernel_rfl) (fun _ _ _ h => h) (Or.inl ⟨by rfl, ?hy⟩) (by assumption) ?_
    case hy => (intro w hSw; (try dsimp only at hSw); (try simp only [List.getElem_toArray, List.getElem_cons_zero, List.getElem_cons_succ]); go_simp; try with_reducible rfl)
    try simp only [List.getElem_toArray, List.getElem_cons_zero, List.getElem_cons_succ, Act.put, List.setIfInBounds_toArray, List.set_cons_zero, List.set_cons_succ]
    refine' wpAnyH_take (i := 6) (oi := _) (v := _) rfl (by kernel_rfl) (by kernel_rfl) (by kernel_rfl) (fun _ _ _ h => h) (Or.inl ⟨by rfl, ?hy⟩) (by assumption) ?_
    case hy => (intro w hSw; (try dsimp only at hSw); (try simp only [List.getElem_toArray, List.getElem_cons_zero, List.getElem_cons_succ]); go_simp; try with_reducible rfl)
    try simp only [List.getElem_toArray, List.getElem_cons_zero, List.getElem_cons_succ, Act.put, List.setIfInBounds_toArray, List.set_cons_zero, List.set_cons_succ]
    refine' wpAnyH_take (i := 7) (oi := _) (v := _) rfl (by kernel_rfl) (by kernel_rfl) (by kernel_rfl) (fun _ _ _ h => h) (Or.inl ⟨by rfl, ?hy⟩) (by assumption) ?_
    case hy => (intro w hSw; (try dsimp only at hSw); (try simp only [List.getElem_toArray, List.getElem_cons_zero, List.getElem_cons_succ]); go_simp; try with_reducible rfl)
    try simp only [List.getElem_toArray, List.getElem_cons_zero, List.getElem_cons_succ, Act.put, List.setIfInBounds_toArray, List.set_cons_zero, List.set_cons_succ]
    refine' wpAnyH_take (i := 8) (oi := _) (v := _) rfl (by kernel_rfl) (by kernel_rfl) (by kernel_rfl) (fun _ _ _ h => h) (Or.inl ⟨by rfl, ?hy⟩) (by assumption) ?_
    case hy => (intro w hSw; (try dsimp only at hSw); (try simp only [List.getElem_toArray, List.getElem_cons_zero, List.getElem_cons_succ]); go_simp; try with_reducible rfl)
    try simp only [List.getElem_toArray, List.getElem_cons_zero, List.getElem_cons_succ, Act.put, List.setIfInBounds_toArray, List.set_cons_zero, List.set_cons_succ]
    refine' wpAnyH_take (i := 9) (oi := _) (v := _) rfl (by kernel_rfl) (by kernel_rfl) (by kernel_rfl) (fun _ _ _ h => h) (Or.inl ⟨by rfl, ?hy⟩) (by assumption) ?_
    case hy => (intro w hSw; (try dsimp only at hSw); (try simp only [List.getElem_toArray, List.getElem_cons_zero, List.getElem_cons_succ]); go_simp; try with_reducible rfl)
    try simp only [List.getElem_toArray, List.getElem_cons_zero, List.getElem_cons_succ, Act.put, List.setIfInBounds_toArray, List.set_cons_zero, List.set_cons_succ]
    refine' wpAnyH_take (i := 10) (oi := _) (v := _) rfl (by kernel_rfl) (by kernel_rfl) (by kernel_rfl) (fun _ _ _ h => h) (Or.inl ⟨by rfl, ?hy⟩) (by assumption) ?_
    case hy => (intro w hSw; (try dsimp only at hSw); (try simp only [List.getElem_toArray, List.getElem_cons_zero, List.getElem_cons_succ]); go_simp; try with_reducible rfl)
    try simp only [List.getElem_toArray, List.getElem_cons_zero, List.getElem_cons_succ, Act.put, List.setIfInBounds_toArray, List.set_cons_zero, List.set_cons_succ]
    refine wpAnyH_ready (rs := [11]) (by kernel_rfl) (by simp) ?_
    refine AllReadyH.cons (o := _) rfl (fun K hK => ?_) AllReadyH.nil
    try simp only [List.getElem_toArray, List.getElem_cons_zero, List.getElem_cons_succ, Act.put, List.setIfInBounds_toArray, List.set_cons_zero, List.set_cons_succ]
    go_simp
    (refine (one_i m.seq _ H1.out w0 _ hb0).mono ?_; rintro e w1 ⟨rfl, hb1⟩)
    go_wp2_with fail
    refine hK.out _ _ ?hs1 (fun hHeld => ?_)
    case hs1 => (exact ⟨hb1, HXK.out _ hb1⟩)
    clear hK K
    try simp only [List.getElem_toArray, List.getElem_cons_zero, List.getElem_cons_succ, Act.put, List.setIfInBounds_toArray, List.set_cons_zero, List.set_cons_succ]
    refine' wpAnyH_take (i := 12) (oi := _) (v := _) rfl (by kernel_rfl) (by kernel_rfl) (by kernel_rfl) (fun _ _ _ h => h) (Or.inl ⟨by rfl, ?hy⟩) (by assumption) ?_
    case hy => (intro w hSw; (try dsimp only at hSw); (try simp only [List.getElem_toArray, List.getElem_cons_zero, List.getElem_cons_succ]); go_simp; try with_reducible rfl)
    try simp only [List.getElem_toArray, List.getElem_cons_zero, List.getElem_cons_succ, Act.put, List.setIfInBounds_toArray, List.set_cons_zero, List.set_cons_succ]
    refine' wpAnyH_take (i := 13) (oi := _) (v := _) rfl (by kernel_rfl) (by kernel_rfl) (by kernel_rfl) (fun _ _ _ h => h) (Or.inl ⟨by rfl, ?hy⟩) (by assumption) ?_
    case hy => (intro w hSw; (try dsimp only at hSw); (try simp only [List.getElem_toArray, List.getElem_cons_zero, List.getElem_cons_succ]); go_simp; try with_reducible rfl)
    try simp only [List.getElem_toArray, List.getElem_cons_zero, List.getElem_cons_succ, Act.put, List.setIfInBounds_toArray, List.set_cons_zero, List.set_cons_succ]
    refine' wpAnyH_take (i := 14) (oi := _) (v := _) rfl (by kernel_rfl) (by kernel_rfl) (by kernel_rfl) (fun _ _ _ h => h) (Or.inl ⟨by rfl, ?hy⟩) (by assumption) ?_
    case hy => (intro w hSw; (try dsimp only at hSw); (try simp only [List.getElem_toArray, List.getElem_cons_zero, List.getElem_cons_succ]); go_simp; try with_reducible rfl)
    try simp only [List.getElem_toArray, List.getElem_cons_zero, List.getElem_cons_succ, Act.put, List.setIfInBounds_toArray, List.set_cons_zero, List.set_cons_succ]
    refine' wpAnyH_take (i := 15) (oi := _) (v := _) rfl (by kernel_rfl) (by kernel_rfl) (by kernel_rfl) (fun _ _ _ h => h) (Or.inl ⟨by rfl, ?hy⟩) (by assumption) ?_
    case hy => (intro w hSw; (try dsimp only at hSw); (try simp only [List.getElem_toArray, List.getElem_cons_zero, List.getElem_cons_succ]); go_simp; try with_reducible rfl)
    try simp only [List.getElem_toArray, List.getElem_cons_zero, List.getElem_cons_succ, Act.put, List.setIfInBounds_toArray, List.set_cons_zero, List.set_cons_succ]
    refine wpAnyH_ready (rs := [16]) (by kernel_rfl) (by simp) ?_
    refine AllReadyH.cons (o := _) rfl (fun K hK => ?_) AllReadyH.nil
    try simp only [List.getElem_toArray, List.getElem_cons_zero, List.getElem_cons_succ, Act.put, List.setIfInBounds_toArray, List.set_cons_zero, List.set_cons_succ]
    go_simp
    (refine (time_i m.time _ H2.out w0 _ hb1).mono ?_; rintro e w2 ⟨rfl, hb2⟩)
    go_wp2_with fail
    refine hK.out _ _ ?hs1 (fun hHeld => ?_)
    case hs1 => (exact ⟨hb2, HXK.out _ hb2⟩)
    clear hK K
    try simp only [List.getElem_toArray, List.getElem_cons_zero, List.getElem_cons_succ, Act.put, List.setIfInBounds_toArray, List.set_cons_zero, List.set_cons_succ]
    refine' wpAnyH_take (i := 17) (oi := _) (v := _) rfl (by kernel_rfl) (by kernel_rfl) (by kernel_rfl) (fun _ _ _ h => h) (Or.inl ⟨by rfl, ?hy⟩) (by assumption) ?_
    case hy => (intro w hSw; (try dsimp only at hSw); (try simp only [List.getElem_toArray, List.getElem_cons_zero, List.getElem_cons_succ]); go_simp; try with_reducible rfl)
    try simp only [List.getElem_toArray, List.getElem_cons_zero, List.getElem_cons_succ, Act.put, List.setIfInBounds_toArray, List.set_cons_zero, List.set_cons_succ]
    refine' wpAnyH_take (i := 18) (oi := _) (v := _) rfl (by kernel_rfl) (by kernel_rfl) (by kernel_rfl) (fun _ _ _ h => h) (Or.inl ⟨by rfl, ?hy⟩) (by assumption) ?_
    case hy => (intro w hSw; (try dsimp only at hSw); (try simp only [List.getElem_toArray, List.getElem_cons_zero, List.getElem_cons_succ]); go_simp; try with_reducible rfl)
    try simp only [List.getElem_toArray, List.getElem_cons_zero, List.getElem_cons_succ, Act.put, List.setIfInBounds_toArray, List.set_cons_zero, List.set_cons_succ]
    refine' wpAnyH_take (i := 19) (oi := _) (v := _) rfl (by kernel_rfl) (by kernel_rfl) (by kernel_rfl) (fun _ _ _ h => h) (Or.inr ⟨by rfl, rfl⟩) (by assumption) ?_
    try simp only [List.getElem_toArray, List.getElem_cons_zero, List.getElem_cons_succ, Act.put, List.setIfInBounds_toArray, List.set_cons_zero, List.set_cons_succ]
    refine' wpAnyH_take (i := 20) (oi := _) (v := _) rfl (by kernel_rfl) (by kernel_rfl) (by kernel_rfl) (fun _ _ _ h => h) (Or.inr ⟨by rfl, rfl⟩) (by assumption) ?_
    try simp only [List.getElem_toArray, List.getElem_cons_zero, List.getElem_cons_succ, Act.put, List.setIfInBounds_toArray, List.set_cons_zero, List.set_cons_succ]
    refine' wpAnyH_take (i := 21) (oi := _) (v := _) rfl (by kernel_rfl) (by kernel_rfl) (by kernel_rfl) (fun _ _ _ h => h) (Or.inr ⟨by rfl, rfl⟩) (by assumption) ?_
    try simp only [List.getElem_toArray, List.getElem_cons_zero, List.getElem_cons_succ, Act.put, List.setIfInBounds_toArray, List.set_cons_zero, List.set_cons_succ]
    refine' wpAnyH_take (i := 22) (oi := _) (v := _) rfl (by kernel_rfl) (by kernel_rfl) (by kernel_rfl) (fun _ _ _ h => h) (Or.inr ⟨by rfl, rfl⟩) (by assumption) ?_
    try simp only [List.getElem_toArray, List.getElem_cons_zero, List.getElem_cons_succ, Act.put, List.setIfInBounds_toArray, List.set_cons_zero, List.set_cons_succ]
    refine' wpAnyH_take (i := 23) (oi := _) (v := _) rfl (by kernel_rfl) (by kernel_rfl) (by kernel_rfl) (fun _ _ _ h => h) (Or.inl ⟨by rfl, ?hy⟩) (by assumption) ?_
    case hy => (intro w hSw; (try dsimp only at hSw); (try simp only [List.getElem_toArray, List.getElem_cons_zero, List.getElem_cons_succ]); go_simp; try with_reducible rfl)
    try simp only [List.getElem_toArray, List.getElem_cons_zero, List.getElem_cons_succ, Act.put, List.setIfInBounds_toArray, List.set_cons_zero, List.set_cons_succ]
    refine' wpAnyH_take (i := 24) (oi := _) (v := _) rfl (by kernel_rfl) (by kernel_rfl) (by kernel_rfl) (fun _ _ _ h => h) (Or.inl ⟨by rfl, ?hy⟩) (by assumption) ?_
    case hy => (intro w hSw; (try dsimp only at hSw); (try simp only [List.getElem_toArray, List.getElem_cons_zero, List.getElem_cons_succ]); go_simp; try with_reducible rfl)
    try simp only [List.getElem_toArray, List.getElem_cons_zero, List.getElem_cons_succ, Act.put, List.setIfInBounds_toArray, List.set_cons_zero, List.set_cons_succ]
    refine' wpAnyH_take (i := 25) (oi := _) (v := _) rfl (by kernel_rfl) (by kernel_rfl) (by kernel_rfl) (fun _ _ _ h => h) (Or.inr ⟨by rfl, rfl⟩) (by assumption) ?_
    try simp only [List.getElem_toArray, List.getElem_cons_zero, List.getElem_cons_succ, Act.put, List.setIfInBounds_toArray, List.set_cons_zero, List.set_cons_succ]
    refine' wpAnyH_take (i := 26) (oi := _) (v := _) rfl (by kernel_rfl) (by kernel_rfl) (by kernel_rfl) (fun _ _ _ h => h) (Or.inr ⟨by rfl, rfl⟩) (by assumption) ?_
    try simp only [List.getElem_toArray, List.getElem_cons_zero, List.getElem_cons_succ, Act.put, List.setIfInBounds_toArray, List.set_cons_zero, List.set_cons_succ]
    refine' wpAnyH_take (i := 27) (oi := _) (v := _) rfl (by kernel_rfl) (by kernel_rfl) (by kernel_rfl) (fun _ _ _ h => h) (Or.inl ⟨by rfl, ?hy⟩) (by assumption) ?_
    case hy => (intro w hSw; (try dsimp only at hSw); (try simp only [List.getElem_toArray, List.getElem_cons_zero, List.getElem_cons_succ]); go_simp; try with_reducible rfl)
    try simp only [List.getElem_toArray, List.getElem_cons_zero, List.getElem_cons_succ, Act.put, List.setIfInBounds_toArray, List.set_cons_zero, List.set_cons_succ]
    refine' wpAnyH_take (i := 28) (oi := _) (v := _) rfl (by kernel_rfl) (by kernel_rfl) (by kernel_rfl) (fun _ _ _ h => h) (Or.inl ⟨by rfl, ?hy⟩) (by assumption) ?_
    case hy => (intro w hSw; (try dsimp only at hSw); (try simp only [List.getElem_toArray, List.getElem_cons_zero, List.getElem_cons_succ]); go_simp; try with_reducible rfl)
    try simp only [List.getElem_toArray, List.getElem_cons_zero, List.getElem_cons_succ, Act.put, List.setIfInBounds_toArray, List.set_cons_zero, List.set_cons_succ]
    refine wpAnyH_done (by kernel_rfl) ?_ _
    go_wp2_with fail
    go_ret
    exact ⟨ret_b HO.out.symm, HLE.out _ hb2⟩
  have H2 := Lib.hid h2
  rw [h2] at HE
  clear h2
  have ⟨s1, s2, s3⟩ := HSC.out
  cases h3 : decide (m = named m)
  · have HO : Hid (o = false) := Lib.hid (by rw [HE.out, h3]; rfl)
    rw [h3] at s3
    clear k1 k7 HE h3
    refine wp_region_held_drew (S := (fun w' => Below w0.heap.size w0 w' ∧ w'.cell? ⟨w.heap.size, 0, none⟩ = some (.int .i64 m.kind) ∧ w'.cell? ⟨w.heap.size, 1, none⟩ = some (.int .i64 m.seq) ∧ w'.cell? ⟨w.heap.size, 2, none⟩ = some (.int .i64 m.time) ∧ RowOk w' w.heap.size 18 ∧ rowAt w' w.heap.size = C)) (by kernel_rfl) ?hs0 (fun hHeld => ?_)
    case hs0 => (exact ⟨hb0, HXK.out _ hb0⟩)
    refine' wpAnyH_take (i := 0) (oi := _) (v := _) rfl (by kernel_rfl) (by kernel_rfl) (by kernel_rfl) (fun _ _ _ h => h) (Or.inl ⟨by rfl, ?hy⟩) (by assumption) ?_
    case hy => (intro w hSw; (try dsimp only at hSw); (try simp only [List.getElem_toArray, List.getElem_cons_zero]); go_simp; try with_reducible rfl)
    try simp only [List.getElem_toArray, List.getElem_cons_zero, Act.put, List.setIfInBounds_toArray, List.set_cons_zero, List.set_cons_succ]
    refine' wpAnyH_take (i := 1) (oi := _) (v := _) rfl (by kernel_rfl) (by kernel_rfl) (by kernel_rfl) (fun _ _ _ h => h) (Or.inl ⟨by rfl, ?hy⟩) (by assumption) ?_
    case hy => (intro w hSw; (try dsimp only at hSw); (try simp only [List.getElem_toArray, List.getElem_cons_zero, List.getElem_cons_succ]); go_simp; try with_reducible rfl)
    try simp only [List.getElem_toArray, List.getElem_cons_zero, List.getElem_cons_succ, Act.put, List.setIfInBounds_toArray, List.set_cons_zero, List.set_cons_succ]
    refine' wpAnyH_take (i := 2) (oi := _) (v := _) rfl (by kernel_rfl) (by kernel_rfl) (by kernel_rfl) (fun _ _ _ h => h) (Or.inl ⟨by rfl, ?hy⟩) (by assumption) ?_
    case hy => (intro w hSw; (try dsimp only at hSw); (try simp only [List.getElem_toArray, List.getElem_cons_zero, List.getElem_cons_succ]); go_simp; try with_reducible rfl)
    try simp only [List.getElem_toArray, List.getElem_cons_zero, List.getElem_cons_succ, Act.put, List.setIfInBounds_toArray, List.set_cons_zero, List.set_cons_succ]
    refine' wpAnyH_take (i := 3) (oi := _) (v := _) rfl (by kernel_rfl) (by kernel_rfl) (by kernel_rfl) (fun _ _ _ h => h) (Or.inl ⟨by rfl, ?hy⟩) (by assumption) ?_
    case hy => (intro w hSw; (try dsimp only at hSw); (try simp only [List.getElem_toArray, List.getElem_cons_zero, List.getElem_cons_succ]); go_simp; try with_reducible rfl)
    try simp only [List.getElem_toArray, List.getElem_cons_zero, List.getElem_cons_succ, Act.put, List.setIfInBounds_toArray, List.set_cons_zero, List.set_cons_succ]
    refine' wpAnyH_take (i := 4) (oi := _) (v := _) rfl (by kernel_rfl) (by kernel_rfl) (by kernel_rfl) (fun _ _ _ h => h) (Or.inl ⟨by rfl, ?hy⟩) (by assumption) ?_
    case hy => (intro w hSw; (try dsimp only at hSw); (try simp only [List.getElem_toArray, List.getElem_cons_zero, List.getElem_cons_succ]); go_simp; try with_reducible rfl)
    try simp only [List.getElem_toArray, List.getElem_cons_zero, List.getElem_cons_succ, Act.put, List.setIfInBounds_toArray, List.set_cons_zero, List.set_cons_succ]
    refine' wpAnyH_take (i := 5) (oi := _) (v := _) rfl (by kernel_rfl) (by kernel_rfl) (by kernel_rfl) (fun _ _ _ h => h) (Or.inl ⟨by rfl, ?hy⟩) (by assumption) ?_
    case hy => (intro w hSw; (try dsimp only at hSw); (try simp only [List.getElem_toArray, List.getElem_cons_zero, List.getElem_cons_succ]); go_simp; try with_reducible rfl)
    try simp only [List.getElem_toArray, List.getElem_cons_zero, List.getElem_cons_succ, Act.put, List.setIfInBounds_toArray, List.set_cons_zero, List.set_cons_succ]
    refine' wpAnyH_take (i := 6) (oi := _) (v := _) rfl (by kernel_rfl) (by kernel_rfl) (by kernel_rfl) (fun _ _ _ h => h) (Or.inl ⟨by rfl, ?hy⟩) (by assumption) ?_
    case hy => (intro w hSw; (try dsimp only at hSw); (try simp only [List.getElem_toArray, List.getElem_cons_zero, List.getElem_cons_succ]); go_simp; try with_reducible rfl)
    try simp only [List.getElem_toArray, List.getElem_cons_zero, List.getElem_cons_succ, Act.put, List.setIfInBounds_toArray, List.set_cons_zero, List.set_cons_succ]
    refine' wpAnyH_take (i := 7) (oi := _) (v := _) rfl (by kernel_rfl) (by kernel_rfl) (by kernel_rfl) (fun _ _ _ h => h) (Or.inl ⟨by rfl, ?hy⟩) (by assumption) ?_
    case hy => (intro w hSw; (try dsimp only at hSw); (try simp only [List.getElem_toArray, List.getElem_cons_zero, List.getElem_cons_succ]); go_simp; try with_reducible rfl)
    try simp only [List.getElem_toArray, List.getElem_cons_zero, List.getElem_cons_succ, Act.put, List.setIfInBounds_toArray, List.set_cons_zero, List.set_cons_succ]
    refine' wpAnyH_take (i := 8) (oi := _) (v := _) rfl (by kernel_rfl) (by kernel_rfl) (by kernel_rfl) (fun _ _ _ h => h) (Or.inl ⟨by rfl, ?hy⟩) (by assumption) ?_
    case hy => (intro w hSw; (try dsimp only at hSw); (try simp only [List.getElem_toArray, List.getElem_cons_zero, List.getElem_cons_succ]); go_simp; try with_reducible rfl)
    try simp only [List.getElem_toArray, List.getElem_cons_zero, List.getElem_cons_succ, Act.put, List.setIfInBounds_toArray, List.set_cons_zero, List.set_cons_succ]
    refine' wpAnyH_take (i := 9) (oi := _) (v := _) rfl (by kernel_rfl) (by kernel_rfl) (by kernel_rfl) (fun _ _ _ h => h) (Or.inl ⟨by rfl, ?hy⟩) (by assumption) ?_
    case hy => (intro w hSw; (try dsimp only at hSw); (try simp only [List.getElem_toArray, List.getElem_cons_zero, List.getElem_cons_succ]); go_simp; try with_reducible rfl)
    try simp only [List.getElem_toArray, List.getElem_cons_zero, List.getElem_cons_succ, Act.put, List.setIfInBounds_toArray, List.set_cons_zero, List.set_cons_succ]
    refine' wpAnyH_take (i := 10) (oi := _) (v := _) rfl (by kernel_rfl) (by kernel_rfl) (by kernel_rfl) (fun _ _ _ h => h) (Or.inl ⟨by rfl, ?hy⟩) (by assumption) ?_
    case hy => (intro w hSw; (try dsimp only at hSw); (try simp only [List.getElem_toArray, List.getElem_cons_zero, List.getElem_cons_succ]); go_simp; try with_reducible rfl)
    try simp only [List.getElem_toArray, List.getElem_cons_zero, List.getElem_cons_succ, Act.put, List.setIfInBounds_toArray, List.set_cons_zero, List.set_cons_succ]
    refine wpAnyH_ready (rs := [11]) (by kernel_rfl) (by simp) ?_
    refine AllReadyH.cons (o := _) rfl (fun K hK => ?_) AllReadyH.nil
    try simp only [List.getElem_toArray, List.getElem_cons_zero, List.getElem_cons_succ, Act.put, List.setIfInBounds_toArray, List.set_cons_zero, List.set_cons_succ]
    go_simp
    (refine (one_i m.seq _ H1.out w0 _ hb0).mono ?_; rintro e w1 ⟨rfl, hb1⟩)
    go_wp2_with fail
    refine hK.out _ _ ?hs1 (fun hHeld => ?_)
    case hs1 => (exact ⟨hb1, HXK.out _ hb1⟩)
    clear hK K
    try simp only [List.getElem_toArray, List.getElem_cons_zero, List.getElem_cons_succ, Act.put, List.setIfInBounds_toArray, List.set_cons_zero, List.set_cons_succ]
    refine' wpAnyH_take (i := 12) (oi := _) (v := _) rfl (by kernel_rfl) (by kernel_rfl) (by kernel_rfl) (fun _ _ _ h => h) (Or.inl ⟨by rfl, ?hy⟩) (by assumption) ?_
    case hy => (intro w hSw; (try dsimp only at hSw); (try simp only [List.getElem_toArray, List.getElem_cons_zero, List.getElem_cons_succ]); go_simp; try with_reducible rfl)
    try simp only [List.getElem_toArray, List.getElem_cons_zero, List.getElem_cons_succ, Act.put, List.setIfInBounds_toArray, List.set_cons_zero, List.set_cons_succ]
    refine' wpAnyH_take (i := 13) (oi := _) (v := _) rfl (by kernel_rfl) (by kernel_rfl) (by kernel_rfl) (fun _ _ _ h => h) (Or.inl ⟨by rfl, ?hy⟩) (by assumption) ?_
    case hy => (intro w hSw; (try dsimp only at hSw); (try simp only [List.getElem_toArray, List.getElem_cons_zero, List.getElem_cons_succ]); go_simp; try with_reducible rfl)
    try simp only [List.getElem_toArray, List.getElem_cons_zero, List.getElem_cons_succ, Act.put, List.setIfInBounds_toArray, List.set_cons_zero, List.set_cons_succ]
    refine' wpAnyH_take (i := 14) (oi := _) (v := _) rfl (by kernel_rfl) (by kernel_rfl) (by kernel_rfl) (fun _ _ _ h => h) (Or.inl ⟨by rfl, ?hy⟩) (by assumption) ?_
    case hy => (intro w hSw; (try dsimp only at hSw); (try simp only [List.getElem_toArray, List.getElem_cons_zero, List.getElem_cons_succ]); go_simp; try with_reducible rfl)
    try simp only [List.getElem_toArray, List.getElem_cons_zero, List.getElem_cons_succ, Act.put, List.setIfInBounds_toArray, List.set_cons_zero, List.set_cons_succ]
    refine' wpAnyH_take (i := 15) (oi := _) (v := _) rfl (by kernel_rfl) (by kernel_rfl) (by kernel_rfl) (fun _ _ _ h => h) (Or.inl ⟨by rfl, ?hy⟩) (by assumption) ?_
    case hy => (intro w hSw; (try dsimp only at hSw); (try simp only [List.getElem_toArray, List.getElem_cons_zero, List.getElem_cons_succ]); go_simp; try with_reducible rfl)
    try simp only [List.getElem_toArray, List.getElem_cons_zero, List.getElem_cons_succ, Act.put, List.setIfInBounds_toArray, List.set_cons_zero, List.set_cons_succ]
    refine wpAnyH_ready (rs := [16]) (by kernel_rfl) (by simp) ?_
    refine AllReadyH.cons (o := _) rfl (fun K hK => ?_) AllReadyH.nil
    try simp only [List.getElem_toArray, List.getElem_cons_zero, List.getElem_cons_succ, Act.put, List.setIfInBounds_toArray, List.set_cons_zero, List.set_cons_succ]
    go_simp
    (refine (time_i m.time _ H2.out w0 _ hb1).mono ?_; rintro e w2 ⟨rfl, hb2⟩)
    go_wp2_with fail
    refine hK.out _ _ ?hs1 (fun hHeld => ?_)
    case hs1 => (exact ⟨hb2, HXK.out _ hb2⟩)
    clear hK K
    try simp only [List.getElem_toArray, List.getElem_cons_zero, List.getElem_cons_succ, Act.put, List.setIfInBounds_toArray, List.set_cons_zero, List.set_cons_succ]
    refine' wpAnyH_take (i := 17) (oi := _) (v := _) rfl (by kernel_rfl) (by kernel_rfl) (by kernel_rfl) (fun _ _ _ h => h) (Or.inl ⟨by rfl, ?hy⟩) (by assumption) ?_
    case hy => (intro w hSw; (try dsimp only at hSw); (try simp only [List.getElem_toArray, List.getElem_cons_zero, List.getElem_cons_succ]); go_simp; try with_reducible rfl)
    try simp only [List.getElem_toArray, List.getElem_cons_zero, List.getElem_cons_succ, Act.put, List.setIfInBounds_toArray, List.set_cons_zero, List.set_cons_succ]
    refine' wpAnyH_take (i := 18) (oi := _) (v := _) rfl (by kernel_rfl) (by kernel_rfl) (by kernel_rfl) (fun _ _ _ h => h) (Or.inl ⟨by rfl, ?hy⟩) (by assumption) ?_
    case hy => (intro w hSw; (try dsimp only at hSw); (try simp only [List.getElem_toArray, List.getElem_cons_zero, List.getElem_cons_succ]); go_simp; try with_reducible rfl)
    try simp only [List.getElem_toArray, List.getElem_cons_zero, List.getElem_cons_succ, Act.put, List.setIfInBounds_toArray, List.set_cons_zero, List.set_cons_succ]
    refine' wpAnyH_take (i := 19) (oi := _) (v := _) rfl (by kernel_rfl) (by kernel_rfl) (by kernel_rfl) (fun _ _ _ h => h) (Or.inl ⟨by rfl, ?hy⟩) (by assumption) ?_
    case hy => (intro w hSw; (try dsimp only at hSw); (try simp only [List.getElem_toArray, List.getElem_cons_zero, List.getElem_cons_succ]); go_simp; try with_reducible rfl)
    try simp only [List.getElem_toArray, List.getElem_cons_zero, List.getElem_cons_succ, Act.put, List.setIfInBounds_toArray, List.set_cons_zero, List.set_cons_succ]
    refine' wpAnyH_take (i := 20) (oi := _) (v := _) rfl (by kernel_rfl) (by kernel_rfl) (by kernel_rfl) (fun _ _ _ h => h) (Or.inl ⟨by rfl, ?hy⟩) (by assumption) ?_
    case hy => (intro w hSw; (try dsimp only at hSw); (try simp only [List.getElem_toArray, List.getElem_cons_zero, List.getElem_cons_succ]); go_simp; try with_reducible rfl)
    try simp only [List.getElem_toArray, List.getElem_cons_zero, List.getElem_cons_succ, Act.put, List.setIfInBounds_toArray, List.set_cons_zero, List.set_cons_succ]
    refine wpAnyH_ready (rs := [21]) (by kernel_rfl) (by simp) ?_
    refine AllReadyH.cons (o := _) rfl (fun K hK => ?_) AllReadyH.nil
    try simp only [List.getElem_toArray, List.getElem_cons_zero, List.getElem_cons_succ, Act.put, List.setIfInBounds_toArray, List.set_cons_zero, List.set_cons_succ]
    go_simp
    (refine (named_i C N m HC.out HN.out HF.out w0 _ hb2).mono ?_; rintro e w3 ⟨rfl, hb3⟩)
    go_wp2_with fail
    refine hK.out _ _ ?hs1 (fun hHeld => ?_)
    case hs1 => (exact ⟨hb3, HXK.out _ hb3⟩)
    clear hK K
    try simp only [List.getElem_toArray, List.getElem_cons_zero, List.getElem_cons_succ, Act.put, List.setIfInBounds_toArray, List.set_cons_zero, List.set_cons_succ]
    refine' wpAnyH_take (i := 22) (oi := _) (v := _) rfl (by kernel_rfl) (by kernel_rfl) (by kernel_rfl) (fun _ _ _ h => h) (Or.inl ⟨by rfl, ?hy⟩) (by assumption) ?_
    case hy => (intro w hSw; (try dsimp only at hSw); (try simp only [List.getElem_toArray, List.getElem_cons_zero, List.getElem_cons_succ]); go_simp; try with_reducible rfl)
    try simp only [List.getElem_toArray, List.getElem_cons_zero, List.getElem_cons_succ, Act.put, List.setIfInBounds_toArray, List.set_cons_zero, List.set_cons_succ]
    refine' wpAnyH_take (i := 23) (oi := _) (v := _) rfl (by kernel_rfl) (by kernel_rfl) (by kernel_rfl) (fun _ _ _ h => h) (Or.inl ⟨by rfl, ?hy⟩) (by assumption) ?_
    case hy => (intro w hSw; (try dsimp only at hSw); (try simp only [List.getElem_toArray, List.getElem_cons_zero, List.getElem_cons_succ]); go_simp; try with_reducible rfl)
    try simp only [List.getElem_toArray, List.getElem_cons_zero, List.getElem_cons_succ, Act.put, List.setIfInBounds_toArray, List.set_cons_zero, List.set_cons_succ]
    refine' wpAnyH_take (i := 24) (oi := _) (v := _) rfl (by kernel_rfl) (by kernel_rfl) (by kernel_rfl) (fun _ _ _ h => h) (Or.inl ⟨by rfl, ?hy⟩) (by assumption) ?_
    case hy => (intro w hSw; (try dsimp only at hSw); (try simp only [List.getElem_toArray, List.getElem_cons_zero, List.getElem_cons_succ]); go_simp; try with_reducible rfl)
    try simp only [List.getElem_toArray, List.getElem_cons_zero, List.getElem_cons_succ, Act.put, List.setIfInBounds_toArray, List.set_cons_zero, List.set_cons_succ]
    refine' wpAnyH_take (i := 25) (oi := _) (v := _) rfl (by kernel_rfl) (by kernel_rfl) (by kernel_rfl) (fun _ _ _ h => h) (Or.inr ⟨by rfl, rfl⟩) (by assumption) ?_
    try simp only [List.getElem_toArray, List.getElem_cons_zero, List.getElem_cons_succ, Act.put, List.setIfInBounds_toArray, List.set_cons_zero, List.set_cons_succ]
    refine' wpAnyH_take (i := 26) (oi := _) (v := _) rfl (by kernel_rfl) (by kernel_rfl) (by kernel_rfl) (fun _ _ _ h => h) (Or.inr ⟨by rfl, rfl⟩) (by assumption) ?_
    try simp only [List.getElem_toArray, List.getElem_cons_zero, List.getElem_cons_succ, Act.put, List.setIfInBounds_toArray, List.set_cons_zero, List.set_cons_succ]
    refine' wpAnyH_take (i := 27) (oi := _) (v := _) rfl (by kernel_rfl) (by kernel_rfl) (by kernel_rfl) (fun _ _ _ h => h) (Or.inl ⟨by rfl, ?hy⟩) (by assumption) ?_
    case hy => (intro w hSw; (try dsimp only at hSw); (try simp only [List.getElem_toArray, List.getElem_cons_zero, List.getElem_cons_succ]); go_simp; try with_reducible rfl)
    try simp only [List.getElem_toArray, List.getElem_cons_zero, List.getElem_cons_succ, Act.put, List.setIfInBounds_toArray, List.set_cons_zero, List.set_cons_succ]
    refine' wpAnyH_take (i := 28) (oi := _) (v := _) rfl (by kernel_rfl) (by kernel_rfl) (by kernel_rfl) (fun _ _ _ h => h) (Or.inl ⟨by rfl, ?hy⟩) (by assumption) ?_
    case hy => (intro w hSw; (try dsimp only at hSw); (try simp only [List.getElem_toArray, List.getElem_cons_zero, List.getElem_cons_succ]); go_simp; try with_reducible rfl)
    try simp only [List.getElem_toArray, List.getElem_cons_zero, List.getElem_cons_succ, Act.put, List.setIfInBounds_toArray, List.set_cons_zero, List.set_cons_succ]
    refine wpAnyH_done (by kernel_rfl) ?_ _
    go_wp2_with fail
    go_ret
    exact ⟨ret_b HO.out.symm, HLE.out _ hb3⟩
  rw [h3] at HE s3
  obtain ⟨p, h4⟩ : ∃ p, partsB m = p := ⟨_, rfl⟩
  have H4 := Lib.hid h4
  have HO : Hid (o = p) := Lib.hid (by rw [HE.out, h4]; rfl)
  clear k1 k7 HE h3 h4
  refine wp_region_held_drew (S := (fun w' => Below w0.heap.size w0 w' ∧ w'.cell? ⟨w.heap.size, 0, none⟩ = some (.int .i64 m.kind) ∧ w'.cell? ⟨w.heap.size, 1, none⟩ = some (.int .i64 m.seq) ∧ w'.cell? ⟨w.heap.size, 2, none⟩ = some (.int .i64 m.time) ∧ RowOk w' w.heap.size 18 ∧ rowAt w' w.heap.size = C)) (by kernel_rfl) ?hs0 (fun hHeld => ?_)
  case hs0 => (exact ⟨hb0, HXK.out _ hb0⟩)
  refine' wpAnyH_take (i := 0) (oi := _) (v := _) rfl (by kernel_rfl) (by kernel_rfl) (by kernel_rfl) (fun _ _ _ h => h) (Or.inl ⟨by rfl, ?hy⟩) (by assumption) ?_
  case hy => (intro w hSw; (try dsimp only at hSw); (try simp only [List.getElem_toArray, List.getElem_cons_zero]); go_simp; try with_reducible rfl)
  try simp only [List.getElem_toArray, List.getElem_cons_zero, Act.put, List.setIfInBounds_toArray, List.set_cons_zero, List.set_cons_succ]
  refine' wpAnyH_take (i := 1) (oi := _) (v := _) rfl (by kernel_rfl) (by kernel_rfl) (by kernel_rfl) (fun _ _ _ h => h) (Or.inl ⟨by rfl, ?hy⟩) (by assumption) ?_
  case hy => (intro w hSw; (try dsimp only at hSw); (try simp only [List.getElem_toArray, List.getElem_cons_zero, List.getElem_cons_succ]); go_simp; try with_reducible rfl)
  try simp only [List.getElem_toArray, List.getElem_cons_zero, List.getElem_cons_succ, Act.put, List.setIfInBounds_toArray, List.set_cons_zero, List.set_cons_succ]
  refine' wpAnyH_take (i := 2) (oi := _) (v := _) rfl (by kernel_rfl) (by kernel_rfl) (by kernel_rfl) (fun _ _ _ h => h) (Or.inl ⟨by rfl, ?hy⟩) (by assumption) ?_
  case hy => (intro w hSw; (try dsimp only at hSw); (try simp only [List.getElem_toArray, List.getElem_cons_zero, List.getElem_cons_succ]); go_simp; try with_reducible rfl)
  try simp only [List.getElem_toArray, List.getElem_cons_zero, List.getElem_cons_succ, Act.put, List.setIfInBounds_toArray, List.set_cons_zero, List.set_cons_succ]
  refine' wpAnyH_take (i := 3) (oi := _) (v := _) rfl (by kernel_rfl) (by kernel_rfl) (by kernel_rfl) (fun _ _ _ h => h) (Or.inl ⟨by rfl, ?hy⟩) (by assumption) ?_
  case hy => (intro w hSw; (try dsimp only at hSw); (try simp only [List.getElem_toArray, List.getElem_cons_zero, List.getElem_cons_succ]); go_simp; try with_reducible rfl)
  try simp only [List.getElem_toArray, List.getElem_cons_zero, List.getElem_cons_succ, Act.put, List.setIfInBounds_toArray, List.set_cons_zero, List.set_cons_succ]
  refine' wpAnyH_take (i := 4) (oi := _) (v := _) rfl (by kernel_rfl) (by kernel_rfl) (by kernel_rfl) (fun _ _ _ h => h) (Or.inl ⟨by rfl, ?hy⟩) (by assumption) ?_
  case hy => (intro w hSw; (try dsimp only at hSw); (try simp only [List.getElem_toArray, List.getElem_cons_zero, List.getElem_cons_succ]); go_simp; try with_reducible rfl)
  try simp only [List.getElem_toArray, List.getElem_cons_zero, List.getElem_cons_succ, Act.put, List.setIfInBounds_toArray, List.set_cons_zero, List.set_cons_succ]
  refine' wpAnyH_take (i := 5) (oi := _) (v := _) rfl (by kernel_rfl) (by kernel_rfl) (by kernel_rfl) (fun _ _ _ h => h) (Or.inl ⟨by rfl, ?hy⟩) (by assumption) ?_
  case hy => (intro w hSw; (try dsimp only at hSw); (try simp only [List.getElem_toArray, List.getElem_cons_zero, List.getElem_cons_succ]); go_simp; try with_reducible rfl)
  try simp only [List.getElem_toArray, List.getElem_cons_zero, List.getElem_cons_succ, Act.put, List.setIfInBounds_toArray, List.set_cons_zero, List.set_cons_succ]
  refine' wpAnyH_take (i := 6) (oi := _) (v := _) rfl (by kernel_rfl) (by kernel_rfl) (by kernel_rfl) (fun _ _ _ h => h) (Or.inl ⟨by rfl, ?hy⟩) (by assumption) ?_
  case hy => (intro w hSw; (try dsimp only at hSw); (try simp only [List.getElem_toArray, List.getElem_cons_zero, List.getElem_cons_succ]); go_simp; try with_reducible rfl)
  try simp only [List.getElem_toArray, List.getElem_cons_zero, List.getElem_cons_succ, Act.put, List.setIfInBounds_toArray, List.set_cons_zero, List.set_cons_succ]
  refine' wpAnyH_take (i := 7) (oi := _) (v := _) rfl (by kernel_rfl) (by kernel_rfl) (by kernel_rfl) (fun _ _ _ h => h) (Or.inl ⟨by rfl, ?hy⟩) (by assumption) ?_
  case hy => (intro w hSw; (try dsimp only at hSw); (try simp only [List.getElem_toArray, List.getElem_cons_zero, List.getElem_cons_succ]); go_simp; try with_reducible rfl)
  try simp only [List.getElem_toArray, List.getElem_cons_zero, List.getElem_cons_succ, Act.put, List.setIfInBounds_toArray, List.set_cons_zero, List.set_cons_succ]
  refine' wpAnyH_take (i := 8) (oi := _) (v := _) rfl (by kernel_rfl) (by kernel_rfl) (by kernel_rfl) (fun _ _ _ h => h) (Or.inl ⟨by rfl, ?hy⟩) (by assumption) ?_
  case hy => (intro w hSw; (try dsimp only at hSw); (try simp only [List.getElem_toArray, List.getElem_cons_zero, List.getElem_cons_succ]); go_simp; try with_reducible rfl)
  try simp only [List.getElem_toArray, List.getElem_cons_zero, List.getElem_cons_succ, Act.put, List.setIfInBounds_toArray, List.set_cons_zero, List.set_cons_succ]
  refine' wpAnyH_take (i := 9) (oi := _) (v := _) rfl (by kernel_rfl) (by kernel_rfl) (by kernel_rfl) (fun _ _ _ h => h) (Or.inl ⟨by rfl, ?hy⟩) (by assumption) ?_
  case hy => (intro w hSw; (try dsimp only at hSw); (try simp only [List.getElem_toArray, List.getElem_cons_zero, List.getElem_cons_succ]); go_simp; try with_reducible rfl)
  try simp only [List.getElem_toArray, List.getElem_cons_zero, List.getElem_cons_succ, Act.put, List.setIfInBounds_toArray, List.set_cons_zero, List.set_cons_succ]
  refine' wpAnyH_take (i := 10) (oi := _) (v := _) rfl (by kernel_rfl) (by kernel_rfl) (by kernel_rfl) (fun _ _ _ h => h) (Or.inl ⟨by rfl, ?hy⟩) (by assumption) ?_
  case hy => (intro w hSw; (try dsimp only at hSw); (try simp only [List.getElem_toArray, List.getElem_cons_zero, List.getElem_cons_succ]); go_simp; try with_reducible rfl)
  try simp only [List.getElem_toArray, List.getElem_cons_zero, List.getElem_cons_succ, Act.put, List.setIfInBounds_toArray, List.set_cons_zero, List.set_cons_succ]
  refine wpAnyH_ready (rs := [11]) (by kernel_rfl) (by simp) ?_
  refine AllReadyH.cons (o := _) rfl (fun K hK => ?_) AllReadyH.nil
  try simp only [List.getElem_toArray, List.getElem_cons_zero, List.getElem_cons_succ, Act.put, List.setIfInBounds_toArray, List.set_cons_zero, List.set_cons_succ]
  go_simp
  (refine (one_i m.seq _ H1.out w0 _ hb0).mono ?_; rintro e w1 ⟨rfl, hb1⟩)
  go_wp2_with fail
  refine hK.out _ _ ?hs1 (fun hHeld => ?_)
  case hs1 => (exact ⟨hb1, HXK.out _ hb1⟩)
  clear hK K
  try simp only [List.getElem_toArray, List.getElem_cons_zero, List.getElem_cons_succ, Act.put, List.setIfInBounds_toArray, List.set_cons_zero, List.set_cons_succ]
  refine' wpAnyH_take (i := 12) (oi := _) (v := _) rfl (by kernel_rfl) (by kernel_rfl) (by kernel_rfl) (fun _ _ _ h => h) (Or.inl ⟨by rfl, ?hy⟩) (by assumption) ?_
  case hy => (intro w hSw; (try dsimp only at hSw); (try simp only [List.getElem_toArray, List.getElem_cons_zero, List.getElem_cons_succ]); go_simp; try with_reducible rfl)
  try simp only [List.getElem_toArray, List.getElem_cons_zero, List.getElem_cons_succ, Act.put, List.setIfInBounds_toArray, List.set_cons_zero, List.set_cons_succ]
  refine' wpAnyH_take (i := 13) (oi := _) (v := _) rfl (by kernel_rfl) (by kernel_rfl) (by kernel_rfl) (fun _ _ _ h => h) (Or.inl ⟨by rfl, ?hy⟩) (by assumption) ?_
  case hy => (intro w hSw; (try dsimp only at hSw); (try simp only [List.getElem_toArray, List.getElem_cons_zero, List.getElem_cons_succ]); go_simp; try with_reducible rfl)
  try simp only [List.getElem_toArray, List.getElem_cons_zero, List.getElem_cons_succ, Act.put, List.setIfInBounds_toArray, List.set_cons_zero, List.set_cons_succ]
  refine' wpAnyH_take (i := 14) (oi := _) (v := _) rfl (by kernel_rfl) (by kernel_rfl) (by kernel_rfl) (fun _ _ _ h => h) (Or.inl ⟨by rfl, ?hy⟩) (by assumption) ?_
  case hy => (intro w hSw; (try dsimp only at hSw); (try simp only [List.getElem_toArray, List.getElem_cons_zero, List.getElem_cons_succ]); go_simp; try with_reducible rfl)
  try simp only [List.getElem_toArray, List.getElem_cons_zero, List.getElem_cons_succ, Act.put, List.setIfInBounds_toArray, List.set_cons_zero, List.set_cons_succ]
  refine' wpAnyH_take (i := 15) (oi := _) (v := _) rfl (by kernel_rfl) (by kernel_rfl) (by kernel_rfl) (fun _ _ _ h => h) (Or.inl ⟨by rfl, ?hy⟩) (by assumption) ?_
  case hy => (intro w hSw; (try dsimp only at hSw); (try simp only [List.getElem_toArray, List.getElem_cons_zero, List.getElem_cons_succ]); go_simp; try with_reducible rfl)
  try simp only [List.getElem_toArray, List.getElem_cons_zero, List.getElem_cons_succ, Act.put, List.setIfInBounds_toArray, List.set_cons_zero, List.set_cons_succ]
  refine wpAnyH_ready (rs := [16]) (by kernel_rfl) (by simp) ?_
  refine AllReadyH.cons (o := _) rfl (fun K hK => ?_) AllReadyH.nil
  try simp only [List.getElem_toArray, List.getElem_cons_zero, List.getElem_cons_succ, Act.put, List.setIfInBounds_toArray, List.set_cons_zero, List.set_cons_succ]
  go_simp
  (refine (time_i m.time _ H2.out w0 _ hb1).mono ?_; rintro e w2 ⟨rfl, hb2⟩)
  go_wp2_with fail
  refine hK.out _ _ ?hs1 (fun hHeld => ?_)
  case hs1 => (exact ⟨hb2, HXK.out _ hb2⟩)
  clear hK K
  try simp only [List.getElem_toArray, List.getElem_cons_zero, List.getElem_cons_succ, Act.put, List.setIfInBounds_toArray, List.set_cons_zero, List.set_cons_succ]
  refine' wpAnyH_take (i := 17) (oi := _) (v := _) rfl (by kernel_rfl) (by kernel_rfl) (by kernel_rfl) (fun _ _ _ h => h) (Or.inl ⟨by rfl, ?hy⟩) (by assumption) ?_
  case hy => (intro w hSw; (try dsimp only at hSw); (try simp only [List.getElem_toArray, List.getElem_cons_zero, List.getElem_cons_succ]); go_simp; try with_reducible rfl)
  try simp only [List.getElem_toArray, List.getElem_cons_zero, List.getElem_cons_succ, Act.put, List.setIfInBounds_toArray, List.set_cons_zero, List.set_cons_succ]
  refine' wpAnyH_take (i := 18) (oi := _) (v := _) rfl (by kernel_rfl) (by kernel_rfl) (by kernel_rfl) (fun _ _ _ h => h) (Or.inl ⟨by rfl, ?hy⟩) (by assumption) ?_
  case hy => (intro w hSw; (try dsimp only at hSw); (try simp only [List.getElem_toArray, List.getElem_cons_zero, List.getElem_cons_succ]); go_simp; try with_reducible rfl)
  try simp only [List.getElem_toArray, List.getElem_cons_zero, List.getElem_cons_succ, Act.put, List.setIfInBounds_toArray, List.set_cons_zero, List.set_cons_succ]
  refine' wpAnyH_take (i := 19) (oi := _) (v := _) rfl (by kernel_rfl) (by kernel_rfl) (by kernel_rfl) (fun _ _ _ h => h) (Or.inl ⟨by rfl, ?hy⟩) (by assumption) ?_
  case hy => (intro w hSw; (try dsimp only at hSw); (try simp only [List.getElem_toArray, List.getElem_cons_zero, List.getElem_cons_succ]); go_simp; try with_reducible rfl)
  try simp only [List.getElem_toArray, List.getElem_cons_zero, List.getElem_cons_succ, Act.put, List.setIfInBounds_toArray, List.set_cons_zero, List.set_cons_succ]
  refine' wpAnyH_take (i := 20) (oi := _) (v := _) rfl (by kernel_rfl) (by kernel_rfl) (by kernel_rfl) (fun _ _ _ h => h) (Or.inl ⟨by rfl, ?hy⟩) (by assumption) ?_
  case hy => (intro w hSw; (try dsimp only at hSw); (try simp only [List.getElem_toArray, List.getElem_cons_zero, List.getElem_cons_succ]); go_simp; try with_reducible rfl)
  try simp only [List.getElem_toArray, List.getElem_cons_zero, List.getElem_cons_succ, Act.put, List.setIfInBounds_toArray, List.set_cons_zero, List.set_cons_succ]
  refine wpAnyH_ready (rs := [21]) (by kernel_rfl) (by simp) ?_
  refine AllReadyH.cons (o := _) rfl (fun K hK => ?_) AllReadyH.nil
  try simp only [List.getElem_toArray, List.getElem_cons_zero, List.getElem_cons_succ, Act.put, List.setIfInBounds_toArray, List.set_cons_zero, List.set_cons_succ]
  go_simp
  (refine (named_i C N m HC.out HN.out HF.out w0 _ hb2).mono ?_; rintro e w3 ⟨rfl, hb3⟩)
  go_wp2_with fail
  refine hK.out _ _ ?hs1 (fun hHeld => ?_)
  case hs1 => (exact ⟨hb3, HXK.out _ hb3⟩)
  clear hK K
  try simp only [List.getElem_toArray, List.getElem_cons_zero, List.getElem_cons_succ, Act.put, List.setIfInBounds_toArray, List.set_cons_zero, List.set_cons_succ]
  refine' wpAnyH_take (i := 22) (oi := _) (v := _) rfl (by kernel_rfl) (by kernel_rfl) (by kernel_rfl) (fun _ _ _ h => h) (Or.inl ⟨by rfl, ?hy⟩) (by assumption) ?_
  case hy => (intro w hSw; (try dsimp only at hSw); (try simp only [List.getElem_toArray, List.getElem_cons_zero, List.getElem_cons_succ]); go_simp; try with_reducible rfl)
  try simp only [List.getElem_toArray, List.getElem_cons_zero, List.getElem_cons_succ, Act.put, List.setIfInBounds_toArray, List.set_cons_zero, List.set_cons_succ]
  refine' wpAnyH_take (i := 23) (oi := _) (v := _) rfl (by kernel_rfl) (by kernel_rfl) (by kernel_rfl) (fun _ _ _ h => h) (Or.inl ⟨by rfl, ?hy⟩) (by assumption) ?_
  case hy => (intro w hSw; (try dsimp only at hSw); (try simp only [List.getElem_toArray, List.getElem_cons_zero, List.getElem_cons_succ]); go_simp; try with_reducible rfl)
  try simp only [List.getElem_toArray, List.getElem_cons_zero, List.getElem_cons_succ, Act.put, List.setIfInBounds_toArray, List.set_cons_zero, List.set_cons_succ]
  refine' wpAnyH_take (i := 24) (oi := _) (v := _) rfl (by kernel_rfl) (by kernel_rfl) (by kernel_rfl) (fun _ _ _ h => h) (Or.inl ⟨by rfl, ?hy⟩) (by assumption) ?_
  case hy => (intro w hSw; (try dsimp only at hSw); (try simp only [List.getElem_toArray, List.getElem_cons_zero, List.getElem_cons_succ]); go_simp; try with_reducible rfl)
  try simp only [List.getElem_toArray, List.getElem_cons_zero, List.getElem_cons_succ, Act.put, List.setIfInBounds_toArray, List.set_cons_zero, List.set_cons_succ]
  refine' wpAnyH_take (i := 25) (oi := _) (v := _) rfl (by kernel_rfl) (by kernel_rfl) (by kernel_rfl) (fun _ _ _ h => h) (Or.inl ⟨by rfl, ?hy⟩) (by assumption) ?_
  case hy => (intro w hSw; (try dsimp only at hSw); (try simp only [List.getElem_toArray, List.getElem_cons_zero, List.getElem_cons_succ]); go_simp; try with_reducible rfl)
  try simp only [List.getElem_toArray, List.getElem_cons_zero, List.getElem_cons_succ, Act.put, List.setIfInBounds_toArray, List.set_cons_zero, List.set_cons_succ]
  refine wpAnyH_ready (rs := [26]) (by kernel_rfl) (by simp) ?_
  refine AllReadyH.cons (o := _) rfl (fun K hK => ?_) AllReadyH.nil
  try simp only [List.getElem_toArray, List.getElem_cons_zero, List.getElem_cons_succ, Act.put, List.setIfInBounds_toArray, List.set_cons_zero, List.set_cons_succ]
  go_simp
  (refine (parts_i C p m HC.out H4.out HF.out w0 _ HL0.out hb3).mono ?_; rintro e w4 ⟨rfl, hb4⟩)
  go_wp2_with fail
  refine hK.out _ _ ?hs1 (fun hHeld => ?_)
  case hs1 => (exact ⟨hb4, HXK.out _ hb4⟩)
  clear hK K
  try simp only [List.getElem_toArray, List.getElem_cons_zero, List.getElem_cons_succ, Act.put, List.setIfInBounds_toArray, List.set_cons_zero, List.set_cons_succ]
  refine' wpAnyH_take (i := 27) (oi := _) (v := _) rfl (by kernel_rfl) (by kernel_rfl) (by kernel_rfl) (fun _ _ _ h => h) (Or.inl ⟨by rfl, ?hy⟩) (by assumption) ?_
  case hy => (intro w hSw; (try dsimp only at hSw); (try simp only [List.getElem_toArray, List.getElem_cons_zero, List.getElem_cons_succ]); go_simp; try with_reducible rfl)
  try simp only [List.getElem_toArray, List.getElem_cons_zero, List.getElem_cons_succ, Act.put, List.setIfInBounds_toArray, List.set_cons_zero, List.set_cons_succ]
  refine' wpAnyH_take (i := 28) (oi := _) (v := _) rfl (by kernel_rfl) (by kernel_rfl) (by kernel_rfl) (fun _ _ _ h => h) (Or.inl ⟨by rfl, ?hy⟩) (by assumption) ?_
  case hy => (intro w hSw; (try dsimp only at hSw); (try simp only [List.getElem_toArray, List.getElem_cons_zero, List.getElem_cons_succ]); go_simp; try with_reducible rfl)
  try simp only [List.getElem_toArray, List.getElem_cons_zero, List.getElem_cons_succ, Act.put, List.setIfInBounds_toArray, List.set_cons_zero, List.set_cons_succ]
  refine wpAnyH_done (by kernel_rfl) ?_ _
  go_wp2_with fail
  go_ret
  exact ⟨ret_b HO.out.symm, HLE.out _ hb4⟩

end Msg
end Go.Proofs.YtddblaiahgjbaaaDoor

namespace Go.Proofs.YtddblaiahgjbaaaDoor
open Go.RowKit
namespace Msg
open Num
open Fld (F)

theorem kind_cut {k : Int} (h1 : 1 ≤ k) (h7 : k ≤ 7) : ∃ j : Nat, k = (j : Int) + 1 ∧ j ≤ 6 ∧ IntKind.i64.wrap (k - 1) = (j : Int) ∧ ((⟨#[65, 48, 49, 50, 52, 53, 56]⟩ : ByteArray).extract j 7).extract 0 1 = kindS k ∧ ((⟨#[65, 48, 49, 50, 52, 53, 56]⟩ : ByteArray).extract j 7).size = 7 - j := by
  have h : k = 1 ∨ k = 2 ∨ k = 3 ∨ k = 4 ∨ k = 5 ∨ k = 6 ∨ k = 7 := by omega
  rcases h with rfl | rfl | rfl | rfl | rfl | rfl | rfl
  · exact ⟨0, by decide, by decide, by decide, by decide, by decide⟩
  · exact ⟨1, by decide, by decide, by decide, by decide, by decide⟩
  · exact ⟨2, by decide, by decide, by decide, by decide, by decide⟩
  · exact ⟨3, by decide, by decide, by decide, by decide, by decide⟩
  · exact ⟨4, by decide, by decide, by decide, by decide, by decide⟩
  · exact ⟨5, by decide, by decide, by decide, by decide, by decide⟩
  · exact ⟨6, by decide, by decide, by decide, by decide, by decide⟩

set_option maxRecDepth 100000 in
set_option maxHeartbeats 4000000 in
theorem fieldsOf_any (m : Ms) (h1 : 1 ≤ m.kind) (h7 : m.kind ≤ 7) (w : World) (hl : Laid w) :
    Calls Tryd.prog 13 #[.agg m.cells] w fun e w' => ∃ a cap, e = .returned (.slice a (fieldsP m).length cap) ∧ RowAt encF w' a cap (fieldsP m) ∧ Below w.heap.size w w' := by
  have HBX0 := Lib.hid (BoxM.made w m 25)
  have HB0 : Hid (Below w.heap.size w (w.alloc (.cells m.cells 25))) := Lib.hid ((Below.refl _ _).alloc (Nat.le_refl _) _)
  have HL0 := Lib.hid (hl.below HB0.out)
  clear hl
  obtain ⟨K, hK⟩ : ∃ K, m.kind = K := ⟨_, rfl⟩
  have HKS : Hid (fieldsP m = [⟨35, kindS K⟩, numF 34 m.seq, numF 52 m.time] ++ optF m.copy ⟨43, yS⟩ ++
      (if K = 1 then [numF 108 m.a] else if K = 2 ∨ K = 3 then optF (decide (m.text ≠ emp)) ⟨112, m.text⟩ else if K = 4 then [numF 7 m.a, numF 16 m.b]
       else if K = 5 then optF m.gap ⟨123, yS⟩ ++ [numF 36 m.a] else if K = 7 then execF m.exec else [])) := Lib.hid (by rw [← hK]; rfl)
  generalize fieldsP m = LP at HKS ⊢
  rw [hK] at h1 h7
  have HK := Lib.hid hK
  clear hK
  obtain ⟨j, hj, hj6, hjw, hjs, hjz⟩ := kind_cut h1 h7
  have HJS := Lib.hid hjs
  have HJ := Lib.hid hj
  clear hjs hj
  go_enter Tryd.func13, Tryd.ntmps13
  go_upto_region 1 with fail
  generalize w.alloc (.cells m.cells 25) = w0 at HBX0 HB0 HL0 ⊢
  have S0 : Hid (Fs w0 (w0.alloc (.cells #[.slice none 0 0] 43)) w0.heap.size []) := Lib.hid
    ⟨(Below.refl _ _).alloc (Nat.le_refl _) _, Nat.le_refl _, .slice none 0 0, heap_alloc_new _ _, OwnE.nil _ _ _ _⟩
  have HBX : Hid (∀ W l, Fs w0 W w0.heap.size l → BoxM W w.heap.size m) := Lib.hid (fun W l h => HBX0.out.later h.B)
  have HLW : Hid (∀ W l, Fs w0 W w0.heap.size l → Laid W) := Lib.hid (fun W l h => HL0.out.below h.B)
  go_upto_region 2 with fail
  generalize w0.alloc (.cells #[.slice none 0 0] 43) = u0 at S0 ⊢
  have c0 := HK.out ▸ (HBX.out _ _ S0.out).c0
  go_wp2_with fail
  refine (putText_any 35 _ w0 _ w0.heap.size [] S0.out (by simp)).mono ?_
  rw [HJS.out]
  rintro e u1 ⟨rfl, hs, -⟩
  have S1 : Hid (Fs w0 u1 w0.heap.size [⟨35, kindS K⟩]) := Lib.hid hs
  clear hs c0
  have c1 := (HBX.out _ _ S1.out).c1
  go_wp2_with fail
  refine (putNumber_any 34 m.seq w0 _ w0.heap.size _ S1.out (by simp) (HLW.out _ _ S1.out)).mono ?_
  rintro e u2 ⟨rfl, hs, -⟩
  have S2 : Hid (Fs w0 u2 w0.heap.size [⟨35, kindS K⟩, numF 34 m.seq]) := Lib.hid hs
  clear hs c1
  have c2 := (HBX.out _ _ S2.out).c2
  go_wp2_with fail
  refine (putNumber_any 52 m.time w0 _ w0.heap.size _ S2.out (by simp) (HLW.out _ _ S2.out)).mono ?_
  rintro e u3 ⟨rfl, hs, -⟩
  have S3 : Hid (Fs w0 u3 w0.heap.size [⟨35, kindS K⟩, numF 34 m.seq, numF 52 m.time]) := Lib.hid hs
  clear hs c2
  have c3 := (HBX.out _ _ S3.out).c3
  go_wp2_with fail
  refine (putFlag_any 43 m.copy w0 _ w0.heap.size _ S3.out (by simp)).mono ?_
  rintro e u4 ⟨rfl, hs, -⟩
  have S4 := Lib.hid hs
  clear hs c3
  have hlen : ([⟨35, kindS K⟩, numF 34 m.seq, numF 52 m.time] ++ optF m.copy ⟨43, yS⟩ : List F).length ≤ 4 := by
    rw [List.length_append]
    have := optF_le m.copy ⟨43, yS⟩
    simp only [List.length_cons, List.length_nil]
    omega
  obtain ⟨L, hL⟩ : ∃ L, ([⟨35, kindS K⟩, numF 34 m.seq, numF 52 m.time] ++ optF m.copy ⟨43, yS⟩ : List F) = L := ⟨_, rfl⟩
  rw [hL] at HKS S4 hlen
  clear hL
  have c0 := HK.out ▸ (HBX.out _ _ S4.out).c0
  have HEND : Hid (∀ W l, Fs w0 W w0.heap.size l → ∃ a cap, W.cell? ⟨w0.heap.size, 0, none⟩ = some (.slice a l.length cap) ∧ RowAt encF W a cap l ∧ Below w.heap.size w W) := Lib.hid (fun W l h => by
    obtain ⟨B, _, v, hv, ho⟩ := h
    obtain ⟨a, cap, rfl, hr⟩ := ho.row
    exact ⟨a, cap, cell_at hv rfl, hr, HB0.out.trans (B.mono HB0.out.size)⟩)
  by_cases k1 : K = 1
  · have HP : Hid (LP = L ++ [numF 108 m.a]) := Lib.hid (by rw [HKS.out, if_pos k1])
    have c5 := (HBX.out _ _ S4.out).c4
    go_wp2_with fail
    refine (putNumber_any 108 m.a w0 _ w0.heap.size _ S4.out (Nat.le_trans hlen (by omega)) (HLW.out _ _ S4.out)).mono ?_
    rintro e u5 ⟨rfl, hs, -⟩
    have S5 := Lib.hid hs
    clear hs
    clear c5
    obtain ⟨a, cap, z0, hr, hb⟩ := HEND.out u5 LP (by rw [HP.out]; exact S5.out)
    have HR := Lib.hid hr
    have HB := Lib.hid hb
    clear hr hb
    go_wp2_with fail
    go_ret
    exact ⟨a, cap, rfl, HR.out, HB.out⟩
  by_cases k2 : K = 2
  · have HP : Hid (LP = L ++ optF (decide (m.text ≠ emp)) ⟨112, m.text⟩) := Lib.hid (by rw [HKS.out, if_neg k1, if_pos (.inl k2)])
    have c5 := (HBX.out _ _ S4.out).c7
    go_wp2_with fail
    refine (putThere_any 112 m.text w0 _ w0.heap.size _ S4.out (Nat.le_trans hlen (by omega))).mono ?_
    rintro e u5 ⟨rfl, hs, -⟩
    have S5 := Lib.hid hs
    clear hs
    clear c5
    obtain ⟨a, cap, z0, hr, hb⟩ := HEND.out u5 LP (by rw [HP.out]; exact S5.out)
    have HR := Lib.hid hr
    have HB := Lib.hid hb
    clear hr hb
    go_wp2_with fail
    go_ret
    exact ⟨a, cap, rfl, HR.out, HB.out⟩
  by_cases k3 : K = 3
  · have HP : Hid (LP = L ++ optF (decide (m.text ≠ emp)) ⟨112, m.text⟩) := Lib.hid (by rw [HKS.out, if_neg k1, if_pos (.inr k3)])
    have c5 := (HBX.out _ _ S4.out).c7
    go_wp2_with fail
    refine (putThere_any 112 m.text w0 _ w0.heap.size _ S4.out (Nat.le_trans hlen (by omega))).mono ?_
    rintro e u5 ⟨rfl, hs, -⟩
    have S5 := Lib.hid hs
    clear hs
    clear c5
    obtain ⟨a, cap, z0, hr, hb⟩ := HEND.out u5 LP (by rw [HP.out]; exact S5.out)
    have HR := Lib.hid hr
    have HB := Lib.hid hb
    clear hr hb
    go_wp2_with fail
    go_ret
    exact ⟨a, cap, rfl, HR.out, HB.out⟩
  by_cases k4 : K = 4
  · have HP : Hid (LP = L ++ [numF 7 m.a] ++ [numF 16 m.b]) := Lib.hid (by rw [HKS.out, if_neg k1, if_neg (by omega : ¬ (K = 2 ∨ K = 3)), if_pos k4]; simp)
    have c5 := (HBX.out _ _ S4.out).c4
    go_wp2_with fail
    refine (putNumber_any 7 m.a w0 _ w0.heap.size _ S4.out (Nat.le_trans hlen (by omega)) (HLW.out _ _ S4.out)).mono ?_
    rintro e u5 ⟨rfl, hs, -⟩
    have S5 := Lib.hid hs
    clear hs
    clear c5
    have c6 := (HBX.out _ _ S5.out).c5
    go_wp2_with fail
    refine (putNumber_any 16 m.b w0 _ w0.heap.size _ S5.out (by simp only [List.length_append, List.length_cons, List.length_nil]; omega) (HLW.out _ _ S5.out)).mono ?_
    rintro e u6 ⟨rfl, hs, -⟩
    have S6 := Lib.hid hs
    clear hs
    clear c6
    obtain ⟨a, cap, z0, hr, hb⟩ := HEND.out u6 LP (by rw [HP.out]; exact S6.out)
    have HR := Lib.hid hr
    have HB := Lib.hid hb
    clear hr hb
    go_wp2_with fail
    go_ret
    exact ⟨a, cap, rfl, HR.out, HB.out⟩
  by_cases k5 : K = 5
  · have HP : Hid (LP = L ++ optF m.gap ⟨123, yS⟩ ++ [numF 36 m.a]) := Lib.hid (by rw [HKS.out, if_neg k1, if_neg (by omega : ¬ (K = 2 ∨ K = 3)), if_neg k4, if_pos k5]; simp)
    have c5 := (HBX.out _ _ S4.out).c6
    go_wp2_with fail
    refine (putFlag_any 123 m.gap w0 _ w0.heap.size _ S4.out (Nat.le_trans hlen (by omega))).mono ?_
    rintro e u5 ⟨rfl, hs, -⟩
    have S5 := Lib.hid hs
    clear hs
    clear c5
    have c6 := (HBX.out _ _ S5.out).c4
    go_wp2_with fail
    refine (putNumber_any 36 m.a w0 _ w0.heap.size _ S5.out (by have := optF_le m.gap ⟨123, yS⟩; rw [List.length_append]; omega) (HLW.out _ _ S5.out)).mono ?_
    rintro e u6 ⟨rfl, hs, -⟩
    have S6 := Lib.hid hs
    clear hs
    clear c6
    obtain ⟨a, cap, z0, hr, hb⟩ := HEND.out u6 LP (by rw [HP.out]; exact S6.out)
    have HR := Lib.hid hr
    have HB := Lib.hid hb
    clear hr hb
    go_wp2_with fail
    go_ret
    exact ⟨a, cap, rfl, HR.out, HB.out⟩
  by_cases k7 : K = 7
  · have HP : Hid (LP = L ++ execF m.exec) := Lib.hid (by rw [HKS.out, if_neg k1, if_neg (by omega : ¬ (K = 2 ∨ K = 3)), if_neg k4, if_neg k5, if_pos k7])
    have HRX := Lib.hid (HBX.out _ _ S4.out).rangeX
    go_wp2_with (refine wpList_load_mid_g (by rfl) 23 _ rfl w.heap.size 8 rfl _ _ HRX.out Tryd.underlying23 rfl (by kernel_rfl) ?_)
    refine (putExec_any m.exec w0 _ w0.heap.size _ S4.out (Nat.le_trans hlen (by omega)) HL0.out).mono ?_
    rintro e u5 ⟨rfl, hs, -⟩
    have S5 := Lib.hid hs
    clear hs
    obtain ⟨a, cap, z0, hr, hb⟩ := HEND.out u5 LP (by rw [HP.out]; exact S5.out)
    have HR := Lib.hid hr
    have HB := Lib.hid hb
    clear hr hb
    go_wp2_with fail
    go_ret
    exact ⟨a, cap, rfl, HR.out, HB.out⟩
  · have HP : Hid (LP = L) := Lib.hid (by rw [HKS.out, if_neg k1, if_neg (by omega : ¬ (K = 2 ∨ K = 3)), if_neg k4, if_neg k5, if_neg k7]; exact List.append_nil L)
    obtain ⟨a, cap, z0, hr, hb⟩ := HEND.out u4 LP (by rw [HP.out]; exact S4.out)
    have HR := Lib.hid hr
    have HB := Lib.hid hb
    clear hr hb
    go_wp2_with fail
    go_ret
    exact ⟨a, cap, rfl, HR.out, HB.out⟩

theorem fieldsOf_is (c : Array Value) (m : Ms) (hc : c = m.cells) (h : rightM m = true) (w : World) (hl : Laid w) :
    Calls Tryd.prog 13 #[.agg c] w fun e w' => ∃ a cap, e = .returned (.slice a (fieldsM m).length cap) ∧ RowAt encF w' a cap (fieldsM m) ∧ Below w.heap.size w w' := by
  subst hc
  have p := parts h
  rw [← fields_p h]
  exact fieldsOf_any m p.k1 p.k7 w hl
theorem right_k (c : Array Value) (m : Ms) (o : Bool) (hc : c = m.cells) (ho : rightM m = o) (hm : m.Fits) (w : World) (hl : Laid w) : Calls Tryd.prog 11 #[.agg c] w fun e w' => e = .returned (.bool o) ∧ Below w.heap.size w w' := by
  subst hc ho
  exact right_any m hm w hl

set_option maxRecDepth 100000 in
set_option maxHeartbeats 2000000 in
theorem put_any (m : Ms) (hm : m.Fits) (w : World) (hl : Laid w) : Calls Tryd.prog 7 #[.agg m.cells] w (GotBytes w (putM m).1 (putM m).2) := by
  have HF := Lib.hid hm
  obtain ⟨C, hC⟩ : ∃ C, m.cells = C := ⟨_, rfl⟩
  have HC := Lib.hid hC.symm
  have hi : (Tryd.prog.info? 25).map (·.size) = some C.size := by rw [← hC]; kernel_rfl
  have HX0 : Hid ((w.alloc (.cells C 25)).heap[w.heap.size]? = some (.cells C 25 (0, 0))) := Lib.hid (heap_alloc_new w _)
  have HB0 : Hid (Below w.heap.size w (w.alloc (.cells C 25))) := Lib.hid ((Below.refl _ _).alloc (Nat.le_refl _) _)
  have HL := Lib.hid hl
  rw [hC]
  clear hC hm hl
  obtain ⟨y, n, hp⟩ : ∃ y n, putM m = (y, n) := ⟨_, _, rfl⟩
  rw [hp]
  have HP := Lib.hid hp
  clear hp
  obtain ⟨o, ho⟩ : ∃ o, rightM m = o := ⟨_, rfl⟩
  have HO := Lib.hid ho
  go_enter Tryd.func7, Tryd.ntmps7
  go_upto_region 1 with fail
  generalize w.alloc (.cells C 25) = w0 at HX0 HB0 ⊢
  have HR0 := Lib.hid (block_range HX0.out)
  go_wp2_with (refine wpList_load_arr_g (by rfl) 25 _ rfl w.heap.size 0 rfl C _ HR0.out Tryd.underlying25 rfl hi ?_)
  refine (right_k C m o HC.out ho HF.out _ (HL.out.below HB0.out)).mono ?_
  rintro e w1 ⟨rfl, hb1⟩
  have HB1 := Lib.hid (HB0.out.trans (hb1.mono HB0.out.size))
  have HX1 := Lib.hid (below_block HX0.out hb1)
  have HR1 := Lib.hid (block_range HX1.out)
  clear hb1 HX0 HR0 ho
  cases o
  · have HE : Hid (([], 1) = (y, n)) := Lib.hid (by rw [← HP.out]; unfold putM; rw [if_neg (by rw [HO.out]; simp)])
    go_wp2_with fail
    go_ret2
    obtain ⟨rfl, rfl⟩ := Prod.mk.inj HE.out
    exact ⟨⟨none, 0, rfl, .inl ⟨rfl, rfl, rfl⟩⟩, HB1.out⟩
  · have HE : Hid (Fld.putB (fieldsM m) = y ∧ Fld.putE (fieldsM m) = n) := Lib.hid (by
      have h := HP.out
      unfold putM at h
      rw [if_pos HO.out] at h
      obtain ⟨h1, h2⟩ := Prod.mk.inj h
      exact ⟨h1, by rw [← h2]; exact (fields_put HO.out).1⟩)
    go_wp2_with (refine wpList_load_arr_g (by rfl) 25 _ rfl w.heap.size 0 rfl C _ HR1.out Tryd.underlying25 rfl hi ?_)
    refine (fieldsOf_is C m HC.out HO.out _ (HL.out.below HB1.out)).mono ?_
    rintro e w2 ⟨a, cap, rfl, hr, hb2⟩
    have HB2 := Lib.hid (HB1.out.trans (hb2.mono HB1.out.size))
    have HR2 := Lib.hid hr
    have hln : (fieldsM m).length ≤ 9223372036854775807 := by have := (fields_may HO.out).2.2; omega
    have HPT := Lib.hid (fun w h => Fld.put_any a cap (fieldsM m) w (RowAt.flds HR2.out |>.later (h : Below w2.heap.size w2 w)) (fits_fields HO.out) hln (HL.out.below (HB2.out.trans (h.mono HB2.out.size))))
    rw [HE.out.1, HE.out.2] at HPT
    clear hr hb2 hln
    go_wp2_with fail
    refine (HPT.out _ (Below.refl _ _)).mono ?_
    rintro e w3 ⟨⟨a3, c3, rfl, h3⟩, hb3⟩
    have HY := Lib.hid h3
    have HB3 := Lib.hid (HB2.out.trans (hb3.mono HB2.out.size))
    clear h3 hb3
    go_wp2_with fail
    go_ret2
    exact ⟨⟨a3, c3, rfl, HY.out⟩, HB3.out⟩

end Msg
end Go.Proofs.YtddblaiahgjbaaaDoor

namespace Go.Proofs.YtddblaiahgjbaaaDoor
open Go.RowKit
namespace Msg
open Num
open Fld (F getV numV getO numO)

theorem str_is (v : ByteArray) (c : UInt8) : (v.toList == [c]) = decide (v = ⟨#[c]⟩) := by
  rw [Bool.eq_iff_iff, beq_iff_eq, decide_eq_true_eq, ByteArray.toList_eq]
  constructor
  · intro h
    obtain ⟨⟨x⟩⟩ := v
    simp at h
    rw [h]
  · intro h; rw [h]
/-- what is read out of fields that came in -/
structure Src (w wi : World) (a : Option Addr) (l : List F) : Prop where
  B : Below w.heap.size w wi
  f : Flds wi a l
  L : Laid wi
theorem Src.later {w wi w' : World} {a : Option Addr} {l : List F} (h : Src w wi a l) (hb : Below wi.heap.size wi w') : Src w w' a l := ⟨h.B.trans (hb.mono h.B.size), h.f.later hb, h.L.below hb⟩

theorem text_l (a : Option Addr) (cap : Nat) (l : List F) (t : Int) (w : World) (hfl : Flds w a l) (hlen : l.length ≤ 9223372036854775807) :
    Calls Tryd.prog 31 #[.slice a l.length cap, .int .i64 t] w fun e w' => e = .returned (.string (getV l t)) ∧ Below w.heap.size w w' := by
  have HC := Lib.hid (fun w h => Fld.get_any a cap l t w h hlen)
  have HF := Lib.hid hfl
  clear hfl
  go_enter Tryd.func31, Tryd.ntmps31
  go_wp2_with fail
  refine (HC.out _ HF.out).mono ?_
  rintro e w1 ⟨rfl, hb⟩
  go_wp2_with fail
  go_ret
  exact ⟨rfl, hb⟩
theorem num_l (a : Option Addr) (cap : Nat) (l : List F) (t : Int) (w : World) (hfl : Flds w a l) (hfit : Fld.Fits l) (hlen : l.length ≤ 9223372036854775807) (hl : Laid w) :
    Calls Tryd.prog 32 #[.slice a l.length cap, .int .i64 t] w fun e w' => e = .returned (.int .i64 (numV l t)) ∧ Below w.heap.size w w' := by
  have HC := Lib.hid (fun w h hl => Fld.num_any a cap l t w h hfit hlen hl)
  have HF := Lib.hid hfl
  have HL := Lib.hid hl
  clear hfl hl hfit
  go_enter Tryd.func32, Tryd.ntmps32
  go_wp2_with fail
  refine (HC.out _ HF.out HL.out).mono ?_
  rintro e w1 ⟨rfl, hb⟩
  go_wp2_with fail
  go_ret
  exact ⟨rfl, hb⟩
theorem flag_l (a : Option Addr) (cap : Nat) (l : List F) (t : Int) (w : World) (hfl : Flds w a l) (hlen : l.length ≤ 9223372036854775807) :
    Calls Tryd.prog 33 #[.slice a l.length cap, .int .i64 t] w fun e w' => e = .returned (.bool (decide (getV l t = yS))) ∧ Below w.heap.size w w' := by
  have HC := Lib.hid (fun w h => text_l a cap l t w h hlen)
  have HF := Lib.hid hfl
  clear hfl
  generalize getV l t = v at HC ⊢
  have HV := Lib.hid (str_is v 89)
  go_enter Tryd.func33, Tryd.ntmps33
  go_wp2_with fail
  refine (HC.out _ HF.out).mono ?_
  rintro e w1 ⟨rfl, hb⟩
  go_wp2_with fail
  go_ret
  exact ⟨ret_b HV.out, hb⟩

theorem numV_fits (l : List F) (t : Int) : I64 (numV l t) := by rw [Fld.num_is.1]; exact parseV_fits _
theorem getV_fits {l : List F} (h : Fld.Fits l) (t : Int) : Str (getV l t) := Fld.getV_size h
theorem ofEx_fits {l : List F} (h : Fld.Fits l) : (ofEx l).Fits := ⟨getV_fits h _, getV_fits h _, getV_fits h _, getV_fits h _, getV_fits h _, numV_fits l _, numV_fits l _, numV_fits l _, numV_fits l _⟩
theorem ofL_fits {l : List F} (h : Fld.Fits l) {K : Int} (hK : I64 K) : (ofL K l).Fits := by
  have z : I64 0 := by unfold I64; decide
  unfold ofL
  split
  · exact ⟨hK, numV_fits l _, numV_fits l _, numV_fits l _, z, emp_str, noEx_fits2⟩
  split
  · exact ⟨hK, numV_fits l _, numV_fits l _, z, z, getV_fits h _, noEx_fits2⟩
  split
  · exact ⟨hK, numV_fits l _, numV_fits l _, numV_fits l _, numV_fits l _, emp_str, noEx_fits2⟩
  split
  · exact ⟨hK, numV_fits l _, numV_fits l _, numV_fits l _, z, emp_str, noEx_fits2⟩
  split
  · exact ⟨hK, numV_fits l _, numV_fits l _, z, z, emp_str, ofEx_fits h⟩
  · exact ⟨hK, numV_fits l _, numV_fits l _, z, z, emp_str, noEx_fits2⟩

theorem ex_end {fn : Func} (hfn : fn.results = #[.cell 2 23]) (g : Nat) (W : World) (cs old : Array Value) (tmps : Array Value) (hw : W.heap[g]? = some (.cells old 23 (0, 0))) (hcs : cs.size = 10)
    (ht2 : tmps.getD 2 undef = .pointer (some ⟨g, 0, none⟩)) : (results fn tmps).run Tryd.prog (W.setRow g cs) = .ok (.agg cs) (W.setRow g cs) :=
  results_row_one hfn tmps _ _ g 23 cs (0, 0) _ ht2 (setRow_heap W _ _ cs _ _ hw) Tryd.underlying23 rfl (by rw [hcs]; kernel_rfl)

set_option maxRecDepth 100000 in
set_option maxHeartbeats 4000000 in
theorem exec_l (a : Option Addr) (cap : Nat) (l : List F) (w : World) (hfl : Flds w a l) (hfit : Fld.Fits l) (hlen : l.length ≤ 9223372036854775807) (hl : Laid w) :
    Calls Tryd.prog 34 #[.slice a l.length cap] w fun e w' => e = .returned (.agg (ofEx l).cells) ∧ Below w.heap.size w w' := by
  have S0 : Hid (Src w (w.alloc (.cells noEx.cells 23)) a l) := Lib.hid ⟨(Below.refl _ _).alloc (Nat.le_refl _) _, hfl.later ((Below.refl _ _).alloc (Nat.le_refl _) _), hl.below ((Below.refl _ _).alloc (Nat.le_refl _) _)⟩
  have R0 : Hid ((w.alloc (.cells noEx.cells 23)).heap[w.heap.size]? = some (.cells noEx.cells 23 (0, 0))) := Lib.hid (heap_alloc_new _ _)
  have HT := Lib.hid (fun t w h => text_l a cap l t w h hlen)
  have HN := Lib.hid (fun t w h hl => num_l a cap l t w h hfit hlen hl)
  have HX : Hid (ofEx l = ⟨getV l 17, getV l 19, getV l 11, getV l 1, getV l 55, numV l 150, decide (getV l 54 = ⟨#[49]⟩), numV l 32, numV l 31, numV l 60⟩) := Lib.hid rfl
  generalize ofEx l = X at HX ⊢
  clear hfl hl hfit
  go_enter Tryd.func34, Tryd.ntmps34
  go_upto_region 1 with fail
  change Code.wp _ _ _ _ (w.alloc (.cells noEx.cells 23))
  generalize w.alloc (.cells noEx.cells 23) = u0 at S0 R0 ⊢
  go_wp2_with fail
  refine (HT.out 17 _ S0.out.f).mono ?_
  rintro e u1 ⟨rfl, hb⟩
  have S1 := Lib.hid (S0.out.later hb)
  have R1 := Lib.hid (below_block R0.out hb)
  clear hb S0 R0
  generalize getV l 17 = v0 at HX ⊢
  go_wp2_with fail
  refine (HT.out 19 _ S1.out.f).mono ?_
  rintro e u2 ⟨rfl, hb⟩
  have S2 := Lib.hid (S1.out.later hb)
  have R2 := Lib.hid (below_block R1.out hb)
  clear hb S1 R1
  generalize getV l 19 = v1 at HX ⊢
  go_wp2_with fail
  refine (HT.out 11 _ S2.out.f).mono ?_
  rintro e u3 ⟨rfl, hb⟩
  have S3 := Lib.hid (S2.out.later hb)
  have R3 := Lib.hid (below_block R2.out hb)
  clear hb S2 R2
  generalize getV l 11 = v2 at HX ⊢
  go_wp2_with fail
  refine (HT.out 1 _ S3.out.f).mono ?_
  rintro e u4 ⟨rfl, hb⟩
  have S4 := Lib.hid (S3.out.later hb)
  have R4 := Lib.hid (below_block R3.out hb)
  clear hb S3 R3
  generalize getV l 1 = v3 at HX ⊢
  go_wp2_with fail
  refine (HT.out 55 _ S4.out.f).mono ?_
  rintro e u5 ⟨rfl, hb⟩
  have S5 := Lib.hid (S4.out.later hb)
  have R5 := Lib.hid (below_block R4.out hb)
  clear hb S4 R4
  generalize getV l 55 = v4 at HX ⊢
  go_wp2_with fail
  refine (HN.out 150 _ S5.out.f S5.out.L).mono ?_
  rintro e u6 ⟨rfl, hb⟩
  have S6 := Lib.hid (S5.out.later hb)
  have R6 := Lib.hid (below_block R5.out hb)
  clear hb S5 R5
  generalize numV l 150 = v5 at HX ⊢
  go_wp2_with fail
  refine (HT.out 54 _ S6.out.f).mono ?_
  rintro e u7 ⟨rfl, hb⟩
  have S7 := Lib.hid (S6.out.later hb)
  have R7 := Lib.hid (below_block R6.out hb)
  clear hb S6 R6
  generalize getV l 54 = v6 at HX ⊢
  go_wp2_with fail
  refine (HN.out 32 _ S7.out.f S7.out.L).mono ?_
  rintro e u8 ⟨rfl, hb⟩
  have S8 := Lib.hid (S7.out.later hb)
  have R8 := Lib.hid (below_block R7.out hb)
  clear hb S7 R7
  generalize numV l 32 = v7 at HX ⊢
  go_wp2_with fail
  refine (HN.out 31 _ S8.out.f S8.out.L).mono ?_
  rintro e u9 ⟨rfl, hb⟩
  have S9 := Lib.hid (S8.out.later hb)
  have R9 := Lib.hid (below_block R8.out hb)
  clear hb S8 R8
  generalize numV l 31 = v8 at HX ⊢
  go_wp2_with fail
  refine (HN.out 60 _ S9.out.f S9.out.L).mono ?_
  rintro e u10 ⟨rfl, hb⟩
  have S10 := Lib.hid (S9.out.later hb)
  have R10 := Lib.hid (below_block R9.out hb)
  clear hb S9 R9
  generalize numV l 60 = v9 at HX ⊢
  have HB1 := Lib.hid (str_is v6 49)
  generalize decide (v6 = ⟨#[49]⟩) = by6 at HX HB1
  go_wp2_with (refine wpList_store_row rfl 23 _ _ rfl w.heap.size _ rfl rfl _ _ R10.out (by kernel_rfl) (by rfl) (ex_one ⟨v0, v1, v2, v3, v4, v5, _, v7, v8, v9⟩) ?_)
  refine bodyPost_ret (ex_end rfl w.heap.size _ _ _ _ R10.out rfl rfl) rfl ?_
  rw [HX.out, ← HB1.out]
  exact ⟨rfl, below_setRow S10.out.B (Nat.le_refl _) _⟩

theorem index_fits (s : List UInt8) : -1 ≤ Lib.index [65, 48, 49, 50, 52, 53, 56] s ∧ Lib.index [65, 48, 49, 50, 52, 53, 56] s ≤ 7 :=
  ⟨Lib.index_ge _ _, Lib.index_le _ _⟩
/-- a kind by its sign -/
def kindI (s : ByteArray) : Int := 1 + Lib.index [65, 48, 49, 50, 52, 53, 56] s.data.toList
theorem kindI_is {s : ByteArray} (k : Int) (h1 : 1 ≤ k) (h7 : k ≤ 7) (h : s = kindS k) : kindI s = k := by
  subst h
  have h : k = 1 ∨ k = 2 ∨ k = 3 ∨ k = 4 ∨ k = 5 ∨ k = 6 ∨ k = 7 := by omega
  rcases h with rfl | rfl | rfl | rfl | rfl | rfl | rfl <;> decide
theorem kindI_fits (s : ByteArray) : 0 ≤ kindI s ∧ kindI s ≤ 8 := by
  have := index_fits s.data.toList
  unfold kindI
  omega

set_option maxRecDepth 100000 in
set_option maxHeartbeats 4000000 in
theorem messageOf_any (a : Option Addr) (cap : Nat) (l : List F) (w : World) (hfl : Flds w a l) (hfit : Fld.Fits l) (hlen : l.length ≤ 9223372036854775807) (hl : Laid w) :
    Calls Tryd.prog 14 #[.slice a l.length cap] w fun e w' => e = .returned (.agg (ofL (kindI (getV l 35)) l).cells) ∧ Below w.heap.size w w' := by
  have S0 : Hid (Src w (w.alloc (.cells noMs.cells 25)) a l) := Lib.hid ⟨(Below.refl _ _).alloc (Nat.le_refl _) _, hfl.later ((Below.refl _ _).alloc (Nat.le_refl _) _), hl.below ((Below.refl _ _).alloc (Nat.le_refl _) _)⟩
  have R0 : Hid ((w.alloc (.cells noMs.cells 25)).heap[w.heap.size]? = some (.cells noMs.cells 25 (0, 0))) := Lib.hid (heap_alloc_new _ _)
  have HT := Lib.hid (fun t w h => text_l a cap l t w h hlen)
  have HN := Lib.hid (fun t w h hl => num_l a cap l t w h hfit hlen hl)
  have HG := Lib.hid (fun t w h => flag_l a cap l t w h hlen)
  have HXX := Lib.hid (fun w h hl => exec_l a cap l w h hfit hlen hl)
  obtain ⟨K, hK⟩ : ∃ K, kindI (getV l 35) = K := ⟨_, rfl⟩
  have hKF := kindI_fits (getV l 35)
  rw [hK] at hKF
  have HK := Lib.hid hK
  have HIF := Lib.hid (index_fits (getV l 35).data.toList)
  have HKI : Hid (1 + Lib.index [65, 48, 49, 50, 52, 53, 56] (getV l 35).data.toList = K) := Lib.hid hK
  have HSI := Lib.hid (fun w m h => Tryd.strings_Index ⟨#[65, 48, 49, 50, 52, 53, 56]⟩ (getV l 35) m w (by decide) h)
  rw [hK]
  have HOF : Hid (ofL K l = if K = 1 then {ofHead K l with a := numV l 108} else if K = 2 ∨ K = 3 then {ofHead K l with text := getV l 112} else if K = 4 then {ofHead K l with a := numV l 7, b := numV l 16}
    else if K = 5 then {ofHead K l with a := numV l 36, gap := decide (getV l 123 = yS)} else if K = 7 then {ofHead K l with exec := ofEx l} else ofHead K l) := Lib.hid rfl
  have HHD : Hid (ofHead K l = {noMs with kind := K, seq := numV l 34, time := numV l 52, copy := decide (getV l 43 = yS)}) := Lib.hid rfl
  generalize ofL K l = Y at HOF ⊢
  generalize ofHead K l = H0 at HOF HHD
  clear hfl hl hfit hK
  go_enter Tryd.func14, Tryd.ntmps14
  go_upto_region 1 with fail
  change Code.wp _ _ _ _ (w.alloc (.cells noMs.cells 25))
  generalize w.alloc (.cells noMs.cells 25) = u0 at S0 R0 ⊢
  go_wp2_with fail
  refine (HT.out 35 _ S0.out.f).mono ?_
  rintro e u1 ⟨rfl, hb⟩
  have S1 := Lib.hid (S0.out.later hb)
  have R1 := Lib.hid (below_block R0.out hb)
  clear hb S0 R0
  obtain ⟨mx, hmx⟩ := S1.out.L.max
  have HMX := Lib.hid hmx
  clear hmx
  have HI := Lib.hid (HSI.out u1 mx HMX.out)
  clear HSI
  change Hid (Calls _ _ _ _ fun e w' => e = .returned (.int .i64 (Lib.index [65, 48, 49, 50, 52, 53, 56] (getV l 35).data.toList)) ∧ w' = u1) at HI
  obtain ⟨ix, hix⟩ : ∃ ix, Lib.index [65, 48, 49, 50, 52, 53, 56] (getV l 35).data.toList = ix := ⟨_, rfl⟩
  rw [hix] at HI HIF HKI
  clear hix
  obtain ⟨hi1, hi7⟩ := HIF.out
  have hw : IntKind.i64.wrap (1 + ix) = K := by rw [IntKind.wrap_i64]; have := HKI.out; omega
  go_wp2_with fail
  refine HI.out.mono ?_
  rintro e w' ⟨rfl, rfl⟩
  go_wp2_with fail
  refine (HN.out 34 _ S1.out.f S1.out.L).mono ?_
  rintro e u2 ⟨rfl, hb⟩
  have S2 := Lib.hid (S1.out.later hb)
  have R2 := Lib.hid (below_block R1.out hb)
  clear hb S1 R1
  generalize numV l 34 = v34 at HHD ⊢
  go_wp2_with fail
  refine (HN.out 52 _ S2.out.f S2.out.L).mono ?_
  rintro e u3 ⟨rfl, hb⟩
  have S3 := Lib.hid (S2.out.later hb)
  have R3 := Lib.hid (below_block R2.out hb)
  clear hb S2 R2
  generalize numV l 52 = v52 at HHD ⊢
  go_wp2_with fail
  refine (HG.out 43 _ S3.out.f).mono ?_
  rintro e u4 ⟨rfl, hb⟩
  have S4 := Lib.hid (S3.out.later hb)
  have R4 := Lib.hid (below_block R3.out hb)
  clear hb S3 R3
  generalize decide (getV l 43 = yS) = v43 at HHD ⊢
  go_upto_region 2 with (refine wpList_store_row rfl 25 _ _ rfl u4.heap.size _ rfl rfl _ _ (heap_alloc_last _ _) (by kernel_rfl) (by rfl) (ms_one ⟨K, v34, v52, v43, 0, 0, false, emp, noEx⟩) ?_; rw [World.setRow_alloc_new])
  change Code.wp _ _ _ _ (u4.alloc (.cells (Ms.cells ⟨K, v34, v52, v43, 0, 0, false, emp, noEx⟩) 25))
  have HHE : Hid (H0 = ⟨K, v34, v52, v43, 0, 0, false, emp, noEx⟩) := HHD
  have A0 : Hid (At w (u4.alloc (.cells (Ms.cells ⟨K, v34, v52, v43, 0, 0, false, emp, noEx⟩) 25)) w.heap.size u4.heap.size ⟨K, v34, v52, v43, 0, 0, false, emp, noEx⟩) := Lib.hid
    ⟨S4.out.B.alloc S4.out.B.size _, Nat.le_refl _, (Array.getElem?_eq_some_iff.1 R4.out).1, alloc_block R4.out, heap_alloc_new _ _⟩
  have Q0 := Lib.hid (S4.out.later ((Below.refl _ _).alloc (Nat.le_refl _) (.cells (Ms.cells ⟨K, v34, v52, v43, 0, 0, false, emp, noEx⟩) 25)))
  generalize u4.alloc (.cells (Ms.cells ⟨K, v34, v52, v43, 0, 0, false, emp, noEx⟩) 25) = a0 at A0 Q0 ⊢
  rw [HHE.out] at HOF
  clear HHD HHE S4 R4 HI
  obtain ⟨p, hp⟩ : ∃ p, u4.heap.size = p := ⟨_, rfl⟩
  rw [hp] at A0 ⊢
  clear hp
  obtain ⟨y0, -, -⟩ := A0.out.cell 0
  have c0 : a0.cell? ⟨p, 0, none⟩ = some (.int .i64 K) := y0
  clear y0
  by_cases k1 : K = 1
  · have HY : Hid (Y = ⟨K, v34, v52, v43, numV l 108, 0, false, emp, noEx⟩) := Lib.hid (by rw [HOF.out, if_pos k1])
    clear HOF
    go_wp2_with fail
    refine (HN.out 108 _ Q0.out.f Q0.out.L).mono ?_
    rintro e a1 ⟨rfl, hb⟩
    have A1 := Lib.hid (A0.out.later hb)
    have Q1 := Lib.hid (Q0.out.later hb)
    clear hb c0
    generalize numV l 108 = x0 at HY ⊢
    obtain ⟨y0, f0, s0⟩ := A1.out.cell 4
    have z0 : a1.cell? ⟨p, 4, none⟩ = some (.int .i64 0) := y0
    clear y0
    have B1 := Lib.hid (A1.out.put 4 (.int .i64 x0) ⟨K, v34, v52, v43, x0, 0, false, emp, noEx⟩ rfl)
    go_upto_region 14 with fail
    generalize (a1.setCell ⟨p, 4, none⟩ (.int .i64 x0)) = u9 at B1 ⊢
    go_wp2_with (first | (refine wpList_load_mid_g (by rfl) 25 _ rfl p 0 rfl _ _ B1.out.range Tryd.underlying25 rfl (by kernel_rfl) ?_) | (refine wpList_store_row rfl 25 _ _ rfl w.heap.size _ rfl rfl _ _ B1.out.R (by kernel_rfl) (by rfl) (ms_one _) ?_))
    refine bodyPost_ret (one_end rfl w.heap.size _ _ _ _ B1.out.R rfl rfl) rfl ?_
    rw [HY.out]
    exact ⟨rfl, below_setRow B1.out.B (Nat.le_refl _) _⟩
  by_cases k2 : K = 2
  · have HY : Hid (Y = ⟨K, v34, v52, v43, 0, 0, false, getV l 112, noEx⟩) := Lib.hid (by rw [HOF.out, if_neg k1, if_pos (.inl k2)])
    clear HOF
    go_wp2_with fail
    refine (HT.out 112 _ Q0.out.f).mono ?_
    rintro e a1 ⟨rfl, hb⟩
    have A1 := Lib.hid (A0.out.later hb)
    have Q1 := Lib.hid (Q0.out.later hb)
    clear hb c0
    generalize getV l 112 = x0 at HY ⊢
    obtain ⟨y0, f0, s0⟩ := A1.out.cell 7
    have z0 : a1.cell? ⟨p, 7, none⟩ = some (.string ⟨#[]⟩) := y0
    clear y0
    have B1 := Lib.hid (A1.out.put 7 (.string x0) ⟨K, v34, v52, v43, 0, 0, false, x0, noEx⟩ rfl)
    go_upto_region 14 with fail
    generalize (a1.setCell ⟨p, 7, none⟩ (.string x0)) = u9 at B1 ⊢
    go_wp2_with (first | (refine wpList_load_mid_g (by rfl) 25 _ rfl p 0 rfl _ _ B1.out.range Tryd.underlying25 rfl (by kernel_rfl) ?_) | (refine wpList_store_row rfl 25 _ _ rfl w.heap.size _ rfl rfl _ _ B1.out.R (by kernel_rfl) (by rfl) (ms_one _) ?_))
    refine bodyPost_ret (one_end rfl w.heap.size _ _ _ _ B1.out.R rfl rfl) rfl ?_
    rw [HY.out]
    exact ⟨rfl, below_setRow B1.out.B (Nat.le_refl _) _⟩
  by_cases k3 : K = 3
  · have HY : Hid (Y = ⟨K, v34, v52, v43, 0, 0, false, getV l 112, noEx⟩) := Lib.hid (by rw [HOF.out, if_neg k1, if_pos (.inr k3)])
    clear HOF
    go_wp2_with fail
    refine (HT.out 112 _ Q0.out.f).mono ?_
    rintro e a1 ⟨rfl, hb⟩
    have A1 := Lib.hid (A0.out.later hb)
    have Q1 := Lib.hid (Q0.out.later hb)
    clear hb c0
    generalize getV l 112 = x0 at HY ⊢
    obtain ⟨y0, f0, s0⟩ := A1.out.cell 7
    have z0 : a1.cell? ⟨p, 7, none⟩ = some (.string ⟨#[]⟩) := y0
    clear y0
    have B1 := Lib.hid (A1.out.put 7 (.string x0) ⟨K, v34, v52, v43, 0, 0, false, x0, noEx⟩ rfl)
    go_upto_region 14 with fail
    generalize (a1.setCell ⟨p, 7, none⟩ (.string x0)) = u9 at B1 ⊢
    go_wp2_with (first | (refine wpList_load_mid_g (by rfl) 25 _ rfl p 0 rfl _ _ B1.out.range Tryd.underlying25 rfl (by kernel_rfl) ?_) | (refine wpList_store_row rfl 25 _ _ rfl w.heap.size _ rfl rfl _ _ B1.out.R (by kernel_rfl) (by rfl) (ms_one _) ?_))
    refine bodyPost_ret (one_end rfl w.heap.size _ _ _ _ B1.out.R rfl rfl) rfl ?_
    rw [HY.out]
    exact ⟨rfl, below_setRow B1.out.B (Nat.le_refl _) _⟩
  by_cases k4 : K = 4
  · have HY : Hid (Y = ⟨K, v34, v52, v43, numV l 7, numV l 16, false, emp, noEx⟩) := Lib.hid (by rw [HOF.out, if_neg k1, if_neg (by omega : ¬ (K = 2 ∨ K = 3)), if_pos k4])
    clear HOF
    go_wp2_with fail
    refine (HN.out 7 _ Q0.out.f Q0.out.L).mono ?_
    rintro e a1 ⟨rfl, hb⟩
    have A1 := Lib.hid (A0.out.later hb)
    have Q1 := Lib.hid (Q0.out.later hb)
    clear hb c0
    generalize numV l 7 = x0 at HY ⊢
    go_wp2_with fail
    refine (HN.out 16 _ Q1.out.f Q1.out.L).mono ?_
    rintro e a2 ⟨rfl, hb⟩
    have A2 := Lib.hid (A1.out.later hb)
    have Q2 := Lib.hid (Q1.out.later hb)
    clear hb
    generalize numV l 16 = x1 at HY ⊢
    obtain ⟨y0, f0, s0⟩ := A2.out.cell 4
    have z0 : a2.cell? ⟨p, 4, none⟩ = some (.int .i64 0) := y0
    clear y0
    have B1 := Lib.hid (A2.out.put 4 (.int .i64 x0) ⟨K, v34, v52, v43, x0, 0, false, emp, noEx⟩ rfl)
    obtain ⟨y1, f1, s1⟩ := B1.out.cell 5
    have z1 : (a2.setCell ⟨p, 4, none⟩ (.int .i64 x0)).cell? ⟨p, 5, none⟩ = some (.int .i64 0) := y1
    clear y1
    have B2 := Lib.hid (B1.out.put 5 (.int .i64 x1) ⟨K, v34, v52, v43, x0, x1, false, emp, noEx⟩ rfl)
    go_upto_region 14 with fail
    generalize ((a2.setCell ⟨p, 4, none⟩ (.int .i64 x0)).setCell ⟨p, 5, none⟩ (.int .i64 x1)) = u9 at B2 ⊢
    go_wp2_with (first | (refine wpList_load_mid_g (by rfl) 25 _ rfl p 0 rfl _ _ B2.out.range Tryd.underlying25 rfl (by kernel_rfl) ?_) | (refine wpList_store_row rfl 25 _ _ rfl w.heap.size _ rfl rfl _ _ B2.out.R (by kernel_rfl) (by rfl) (ms_one _) ?_))
    refine bodyPost_ret (one_end rfl w.heap.size _ _ _ _ B2.out.R rfl rfl) rfl ?_
    rw [HY.out]
    exact ⟨rfl, below_setRow B2.out.B (Nat.le_refl _) _⟩
  by_cases k5 : K = 5
  · have HY : Hid (Y = ⟨K, v34, v52, v43, numV l 36, 0, decide (getV l 123 = yS), emp, noEx⟩) := Lib.hid (by rw [HOF.out, if_neg k1, if_neg (by omega : ¬ (K = 2 ∨ K = 3)), if_neg k4, if_pos k5])
    clear HOF
    go_wp2_with fail
    refine (HN.out 36 _ Q0.out.f Q0.out.L).mono ?_
    rintro e a1 ⟨rfl, hb⟩
    have A1 := Lib.hid (A0.out.later hb)
    have Q1 := Lib.hid (Q0.out.later hb)
    clear hb c0
    generalize numV l 36 = x0 at HY ⊢
    go_wp2_with fail
    refine (HG.out 123 _ Q1.out.f).mono ?_
    rintro e a2 ⟨rfl, hb⟩
    have A2 := Lib.hid (A1.out.later hb)
    have Q2 := Lib.hid (Q1.out.later hb)
    clear hb
    generalize decide (getV l 123 = yS) = x1 at HY ⊢
    obtain ⟨y0, f0, s0⟩ := A2.out.cell 4
    have z0 : a2.cell? ⟨p, 4, none⟩ = some (.int .i64 0) := y0
    clear y0
    have B1 := Lib.hid (A2.out.put 4 (.int .i64 x0) ⟨K, v34, v52, v43, x0, 0, false, emp, noEx⟩ rfl)
    obtain ⟨y1, f1, s1⟩ := B1.out.cell 6
    have z1 : (a2.setCell ⟨p, 4, none⟩ (.int .i64 x0)).cell? ⟨p, 6, none⟩ = some (.bool false) := y1
    clear y1
    have B2 := Lib.hid (B1.out.put 6 (.bool x1) ⟨K, v34, v52, v43, x0, 0, x1, emp, noEx⟩ rfl)
    go_upto_region 14 with fail
    generalize ((a2.setCell ⟨p, 4, none⟩ (.int .i64 x0)).setCell ⟨p, 6, none⟩ (.bool x1)) = u9 at B2 ⊢
    go_wp2_with (first | (refine wpList_load_mid_g (by rfl) 25 _ rfl p 0 rfl _ _ B2.out.range Tryd.underlying25 rfl (by kernel_rfl) ?_) | (refine wpList_store_row rfl 25 _ _ rfl w.heap.size _ rfl rfl _ _ B2.out.R (by kernel_rfl) (by rfl) (ms_one _) ?_))
    refine bodyPost_ret (one_end rfl w.heap.size _ _ _ _ B2.out.R rfl rfl) rfl ?_
    rw [HY.out]
    exact ⟨rfl, below_setRow B2.out.B (Nat.le_refl _) _⟩
  by_cases k7 : K = 7
  · have HY : Hid (Y = ⟨K, v34, v52, v43, 0, 0, false, emp, ofEx l⟩) := Lib.hid (by rw [HOF.out, if_neg k1, if_neg (by omega : ¬ (K = 2 ∨ K = 3)), if_neg k4, if_neg k5, if_pos k7])
    clear HOF
    go_wp2_with fail
    refine (HXX.out _ Q0.out.f Q0.out.L).mono ?_
    rintro e a1 ⟨rfl, hb⟩
    have A1 := Lib.hid (A0.out.later hb)
    have Q1 := Lib.hid (Q0.out.later hb)
    clear hb c0
    generalize ofEx l = x0 at HY ⊢
    have HTH := Lib.hid A1.out.there
    have B1 := Lib.hid (A1.out.putExec x0)
    go_upto_region 14 with (refine wpList_store_mid rfl 23 _ _ rfl p 8 _ rfl rfl HTH.out (by kernel_rfl) (ex_one x0) ?_)
    generalize a1.setCells p 8 x0.cells.toList = u9 at B1 ⊢
    go_wp2_with (first | (refine wpList_load_mid_g (by rfl) 25 _ rfl p 0 rfl _ _ B1.out.range Tryd.underlying25 rfl (by kernel_rfl) ?_) | (refine wpList_store_row rfl 25 _ _ rfl w.heap.size _ rfl rfl _ _ B1.out.R (by kernel_rfl) (by rfl) (ms_one _) ?_))
    refine bodyPost_ret (one_end rfl w.heap.size _ _ _ _ B1.out.R rfl rfl) rfl ?_
    rw [HY.out]
    exact ⟨rfl, below_setRow B1.out.B (Nat.le_refl _) _⟩
  · have HY : Hid (Y = ⟨K, v34, v52, v43, 0, 0, false, emp, noEx⟩) := Lib.hid (by rw [HOF.out, if_neg k1, if_neg (by omega : ¬ (K = 2 ∨ K = 3)), if_neg k4, if_neg k5, if_neg k7])
    clear HOF
    go_upto_region 14 with fail
    go_wp2_with (first | (refine wpList_load_mid_g (by rfl) 25 _ rfl p 0 rfl _ _ A0.out.range Tryd.underlying25 rfl (by kernel_rfl) ?_) | (refine wpList_store_row rfl 25 _ _ rfl w.heap.size _ rfl rfl _ _ A0.out.R (by kernel_rfl) (by rfl) (ms_one _) ?_))
    refine bodyPost_ret (one_end rfl w.heap.size _ _ _ _ A0.out.R rfl rfl) rfl ?_
    rw [HY.out]
    exact ⟨rfl, below_setRow A0.out.B (Nat.le_refl _) _⟩

end Msg
end Go.Proofs.YtddblaiahgjbaaaDoor

namespace Go.Proofs.YtddblaiahgjbaaaDoor
open Go.RowKit
namespace Msg
open Num
open Fld (F)

theorem name_any (s : ByteArray) (hs : Str s) (w : World) (_hl : Laid w) : Calls Tryd.prog 57 #[.string s] w fun e w' => e = .returned (.bool (nameB s)) ∧ Below w.heap.size w w' :=
  (pname_any s w hs).mono fun _ _ h => ⟨h.1, by rw [h.2]; exact Below.refl _ _⟩
theorem bytes_nat (b : List UInt8) : Lib.bytesOf (b.map fun c => (c.toNat : Int)) = b := bytesOf_nat b
theorem BytesAt_in {w : World} {a : Option Addr} {cap : Nat} {l : List UInt8} (h : BytesAt w a cap l) : Lib.BytesIn w a l.length (l.map fun c => (c.toNat : Int)) := by
  rcases h with ⟨rfl, rfl, _⟩ | ⟨x, rfl, _, h⟩
  · exact Lib.BytesIn.nil _ _ _
  · refine Lib.BytesIn.of_cells fun i hi => ?_
    rw [h i hi]
    simp [List.getD, hi]
theorem eq_by (a1 a2 : Option Addr) (c1 c2 : Nat) (l k : List UInt8) (n m : Nat) (hn : l.length = n) (hm : k.length = m) (w : World) (h1 : BytesAt w a1 c1 l) (h2 : BytesAt w a2 c2 k) :
    Calls Tryd.prog 15 #[.slice a1 n c1, .slice a2 m c2] w fun e w' => e = .returned (.bool (l == k)) ∧ w' = w := by
  subst hn hm
  have h := Tryd.bytes_Equal_all a1 a2 l.length c1 k.length c2 _ _ w (by simp) (by simp) (BytesAt_in h1) (BytesAt_in h2)
  rw [bytes_nat, bytes_nat] at h
  exact h
theorem put_c (c : Array Value) (m : Ms) (hc : c = m.cells) (hm : m.Fits) (w : World) (hl : Laid w) (y : List UInt8) (n : Int) (hp : putM m = (y, n)) : Calls Tryd.prog 7 #[.agg c] w (GotBytes w y n) := by
  subst hc
  have h := put_any m hm w hl
  rw [hp] at h
  exact h

set_option maxRecDepth 100000 in
set_option maxHeartbeats 4000000 in
theorem read_any (a : Option Addr) (cap : Nat) (b : List UInt8) (w : World) (hby : BytesAt w a cap b) (hlen : b.length ≤ 1000000) (hl : Laid w) :
    Calls Tryd.prog 8 #[.slice a b.length cap] w (GotM w (readB b)) := by
  have HY : Hid (BytesAt (w.alloc (.cells noMs.cells 25)) a cap b) := Lib.hid (hby.later ((Below.refl _ _).alloc (Nat.le_refl _) _))
  have HB0 : Hid (Below w.heap.size w (w.alloc (.cells noMs.cells 25))) := Lib.hid ((Below.refl _ _).alloc (Nat.le_refl _) _)
  have HR0 : Hid ((w.alloc (.cells noMs.cells 25)).heap[w.heap.size]? = some (.cells noMs.cells 25 (0, 0))) := Lib.hid (heap_alloc_new _ _)
  have HL := Lib.hid hl
  obtain ⟨l, n, hln⟩ : ∃ l n, Fld.parseL b = (l, n) := ⟨_, _, rfl⟩
  have HLN := Lib.hid hln
  have HC := Lib.hid (fun w h hl => Fld.parse_any a cap b w h (by omega) hl)
  rw [hln] at HC
  have HBL := Lib.hid hlen
  obtain ⟨q, hq⟩ : ∃ q, b.length = q := ⟨_, rfl⟩
  have HQ := Lib.hid hq
  rw [hq] at HC ⊢
  clear hby hl hln hlen hq
  go_enter Tryd.func8, Tryd.ntmps8
  go_upto_region 1 with fail
  change Code.wp _ _ _ _ (w.alloc (.cells noMs.cells 25))
  generalize w.alloc (.cells noMs.cells 25) = w0 at HY HB0 HR0 ⊢
  go_wp2_with fail
  refine (HC.out _ HY.out (HL.out.below HB0.out)).mono ?_
  rintro e w1 ⟨⟨a1, c1, rfl, hr⟩, hb1⟩
  have HB1 := Lib.hid (HB0.out.trans (hb1.mono HB0.out.size))
  have HR1 := Lib.hid (below_block HR0.out hb1)
  have HY1 := Lib.hid (HY.out.later hb1)
  have HF1 := Lib.hid (RowAt.flds hr)
  clear hr hb1 HR0
  by_cases hn0 : n = 0
  rotate_left
  · have HRB : Hid (readB b = (noMs, n)) := Lib.hid (by unfold readB; rw [HLN.out, if_pos hn0])
    have dn : (n != 0) = true := by rw [bne_iff_ne]; exact hn0
    clear hn0
    go_wp2_with (refine wpList_store_row rfl 25 _ _ rfl w.heap.size _ rfl rfl _ _ HR1.out (by kernel_rfl) (by rfl) (by simp [Value.oneCell']) ?_)
    refine bodyPost_ret (read_end rfl w.heap.size w1 _ _ _ _ HR1.out rfl rfl rfl) rfl ?_
    rw [HRB.out]
    exact ⟨rfl, below_setRow HB1.out (Nat.le_refl _) _⟩
  · subst hn0
    have hall := (Fld.putE_ok (Fld.parse_back HLN.out).1)
    have hfit : Fld.Fits l := fun f hf => by
      have := (Fld.right_iff f).1 (List.all_eq_true.1 hall.2 f hf)
      omega
    have HRF := Lib.hid (read_found HLN.out (kindI (Fld.getV l 35)) (fun k h1 h7 h => kindI_is k h1 h7 h))
    have hki := kindI_fits (Fld.getV l 35)
    have HMC := Lib.hid (fun w h hl => messageOf_any a1 c1 l w h hfit (by omega) hl)
    have HMF : Hid (ofL (kindI (Fld.getV l 35)) l).Fits := Lib.hid (ofL_fits hfit (by unfold I64; omega))
    generalize ofL (kindI (Fld.getV l 35)) l = M at HRF HMC HMF
    clear hall hfit hki
    go_wp2_with fail
    refine (HMC.out _ HF1.out (HL.out.below HB1.out)).mono ?_
    rintro e w2 ⟨rfl, hb2⟩
    have HB2 := Lib.hid (HB1.out.trans (hb2.mono HB1.out.size))
    have HR2 := Lib.hid (below_block HR1.out hb2)
    have HY2 := Lib.hid (HY1.out.later hb2)
    clear hb2 HR1 HF1
    have hsz : w.heap.size < w2.heap.size := (Array.getElem?_eq_some_iff.1 HR2.out).1
    have HSZ := Lib.hid hsz
    clear hsz
    go_upto_region 5 with (refine wpList_store_row rfl 25 _ _ rfl w2.heap.size _ rfl rfl _ _ (heap_alloc_last _ _) (by kernel_rfl) (by rfl) (ms_one M) ?_; rw [World.setRow_alloc_new])
    have HX3 : Hid ((w2.alloc (.cells M.cells 25)).heap[w2.heap.size]? = some (.cells M.cells 25 (0, 0))) := Lib.hid (heap_alloc_new _ _)
    have HR3 : Hid ((w2.alloc (.cells M.cells 25)).heap[w.heap.size]? = some (.cells noMs.cells 25 (0, 0))) := Lib.hid (alloc_block HR2.out)
    have HB3 : Hid (Below w.heap.size w (w2.alloc (.cells M.cells 25))) := Lib.hid (HB2.out.alloc HB2.out.size _)
    have HY3 : Hid (BytesAt (w2.alloc (.cells M.cells 25)) a cap b) := Lib.hid (HY2.out.later ((Below.refl _ _).alloc (Nat.le_refl _) _))
    generalize w2.alloc (.cells M.cells 25) = w3 at HX3 HR3 HB3 HY3 ⊢
    have HG3 := Lib.hid (block_range HX3.out)
    obtain ⟨y, n2, hp⟩ : ∃ y n2, putM M = (y, n2) := ⟨_, _, rfl⟩
    have HP := Lib.hid hp
    have HPC := Lib.hid (fun w hl => put_c M.cells M rfl HMF.out w hl y n2 hp)
    clear hp
    go_wp2_with (refine wpList_load_mid_g (by rfl) 25 _ rfl w2.heap.size 0 rfl _ _ HG3.out Tryd.underlying25 rfl (by kernel_rfl) ?_)
    refine (HPC.out _ (HL.out.below HB3.out)).mono ?_
    rintro e w4 ⟨⟨a4, c4, rfl, hy4⟩, hb4⟩
    have HB4 := Lib.hid (HB3.out.trans (hb4.mono HB3.out.size))
    have HR4 := Lib.hid (below_block HR3.out hb4)
    have HX4 := Lib.hid (below_block HX3.out hb4)
    have HG4 := Lib.hid (block_range HX4.out)
    have HY4 := Lib.hid (HY3.out.later hb4)
    have HZ4 := Lib.hid hy4
    clear hy4 hb4 HX3 HR3 HG3
    by_cases hn2 : n2 = 0
    rotate_left
    · have HRB : Hid (readB b = (noMs, 3)) := Lib.hid (by
        rw [HRF.out, if_neg]
        rintro ⟨h, _⟩
        have := HP.out
        unfold putM at this
        rw [if_pos h] at this
        exact hn2 (Prod.mk.inj this).2.symm)
      have dn : (n2 != 0) = true := by rw [bne_iff_ne]; exact hn2
      clear hn2
      go_wp2_with (refine wpList_store_row rfl 25 _ _ rfl w.heap.size _ rfl rfl _ _ HR4.out (by kernel_rfl) (by rfl) (by simp [Value.oneCell']) ?_)
      refine bodyPost_ret (read_end rfl w.heap.size w4 _ _ _ _ HR4.out rfl rfl rfl) rfl ?_
      rw [HRB.out]
      exact ⟨rfl, below_setRow HB4.out (Nat.le_refl _) _⟩
    · subst hn2
      have HPR : Hid (rightM M = true ∧ Fld.putB (fieldsM M) = y) := Lib.hid (by
        have := HP.out
        unfold putM at this
        by_cases h : rightM M = true
        · rw [if_pos h] at this
          exact ⟨h, (Prod.mk.inj this).1⟩
        · rw [if_neg h] at this
          exact absurd (Prod.mk.inj this).2 (by decide))
      have HEQ := Lib.hid (fun w h1 h2 => eq_by a4 a c4 cap y b y.length q rfl HQ.out w h1 h2)
      obtain ⟨yl, hyl⟩ : ∃ k, y.length = k := ⟨_, rfl⟩
      rw [hyl] at HEQ ⊢
      clear hyl
      have HRB : Hid (readB b = if (y == b) = true then (M, 0) else (noMs, 3)) := Lib.hid (by
        rw [HRF.out]
        by_cases h : y = b
        · rw [if_pos ⟨HPR.out.1, by rw [HPR.out.2]; exact h⟩, if_pos (beq_iff_eq.2 h)]
        · rw [if_neg (fun g => h (by rw [← HPR.out.2]; exact g.2)), if_neg (fun g => h (beq_iff_eq.1 g))])
      generalize (y == b) = t at HEQ HRB
      go_wp2_with fail
      refine (HEQ.out _ HZ4.out HY4.out).mono ?_
      rintro e w' ⟨rfl, rfl⟩
      cases t
      · go_wp2_with (refine wpList_store_row rfl 25 _ _ rfl w.heap.size _ rfl rfl _ _ HR4.out (by kernel_rfl) (by rfl) (by simp [Value.oneCell']) ?_)
        refine bodyPost_ret (read_end rfl w.heap.size _ _ _ _ _ HR4.out rfl rfl rfl) rfl ?_
        rw [HRB.out]
        exact ⟨rfl, below_setRow HB4.out (Nat.le_refl _) _⟩
      · go_wp2_with (first | (refine wpList_store_row rfl 25 _ _ rfl w.heap.size _ rfl rfl _ _ HR4.out (by kernel_rfl) (by rfl) (ms_one M) ?_) | (refine wpList_load_mid_g (by rfl) 25 _ rfl w2.heap.size 0 rfl _ _ HG4.out Tryd.underlying25 rfl (by kernel_rfl) ?_))
        refine bodyPost_ret (read_end rfl w.heap.size _ _ _ _ _ HR4.out rfl rfl rfl) rfl ?_
        rw [HRB.out]
        exact ⟨rfl, below_setRow HB4.out (Nat.le_refl _) _⟩

end Msg
end Go.Proofs.YtddblaiahgjbaaaDoor
