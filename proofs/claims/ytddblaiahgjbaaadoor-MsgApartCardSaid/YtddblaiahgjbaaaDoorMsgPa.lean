/-
  The program's small tests of layer 5: a letter, a name, a small number, a time, a text, an execution, what a kind names.
-/
import Derived.Test.YtddblaiahgjbaaaDoorMsgU
import Derived.Test.YtddblaiahgjbaaaDoorPlMsgP
import Derived.Test.YtddblaiahgjbaaaDoorLaid
import Derived.Test.YtddblaiahgjbaaaDoorPlIx
import Derived.Deep.CutBlock
import Derived.Deep.DeepCutAuto
import Derived.Deep.Cut
namespace Go.Proofs.YtddblaiahgjbaaaDoor
open Go.RowKit
namespace Msg
open Num

theorem nameC_n (c : UInt8) : nameC c = ((decide (65 ≤ (c.toNat : Int)) && decide ((c.toNat : Int) ≤ 90)) || (decide (97 ≤ (c.toNat : Int)) && decide ((c.toNat : Int) ≤ 122)) || (decide (48 ≤ (c.toNat : Int)) && decide ((c.toNat : Int) ≤ 57))) := by
  apply Bool.eq_iff_iff.2
  rw [nameC_t]
  simp only [Bool.or_eq_true, Bool.and_eq_true, decide_eq_true_eq]
theorem letter_any (c : UInt8) (w : World) : Calls Tryd.prog 68 #[.int .u8 (c.toNat : Int)] w fun e w' => e = .returned (.bool (nameC c)) ∧ w' = w := by
  have HC := Lib.hid (nameC_n c)
  generalize (c.toNat : Int) = n at HC ⊢
  generalize nameC c = o at HC ⊢
  go_enter Tryd.func68, Tryd.ntmps68
  go_wp2_with fail
  all_goals
    go_ret
    refine ⟨ret_b ?_, rfl⟩
    rw [HC.out]
    clear HC
    grind
set_option maxHeartbeats 1000000 in
theorem pname_any (s : ByteArray) (w : World) (hs : s.size ≤ 9223372036854775807) :
    Calls Tryd.prog 57 #[.string s] w fun e w' => e = .returned (.bool (nameB s)) ∧ w' = w := by
  by_cases hz : 1 ≤ s.size
  rotate_left
  · have HE : Hid (nameB s = false) := Lib.hid (by unfold nameB; rw [decide_eq_false (by omega : ¬ 0 < s.size)]; simp)
    obtain ⟨n, hn⟩ : ∃ n, s.size = n := ⟨_, rfl⟩
    have d : decide ((n : Int) < 1) = true := by simp; omega
    go_enter Tryd.func57, Tryd.ntmps57
    rw [HE.out]
    go_wp2_with fail
    all_goals first | (go_ret; exact ⟨rfl, rfl⟩) | (exfalso; omega)
  by_cases ht : s.size ≤ 16
  rotate_left
  · have HE : Hid (nameB s = false) := Lib.hid (by unfold nameB; rw [decide_eq_false ht]; simp)
    go_enter Tryd.func57, Tryd.ntmps57
    rw [HE.out]
    go_wp2_with fail
    all_goals first | (go_ret; exact ⟨rfl, rfl⟩) | (exfalso; omega)
  go_enter Tryd.func57, Tryd.ntmps57
  go_wp2_with fail
  go_loop [14] (fun i_ => ∃ k : Nat, i_ = .int .i64 k ∧ NameTo s k) (fun i_ => s.size - (intOf i_).toNat)
  case atStart => exact ⟨0, rfl, Nat.zero_le _, by simp⟩
  case round =>
    obtain ⟨k, rfl, hn⟩ := hrel
    have hk := hn.1
    have HN := Lib.hid hn
    clear hn
    by_cases hlt : k < s.size
    · have HSTEP : Hid (nameC s[k] = true → NameTo s (k + 1)) := Lib.hid fun h => name_step HN.out hlt h
      have HBAD : Hid (nameC s[k] = false → nameB s = false) := Lib.hid fun h => name_bad hlt h
      obtain ⟨c, hc⟩ : ∃ c, s[k] = c := ⟨_, rfl⟩
      rw [hc] at HSTEP HBAD
      obtain ⟨o, ho⟩ : ∃ o, nameC c = o := ⟨_, rfl⟩
      have HL := Lib.hid fun w => letter_any c w
      rw [ho] at HSTEP HBAD HL
      clear ho
      go_wp2_with fail
      refine (HL.out _).mono ?_
      rintro e w' ⟨rfl, rfl⟩
      cases o
      · go_wp2_with fail
        go_ret
        exact ⟨ret_b (HBAD.out (by trivial)).symm, rfl⟩
      · go_wp2_with fail
        go_round
        case rel => exact ⟨k + 1, by go_num, HSTEP.out (by trivial)⟩
        case measure => simp [intOf]; omega
    · obtain rfl : k = s.size := by omega
      have HE : Hid (nameB s = true) := Lib.hid (by rw [name_end HN.out, decide_eq_true (by omega : 0 < s.size), decide_eq_true ht]; rfl)
      go_wp2_with fail
      go_ret
      exact ⟨ret_b HE.out.symm, rfl⟩

theorem small_any (n : Int) (w : World) : Calls Tryd.prog 40 #[.int .i64 n] w fun e w' => e = .returned (.bool (smallB n)) ∧ w' = w := by
  go_enter Tryd.func40, Tryd.ntmps40
  go_wp2_with fail
  all_goals
    go_ret
    refine ⟨ret_b ?_, rfl⟩
    unfold smallB
    grind
theorem one_any (n : Int) (w : World) : Calls Tryd.prog 19 #[.int .i64 n] w fun e w' => e = .returned (.bool (fromB n)) ∧ w' = w := by
  have HC := Lib.hid fun w => small_any n w
  have HO : Hid (fromB n = ((n != 0) && smallB n)) := Lib.hid (by unfold fromB; congr 1; by_cases h : n = 0 <;> simp [h])
  generalize fromB n = o at HO ⊢
  generalize smallB n = q at HC HO
  go_enter Tryd.func19, Tryd.ntmps19
  cases d : (n != 0)
  · rw [d] at HO
    go_wp2_with fail
    go_ret
    exact ⟨ret_b (by rw [HO.out]; rfl), rfl⟩
  · rw [d] at HO
    go_wp2_with fail
    refine (HC.out _).mono ?_
    rintro e w' ⟨rfl, rfl⟩
    go_wp2_with fail
    go_ret
    exact ⟨ret_b (by rw [HO.out]; rfl), rfl⟩
theorem time_any (n : Int) (w : World) : Calls Tryd.prog 20 #[.int .i64 n] w fun e w' => e = .returned (.bool (timeB n)) ∧ w' = w := by
  go_enter Tryd.func20, Tryd.ntmps20
  go_wp2_with fail
  all_goals
    go_ret
    refine ⟨ret_b ?_, rfl⟩
    unfold timeB
    grind
theorem text_index (s : ByteArray) : textB s = (decide (s.size ≤ 64) && !decide (0 ≤ Lib.indexByte s.data.toList 1)) := by
  have hi := indexByte_eq s.data.toList 1
  have hm := ahead_lt 1 s.data.toList
  rw [hi]
  unfold textB
  rw [Bool.and_comm]
  congr 1
  by_cases h : (1 : UInt8) ∈ s.data.toList
  · rw [if_pos (hm.2 h), decide_eq_true (Int.natCast_nonneg _)]
    show _ = false
    rw [List.all_eq_false]
    exact ⟨1, h, by decide⟩
  · rw [if_neg (fun e => h (hm.1 e))]
    show _ = true
    rw [List.all_eq_true]
    intro x hx
    rw [bne_iff_ne]
    rintro rfl
    exact h hx
theorem text_any (s : ByteArray) (w : World) (hs : s.size ≤ 9223372036854775807) : Calls Tryd.prog 41 #[.string s] w fun e w' => e = .returned (.bool (textB s)) ∧ w' = w := by
  have HC := Lib.hid fun w => Tryd.strings_Contains_one s 1 w
  have HO := Lib.hid (text_index s)
  generalize textB s = o at HO ⊢
  generalize decide (0 ≤ Lib.indexByte s.data.toList 1) = q at HC HO
  by_cases d : s.size ≤ 64
  · rw [decide_eq_true d] at HO
    go_enter Tryd.func41, Tryd.ntmps41
    go_wp2_with fail
    refine (HC.out _).mono ?_
    rintro e w' ⟨rfl, rfl⟩
    go_wp2_with fail
    go_ret
    exact ⟨ret_b (by rw [HO.out]; simp), rfl⟩
  · rw [decide_eq_false d] at HO
    go_enter Tryd.func41, Tryd.ntmps41
    go_wp2_with fail
    go_ret
    exact ⟨ret_b (by rw [HO.out]; rfl), rfl⟩

/-- is the reference to another execution there just if its kind asks for it -/
def refB (x : Ex) : Bool := if refK x.kind = true then nameB x.ref else decide (x.ref = emp)
set_option maxHeartbeats 1000000 in
theorem ref_any (x : Ex) (hx : x.Fits) (w : World) : Calls Tryd.prog 58 #[.agg x.cells] w fun e w' => e = .returned (.bool (refB x)) ∧ Below w.heap.size w w' := by
  have HC := Lib.hid fun w => pname_any x.ref w hx.ref
  have HB : Hid (Below w.heap.size w (w.alloc (.cells x.cells 23))) := Lib.hid ((Below.refl _ _).alloc (Nat.le_refl _) _)
  have HO : Hid (refB x = if refK x.kind = true then nameB x.ref else decide (x.ref = emp)) := Lib.hid rfl
  generalize refB x = o at HO ⊢
  generalize nameB x.ref = q at HC HO
  unfold Ex.cells at HB ⊢
  by_cases d : x.kind = 4 ∨ x.kind = 7 ∨ x.kind = 8
  · have HE : Hid (o = q) := Lib.hid (by rw [HO.out, if_pos (by unfold refK; rcases d with d | d | d <;> rw [d] <;> rfl)])
    clear HO
    go_enter Tryd.func58, Tryd.ntmps58
    rcases d with d | d | d
    all_goals
      go_wp2_with fail
      refine (HC.out _).mono ?_
      rintro e w' ⟨rfl, rfl⟩
      go_wp2_with fail
      go_ret
      exact ⟨ret_b HE.out.symm, (Below.refl _ _).alloc (Nat.le_refl _) _⟩
  · have HE : Hid (o = decide (x.ref = emp)) := Lib.hid (by
      rw [HO.out, if_neg]
      unfold refK
      simp only [Bool.or_eq_true, beq_iff_eq]
      omega)
    have d4 : ¬ x.kind = 4 := fun e => d (.inl e)
    have d7 : ¬ x.kind = 7 := fun e => d (.inr (.inl e))
    have d8 : ¬ x.kind = 8 := fun e => d (.inr (.inr e))
    clear HO d
    go_enter Tryd.func58, Tryd.ntmps58
    go_wp2_with fail
    go_ret
    exact ⟨ret_b (by rw [HE.out, ← empty_is]), HB.out⟩

theorem exec_p (x : Ex) : execB x = (nameB x.id && nameB x.order && nameB x.account && nameB x.symbol && decide (1 ≤ x.kind) && decide (x.kind ≤ 8) && refB x && smallB x.qty && smallB x.price && timeB x.time) := by
  unfold execB refB
  apply Bool.eq_iff_iff.2
  simp only [Bool.and_eq_true]
  constructor
  · rintro ⟨⟨⟨⟨⟨⟨⟨⟨⟨h1, h2⟩, h3⟩, h4⟩, h5⟩, h6⟩, h7⟩, h8⟩, h9⟩, h10⟩
    exact ⟨⟨⟨⟨⟨⟨⟨⟨⟨h3, h4⟩, h5⟩, h6⟩, h1⟩, h2⟩, h7⟩, h8⟩, h9⟩, h10⟩
  · rintro ⟨⟨⟨⟨⟨⟨⟨⟨⟨h3, h4⟩, h5⟩, h6⟩, h1⟩, h2⟩, h7⟩, h8⟩, h9⟩, h10⟩
    exact ⟨⟨⟨⟨⟨⟨⟨⟨⟨h1, h2⟩, h3⟩, h4⟩, h5⟩, h6⟩, h7⟩, h8⟩, h9⟩, h10⟩
set_option maxRecDepth 100000 in
set_option maxHeartbeats 4000000 in
theorem exec_any (x : Ex) (hx : x.Fits) (w : World) (_hl : Laid w) : Calls Tryd.prog 42 #[.agg x.cells] w fun e w' => e = .returned (.bool (execB x)) ∧ Below w.heap.size w w' := by
  have HF := Lib.hid hx
  have hk := hx.kind
  unfold I64 at hk
  clear hx
  have HE := Lib.hid (exec_p x)
  have HRF := Lib.hid (fun w => ref_any x HF.out w)
  have HB0 : Hid (Below w.heap.size w (w.alloc (.cells x.cells 23))) := Lib.hid ((Below.refl _ _).alloc (Nat.le_refl _) _)
  have HBK : Hid ((w.alloc (.cells x.cells 23)).heap[w.heap.size]? = some (.cells x.cells 23 (0, 0))) := Lib.hid (heap_alloc_new _ _)
  generalize execB x = o at HE ⊢
  generalize refB x = r at HE HRF
  go_enter Tryd.func42, Tryd.ntmps42
  go_upto_region 1 with fail
  generalize w.alloc (.cells x.cells 23) = w0 at HB0 HBK ⊢
  have HRG := Lib.hid (block_range HBK.out)
  have c0 : w0.cell? ⟨w.heap.size, 0, none⟩ = some (.string x.id) := cell_at HBK.out rfl
  have c2 : w0.cell? ⟨w.heap.size, 2, none⟩ = some (.string x.order) := cell_at HBK.out rfl
  have c3 : w0.cell? ⟨w.heap.size, 3, none⟩ = some (.string x.account) := cell_at HBK.out rfl
  have c4 : w0.cell? ⟨w.heap.size, 4, none⟩ = some (.string x.symbol) := cell_at HBK.out rfl
  have c5 : w0.cell? ⟨w.heap.size, 5, none⟩ = some (.int .i64 x.kind) := cell_at HBK.out rfl
  obtain ⟨n1, hn1⟩ : ∃ n, nameB x.id = n := ⟨_, rfl⟩
  obtain ⟨n2, hn2⟩ : ∃ n, nameB x.order = n := ⟨_, rfl⟩
  obtain ⟨n3, hn3⟩ : ∃ n, nameB x.account = n := ⟨_, rfl⟩
  obtain ⟨n4, hn4⟩ : ∃ n, nameB x.symbol = n := ⟨_, rfl⟩
  have HN1 := Lib.hid (fun w => hn1 ▸ pname_any x.id w HF.out.id)
  have HN2 := Lib.hid (fun w => hn2 ▸ pname_any x.order w HF.out.order)
  have HN3 := Lib.hid (fun w => hn3 ▸ pname_any x.account w HF.out.account)
  have HN4 := Lib.hid (fun w => hn4 ▸ pname_any x.symbol w HF.out.symbol)
  rw [hn1, hn2, hn3, hn4] at HE
  clear hn1 hn2 hn3 hn4
  cases n1
  · go_wp2_with fail
    refine (HN1.out _).mono ?_
    rintro e w' ⟨rfl, rfl⟩
    go_wp2_with fail
    go_ret
    exact ⟨ret_b (by rw [HE.out]; rfl), HB0.out⟩
  cases n2
  · go_wp2_with fail
    refine (HN1.out _).mono ?_
    rintro e w' ⟨rfl, rfl⟩
    go_wp2_with fail
    refine (HN2.out _).mono ?_
    rintro e w' ⟨rfl, rfl⟩
    go_wp2_with fail
    go_ret
    exact ⟨ret_b (by rw [HE.out]; rfl), HB0.out⟩
  cases n3
  · go_wp2_with fail
    refine (HN1.out _).mono ?_
    rintro e w' ⟨rfl, rfl⟩
    go_wp2_with fail
    refine (HN2.out _).mono ?_
    rintro e w' ⟨rfl, rfl⟩
    go_wp2_with fail
    refine (HN3.out _).mono ?_
    rintro e w' ⟨rfl, rfl⟩
    go_wp2_with fail
    go_ret
    exact ⟨ret_b (by rw [HE.out]; rfl), HB0.out⟩
  cases n4
  · go_wp2_with fail
    refine (HN1.out _).mono ?_
    rintro e w' ⟨rfl, rfl⟩
    go_wp2_with fail
    refine (HN2.out _).mono ?_
    rintro e w' ⟨rfl, rfl⟩
    go_wp2_with fail
    refine (HN3.out _).mono ?_
    rintro e w' ⟨rfl, rfl⟩
    go_wp2_with fail
    refine (HN4.out _).mono ?_
    rintro e w' ⟨rfl, rfl⟩
    go_wp2_with fail
    go_ret
    exact ⟨ret_b (by rw [HE.out]; rfl), HB0.out⟩
  go_wp2_with fail
  refine (HN1.out _).mono ?_
  rintro e w' ⟨rfl, rfl⟩
  go_wp2_with fail
  refine (HN2.out _).mono ?_
  rintro e w' ⟨rfl, rfl⟩
  go_wp2_with fail
  refine (HN3.out _).mono ?_
  rintro e w' ⟨rfl, rfl⟩
  go_wp2_with fail
  refine (HN4.out _).mono ?_
  rintro e w' ⟨rfl, rfl⟩
  by_cases k1 : 1 ≤ x.kind
  rotate_left
  · go_wp2_with fail
    go_ret
    exact ⟨ret_b (by rw [HE.out, decide_eq_false (by omega : ¬ 1 ≤ x.kind)]; rfl), HB0.out⟩
  by_cases k8 : x.kind ≤ 8
  rotate_left
  · go_wp2_with fail
    go_ret
    exact ⟨ret_b (by rw [HE.out, decide_eq_true k1, decide_eq_false (by omega : ¬ x.kind ≤ 8)]; rfl), HB0.out⟩
  go_wp2_with (refine wpList_load_mid_g (by rfl) 23 _ rfl w.heap.size 0 rfl _ _ HRG.out Tryd.underlying23 rfl (by kernel_rfl) ?_)
  refine (HRF.out _).mono ?_
  rintro e w1 ⟨rfl, hb1⟩
  have HB1 := Lib.hid (HB0.out.trans (hb1.mono HB0.out.size))
  have HBK1 := Lib.hid (below_block HBK.out hb1)
  clear hb1 c0 c2 c3 c4 c5
  have c7 : w1.cell? ⟨w.heap.size, 7, none⟩ = some (.int .i64 x.qty) := cell_at HBK1.out rfl
  have c8 : w1.cell? ⟨w.heap.size, 8, none⟩ = some (.int .i64 x.price) := cell_at HBK1.out rfl
  have c9 : w1.cell? ⟨w.heap.size, 9, none⟩ = some (.int .i64 x.time) := cell_at HBK1.out rfl
  have HE2 : Hid (o = (r && smallB x.qty && smallB x.price && timeB x.time)) := Lib.hid (by rw [HE.out, decide_eq_true k1, decide_eq_true k8]; rfl)
  clear HE
  generalize hq : smallB x.qty = q at HE2
  generalize hp : smallB x.price = p at HE2
  generalize ht : timeB x.time = t at HE2
  have HC1 := Lib.hid (fun w => hq ▸ small_any x.qty w)
  have HC2 := Lib.hid (fun w => hp ▸ small_any x.price w)
  have HC3 := Lib.hid (fun w => ht ▸ time_any x.time w)
  clear hq hp ht
  cases r
  · go_wp2_with fail
    go_ret
    exact ⟨ret_b (by rw [HE2.out]; rfl), HB1.out⟩
  go_wp2_with fail
  refine (HC1.out _).mono ?_
  rintro e w' ⟨rfl, rfl⟩
  cases q
  · go_wp2_with fail
    go_ret
    exact ⟨ret_b (by rw [HE2.out]; rfl), HB1.out⟩
  go_wp2_with fail
  refine (HC2.out _).mono ?_
  rintro e w' ⟨rfl, rfl⟩
  cases p
  · go_wp2_with fail
    go_ret
    exact ⟨ret_b (by rw [HE2.out]; rfl), HB1.out⟩
  go_wp2_with fail
  refine (HC3.out _).mono ?_
  rintro e w' ⟨rfl, rfl⟩
  go_wp2_with fail
  go_ret
  exact ⟨ret_b (by rw [HE2.out]; rfl), HB1.out⟩

end Msg
end Go.Proofs.YtddblaiahgjbaaaDoor
