/-
  The contracts of the reference's Get, Short and Same (layer 2).
-/
import Derived.Test.YtamhimmggoifgaaDoorFldA
import Derived.Test.YtamhimmggoifgaaDoorRow
import Derived.Test.YtamhimmggoifgaaDoorFldEq
import Derived.Test.YtamhimmggoifgaaDoorFldN
import Derived.Deep.QuietTactic
import Derived.BigQuiet
import Derived.WalkSmall
namespace Go.Proofs.YtamhimmggoifgaaDoor
open Go.RowKit
namespace Fld

/-- fields that aren't too much for a look -/
def shortB (l : List F) : Bool := decide (l.length ≤ 110) && l.all fun f => decide (f.val.size ≤ 300)

theorem get_none {l : List F} {tag : Int} {k : Nat} (hk : l.length ≤ k) (h : ∀ f ∈ l.take k, f.tag ≠ tag) : getV l tag = ⟨#[]⟩ ∧ getO l tag = false := by
  rw [List.take_of_length_le hk] at h
  have e : l.find? (fun f => f.tag == tag) = none := by
    rw [List.find?_eq_none]
    intro f hf
    simpa using h f hf
  unfold getV getO getF
  rw [e]
  exact ⟨rfl, rfl⟩
theorem get_some {l : List F} {tag : Int} {k : Nat} {f : F} (hf : l[k]? = some f) (h : ∀ f ∈ l.take k, f.tag ≠ tag) (ht : f.tag = tag) : getV l tag = f.val ∧ getO l tag = true := by
  have hk : k < l.length := by
    rcases Nat.lt_or_ge k l.length with h | h
    · exact h
    · rw [List.getElem?_eq_none h] at hf; cases hf
  rw [List.getElem?_eq_getElem hk] at hf
  have e : l.find? (fun f => f.tag == tag) = some f := by
    have e1 : l = l.take k ++ f :: l.drop (k + 1) := by
      rw [← Option.some.inj hf, ← List.drop_eq_getElem_cons hk, List.take_append_drop]
    rw [e1, List.find?_append]
    have e2 : (l.take k).find? (fun f => f.tag == tag) = none := by
      rw [List.find?_eq_none]
      intro g hg
      simpa using h g hg
    rw [e2, List.find?_cons_of_pos (by simpa using ht)]
    rfl
  unfold getV getO getF
  rw [e]
  exact ⟨rfl, rfl⟩
theorem no_step {l : List F} {tag : Int} {k : Nat} {f : F} (hf : l[k]? = some f) (h : ∀ f ∈ l.take k, f.tag ≠ tag) (ht : f.tag ≠ tag) : ∀ f ∈ l.take (k + 1), f.tag ≠ tag := by
  intro g hg
  rw [List.take_add_one, List.mem_append, hf] at hg
  rcases hg with hg | hg
  · exact h g hg
  · simp at hg; rw [hg]; exact ht

set_option maxHeartbeats 400000 in
theorem rget_any (a : Option Addr) (cap : Nat) (l : List F) (tag : Int) (w : World) (hfl : Flds w a l) (hlen : l.length ≤ 9223372036854775807) :
    Calls Tryd.prog 12 #[.slice a l.length cap, .int .i64 tag] w fun e w' => e = .returned (.tuple #[.string (getV l tag), .bool (getO l tag)]) ∧ w' = w := by
  have HF := Lib.hid hfl
  clear hfl
  go_enter Tryd.func12, Tryd.ntmps12
  go_wp2_with fail
  go_loop [6] (fun i_ => ∃ k : Nat, k ≤ l.length ∧ i_ = .int .i64 k ∧ ∀ f ∈ l.take k, f.tag ≠ tag) (fun i_ => l.length - (intOf i_).toNat)
  case atStart => exact ⟨0, Nat.zero_le _, rfl, by simp⟩
  case round =>
    obtain ⟨k, hk, rfl, hno⟩ := hrel
    have HN := Lib.hid hno
    clear hno
    by_cases hlt : k < l.length
    · obtain ⟨b, off, rfl, hc⟩ := HF.out.at (by omega)
      obtain ⟨⟨t, u⟩, hf⟩ : ∃ f, l[k]? = some f := ⟨_, List.getElem?_eq_getElem hlt⟩
      have ⟨c0, c1⟩ := hc k _ hf
      have HFK := Lib.hid hf
      clear hc hf
      cases d : (t == tag)
      · have HN2 := Lib.hid (no_step HFK.out HN.out (beq_eq_false_iff_ne.1 d))
        go_wp2_with fail
        go_round
        case rel => exact ⟨k + 1, by omega, by go_num, HN2.out⟩
        case measure => simp [intOf]; omega
      · have HG := Lib.hid (get_some HFK.out HN.out (beq_iff_eq.1 d))
        go_wp2_with fail
        go_ret2
        rw [HG.out.1, HG.out.2]
        exact ⟨rfl, rfl⟩
    · have HG := Lib.hid (get_none (by omega) HN.out)
      obtain rfl : k = l.length := by omega
      go_wp2_with fail
      go_ret2
      rw [HG.out.1, HG.out.2]
      exact ⟨rfl, rfl⟩

theorem short_long {l : List F} (h : 110 < l.length) : shortB l = false := by unfold shortB; rw [decide_eq_false (by omega)]; rfl
theorem short_bad {l : List F} {k : Nat} {f : F} (hf : l[k]? = some f) (h : 300 < f.val.size) : shortB l = false := by
  unfold shortB
  have : (l.all fun f => decide (f.val.size ≤ 300)) = false := by
    rw [List.all_eq_false]
    exact ⟨f, List.mem_of_getElem? hf, by simp; exact h⟩
  rw [this, Bool.and_false]
theorem short_end {l : List F} (h : l.length ≤ 110) (ha : ∀ f ∈ l.take l.length, f.val.size ≤ 300) : shortB l = true := by
  rw [List.take_length] at ha
  unfold shortB
  rw [decide_eq_true h, Bool.true_and, List.all_eq_true]
  intro f hf
  exact decide_eq_true (ha f hf)
theorem short_step {l : List F} {k : Nat} {f : F} (hf : l[k]? = some f) (h : ∀ f ∈ l.take k, f.val.size ≤ 300) (ht : f.val.size ≤ 300) : ∀ f ∈ l.take (k + 1), f.val.size ≤ 300 := by
  intro g hg
  rw [List.take_add_one, List.mem_append, hf] at hg
  rcases hg with hg | hg
  · exact h g hg
  · simp at hg; rw [hg]; exact ht
theorem short_is {l : List F} (h : shortB l = true) : l.length ≤ 110 ∧ ∀ f ∈ l, f.val.size ≤ 300 := by
  unfold shortB at h
  rw [Bool.and_eq_true, decide_eq_true_eq, List.all_eq_true] at h
  exact ⟨h.1, fun f hf => of_decide_eq_true (h.2 f hf)⟩

set_option maxHeartbeats 400000 in
theorem rshort_any (a : Option Addr) (cap : Nat) (l : List F) (w : World) (hfl : Flds w a l) (hlen : l.length ≤ 9223372036854775807) (hv : ∀ f ∈ l, f.val.size ≤ 9223372036854775807) :
    Calls Tryd.prog 8 #[.slice a l.length cap] w fun e w' => e = .returned (.bool (shortB l)) ∧ w' = w := by
  have HF := Lib.hid hfl
  have HV := Lib.hid hv
  clear hfl hv
  by_cases hbig : 110 < l.length
  · have HP := Lib.hid (short_long hbig)
    go_enter Tryd.func8, Tryd.ntmps8
    go_wp2_with fail
    go_ret
    exact ⟨ret_b HP.out.symm, rfl⟩
  · go_enter Tryd.func8, Tryd.ntmps8
    go_wp2_with fail
    go_loop [3] (fun i_ => ∃ k : Nat, k ≤ l.length ∧ i_ = .int .i64 k ∧ ∀ f ∈ l.take k, f.val.size ≤ 300) (fun i_ => l.length - (intOf i_).toNat)
    case atStart => exact ⟨0, Nat.zero_le _, rfl, by simp⟩
    case round =>
      obtain ⟨k, hk, rfl, hno⟩ := hrel
      have HN := Lib.hid hno
      clear hno
      by_cases hlt : k < l.length
      · obtain ⟨b, off, rfl, hc⟩ := HF.out.at (by omega)
        obtain ⟨⟨t, u⟩, hf⟩ : ∃ f, l[k]? = some f := ⟨_, List.getElem?_eq_getElem hlt⟩
        have ⟨c0, c1⟩ := hc k _ hf
        have hu := HV.out _ (List.mem_of_getElem? hf)
        have HFK := Lib.hid hf
        clear hc hf
        cases d : decide ((300 : Int) < (u.size : Int))
        · have HN2 := Lib.hid (short_step HFK.out HN.out (by have := of_decide_eq_false d; show u.size ≤ 300; omega))
          go_wp2_with fail
          go_round
          case rel => exact ⟨k + 1, by omega, by go_num, HN2.out⟩
          case measure => simp [intOf]; omega
        · have HG := Lib.hid (short_bad HFK.out (by have := of_decide_eq_true d; show 300 < u.size; omega))
          go_wp2_with fail
          go_ret
          exact ⟨ret_b HG.out.symm, rfl⟩
      · obtain rfl : k = l.length := by omega
        have HG := Lib.hid (short_end (by omega) HN.out)
        go_wp2_with fail
        go_ret
        exact ⟨ret_b HG.out.symm, rfl⟩

theorem take_same {x y : List F} {k : Nat} {f g : F} (h : x.take k = y.take k) (hf : x[k]? = some f) (hg : y[k]? = some g) (e : f = g) : x.take (k + 1) = y.take (k + 1) := by
  rw [List.take_add_one, List.take_add_one, h, hf, hg, e]
/-- are two lists of fields the same? -/
def SameP (x y : List F) (w : World) (e : Ending) (w' : World) : Prop := (∃ o : Bool, e = .returned (.bool o) ∧ (o = true ↔ x = y)) ∧ Below w.heap.size w w'
set_option maxHeartbeats 400000 in
theorem rsame_any (a : Option Addr) (cap : Nat) (x : List F) (b : Option Addr) (cap2 : Nat) (y : List F) (w : World) (hx : Flds w a x) (hy : Flds w b y) (hlx : x.length ≤ 9223372036854775807) (hly : y.length ≤ 9223372036854775807) :
    Calls Tryd.prog 19 #[.slice a x.length cap, .slice b y.length cap2] w (SameP x y w) := by
  have HX := Lib.hid hx
  have HY := Lib.hid hy
  clear hx hy
  cases d : ((x.length : Int) != (y.length : Int))
  · have hl : x.length = y.length := by have h : ((x.length : Int) == (y.length : Int)) = true := by simpa [bne] using d
                                        have := beq_iff_eq.1 h; omega
    have HL := Lib.hid hl
    clear hl
    go_enter Tryd.func19, Tryd.ntmps19
    go_wp2_with fail
    go_loopw [5] (fun i_ wr => ∃ k : Nat, k ≤ x.length ∧ i_ = .int .i64 k ∧ x.take k = y.take k ∧ Below w.heap.size w wr) (fun i_ _ => x.length - (intOf i_).toNat)
    case atStart => exact ⟨0, Nat.zero_le _, rfl, by simp, Below.refl _ _⟩
    case round =>
      obtain ⟨k, hk, rfl, heq, hbel⟩ := hrel
      have HE := Lib.hid heq
      have HB := Lib.hid hbel
      clear heq hbel
      by_cases hlt : k < x.length
      · obtain ⟨b1, o1, rfl, hc1⟩ := (HX.out.later HB.out).at (by omega)
        have hlt2 : k < y.length := by have := HL.out; omega
        obtain ⟨b2, o2, rfl, hc2⟩ := (HY.out.later HB.out).at (by omega)
        obtain ⟨⟨t1, u1⟩, hf1⟩ : ∃ f, x[k]? = some f := ⟨_, List.getElem?_eq_getElem hlt⟩
        obtain ⟨⟨t2, u2⟩, hf2⟩ : ∃ f, y[k]? = some f := ⟨_, List.getElem?_eq_getElem hlt2⟩
        have ⟨c1, d1⟩ := hc1 k _ hf1
        have ⟨c2, d2⟩ := hc2 k _ hf2
        have HF1 := Lib.hid hf1
        have HF2 := Lib.hid hf2
        clear hc1 hc2 hf1 hf2
        have q1 : ∀ wq : World, (binOp .neq 39 (.agg #[.int .i64 t1, .string u1]) (.agg #[.int .i64 t2, .string u2])).run Tryd.prog wq = .ok (.bool (!(sameF t1 u1 t2 u2))) wq := fun wq => run_field_neq t1 u1 t2 u2 wq
        have q2 : ∀ (x y : Operand) (a b : Array Value) (wq : World), (eqGuard .neq 39 x y (.agg a) (.agg b)).run Tryd.prog wq = .ok () wq := fun x y a b wq => run_field_guard .neq x y a b wq
        cases ds : sameF t1 u1 t2 u2
        · have HNE : Hid (¬ x = y) := Lib.hid (by
            intro e
            have h1 := HF1.out
            rw [e, HF2.out] at h1
            have h2 := (sameF_iff t1 u1 t2 u2).2 (Option.some.inj h1).symm
            rw [ds] at h2; cases h2)
          go_wp2_with fail
          go_quiet (fail)
          go_wp2_with fail
          go_ret
          exact ⟨⟨false, rfl, by simp; exact HNE.out⟩, below_drewN HB.out _⟩
        · have HN := Lib.hid (take_same HE.out HF1.out HF2.out ((sameF_iff _ _ _ _).1 ds))
          go_wp2_with fail
          go_quiet (fail)
          go_wp2_with fail
          go_roundw
          case rel => exact ⟨k + 1, by omega, by go_num, HN.out, below_drewN HB.out _⟩
          case measure => simp [intOf]; omega
      · obtain rfl : k = x.length := by omega
        have HP : Hid (x = y) := Lib.hid (by have h := HE.out; rw [List.take_length] at h; rw [h, HL.out, List.take_length])
        go_wp2_with fail
        go_ret
        exact ⟨⟨true, rfl, by simp; exact HP.out⟩, HB.out⟩
  · go_enter Tryd.func19, Tryd.ntmps19
    go_wp2_with fail
    go_ret
    exact ⟨⟨false, rfl, by simp; intro e; rw [e] at d; simp at d⟩, Below.refl _ _⟩

end Fld
end Go.Proofs.YtamhimmggoifgaaDoor
