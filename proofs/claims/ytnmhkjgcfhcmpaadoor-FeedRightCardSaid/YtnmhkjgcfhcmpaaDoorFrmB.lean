/-
  The contract of the reference's Right (layer 3).
-/
import Derived.Test.YtnmhkjgcfhcmpaaDoorFrmA
import Derived.Test.YtnmhkjgcfhcmpaaDoorFldC
namespace Go.Proofs.YtnmhkjgcfhcmpaaDoor
open Go.RowKit
namespace Frm
open Num
open Fld (parseL F)

theorem parse_len (b : List UInt8) : (parseL b).1.length ≤ 100 := by
  by_cases h : (parseL b).2 = 0
  · have hp := (Fld.parse_back (b := b) (l := (parseL b).1) (by rw [← h])).1
    have := (Fld.putE_ok hp).1
    exact this
  · rw [Fld.parse_err h]; decide
theorem right_len {b : List UInt8} (h : b.length = 0 ∨ 8000 < b.length) : rightY b = false := by
  unfold rightY
  rcases h with h | h
  · rw [h]; rfl
  · rw [decide_eq_false (show ¬ b.length ≤ 8000 by omega)]; simp
theorem right_tag {b : List UInt8} {k : Nat} {f : F} (hk : (parseL b).1[k]? = some f) (h : freeF f = false) : rightY b = false := by
  unfold rightY
  have : (parseL b).1.all freeF = false := by
    rw [List.all_eq_false]
    exact ⟨f, List.mem_of_getElem? hk, by simp [h]⟩
  rw [this, Bool.and_false]
theorem right_all {b : List UInt8} (h0 : b.length ≠ 0) (h1 : b.length ≤ 8000) (h : ((parseL b).1.take (parseL b).1.length).all freeF = true) : rightY b = decide ((parseL b).2 = 0) := by
  rw [List.take_length] at h
  unfold rightY
  rw [h, decide_eq_true h0, decide_eq_true h1]
  simp
theorem free_step {l : List F} {k : Nat} {f : F} (hk : l[k]? = some f) (h : (l.take k).all freeF = true) (hf : freeF f = true) : (l.take (k + 1)).all freeF = true := by
  rw [List.take_add_one, hk, List.all_append, h]
  simp [hf]
theorem free_is (t : Int) (v : ByteArray) : freeF ⟨t, v⟩ = (!(t == 8) && !(t == 9) && !(t == 10)) := rfl

set_option maxHeartbeats 1000000 in
theorem rright_any (a : Option Addr) (cap : Nat) (b : List UInt8) (w : World) (hby : BytesAt w a cap b) (hlen : b.length ≤ 9223372036854775807) :
    Calls Tryd.prog 36 #[.slice a b.length cap] w fun e w' => e = .returned (.bool (rightY b)) ∧ Below w.heap.size w w' := by
  have HF := Lib.hid hby
  clear hby
  by_cases h0 : b.length = 0
  · have HP := Lib.hid (right_len (.inl h0))
    go_enter Tryd.func36, Tryd.ntmps36
    go_wp2_with fail
    go_ret
    exact ⟨ret_b HP.out.symm, Below.refl _ _⟩
  by_cases h1 : 8000 < b.length
  · have HP := Lib.hid (right_len (.inr h1))
    go_enter Tryd.func36, Tryd.ntmps36
    go_wp2_with fail
    go_ret
    exact ⟨ret_b HP.out.symm, Below.refl _ _⟩
  have HALL := Lib.hid (right_all h0 (by omega : b.length ≤ 8000))
  have HTAG : Hid (∀ k f, (parseL b).1[k]? = some f → freeF f = false → rightY b = false) := Lib.hid fun k f => right_tag
  have hl100 := parse_len b
  have d0 : ((b.length : Int) == 0) = false := beq_eq_false_iff_ne.2 (by omega)
  have d1 : decide ((8000 : Int) < (b.length : Int)) = false := decide_eq_false (by omega)
  have HPC := Lib.hid fun w h => Fld.rparse_any a cap b w h hlen
  obtain ⟨l, hl⟩ : ∃ l, (parseL b).1 = l := ⟨_, rfl⟩
  obtain ⟨pe, hpe⟩ : ∃ pe, (parseL b).2 = pe := ⟨_, rfl⟩
  rw [hl, hpe] at HALL HPC
  rw [hl] at HTAG hl100
  clear hl hpe
  go_enter Tryd.func36, Tryd.ntmps36
  go_wp2_with fail
  refine (HPC.out _ HF.out).mono ?_
  intro e w1 hg
  obtain ⟨⟨a2, c2, rfl, hrow⟩, hbel⟩ := hg.got
  have HR := Lib.hid hrow.flds
  have HB := Lib.hid hbel
  clear hrow hbel hg HPC HF
  go_wp2_with fail
  go_loop [5] (fun i_ => ∃ k : Nat, k ≤ l.length ∧ i_ = .int .i64 k ∧ (l.take k).all freeF = true) (fun i_ => l.length - (intOf i_).toNat)
  case atStart => exact ⟨0, Nat.zero_le _, rfl, by simp⟩
  case round =>
    obtain ⟨k, hk, rfl, hfree⟩ := hrel
    have HFR := Lib.hid hfree
    clear hfree
    by_cases hlt : k < l.length
    · obtain ⟨bb, off, rfl, hc⟩ := HR.out.at (by omega)
      obtain ⟨⟨t, u⟩, hf⟩ : ∃ f, l[k]? = some f := ⟨_, List.getElem?_eq_getElem hlt⟩
      have ⟨c0, _⟩ := hc k _ hf
      have HFK := Lib.hid hf
      clear hc hf
      cases d8 : (t == 8)
      · cases d9 : (t == 9)
        · cases d10 : (t == 10)
          · have HN := Lib.hid (free_step HFK.out HFR.out (by rw [free_is, d8, d9, d10]; rfl))
            go_wp2_with fail
            go_round
            case rel => exact ⟨k + 1, by omega, by go_num, HN.out⟩
            case measure => simp [intOf]; omega
          · have HN := Lib.hid (HTAG.out k _ HFK.out (by rw [free_is, d10]; simp))
            go_wp2_with fail
            go_ret
            exact ⟨ret_b HN.out.symm, HB.out⟩
        · have HN := Lib.hid (HTAG.out k _ HFK.out (by rw [free_is, d9]; simp))
          go_wp2_with fail
          go_ret
          exact ⟨ret_b HN.out.symm, HB.out⟩
      · have HN := Lib.hid (HTAG.out k _ HFK.out (by rw [free_is, d8]; simp))
        go_wp2_with fail
        go_ret
        exact ⟨ret_b HN.out.symm, HB.out⟩
    · obtain rfl : k = l.length := by omega
      have HN := Lib.hid (HALL.out HFR.out)
      go_wp2_with fail
      go_ret
      exact ⟨ret_b (by rw [HN.out]; rfl), HB.out⟩

theorem rright_is (a : Option Addr) (cap : Nat) (b : List UInt8) (o : Bool) (ho : rightY b = o) (w : World) (hby : BytesAt w a cap b) (hlen : b.length ≤ 9223372036854775807) :
    Calls Tryd.prog 36 #[.slice a b.length cap] w fun e w' => e = .returned (.bool o) ∧ Below w.heap.size w w' := by
  rw [← ho]; exact rright_any a cap b w hby hlen

end Frm
end Go.Proofs.YtnmhkjgcfhcmpaaDoor
