/-
  The contracts of the reference's Sum and begins (layer 3).
-/
import Derived.Test.YtnmhkjgcfhcmpaaDoorPlFound
import Derived.Test.YtnmhkjgcfhcmpaaDoorMemS
import Derived.Test.YtnmhkjgcfhcmpaaDoorProg
import Derived.WalkSpells
import Derived.WalkLawsBesides
import Derived.BigQuiet
namespace Go.Proofs.YtnmhkjgcfhcmpaaDoor
open Go.RowKit
namespace Frm
open Num

theorem below_drew {B : Nat} {a w : World} (h : Below B a w) (n : Nat) : Below B a (w.drewN n) := h.trans ⟨rfl, rfl, rfl, Nat.le_refl _, fun _ _ => rfl⟩

theorem rsum_any (a : Option Addr) (cap : Nat) (b : List UInt8) (w : World) (hby : BytesAt w a cap b) (hlen : b.length ≤ 9223372036854775807) :
    Calls Tryd.prog 38 #[.slice a b.length cap] w fun e w' => e = .returned (.int .i64 (sumN b)) ∧ w' = w := by
  have HF := Lib.hid hby
  clear hby
  go_enter Tryd.func38, Tryd.ntmps38
  go_wp2_with fail
  go_loop [3, 4] (fun n_ i_ => ∃ k n : Nat, k ≤ b.length ∧ i_ = .int .i64 k ∧ n_ = .int .i64 n ∧ n < 256 ∧ n = sumN (b.take k)) (fun _ i_ => b.length - (intOf i_).toNat)
  case atStart => exact ⟨0, 0, Nat.zero_le _, rfl, rfl, by decide, by simp [sumN, tot]⟩
  case round =>
    obtain ⟨k, n, hk, rfl, rfl, hn, hs⟩ := hrel
    have HS := Lib.hid hs
    clear hs
    by_cases hlt : k < b.length
    · obtain ⟨bb, off, rfl, hcc⟩ := HF.out.at (by omega)
      have hc := hcc k hlt
      obtain ⟨c, hcx⟩ : ∃ c, b[k] = c := ⟨_, rfl⟩
      have HN := Lib.hid (sum_step hlt HS.out)
      rw [hcx] at hc HN
      clear hcc hcx
      have hc8 := c.toNat_lt
      go_wp2_with fail
      go_round
      case rel => exact ⟨k + 1, (n + c.toNat) % 256, by omega, by go_num, by go_num, by omega, HN.out⟩
      case measure => simp [intOf]; omega
    · obtain rfl : k = b.length := by omega
      go_wp2_with fail
      go_ret
      exact ⟨ret_i (by rw [HS.out, List.take_length]), rfl⟩

/-- so many bytes are the beginning's -/
def BegAt (s : List UInt8) (k : Nat) : Prop := k ≤ 12 ∧ k ≤ s.length ∧ s.take k = pre.take k
theorem BegAt.zero (s : List UInt8) : BegAt s 0 := ⟨by omega, by omega, by simp⟩
theorem BegAt.step {s : List UInt8} {k : Nat} (h : BegAt s k) (hk : k < s.length) (h12 : k < 12) (hc : s[k] = pre[k]'h12) : BegAt s (k + 1) := by
  refine ⟨by omega, by omega, ?_⟩
  have hp : k < pre.length := h12
  rw [List.take_succ_eq_append_getElem hk, List.take_succ_eq_append_getElem hp, h.2.2, hc]
  rfl
theorem BegAt.yes {s : List UInt8} {k : Nat} (h : BegAt s k) (hk : k = 12 ∨ k = s.length) : begB s = true := by
  obtain ⟨h1, h2, h3⟩ := h
  unfold begB
  rw [beq_iff_eq]
  rcases hk with rfl | rfl
  · rw [h3, List.take_of_length_le (by exact Nat.le_refl 12), List.take_of_length_le (show pre.length ≤ s.length from h2)]
  · rw [List.take_of_length_le h1, ← h3, List.take_length]
theorem BegAt.no {s : List UInt8} {k : Nat} (hk : k < s.length) (h12 : k < 12) (hc : s[k] ≠ pre[k]'h12) : begB s = false := by
  unfold begB
  rw [beq_eq_false_iff_ne]
  intro e
  have hp : k < pre.length := h12
  have h1 : (s.take 12)[k]? = (pre.take s.length)[k]? := by rw [e]
  rw [List.getElem?_take_of_lt h12, List.getElem?_take_of_lt hk, List.getElem?_eq_getElem hk, List.getElem?_eq_getElem hp] at h1
  exact hc (Option.some.inj h1)

set_option maxRecDepth 100000 in
theorem rbegins_any (a : Option Addr) (cap : Nat) (b : List UInt8) (p : Nat) (w : World) (hby : BytesAt w a cap b) (hlen : b.length ≤ 9223372036854775807) (hp : p ≤ b.length) :
    Calls Tryd.prog 23 #[.slice a b.length cap, .int .i64 p] w fun e w' => e = .returned (.bool (begB (b.drop p))) ∧ Below w.heap.size w w' := by
  have HF := Lib.hid hby
  clear hby
  go_enter Tryd.func23, Tryd.ntmps23
  go_wp2_with fail
  go_loopw [6] (fun i_ wr => ∃ k : Nat, i_ = .int .i64 k ∧ BegAt (b.drop p) k ∧ Below w.heap.size w wr) (fun i_ _ => 12 - (intOf i_).toNat)
  case atStart => exact ⟨0, rfl, BegAt.zero _, Below.refl _ _⟩
  case round =>
    obtain ⟨k, rfl, hbeg, hbel⟩ := hrel
    have hk1 := hbeg.1
    have hk2 := hbeg.2.1
    rw [List.length_drop] at hk2
    have HB := Lib.hid hbel
    have HG := Lib.hid hbeg
    clear hbel hbeg
    by_cases h12 : k < 12
    · by_cases hlt : p + k < b.length
      · obtain ⟨bb, off, rfl, hcc⟩ := (HF.out.later HB.out).at (by omega)
        have hc := hcc (p + k) hlt
        have hdl : k < (b.drop p).length := by rw [List.length_drop]; omega
        have HD : Hid ((b.drop p)[k] = b[p + k]) := Lib.hid List.getElem_drop
        obtain ⟨c, hcx⟩ : ∃ c, b[p + k] = c := ⟨_, rfl⟩
        rw [hcx] at hc HD
        clear hcc hcx
        go_wp2_with fail
        go_quiet (fail)
        have hpx : ((⟨#[56, 61, 70, 73, 88, 46, 52, 46, 52, 1, 57, 61]⟩ : ByteArray)[k]'h12) = pre[k]'h12 := rfl
        rw [hpx]
        obtain ⟨x, hx⟩ : ∃ x, pre[k]'h12 = x := ⟨_, rfl⟩
        rw [hx]
        cases d : ((c.toNat : Int) != (x.toNat : Int))
        · have hcx : c = x := UInt8.toNat_inj.1 (by have := bne_eq_false_iff_eq.1 d; omega)
          have HN := Lib.hid (HG.out.step hdl h12 (by rw [HD.out, hx, hcx]))
          clear hcx hx hpx
          go_wp2_with fail
          go_roundw
          case rel => exact ⟨k + 1, by go_num, HN.out, below_drew HB.out _⟩
          case measure => simp [intOf]; omega
        · have hcx : c ≠ x := by
            rintro rfl
            simp at d
          have HN := Lib.hid (BegAt.no hdl h12 (by rw [HD.out, hx]; exact hcx))
          clear hcx hx hpx
          go_wp2_with fail
          go_ret
          exact ⟨ret_b HN.out.symm, below_drew HB.out _⟩
      · have HN := Lib.hid (HG.out.yes (.inr (by rw [List.length_drop]; omega)))
        go_wp2_with fail
        go_ret
        exact ⟨ret_b HN.out.symm, HB.out⟩
    · have HN := Lib.hid (HG.out.yes (.inl (by omega)))
      obtain rfl : k = 12 := by omega
      go_wp2_with fail
      go_ret
      exact ⟨ret_b HN.out.symm, HB.out⟩

end Frm
end Go.Proofs.YtnmhkjgcfhcmpaaDoor
