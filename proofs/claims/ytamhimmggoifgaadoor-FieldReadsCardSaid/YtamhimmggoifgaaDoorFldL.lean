/-
  The walk of layer 2's laws: awake, FieldRight.
-/
import Derived.Test.YtamhimmggoifgaaDoorFldP
import Derived.Test.YtamhimmggoifgaaDoorFldR
import Derived.Test.YtamhimmggoifgaaDoorFldB
import Derived.Test.YtamhimmggoifgaaDoorFldC
import Derived.Test.YtamhimmggoifgaaDoorFldD
import Derived.Test.YtamhimmggoifgaaDoorNumP
import Derived.OpenShut
import Derived.Deep.RegionHeld3
namespace Go.Proofs.YtamhimmggoifgaaDoor
open Go.RowKit
namespace Fld
open Num (parseV parseE showL showS)

/-- the two fields of the first look -/
def two : List F := [⟨35, ⟨#[65]⟩⟩, ⟨34, ⟨#[55]⟩⟩]
def twoB : List UInt8 := [51, 53, 61, 65, 1, 51, 52, 61, 55, 1]
theorem show35 : showL 35 = [51, 53] := by
  unfold showL
  rw [if_pos (by decide), Num.itoa_nn 35 (by decide)]
  rw [show (35 : Int).toNat = 35 from rfl, Lib.decDigits, dif_neg (by decide), Lib.decDigits, dif_pos (by decide)]
  rfl
theorem show34 : showL 34 = [51, 52] := by
  unfold showL
  rw [if_pos (by decide), Num.itoa_nn 34 (by decide)]
  rw [show (34 : Int).toNat = 34 from rfl, Lib.decDigits, dif_neg (by decide), Lib.decDigits, dif_pos (by decide)]
  rfl
theorem two_put : putE two = 0 ∧ putB two = twoB := by
  have h := putE_good (l := two) (by decide) (by decide)
  refine ⟨h.1, h.2.trans ?_⟩
  unfold bytesL two
  simp only [List.flatMap_cons, List.flatMap_nil, bytesF, show35, show34]
  rfl
theorem two_parse : parseL twoB = (two, 0) := by
  have h0 : putE [] = 0 := by decide
  have h := back_two two_put.1 h0 (by decide)
  have e : putB [] = [] := by rw [(putE_good (l := []) (by decide) (by decide)).2]; rfl
  rw [two_put.2, e, List.append_nil, List.append_nil] at h
  exact h
theorem two_num : numV two 34 = 7 ∧ numO two 34 = true := by decide +kernel
theorem two_fits : Fits two := by
  intro f hf
  simp only [two, List.mem_cons, List.not_mem_nil, or_false] at hf
  rcases hf with rfl | rfl <;> decide

theorem put_is (a : Option Addr) (cap n : Nat) (l : List F) (w : World) (hn : l.length = n) (hfl : Flds w a l) (hfit : Fits l) (hlen : l.length ≤ 9223372036854775807) (hl : Laid w) (b : List UInt8) (e : Int) (hb : putB l = b) (he : putE l = e) :
    Calls Tryd.prog 9 #[.slice a n cap] w (GotBytes w b e) := by
  subst hn hb he
  exact put_any a cap l w hfl hfit hlen hl
theorem parse_is (a : Option Addr) (cap n : Nat) (b : List UInt8) (w : World) (hn : b.length = n) (hby : BytesAt w a cap b) (hlen : b.length ≤ 9223372036854775807) (hl : Laid w) (l : List F) (e : Int) (h : parseL b = (l, e)) :
    Calls Tryd.prog 17 #[.slice a n cap] w (GotRow encF w l e) := by
  subst hn
  have h2 := parse_any a cap b w hby hlen hl
  rw [h] at h2
  exact h2
theorem rparse_is (a : Option Addr) (cap n : Nat) (b : List UInt8) (w : World) (hn : b.length = n) (hby : BytesAt w a cap b) (hlen : b.length ≤ 9223372036854775807) (l : List F) (e : Int) (h : parseL b = (l, e)) :
    Calls Tryd.prog 18 #[.slice a n cap] w (GotRow encF w l e) := by
  subst hn
  have h2 := rparse_any a cap b w hby hlen
  rw [h] at h2
  exact h2.mono fun _ _ h => h.got
theorem rsame_true (a : Option Addr) (cap : Nat) (x : List F) (b : Option Addr) (cap2 : Nat) (w : World) (hx : Flds w a x) (hy : Flds w b x) (hlx : x.length ≤ 9223372036854775807) (hly : x.length ≤ 9223372036854775807) :
    Calls Tryd.prog 19 #[.slice a x.length cap, .slice b x.length cap2] w fun e w' => e = .returned (.bool true) ∧ Below w.heap.size w w' :=
  (rsame_any a cap x b cap2 x w hx hy hlx hly).mono fun _ _ ⟨⟨_, he, ho⟩, hb⟩ => ⟨by rw [he, ho.2 rfl], hb⟩
/-- no more fields are told than 100 -/
theorem parse_len (b : List UInt8) : (parseL b).1.length ≤ 100 := by
  by_cases h : (parseL b).2 = 0
  · have h2 : parseL b = ((parseL b).1, 0) := by rw [← h]
    exact (putE_ok (parse_back h2).1).1
  · rw [parse_err h]; decide
theorem num_is2 (a : Option Addr) (cap n : Nat) (l : List F) (tag : Int) (w : World) (hn : l.length = n) (hfl : Flds w a l) (hfit : Fits l) (hlen : l.length ≤ 9223372036854775807) (hl : Laid w) (v : Int) (o : Bool) (hv : numV l tag = v) (ho : numO l tag = o) :
    Calls Tryd.prog 13 #[.slice a n cap, .int .i64 tag] w fun e w' => e = .returned (.tuple #[.int .i64 v, .bool o]) ∧ Below w.heap.size w w' := by
  subst hn hv ho
  exact num_any a cap l tag w hfl hfit hlen hl

set_option maxRecDepth 100000 in
set_option maxHeartbeats 1000000 in
theorem awake_any (w : World) (hl : Laid w) :
    Calls Tryd.prog 7 #[] w fun e w' => e = .returned (.bool true) ∧ Below w.heap.size w w' := by
  have HL := Lib.hid hl
  clear hl
  go_enter Tryd.func7, Tryd.ntmps7
  go_wp2_with fail
  have HL0 : Hid (∀ o, Laid (w.alloc o)) := Lib.hid fun o => HL.out.below ((Below.refl _ _).alloc (Nat.le_refl _) _)
  refine (put_is _ _ 2 two _ rfl (RowAt.flds (rows_alloc encF _ _ two _ rfl 2 (by decide))) two_fits (by decide) (HL0.out _) _ _ two_put.2 two_put.1).mono ?_
  intro e w1 hg
  obtain ⟨⟨a1, c1, rfl, hb1⟩, hbel⟩ := hg
  have HB1 := Lib.hid hb1
  have HW1 := Lib.hid (((Below.refl _ w).alloc (Nat.le_refl _) _).trans (hbel.mono (by simp)))
  clear hb1 hbel
  go_wp2_with fail
  refine (parse_is _ _ _ twoB _ rfl HB1.out (by decide) (HL.out.below HW1.out) _ _ two_parse).mono ?_
  intro e w2 hg
  obtain ⟨⟨a2, c2, rfl, hb2⟩, hbel⟩ := hg
  have HB2 := Lib.hid hb2
  have HW2 := Lib.hid (HW1.out.trans (hbel.mono HW1.out.size))
  have HB12 := Lib.hid (HB1.out.later hbel)
  clear hb2 hbel
  go_wp2_with fail
  refine (num_is2 _ _ _ two 34 _ rfl HB2.out.flds two_fits (by decide) (HL.out.below HW2.out) _ _ two_num.1 two_num.2).mono ?_
  rintro e w3 ⟨rfl, hbel⟩
  have HW3 := Lib.hid (HW2.out.trans (hbel.mono HW2.out.size))
  have HB13 := Lib.hid (HB12.out.later hbel)
  clear hbel
  have cv := string_of (P := Tryd.prog) Tryd.underlying25 Tryd.underlying5 Tryd.underlying9 HB13.out _ rfl
  go_wp2_with fail
  go_ret
  exact ⟨rfl, HW3.out⟩

/-- what the frame of a law finds of a slice of fields among the arguments -/
def IsFlds (w : World) (a : Option Addr) (len cap : Nat) (l : List F) : Prop :=
  l.length = len ∧ len ≤ maxLen ∧ RowAt encF w a cap l ∧ Fits l
theorem wf64 {n : Int} (h : (Lit.int .i64 n).wf = true) : -9223372036854775808 ≤ n ∧ n ≤ 9223372036854775807 := bounds_i64 h

theorem right_held (t : Int) (v : ByteArray) (hv : v.size ≤ 9223372036854775807) (B : Nat) (w0 : World) (hB : B ≤ w0.heap.size) (p q : Addr) (w : World) (h : Below B w0 w ∧ w.cell? p = some (.int .i64 t) ∧ w.cell? q = some (.string v)) :
    Calls Tryd.prog 15 #[.agg #[.int .i64 t, .string v]] w fun e w' => e = .returned (.bool (rightF ⟨t, v⟩)) ∧ Below B w0 w' ∧ w'.cell? p = some (.int .i64 t) ∧ w'.cell? q = some (.string v) :=
  (right_any t v w hv).mono fun _ _ ⟨he, hb⟩ => ⟨he, h.1.trans (hb.mono (Nat.le_trans hB h.1.size)), (hb.cell (cell_lt h.2.1)).trans h.2.1, (hb.cell (cell_lt h.2.2)).trans h.2.2⟩
theorem rright_held (t : Int) (v : ByteArray) (hv : v.size ≤ 9223372036854775807) (B : Nat) (w0 : World) (hB : B ≤ w0.heap.size) (p q : Addr) (w : World) (h : Below B w0 w ∧ w.cell? p = some (.int .i64 t) ∧ w.cell? q = some (.string v)) :
    Calls Tryd.prog 16 #[.agg #[.int .i64 t, .string v]] w fun e w' => e = .returned (.bool (rightF ⟨t, v⟩)) ∧ Below B w0 w' ∧ w'.cell? p = some (.int .i64 t) ∧ w'.cell? q = some (.string v) :=
  (rright_any t v w hv).mono fun _ _ ⟨he, hb⟩ => ⟨he, h.1.trans (hb.mono (Nat.le_trans hB h.1.size)), (hb.cell (cell_lt h.2.1)).trans h.2.1, (hb.cell (cell_lt h.2.2)).trans h.2.2⟩

set_option maxRecDepth 100000 in
set_option maxHeartbeats 2000000 in
theorem law_FieldRight (a : Option Addr) (len cap : Nat) (l : List F) (tag : Int) (w : World) (hr : IsFlds w a len cap l) (_ht : (Lit.int .i64 tag).wf = true) (hl : Laid w) :
    Calls Tryd.prog 3 #[.slice a len cap, .int .i64 tag] w fun e w' => e = .returned (.bool true) ∧ Below w.heap.size w w' := by
  obtain ⟨rfl, hm, hrow, hfit⟩ := hr
  unfold maxLen at hm
  have HR := Lib.hid hrow
  have HI := Lib.hid hfit
  have HL := Lib.hid hl
  clear hrow hfit hl
  go_enter Tryd.func3, Tryd.ntmps3
  go_wp2_with fail
  refine (awake_any _ HL.out).mono ?_
  rintro e w1 ⟨rfl, hb1⟩
  have HB1 := Lib.hid hb1
  clear hb1
  go_wp2_with fail
  refine (rshort_any _ _ l _ (HR.out.later HB1.out).flds (by omega) fun f hf => (HI.out f hf).2.2).mono ?_
  rintro e w' ⟨rfl, rfl⟩
  cases hs : shortB l
  · go_wp2_with fail
    go_ret
    exact ⟨rfl, HB1.out⟩
  · go_wp2_with fail
    refine (put_any _ _ l _ (HR.out.later HB1.out).flds HI.out (by omega) (HL.out.below HB1.out)).mono ?_
    intro e w2 hg
    obtain ⟨⟨a2, c2, rfl, hby⟩, hbel⟩ := hg
    have HB2 := Lib.hid (HB1.out.trans (hbel.mono HB1.out.size))
    have HP := Lib.hid hby
    clear hby hbel
    go_wp2_with fail
    refine (rput_any _ _ l _ (HR.out.later HB2.out).flds HI.out (by omega)).mono ?_
    intro e w3 hg
    obtain ⟨⟨a3, c3, rfl, hby⟩, hbel⟩ := hg.got
    have HB3 := Lib.hid (HB2.out.trans (hbel.mono HB2.out.size))
    have HP3 := Lib.hid (HP.out.later hbel)
    have HQ := Lib.hid hby
    clear hby hbel hg
    go_wp2_with fail
    refine (get_any _ _ l tag _ (HR.out.later HB3.out).flds (by omega)).mono ?_
    rintro e w4 ⟨rfl, hbel⟩
    have HB4 := Lib.hid (HB3.out.trans (hbel.mono HB3.out.size))
    have HP4 := Lib.hid (HP3.out.later hbel)
    have HQ4 := Lib.hid (HQ.out.later hbel)
    clear hbel
    go_wp2_with fail
    refine (rget_any _ _ l tag _ (HR.out.later HB4.out).flds (by omega)).mono ?_
    rintro e w' ⟨rfl, rfl⟩
    go_wp2_with fail
    refine (num_any _ _ l tag _ (HR.out.later HB4.out).flds HI.out (by omega) (HL.out.below HB4.out)).mono ?_
    rintro e w5 ⟨rfl, hbel⟩
    have HB5 := Lib.hid (HB4.out.trans (hbel.mono HB4.out.size))
    have HP5 := Lib.hid (HP4.out.later hbel)
    have HQ5 := Lib.hid (HQ4.out.later hbel)
    clear hbel
    go_wp2_with fail
    refine (Num.rparse_any _ _).mono ?_
    rintro e w' ⟨rfl, rfl⟩
    rcases num_cases l tag with ⟨n1, n2, n3, n4⟩ | ⟨n1, n2, n3, n4⟩ | ⟨n1, n2, n3, n4, n5⟩
    all_goals
      go_wp2_with fail
      go_loopw [17] (fun i_ wr => ∃ k : Nat, k ≤ l.length ∧ i_ = .int .i64 k ∧ Below w5.heap.size w5 wr) (fun i_ _ => l.length - (intOf i_).toNat)
      case atStart => exact ⟨0, Nat.zero_le _, rfl, Below.refl _ _⟩
      case round =>
        obtain ⟨k, hk, rfl, hbel⟩ := hrel
        have HB6 := Lib.hid hbel
        clear hbel
        by_cases hlt : k < l.length
        · obtain ⟨b, off, rfl, hc⟩ := ((HR.out.later HB5.out).flds.later HB6.out).at (by omega)
          obtain ⟨⟨t, u⟩, hf⟩ : ∃ f, l[k]? = some f := ⟨_, List.getElem?_eq_getElem hlt⟩
          have ⟨c0, c1⟩ := hc k _ hf
          have ⟨_, _, hu⟩ := HI.out ⟨t, u⟩ (List.mem_of_getElem? hf)
          clear hc hf
          have hbq := HB6.out
          go_wp2_with fail
          go_region_held3 (fun w' => Below w5.heap.size w5 w' ∧ w'.cell? ⟨b, off + k * 2, none⟩ = some (.int .i64 t) ∧ w'.cell? ⟨b, off + k * 2 + 1, none⟩ = some (.string u))
            (((try dsimp only); (repeat' apply And.intro); all_goals (first | exact hbq.drew | assumption | go_keep)))
            (first
              | (go_at_call 15; refine (right_held t u hu _ w5 (Nat.le_refl _) ⟨b, off + k * 2, none⟩ ⟨b, off + k * 2 + 1, none⟩ _ ?_).mono ?_; (simp [*]); rintro e w6 ⟨rfl, hb6, hd6, he6⟩)
              | (go_at_call 16; refine (rright_held t u hu _ w5 (Nat.le_refl _) ⟨b, off + k * 2, none⟩ ⟨b, off + k * 2 + 1, none⟩ _ ?_).mono ?_; (simp [*]); rintro e w7 ⟨rfl, hb7, hd7, he7⟩))
          have HB7 := Lib.hid hb7
          clear hb7 hd7 he7 hb6 hd6 he6 c0 c1
          go_wp2_with fail
          go_roundw
          case rel => exact ⟨k + 1, by omega, by go_num, HB7.out⟩
          case measure => simp [intOf]; omega
        · obtain rfl : k = l.length := by omega
          have cv := string_of (P := Tryd.prog) Tryd.underlying25 Tryd.underlying5 Tryd.underlying9 (HP5.out.later HB6.out) _ rfl
          have cw := string_of (P := Tryd.prog) Tryd.underlying25 Tryd.underlying5 Tryd.underlying9 (HQ5.out.later HB6.out) _ rfl
          go_wp2_with fail
          go_ret
          exact ⟨rfl, HB5.out.trans (HB6.out.mono HB5.out.size)⟩

end Fld
end Go.Proofs.YtamhimmggoifgaaDoor
