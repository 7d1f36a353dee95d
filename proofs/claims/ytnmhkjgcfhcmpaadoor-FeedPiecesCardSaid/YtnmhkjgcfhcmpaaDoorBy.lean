/-
  The library's calls on bytes (HasPrefix, HasSuffix, CutPrefix, Index, Clone, Cut at no byte), in the words of 'BytesAt'.
-/
import Derived.Test.YtnmhkjgcfhcmpaaDoorIxB
import Derived.Test.YtnmhkjgcfhcmpaaDoorShelf
import Derived.Test.YtnmhkjgcfhcmpaaDoorMemG
import Derived.Test.YtnmhkjgcfhcmpaaDoorRow
import Derived.Lib.SliceRun
import Derived.Lib.Strings
import Derived.Lib.Index
namespace Go.Proofs.YtnmhkjgcfhcmpaaDoor
open Go.RowKit

/-- bytes as the numbers that their cells hold -/
def numsB (l : List UInt8) : List Int := l.map fun c => (c.toNat : Int)
theorem numsB_len (l : List UInt8) : (numsB l).length = l.length := by simp [numsB]
theorem numsB_range (l : List UInt8) : ∀ x ∈ numsB l, 0 ≤ x ∧ x < 256 := by
  intro x hx
  unfold numsB at hx
  rw [List.mem_map] at hx
  obtain ⟨c, _, rfl⟩ := hx
  have := c.toNat_lt
  omega
theorem BytesAt.nums {w : World} {x : Addr} {cap : Nat} {l : List UInt8} (h : BytesAt w (some x) cap l) : ∀ i, i < l.length → w.cell? (x.add i) = some (.int .u8 ((numsB l).getD i 0)) := by
  intro i hi
  rcases h with ⟨h, _⟩ | ⟨y, hy, _, hc⟩
  · cases h
  · obtain rfl := Option.some.inj hy
    rw [hc i hi, List.getD_eq_getElem?_getD]
    unfold numsB
    rw [List.getElem?_map, List.getElem?_eq_getElem hi]
    rfl
theorem BytesAt.nums' {w : World} {b o cap : Nat} {l : List UInt8} (h : BytesAt w (some ⟨b, o, none⟩) cap l) : ∀ i, i < l.length → w.cell? ⟨b, o + i, none⟩ = some (.int .u8 ((numsB l).getD i 0)) := by
  intro i hi
  have := h.nums i hi
  rwa [add_none] at this
theorem BytesAt.len_cap {w : World} {x : Addr} {cap : Nat} {l : List UInt8} (h : BytesAt w (some x) cap l) : l.length ≤ cap := h.cap

theorem by_HasPrefix (b1 o1 c1 b2 o2 c2 : Nat) (l k : List UInt8) (n m : Nat) (hn : l.length = n) (hm : k.length = m) (w : World) (h1 : BytesAt w (some ⟨b1, o1, none⟩) c1 l) (h2 : BytesAt w (some ⟨b2, o2, none⟩) c2 k) :
    Calls Tryd.prog 22 #[.slice (some ⟨b1, o1, none⟩) n c1, .slice (some ⟨b2, o2, none⟩) m c2] w fun e w' => e = .returned (.bool (k.isPrefixOf l)) ∧ w' = w := by
  subst hn hm
  have h := Tryd.bytes_HasPrefix b1 o1 l.length c1 b2 o2 k.length c2 (numsB l) (numsB k) w (numsB_len l) (numsB_len k) h1.cap h1.nums' h2.nums'
  unfold numsB at h
  rw [bytesOf_nat, bytesOf_nat] at h
  exact h
theorem by_HasSuffix (b1 o1 c1 b2 o2 c2 : Nat) (l k : List UInt8) (n m : Nat) (hn : l.length = n) (hm : k.length = m) (w : World) (h1 : BytesAt w (some ⟨b1, o1, none⟩) c1 l) (h2 : BytesAt w (some ⟨b2, o2, none⟩) c2 k) (hbig : n ≤ 9223372036854775807) :
    Calls Tryd.prog 34 #[.slice (some ⟨b1, o1, none⟩) n c1, .slice (some ⟨b2, o2, none⟩) m c2] w fun e w' => e = .returned (.bool (k.isSuffixOf l)) ∧ w' = w := by
  subst hn hm
  have h := Tryd.bytes_HasSuffix b1 o1 l.length c1 b2 o2 k.length c2 (numsB l) (numsB k) w (numsB_len l) (numsB_len k) h1.cap hbig h1.nums' h2.nums'
  unfold numsB at h
  rw [bytesOf_nat, bytesOf_nat] at h
  exact h
theorem by_Index (a1 a2 : Addr) (c1 c2 : Nat) (l k : List UInt8) (n m : Nat) (hn : l.length = n) (hm : k.length = m) (w : World) (h1 : BytesAt w (some a1) c1 l) (h2 : BytesAt w (some a2) c2 k) (hs : n < 4294967281) (hk : m ≤ 9223372036854775807)
    (hmax : ∃ m, w.cell? ⟨0, 0, none⟩ = some (.int .i64 m)) :
    Calls Tryd.prog 33 #[.slice (some a1) n c1, .slice (some a2) m c2] w fun e w' => e = .returned (.int .i64 (Lib.index l k)) ∧ Below w.heap.size w w' := by
  subst hn hm
  obtain ⟨mm, hmm⟩ := hmax
  have h := Tryd.bytes_Index_at a1 a2 l.length c1 k.length c2 (numsB l) (numsB k) mm w (numsB_len l) (numsB_len k) (numsB_range l) (numsB_range k) h1.nums h2.nums h1.cap hs hk hmm
  unfold numsB at h
  rw [bytesOf_nat, bytesOf_nat] at h
  refine h.mono ?_
  rintro e w' ⟨he, q, rfl⟩
  exact ⟨he, drew_below _ _⟩

/-- what CutPrefix tells where it is there -/
theorem by_CutPrefix_hit (b1 o1 c1 b2 o2 c2 : Nat) (l k : List UInt8) (n m : Nat) (hn : l.length = n) (hm : k.length = m) (w : World) (h1 : BytesAt w (some ⟨b1, o1, none⟩) c1 l) (h2 : BytesAt w (some ⟨b2, o2, none⟩) c2 k) (_hbig : n ≤ 9223372036854775807) (hp : k.isPrefixOf l = true) :
    Calls Tryd.prog 29 #[.slice (some ⟨b1, o1, none⟩) n c1, .slice (some ⟨b2, o2, none⟩) m c2] w fun e w' =>
      ∃ o' c', e = .returned (.tuple #[.slice (some ⟨b1, o', none⟩) (n - m) c', .bool true]) ∧ (∀ v, BytesAt v (some ⟨b1, o1, none⟩) c1 l → BytesAt v (some ⟨b1, o', none⟩) c' (l.drop m)) ∧ Below w.heap.size w w' := by
  have hmn : m ≤ n := by have := (List.isPrefixOf_iff_prefix.1 hp).length_le; omega
  have hcap := h1.cap
  rw [hn] at hcap
  have HN := Lib.hid hn
  have H1 := Lib.hid h1
  have HP := Lib.hid (fun w h1 h2 => by_HasPrefix b1 o1 c1 b2 o2 c2 l k n m hn hm w h1 h2)
  rw [hp] at HP
  have H2 := Lib.hid h2
  clear h1 h2 hn hm hp
  go_enter Tryd.func29, Tryd.ntmps29
  go_wp2_with fail
  refine (HP.out _ H1.out H2.out).mono ?_
  rintro e w' ⟨rfl, rfl⟩
  go_wp2_with fail
  all_goals go_ret2
  · refine ⟨_, _, rfl, fun v hv => .inr ⟨_, rfl, by rw [List.length_drop, HN.out]; omega, fun i hi => ?_⟩, Below.refl _ _⟩
    rw [List.length_drop, HN.out] at hi; omega
  · refine ⟨_, _, rfl, fun v hv => ?_, Below.refl _ _⟩
    have hd := hv.drop m (by rw [HN.out]; exact hmn)
    rwa [add_none] at hd
/-- where it isn't -/
theorem by_CutPrefix_miss (b1 o1 c1 b2 o2 c2 : Nat) (l k : List UInt8) (n m : Nat) (hn : l.length = n) (hm : k.length = m) (w : World) (h1 : BytesAt w (some ⟨b1, o1, none⟩) c1 l) (h2 : BytesAt w (some ⟨b2, o2, none⟩) c2 k) (hp : k.isPrefixOf l = false) :
    Calls Tryd.prog 29 #[.slice (some ⟨b1, o1, none⟩) n c1, .slice (some ⟨b2, o2, none⟩) m c2] w fun e w' => e = .returned (.tuple #[.slice (some ⟨b1, o1, none⟩) n c1, .bool false]) ∧ w' = w := by
  have H1 := Lib.hid h1
  have HP := Lib.hid (fun w h1 h2 => by_HasPrefix b1 o1 c1 b2 o2 c2 l k n m hn hm w h1 h2)
  rw [hp] at HP
  have H2 := Lib.hid h2
  clear h1 h2 hn hm hp
  go_enter Tryd.func29, Tryd.ntmps29
  go_wp2_with fail
  refine (HP.out _ H1.out H2.out).mono ?_
  rintro e w' ⟨rfl, rfl⟩
  go_wp2_with fail
  go_ret2
  exact ⟨rfl, rfl⟩
theorem by_HasPrefix_short (a1 a2 : Option Addr) (n c1 m c2 : Nat) (h : n < m) (_hm : m ≤ 9223372036854775807) (w : World) :
    Calls Tryd.prog 22 #[.slice a1 n c1, .slice a2 m c2] w fun e w' => e = .returned (.bool false) ∧ w' = w := by
  have d : decide ((m : Int) ≤ (n : Int)) = false := decide_eq_false (by omega)
  go_enter Tryd.func22, Tryd.ntmps22
  go_wp2_with fail
  go_ret
  exact ⟨rfl, rfl⟩
/-- where there are too few bytes -/
theorem by_CutPrefix_short (a1 a2 : Option Addr) (n c1 m c2 : Nat) (h : n < m) (hm : m ≤ 9223372036854775807) (w : World) :
    Calls Tryd.prog 29 #[.slice a1 n c1, .slice a2 m c2] w fun e w' => e = .returned (.tuple #[.slice a1 n c1, .bool false]) ∧ w' = w := by
  have HP := Lib.hid (fun w => by_HasPrefix_short a1 a2 n c1 m c2 h hm w)
  clear h hm
  go_enter Tryd.func29, Tryd.ntmps29
  go_wp2_with fail
  refine (HP.out _).mono ?_
  rintro e w' ⟨rfl, rfl⟩
  go_wp2_with fail
  go_ret2
  exact ⟨rfl, rfl⟩

set_option maxRecDepth 100000 in
/-- Cut of no byte -/
theorem by_IndexByte_none (b o cap : Nat) (n : Int) (w : World) :
    Calls Tryd.prog 44 #[.slice (some ⟨b, o, none⟩) 0 cap, .int .u8 n] w fun e w' => e = .returned (.int .i64 (-1)) ∧ w' = w := by
  go_enter Tryd.func44, Tryd.ntmps44
  go_wp2_with fail
  rw [run_callFunc_extern Tryd.func60 (by kernel_rfl) (by kernel_rfl) (by kernel_rfl) (e := Extern.BytealgIndexByte.indexByte) (by kernel_rfl), Lib.run_indexByteSlice (P := Tryd.prog) w b o 0 cap [] rfl (fun i hi => absurd hi (by omega)) n]
  simp only [Result.andThen]
  rw [Oper.upon_value]
  go_wp2_with fail
  go_ret
  exact ⟨rfl, rfl⟩
set_option maxRecDepth 100000 in
theorem by_Cut_none (b o cap : Nat) (c : UInt8) (a2 : Option Addr) (cap2 : Nat) (w : World) (h2 : BytesAt w a2 cap2 [c]) :
    Calls Tryd.prog 31 #[.slice (some ⟨b, o, none⟩) 0 cap, .slice a2 1 cap2] w fun e w' => e = .returned (.tuple #[.slice (some ⟨b, o, none⟩) 0 cap, .slice none 0 0, .bool false]) ∧ w' = w := by
  obtain ⟨b2, o2, rfl, hc2⟩ := h2.at (Nat.zero_lt_succ _)
  have hcell : w.cell? ⟨b2, o2, none⟩ = some (.int .u8 (c.toNat : Int)) := by
    have := hc2 0 (Nat.zero_lt_succ _)
    rwa [Nat.add_zero] at this
  clear hc2 h2
  have HI : Hid (Calls Tryd.prog 33 #[.slice (some ⟨b, o, none⟩) 0 cap, .slice (some ⟨b2, o2, none⟩) 1 cap2] w fun e w' => e = .returned (.int .i64 (-1)) ∧ w' = w) := Lib.hid (by
    go_enter Tryd.func33, Tryd.ntmps33
    go_wp2_with fail
    refine (by_IndexByte_none b o cap _ _).mono ?_
    rintro e w' ⟨rfl, rfl⟩
    go_wp2_with fail
    go_ret
    exact ⟨rfl, rfl⟩)
  clear hcell
  go_enter Tryd.func31, Tryd.ntmps31
  go_wp2_with fail
  refine HI.out.mono ?_
  rintro e w' ⟨rfl, rfl⟩
  go_wp2_with fail
  go_ret3
  exact ⟨rfl, rfl⟩

/-- a copy of bytes, of which there is one at least: new memory -/
theorem by_Clone (a : Option Addr) (cap : Nat) (l : List UInt8) (n : Nat) (hn : l.length = n) (w : World) (hby : BytesAt w a cap l) (h0 : 0 < n) (hlen : n ≤ 70368744177664) :
    Calls Tryd.prog 12 #[.slice a n cap] w fun e w' => ∃ v, e = .returned v ∧ OwnG 5 w' w.heap.size v l ∧ Below w.heap.size w w' := by
  subst hn
  obtain ⟨i0, hi0, hz0, hz1, hz2⟩ := info_parts (show (Tryd.prog.info? 5).map (fun i => (i.zero, i.size, i.bytes)) = some (some (.int .u8 0), 1, 1) by kernel_rfl)
  have HI0 := Lib.hid hi0
  have HZ0 := Lib.hid hz0
  have HZ1 := Lib.hid hz1
  have HZ2 := Lib.hid hz2
  clear hi0 hz0 hz1 hz2
  have HB := Lib.hid hby
  obtain ⟨g, off, rfl, _⟩ := hby.at h0
  clear hby
  have qT : ∀ (w : World) (a : Option Addr) (n c n' c' : Nat), (binOp .eql 22 (.slice a n c) (.slice none n' c')).run Tryd.prog w = .ok (.bool a.isNone) w := fun w a n c n' c' => Lib.run_eql_slice_nil w _ _ a n c n' c' Tryd.underlying22
  go_enter Tryd.func12, Tryd.ntmps12
  go_wp2_with (at_builtin; refine wpList_append_g rfl (.tmp 5) (.tmp 6) _ rfl w.heap.size 5 i0 _ Tryd.underlying22 HI0.out HZ0.out HZ1.out HZ2.out rfl _ [] rfl (Own.g (own_empty w 5 w.heap.size (Nat.le_refl _))) _ _ _ l rfl (by rfl) (HB.out.later ((Below.refl _ _).alloc (Nat.le_refl _) _)) (by simp only [List.length_nil]; omega) (by simp) ?_; intro v2 w2 hown2 hb2 _
               have HO2 := Lib.hid hown2; have HB2 := Lib.hid (((Below.refl _ _).alloc (Nat.le_refl _) _).trans hb2); clear hown2 hb2)
  go_ret
  exact ⟨_, rfl, HO2.out, HB2.out⟩

end Go.Proofs.YtnmhkjgcfhcmpaaDoor
