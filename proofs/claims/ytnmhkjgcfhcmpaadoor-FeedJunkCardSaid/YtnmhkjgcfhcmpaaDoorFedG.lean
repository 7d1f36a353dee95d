/-
  The library's calls that layer 4's program makes: bytes.Clone of any bytes, slices.Grow of none, slices.Concat of two.
-/
import Derived.Test.YtnmhkjgcfhcmpaaDoorBy
import Derived.Test.YtnmhkjgcfhcmpaaDoorLaid
import Derived.Lib.AppendZeros
namespace Go.Proofs.YtnmhkjgcfhcmpaaDoor
open Go.RowKit
namespace Frm

theorem infoU : (Tryd.prog.info? 5).map (fun i => (i.zero, i.size, i.bytes)) = some (some (.int .u8 0), 1, 1) := by kernel_rfl

/-- a copy of any bytes: new memory, or none -/
theorem clone_any (a : Option Addr) (cap : Nat) (l : List UInt8) (n : Nat) (hn : l.length = n) (w : World) (hby : BytesAt w a cap l) (hlen : n ≤ 70368744177664) :
    Calls Tryd.prog 12 #[.slice a n cap] w fun e w' => ∃ v, e = .returned v ∧ OwnG 5 w' w.heap.size v l ∧ Below w.heap.size w w' := by
  subst hn
  obtain ⟨i0, hi0, hz0, hz1, hz2⟩ := info_parts infoU
  have HI0 := Lib.hid hi0
  have HZ0 := Lib.hid hz0
  have HZ1 := Lib.hid hz1
  have HZ2 := Lib.hid hz2
  clear hi0 hz0 hz1 hz2
  have HB := Lib.hid hby
  have qT : ∀ (w : World) (a : Option Addr) (n c n' c' : Nat), (binOp .eql 22 (.slice a n c) (.slice none n' c')).run Tryd.prog w = .ok (.bool a.isNone) w := fun w a n c n' c' => Lib.run_eql_slice_nil w _ _ a n c n' c' Tryd.underlying22
  rcases hby with ⟨rfl, rfl, rfl⟩ | ⟨x, rfl, _⟩
  · go_enter Tryd.func12, Tryd.ntmps12
    go_wp2_with fail
    go_ret
    exact ⟨_, rfl, .inl ⟨rfl, rfl⟩, Below.refl _ _⟩
  · go_enter Tryd.func12, Tryd.ntmps12
    go_wp2_with (at_builtin; refine wpList_append_g rfl (.tmp 5) (.tmp 6) _ rfl w.heap.size 5 i0 _ Tryd.underlying22 HI0.out HZ0.out HZ1.out HZ2.out rfl _ [] rfl (Own.g (own_empty w 5 w.heap.size (Nat.le_refl _))) _ _ _ l rfl rfl (HB.out.later ((Below.refl _ _).alloc (Nat.le_refl _) _)) (by simp; omega) (Below.alloc (Below.refl _ _) (Nat.le_refl _) _).size ?_; intro v2 w2 hown2 hb2 _; rw [List.nil_append] at hown2
                 have HO2 := Lib.hid hown2; have HB2 := Lib.hid (((Below.refl _ _).alloc (Nat.le_refl _) _).trans hb2); clear hown2 hb2)
    go_ret
    exact ⟨_, rfl, HO2.out, HB2.out⟩

set_option maxRecDepth 100000 in
set_option maxHeartbeats 2000000 in
/-- room for n bytes, and none in it -/
theorem grow_any (n : Nat) (hn : n ≤ 1000000) (x : Int) (hx : x = (n : Int)) (w : World) :
    Calls Tryd.prog 19 #[.slice none 0 0, .int .i64 x] w fun e w' => ∃ v, e = .returned v ∧ OwnG 5 w' w.heap.size v [] ∧ Below w.heap.size w w' := by
  subst hx
  obtain ⟨i0, hi0, hz0, hz1, hz2⟩ := info_parts infoU
  have HI0 := Lib.hid hi0
  have HZ0 := Lib.hid hz0
  have HZ1 := Lib.hid hz1
  have HZ2 := Lib.hid hz2
  clear hi0 hz0 hz1 hz2
  rcases Nat.eq_zero_or_pos n with rfl | hp
  · go_enter Tryd.func19, Tryd.ntmps19
    go_wp2_with fail
    go_ret
    exact ⟨_, rfl, .inl ⟨rfl, rfl⟩, Below.refl _ _⟩
  · have hge := grownCap_ge w n 0 5
    have hle := grownCap_le_maxLen w n 0 5 (by unfold maxLen; omega)
    have HR : Hid ((Builtin.append_ #[22, 3] 22 #[.slice none 0 0, .int .i64 n]).run Tryd.prog w = .ok (.slice (some ⟨w.heap.size, 0, none⟩) n (grownCap w n 0 5)) (w.drew.alloc (.cells (Builtin.zeroCells (Value.int .u8 0).cells n ++ Builtin.zeroCells (Value.int .u8 0).cells (grownCap w n 0 5 - n)) 5))) :=
      Lib.hid (Lib.run_append_nil_zeros w _ _ _ _ i0 _ .i64 .i64 Tryd.underlying22 Tryd.underlying3 HI0.out HZ0.out n hp (by rw [HZ1.out]; decide) (by omega) (by rw [HZ2.out]; omega))
    have HO : Hid (OwnG 5 (w.drew.alloc (.cells (Builtin.zeroCells (Value.int .u8 0).cells n ++ Builtin.zeroCells (Value.int .u8 0).cells (grownCap w n 0 5 - n)) 5)) w.heap.size (.slice (some ⟨w.heap.size, 0, none⟩) 0 (grownCap w n 0 5)) []) :=
      Lib.hid (.inr ⟨w.heap.size, _, _, (0, 0), rfl, Nat.le_refl _, by show (w.heap.push _)[w.heap.size]? = _; rw [Array.getElem?_push, if_pos rfl], Nat.zero_le _, hle, by
        rw [Array.size_append, size_zeroCells, size_zeroCells]
        show n * 1 + (grownCap w n 0 5 - n) * 1 = _
        omega, rfl, .inr rfl⟩)
    have HB : Hid (Below w.heap.size w (w.drew.alloc (.cells (Builtin.zeroCells (Value.int .u8 0).cells n ++ Builtin.zeroCells (Value.int .u8 0).cells (grownCap w n 0 5 - n)) 5))) :=
      Lib.hid ((Below.refl _ _).drew.alloc (Nat.le_refl _) _)
    obtain ⟨gc, hgc⟩ : ∃ gc, grownCap w n 0 5 = gc := ⟨_, rfl⟩
    rw [hgc] at HR HO HB hge hle
    clear hgc
    generalize w.drew.alloc (.cells (Builtin.zeroCells (Value.int .u8 0).cells n ++ Builtin.zeroCells (Value.int .u8 0).cells (gc - n)) 5) = w2 at HR HO HB
    go_enter Tryd.func19, Tryd.ntmps19
    go_wp2_with (at_builtin; refine Lib.wpList_append_run _ rfl (.tmp 20) (.tmp 21) _ _ rfl _ _ rfl rfl _ _ HR.out ?_)
    go_ret
    exact ⟨_, rfl, HO.out, HB.out⟩

set_option maxRecDepth 100000 in
set_option maxHeartbeats 2000000 in
/-- two lists of bytes, one behind the other: new memory, or none -/
theorem concat_two (g c : Nat) (a0 : Option Addr) (c0 : Nat) (l0 : List UInt8) (a1 : Option Addr) (c1 : Nat) (l1 : List UInt8) (w : World)
    (h0 : w.cell? ⟨g, 0, none⟩ = some (.slice a0 l0.length c0)) (h1 : w.cell? ⟨g, 1, none⟩ = some (.slice a1 l1.length c1))
    (b0 : BytesAt w a0 c0 l0) (b1 : BytesAt w a1 c1 l1) (k0 : l0.length ≤ 100000) (k1 : l1.length ≤ 100000) :
    Calls Tryd.prog 13 #[.slice (some ⟨g, 0, none⟩) 2 c] w fun e w' => ∃ v, e = .returned v ∧ OwnG 5 w' w.heap.size v (l0 ++ l1) ∧ Below w.heap.size w w' := by
  obtain ⟨i0, hi0, hz0, hz1, hz2⟩ := info_parts infoU
  have HI0 := Lib.hid hi0
  have HZ0 := Lib.hid hz0
  have HZ1 := Lib.hid hz1
  have HZ2 := Lib.hid hz2
  clear hi0 hz0 hz1 hz2
  have HB0 := Lib.hid b0
  have HB1 := Lib.hid b1
  have HC0 := Lib.hid h0
  have HC1 := Lib.hid h1
  have HG : Hid (g < w.heap.size) := Lib.hid (cell_lt (p := ⟨g, 0, none⟩) h0)
  clear b0 b1
  go_enter Tryd.func13, Tryd.ntmps13
  go_wp2_with fail
  refine wp_loop_rounds 3 ?_
  rw [rounds_succ]
  go_wp2_with fail
  rw [rounds_succ]
  go_wp2_with fail
  rw [rounds_succ]
  go_wp2_with fail
  refine (grow_any (l0.length + l1.length) (by omega) _ (by omega) _).mono ?_
  rintro e w1 ⟨v, rfl, ho, hb⟩
  have HO1 := Lib.hid ho
  have HW1 := Lib.hid hb
  have h0' : w1.cell? ⟨g, 0, none⟩ = some (.slice a0 l0.length c0) := (hb.cell (p := ⟨g, 0, none⟩) HG.out).trans h0
  have h1' : w1.cell? ⟨g, 1, none⟩ = some (.slice a1 l1.length c1) := (hb.cell (p := ⟨g, 1, none⟩) HG.out).trans h1
  clear ho hb h0 h1
  go_wp2_with fail
  refine wp_loop_rounds 3 ?_
  rw [rounds_succ]
  go_wp2_with (at_builtin; refine wpList_append_g rfl (.tmp 31) (.tmp 32) _ rfl w.heap.size 5 i0 _ Tryd.underlying22 HI0.out HZ0.out HZ1.out HZ2.out rfl _ [] rfl HO1.out _ _ _ l0 rfl rfl (HB0.out.later HW1.out) (by simp; omega) HW1.out.size ?_; intro v2 w2 hown2 hb2 _; rw [List.nil_append] at hown2
               have HO2 := Lib.hid hown2; have HW2 := Lib.hid (HW1.out.trans hb2); clear hown2 hb2)
  have h1'' : w2.cell? ⟨g, 1, none⟩ = some (.slice a1 l1.length c1) := (HW2.out.cell (p := ⟨g, 1, none⟩) HG.out).trans HC1.out
  clear h0' h1'
  rw [rounds_succ]
  go_wp2_with (at_builtin; refine wpList_append_g rfl (.tmp 31) (.tmp 32) _ rfl w.heap.size 5 i0 _ Tryd.underlying22 HI0.out HZ0.out HZ1.out HZ2.out rfl _ l0 rfl HO2.out _ _ _ l1 rfl rfl (HB1.out.later HW2.out) (by omega) HW2.out.size ?_; intro v3 w3 hown3 hb3 _
               have HO3 := Lib.hid hown3; have HW3 := Lib.hid (HW2.out.trans hb3); clear hown3 hb3)
  rw [rounds_succ]
  go_wp2_with fail
  go_ret
  exact ⟨_, rfl, HO3.out, HW3.out⟩

end Frm
end Go.Proofs.YtnmhkjgcfhcmpaaDoor
