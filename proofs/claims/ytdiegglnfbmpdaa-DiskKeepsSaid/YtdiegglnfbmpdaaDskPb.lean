/-
  The program's layer 9: copies of bytes, all of a file, its first bytes.
-/
import Derived.Test.YtdiegglnfbmpdaaDskPa
import Derived.Lib.AppendZeros
import Derived.Lib.SliceRun
namespace Go.Proofs.Ytdiegglnfbmpdaa
open Go.RowKit
namespace Dsk

theorem infoU9 : (Try.prog.info? 5).map (fun i => (i.zero, i.size, i.bytes)) = some (some (.int .u8 0), 1, 1) := by kernel_rfl

/-- a copy of any bytes: new memory, or none -/
theorem clone_own (a : Option Addr) (cap : Nat) (l : List UInt8) (n : Nat) (hn : l.length = n) (w : World) (hby : BytesAt w a cap l) (hlen : n ≤ 70368744177664) :
    Calls Try.prog 19 #[.slice a n cap] w fun e w' => ∃ b k, e = .returned (.slice b n k) ∧ Own 5 w' w.heap.size (.slice b n k) l ∧ Below w.heap.size w w' := by
  subst hn
  obtain ⟨i0, hi0, hz0, hz1, hz2⟩ := info_parts infoU9
  have HI0 := Lib.hid hi0
  have HZ0 := Lib.hid hz0
  have HZ1 := Lib.hid hz1
  have HZ2 := Lib.hid hz2
  clear hi0 hz0 hz1 hz2
  have HB := Lib.hid hby
  have qT : ∀ (w : World) (a : Option Addr) (n c n' c' : Nat), (binOp .eql 24 (.slice a n c) (.slice none n' c')).run Try.prog w = .ok (.bool a.isNone) w := fun w a n c n' c' => Lib.run_eql_slice_nil w _ _ a n c n' c' Try.underlying24
  rcases hby with ⟨rfl, rfl, rfl⟩ | ⟨x, rfl, _⟩
  · go_enter Try.func19, Try.ntmps19
    go_wp2_with fail
    go_ret
    exact ⟨_, _, rfl, Own.nil _ _ _, Below.refl _ _⟩
  · go_enter Try.func19, Try.ntmps19
    go_wp2_with (at_builtin; refine wpList_append_by rfl (.tmp 5) (.tmp 6) 24 rfl w.heap.size 5 i0 _ Try.underlying24 HI0.out HZ0.out HZ1.out HZ2.out rfl _ [] rfl (own_empty w 5 w.heap.size (Nat.le_refl _)) _ _ _ l rfl rfl (HB.out.later ((Below.refl _ _).alloc (Nat.le_refl _) _)) (by simp; omega) (Below.alloc (Below.refl _ _) (Nat.le_refl _) _).size ?_; intro v2 w2 hown2 hg2 _; rw [List.nil_append] at hown2
                 have HO2 := Lib.hid hown2; have HB2 := Lib.hid (((Below.refl w.heap.size w).alloc (Nat.le_refl _) _).grown hg2 (Below.alloc (Below.refl _ _) (Nat.le_refl _) _).size (fun j hj => (own_lt (own_empty w 5 w.heap.size (Nat.le_refl _)) j hj).1)); clear hown2 hg2)
    go_ret
    obtain ⟨b, k, e, _⟩ := HO2.out.bytes
    subst e
    exact ⟨_, _, rfl, HO2.out, HB2.out⟩

set_option maxRecDepth 100000 in
set_option maxHeartbeats 2000000 in
/-- room for n bytes, and none in it -/
theorem grow_any (n : Nat) (hn : n ≤ 1000000) (x : Int) (hx : x = (n : Int)) (w : World) :
    Calls Try.prog 21 #[.slice none 0 0, .int .i64 x] w fun e w' => ∃ v, e = .returned v ∧ OwnG 5 w' w.heap.size v [] ∧ Below w.heap.size w w' := by
  subst hx
  obtain ⟨i0, hi0, hz0, hz1, hz2⟩ := info_parts infoU9
  have HI0 := Lib.hid hi0
  have HZ0 := Lib.hid hz0
  have HZ1 := Lib.hid hz1
  have HZ2 := Lib.hid hz2
  clear hi0 hz0 hz1 hz2
  rcases Nat.eq_zero_or_pos n with rfl | hp
  · go_enter Try.func21, Try.ntmps21
    go_wp2_with fail
    go_ret
    exact ⟨_, rfl, .inl ⟨rfl, rfl⟩, Below.refl _ _⟩
  · have hge := grownCap_ge w n 0 5
    have hle := grownCap_le_maxLen w n 0 5 (by unfold maxLen; omega)
    have HR : Hid ((Builtin.append_ #[24, 3] 24 #[.slice none 0 0, .int .i64 n]).run Try.prog w = .ok (.slice (some ⟨w.heap.size, 0, none⟩) n (grownCap w n 0 5)) (w.drew.alloc (.cells (Builtin.zeroCells (Value.int .u8 0).cells n ++ Builtin.zeroCells (Value.int .u8 0).cells (grownCap w n 0 5 - n)) 5))) :=
      Lib.hid (Lib.run_append_nil_zeros w _ _ _ _ i0 _ .i64 .i64 Try.underlying24 Try.underlying3 HI0.out HZ0.out n hp (by rw [HZ1.out]; decide) (by omega) (by rw [HZ2.out]; omega))
    have HO : Hid (OwnG 5 (w.drew.alloc (.cells (Builtin.zeroCells (Value.int .u8 0).cells n ++ Builtin.zeroCells (Value.int .u8 0).cells (grownCap w n 0 5 - n)) 5)) w.heap.size (.slice (some ⟨w.heap.size, 0, none⟩) 0 (grownCap w n 0 5)) []) :=
      Lib.hid (.inr ⟨w.heap.size, _, _, (0, 0), rfl, Nat.le_refl _, by show (w.heap.push _)[w.heap.size]? = _; rw [Array.getElem?_push, if_pos rfl], Nat.zero_le _, hle, by
        rw [Array.size_append, size_zeroCells, size_zeroCells]
        show n * 1 + (grownCap w n 0 5 - n) * 1 = _
        omega, rfl, .inr rfl⟩)
    have HB : Hid (Below w.heap.size w (w.drew.alloc (.cells (Builtin.zeroCells (Value.int .u8 0).cells n ++ Builtin.zeroCells (Value.int .u8 0).cells (grownCap w n 0 5 - n)) 5))) :=
      Lib.hid ((Below.refl _ _).drew.alloc (Nat.le_refl _) _)
    obtain ⟨gc, hgc⟩ : ∃ gc, grownCap w n 0 5 = gc := ⟨_, rfl⟩
    rw [hgc] at HR HO HB hge hle
    clear hgc
    generalize w.drew.alloc (.cells (Builtin.zeroCells (Value.int .u8 0).cells n ++ Builtin.zeroCells (Value.int .u8 0).cells (gc - n)) 5) = w2 at HR HO HB
    go_enter Try.func21, Try.ntmps21
    go_wp2_with (at_builtin; refine Lib.wpList_append_run _ rfl (.tmp 20) (.tmp 21) _ _ rfl _ _ rfl rfl _ _ HR.out ?_)
    go_ret
    exact ⟨_, rfl, HO.out, HB.out⟩

set_option maxRecDepth 100000 in
set_option maxHeartbeats 2000000 in
/-- two lists of bytes, one behind the other: new memory, or none -/
theorem concat_two (g c : Nat) (a0 : Option Addr) (c0 : Nat) (l0 : List UInt8) (a1 : Option Addr) (c1 : Nat) (l1 : List UInt8) (w : World)
    (h0 : w.cell? ⟨g, 0, none⟩ = some (.slice a0 l0.length c0)) (h1 : w.cell? ⟨g, 1, none⟩ = some (.slice a1 l1.length c1))
    (b0 : BytesAt w a0 c0 l0) (b1 : BytesAt w a1 c1 l1) (k0 : l0.length ≤ 100000) (k1 : l1.length ≤ 100000) :
    Calls Try.prog 20 #[.slice (some ⟨g, 0, none⟩) 2 c] w fun e w' => ∃ v, e = .returned v ∧ OwnG 5 w' w.heap.size v (l0 ++ l1) ∧ Below w.heap.size w w' := by
  obtain ⟨i0, hi0, hz0, hz1, hz2⟩ := info_parts infoU9
  have HI0 := Lib.hid hi0
  have HZ0 := Lib.hid hz0
  have HZ1 := Lib.hid hz1
  have HZ2 := Lib.hid hz2
  clear hi0 hz0 hz1 hz2
  have HB0 := Lib.hid b0
  have HB1 := Lib.hid b1
  have HC0 := Lib.hid h0
  have HC1 := Lib.hid h1
  have HG : Hid (g < w.heap.size) := Lib.hid (cell_lt (p := ⟨g, 0, none⟩) h0)
  clear b0 b1
  go_enter Try.func20, Try.ntmps20
  go_wp2_with fail
  refine wp_loop_rounds 3 ?_
  rw [rounds_succ]
  go_wp2_with fail
  rw [rounds_succ]
  go_wp2_with fail
  rw [rounds_succ]
  go_wp2_with fail
  refine (grow_any (l0.length + l1.length) (by omega) _ (by omega) _).mono ?_
  rintro e w1 ⟨v, rfl, ho, hb⟩
  have HO1 := Lib.hid ho
  have HW1 := Lib.hid hb
  have h0' : w1.cell? ⟨g, 0, none⟩ = some (.slice a0 l0.length c0) := (hb.cell (p := ⟨g, 0, none⟩) HG.out).trans h0
  have h1' : w1.cell? ⟨g, 1, none⟩ = some (.slice a1 l1.length c1) := (hb.cell (p := ⟨g, 1, none⟩) HG.out).trans h1
  clear ho hb h0 h1
  go_wp2_with fail
  refine wp_loop_rounds 3 ?_
  rw [rounds_succ]
  go_wp2_with (at_builtin; refine wpList_append_g rfl (.tmp 31) (.tmp 32) _ rfl w.heap.size 5 i0 _ Try.underlying24 HI0.out HZ0.out HZ1.out HZ2.out rfl _ [] rfl HO1.out _ _ _ l0 rfl rfl (HB0.out.later HW1.out) (by simp; omega) HW1.out.size ?_; intro v2 w2 hown2 hb2 _; rw [List.nil_append] at hown2
               have HO2 := Lib.hid hown2; have HW2 := Lib.hid (HW1.out.trans hb2); clear hown2 hb2)
  have h1'' : w2.cell? ⟨g, 1, none⟩ = some (.slice a1 l1.length c1) := (HW2.out.cell (p := ⟨g, 1, none⟩) HG.out).trans HC1.out
  clear h0' h1'
  rw [rounds_succ]
  go_wp2_with (at_builtin; refine wpList_append_g rfl (.tmp 31) (.tmp 32) _ rfl w.heap.size 5 i0 _ Try.underlying24 HI0.out HZ0.out HZ1.out HZ2.out rfl _ l0 rfl HO2.out _ _ _ l1 rfl rfl (HB1.out.later HW2.out) (by omega) HW2.out.size ?_; intro v3 w3 hown3 hb3 _
               have HO3 := Lib.hid hown3; have HW3 := Lib.hid (HW2.out.trans hb3); clear hown3 hb3)
  rw [rounds_succ]
  go_wp2_with fail
  go_ret
  exact ⟨_, rfl, HO3.out, HW3.out⟩

theorem two_cells (w : World) (o1 : Obj) (v0 v1 : Value) (e : TypeId) : ((w.alloc o1).alloc (.cells #[v0, v1] e)).cell? ⟨w.heap.size + 1, 0, none⟩ = some v0 ∧ ((w.alloc o1).alloc (.cells #[v0, v1] e)).cell? ⟨w.heap.size + 1, 1, none⟩ = some v1 := by
  have h := heap_alloc_new (w.alloc o1) (.cells #[v0, v1] e)
  rw [show (w.alloc o1).heap.size = w.heap.size + 1 by simp] at h
  exact ⟨by rw [cell_of_row _ _ 0 _ _ _ h]; rfl, by rw [cell_of_row _ _ 1 _ _ _ h]; rfl⟩
theorem own_blk {e : TypeId} {w : World} {base q cap : Nat} {a : Option Addr} {l : List UInt8} (h : OwnG e w base (.slice a q cap) l) : Blk (base ≤ ·) a l := fun hl x hx => by
  obtain ⟨g, e1, hb, _⟩ := h.block (by simpa using hl)
  rw [hx] at e1
  obtain rfl := Option.some.inj e1
  exact hb

set_option maxRecDepth 100000 in
/-- all of a file, as new memory -/
theorem whole_any (s t : Option Addr) (n m cn cm : Nat) (S T : List UInt8) (hS : S.length = n) (hT : T.length = m) (hn : n ≤ 100000) (hm : m ≤ 100000) (w : World) (bs : BytesAt w s cn S) (bt : BytesAt w t cm T) :
    Calls Try.prog 18 #[.agg #[.slice s n cn, .slice t m cm]] w fun e w' => ∃ b k, e = .returned (.slice b (n + m) k) ∧ BytesAt w' b k (S ++ T) ∧ Blk (w.heap.size ≤ ·) b (S ++ T) ∧ Below w.heap.size w w' := by
  have HS := Lib.hid bs
  have HT := Lib.hid bt
  clear bs bt
  subst hS hT
  go_enter Try.func18, Try.ntmps18
  go_wp2_with fail
  obtain ⟨h0, h1⟩ := two_cells w (.cells #[.slice s S.length cn, .slice t T.length cm] 26) (.slice s S.length cn) (.slice t T.length cm) 24
  have HB := Lib.hid (below_two w (.cells #[.slice s S.length cn, .slice t T.length cm] 26) (.cells #[.slice s S.length cn, .slice t T.length cm] 24))
  generalize (w.alloc (.cells #[.slice s S.length cn, .slice t T.length cm] 26)).alloc (.cells #[.slice s S.length cn, .slice t T.length cm] 24) = w1 at h0 h1 HB ⊢
  refine (concat_two (w.heap.size + 1) 2 s cn S t cm T w1 h0 h1 (HS.out.later HB.out) (HT.out.later HB.out) hn hm).mono ?_
  rintro e w2 ⟨v, rfl, ho, hb⟩
  obtain ⟨b, k, rfl, hby⟩ := ho.bytes
  have HBY := Lib.hid hby
  have HO := Lib.hid (ho.mono HB.out.size)
  have HB2 := Lib.hid (HB.out.trans (hb.mono HB.out.size))
  rw [List.length_append] at *
  clear hby ho hb h0 h1
  go_wp2_with fail
  go_ret
  exact ⟨b, k, rfl, HBY.out, own_blk HO.out, HB2.out⟩

end Dsk
end Go.Proofs.Ytdiegglnfbmpdaa
