/-
  The walk of layer 7's laws: awake.
-/
import Derived.Test.YtnmmokdkngccjaaSesY

namespace Go.Proofs.Ytnmmokdkngccjaa
open Go.RowKit
namespace Ses
open Num
open Msg (I64)

theorem new_is (e : Int) (w : World) (hl : Laid w) (r : Se) (k : Int) (p : Nat) (hp : newS e = (r, k)) (hm : r.inn.held.length = p) :
    Calls Try.prog 8 #[.int .i64 e] w fun en w' => ∃ a c, en = .returned (.tuple #[.agg (r.arr a p c), .int .i64 k]) ∧ RowAt Rsq.encI w' a c r.inn.held ∧ Below w.heap.size w w' := by
  subst hm
  have h := new_any e w hl
  rw [hp] at h
  exact h
theorem right_is (d : Array Value) (s : Se) (a : Option Addr) (cap n : Nat) (hd : d = s.arr a n cap) (hn : s.inn.held.length = n) (hn9 : n ≤ 100000000) (w : World) (hr : RowAt Rsq.encI w a cap s.inn.held) (hl : Laid w) (o : Bool) (ho : rightS s = o) :
    Calls Try.prog 12 #[.agg d] w fun e w' => e = .returned (.bool o) ∧ Below w.heap.size w w' := by
  subst hd ho
  exact right_any s a cap n hn hn9 w hr hl
theorem connect_is (d : Array Value) (s : Se) (now : Int) (a : Option Addr) (cap n : Nat) (hd : d = s.arr a n cap) (hn : s.inn.held.length = n) (hn9 : n ≤ 100000000) (w : World) (hr : RowAt Rsq.encI w a cap s.inn.held) (hl : Laid w)
    (r : Se) (l : List Msg.Ms) (k : Int) (p q : Nat) (hp : connect s now = (r, l, k)) (hm : r.inn.held.length = p) (hq : l.length = q) :
    Calls Try.prog 13 #[.agg d, .int .i64 now] w fun e w' => ∃ a' c' b' d', e = .returned (.tuple #[.agg (r.arr a' p c'), .slice b' q d', .int .i64 k]) ∧ RowAt Rsq.encI w' a' c' r.inn.held ∧ RowAt encM w' b' d' l ∧ Below w.heap.size w w' := by
  subst hd hm hq
  have h := connect_any s now a cap n hn hn9 w hr hl
  rw [hp] at h
  exact h
theorem come_is (d f : Array Value) (s : Se) (m : Msg.Ms) (hf : m.Fits) (now : Int) (a : Option Addr) (cap n : Nat) (hd : d = s.arr a n cap) (he : f = m.cells) (hn : s.inn.held.length = n) (hn9 : n ≤ 100000000) (w : World) (hr : RowAt Rsq.encI w a cap s.inn.held) (hl : Laid w)
    (r : Se) (l t : List Msg.Ms) (b : Bool) (k : Int) (p q u : Nat) (hp : comeS s m now = (r, l, t, b, k)) (hm : r.inn.held.length = p) (hq : l.length = q) (hu : t.length = u) :
    Calls Try.prog 14 #[.agg d, .agg f, .int .i64 now] w fun e w' => ∃ a' c' b' d' p' q', e = .returned (.tuple #[.agg (r.arr a' p c'), .slice b' q d', .slice p' u q', .bool b, .int .i64 k]) ∧
      RowAt Rsq.encI w' a' c' r.inn.held ∧ RowAt encM w' b' d' l ∧ RowAt encM w' p' q' t ∧ Below w.heap.size w w' := by
  subst hd he hm hq hu
  have h := come_any s m hf now a cap n hn hn9 w hr hl
  rw [hp] at h
  exact h
theorem tick_is (d : Array Value) (s : Se) (now : Int) (a : Option Addr) (cap n : Nat) (hd : d = s.arr a n cap) (hn : s.inn.held.length = n) (hn9 : n ≤ 100000000) (w : World) (hr : RowAt Rsq.encI w a cap s.inn.held) (hl : Laid w)
    (r : Se) (l : List Msg.Ms) (k : Int) (p q : Nat) (hp : tick s now = (r, l, k)) (hm : r.inn.held.length = p) (hq : l.length = q) :
    Calls Try.prog 15 #[.agg d, .int .i64 now] w fun e w' => ∃ a' c' b' d', e = .returned (.tuple #[.agg (r.arr a' p c'), .slice b' q d', .int .i64 k]) ∧ RowAt Rsq.encI w' a' c' r.inn.held ∧ RowAt encM w' b' d' l ∧ Below w.heap.size w w' := by
  subst hd hm hq
  have h := tick_any s now a cap n hn hn9 w hr hl
  rw [hp] at h
  exact h
theorem drop_is (d : Array Value) (s : Se) (a : Option Addr) (cap n : Nat) (hd : d = s.arr a n cap) (hn : s.inn.held.length = n) (hn9 : n ≤ 100000000) (w : World) (hr : RowAt Rsq.encI w a cap s.inn.held) (hl : Laid w) (r : Se) (p : Nat) (hp : drop s = r) (hm : r.inn.held.length = p) :
    Calls Try.prog 16 #[.agg d] w fun e w' => ∃ a' c', e = .returned (.agg (r.arr a' p c')) ∧ RowAt Rsq.encI w' a' c' r.inn.held ∧ Below w.heap.size w w' := by
  subst hd hp hm
  exact drop_any s a cap n hn hn9 w hr hl

def mK (k s : Int) : Msg.Ms := {Msg.noMs with kind := k, seq := s}
theorem mK_fits {k s : Int} (hk : I64 k) (hs : I64 s) : (mK k s).Fits := ⟨hk, hs, Msg.zero_fits, Msg.zero_fits, Msg.zero_fits, Msg.emp_fits, Msg.noEx_fits⟩
def a0 : Se := ⟨0, ⟨1, []⟩, 1, 30, 0, 0, 0, 0, false⟩
def a1 : Se := ⟨1, ⟨1, []⟩, 2, 30, 1, 1, 0, 0, false⟩
def a2 : Se := ⟨2, ⟨2, []⟩, 2, 30, 2, 1, 0, 0, false⟩
def a3 : Se := ⟨2, ⟨2, [⟨5, 6, mK 2 5⟩]⟩, 3, 30, 3, 3, 4, 3, false⟩
def s1 : Msg.Ms := {Msg.noMs with kind := 1, seq := 1, time := 1, a := 30}
def s3 : Msg.Ms := {Msg.noMs with kind := 4, seq := 2, time := 3, a := 2, b := 4}
theorem awake_new : newS 30 = (a0, 0) := by kernel_rfl
theorem awake_connect : connect a0 1 = (a1, [s1], 0) := by kernel_rfl
theorem step_quiet {s : Se} {m : Msg.Ms} {now : Int} (hr : rightS s = true) (hm : Msg.rightM m = true) (ht : timeS now = true) (h0 : s.state ≠ 0) (h1 : s.state = 1 → m.kind = 1) (hk : m.kind = 1 ∨ m.kind = 2 ∨ m.kind = 7) :
    comeS s m now = ((ask {s with state := 2, heard := now, tested := false, inn := (Rsq.come s.inn (itemS m)).1} [] now).1, (ask {s with state := 2, heard := now, tested := false, inn := (Rsq.come s.inn (itemS m)).1} [] now).2, reports (Rsq.come s.inn (itemS m)).2.1, false, 0) := by
  unfold comeS
  rw [if_neg (by rw [hr, hm, ht]; simp), if_neg (by rintro (h | ⟨h, h2⟩); exact h0 h; exact h2 (h1 h))]
  dsimp only
  rw [if_neg (by omega), if_neg (by omega : ¬ m.kind = 3), if_neg (by omega : ¬ (m.kind = 4 ∧ _)), if_neg (by omega : ¬ m.kind = 6)]
theorem mK_may {k s : Int} (hk : k = 1 ∨ k = 2) (h0 : 0 < s) (h1 : s ≤ 1000) : Msg.rightM (mK k s) = true := by
  have hs := small_of (n := s) (by omega) (by omega)
  have hz : s ≠ 0 := by omega
  rcases hk with rfl | rfl
  · simp [Msg.rightM, mK, Msg.noMs, hs, hz, textB_emp, Msg.kindA]
    try decide
  · simp [Msg.rightM, mK, Msg.noMs, hs, hz, textB_emp, Msg.kindA]
    try decide
/-- the logon that is waited for -/
theorem logon_is {e h sd t now : Int} (he : 0 < e ∧ e ≤ 1048576) (hh : timeP h) (hs : timeP sd) (ht : timeP t) (hn : timeP now) :
    comeS ⟨1, ⟨1, []⟩, 2, e, h, sd, 0, t, false⟩ (mK 1 1) now = (⟨2, ⟨2, []⟩, 2, e, now, sd, 0, t, false⟩, [], [], false, 0) := by
  have hr : rightS ⟨1, ⟨1, []⟩, 2, e, h, sd, 0, t, false⟩ = true := (rightS_iff _).2 ⟨.inr (.inl rfl), rfl, by show (0 : Int) < 2; decide, by show (2 : Int) ≤ 1099511627776; decide, he.1, he.2, hh, hs, timeP_zero, ht⟩
  rw [step_quiet hr (mK_may (.inl rfl) (by decide) (by decide)) ((timeS_iff now).2 hn) (by show (1 : Int) ≠ 0; decide) (fun _ => rfl) (.inl rfl)]
  rfl
theorem awake_logon : comeS a1 (mK 1 1) 2 = (a2, [], [], false, 0) := logon_is ⟨by decide, by decide⟩ ⟨by decide, by decide⟩ ⟨by decide, by decide⟩ ⟨by decide, by decide⟩ ⟨by decide, by decide⟩
theorem awake_beat : comeS a2 (mK 2 5) 3 = (a3, [s3], [], false, 0) := by
  rw [step_quiet (by decide) (mK_may (.inr rfl) (by decide) (by decide)) (by decide) (by decide) (by decide) (.inr (.inl rfl))]
  kernel_rfl

set_option maxRecDepth 100000 in
set_option maxHeartbeats 8000000 in
theorem awake7_any (w : World) (hl : Laid w) : Calls Try.prog 7 #[] w fun e w' => e = .returned (.bool true) ∧ Below w.heap.size w w' := by
  have HL := Lib.hid hl
  clear hl
  go_enter Try.func7, Try.ntmps7
  go_wp2_with fail
  refine (new_is 30 _ HL.out a0 0 0 awake_new rfl).mono ?_
  rintro e w1 ⟨a, c, rfl, hr1, hb1⟩
  go_upto_region 2 with (refine wpList_store_row rfl 28 _ _ rfl w1.heap.size (a0.arr a 0 c) rfl rfl _ _ (heap_alloc_last _ _) (arr_info _ _ _ _) rfl (arr_one _ _ _ _) ?_; rw [World.setRow_alloc_new])
  have hbl : Below w1.heap.size w1 (w1.alloc (.cells (a0.arr a 0 c) 28)) := (Below.refl _ _).alloc (Nat.le_refl _) _
  have HG := Lib.hid (SeAt.made w1 a0 a 0 c)
  have HR := Lib.hid (hr1.later hbl)
  have HB := Lib.hid (hb1.trans (hbl.mono hb1.size))
  obtain ⟨g, hg⟩ : ∃ g, w1.heap.size = g := ⟨_, rfl⟩
  have HGS : Hid (w.heap.size ≤ g) := Lib.hid (hg ▸ hb1.size)
  rw [hg] at HG ⊢
  clear hbl hr1 hb1
  generalize w1.alloc (.cells (a0.arr a 0 c) 28) = w2 at HG HR HB ⊢
  clear hg
  go_wp2_with (refine wpList_load_arr_g (by rfl) 28 _ rfl g 0 rfl (a0.arr a 0 c) _ HG.out.range Try.underlying28 rfl (arr_info _ _ _ _) ?_)
  refine (connect_is _ a0 1 a c 0 rfl rfl (by decide) _ HR.out (HL.out.below HB.out) a1 [s1] 0 0 1 awake_connect rfl rfl).mono ?_
  rintro e w3 ⟨a4, c4, b4, d4, rfl, hr, hm, hb⟩
  have HG3 := Lib.hid (HG.out.later hb)
  have HB3 := Lib.hid (HB.out.trans (hb.mono HB.out.size))
  go_upto_region 3 with (refine wpList_store_row rfl 28 _ _ rfl g (a1.arr a4 0 c4) rfl rfl _ _ HG3.out (arr_info _ _ _ _) rfl (arr_one _ _ _ _) ?_)
  have HG4 := Lib.hid (HG3.out.put a1 a4 0 c4)
  have HR4 := Lib.hid (HG3.out.row (by decide) hr (a1.arr a4 0 c4))
  have HM4 := Lib.hid (HG3.out.row (by decide) hm (a1.arr a4 0 c4))
  have HB4 := Lib.hid (below_setRow HB3.out HGS.out (a1.arr a4 0 c4))
  clear hr hm hb HG HR HB HG3 HB3
  generalize w3.setRow g (a1.arr a4 0 c4) = w4 at HG4 HR4 HM4 HB4 ⊢
  go_wp2_with (refine wpList_load_arr_g (by rfl) 28 _ rfl g 0 rfl (a1.arr a4 0 c4) _ HG4.out.range Try.underlying28 rfl (arr_info _ _ _ _) ?_)
  refine (come_is _ _ a1 (mK 1 1) (mK_fits (by unfold I64; decide) (by unfold I64; decide)) 2 a4 c4 0 rfl rfl rfl (by decide) _ HR4.out (HL.out.below HB4.out) a2 [] [] false 0 0 0 0 awake_logon rfl rfl rfl).mono ?_
  rintro e w5 ⟨a5, c5, b5, d5, p5, q5, rfl, hr, -, -, hb⟩
  have HG5 := Lib.hid (HG4.out.later hb)
  have HM5 := Lib.hid (HM4.out.later hb)
  have HB5 := Lib.hid (HB4.out.trans (hb.mono HB4.out.size))
  go_upto_region 4 with (refine wpList_store_row rfl 28 _ _ rfl g (a2.arr a5 0 c5) rfl rfl _ _ HG5.out (arr_info _ _ _ _) rfl (arr_one _ _ _ _) ?_)
  have HG6 := Lib.hid (HG5.out.put a2 a5 0 c5)
  have HR6 := Lib.hid (HG5.out.row (by decide) hr (a2.arr a5 0 c5))
  have HM6 := Lib.hid (HG5.out.row (by decide) HM5.out (a2.arr a5 0 c5))
  have HB6 := Lib.hid (below_setRow HB5.out HGS.out (a2.arr a5 0 c5))
  clear hr hb HG4 HR4 HM4 HB4 HG5 HM5 HB5
  generalize w5.setRow g (a2.arr a5 0 c5) = w6 at HG6 HR6 HM6 HB6 ⊢
  go_wp2_with (refine wpList_load_arr_g (by rfl) 28 _ rfl g 0 rfl (a2.arr a5 0 c5) _ HG6.out.range Try.underlying28 rfl (arr_info _ _ _ _) ?_)
  refine (come_is _ _ a2 (mK 2 5) (mK_fits (by unfold I64; decide) (by unfold I64; decide)) 3 a5 c5 0 rfl rfl rfl (by decide) _ HR6.out (HL.out.below HB6.out) a3 [s3] [] false 0 1 1 0 awake_beat rfl rfl rfl).mono ?_
  rintro e w7 ⟨a7, c7, b7, d7, p7, q7, rfl, -, hm, -, hb⟩
  have HG7 := Lib.hid (HG6.out.later hb)
  have HM7 := Lib.hid (HM6.out.later hb)
  have HB7 := Lib.hid (HB6.out.trans (hb.mono HB6.out.size))
  go_upto_region 5 with (refine wpList_store_row rfl 28 _ _ rfl g (a3.arr a7 1 c7) rfl rfl _ _ HG7.out (arr_info _ _ _ _) rfl (arr_one _ _ _ _) ?_)
  have HG8 := Lib.hid (HG7.out.put a3 a7 1 c7)
  have HM8 := Lib.hid (HG7.out.row (by decide) HM7.out (a3.arr a7 1 c7))
  have HN8 := Lib.hid (HG7.out.row (by decide) hm (a3.arr a7 1 c7))
  have HB8 := Lib.hid (below_setRow HB7.out HGS.out (a3.arr a7 1 c7))
  clear hm hb HG6 HR6 HM6 HB6 HG7 HM7 HB7
  generalize w7.setRow g (a3.arr a7 1 c7) = w8 at HG8 HM8 HN8 HB8 ⊢
  obtain ⟨x4, y4, rfl, -⟩ := HM8.out.at (by decide) (by decide)
  obtain ⟨x7, y7, rfl, -⟩ := HN8.out.at (by decide) (by decide)
  obtain ⟨m0, -, -, -, -⟩ := msg_cells HM8.out (k := 0) (m := s1) rfl
  obtain ⟨n0, -, -, n4, n5⟩ := msg_cells HN8.out (k := 0) (m := s3) rfl
  obtain ⟨z0, -, -, -, -, -, -⟩ := HG8.out.cells
  rw [Nat.zero_mul, Nat.add_zero] at m0 n0 n4 n5
  replace m0 : w8.cell? ⟨x4, y4, none⟩ = some (.int .i64 1) := m0
  replace n0 : w8.cell? ⟨x7, y7, none⟩ = some (.int .i64 4) := n0
  replace n4 : w8.cell? ⟨x7, y7 + 4, none⟩ = some (.int .i64 2) := n4
  replace n5 : w8.cell? ⟨x7, y7 + 5, none⟩ = some (.int .i64 4) := n5
  replace z0 : w8.cell? ⟨g, 0, none⟩ = some (.int .i64 2) := z0
  have h4 : 1 ≤ d4 := by
    rcases HM8.out with ⟨h, _⟩ | ⟨_, _, h, _⟩
    · cases h
    · exact h
  have h7 : 1 ≤ d7 := by
    rcases HN8.out with ⟨h, _⟩ | ⟨_, _, h, _⟩
    · cases h
    · exact h
  go_wp2_with fail
  go_ret
  exact ⟨rfl, HB8.out⟩

end Ses
end Go.Proofs.Ytnmmokdkngccjaa
