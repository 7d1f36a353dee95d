/-
  The walk of layer 6's laws: awake.
-/
import Derived.Test.YtnldllmlfckecaaRsqP
import Derived.Test.YtnldllmlfckecaaOwn2
namespace Go.Proofs.Ytnldllmlfckecaa
open Go.RowKit
namespace Rsq
open Num
open Msg (I64)

def iOf (a b : Int) : It := ⟨a, b, Msg.noMs⟩
theorem come_one : come ⟨1, []⟩ (iOf 3 4) = (⟨1, [iOf 3 4]⟩, [], 2) := by kernel_rfl
theorem gap_one : gapL ⟨1, [iOf 3 4]⟩ = (1, 2, true) := by kernel_rfl
theorem come_two : come ⟨1, [iOf 3 4]⟩ (iOf 1 2) = (⟨2, [iOf 3 4]⟩, [iOf 1 2], 1) := by kernel_rfl
theorem come_three : come ⟨2, [iOf 3 4]⟩ (iOf 2 3) = (⟨4, []⟩, [iOf 2 3, iOf 3 4], 1) := by kernel_rfl

theorem come_is (c d : Array Value) (l : Li) (x : It) (a : Option Addr) (cap n : Nat) (hc : c = #[.int .i64 l.next, .slice a n cap]) (hd : d = x.arr) (hn : l.held.length = n) (hn9 : n ≤ 100000000) (w : World) (hr : RowAt encI w a cap l.held) (hl : Laid w)
    (m : Li) (out : List It) (k : Int) (p q : Nat) (hp : come l x = (m, out, k)) (hm : m.held.length = p) (ho : out.length = q) :
    Calls Try.prog 8 #[.agg c, .agg d] w fun e w' => ∃ a' c' b' d', e = .returned (.tuple #[.agg #[.int .i64 m.next, .slice a' p c'], .slice b' q d', .int .i64 k]) ∧ RowAt encI w' a' c' m.held ∧ RowAt encI w' b' d' out ∧ Below w.heap.size w w' := by
  subst hc hd hm ho
  have h := come_any l x a cap n hn hn9 w hr hl
  rw [hp] at h
  exact h
theorem gap_is (c : Array Value) (l : Li) (a : Option Addr) (cap n : Nat) (hc : c = #[.int .i64 l.next, .slice a n cap]) (hn : l.held.length = n) (hn9 : n ≤ 100000000) (w : World) (hr : RowAt encI w a cap l.held) (hl : Laid w) (x y : Int) (o : Bool) (hp : gapL l = (x, y, o)) :
    Calls Try.prog 10 #[.agg c] w fun e w' => e = .returned (.tuple #[.int .i64 x, .int .i64 y, .bool o]) ∧ Below w.heap.size w w' := by
  subst hc
  have h := gap_any l a cap n hn hn9 w hr hl
  rw [hp] at h
  exact h
/-- a line in a block of two cells -/
def LnAt (w : World) (g : Nat) (nx : Int) (a : Option Addr) (n cap : Nat) : Prop := w.heap[g]? = some (.cells #[.int .i64 nx, .slice a n cap] 24 (0, 0))
theorem LnAt.later {w w' : World} {g : Nat} {nx : Int} {a : Option Addr} {n cap : Nat} (h : LnAt w g nx a n cap) (hb : Below w.heap.size w w') : LnAt w' g nx a n cap := below_block h hb
theorem LnAt.facts {w : World} {g : Nat} {nx : Int} {a : Option Addr} {n cap : Nat} (h : LnAt w g nx a n cap) : w.cell? ⟨g, 0, none⟩ = some (.int .i64 nx) ∧ w.cell? ⟨g, 1, none⟩ = some (.slice a n cap) ∧ w.frozen? ⟨g, 0, none⟩ = false ∧ w.frozen? ⟨g, 1, none⟩ = false ∧ g < w.heap.size :=
  ⟨cell_at h rfl, cell_at h rfl, frozen_of_row w _ _ _ _ h, frozen_of_row w _ _ _ _ h, (Array.getElem?_eq_some_iff.1 h).1⟩
theorem LnAt.put {w : World} {g : Nat} {nx : Int} {a : Option Addr} {n cap : Nat} (h : LnAt w g nx a n cap) (my : Int) (b : Option Addr) (m c : Nat) : LnAt ((w.setCell ⟨g, 0, none⟩ (.int .i64 my)).setCell ⟨g, 1, none⟩ (.slice b m c)) g my b m c :=
  heap_setCell_same _ g 1 _ _ _ (heap_setCell_same w g 0 _ _ _ h)
theorem LnAt.made (w : World) (nx : Int) (a : Option Addr) (n cap : Nat) : LnAt (w.alloc (.cells #[.int .i64 nx, .slice a n cap] 24)) w.heap.size nx a n cap := heap_alloc_new w _

theorem LnAt.row {w : World} {g : Nat} {nx : Int} {a b : Option Addr} {n cap cap' : Nat} {l : List It} (h : LnAt w g nx a n cap) (hr : RowAt encI w b cap' l) (my : Int) (c : Option Addr) (m d : Nat) :
    RowAt encI ((w.setCell ⟨g, 0, none⟩ (.int .i64 my)).setCell ⟨g, 1, none⟩ (.slice c m d)) b cap' l := by
  have ne := hr.apart (by decide) h (by show 2 < 20; decide)
  exact (hr.grown (grown_set1 w g 0 _) ne).grown (grown_set1 _ g 1 _) ne
theorem LnAt.below {w u : World} {g : Nat} {nx : Int} {a : Option Addr} {n cap : Nat} (_h : LnAt w g nx a n cap) (hb : Below u.heap.size u w) (hg : u.heap.size ≤ g) (my : Int) (c : Option Addr) (m d : Nat) :
    Below u.heap.size u ((w.setCell ⟨g, 0, none⟩ (.int .i64 my)).setCell ⟨g, 1, none⟩ (.slice c m d)) := (hb.setCell hg _).setCell hg _

set_option maxRecDepth 100000 in
set_option maxHeartbeats 4000000 in
theorem awake6_any (w : World) (hl : Laid w) : Calls Try.prog 7 #[] w fun e w' => e = .returned (.bool true) ∧ Below w.heap.size w w' := by
  have HL := Lib.hid hl
  clear hl
  go_enter Try.func7, Try.ntmps7
  go_wp2_with fail
  refine (come_is _ _ ⟨1, []⟩ (iOf 3 4) none 0 0 rfl rfl rfl (by decide) _ (.inl ⟨rfl, rfl, rfl⟩) HL.out _ _ _ 1 0 come_one rfl rfl).mono ?_
  rintro e w1 ⟨a1, c1, b1, d1, rfl, hr1, -, hb1⟩
  have HR1 := Lib.hid (hr1.later ((Below.refl _ _).alloc (Nat.le_refl _) (.cells #[.int .i64 1, .slice a1 1 c1] 24)))
  have HB1 := Lib.hid (hb1.alloc hb1.size (.cells #[.int .i64 1, .slice a1 1 c1] 24))
  have HG1 := Lib.hid (LnAt.made w1 1 a1 1 c1)
  obtain ⟨g, hg⟩ : ∃ g, w1.heap.size = g := ⟨_, rfl⟩
  have HGS : Hid (w.heap.size ≤ g) := Lib.hid (hg ▸ hb1.size)
  go_upto_region 2 with fail
  rw [hg] at HG1
  generalize w1.alloc (.cells #[.int .i64 1, .slice a1 1 c1] 24) = w2 at HR1 HB1 HG1 ⊢
  clear hb1 hr1 hg
  obtain ⟨z0, z1, f0, f1, s0⟩ := HG1.out.facts
  go_wp2_with fail
  refine (gap_is _ ⟨1, [iOf 3 4]⟩ a1 c1 1 rfl rfl (by decide) _ HR1.out (HL.out.below HB1.out) 1 2 true gap_one).mono ?_
  rintro e w3 ⟨rfl, hb⟩
  have HR3 := Lib.hid (HR1.out.later hb)
  have HG3 := Lib.hid (HG1.out.later hb)
  have HB3 := Lib.hid (HB1.out.trans (hb.mono HB1.out.size))
  clear hb z0 z1 f0 f1 s0 HR1 HG1 HB1
  obtain ⟨z0, z1, f0, f1, s0⟩ := HG3.out.facts
  go_wp2_with fail
  refine (come_is _ _ ⟨1, [iOf 3 4]⟩ (iOf 1 2) a1 c1 1 rfl rfl rfl (by decide) _ HR3.out (HL.out.below HB3.out) _ _ _ 1 1 come_two rfl rfl).mono ?_
  rintro e w4 ⟨a4, c4, b4, d4, rfl, hr, -, hb⟩
  have HG4 := HG3.out.later hb
  have HB4 := HB3.out.trans (hb.mono HB3.out.size)
  have HR5 := Lib.hid (HG4.row hr 2 a4 1 c4)
  have HB5 := Lib.hid (HG4.below HB4 HGS.out 2 a4 1 c4)
  have HG5 := Lib.hid (HG4.put 2 a4 1 c4)
  clear z0 z1 f0 f1 s0 HR3 HG3 HB3
  obtain ⟨z0, z1, f0, f1, s0⟩ := HG4.facts
  clear hr hb HG4 HB4
  go_upto_region 4 with fail
  generalize (w4.setCell ⟨g, 0, none⟩ (.int .i64 2)).setCell ⟨g, 1, none⟩ (.slice a4 1 c4) = w5 at HR5 HB5 HG5 ⊢
  clear z0 z1 f0 f1 s0
  obtain ⟨z0, z1, f0, f1, s0⟩ := HG5.out.facts
  go_wp2_with fail
  refine (come_is _ _ ⟨2, [iOf 3 4]⟩ (iOf 2 3) a4 c4 1 rfl rfl rfl (by decide) _ HR5.out (HL.out.below HB5.out) _ _ _ 0 2 come_three rfl rfl).mono ?_
  rintro e w6 ⟨a6, c6, b6, d6, rfl, -, ho, hb⟩
  have HG6 := HG5.out.later hb
  have HB6 := HB5.out.trans (hb.mono HB5.out.size)
  have HO7 := Lib.hid (HG6.row ho 4 a6 0 c6)
  have HB7 := Lib.hid (HG6.below HB6 HGS.out 4 a6 0 c6)
  have HG7 := Lib.hid (HG6.put 4 a6 0 c6)
  clear z0 z1 f0 f1 s0 HR5 HG5 HB5
  obtain ⟨z0, z1, f0, f1, s0⟩ := HG6.facts
  clear ho hb HG6 HB6
  go_upto_region 5 with fail
  generalize (w6.setCell ⟨g, 0, none⟩ (.int .i64 4)).setCell ⟨g, 1, none⟩ (.slice a6 0 c6) = w7 at HO7 HB7 HG7 ⊢
  clear z0 z1 f0 f1 s0
  obtain ⟨z0, z1, f0, f1, s0⟩ := HG7.out.facts
  obtain ⟨b, off, rfl, hc⟩ := HO7.out.at (by decide) (by decide)
  have y1 : w7.cell? ⟨b, off + 20, none⟩ = some (.int .i64 3) := hc 1 (iOf 3 4) rfl 0 _ rfl
  have hd : 2 ≤ d6 := by
    rcases HO7.out with ⟨h, _⟩ | ⟨_, _, h, _⟩
    · cases h
    · exact h
  clear hc
  go_wp2_with fail
  go_ret
  exact ⟨rfl, HB7.out⟩

end Rsq
end Go.Proofs.Ytnldllmlfckecaa
