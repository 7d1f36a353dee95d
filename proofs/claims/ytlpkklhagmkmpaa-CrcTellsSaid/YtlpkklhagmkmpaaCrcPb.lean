/-
  The program's sum in memory: what it is so far, its once, what each byte comes to.
-/
import Derived.Test.YtlpkklhagmkmpaaCrcPa
import Derived.Test.YtlpkklhagmkmpaaOnce
import Derived.Deep.CutBlock
import Derived.Deep.DeepCutAuto
import Derived.Deep.RegionHeld3
import Derived.Laws.Rows
import Derived.OwnWalk
import Derived.Laws.AppendOwn
import Derived.Maps.AppendAt
namespace Go.Proofs.Ytlpkklhagmkmpaa
open Go.RowKit
namespace Crc
open Num

def smRow (n d m : Nat) (T : Array Value) : Array Value := #[.int .u32 n, .int .u32 d, .int .i32 m, .int .u32 0] ++ T
/-- a sum in memory: so far, whether its table is made, its lock, its table -/
def SmAt (w : World) (g n d m : Nat) (T : Array Value) : Prop := w.heap[g]? = some (.cells (smRow n d m T) 61 (0, 0)) ∧ T.size = 256
theorem smRow_own (n d m : Nat) (T : Array Value) (i : Nat) : (smRow n d m T)[4 + i]? = T[i]? := by
  unfold smRow
  rw [Array.getElem?_append_right (by simp)]
  simp
theorem SmAt.lt {w : World} {g n d m : Nat} {T : Array Value} (h : SmAt w g n d m T) : g < w.heap.size := (Array.getElem?_eq_some_iff.1 h.1).1
theorem SmAt.fz {w : World} {g n d m : Nat} {T : Array Value} (h : SmAt w g n d m T) (j : Nat) : w.frozen? ⟨g, j, none⟩ = false := frozen_of_row w g j _ _ h.1
theorem SmAt.now {w : World} {g n d m : Nat} {T : Array Value} (h : SmAt w g n d m T) : w.cell? ⟨g, 0, none⟩ = some (.int .u32 n) := by rw [cell_of_row w g 0 _ _ _ h.1]; simp [smRow, Array.getElem?_append]
theorem SmAt.done {w : World} {g n d m : Nat} {T : Array Value} (h : SmAt w g n d m T) : w.cell? ⟨g, 1, none⟩ = some (.int .u32 d) := by rw [cell_of_row w g 1 _ _ _ h.1]; simp [smRow, Array.getElem?_append]
theorem SmAt.mu {w : World} {g n d m : Nat} {T : Array Value} (h : SmAt w g n d m T) : w.cell? ⟨g, 2, none⟩ = some (.int .i32 m) := by rw [cell_of_row w g 2 _ _ _ h.1]; simp [smRow, Array.getElem?_append]
theorem SmAt.own {w : World} {g n d m : Nat} {T : Array Value} (h : SmAt w g n d m T) (i : Nat) : w.cell? ⟨g, 4 + i, none⟩ = T[i]? := by rw [cell_of_row w g (4 + i) _ _ _ h.1, smRow_own]
theorem SmAt.drew {w : World} {g n d m : Nat} {T : Array Value} (h : SmAt w g n d m T) : SmAt w.drew g n d m T := h
theorem SmAt.setNow {w : World} {g n d m : Nat} {T : Array Value} (h : SmAt w g n d m T) (n' : Nat) : SmAt (w.setCell ⟨g, 0, none⟩ (.int .u32 n')) g n' d m T := by
  refine ⟨?_, h.2⟩
  rw [heap_setCell_same w g 0 _ _ _ h.1]
  congr 1
  unfold smRow
  rw [Array.setIfInBounds_append_left (by simp)]
  rfl
theorem SmAt.setDone {w : World} {g n d m : Nat} {T : Array Value} (h : SmAt w g n d m T) (d' : Nat) : SmAt (w.setCell ⟨g, 1, none⟩ (.int .u32 d')) g n d' m T := by
  refine ⟨?_, h.2⟩
  rw [heap_setCell_same w g 1 _ _ _ h.1]
  congr 1
  unfold smRow
  rw [Array.setIfInBounds_append_left (by simp)]
  rfl
theorem SmAt.setMu {w : World} {g n d m : Nat} {T : Array Value} (h : SmAt w g n d m T) (m' : Nat) : SmAt (w.setCell ⟨g, 2, none⟩ (.int .i32 m')) g n d m' T := by
  refine ⟨?_, h.2⟩
  rw [heap_setCell_same w g 2 _ _ _ h.1]
  congr 1
  unfold smRow
  rw [Array.setIfInBounds_append_left (by simp)]
  rfl
theorem SmAt.setOwn {w : World} {g n d m : Nat} {T : Array Value} (h : SmAt w g n d m T) (i : Nat) (v : Value) : SmAt (w.setCell ⟨g, 4 + i, none⟩ v) g n d m (T.setIfInBounds i v) := by
  refine ⟨?_, by rw [Array.size_setIfInBounds]; exact h.2⟩
  rw [heap_setCell_same w g (4 + i) _ _ _ h.1]
  congr 1
  unfold smRow
  rw [Array.setIfInBounds_append_right (by simp)]
  simp
/-- the first ones stand ready -/
def TabTo (T : Array Value) (i : Nat) : Prop := ∀ j, j < i → T[j]? = some (.int .u32 (tabN j : Nat))
theorem TabTo.more {T : Array Value} {i : Nat} (h : TabTo T i) (hi : i < T.size) : TabTo (T.setIfInBounds i (.int .u32 (tabN i : Nat))) (i + 1) := fun j hj => by
  rw [Array.getElem?_setIfInBounds]
  by_cases c : i = j
  · subst c; simp [hi]
  · rw [if_neg c]; exact h j (by omega)
theorem smset {w : World} {g : Nat} (j : Nat) (v : Value) : w.grownBy (w.setCell ⟨g, j, none⟩ v) (some g) := ⟨rfl, rfl, rfl, by simp [World.setCell], fun i _ hi => heap_setCell_other w _ i v (fun e => hi (by rw [e]))⟩
theorem smdrew {w : World} {r : Option Nat} : w.grownBy w.drew r := ⟨rfl, rfl, rfl, Nat.le_refl _, fun _ _ _ => rfl⟩
/-- what a method of a sum leaves behind -/
def Sm (w : World) (g n d m : Nat) (w' : World) : Prop := w.grownBy w' (some g) ∧ ∃ T, SmAt w' g n d m T ∧ TabTo T 256

set_option maxRecDepth 100000 in
set_option maxHeartbeats 4000000 in
theorem ready_any (g n d m : Nat) (T : Array Value) (w : World) (h : SmAt w g n d m T) :
    Calls Try.prog 23 #[.pointer (some ⟨g, 0, none⟩)] w fun e w' => e = .returned (.tuple #[]) ∧ Sm w g n d m w' := by
  have H := Lib.hid h
  clear h
  go_enter Try.func23, Try.ntmps23
  go_wp2_with fail
  go_loopw [3] (fun i_ wr => ∃ (k : Nat) (T' : Array Value), i_ = .int .i64 k ∧ k ≤ 256 ∧ SmAt wr g n d m T' ∧ TabTo T' k ∧ w.grownBy wr (some g)) (fun i_ _ => 256 - (intOf i_).toNat)
  case atStart => exact ⟨0, T, rfl, Nat.zero_le _, H.out, fun j hj => absurd hj (Nat.not_lt_zero j), .refl _ _⟩
  case round =>
    obtain ⟨k, T', rfl, hk, hs, ht, hg⟩ := hrel
    have HS := Lib.hid hs
    have HT := Lib.hid ht
    have HG := Lib.hid hg
    clear hs ht hg
    by_cases hlt : k < 256
    · go_wp2_with fail
      refine wp_region_held_drew (S := fun w' => w.grownBy w' (some g)) (by kernel_rfl) ?hs0 (fun hHeld => ?_)
      case hs0 => exact HG.out.trans smdrew
      refine' wpAnyH_take (i := 0) (oi := _) (v := _) rfl (by kernel_rfl) (by kernel_rfl) (by kernel_rfl) (fun _ _ _ h => h) (Or.inl ⟨by rfl, ?hy⟩) (by assumption) ?_
      case hy => (intro w hSw; (try dsimp only at hSw); (try simp only [List.getElem_toArray, List.getElem_cons_zero]); go_simp; try with_reducible rfl)
      try simp only [List.getElem_toArray, List.getElem_cons_zero, Act.put, List.setIfInBounds_toArray, List.set_cons_zero, List.set_cons_succ]
      refine' wpAnyH_take (i := 1) (oi := _) (v := _) rfl (by kernel_rfl) (by kernel_rfl) (by kernel_rfl) (fun _ _ _ h => h) (Or.inl ⟨by rfl, ?hy⟩) (by assumption) ?_
      case hy => (intro w hSw; (try dsimp only at hSw); (try simp only [List.getElem_toArray, List.getElem_cons_zero, List.getElem_cons_succ]); go_simp; try with_reducible rfl)
      try simp only [List.getElem_toArray, List.getElem_cons_zero, List.getElem_cons_succ, Act.put, List.setIfInBounds_toArray, List.set_cons_zero, List.set_cons_succ]
      refine' wpAnyH_take (i := 2) (oi := _) (v := _) rfl (by kernel_rfl) (by kernel_rfl) (by kernel_rfl) (fun _ _ _ h => h) (Or.inl ⟨by rfl, ?hy⟩) (by assumption) ?_
      case hy => (intro w hSw; (try dsimp only at hSw); (try simp only [List.getElem_toArray, List.getElem_cons_zero, List.getElem_cons_succ]); go_simp; try with_reducible rfl)
      try simp only [List.getElem_toArray, List.getElem_cons_zero, List.getElem_cons_succ, Act.put, List.setIfInBounds_toArray, List.set_cons_zero, List.set_cons_succ]
      refine' wpAnyH_take (i := 3) (oi := _) (v := _) rfl (by kernel_rfl) (by kernel_rfl) (by kernel_rfl) (fun _ _ _ h => h) (Or.inl ⟨by rfl, ?hy⟩) (by assumption) ?_
      case hy => (intro w hSw; (try dsimp only at hSw); (try simp only [List.getElem_toArray, List.getElem_cons_zero, List.getElem_cons_succ]); go_simp; try with_reducible rfl)
      try simp only [List.getElem_toArray, List.getElem_cons_zero, List.getElem_cons_succ, Act.put, List.setIfInBounds_toArray, List.set_cons_zero, List.set_cons_succ]
      refine' wpAnyH_take (i := 5) (oi := _) (v := _) rfl (by kernel_rfl) (by kernel_rfl) (by kernel_rfl) (fun _ _ _ h => h) (Or.inl ⟨by rfl, ?hy⟩) (by assumption) ?_
      case hy => (intro w hSw; (try dsimp only at hSw); (try simp only [List.getElem_toArray, List.getElem_cons_zero, List.getElem_cons_succ]); go_simp; try with_reducible rfl)
      try simp only [List.getElem_toArray, List.getElem_cons_zero, List.getElem_cons_succ, Act.put, List.setIfInBounds_toArray, List.set_cons_zero, List.set_cons_succ]
      refine' wpAnyH_take (i := 6) (oi := _) (v := _) rfl (by kernel_rfl) (by kernel_rfl) (by kernel_rfl) (fun _ _ _ h => h) (Or.inl ⟨by rfl, ?hy⟩) (by assumption) ?_
      case hy => (intro w hSw; (try dsimp only at hSw); (try simp only [List.getElem_toArray, List.getElem_cons_zero, List.getElem_cons_succ]); go_simp; try with_reducible rfl)
      try simp only [List.getElem_toArray, List.getElem_cons_zero, List.getElem_cons_succ, Act.put, List.setIfInBounds_toArray, List.set_cons_zero, List.set_cons_succ]
      refine wpAnyH_ready (rs := [4]) (by kernel_rfl) (by simp) ?_
      refine AllReadyH.cons (o := _) rfl (fun K hK => ?_) AllReadyH.nil
      rw [if_pos (by rfl)]
      go_simp
      rw [show IntKind.u8.wrap (k : Int) = (k : Int) from by rw [IntKind.wrap_u8']; omega]
      refine (ofByte_any k hlt _).mono ?_
      rintro e w1 ⟨rfl, rfl⟩
      go_wp2_with fail
      refine hK.out _ _ ?hs1 (fun hHeld => ?_)
      case hs1 => exact hHeld
      clear hK K
      refine' wpAnyH_take (i := 7) (oi := _) (v := _) rfl (by kernel_rfl) (by kernel_rfl) (by kernel_rfl) (fun _ _ _ h => h) (Or.inl ⟨by rfl, ?hy⟩) (by assumption) ?_
      case hy => (intro w hSw; (try dsimp only at hSw); (try simp only [List.getElem_toArray, List.getElem_cons_zero, List.getElem_cons_succ]); go_simp; try with_reducible rfl)
      try simp only [List.getElem_toArray, List.getElem_cons_zero, List.getElem_cons_succ, Act.put, List.setIfInBounds_toArray, List.set_cons_zero, List.set_cons_succ]
      refine wpAnyH_ready (rs := [8]) (by kernel_rfl) (by simp) ?_
      refine AllReadyH.cons (o := _) rfl (fun K hK => ?_) AllReadyH.nil
      rw [if_pos (by rfl)]
      obtain ⟨v, hv⟩ : ∃ v, T'[k]? = some v := ⟨_, Array.getElem?_eq_getElem (by rw [HS.out.2]; exact hlt)⟩
      have c1 : wr.cell? ⟨g, 4 + k, none⟩ = some v := (HS.out.own k).trans hv
      have f1 : wr.frozen? ⟨g, 4 + k, none⟩ = false := HS.out.fz (4 + k)
      clear hv
      go_simp
      refine hK.out _ _ ?hs2 (fun hHeld => ?_)
      case hs2 => exact (HG.out.trans smdrew).trans (smset _ _)
      clear hK K
      refine wpAnyH_done (by kernel_rfl) ?_ _
      go_wp2_with fail
      exact ⟨⟨k + 1, _, by go_num, by omega, HS.out.drew.setOwn k _, HT.out.more (by rw [HS.out.2]; exact hlt), (HG.out.trans smdrew).trans (smset _ _)⟩, by simp [intOf]; omega⟩
    · obtain rfl : k = 256 := by omega
      go_wp2_with fail
      go_end0
      exact ⟨rfl, HG.out, T', HS.out, HT.out⟩

theorem once_any (g n d : Nat) (T : Array Value) (w : World) (h : SmAt w g n d 0 T) (hd : d = 0 ∨ (d = 1 ∧ TabTo T 256)) :
    Calls Try.prog 22 #[.pointer (some ⟨g, 1, none⟩), .func (.func 23) #[.pointer (some ⟨g, 0, none⟩)] #[]] w fun e w' => e = .returned (.tuple #[]) ∧ w.grownBy w' (some g) ∧ ∃ T', SmAt w' g n 1 0 T' ∧ TabTo T' 256 := by
  rcases hd with rfl | ⟨rfl, ht⟩
  · refine (Once.do_first g 1 23 (.pointer (some ⟨g, 0, none⟩)) (Sm (w.setCell ⟨g, 2, none⟩ (.int .i32 1)) g n 0 1) w ?hen h.done h.mu (h.fz 2) (ready_any g n 0 1 T _ (h.setMu 1)) ?hR).mono ?_
    case hen => exact fun W => by go_simp
    case hR => exact fun w2 ⟨_, T2, h2, _⟩ => ⟨h2.done, h2.mu, h2.fz 1, h2.fz 2⟩
    rintro e w' ⟨rfl, w2, ⟨hg, T2, h2, ht2⟩, rfl⟩
    exact ⟨rfl, (((smset 2 _).trans hg).trans smdrew).trans ((smset 1 _).trans (smset 2 _)), T2, (h2.drew.setDone 1).setMu 0, ht2⟩
  · refine (Once.do_done ⟨g, 1, none⟩ 1 (by decide) _ w h.done).mono ?_
    rintro e w' ⟨rfl, rfl⟩
    exact ⟨rfl, .refl _ _, T, h, ht⟩

theorem step_b {b : List UInt8} {k q n m0 : Nat} {c : UInt8} (hk : k < q) (hq : b.length = q) (hc : b[k]'(by rw [hq]; exact hk) = c) (hn : n = crN m0 (b.take k)) : byC n c = crN m0 (b.take (k + 1)) := by
  rw [List.take_succ_eq_append_getElem (by rw [hq]; exact hk), crN_snoc, hc, hn]

set_option maxRecDepth 100000 in
set_option maxHeartbeats 4000000 in
theorem add_any (g n d : Nat) (T : Array Value) (w : World) (h : SmAt w g n d 0 T) (hd : d = 0 ∨ (d = 1 ∧ TabTo T 256)) (hn : n < 4294967296)
    (a : Option Addr) (cap : Nat) (b : List UInt8) (q : Nat) (hq : b.length = q) (hlen : q ≤ 9223372036854775806) (hby : ∀ W, w.grownBy W (some g) → BytesAt W a cap b) :
    Calls Try.prog 21 #[.pointer (some ⟨g, 0, none⟩), .slice a q cap] w fun e w' => e = .returned (.tuple #[]) ∧ w.grownBy w' (some g) ∧ ∃ T', SmAt w' g (crN n b) 1 0 T' ∧ TabTo T' 256 := by
  have HO := Lib.hid (once_any g n d T w h hd)
  have HF := Lib.hid hby
  have HQ := Lib.hid hq
  have hg0 := h.now
  have HN0 := Lib.hid hn
  clear hby hq h hd hn
  have hmf : ∀ (fn : Fn) (first cap : Array Value) (w : World), (Instr.makeFunc fn first cap).run Try.prog w = .ok (.func fn first cap) w := fun _ _ _ _ => rfl
  go_enter Try.func21, Try.ntmps21
  go_wp2_with fail
  refine HO.out.mono ?_
  rintro e w1 ⟨rfl, hg1, T1, h1, ht1⟩
  have HG1 := Lib.hid hg1
  have HS1 := Lib.hid h1
  have HT1 := Lib.hid ht1
  clear HO hg1 h1 ht1
  go_wp2_with fail
  go_loopw [14] (fun i_ wr => ∃ (k m : Nat), i_ = .int .i64 k ∧ k ≤ q ∧ SmAt wr g m 1 0 T1 ∧ m = crN n (b.take k) ∧ m < 4294967296 ∧ w.grownBy wr (some g)) (fun i_ _ => q - (intOf i_).toNat)
  case atStart => exact ⟨0, n, rfl, Nat.zero_le _, HS1.out, rfl, HN0.out, HG1.out⟩
  case round =>
    obtain ⟨k, m, rfl, hk, hs, hm, hml, hg⟩ := hrel
    have HS := Lib.hid hs
    have HM := Lib.hid hm
    have HG := Lib.hid hg
    clear hs hm hg
    by_cases hlt : k < q
    · obtain ⟨bb, off, rfl, hcc⟩ := (HF.out _ HG.out).at (by rw [HQ.out]; omega)
      have hc := hcc k (by rw [HQ.out]; exact hlt)
      obtain ⟨c, hcx⟩ : ∃ c, b[k]'(by rw [HQ.out]; exact hlt) = c := ⟨_, rfl⟩
      have HN := Lib.hid (step_b hlt HQ.out hcx HM.out)
      rw [hcx] at hc
      clear hcc hcx
      have hc8 := c.toNat_lt
      have hx := at_lt m c
      have HB := Lib.hid (byC_tab m c)
      have HBL := Lib.hid (byC_lt hml c)
      obtain ⟨x, hxx⟩ : ∃ x, (m % 256) ^^^ c.toNat = x := ⟨_, rfl⟩
      rw [hxx] at hx HB
      have hX : bits .xor .u8 (IntKind.u8.wrap (m : Int)) (c.toNat : Int) = (x : Int) := by
        rw [← hxx, IntKind.wrap_u8']
        exact u8_xor_nat (m % 256) c.toNat (by omega) (by omega)
      clear hxx
      have hx8 : (x : Int) < 256 := by omega
      have ht := HT1.out x hx
      obtain ⟨t, htt⟩ : ∃ t, tabN x = t := ⟨_, rfl⟩
      have htl := tabN_lt hx
      rw [htt] at ht htl HB
      clear htt
      have hY : bits .xor .u32 ((m : Int) / 256) (t : Int) = ((m / 256 ^^^ t : Nat) : Int) := u32_xor_nat (m / 256) t (by omega) htl
      obtain ⟨y, hy⟩ : ∃ y, m / 256 ^^^ t = y := ⟨_, rfl⟩
      rw [hy] at hY HB
      clear hy
      have o1 : wr.cell? ⟨g, 4 + x, none⟩ = some (.int .u32 t) := (HS.out.own x).trans ht
      have o0 := HS.out.now
      have f0 := HS.out.fz 0
      have HTX := Lib.hid ht
      have HSY := Lib.hid (HS.out.setNow y)
      clear ht hg0
      go_upto_region 4 with fail
      refine wp_region_held_drew (S := fun w' => w'.cell? ⟨g, 4 + x, none⟩ = some (.int .u32 t)) (by kernel_rfl) ?hs0 (fun hHeld => ?_)
      case hs0 => exact o1
      refine' wpAnyH_take (i := 0) (oi := _) (v := _) rfl (by kernel_rfl) (by kernel_rfl) (by kernel_rfl) (fun _ _ _ h => h) (Or.inl ⟨by rfl, ?hy⟩) (by assumption) ?_
      case hy => (intro w hSw; (try dsimp only at hSw); (try simp only [List.getElem_toArray, List.getElem_cons_zero]); go_simp; try with_reducible rfl)
      try simp only [List.getElem_toArray, List.getElem_cons_zero, Act.put, List.setIfInBounds_toArray, List.set_cons_zero, List.set_cons_succ]
      refine' wpAnyH_take (i := 1) (oi := _) (v := _) rfl (by kernel_rfl) (by kernel_rfl) (by kernel_rfl) (fun _ _ _ h => h) (Or.inl ⟨by rfl, ?hy⟩) (by assumption) ?_
      case hy => (intro w hSw; (try dsimp only at hSw); (try simp only [List.getElem_toArray, List.getElem_cons_zero, List.getElem_cons_succ]); go_simp; try with_reducible rfl)
      try simp only [List.getElem_toArray, List.getElem_cons_zero, List.getElem_cons_succ, Act.put, List.setIfInBounds_toArray, List.set_cons_zero, List.set_cons_succ]
      refine' wpAnyH_take (i := 2) (oi := _) (v := _) rfl (by kernel_rfl) (by kernel_rfl) (by kernel_rfl) (fun _ _ _ h => h) (Or.inl ⟨by rfl, ?hy⟩) (by assumption) ?_
      case hy => (intro w hSw; (try dsimp only at hSw); (try simp only [List.getElem_toArray, List.getElem_cons_zero, List.getElem_cons_succ]); go_simp; try with_reducible rfl)
      try simp only [List.getElem_toArray, List.getElem_cons_zero, List.getElem_cons_succ, Act.put, List.setIfInBounds_toArray, List.set_cons_zero, List.set_cons_succ]
      refine' wpAnyH_take (i := 3) (oi := _) (v := _) rfl (by kernel_rfl) (by kernel_rfl) (by kernel_rfl) (fun _ _ _ h => h) (Or.inl ⟨by rfl, ?hy⟩) (by assumption) ?_
      case hy => (intro w hSw; (try dsimp only at hSw); (try simp only [List.getElem_toArray, List.getElem_cons_zero, List.getElem_cons_succ]); go_simp; try with_reducible rfl)
      try simp only [List.getElem_toArray, List.getElem_cons_zero, List.getElem_cons_succ, Act.put, List.setIfInBounds_toArray, List.set_cons_zero, List.set_cons_succ]
      refine' wpAnyH_take (i := 6) (oi := _) (v := _) rfl (by kernel_rfl) (by kernel_rfl) (by kernel_rfl) (fun _ _ _ h => h) (Or.inl ⟨by rfl, ?hy⟩) (by assumption) ?_
      case hy => (intro w hSw; (try dsimp only at hSw); (try simp only [List.getElem_toArray, List.getElem_cons_zero, List.getElem_cons_succ]); go_simp; try with_reducible rfl)
      try simp only [List.getElem_toArray, List.getElem_cons_zero, List.getElem_cons_succ, Act.put, List.setIfInBounds_toArray, List.set_cons_zero, List.set_cons_succ]
      refine' wpAnyH_take (i := 7) (oi := _) (v := _) rfl (by kernel_rfl) (by kernel_rfl) (by kernel_rfl) (fun _ _ _ h => h) (Or.inl ⟨by rfl, ?hy⟩) (by assumption) ?_
      case hy => (intro w hSw; (try dsimp only at hSw); (try simp only [List.getElem_toArray, List.getElem_cons_zero, List.getElem_cons_succ]); go_simp; try with_reducible rfl)
      try simp only [List.getElem_toArray, List.getElem_cons_zero, List.getElem_cons_succ, Act.put, List.setIfInBounds_toArray, List.set_cons_zero, List.set_cons_succ]
      refine' wpAnyH_take (i := 8) (oi := _) (v := _) rfl (by kernel_rfl) (by kernel_rfl) (by kernel_rfl) (fun _ _ _ h => h) (Or.inl ⟨by rfl, ?hy⟩) (by assumption) ?_
      case hy => (intro w hSw; (try dsimp only at hSw); (try simp only [List.getElem_toArray, List.getElem_cons_zero, List.getElem_cons_succ]); go_simp; try with_reducible rfl)
      try simp only [List.getElem_toArray, List.getElem_cons_zero, List.getElem_cons_succ, Act.put, List.setIfInBounds_toArray, List.set_cons_zero, List.set_cons_succ]
      refine' wpAnyH_take (i := 9) (oi := _) (v := _) rfl (by kernel_rfl) (by kernel_rfl) (by kernel_rfl) (fun _ _ _ h => h) (Or.inl ⟨by rfl, ?hy⟩) (by assumption) ?_
      case hy => (intro w hSw; (try dsimp only at hSw); (try simp only [List.getElem_toArray, List.getElem_cons_zero, List.getElem_cons_succ]); go_simp; try with_reducible rfl)
      try simp only [List.getElem_toArray, List.getElem_cons_zero, List.getElem_cons_succ, Act.put, List.setIfInBounds_toArray, List.set_cons_zero, List.set_cons_succ]
      refine' wpAnyH_take (i := 12) (oi := _) (v := _) rfl (by kernel_rfl) (by kernel_rfl) (by kernel_rfl) (fun _ _ _ h => h) (Or.inl ⟨by rfl, ?hy⟩) (by assumption) ?_
      case hy => (intro w hSw; (try dsimp only at hSw); (try simp only [List.getElem_toArray, List.getElem_cons_zero, List.getElem_cons_succ]); go_simp; try with_reducible rfl)
      try simp only [List.getElem_toArray, List.getElem_cons_zero, List.getElem_cons_succ, Act.put, List.setIfInBounds_toArray, List.set_cons_zero, List.set_cons_succ]
      refine' wpAnyH_take (i := 14) (oi := _) (v := _) rfl (by kernel_rfl) (by kernel_rfl) (by kernel_rfl) (fun _ _ _ h => h) (Or.inl ⟨by rfl, ?hy⟩) (by assumption) ?_
      case hy => (intro w hSw; (try dsimp only at hSw); (try simp only [List.getElem_toArray, List.getElem_cons_zero, List.getElem_cons_succ]); go_simp; try with_reducible rfl)
      try simp only [List.getElem_toArray, List.getElem_cons_zero, List.getElem_cons_succ, Act.put, List.setIfInBounds_toArray, List.set_cons_zero, List.set_cons_succ]
      refine' wpAnyH_take (i := 15) (oi := _) (v := _) rfl (by kernel_rfl) (by kernel_rfl) (by kernel_rfl) (fun _ _ _ h => h) (Or.inl ⟨by rfl, ?hy⟩) (by assumption) ?_
      case hy => (intro w hSw; (try dsimp only at hSw); (try simp only [List.getElem_toArray, List.getElem_cons_zero, List.getElem_cons_succ]); go_simp; try with_reducible rfl)
      try simp only [List.getElem_toArray, List.getElem_cons_zero, List.getElem_cons_succ, Act.put, List.setIfInBounds_toArray, List.set_cons_zero, List.set_cons_succ]
      refine wpAnyH_ready (rs := [4, 10]) (by kernel_rfl) (by simp) ?_
      refine AllReadyH.cons (o := _) rfl (fun K hK => ?_) (AllReadyH.cons (o := _) rfl (fun K hK => ?_) AllReadyH.nil)
      · clear hHeld
        rw [if_pos (by rfl)]
        go_simp
        refine hK.out _ _ ?hs1 (fun hHeld => ?_)
        case hs1 => exact o1
        clear hK K
        refine' wpAnyH_take (i := 5) (oi := _) (v := _) rfl (by kernel_rfl) (by kernel_rfl) (by kernel_rfl) (fun _ _ _ h => h) (Or.inl ⟨by rfl, ?hy⟩) (by assumption) ?_
        case hy => (intro w hSw; (try dsimp only at hSw); (try simp only [List.getElem_toArray, List.getElem_cons_zero, List.getElem_cons_succ]); go_simp; try with_reducible rfl)
        try simp only [List.getElem_toArray, List.getElem_cons_zero, List.getElem_cons_succ, Act.put, List.setIfInBounds_toArray, List.set_cons_zero, List.set_cons_succ]
        refine wpAnyH_ready (rs := [10]) (by kernel_rfl) (by simp) ?_
        refine AllReadyH.cons (o := _) rfl (fun K hK => ?_) AllReadyH.nil
        rw [if_pos (by rfl)]
        go_simp
        refine hK.out _ _ ?hs2 (fun hHeld => ?_)
        case hs2 => exact o1
        clear hK K
        refine' wpAnyH_take (i := 11) (oi := _) (v := _) rfl (by kernel_rfl) (by kernel_rfl) (by kernel_rfl) (fun _ _ _ h => h) (Or.inl ⟨by rfl, ?hy⟩) (by assumption) ?_
        case hy => (intro w hSw; (try dsimp only at hSw); (try simp only [List.getElem_toArray, List.getElem_cons_zero, List.getElem_cons_succ]); go_simp; try with_reducible rfl)
        try simp only [List.getElem_toArray, List.getElem_cons_zero, List.getElem_cons_succ, Act.put, List.setIfInBounds_toArray, List.set_cons_zero, List.set_cons_succ]
        refine' wpAnyH_take (i := 13) (oi := _) (v := _) rfl (by kernel_rfl) (by kernel_rfl) (by kernel_rfl) (fun _ _ _ h => h) (Or.inl ⟨by rfl, ?hy⟩) (by assumption) ?_
        case hy => (intro w hSw; (try dsimp only at hSw); (try simp only [List.getElem_toArray, List.getElem_cons_zero, List.getElem_cons_succ]); go_simp; try with_reducible rfl)
        try simp only [List.getElem_toArray, List.getElem_cons_zero, List.getElem_cons_succ, Act.put, List.setIfInBounds_toArray, List.set_cons_zero, List.set_cons_succ]
        refine' wpAnyH_take (i := 16) (oi := _) (v := _) rfl (by kernel_rfl) (by kernel_rfl) (by kernel_rfl) (fun _ _ _ h => h) (Or.inl ⟨by rfl, ?hy⟩) (by assumption) ?_
        case hy => (intro w hSw; (try dsimp only at hSw); (try simp only [List.getElem_toArray, List.getElem_cons_zero, List.getElem_cons_succ]); go_simp; try with_reducible rfl)
        try simp only [List.getElem_toArray, List.getElem_cons_zero, List.getElem_cons_succ, Act.put, List.setIfInBounds_toArray, List.set_cons_zero, List.set_cons_succ]
        refine' wpAnyH_take (i := 17) (oi := _) (v := _) rfl (by kernel_rfl) (by kernel_rfl) (by kernel_rfl) (fun _ _ _ h => h) (Or.inl ⟨by rfl, ?hy⟩) (by assumption) ?_
        case hy => (intro w hSw; (try dsimp only at hSw); (try simp only [List.getElem_toArray, List.getElem_cons_zero, List.getElem_cons_succ]); go_simp; try with_reducible rfl)
        try simp only [List.getElem_toArray, List.getElem_cons_zero, List.getElem_cons_succ, Act.put, List.setIfInBounds_toArray, List.set_cons_zero, List.set_cons_succ]
        refine' wpAnyH_take (i := 18) (oi := _) (v := _) rfl (by kernel_rfl) (by kernel_rfl) (by kernel_rfl) (fun _ _ _ h => h) (Or.inl ⟨by rfl, ?hy⟩) (by assumption) ?_
        case hy => (intro w hSw; (try dsimp only at hSw); (try simp only [List.getElem_toArray, List.getElem_cons_zero, List.getElem_cons_succ]); go_simp; try with_reducible rfl)
        try simp only [List.getElem_toArray, List.getElem_cons_zero, List.getElem_cons_succ, Act.put, List.setIfInBounds_toArray, List.set_cons_zero, List.set_cons_succ]
        refine' wpAnyH_take (i := 19) (oi := _) (v := _) rfl (by kernel_rfl) (by kernel_rfl) (by kernel_rfl) (fun _ _ _ h => h) (Or.inl ⟨by rfl, ?hy⟩) (by assumption) ?_
        case hy => (intro w hSw; (try dsimp only at hSw); (try simp only [List.getElem_toArray, List.getElem_cons_zero, List.getElem_cons_succ]); go_simp; try with_reducible rfl)
        try simp only [List.getElem_toArray, List.getElem_cons_zero, List.getElem_cons_succ, Act.put, List.setIfInBounds_toArray, List.set_cons_zero, List.set_cons_succ]
        refine' wpAnyH_take (i := 20) (oi := _) (v := _) rfl (by kernel_rfl) (by kernel_rfl) (by kernel_rfl) (fun _ _ _ h => h) (Or.inl ⟨by rfl, ?hy⟩) (by assumption) ?_
        case hy => (intro w hSw; (try dsimp only at hSw); (try simp only [List.getElem_toArray, List.getElem_cons_zero, List.getElem_cons_succ]); go_simp; try with_reducible rfl)
        try simp only [List.getElem_toArray, List.getElem_cons_zero, List.getElem_cons_succ, Act.put, List.setIfInBounds_toArray, List.set_cons_zero, List.set_cons_succ]
        refine wpAnyH_ready (rs := [21]) (by kernel_rfl) (by simp) ?_
        refine AllReadyH.cons (o := _) rfl (fun K hK => ?_) AllReadyH.nil
        rw [if_pos (by rfl)]
        go_simp
        refine hK.out _ _ ?hs3 (fun hHeld => ?_)
        case hs3 => exact (HSY.out.own x).trans HTX.out
        clear hK K
        refine wpAnyH_done (by kernel_rfl) ?_ _
        go_wp2_with fail
        exact ⟨⟨k + 1, y, by go_num, by omega, HSY.out.drew, by rw [← HB.out]; exact HN.out, by rw [← HB.out]; exact HBL.out, (HG.out.trans (smset 0 _)).trans smdrew⟩, by simp [intOf]; omega⟩
      · clear hHeld
        rw [if_pos (by rfl)]
        go_simp
        refine hK.out _ _ ?hs1 (fun hHeld => ?_)
        case hs1 => exact o1
        clear hK K
        refine' wpAnyH_take (i := 11) (oi := _) (v := _) rfl (by kernel_rfl) (by kernel_rfl) (by kernel_rfl) (fun _ _ _ h => h) (Or.inl ⟨by rfl, ?hy⟩) (by assumption) ?_
        case hy => (intro w hSw; (try dsimp only at hSw); (try simp only [List.getElem_toArray, List.getElem_cons_zero, List.getElem_cons_succ]); go_simp; try with_reducible rfl)
        try simp only [List.getElem_toArray, List.getElem_cons_zero, List.getElem_cons_succ, Act.put, List.setIfInBounds_toArray, List.set_cons_zero, List.set_cons_succ]
        refine' wpAnyH_take (i := 13) (oi := _) (v := _) rfl (by kernel_rfl) (by kernel_rfl) (by kernel_rfl) (fun _ _ _ h => h) (Or.inl ⟨by rfl, ?hy⟩) (by assumption) ?_
        case hy => (intro w hSw; (try dsimp only at hSw); (try simp only [List.getElem_toArray, List.getElem_cons_zero, List.getElem_cons_succ]); go_simp; try with_reducible rfl)
        try simp only [List.getElem_toArray, List.getElem_cons_zero, List.getElem_cons_succ, Act.put, List.setIfInBounds_toArray, List.set_cons_zero, List.set_cons_succ]
        refine' wpAnyH_take (i := 16) (oi := _) (v := _) rfl (by kernel_rfl) (by kernel_rfl) (by kernel_rfl) (fun _ _ _ h => h) (Or.inl ⟨by rfl, ?hy⟩) (by assumption) ?_
        case hy => (intro w hSw; (try dsimp only at hSw); (try simp only [List.getElem_toArray, List.getElem_cons_zero, List.getElem_cons_succ]); go_simp; try with_reducible rfl)
        try simp only [List.getElem_toArray, List.getElem_cons_zero, List.getElem_cons_succ, Act.put, List.setIfInBounds_toArray, List.set_cons_zero, List.set_cons_succ]
        refine' wpAnyH_take (i := 17) (oi := _) (v := _) rfl (by kernel_rfl) (by kernel_rfl) (by kernel_rfl) (fun _ _ _ h => h) (Or.inl ⟨by rfl, ?hy⟩) (by assumption) ?_
        case hy => (intro w hSw; (try dsimp only at hSw); (try simp only [List.getElem_toArray, List.getElem_cons_zero, List.getElem_cons_succ]); go_simp; try with_reducible rfl)
        try simp only [List.getElem_toArray, List.getElem_cons_zero, List.getElem_cons_succ, Act.put, List.setIfInBounds_toArray, List.set_cons_zero, List.set_cons_succ]
        refine wpAnyH_ready (rs := [4]) (by kernel_rfl) (by simp) ?_
        refine AllReadyH.cons (o := _) rfl (fun K hK => ?_) AllReadyH.nil
        rw [if_pos (by rfl)]
        go_simp
        refine hK.out _ _ ?hs2 (fun hHeld => ?_)
        case hs2 => exact o1
        clear hK K
        refine' wpAnyH_take (i := 5) (oi := _) (v := _) rfl (by kernel_rfl) (by kernel_rfl) (by kernel_rfl) (fun _ _ _ h => h) (Or.inl ⟨by rfl, ?hy⟩) (by assumption) ?_
        case hy => (intro w hSw; (try dsimp only at hSw); (try simp only [List.getElem_toArray, List.getElem_cons_zero, List.getElem_cons_succ]); go_simp; try with_reducible rfl)
        try simp only [List.getElem_toArray, List.getElem_cons_zero, List.getElem_cons_succ, Act.put, List.setIfInBounds_toArray, List.set_cons_zero, List.set_cons_succ]
        refine' wpAnyH_take (i := 18) (oi := _) (v := _) rfl (by kernel_rfl) (by kernel_rfl) (by kernel_rfl) (fun _ _ _ h => h) (Or.inl ⟨by rfl, ?hy⟩) (by assumption) ?_
        case hy => (intro w hSw; (try dsimp only at hSw); (try simp only [List.getElem_toArray, List.getElem_cons_zero, List.getElem_cons_succ]); go_simp; try with_reducible rfl)
        try simp only [List.getElem_toArray, List.getElem_cons_zero, List.getElem_cons_succ, Act.put, List.setIfInBounds_toArray, List.set_cons_zero, List.set_cons_succ]
        refine' wpAnyH_take (i := 19) (oi := _) (v := _) rfl (by kernel_rfl) (by kernel_rfl) (by kernel_rfl) (fun _ _ _ h => h) (Or.inl ⟨by rfl, ?hy⟩) (by assumption) ?_
        case hy => (intro w hSw; (try dsimp only at hSw); (try simp only [List.getElem_toArray, List.getElem_cons_zero, List.getElem_cons_succ]); go_simp; try with_reducible rfl)
        try simp only [List.getElem_toArray, List.getElem_cons_zero, List.getElem_cons_succ, Act.put, List.setIfInBounds_toArray, List.set_cons_zero, List.set_cons_succ]
        refine' wpAnyH_take (i := 20) (oi := _) (v := _) rfl (by kernel_rfl) (by kernel_rfl) (by kernel_rfl) (fun _ _ _ h => h) (Or.inl ⟨by rfl, ?hy⟩) (by assumption) ?_
        case hy => (intro w hSw; (try dsimp only at hSw); (try simp only [List.getElem_toArray, List.getElem_cons_zero, List.getElem_cons_succ]); go_simp; try with_reducible rfl)
        try simp only [List.getElem_toArray, List.getElem_cons_zero, List.getElem_cons_succ, Act.put, List.setIfInBounds_toArray, List.set_cons_zero, List.set_cons_succ]
        refine wpAnyH_ready (rs := [21]) (by kernel_rfl) (by simp) ?_
        refine AllReadyH.cons (o := _) rfl (fun K hK => ?_) AllReadyH.nil
        rw [if_pos (by rfl)]
        go_simp
        refine hK.out _ _ ?hs3 (fun hHeld => ?_)
        case hs3 => exact (HSY.out.own x).trans HTX.out
        clear hK K
        refine wpAnyH_done (by kernel_rfl) ?_ _
        go_wp2_with fail
        exact ⟨⟨k + 1, y, by go_num, by omega, HSY.out.drew, by rw [← HB.out]; exact HN.out, by rw [← HB.out]; exact HBL.out, (HG.out.trans (smset 0 _)).trans smdrew⟩, by simp [intOf]; omega⟩
    · obtain rfl : k = q := by omega
      have he : crN n b = m := by rw [HM.out, ← HQ.out, List.take_length]
      go_wp2_with fail
      go_end0
      rw [he]
      exact ⟨rfl, HG.out, T1, HS.out, HT1.out⟩

end Crc
end Go.Proofs.Ytlpkklhagmkmpaa
