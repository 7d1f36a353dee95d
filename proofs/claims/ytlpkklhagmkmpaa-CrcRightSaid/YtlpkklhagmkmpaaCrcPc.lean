/-
  The program's sumOf and Sum of layer 8.
-/
import Derived.Test.YtlpkklhagmkmpaaCrcPb
import Derived.Laws.Tables
import Derived.Deep.WholeRow
namespace Go.Proofs.Ytlpkklhagmkmpaa
open Go.RowKit
namespace Crc
open Num

def zeros256 : Array Value := Array.replicate 256 (.int .u32 0)
theorem zeros_size : zeros256.size = 256 := by kernel_rfl
theorem info_sm : (Try.prog.info? 61).map (fun i => (i.zero, i.size)) = some (some (.agg (smRow 0 0 0 zeros256)), 260) := by kernel_rfl
theorem built_sm (a : Act) : Try.prog.built 61 ((#[(0, Operand.const (.int .u32 4294967295))] : Array (Nat × Operand)).map fun (i, x) => (i, a.eval x)).toList = some (smRow 4294967295 0 0 zeros256) := by
  have h : Try.prog.built 61 [(0, .int .u32 4294967295)] = some (smRow 4294967295 0 0 zeros256) := by kernel_rfl
  rw [← h]
  simp [go_sem]
theorem sm_size (n d m : Nat) : (smRow n d m zeros256).size = 260 := by unfold smRow; rw [Array.size_append, zeros_size]; rfl
theorem sm_one : (smRow 4294967295 0 0 zeros256).all (·.oneCell') = true := by kernel_rfl
/-- no sum, and a sum at its beginning, as cells -/
def smZ0 : Array Value := smRow 0 0 0 zeros256
def smZ1 : Array Value := smRow 4294967295 0 0 zeros256
theorem built_sm1 (a : Act) : Try.prog.built 61 ((#[(0, Operand.const (.int .u32 4294967295))] : Array (Nat × Operand)).map fun (i, x) => (i, a.eval x)).toList = some smZ1 := built_sm a
theorem zero_sm (w : World) : (zeroValue 61).run Try.prog w = .ok (.agg smZ0) w := (zero_of_info info_sm).1 w
theorem size_sm : (Try.prog.info? 61).map (·.size) = some smZ1.size := by rw [(zero_of_info info_sm).2]; unfold smZ1; rw [sm_size]
theorem size_sm0 : smZ0.size = smZ1.size := by unfold smZ0 smZ1; rw [sm_size, sm_size]
theorem one_sm : smZ1.all (·.oneCell') = true := sm_one
theorem wpList_build_eq {P : Program} {ops : Array Oper} {rest : List Oper} {o : Oper} {a : Act} {w : World} {Q : Exit → Act → World → Prop} (hg : o.guard = none) (t : TypeId) (parts : Array (Nat × Operand)) (ho : o.op = .build t parts)
    (cells : Array Value) (hf : P.built t (parts.map fun (i, x) => (i, a.eval x)).toList = some cells) (h : wpList P ops Q rest (a.put o.dst (.agg cells)) w) : wpList P ops Q (o :: rest) a w := by
  refine wpList_build hg t parts ho (by rw [hf]; rfl) ?_
  rw [hf]
  exact h
theorem sm_start (w : World) : SmAt (w.alloc (.cells smZ1 61)) w.heap.size 4294967295 0 0 zeros256 := ⟨heap_alloc_last w _, zeros_size⟩
theorem turned_bits {m : Nat} (h : m < 4294967296) : bits .xor .u32 IntKind.u32.max (m : Int) = ((4294967295 - m : Nat) : Int) := by
  have h1 : IntKind.u32.max = ((4294967295 : Nat) : Int) := rfl
  rw [h1, u32_xor_nat 4294967295 m (by decide) h]
  congr 1
  have h2 := congrArg BitVec.toNat (BitVec.allOnes_xor (x := BitVec.ofNat 32 m))
  rw [BitVec.toNat_xor, BitVec.toNat_not, BitVec.toNat_allOnes, BitVec.toNat_ofNat, Nat.mod_eq_of_lt (by omega)] at h2
  exact h2
attribute [irreducible] smZ0 smZ1 zeros256
attribute [local go_sem] zero_sm
theorem crN_flat (ls : List (List UInt8)) (k n : Nat) (y : List UInt8) (h : ls[k]? = some y) : crN n (ls.take (k + 1)).flatten = crN (crN n (ls.take k).flatten) y := by
  rw [List.take_add_one, h, Option.toList_some, List.flatten_append, crN_append]
  simp

set_option maxRecDepth 100000 in
set_option maxHeartbeats 4000000 in
theorem sumOf_any (la : Option Addr) (lc : Nat) (ls : List (List UInt8)) (n : Nat) (hn : ls.length = n) (hn9 : n ≤ 1000) (w : World) (hrow : Bodies w la lc ls) (hls : ∀ y ∈ ls, y.length ≤ 1000000) :
    Calls Try.prog 18 #[.slice la n lc] w fun e w' => e = .returned (.int .u32 (sumC ls.flatten : Nat)) ∧ Below w.heap.size w w' := by
  have HR := Lib.hid hrow
  have HN := Lib.hid hn
  have HL := Lib.hid hls
  clear hrow hn hls
  go_enter Try.func18, Try.ntmps18
  go_wp2_with (first | (refine wpList_build_eq rfl 61 _ rfl smZ1 (built_sm1 _) ?_) | (refine wpList_store_row rfl 61 (.tmp 3) (.tmp 6) rfl w.heap.size smZ1 rfl rfl 61 smZ0 (heap_alloc_last w _) size_sm size_sm0 one_sm ?_))
  go_loopw [9] (fun i_ wr => ∃ (k m d : Nat) (T : Array Value), i_ = .int .i64 k ∧ k ≤ n ∧ SmAt wr w.heap.size m d 0 T ∧ (d = 0 ∨ (d = 1 ∧ TabTo T 256)) ∧ m = crN 4294967295 (ls.take k).flatten ∧ m < 4294967296 ∧ Below w.heap.size w wr) (fun i_ _ => n - (intOf i_).toNat)
  case atStart =>
    rw [World.setRow_alloc_new]
    exact ⟨0, 4294967295, 0, zeros256, rfl, Nat.zero_le _, sm_start w, .inl rfl, rfl, by decide, (Below.refl _ _).alloc (Nat.le_refl _) _⟩
  case round =>
    obtain ⟨k, m, d, T, rfl, hk, hs, hd, hm, hml, hb⟩ := hrel
    have HS := Lib.hid hs
    have HD := Lib.hid hd
    have HM := Lib.hid hm
    have HML := Lib.hid hml
    have HB := Lib.hid hb
    clear hs hd hm hml hb
    by_cases hlt : k < n
    · obtain ⟨y, hy⟩ : ∃ y, ls[k]? = some y := ⟨_, List.getElem?_eq_getElem (by rw [HN.out]; exact hlt)⟩
      obtain ⟨bb, off, rfl, hcc⟩ := HR.out.at (by rw [HN.out]; omega)
      obtain ⟨x, c, hc, hbx⟩ := hcc k y hy
      have hc1 := (HB.out.cell (cell_lt hc)).trans hc
      have HBX : Hid (∀ W, wr.grownBy W (some w.heap.size) → BytesAt W x c y) := Lib.hid fun W hW => hbx.later (HB.out.grown hW HB.out.size fun j hj => by cases hj; exact Nat.le_refl _)
      have HY := Lib.hid (HL.out y (List.mem_of_getElem? hy))
      have HF := Lib.hid (crN_flat ls k 4294967295 y hy)
      obtain ⟨ny, hny⟩ : ∃ j, y.length = j := ⟨_, rfl⟩
      rw [hny] at hc1 HY
      have HNY := Lib.hid hny
      clear hcc hc hbx hy hny
      go_wp2_with fail
      refine (add_any w.heap.size m d T wr HS.out HD.out HML.out x c y ny HNY.out (by have := HY.out; omega) HBX.out).mono ?_
      rintro e w2 ⟨rfl, hg2, T2, h2, ht2⟩
      have HG2 := Lib.hid hg2
      have HS2 := Lib.hid h2
      have HT2 := Lib.hid ht2
      clear hg2 h2 ht2
      go_wp2_with fail
      exact ⟨⟨k + 1, crN m y, 1, T2, by go_num, by omega, HS2.out, .inr ⟨rfl, HT2.out⟩, by rw [HF.out, ← HM.out], crN_lt HML.out, HB.out.grown HG2.out HB.out.size fun j hj => by cases hj; exact Nat.le_refl _⟩, by simp [intOf]; omega⟩
    · obtain rfl : k = n := by omega
      have HE : Hid (sumC ls.flatten = 4294967295 - m) := Lib.hid (by unfold sumC; rw [HM.out, ← HN.out, List.take_length])
      have c0 := HS.out.now
      go_wp2_with fail
      go_ret
      rw [HE.out]
      exact ⟨congrArg (fun x => Ending.returned (.int .u32 x)) (turned_bits HML.out), HB.out⟩

set_option maxRecDepth 100000 in
set_option maxHeartbeats 4000000 in
theorem sum_any (a : Option Addr) (cap : Nat) (b : List UInt8) (q : Nat) (hq : b.length = q) (w : World) (hby : BytesAt w a cap b) (hlen : q ≤ 1000000) (_hl : Laid w) :
    Calls Try.prog 14 #[.slice a q cap] w fun e w' => e = .returned (.int .u32 (sumC b : Nat)) ∧ Below w.heap.size w w' := by
  have HB0 := Lib.hid ((Below.refl w.heap.size w).alloc (Nat.le_refl _) (.cells #[.slice a q cap] 22))
  have HROW : Hid (Bodies (w.alloc (.cells #[.slice a q cap] 22)) (some ⟨w.heap.size, 0, none⟩) 1 [b]) := Lib.hid ⟨[(a, q, cap)], one_row encS w _ (a, q, cap) _ rfl, ⟨hq.symm, hby.later HB0.out⟩, trivial⟩
  have HSUM := Lib.hid (sumOf_any (some ⟨w.heap.size, 0, none⟩) 1 [b] 1 rfl (by decide) _ HROW.out (by intro y hy; obtain rfl := List.mem_singleton.1 hy; omega))
  rw [List.flatten_cons, List.flatten_nil, List.append_nil] at HSUM
  clear HROW hby
  go_enter Try.func14, Try.ntmps14
  go_wp2_with fail
  refine HSUM.out.mono ?_
  rintro e w2 ⟨rfl, hb2⟩
  have HB2 := Lib.hid (HB0.out.trans (hb2.mono HB0.out.size))
  clear hb2
  go_wp2_with fail
  go_ret
  exact ⟨rfl, HB2.out⟩

end Crc
end Go.Proofs.Ytlpkklhagmkmpaa
