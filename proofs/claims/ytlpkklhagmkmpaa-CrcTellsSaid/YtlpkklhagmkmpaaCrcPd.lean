/-
  The program's Put of layer 8.
-/
import Derived.Test.YtlpkklhagmkmpaaCrcPc
import Derived.Laws.MakeOwn
namespace Go.Proofs.Ytlpkklhagmkmpaa
open Go.RowKit
namespace Crc
open Num

set_option maxRecDepth 100000 in
set_option maxHeartbeats 4000000 in
theorem put_any (a : Option Addr) (cap : Nat) (b : List UInt8) (q : Nat) (hq : b.length = q) (w : World) (hby : BytesAt w a cap b) (hlen : q ≤ 1000000) (hl : Laid w) :
    Calls Try.prog 8 #[.slice a q cap] w (RetG 5 w (putC b).1 (putC b).2) := by
  by_cases hbad : q = 0 ∨ 4096 < q
  · rw [put_bad hq hbad]
    have hd : (decide (1 ≤ (q : Int)) && decide ((q : Int) ≤ 4096)) = false := by
      rw [Bool.and_eq_false_iff, decide_eq_false_iff_not, decide_eq_false_iff_not]
      omega
    have HM := Lib.hid (may_any q w)
    rw [hd] at HM
    clear hd hby
    go_enter Try.func8, Try.ntmps8
    go_wp2_with fail
    refine HM.out.mono ?_
    rintro e w1 ⟨rfl, rfl⟩
    go_wp2_with fail
    go_ret2
    exact ⟨⟨_, rfl, .inl ⟨rfl, rfl⟩⟩, Below.refl _ _⟩
  rw [put_good hq (by omega) (by omega)]
  have hd : (decide (1 ≤ (q : Int)) && decide ((q : Int) ≤ 4096)) = true := by
    rw [Bool.and_eq_true, decide_eq_true_eq, decide_eq_true_eq]
    omega
  have HM := Lib.hid (may_any q w)
  rw [hd] at HM
  have HF := Lib.hid hby
  have HQ := Lib.hid hq
  have h1 : 1 ≤ q := by omega
  have h2 : q ≤ 4096 := by omega
  clear hd hby hq hbad
  obtain ⟨i0, hi0, hz0, hz1, hz2⟩ := info_parts infoC
  have HI0 := Lib.hid hi0
  have HZ0 := Lib.hid hz0
  have HZ1 := Lib.hid hz1
  have HZ2 := Lib.hid hz2
  clear hi0 hz0 hz1 hz2
  go_enter Try.func8, Try.ntmps8
  go_wp2_with fail
  refine HM.out.mono ?_
  rintro e w1 ⟨rfl, rfl⟩
  obtain ⟨w2, hmk, hown0, hg2⟩ := run_make_own (P := Try.prog) w1 w1.heap.size 22 5 i0 _ 1 Try.underlying22 HI0.out HZ0.out HZ1.out .i64 .i64 (6 + q) (by rw [HZ2.out]; omega) (by unfold maxLen; omega) (Nat.le_refl _)
  rw [Int.natCast_add] at hmk
  have hmk' : (Instr.makeSlice 22 (.int .i64 0) (.int .i64 (6 + (q : Int)))).run Try.prog w1 = .ok (.slice (some ⟨w1.heap.size, 0, none⟩) 0 (6 + q)) w2 := hmk
  have HO2 : Hid (OwnG 5 w2 w1.heap.size (.slice (some ⟨w1.heap.size, 0, none⟩) 0 (6 + q)) []) := Lib.hid (Own.g hown0)
  have HB2 := Lib.hid ((Below.refl w1.heap.size w1).grown hg2 (Nat.le_refl _) fun j hj => by cases hj)
  clear hown0 hg2 HM
  clear hmk
  have HLB : Hid (∀ W : World, ∀ fr, BytesAt (W.alloc (.cells #[.int .u8 ((q : Int) / 256), .int .u8 ((q : Int) % 256)] 5 fr)) (some ⟨W.heap.size, 0, none⟩) 2 (long q)) :=
    Lib.hid fun W fr => bytes_alloc W _ _ fr (long q) (long_cells (by omega)) 2 (Nat.le_refl _)
  have HA2 := Lib.hid fun o => HB2.out.alloc HB2.out.size o
  go_wp2_with (at_builtin; refine wpList_append_g rfl (.tmp 14) (.tmp 22) _ rfl w1.heap.size 5 i0 _ Try.underlying22 HI0.out HZ0.out HZ1.out HZ2.out rfl _ [] rfl (HO2.out.kept ((Below.refl _ _).alloc (Nat.le_refl _) _)) _ _ _ (long q) rfl (by rfl) (HLB.out w2 _) (by rw [long_len]; decide) (HA2.out _).size ?_; intro v3 w3 hown3 hb3 ⟨_, _⟩
               rw [List.nil_append] at hown3
               have HB3 := Lib.hid ((HA2.out _).trans hb3)
               obtain ⟨sa, sc, rfl, hsb⟩ := hown3.bytes
               have HO3 := Lib.hid hown3
               have HS3 := Lib.hid hsb; clear hb3 hown3 hsb)
  have HB4 := Lib.hid (HB3.out.alloc HB3.out.size (.cells #[.slice sa (long q).length sc, .slice a q cap] 22))
  have HROW : Hid (Bodies (w3.alloc (.cells #[.slice sa (long q).length sc, .slice a q cap] 22)) (some ⟨w3.heap.size, 0, none⟩) 2 [long q, b]) :=
    Lib.hid ⟨[(sa, (long q).length, sc), (a, q, cap)], rows_alloc encS w3 _ _ _ rfl 2 (Nat.le_refl _), ⟨rfl, HS3.out.later ((Below.refl _ _).alloc (Nat.le_refl _) _)⟩, ⟨HQ.out.symm, HF.out.later HB4.out⟩, trivial⟩
  have HSUM := Lib.hid (sumOf_any (some ⟨w3.heap.size, 0, none⟩) 2 [long q, b] 2 rfl (by decide) _ HROW.out (by
    intro y hy
    rcases List.mem_cons.1 hy with rfl | hy
    · rw [long_len]; decide
    · obtain rfl := List.mem_singleton.1 hy
      rw [HQ.out]; exact hlen))
  rw [List.flatten_cons, List.flatten_cons, List.flatten_nil, List.append_nil] at HSUM
  have HREC : Hid (recB b = long q ++ (four (sumC (long q ++ b)) ++ b)) := Lib.hid (by unfold recB; rw [HQ.out])
  have hs32 := sumC_lt (long q ++ b)
  obtain ⟨s, hs⟩ : ∃ s, sumC (long q ++ b) = s := ⟨_, rfl⟩
  rw [hs] at HREC hs32 HSUM
  clear hs HROW
  refine HSUM.out.mono ?_
  rintro e w5 ⟨rfl, hb5⟩
  have HB5 := Lib.hid (HB4.out.trans (hb5.mono HB4.out.size))
  have HO5 := Lib.hid ((HO3.out.kept ((Below.refl _ _).alloc (Nat.le_refl _) _)).kept hb5)
  clear hb5 HSUM HB2 HA2 HB3 HO3 HS3 HB4 HO2 hmk'
  have HFB : Hid (∀ W : World, ∀ fr, BytesAt (W.alloc (.cells #[.int .u8 ((s : Int) / 16777216), .int .u8 ((s : Int) / 65536 % 256), .int .u8 ((s : Int) / 256 % 256), .int .u8 ((s : Int) % 256)] 5 fr)) (some ⟨W.heap.size, 0, none⟩) 4 (four s)) :=
    Lib.hid fun W fr => bytes_alloc W _ _ fr (four s) (four_cells hs32) 4 (Nat.le_refl _)
  have HC5 := Lib.hid fun o => HB5.out.alloc HB5.out.size o
  go_wp2_with (first
    | (at_builtin; refine wpList_append_g rfl (.tmp 28) (.tmp 40) _ rfl w1.heap.size 5 i0 _ Try.underlying22 HI0.out HZ0.out HZ1.out HZ2.out rfl _ (long q) rfl (HO5.out.kept ((Below.refl _ _).alloc (Nat.le_refl _) _)) _ _ _ (four s) rfl (by rfl) (HFB.out _ _) (by rw [long_len, four_len]; decide) (HC5.out _).size ?_; intro v6 w6 hown6 hb6 ⟨_, _⟩
       have HC6 := Lib.hid ((HC5.out _).trans hb6)
       have HO6 := Lib.hid hown6; clear hb6 hown6)
    | (at_builtin; refine wpList_append_g rfl (.tmp 42) (.tmp 43) _ rfl w1.heap.size 5 i0 _ Try.underlying22 HI0.out HZ0.out HZ1.out HZ2.out rfl _ (long q ++ four s) rfl HO6.out _ _ _ b rfl HQ.out (HF.out.later HC6.out) (by rw [List.length_append, long_len, four_len, HQ.out]; omega) HC6.out.size ?_; intro v7 w7 hown7 hb7 ⟨_, _⟩
       have HC7 := Lib.hid (HC6.out.trans hb7)
       have HO7 := Lib.hid hown7; clear hb7 hown7))
  go_ret2
  rw [HREC.out, ← List.append_assoc]
  exact ⟨⟨_, rfl, HO7.out⟩, HC7.out⟩

end Crc
end Go.Proofs.Ytlpkklhagmkmpaa
