/-
  The reference's Put of layer 8.
-/
import Derived.Test.YtlpkklhagmkmpaaCrcA
import Derived.Test.YtlpkklhagmkmpaaMemG
import Derived.Test.YtlpkklhagmkmpaaRow
namespace Go.Proofs.Ytlpkklhagmkmpaa
open Go.RowKit
namespace Crc
open Num

theorem infoC : (Try.prog.info? 5).map (fun i => (i.zero, i.size, i.bytes)) = some (some (.int .u8 0), 1, 1) := by kernel_rfl
theorem byte_of {k : Nat} (h : k < 256) : ((UInt8.ofNat k).toNat : Int) = (k : Int) := by rw [UInt8.toNat_ofNat_of_lt' (by show k < 256; exact h)]
theorem long_cells {n : Nat} (h : n < 65536) : (#[.int .u8 ((n : Int) / 256), .int .u8 ((n : Int) % 256)] : Array Value).toList = byteVs (long n) := by
  unfold long byteVs
  simp only [List.map_cons, List.map_nil]
  rw [byte_of (k := n / 256) (by omega), byte_of (k := n % 256) (by omega)]
  rfl
theorem four_cells {n : Nat} (h : n < 4294967296) : (#[.int .u8 ((n : Int) / 16777216), .int .u8 ((n : Int) / 65536 % 256), .int .u8 ((n : Int) / 256 % 256), .int .u8 ((n : Int) % 256)] : Array Value).toList = byteVs (four n) := by
  unfold four byteVs
  simp only [List.map_cons, List.map_nil]
  rw [byte_of (k := n / 16777216) (by omega), byte_of (k := n / 65536 % 256) (by omega), byte_of (k := n / 256 % 256) (by omega), byte_of (k := n % 256) (by omega)]
  rfl
theorem own_empty_at (w : World) (e : TypeId) (base k : Nat) (hk : w.heap.size = k) (hb : base ≤ k) : Own e (w.alloc (.cells #[] e)) base (.slice (some ⟨k, 0, none⟩) 0 0) [] := by
  subst hk
  exact own_empty w e base hb
theorem long_len (n : Nat) : (long n).length = 2 := rfl
theorem four_len (n : Nat) : (four n).length = 4 := rfl
theorem put_bad {b : List UInt8} {q : Nat} (hq : b.length = q) (h : q = 0 ∨ 4096 < q) : putC b = ([], 1) := by unfold putC; rw [hq, if_pos h]
theorem put_good {b : List UInt8} {q : Nat} (hq : b.length = q) (h0 : q ≠ 0) (h1 : ¬ 4096 < q) : putC b = (recB b, 0) := by unfold putC; rw [hq, if_neg (by omega)]

set_option maxRecDepth 100000 in
set_option maxHeartbeats 4000000 in
theorem rput_own (a : Option Addr) (cap : Nat) (b : List UInt8) (q : Nat) (hq : b.length = q) (w : World) (hby : BytesAt w a cap b) (hlen : q ≤ 9223372036854775807) :
    Calls Try.prog 9 #[.slice a q cap] w (RetG 5 w (putC b).1 (putC b).2) := by
  by_cases h0 : q = 0
  · rw [put_bad hq (.inl h0)]
    subst h0
    go_enter Try.func9, Try.ntmps9
    go_wp2_with fail
    go_ret2
    exact ⟨⟨_, rfl, .inl ⟨rfl, rfl⟩⟩, Below.refl _ _⟩
  by_cases hbig : 4096 < q
  · rw [put_bad hq (.inr hbig)]
    go_enter Try.func9, Try.ntmps9
    go_wp2_with fail
    go_ret2
    exact ⟨⟨_, rfl, .inl ⟨rfl, rfl⟩⟩, Below.refl _ _⟩
  rw [put_good hq h0 hbig]
  have e0 : ((q : Int) == 0) = false := by simp only [beq_eq_false_iff_ne]; omega
  have e1 : decide (4096 < (q : Int)) = false := by simp only [decide_eq_false_iff_not]; omega
  have HF := Lib.hid hby
  have HQ := Lib.hid hq
  clear hby hq
  obtain ⟨i0, hi0, hz0, hz1, hz2⟩ := info_parts infoC
  have HI0 := Lib.hid hi0
  have HZ0 := Lib.hid hz0
  have HZ1 := Lib.hid hz1
  have HZ2 := Lib.hid hz2
  clear hi0 hz0 hz1 hz2
  have HLB : Hid (∀ W : World, ∀ fr, BytesAt (W.alloc (.cells #[.int .u8 ((q : Int) / 256), .int .u8 ((q : Int) % 256)] 5 fr)) (some ⟨W.heap.size, 0, none⟩) 2 (long q)) :=
    Lib.hid fun W fr => bytes_alloc W _ _ fr (long q) (long_cells (by omega)) 2 (Nat.le_refl _)
  have HLK : Hid (∀ fr, Clear #[.int .u8 ((q : Int) / 256), .int .u8 ((q : Int) % 256)] fr → ∀ W : World, Below (w.heap.size + 1) (w.alloc (.cells #[.int .u8 ((q : Int) / 256), .int .u8 ((q : Int) % 256)] 5 fr)) W → OwnG 5 W w.heap.size (.slice (some ⟨w.heap.size, 0, none⟩) 2 2) (long q)) :=
    Lib.hid fun fr hc W hW => (own_lit w _ _ fr (long q) (long_cells (by omega)) 2 rfl (by decide) hc).kept (by simpa using hW)
  go_enter Try.func9, Try.ntmps9
  go_wp2_with (first
    | (at_builtin; refine wpList_append_g rfl (.tmp 23) (.tmp 24) _ rfl (w.heap.size + 1) 5 i0 _ Try.underlying22 HI0.out HZ0.out HZ1.out HZ2.out rfl _ [] rfl (Own.g (own_empty_at _ _ (w.heap.size + 1) _ (by simp) (Nat.le_refl _))) _ _ _ (long q) rfl (by rfl) ((HLB.out w _).later ((Below.refl _ _).alloc (Nat.le_refl _) _)) (by rw [long_len]; decide) (by simp) ?_; intro v3 w3 hown3 hb3 _
       rw [List.nil_append] at hown3
       have HB3 := Lib.hid (((Below.refl (w.heap.size + 1) (w.alloc _)).alloc (by simp) _).trans hb3)
       have HC3 := Lib.hid (((Below.refl w.heap.size w).alloc (Nat.le_refl _) _).trans (HB3.out.mono (Nat.le_succ _)))
       have HO3 := Lib.hid hown3; clear hb3 hown3)
    | (at_builtin; refine wpList_append_g rfl (.tmp 25) (.tmp 26) _ rfl (w.heap.size + 1) 5 i0 _ Try.underlying22 HI0.out HZ0.out HZ1.out HZ2.out rfl _ (long q) rfl HO3.out _ _ _ b rfl HQ.out (HF.out.later HC3.out) (by rw [long_len, HQ.out]; omega) (by have h := HB3.out.size; simpa using h) ?_; intro v4 w4 hown4 hb4 _
       have HB4 := Lib.hid (HB3.out.trans hb4)
       have HC4 := Lib.hid (HC3.out.trans (hb4.mono (Nat.le_succ _)))
       have HO4 := Lib.hid hown4; clear hb4 hown4))
  have HB4L : Hid ((long q ++ b).length = 2 + q) := Lib.hid (by rw [List.length_append, long_len, HQ.out])
  obtain ⟨sa, sc, rfl, hsb⟩ := HO4.out.bytes
  have HSB := Lib.hid hsb
  clear hsb
  rw [HB4L.out]
  have HREC : Hid (recB b = long q ++ (four (sumC (long q ++ b)) ++ b)) := Lib.hid (by unfold recB; rw [HQ.out])
  refine (rsum_any sa sc (long q ++ b) (2 + q) HB4L.out _ HSB.out (by omega)).mono ?_
  rintro e w' ⟨rfl, rfl⟩
  have hs32 := sumC_lt (long q ++ b)
  obtain ⟨s, hs⟩ : ∃ s, sumC (long q ++ b) = s := ⟨_, rfl⟩
  rw [hs] at HREC hs32 ⊢
  clear hs
  have HFB : Hid (∀ W : World, ∀ fr, BytesAt (W.alloc (.cells #[.int .u8 ((s : Int) / 16777216), .int .u8 ((s : Int) / 65536 % 256), .int .u8 ((s : Int) / 256 % 256), .int .u8 ((s : Int) % 256)] 5 fr)) (some ⟨W.heap.size, 0, none⟩) 4 (four s)) :=
    Lib.hid fun W fr => bytes_alloc W _ _ fr (four s) (four_cells hs32) 4 (Nat.le_refl _)
  have HK5 := Lib.hid (HLK.out _ (.inr rfl) _ (HB4.out.alloc (by have h := HB4.out.size; simpa using h) (.cells #[.int .u8 ((s : Int) / 16777216), .int .u8 ((s : Int) / 65536 % 256), .int .u8 ((s : Int) / 256 % 256), .int .u8 ((s : Int) % 256)] 5)))
  have HC5 := Lib.hid (HC4.out.alloc HC4.out.size (.cells #[.int .u8 ((s : Int) / 16777216), .int .u8 ((s : Int) / 65536 % 256), .int .u8 ((s : Int) / 256 % 256), .int .u8 ((s : Int) % 256)] 5))
  go_wp2_with (first
    | (at_builtin; refine wpList_append_g rfl (.tmp 29) (.tmp 44) _ rfl w.heap.size 5 i0 _ Try.underlying22 HI0.out HZ0.out HZ1.out HZ2.out rfl _ (long q) rfl HK5.out _ _ _ (four s) rfl (by rfl) (HFB.out _ _) (by rw [long_len, four_len]; decide) HC5.out.size ?_; intro v6 w6 hown6 hb6 _
       have HC6 := Lib.hid (HC5.out.trans hb6)
       have HO6 := Lib.hid hown6; clear hb6 hown6)
    | (at_builtin; refine wpList_append_g rfl (.tmp 46) (.tmp 47) _ rfl w.heap.size 5 i0 _ Try.underlying22 HI0.out HZ0.out HZ1.out HZ2.out rfl _ (long q ++ four s) rfl HO6.out _ _ _ b rfl HQ.out (HF.out.later HC6.out) (by rw [List.length_append, long_len, four_len, HQ.out]; omega) HC6.out.size ?_; intro v7 w7 hown7 hb7 _
       have HC7 := Lib.hid (HC6.out.trans hb7)
       have HO7 := Lib.hid hown7; clear hb7 hown7))
  go_ret2
  rw [HREC.out, ← List.append_assoc]
  exact ⟨⟨_, rfl, HO7.out⟩, HC7.out⟩
theorem rput_any (a : Option Addr) (cap : Nat) (b : List UInt8) (q : Nat) (hq : b.length = q) (w : World) (hby : BytesAt w a cap b) (hlen : q ≤ 9223372036854775807) :
    Calls Try.prog 9 #[.slice a q cap] w fun e w' => (∃ a' cap', e = .returned (.tuple #[.slice a' (putC b).1.length cap', .int .i64 (putC b).2]) ∧ BytesAt w' a' cap' (putC b).1) ∧ Below w.heap.size w w' := (rput_own a cap b q hq w hby hlen).mono fun _ _ h => h.bytes

end Crc
end Go.Proofs.Ytlpkklhagmkmpaa
