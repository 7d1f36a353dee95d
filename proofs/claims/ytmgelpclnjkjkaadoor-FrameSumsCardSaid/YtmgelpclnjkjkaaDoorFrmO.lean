/-
  The walk of layer 3's law FrameSums.
-/
import Derived.Test.YtmgelpclnjkjkaaDoorFrmL
namespace Go.Proofs.YtmgelpclnjkjkaaDoor
open Go.RowKit
namespace Frm
open Num

/-- what a list of bytes is cut to -/
theorem cut_part {w : World} {a : Option Addr} {cap : Nat} {b : List UInt8} (h : BytesAt w a cap b) (n : Nat) : ∃ t : List UInt8, t.length ≤ n ∧ t.length ≤ b.length ∧ BytesAt w a cap t ∧ min (b.length : Int) (n : Int) = (t.length : Int) :=
  ⟨b.take n, by rw [List.length_take]; omega, by rw [List.length_take]; omega, h.take n, by rw [List.length_take]; omega⟩

theorem sum_is (a : Option Addr) (cap : Nat) (b : List UInt8) (n : Nat) (hn : b.length = n) (w : World) (hby : BytesAt w a cap b) (hlen : n ≤ 1000000) (r : Nat) (hr : sumN b = r) :
    Calls Tryd.prog 13 #[.slice a n cap] w fun e w' => e = .returned (.int .i64 r) ∧ Below w.heap.size w w' := by
  subst hn hr
  exact sum_any a cap b w hby hlen

set_option maxRecDepth 100000 in
set_option maxHeartbeats 2000000 in
theorem law_FrameSums (a0 : Option Addr) (len0 cap0 : Nat) (z0 : List Int) (a1 : Option Addr) (len1 cap1 : Nat) (z1 : List Int) (at_ : Int) (by_ : Int) (w : World)
    (h0 : IsRow .u8 w a0 len0 cap0 z0) (h1 : IsRow .u8 w a1 len1 cap1 z1) (hat : (Lit.int .u16 at_).wf = true) (hby : (Lit.int .u8 by_).wf = true) (hl : Laid w) :
    Calls Tryd.prog 7 #[.slice a0 len0 cap0, .slice a1 len1 cap1, .int .u16 at_, .int .u8 by_] w fun e w' => e = .returned (.bool true) ∧ Below w.heap.size w w' := by
  obtain ⟨x, rfl, hm0, hx⟩ := h0.bytes
  obtain ⟨y, rfl, hm1, hy⟩ := h1.bytes
  have ⟨ha0, ha1⟩ : 0 ≤ at_ ∧ at_ ≤ 65535 := bounds_u16 hat
  have ⟨hb0, hb1⟩ : 0 ≤ by_ ∧ by_ ≤ 255 := bounds_u8 hby
  unfold maxLen at hm0 hm1
  have hxc := hx.cap
  have hyc := hy.cap
  obtain ⟨s, hs3, hsx, hs, hsm⟩ := cut_part hx 3000
  obtain ⟨t, ht3, hty, ht, htm⟩ := cut_part hy 3000
  have HS := Lib.hid hs
  have HT := Lib.hid ht
  have HL := Lib.hid hl
  clear hx hy h0 h1 hat hby hl hs ht
  obtain ⟨i0, hi0, hz0, hz1, hz2⟩ := info_parts infoB
  have HI0 := Lib.hid hi0
  have HZ0 := Lib.hid hz0
  have HZ1 := Lib.hid hz1
  have HZ2 := Lib.hid hz2
  clear hi0 hz0 hz1 hz2
  go_enter Tryd.func7, Tryd.ntmps7
  go_wp2_with fail
  refine (awake_any _ HL.out).mono ?_
  rintro e w1 ⟨rfl, hb1⟩
  have HB1 := Lib.hid hb1
  clear hb1
  go_wp2_with fail
  go_quiet (fail)
  have es : (if (3000 : Int) < (x.length : Int) then (3000 : Int) else (x.length : Int)) = (s.length : Int) := by rw [← hsm]; split <;> omega
  have et : (if (3000 : Int) < (y.length : Int) then (3000 : Int) else (y.length : Int)) = (t.length : Int) := by rw [← htm]; split <;> omega
  have es2 : min (x.length : Int) 3000 = (s.length : Int) := by omega
  have et2 : min (y.length : Int) 3000 = (t.length : Int) := by omega
  first
    | rw [es, et]
    | rw [es2, et2]
  simp only [Int.toNat_natCast]
  have hb2 := below_drew HB1.out nq
  generalize w1.drewN nq = w2 at hb2 ⊢
  have HB2 := Lib.hid hb2
  clear hb2 es et es2 et2 hsm htm HB1
  have HSA := Lib.hid (sum_append s t)
  go_wp2_with (first
    | (at_builtin; refine wpList_append_g rfl (.tmp 24) (.tmp 25) _ rfl w2.heap.size 5 i0 _ Tryd.underlying22 HI0.out HZ0.out HZ1.out HZ2.out rfl _ [] rfl (Own.g (own_empty w2 _ _ (Nat.le_refl _))) _ _ _ s rfl (by rfl) ((HS.out.later HB2.out).later ((Below.refl _ _).alloc (Nat.le_refl _) _)) (by simp only [List.length_nil]; omega) (by simp) ?_; intro v3 w3 hown3 hb3 _
       rw [List.nil_append] at hown3
       have HB3 := Lib.hid (((Below.refl _ _).alloc (Nat.le_refl _) _).trans hb3); clear hb3)
    | (at_builtin; refine wpList_append_g rfl (.tmp 26) (.tmp 27) _ rfl w2.heap.size 5 i0 _ Tryd.underlying22 HI0.out HZ0.out HZ1.out HZ2.out rfl _ _ rfl hown3 _ _ _ t rfl (by rfl) ((HT.out.later HB2.out).later HB3.out) (by omega) HB3.out.size ?_; intro v4 w4 hown4 hb4 _
       have HB4 := Lib.hid (HB3.out.trans hb4); have HO4 := Lib.hid hown4; clear hb4 hown3 hown4; obtain ⟨sa, sc, rfl, hsb⟩ := HO4.out.bytes; have HSB := Lib.hid hsb; clear hsb))
  obtain ⟨A, hA⟩ : ∃ A, s ++ t = A := ⟨_, rfl⟩
  obtain ⟨q, hq⟩ : ∃ q, s.length + t.length = q := ⟨_, rfl⟩
  have HAL : Hid (A.length = q) := Lib.hid (by rw [← hA, List.length_append, hq])
  have hq6 : q ≤ 6000 := by omega
  rw [hA] at HO4 HSB HSA
  rw [HAL.out] at HO4
  rw [hq]
  clear hA hq
  obtain ⟨nA, hnA⟩ : ∃ n, sumN A = n := ⟨_, rfl⟩
  obtain ⟨nS, hnS⟩ : ∃ n, sumN s = n := ⟨_, rfl⟩
  obtain ⟨nT, hnT⟩ : ∃ n, sumN t = n := ⟨_, rfl⟩
  have hn256 := sum_lt A
  have hs256 := sum_lt s
  have ht256 := sum_lt t
  have hsa := HSA.out
  rw [hnA, hnS, hnT] at hsa
  rw [hnA] at hn256
  rw [hnS] at hs256
  rw [hnT] at ht256
  have HNA := Lib.hid hnA
  have HNS := Lib.hid hnS
  have HNT := Lib.hid hnT
  have d1 : ((nA : Int) != ((nS : Int) + (nT : Int)) % 256) = false := bne_eq_false_iff_eq.2 (by omega)
  have d2 : decide ((nA : Int) < 0) = false := decide_eq_false (by omega)
  have d3 : decide ((255 : Int) < (nA : Int)) = false := decide_eq_false (by omega)
  clear hnA hnS hnT hsa HSA
  have HW4 := Lib.hid (HB2.out.trans (HB4.out.mono HB2.out.size))
  refine (sum_is _ _ A _ HAL.out _ HSB.out (by omega) _ HNA.out).mono ?_
  rintro e w5 ⟨rfl, hbel⟩
  have HW5 := Lib.hid (HW4.out.trans (hbel.mono HW4.out.size))
  have HO5 := Lib.hid (HO4.out.kept hbel)
  clear hbel
  go_wp2_with fail
  refine (sum_is _ _ s _ rfl _ (HS.out.later HW5.out) (by omega) _ HNS.out).mono ?_
  rintro e w6 ⟨rfl, hbel⟩
  have HW6 := Lib.hid (HW5.out.trans (hbel.mono HW5.out.size))
  have HO6 := Lib.hid (HO5.out.kept hbel)
  clear hbel
  go_wp2_with fail
  refine (sum_is _ _ t _ rfl _ (HT.out.later HW6.out) (by omega) _ HNT.out).mono ?_
  rintro e w7 ⟨rfl, hbel⟩
  have HW7 := Lib.hid (HW6.out.trans (hbel.mono HW6.out.size))
  have HO7 := Lib.hid (HO6.out.kept hbel)
  clear hbel HO4 HO5 HO6
  by_cases hq0 : q = 0
  · have HZ : Hid (nA = 0) := Lib.hid (by rw [← HNA.out, show A = [] from List.length_eq_zero_iff.1 (by rw [HAL.out]; exact hq0)]; rfl)
    subst hq0
    go_wp2_with fail
    go_ret
    rw [HZ.out]
    exact ⟨rfl, HW7.out⟩
  · have dq : ((q : Int) == 0) = false := beq_eq_false_iff_ne.2 (by omega)
    obtain ⟨r, hr⟩ : ∃ r : Nat, at_ % (q : Int) = (r : Int) := ⟨(at_ % (q : Int)).toNat, by rw [Int.toNat_of_nonneg]; exact Int.emod_nonneg _ (by omega)⟩
    have hrl : r < q := by have := Int.emod_lt_of_pos at_ (b := (q : Int)) (by omega); omega
    have hrA : r < A.length := by rw [HAL.out]; exact hrl
    obtain ⟨g, rfl, hbg, hgl⟩ := HO7.out.block (by rw [HAL.out]; omega)
    have ⟨hcell, hfro⟩ := HO7.out.slot hrA
    have HBY7 := Lib.hid (HO7.out.read)
    obtain ⟨c, hc⟩ : ∃ c, A[r] = c := ⟨_, rfl⟩
    obtain ⟨u, rfl⟩ : ∃ u : UInt8, by_ = (u.toNat : Int) := ⟨UInt8.ofNat by_.toNat, by rw [UInt8.toNat_ofNat']; omega⟩
    obtain ⟨c', hc'⟩ : ∃ c' : UInt8, c'.toNat = (c.toNat + u.toNat) % 256 := ⟨UInt8.ofNat (c.toNat + u.toNat), UInt8.toNat_ofNat'⟩
    have hX : ((c.toNat : Int) + (u.toNat : Int)) % 256 = (c'.toNat : Int) := by omega
    have HTURN := Lib.hid (sum_turn hrA u c' (by rw [hc]; exact hc'))
    have HSET := Lib.hid (HBY7.out.set hrA c')
    rw [Nat.zero_add] at HSET
    have HLS : Hid ((A.set r c').length = q) := Lib.hid (by rw [List.length_set, HAL.out])
    obtain ⟨nB, hnB⟩ : ∃ n, sumN (A.set r c') = n := ⟨_, rfl⟩
    have hb256 := sum_lt (A.set r c')
    rw [hnB] at HTURN hb256
    rw [HNA.out] at HTURN
    have HNB := Lib.hid hnB
    clear hnB
    rw [hc] at hcell
    clear hc hc'
    have hc8 := c.toNat_lt
    have hu8 := u.toNat_lt
    go_wp2_with fail
    refine (sum_is _ _ (A.set r c') _ HLS.out _ HSET.out (by omega) _ HNB.out).mono ?_
    rintro e w8 ⟨rfl, hbel⟩
    have HW7S := Lib.hid (HW7.out.setCell (p := ⟨g, r, none⟩) (Nat.le_trans HB2.out.size hbg) (.int .u8 (c'.toNat : Int)))
    have HW8 := Lib.hid (HW7S.out.trans (hbel.mono HW7S.out.size))
    clear hbel
    by_cases hu : u = 0
    · have e1 : ((nB : Int) == (nA : Int)) = true := beq_iff_eq.2 (by have := HTURN.out.2 hu; omega)
      subst hu
      go_wp2_with fail
      go_ret
      exact ⟨rfl, HW8.out⟩
    · have e1 : ((nB : Int) == (nA : Int)) = false := beq_eq_false_iff_ne.2 (fun h => hu (HTURN.out.1 (by omega)))
      have e2 : ((u.toNat : Int) == 0) = false := beq_eq_false_iff_ne.2 (fun h => hu (UInt8.toNat_inj.1 (by show u.toNat = 0; omega)))
      go_wp2_with fail
      go_ret
      exact ⟨rfl, HW8.out⟩

end Frm
end Go.Proofs.YtmgelpclnjkjkaaDoor
