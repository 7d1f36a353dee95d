/-
  Layer 9's laws: the contracts with letters; awake.
-/
import Derived.Test.YtdiegglnfbmpdaaDskP
import Derived.WalkSpells
import Derived.WalkLawsBesides
import Derived.BigQuiet
import Derived.Deep.CutBlock
import Derived.Deep.DeepCutAuto
import Derived.Deep.Cut
namespace Go.Proofs.Ytdiegglnfbmpdaa
open Go.RowKit
namespace Dsk

theorem right_is (d : Dk) (h : Hs) (DA : Array Value) (hDA : d.arr h = DA) (w : World) (hd : DkAt w d h) (hl : Laid w) (o : Bool) (ho : rightK d = o) (hs : d.small := by first | exact Hid.out (by assumption) | exact small_right (Hid.out (by assumption))) : Calls Try.prog 10 #[.agg DA] w fun e w' => e = .returned (.bool o) ∧ Below w.heap.size w w' := by
  subst hDA ho
  exact right_any d h w hd hs hl
theorem read_is (d : Dk) (h : Hs) (DA : Array Value) (hDA : d.arr h = DA) (n : Int) (w : World) (hd : DkAt w d h) (hl : Laid w) (l : List UInt8) (hr : readK d n = l) (q : Nat) (hq : l.length = q) (hs : d.small := by first | exact Hid.out (by assumption) | exact small_right (Hid.out (by assumption))) :
    Calls Try.prog 9 #[.agg DA, .int .i64 n] w fun e w' => ∃ a cap, e = .returned (.slice a q cap) ∧ BytesAt w' a cap l ∧ Below w.heap.size w w' := by
  subst hDA hr hq
  exact read_any d h n w hd hs hl
theorem write_is (d : Dk) (h : Hs) (DA : Array Value) (hDA : d.arr h = DA) (n : Int) (b : List UInt8) (a : Option Addr) (q cap : Nat) (hq : b.length = q) (hq9 : q ≤ 1000000) (w : World) (hd : DkAt w d h) (hb : BytesAt w a cap b) (hl : Laid w) (r : Dk × Int) (hr : writeK d n b = r) (hs : d.small := by first | exact Hid.out (by assumption) | exact small_right (Hid.out (by assumption))) :
    Calls Try.prog 6 #[.agg DA, .int .i64 n, .slice a q cap] w (GotK w (fun P => DkIn P d h ∧ Blk P a b) r) := by
  subst hDA hr
  exact write_any d h n b a q cap hq hq9 w hd hs hb hl
theorem sync_is (d : Dk) (h : Hs) (DA : Array Value) (hDA : d.arr h = DA) (n : Int) (w : World) (hd : DkAt w d h) (hl : Laid w) (r : Dk × Int) (hr : syncK d n = r) (hs : d.small := by first | exact Hid.out (by assumption) | exact small_right (Hid.out (by assumption))) : Calls Try.prog 7 #[.agg DA, .int .i64 n] w (GotK w (fun P => DkIn P d h) r) := by
  subst hDA hr
  exact sync_any d h n w hd hs hl
theorem cut_is (d : Dk) (h : Hs) (DA : Array Value) (hDA : d.arr h = DA) (n k : Int) (w : World) (hd : DkAt w d h) (hl : Laid w) (r : Dk × Int) (hr : cutK d n k = r) (hs : d.small := by first | exact Hid.out (by assumption) | exact small_right (Hid.out (by assumption))) : Calls Try.prog 11 #[.agg DA, .int .i64 n, .int .i64 k] w (GotK w (fun P => DkIn P d h) r) := by
  subst hDA hr
  exact cut_any d h n k w hd hs hl
theorem crash_is (d : Dk) (h : Hs) (DA : Array Value) (hDA : d.arr h = DA) (k0 k1 : Int) (w : World) (hd : DkAt w d h) (hl : Laid w) (r : Dk) (hr : crashK d k0 k1 = r) (hs : d.small := by first | exact Hid.out (by assumption) | exact small_right (Hid.out (by assumption))) : Calls Try.prog 8 #[.agg DA, .agg #[.int .i64 k0, .int .i64 k1]] w (GotC w (fun P => DkIn P d h) r) := by
  subst hDA hr
  exact crash_any d h k0 k1 w hd hs hl

/-- a disk of nothing -/
def d00 : Dk := ⟨⟨[], []⟩, ⟨[], []⟩⟩
theorem d00_small : d00.small := by unfold d00 Dk.small; simp
theorem d00_at (w : World) : DkAt w d00 Hs.no := ⟨.inl ⟨rfl, rfl, rfl⟩, .inl ⟨rfl, rfl, rfl⟩, .inl ⟨rfl, rfl, rfl⟩, .inl ⟨rfl, rfl, rfl⟩⟩

set_option maxRecDepth 100000 in
set_option maxHeartbeats 8000000 in
theorem awake_any (w : World) (hl : Laid w) :
    Calls Try.prog 5 #[] w fun e w' => e = .returned (.bool true) ∧ Below w.heap.size w w' := by
  have HL := Lib.hid hl
  clear hl
  have kc := fun (w : World) (C : Array Value) (n c : Nat) => Lib.run_convert_bytes_const (P := Try.prog) w 24 5 C n c Try.underlying24 Try.underlying5
  obtain ⟨d1, e1⟩ : ∃ d : Dk, (⟨⟨[], []⟩, ⟨[], [97, 98]⟩⟩ : Dk) = d := ⟨_, rfl⟩
  obtain ⟨d2, e2⟩ : ∃ d : Dk, (⟨⟨[], []⟩, ⟨[97, 98], []⟩⟩ : Dk) = d := ⟨_, rfl⟩
  obtain ⟨d3, e3⟩ : ∃ d : Dk, (⟨⟨[], []⟩, ⟨[97, 98], [99, 100]⟩⟩ : Dk) = d := ⟨_, rfl⟩
  obtain ⟨d4, e4⟩ : ∃ d : Dk, (⟨⟨[], []⟩, ⟨[97, 98, 99], []⟩⟩ : Dk) = d := ⟨_, rfl⟩
  have H1 : Hid (writeK d00 1 [97, 98] = (d1, 0)) := Lib.hid (by subst e1; kernel_rfl)
  have H2 : Hid (syncK d1 1 = (d2, 0)) := Lib.hid (by subst e1 e2; kernel_rfl)
  have H3 : Hid (writeK d2 1 [99, 100] = (d3, 0)) := Lib.hid (by subst e2 e3; kernel_rfl)
  have H4 : Hid (crashK d3 5 1 = d4) := Lib.hid (by subst e3 e4; kernel_rfl)
  have H5 : Hid (readK d4 1 = [97, 98, 99]) := Lib.hid (by subst e4; kernel_rfl)
  have H6 : Hid (readK d4 0 = []) := Lib.hid (by subst e4; kernel_rfl)
  have G0 : Hid d00.small := Lib.hid d00_small
  have G1 : Hid d1.small := Lib.hid (by subst e1; simp [Dk.small])
  have G2 : Hid d2.small := Lib.hid (by subst e2; simp [Dk.small])
  have G3 : Hid d3.small := Lib.hid (by subst e3; simp [Dk.small])
  have G4 : Hid d4.small := Lib.hid (by subst e4; simp [Dk.small])
  clear e1 e2 e3 e4
  go_enter Try.func5, Try.ntmps5
  go_wp2_with fail
  have b0 : Below w.heap.size w (w.alloc (.cells #[.int .u8 97, .int .u8 98] 5 (2, 3))) := (Below.refl _ _).alloc (Nat.le_refl _) _
  refine (write_is d00 Hs.no _ rfl 1 [97, 98] _ 2 2 rfl (by decide) _ (d00_at _) (bytes_alloc w 5 #[.int .u8 97, .int .u8 98] (2, 3) [97, 98] rfl 2 (Nat.le_refl _)) (HL.out.below b0) _ H1.out).mono ?_
  rintro e w1 ⟨h1, rfl, hd, hb, -⟩
  dsimp only at hd ⊢
  have HD1 := Lib.hid hd
  have HB1 := Lib.hid (b0.trans (hb.mono b0.size))
  clear b0 hd hb
  go_upto_region 2 with (refine wpList_store_row rfl 29 _ _ rfl w1.heap.size (d1.arr h1) rfl rfl _ _ (heap_alloc_last _ _) (dk_info _ _) rfl (dk_one _ _) ?_; rw [World.setRow_alloc_new])
  have hbl : Below w1.heap.size w1 (w1.alloc (.cells (d1.arr h1) 29)) := (Below.refl _ _).alloc (Nat.le_refl _) _
  obtain ⟨g, hg⟩ : ∃ g, w1.heap.size = g := ⟨_, rfl⟩
  have HX2 : Hid (DkBox (w1.alloc (.cells (d1.arr h1) 29)) g d1 h1) := Lib.hid (hg ▸ heap_alloc_new _ _)
  have HD2 := Lib.hid (HD1.out.later hbl)
  have HB2 := Lib.hid (HB1.out.trans (hbl.mono HB1.out.size))
  have HGW : Hid (w.heap.size ≤ g) := Lib.hid (by rw [← hg]; exact HB1.out.size)
  rw [hg]
  generalize w1.alloc (.cells (d1.arr h1) 29) = w2 at HX2 HD2 HB2 ⊢
  clear hbl hg HD1 HB1
  go_wp2_with (refine wpList_load_arr_g (by rfl) 29 _ rfl g 0 rfl (d1.arr h1) _ HX2.out.range Try.underlying29 rfl (dk_info _ _) ?_)
  refine (sync_is d1 h1 _ rfl 1 _ HD2.out (HL.out.below HB2.out) _ H2.out).mono ?_
  rintro e w3 ⟨h2, rfl, hd, hb, -⟩
  dsimp only at hd ⊢
  have HX3 := Lib.hid (HX2.out.later hb)
  have HD3 := Lib.hid hd
  have HB3 := Lib.hid (HB2.out.trans (hb.mono HB2.out.size))
  clear hd hb HX2 HD2 HB2
  go_upto_region 3 with (refine wpList_store_row rfl 29 _ _ rfl g (d2.arr h2) rfl rfl _ _ HX3.out (dk_info _ _) rfl (dk_one _ _) ?_)
  have HX4 := Lib.hid (HX3.out.put d2 h2)
  have HD4 := Lib.hid (HX3.out.disk HD3.out (d2.arr h2))
  have HB4 := Lib.hid (below_setRow HB3.out HGW.out (d2.arr h2))
  generalize w3.setRow g (d2.arr h2) = w4 at HX4 HD4 HB4 ⊢
  clear HX3 HD3 HB3
  have hbl : Below w4.heap.size w4 (w4.alloc (.cells #[.int .u8 99, .int .u8 100] 5 (2, 3))) := (Below.refl _ _).alloc (Nat.le_refl _) _
  go_wp2_with (refine wpList_load_arr_g (by rfl) 29 _ rfl g 0 rfl (d2.arr h2) _ HX4.out.range Try.underlying29 rfl (dk_info _ _) ?_)
  refine (write_is d2 h2 _ rfl 1 [99, 100] _ 2 2 rfl (by decide) _ (HD4.out.later hbl) (bytes_alloc w4 5 #[.int .u8 99, .int .u8 100] (2, 3) [99, 100] rfl 2 (Nat.le_refl _)) (HL.out.below (HB4.out.trans (hbl.mono HB4.out.size))) _ H3.out).mono ?_
  rintro e w5 ⟨h3, rfl, hd, hb, -⟩
  dsimp only at hd ⊢
  have HX5 := Lib.hid ((HX4.out.later hbl).later hb)
  have HD5 := Lib.hid hd
  have HB5 := Lib.hid ((HB4.out.trans (hbl.mono HB4.out.size)).trans (hb.mono (Nat.le_trans HB4.out.size hbl.size)))
  clear hd hb hbl HX4 HD4 HB4
  go_upto_region 4 with (refine wpList_store_row rfl 29 _ _ rfl g (d3.arr h3) rfl rfl _ _ HX5.out (dk_info _ _) rfl (dk_one _ _) ?_)
  have HX6 := Lib.hid (HX5.out.put d3 h3)
  have HD6 := Lib.hid (HX5.out.disk HD5.out (d3.arr h3))
  have HB6 := Lib.hid (below_setRow HB5.out HGW.out (d3.arr h3))
  generalize w5.setRow g (d3.arr h3) = w6 at HX6 HD6 HB6 ⊢
  clear HX5 HD5 HB5
  go_wp2_with (refine wpList_load_arr_g (by rfl) 29 _ rfl g 0 rfl (d3.arr h3) _ HX6.out.range Try.underlying29 rfl (dk_info _ _) ?_)
  refine (crash_is d3 h3 _ rfl 5 1 _ HD6.out (HL.out.below HB6.out) _ H4.out).mono ?_
  rintro e w7 ⟨h4, rfl, hd, hb, -⟩
  have HX7 := Lib.hid (HX6.out.later hb)
  have HD7 := Lib.hid hd
  have HB7 := Lib.hid (HB6.out.trans (hb.mono HB6.out.size))
  clear hd hb HX6 HD6 HB6
  go_upto_region 5 with (refine wpList_store_row rfl 29 _ _ rfl g (d4.arr h4) rfl rfl _ _ HX7.out (dk_info _ _) rfl (dk_one _ _) ?_)
  have HX8 := Lib.hid (HX7.out.put d4 h4)
  have HD8 := Lib.hid (HX7.out.disk HD7.out (d4.arr h4))
  have HB8 := Lib.hid (below_setRow HB7.out HGW.out (d4.arr h4))
  generalize w7.setRow g (d4.arr h4) = w8 at HX8 HD8 HB8 ⊢
  clear HX7 HD7 HB7
  go_wp2_with (refine wpList_load_arr_g (by rfl) 29 _ rfl g 0 rfl (d4.arr h4) _ HX8.out.range Try.underlying29 rfl (dk_info _ _) ?_)
  refine (read_is d4 h4 _ rfl 1 _ HD8.out (HL.out.below HB8.out) _ H5.out 3 rfl).mono ?_
  rintro e w9 ⟨a, c, rfl, hby, hb⟩
  have cv : (convert 24 9 (.slice a 3 c)).run Try.prog w9 = .ok (.string ⟨#[97, 98, 99]⟩) w9 := string_of (P := Try.prog) Try.underlying24 Try.underlying5 Try.underlying9 hby 3 rfl
  have HX9 := Lib.hid (HX8.out.later hb)
  have HD9 := Lib.hid (HD8.out.later hb)
  have HB9 := Lib.hid (HB8.out.trans (hb.mono HB8.out.size))
  clear hby hb HX8 HD8 HB8
  go_wp2_with (refine wpList_load_arr_g (by rfl) 29 _ rfl g 0 rfl (d4.arr h4) _ HX9.out.range Try.underlying29 rfl (dk_info _ _) ?_)
  refine (read_is d4 h4 _ rfl 0 _ HD9.out (HL.out.below HB9.out) _ H6.out 0 rfl).mono ?_
  rintro e w10 ⟨a, c, rfl, -, hb⟩
  have HB10 := Lib.hid (HB9.out.trans (hb.mono HB9.out.size))
  clear hb cv
  go_wp2_with fail
  go_ret
  exact ⟨rfl, HB10.out⟩

end Dsk
end Go.Proofs.Ytdiegglnfbmpdaa
