/-
  The reference of layer 9: Same.
-/
import Derived.Test.YtdiegglnfbmpdaaDskL
import Derived.Test.YtdiegglnfbmpdaaStepDk
import Derived.Deep.RegionHeld3
import Derived.Deep.QuietTactic
namespace Go.Proofs.Ytdiegglnfbmpdaa
open Go.RowKit
namespace Dsk
attribute [local go_sem ↓] load_disk
attribute [local go_sem] blkOf_ptr offOf_ptr

theorem string_is {w : World} {a : Option Addr} {cap q : Nat} {l : List UInt8} {S : ByteArray} (h : BytesAt w a cap l) (hq : l.length = q) (hS : (⟨l.toArray⟩ : ByteArray) = S) : (convert 24 9 (.slice a q cap)).run Try.prog w = .ok (.string S) w := by
  rw [← hS]
  exact string_of (P := Try.prog) Try.underlying24 Try.underlying5 Try.underlying9 h q hq

set_option maxRecDepth 100000 in
set_option maxHeartbeats 8000000 in
theorem same_any (d : Dk) (h1 h2 : Hs) (w : World) (hd1 : DkAt w d h1) (hd2 : DkAt w d h2) :
    Calls Try.prog 12 #[.agg (d.arr h1), .agg (d.arr h2)] w fun e w' => e = .returned (.bool true) ∧ Below w.heap.size w w' := by
  have e1 : (w.alloc (.cells (d.arr h1) 29)).heap.size = w.heap.size + 1 := by simp
  have HB0 : Hid (Below w.heap.size w ((w.alloc (.cells (d.arr h1) 29)).alloc (.cells (d.arr h2) 29))) := Lib.hid (((Below.refl _ _).alloc (Nat.le_refl _) _).alloc (by rw [e1]; omega) _)
  have HX1 : Hid (DkBox ((w.alloc (.cells (d.arr h1) 29)).alloc (.cells (d.arr h2) 29)) w.heap.size d h1) := Lib.hid (alloc_block (heap_alloc_new w _))
  have HX2 : Hid (DkBox ((w.alloc (.cells (d.arr h1) 29)).alloc (.cells (d.arr h2) 29)) (w.heap.size + 1) d h2) := Lib.hid (by
    have h := heap_alloc_new (w.alloc (.cells (d.arr h1) 29)) (.cells (d.arr h2) 29)
    rwa [e1] at h)
  have HD1 := Lib.hid (hd1.later HB0.out)
  have HD2 := Lib.hid (hd2.later HB0.out)
  clear hd1 hd2 e1
  obtain ⟨A1, hA1⟩ : ∃ X, d.arr h1 = X := ⟨_, rfl⟩
  obtain ⟨A2, hA2⟩ : ∃ X, d.arr h2 = X := ⟨_, rfl⟩
  rw [hA1, hA2] at HB0 HX1 HX2 HD1 HD2 ⊢
  clear hA1 hA2
  go_enter Try.func12, Try.ntmps12
  go_upto_region 1 with fail
  generalize (w.alloc (.cells A1 29)).alloc (.cells A2 29) = w0 at HB0 HX1 HX2 HD1 HD2 ⊢
  obtain ⟨p, hp⟩ : ∃ p, w.heap.size = p := ⟨_, rfl⟩
  rw [hp] at HX1 HX2 ⊢
  clear hp
  go_wp2_with fail
  go_loopw [5] (fun i_ wr => ∃ k : Nat, i_ = .int .i64 k ∧ k ≤ 2 ∧ Below w0.heap.size w0 wr) (fun i_ _ => 2 - (intOf i_).toNat)
  case atStart => exact ⟨0, rfl, Nat.zero_le _, Below.refl _ _⟩
  case round =>
    obtain ⟨k, rfl, hk, hbel⟩ := hrel
    have HB := Lib.hid hbel
    clear hbel
    have h3 : k = 0 ∨ k = 1 ∨ k = 2 := by omega
    rcases h3 with rfl | rfl | rfl
    · obtain ⟨S, hS⟩ : ∃ x : ByteArray, (⟨d.f0.safe.toArray⟩ : ByteArray) = x := ⟨_, rfl⟩
      obtain ⟨T, hT⟩ : ∃ x : ByteArray, (⟨d.f0.tail.toArray⟩ : ByteArray) = x := ⟨_, rfl⟩
      obtain ⟨q, hq⟩ : ∃ x, d.f0.safe.length = x := ⟨_, rfl⟩
      obtain ⟨r, hr⟩ : ∃ x, d.f0.tail.length = x := ⟨_, rfl⟩
      have x1 : wr.cell? ⟨p, 0, none⟩ = some (.slice h1.s0.1 q h1.s0.2) := cell_at (HX1.out.later HB.out) (by rw [← hq]; rfl)
      have x2 : wr.cell? ⟨p, 1, none⟩ = some (.slice h1.t0.1 r h1.t0.2) := cell_at (HX1.out.later HB.out) (by rw [← hr]; rfl)
      have x3 : wr.cell? ⟨p + 1, 0, none⟩ = some (.slice h2.s0.1 q h2.s0.2) := cell_at (HX2.out.later HB.out) (by rw [← hq]; rfl)
      have x4 : wr.cell? ⟨p + 1, 1, none⟩ = some (.slice h2.t0.1 r h2.t0.2) := cell_at (HX2.out.later HB.out) (by rw [← hr]; rfl)
      have dn : ∀ n, Below wr.heap.size wr (wr.drewN n) := fun n => ⟨rfl, rfl, rfl, Nat.le_refl _, fun _ _ => rfl⟩
      have y1 := fun n => string_is (((HD1.out.s0.later HB.out).later (dn n))) hq hS
      have y2 := fun n => string_is (((HD1.out.t0.later HB.out).later (dn n))) hr hT
      have y3 := fun n => string_is (((HD2.out.s0.later HB.out).later (dn n))) hq hS
      have y4 := fun n => string_is (((HD2.out.t0.later HB.out).later (dn n))) hr hT
      clear hq hr hS hT
      go_upto_region 4 with fail
      go_quiet (fail)
      go_wp2_with fail
      go_roundw
      case rel => exact ⟨0 + 1, rfl, by omega, HB.out.trans ((dn nq).mono HB.out.size)⟩
      case measure => simp [intOf]
    · obtain ⟨S, hS⟩ : ∃ x : ByteArray, (⟨d.f1.safe.toArray⟩ : ByteArray) = x := ⟨_, rfl⟩
      obtain ⟨T, hT⟩ : ∃ x : ByteArray, (⟨d.f1.tail.toArray⟩ : ByteArray) = x := ⟨_, rfl⟩
      obtain ⟨q, hq⟩ : ∃ x, d.f1.safe.length = x := ⟨_, rfl⟩
      obtain ⟨r, hr⟩ : ∃ x, d.f1.tail.length = x := ⟨_, rfl⟩
      have x1 : wr.cell? ⟨p, 2, none⟩ = some (.slice h1.s1.1 q h1.s1.2) := cell_at (HX1.out.later HB.out) (by rw [← hq]; rfl)
      have x2 : wr.cell? ⟨p, 3, none⟩ = some (.slice h1.t1.1 r h1.t1.2) := cell_at (HX1.out.later HB.out) (by rw [← hr]; rfl)
      have x3 : wr.cell? ⟨p + 1, 2, none⟩ = some (.slice h2.s1.1 q h2.s1.2) := cell_at (HX2.out.later HB.out) (by rw [← hq]; rfl)
      have x4 : wr.cell? ⟨p + 1, 3, none⟩ = some (.slice h2.t1.1 r h2.t1.2) := cell_at (HX2.out.later HB.out) (by rw [← hr]; rfl)
      have dn : ∀ n, Below wr.heap.size wr (wr.drewN n) := fun n => ⟨rfl, rfl, rfl, Nat.le_refl _, fun _ _ => rfl⟩
      have y1 := fun n => string_is (((HD1.out.s1.later HB.out).later (dn n))) hq hS
      have y2 := fun n => string_is (((HD1.out.t1.later HB.out).later (dn n))) hr hT
      have y3 := fun n => string_is (((HD2.out.s1.later HB.out).later (dn n))) hq hS
      have y4 := fun n => string_is (((HD2.out.t1.later HB.out).later (dn n))) hr hT
      clear hq hr hS hT
      go_upto_region 4 with fail
      go_quiet (fail)
      go_wp2_with fail
      go_roundw
      case rel => exact ⟨1 + 1, rfl, by omega, HB.out.trans ((dn nq).mono HB.out.size)⟩
      case measure => simp [intOf]
    · go_wp2_with fail
      go_ret
      exact ⟨rfl, HB0.out.trans (HB.out.mono HB0.out.size)⟩

theorem same_is (d : Dk) (h1 h2 : Hs) (A1 A2 : Array Value) (e1 : d.arr h1 = A1) (e2 : d.arr h2 = A2) (w : World) (hd1 : DkAt w d h1) (hd2 : DkAt w d h2) :
    Calls Try.prog 12 #[.agg A1, .agg A2] w fun e w' => e = .returned (.bool true) ∧ Below w.heap.size w w' := by
  subst e1 e2
  exact same_any d h1 h2 w hd1 hd2

end Dsk
end Go.Proofs.Ytdiegglnfbmpdaa
