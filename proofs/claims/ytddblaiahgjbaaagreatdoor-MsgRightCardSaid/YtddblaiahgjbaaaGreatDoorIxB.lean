/-
  Contracts of the library's search for one byte among bytes: bytes.IndexByte, bytes.Index and bytes.Cut at one byte.
-/
import Derived.Test.YtddblaiahgjbaaaGreatDoorPlIx
import Derived.Test.YtddblaiahgjbaaaGreatDoorMem
import Derived.Test.YtddblaiahgjbaaaGreatDoorProg
import Derived.WalkSpells
import Derived.WalkLawsBesides
import Derived.Lib.BytesEntry
import Derived.BigQuiet
namespace Go.Proofs.YtddblaiahgjbaaaGreatDoor
open Go.RowKit

theorem drew_below (w : World) (q : Nat) : Below w.heap.size w (w.drewN q) := ⟨rfl, rfl, rfl, Nat.le_refl _, fun _ _ => rfl⟩

/-- the model's search at bytes, of which there is one at least -/
theorem run_ixb {P : Program} (a : Option Addr) (cap : Nat) (b : List UInt8) (w : World) (hb : BytesAt w a cap b) (h0 : 0 < b.length) (n : Int) (c : UInt8) (hc : n.toNat.toUInt8 = c) :
    (Extern.BytealgIndexByte.indexByte #[.slice a b.length cap, .int .u8 n]).run P w = .ok (.int .i64 (Lib.indexByte b c)) w := by
  subst hc
  obtain ⟨g, off, rfl, hcc⟩ := hb.at h0
  have h := Lib.run_indexByteSlice (P := P) w g off b.length cap (b.map fun c => (c.toNat : Int)) (List.length_map ..) (fun i hi => by
    rw [hcc i hi, List.getD_eq_getElem?_getD, List.getElem?_map, List.getElem?_eq_getElem hi]; rfl) n
  rwa [bytesOf_nat] at h
set_option maxRecDepth 100000 in
theorem bytes_IndexByte (c : UInt8) (n : Int) (hn : n = (c.toNat : Int)) (a : Option Addr) (cap : Nat) (b : List UInt8) (w : World) (hb : BytesAt w a cap b) (h0 : 0 < b.length) :
    Calls Tryz.prog 72 #[.slice a b.length cap, .int .u8 n] w fun e w' => e = .returned (.int .i64 (Lib.indexByte b c)) ∧ w' = w := by
  have hc : n.toNat.toUInt8 = c := by subst hn; simp
  clear hn
  have HC := Lib.hid hc
  have HB := Lib.hid hb
  clear hb hc
  go_enter Tryz.func72, Tryz.ntmps72
  go_wp2_with fail
  rw [run_callFunc_extern Tryz.func86 (by kernel_rfl) (by kernel_rfl) (by kernel_rfl) (e := Extern.BytealgIndexByte.indexByte) (by kernel_rfl), run_ixb a cap b w HB.out h0 n c HC.out]
  simp only [Result.andThen]
  rw [Oper.upon_value]
  go_wp2_with fail
  go_ret
  exact ⟨rfl, rfl⟩

set_option maxRecDepth 100000 in
set_option maxHeartbeats 1000000 in
theorem bytes_Index_one (c : UInt8) (a : Option Addr) (cap : Nat) (b : List UInt8) (a2 : Option Addr) (cap2 : Nat) (w : World) (hb : BytesAt w a cap b) (h0 : 0 < b.length) (h2 : BytesAt w a2 cap2 [c]) :
    Calls Tryz.prog 64 #[.slice a b.length cap, .slice a2 1 cap2] w fun e w' => e = .returned (.int .i64 (Lib.indexByte b c)) ∧ w' = w := by
  obtain ⟨b2, o2, rfl, hc2⟩ := h2.at (Nat.zero_lt_succ _)
  have hcell : w.cell? ⟨b2, o2, none⟩ = some (.int .u8 (c.toNat : Int)) := by
    have := hc2 0 (Nat.zero_lt_succ _)
    rwa [Nat.add_zero] at this
  clear hc2 h2
  have HB := Lib.hid hb
  clear hb
  go_enter Tryz.func64, Tryz.ntmps64
  go_wp2_with fail
  refine (bytes_IndexByte c _ rfl a cap b _ HB.out h0).mono ?_
  rintro e w' ⟨rfl, rfl⟩
  go_wp2_with fail
  go_ret
  exact ⟨rfl, rfl⟩

/-- what is told where the byte is there -/
def CutHit (c : UInt8) (a : Option Addr) (cap : Nat) (b : List UInt8) (w : World) (e : Ending) (w' : World) : Prop :=
  ∃ a' cap', e = .returned (.tuple #[.slice a (ahead c b) cap, .slice a' (b.length - (ahead c b + 1)) cap', .bool true]) ∧ (∀ v, BytesAt v a cap b → BytesAt v a' cap' (b.drop (ahead c b + 1))) ∧ Below w.heap.size w w'

set_option maxRecDepth 100000 in
set_option maxHeartbeats 1000000 in
theorem bytes_Cut_hit (c : UInt8) (a : Option Addr) (cap : Nat) (b : List UInt8) (a2 : Option Addr) (cap2 : Nat) (w : World) (hb : BytesAt w a cap b) (h2 : BytesAt w a2 cap2 [c]) (hlen : b.length ≤ 9223372036854775807)
    (h0 : 0 < b.length) (hi : ahead c b < b.length) :
    Calls Tryz.prog 50 #[.slice a b.length cap, .slice a2 1 cap2] w (CutHit c a cap b w) := by
  have HI : Hid (Lib.indexByte b c = (ahead c b : Int)) := Lib.hid (by rw [indexByte_eq, if_pos hi])
  obtain ⟨k, hk⟩ : ∃ k, ahead c b = k := ⟨_, rfl⟩
  unfold CutHit
  rw [hk] at HI hi ⊢
  clear hk
  have hcap := hb.cap
  have HB := Lib.hid hb
  have H2 := Lib.hid h2
  obtain ⟨x, off, rfl, _⟩ := hb.at (by omega)
  clear hb h2
  go_enter Tryz.func50, Tryz.ntmps50
  go_wp2_with fail
  refine (bytes_Index_one c _ cap b _ cap2 _ HB.out h0 H2.out).mono ?_
  rw [HI.out]
  rintro e w' ⟨rfl, rfl⟩
  go_wp2_with fail
  go_quiet (fail)
  go_wp2_with fail
  all_goals go_ret3
  · refine ⟨_, _, rfl, fun v _ => .inr ⟨⟨x, off, none⟩, rfl, by rw [List.length_drop]; omega, fun i hi => ?_⟩, drew_below _ _⟩
    rw [List.length_drop] at hi; omega
  · refine ⟨_, _, rfl, fun v hv => ?_, drew_below _ _⟩
    have hd := hv.drop (k + 1) (by omega)
    rwa [add_none] at hd

set_option maxRecDepth 100000 in
set_option maxHeartbeats 1000000 in
theorem bytes_Cut_miss (c : UInt8) (a : Option Addr) (cap : Nat) (b : List UInt8) (a2 : Option Addr) (cap2 : Nat) (w : World) (hb : BytesAt w a cap b) (h2 : BytesAt w a2 cap2 [c])
    (h0 : 0 < b.length) (hi : ¬ ahead c b < b.length) :
    Calls Tryz.prog 50 #[.slice a b.length cap, .slice a2 1 cap2] w fun e w' => e = .returned (.tuple #[.slice a b.length cap, .slice none 0 0, .bool false]) ∧ w' = w := by
  have HI : Hid (Lib.indexByte b c = -1) := Lib.hid (by rw [indexByte_eq, if_neg hi])
  clear hi
  have HB := Lib.hid hb
  have H2 := Lib.hid h2
  clear hb h2
  go_enter Tryz.func50, Tryz.ntmps50
  go_wp2_with fail
  refine (bytes_Index_one c _ cap b _ cap2 _ HB.out h0 H2.out).mono ?_
  rw [HI.out]
  rintro e w' ⟨rfl, rfl⟩
  go_wp2_with fail
  go_ret3
  exact ⟨rfl, rfl⟩

end Go.Proofs.YtddblaiahgjbaaaGreatDoor
