/-
  Bytes among a law's arguments.
-/
import Derived.Test.YtdiegglnfbmpdaaMem
import Derived.OpenShut
namespace Go.Proofs.Ytdiegglnfbmpdaa
open Go.RowKit

/-- bytes out of what the frame finds of them -/
theorem IsRow.bytes {w : World} {a : Option Addr} {len cap : Nat} {z : List Int} (h : IsRow .u8 w a len cap z) : ∃ l : List UInt8, l.length = len ∧ len ≤ maxLen ∧ BytesAt w a cap l := by
  obtain ⟨h1, h2, h3, h4⟩ := h
  refine ⟨z.map fun n => UInt8.ofNat n.toNat, by rw [List.length_map, h1], h2, ?_⟩
  rcases h3 with ⟨rfl, rfl, rfl⟩ | ⟨x, rfl, hl, hc⟩
  · exact .inl ⟨rfl, rfl, rfl⟩
  · refine .inr ⟨x, rfl, by rw [List.length_map]; exact hl, fun i hi => ?_⟩
    rw [List.length_map] at hi
    rw [hc i hi, List.getElem_map]
    have hw := h4 z[i] (List.getElem_mem hi)
    have hb : 0 ≤ z[i] ∧ z[i] ≤ 255 := by
      have := bounds_u8 hw
      exact this
    rw [List.getD_eq_getElem?_getD, List.getElem?_eq_getElem hi]
    refine congrArg (fun n => some (Value.int .u8 n)) ?_
    show z[i] = _
    rw [UInt8.toNat_ofNat']
    omega

end Go.Proofs.Ytdiegglnfbmpdaa
