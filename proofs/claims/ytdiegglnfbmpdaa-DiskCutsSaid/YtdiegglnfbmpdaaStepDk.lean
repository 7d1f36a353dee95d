/-
  Things done with a disk that came in; steps of a region that draws its order: a row stored, a call met.
-/
import Derived.Test.YtdiegglnfbmpdaaDskA
namespace Go.Proofs.Ytdiegglnfbmpdaa
open Go.RowKit
namespace Dsk

/-- a thing done: its kind, where its bytes lie, what is kept -/
structure Dr where
  kind : Int
  h : Option Addr × Nat × Nat
  keep : Int
def encD : Enc Dr := ⟨fun d => [.int .u8 d.kind, .slice d.h.1 d.h.2.1 d.h.2.2, .int .u8 d.keep], 3, fun _ => rfl, fun d u hu => by
  simp only [List.mem_cons, List.not_mem_nil, or_false] at hu
  rcases hu with rfl | rfl | rfl <;> rfl⟩
structure Dr.Ok (w : World) (d : Dr) : Prop where
  kind : 0 ≤ d.kind ∧ d.kind ≤ 255
  keep : 0 ≤ d.keep ∧ d.keep ≤ 255
  bytes : ∃ y : List UInt8, y.length = d.h.2.1 ∧ BytesAt w d.h.1 d.h.2.2 y
def IsDos (w : World) (a : Option Addr) (len cap : Nat) (ds : List Dr) : Prop := ds.length = len ∧ len ≤ maxLen ∧ RowAt encD w a cap ds ∧ ∀ d ∈ ds, d.Ok w
theorem dr_at {w : World} {b off cap : Nat} {ds : List Dr} (hr : RowAt encD w (some ⟨b, off, none⟩) cap ds) {k : Nat} {d : Dr} (hd : ds[k]? = some d) :
    w.cell? ⟨b, off + k * 3, none⟩ = some (.int .u8 d.kind) ∧ w.cell? ⟨b, off + k * 3 + 1, none⟩ = some (.slice d.h.1 d.h.2.1 d.h.2.2) ∧ w.cell? ⟨b, off + k * 3 + 2, none⟩ = some (.int .u8 d.keep) := by
  have hn : 0 < ds.length := by
    cases ds with
    | nil => cases hd
    | cons => simp
  obtain ⟨b', off', e, hc⟩ := hr.at hn (by decide)
  obtain ⟨rfl, rfl⟩ : b = b' ∧ off = off' := by
    have := Option.some.inj e
    injection this with h1 h2
    exact ⟨h1, h2⟩
  exact ⟨hc k d hd 0 _ rfl, hc k d hd 1 _ rfl, hc k d hd 2 _ rfl⟩
theorem step_store_dk {P : Program} {ops : Array Oper} {o : Oper} {a : Act} {w : World} {K : Act → World → Prop} {Q : Exit → Act → World → Prop} {E : Prop} {tm : Array Value} (hgd : o.guard = none) (ty : TypeId) (x y : Operand) (ho : o.op = .store ty x y)
    (g : Nat) (cells : Array Value) (hx : a.eval x = .pointer (some ⟨g, 0, none⟩)) (hy : a.eval y = .agg cells) (t : TypeId) (old : Array Value) (hg : w.heap[g]? = some (.cells old t (0, 0))) (hi : (P.info? ty).map (·.size) = some cells.size)
    (hold : old.size = cells.size) (h1 : cells.all (·.oneCell') = true) (h : K (a.put o.dst undef) (w.setRow g cells)) : if Region.wanted o (yielded ops tm) = true then Oper.wp P o a w K Q else E := by
  rw [if_pos (by simp [Region.wanted, hgd])]
  exact wp_store_row ty x y ho g cells hx hy t old hg hi hold h1 h

theorem step_load_arr {P : Program} {ops : Array Oper} {op : Oper} {a : Act} {w : World} {K : Act → World → Prop} {Q : Exit → Act → World → Prop} {E : Prop} {tm : Array Value} (hgd : op.guard = none) (ty : TypeId) (x : Operand) (ho : op.op = .load ty x)
    (b o : Nat) (hx : a.eval x = .pointer (some ⟨b, o, none⟩)) (cs : Array Value) (d : TypeDesc) (hc : w.rangeAt b o cs.toList) (hu : P.underlying ty = some d) (hd : d.isRow = true) (hi : (P.info? ty).map (·.size) = some cs.size)
    (h : K (a.put op.dst (.agg cs)) w) : if Region.wanted op (yielded ops tm) = true then Oper.wp P op a w K Q else E := by
  rw [if_pos (by simp [Region.wanted, hgd])]
  exact wp_load_mid ty x ho b o hx cs.toList d hc hu hd (by simpa using hi) (by rw [Array.toArray_toList]; exact h)
theorem grown_row9 (w : World) (g : Nat) (cs : Array Value) : w.grownBy (w.setRow g cs) (some g) := ⟨rfl, rfl, rfl, by simp [World.setRow], fun j _ hj => setRow_other w g j cs (fun e => hj (by rw [e]))⟩

end Dsk
end Go.Proofs.Ytdiegglnfbmpdaa
