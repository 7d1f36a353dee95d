/-
  What the reference's Come of layer 6 tells, and its plain steps (the walk itself: wip/scratch/mk-RsqE.py, begun).
-/
import Derived.Test.YtnldllmlfckecaaRsqD
namespace Go.Proofs.Ytnldllmlfckecaa
open Go.RowKit
namespace Rsq
open Num
open Msg (I64)

theorem fill_list : ∀ (l : List Value) (Z : Array Value) (k : Nat), k + l.length ≤ Z.size → ((l.zipIdx k).foldl (fun cs x => cs.setIfInBounds x.snd x.fst) Z).toList = Z.toList.take k ++ l ++ Z.toList.drop (k + l.length)
  | [], Z, k, _ => by simp
  | a :: l, Z, k, h => by
    rw [List.length_cons] at h
    rw [List.zipIdx_cons, List.foldl_cons, fill_list l _ (k + 1) (by rw [Array.size_setIfInBounds]; omega), Array.toList_setIfInBounds, List.length_cons]
    have hk : k < Z.toList.length := by rw [Array.length_toList]; omega
    have e1 : (Z.toList.set k a).take (k + 1) = Z.toList.take k ++ [a] := by
      rw [List.take_add_one, List.take_set, List.set_eq_of_length_le (by rw [List.length_take]; omega), List.getElem?_set_self hk]
      rfl
    have e2 : (Z.toList.set k a).drop (k + 1 + l.length) = Z.toList.drop (k + (l.length + 1)) := by
      rw [List.drop_set_of_lt (by omega), show k + 1 + l.length = k + (l.length + 1) by omega]
    rw [e1, e2]
    simp
theorem fill_all {Z Y : Array Value} {k : Nat} (hz : Z.size = k) (hy : Y.size = k) : Array.foldl (fun cs x => cs.setIfInBounds x.snd x.fst) Z Y.zipIdx 0 k = Y := by
  subst hy
  have e : Array.foldl (fun cs x => cs.setIfInBounds x.snd x.fst) Z Y.zipIdx 0 Y.size = (Y.toList.zipIdx.foldl (fun cs x => cs.setIfInBounds x.snd x.fst) Z) := by
    rw [← Array.toList_zipIdx, Array.foldl_toList, Array.size_zipIdx]
  rw [e]
  apply Array.ext'
  rw [fill_list Y.toList Z 0 (by rw [Array.length_toList]; omega)]
  simp [hz]
/-- what Come tells: the line, what is told, what became of the item -/
def GotC (w : World) (r : Li × List It × Int) (e : Ending) (w' : World) : Prop :=
  ∃ a c b d, e = .returned (.tuple #[.agg #[.int .i64 r.1.next, .slice a r.1.held.length c], .slice b r.2.1.length d, .int .i64 r.2.2]) ∧ RowAt encI w' a c r.1.held ∧ RowAt encI w' b d r.2.1 ∧ Below w.heap.size w w'
theorem line_end {fn : Func} (hfn : fn.results = #[.cell 4 24, .tmp 5, .tmp 6]) (g : Nat) (W : World) (cs old : Array Value) (tmps : Array Value) (hw : W.heap[g]? = some (.cells old 24 (0, 0))) (hcs : cs.size = 2)
    (ht : tmps.getD 4 undef = .pointer (some ⟨g, 0, none⟩)) : (results fn tmps).run Try.prog (W.setRow g cs) = .ok (.tuple #[.agg cs, tmps.getD 5 undef, tmps.getD 6 undef]) (W.setRow g cs) := by
  have hl := run_loadVar_mid (P := Try.prog) (W.setRow g cs) g 0 24 cs.toList _ (block_range (setRow_heap W g old cs _ _ hw)) Try.underlying24 rfl (by rw [Array.length_toList, hcs]; kernel_rfl)
  rw [Array.toArray_toList] at hl
  simp only [results, hfn]
  simp [Sem.run_bind, Result.andThen] at ht ⊢
  simp [ht, asAddr, hl]

theorem rright_c (c : Array Value) (l : Li) (a : Option Addr) (cap n : Nat) (hc : #[.int .i64 l.next, .slice a n cap] = c) (hn : l.held.length = n) (hn9 : n ≤ 9223372036854775807) (w : World) (hr : RowAt encI w a cap l.held) (o : Bool) (ho : rightL l = o) :
    Calls Try.prog 11 #[.agg c] w fun e w' => e = .returned (.bool o) ∧ Below w.heap.size w w' := by
  subst hc ho
  exact rright_any l.next a cap l.held n hn hn9 w hr
theorem GotC.same {w W : World} {l : Li} {n : Nat} {a : Option Addr} {cap : Nat} {k : Int} {r : Li × List It × Int} {LA : Array Value} (hL : #[.int .i64 l.next, .slice a n cap] = LA) (hr : r = (l, [], k)) (hn : l.held.length = n) (h : RowAt encI w a cap l.held) (hb : Below w.heap.size w W) :
    GotC w r (.returned (.tuple #[.agg LA, .slice none 0 0, .int .i64 k])) W := by
  subst hL hr hn
  exact ⟨a, cap, none, 0, rfl, h.later hb, .inl ⟨rfl, rfl, rfl⟩, hb⟩

/-- how the new Held stands, behind the first ones -/
def KP (x : It) (t : List It) (p : Bool) (hs : List It) : Prop := (p = true → (∃ z ∈ t, x.fr < z.fr) ∧ hs = ins x t) ∧ (p = false → (∀ z ∈ t, z.fr < x.fr) ∧ hs = t)
theorem KP.put {x y : It} {t hs : List It} (h : KP x t true hs) : KP x (t ++ [y]) true (hs ++ [y]) := by
  obtain ⟨⟨z, hz, hlt⟩, rfl⟩ := h.1 rfl
  exact ⟨fun _ => ⟨⟨z, by simp [hz], hlt⟩, (ins_snoc ⟨z, hz, hlt⟩).symm⟩, fun e => by cases e⟩
theorem KP.here {x y : It} {t hs : List It} (h : KP x t false hs) (hy : x.fr < y.fr) : KP x (t ++ [y]) true (hs ++ [x] ++ [y]) := by
  obtain ⟨ha, rfl⟩ := h.2 rfl
  exact ⟨fun _ => ⟨⟨y, by simp, hy⟩, (ins_last hy ha).symm⟩, fun e => by cases e⟩
theorem KP.later {x y : It} {t hs : List It} (h : KP x t false hs) (hy : y.fr < x.fr) : KP x (t ++ [y]) false (hs ++ [y]) := by
  obtain ⟨ha, rfl⟩ := h.2 rfl
  refine ⟨fun e => (by cases e), fun _ => ⟨fun z hz => ?_, rfl⟩⟩
  rcases List.mem_append.1 hz with hz | hz
  · exact ha z hz
  · obtain rfl := List.mem_singleton.1 hz
    exact hy
def zeroI : Value := .agg #[.int .i64 0, .int .i64 0, .int .i64 0, .int .i64 0, .int .i64 0, .bool false, .int .i64 0, .int .i64 0, .bool false, .string ⟨#[]⟩, .string ⟨#[]⟩, .string ⟨#[]⟩, .string ⟨#[]⟩, .string ⟨#[]⟩, .string ⟨#[]⟩, .int .i64 0, .bool false, .int .i64 0, .int .i64 0, .int .i64 0]
theorem infoI : (Try.prog.info? 30).map (fun i => (i.zero, i.size, i.bytes)) = some (some zeroI, 20, 208) := by kernel_rfl

end Rsq
end Go.Proofs.Ytnldllmlfckecaa
