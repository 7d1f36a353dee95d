/-
  Slices of slices of bytes that came in, as the row reads them.
-/
import Derived.Test.YtdiegglnfbmpdaaRowS
import Derived.Test.YtdiegglnfbmpdaaArgB
import Derived.Test.YtdiegglnfbmpdaaProg
import Derived.Deep.Slices
import Derived.Deep.Fields
import Derived.ChangeSame
import Derived.ChangeSlices
import Derived.OpenShut
namespace Go.Proofs.Ytdiegglnfbmpdaa
open Go.ChangeShapes Go.WideShapes Go.Deep Go.RowKit
namespace Crc

theorem rows_list {α : Type} (c : Enc α) (Fit : α → Prop) {w : World} {a : Addr} (m : Nat) (h : ∀ i, i < m → ∃ x, (∀ j u, (c.of x)[j]? = some u → w.cell? (a.add (i * c.size + j)) = some u) ∧ Fit x) :
    ∃ l : List α, l.length = m ∧ (∀ i x, l[i]? = some x → ∀ j u, (c.of x)[j]? = some u → w.cell? (a.add (i * c.size + j)) = some u) ∧ ∀ x ∈ l, Fit x := by
  induction m with
  | zero => exact ⟨[], rfl, fun i x hx => by simp at hx, fun x hx => by cases hx⟩
  | succ m ih =>
    obtain ⟨l, h1, h2, h3⟩ := ih fun i hi => h i (by omega)
    obtain ⟨x, g1, g2⟩ := h m (by omega)
    refine ⟨l ++ [x], by rw [List.length_append, h1]; rfl, fun i y hy => ?_, fun y hy => ?_⟩
    · rcases Nat.lt_or_ge i l.length with hi | hi
      · rw [List.getElem?_append_left hi] at hy
        exact h2 i y hy
      · rw [List.getElem?_append_right hi] at hy
        have hi0 : i - l.length = 0 := by
          rcases Nat.eq_zero_or_pos (i - l.length) with h | h
          · exact h
          · rw [List.getElem?_eq_none (by simp only [List.length_cons, List.length_nil]; omega)] at hy; cases hy
        rw [hi0] at hy
        obtain rfl := Option.some.inj hy
        obtain rfl : i = m := by omega
        exact g1
    · rw [List.mem_append, List.mem_singleton] at hy
      rcases hy with hy | rfl
      · exact h3 y hy
      · exact g2

section
variable {H : Type} {enc : TypeId × Value → H} {P : Program} {w : World} {base : Nat} {spare : Nat → Bool} {held : Bool}
theorem open_rows {α : Type} (c : Enc α) (Fit : α → Prop) {e : TypeId} (hce : P.cellsOf e = c.size) (hs : 0 < c.size)
    (hof : ∀ (n : Nat) (u : List Value) (y : DataW H × List MemPlace), DataW.trod enc P w base spare held n e u = some y → ∃ x, u = c.of x ∧ Fit x)
    {t : TypeId} (ht : P.underlying t = some (.slice e)) {fuel : Nat} {cs : List Value} {x : DataW H × List MemPlace} (h : DataW.trod enc P w base spare held fuel t cs = some x) :
    ∃ a len cap, cs = [.slice a len cap] ∧ len ≤ maxLen ∧ ∃ l : List α, l.length = len ∧ RowAt c w a cap l ∧ ∀ x ∈ l, Fit x := by
  rcases open_slice ht h with ⟨h0, _⟩ | ⟨a, len, cap, m, n, D, Pl, hcs, hb, hl, hm, hmm, _, hi⟩
  · exact ⟨none, 0, 0, h0, Nat.zero_le _, [], rfl, .inl ⟨rfl, rfl, rfl⟩, fun _ h => by cases h⟩
  · refine ⟨some a, len, cap, hcs, Nat.le_trans hl hm, ?_⟩
    rw [hce] at hi
    obtain ⟨l, h1, h2, h3⟩ := rows_list c Fit (w := w) (a := a) len fun i hlt => by
      obtain ⟨cs', hc, htr⟩ := hi i (by rw [hmm]; split <;> omega)
      obtain ⟨x, rfl, hf⟩ := hof _ _ _ htr
      obtain ⟨_, _, hat⟩ := World.cells?_some hc
      refine ⟨x, fun j u hu => ?_, hf⟩
      have hj : j < c.size := by
        rcases Nat.lt_or_ge j (c.of x).length with h | h
        · rwa [c.len] at h
        · rw [List.getElem?_eq_none h] at hu; cases hu
      have g := hat j hj
      rw [Go.Proofs.Ytdiegglnfbmpdaa.add_add] at g
      rw [g, hu]
    refine ⟨l, h1, .inr ⟨a, rfl, by omega, fun j u hu => ?_⟩, h3⟩
    obtain ⟨i, r, f, rfl, hr, hf, hv⟩ := c.flat_at hs hu
    exact h2 i f hf r u hv
end

/-- a slice of slices of bytes that came in -/
def IsBys (w : World) (a : Option Addr) (len cap : Nat) (l : List (List UInt8)) : Prop := l.length = len ∧ len ≤ maxLen ∧ Bodies w a cap l
theorem match_of {w : World} : ∀ {ts : List Hdr}, (∀ t ∈ ts, ∃ y : List UInt8, y.length = t.2.1 ∧ BytesAt w t.1 t.2.2 y) → ∃ ys, Match w ts ys
  | [], _ => ⟨[], trivial⟩
  | t :: r, h => by
    obtain ⟨ys, hy⟩ := match_of (ts := r) fun u hu => h u (by simp [hu])
    obtain ⟨y, h1, h2⟩ := h t (by simp)
    exact ⟨y :: ys, ⟨h1.symm, h2⟩, hy⟩

section
variable {H : Type} {enc : TypeId × Value → H} {w : World} {base : Nat} {spare : Nat → Bool} {held : Bool}
theorem open_bys {fuel : Nat} {cs : List Value} {x : DataW H × List MemPlace} (h : DataW.trod enc Try.prog w base spare held fuel 24 cs = some x) : ∃ t : Hdr, cs = encS.of t ∧ ∃ y : List UInt8, y.length = t.2.1 ∧ BytesAt w t.1 t.2.2 y := by
  rcases open_ints Try.underlying24 Try.underlying5 (by kernel_rfl) h with ⟨hcs, _⟩ | ⟨a, l, c, zs, hcs, _, hl, hm, hz, _, hcell, hwz⟩
  · exact ⟨(none, 0, 0), hcs, [], rfl, .inl ⟨rfl, rfl, rfl⟩⟩
  · refine ⟨(some a, l, c), hcs, ?_⟩
    have hlz : l ≤ zs.length := by rw [hz]; split <;> omega
    have ht : (zs.take l).length = l := by rw [List.length_take]; omega
    have hrow : IsRow .u8 w (some a) l c (zs.take l) := by
      refine ⟨ht, Nat.le_trans hl hm, .inr ⟨a, rfl, by omega, fun i hi => ?_⟩, fun n hn => hwz n (List.mem_of_mem_take hn)⟩
      rw [ht] at hi
      rw [hcell i (by omega)]
      simp [List.getD_eq_getElem?_getD, hi]
    obtain ⟨y, hy, _, hb⟩ := hrow.bytes
    exact ⟨y, hy, hb⟩
end

theorem open_byss {H : Type} {enc : TypeId × Value → H} {w : World} {base : Nat} {spare : Nat → Bool} {held : Bool} {fuel : Nat} {cs : List Value} {x : DataW H × List MemPlace} (h : DataW.trod enc Try.prog w base spare held fuel 53 cs = some x) : ∃ a len cap l, cs = [.slice a len cap] ∧ IsBys w a len cap l := by
  obtain ⟨a, len, cap, hcs, hm, l, h1, h2, h3⟩ := open_rows encS (fun t => ∃ y : List UInt8, y.length = t.2.1 ∧ BytesAt w t.1 t.2.2 y) (e := 24) (by kernel_rfl) (by decide) (fun n u y h => open_bys h) Try.underlying53 h
  obtain ⟨ys, hy⟩ := match_of h3
  exact ⟨a, len, cap, ys, hcs, by rw [← hy.len, h1], hm, l, h2, hy⟩

end Crc
end Go.Proofs.Ytdiegglnfbmpdaa
