/-
  Rows of slices of bytes.
-/
import Derived.Test.YtdiegglnfbmpdaaRow
namespace Go.Proofs.Ytdiegglnfbmpdaa
open Go.RowKit

/-- a slice's address, its length and its capacity, as a cell holds them -/
abbrev Hdr := Option Addr × Nat × Nat
def encS : Enc Hdr := ⟨fun t => [.slice t.1 t.2.1 t.2.2], 1, fun _ => rfl, fun t u hu => by
  simp only [List.mem_singleton] at hu
  subst hu
  rfl⟩
/-- each slice reads as its list of bytes -/
def Match (w : World) : List Hdr → List (List UInt8) → Prop
  | [], [] => True
  | t :: ts, y :: ys => (t.2.1 = y.length ∧ BytesAt w t.1 t.2.2 y) ∧ Match w ts ys
  | _, _ => False
theorem Match.len {w : World} : ∀ {ts : List Hdr} {ys : List (List UInt8)}, Match w ts ys → ts.length = ys.length
  | [], [], _ => rfl
  | _ :: _, _ :: _, h => by rw [List.length_cons, List.length_cons, Match.len h.2]
  | [], _ :: _, h => h.elim
  | _ :: _, [], h => h.elim
theorem Match.later {w w' : World} (hb : Below w.heap.size w w') : ∀ {ts : List Hdr} {ys : List (List UInt8)}, Match w ts ys → Match w' ts ys
  | [], [], _ => trivial
  | _ :: _, _ :: _, h => ⟨⟨h.1.1, h.1.2.later hb⟩, Match.later hb h.2⟩
  | [], _ :: _, h => h.elim
  | _ :: _, [], h => h.elim
theorem Match.append {w : World} : ∀ {ts : List Hdr} {ys : List (List UInt8)} {us : List Hdr} {zs : List (List UInt8)}, Match w ts ys → Match w us zs → Match w (ts ++ us) (ys ++ zs)
  | [], [], _, _, _, h => h
  | _ :: _, _ :: _, _, _, h, k => ⟨h.1, Match.append h.2 k⟩
  | [], _ :: _, _, _, h, _ => h.elim
  | _ :: _, [], _, _, h, _ => h.elim
theorem Match.get {w : World} : ∀ {ts : List Hdr} {ys : List (List UInt8)} {i : Nat} {t : Hdr} {y : List UInt8}, Match w ts ys → ts[i]? = some t → ys[i]? = some y → t.2.1 = y.length ∧ BytesAt w t.1 t.2.2 y
  | _ :: _, _ :: _, 0, _, _, h, ht, hy => by
    rw [List.getElem?_cons_zero] at ht hy
    rw [← Option.some.inj ht, ← Option.some.inj hy]
    exact h.1
  | _ :: _, _ :: _, i + 1, _, _, h, ht, hy => by
    rw [List.getElem?_cons_succ] at ht hy
    exact Match.get h.2 ht hy
  | [], [], _, _, _, _, ht, _ => by simp at ht
  | [], _ :: _, _, _, _, h, _, _ => h.elim
  | _ :: _, [], _, _, _, h, _, _ => h.elim
/-- bodies, as a slice of slices of bytes reads -/
def Bodies (w : World) (a : Option Addr) (cap : Nat) (ys : List (List UInt8)) : Prop := ∃ ts, RowAt encS w a cap ts ∧ Match w ts ys
theorem Bodies.later {w w' : World} {a : Option Addr} {cap : Nat} {ys : List (List UInt8)} (h : Bodies w a cap ys) (hb : Below w.heap.size w w') : Bodies w' a cap ys := by
  obtain ⟨ts, h1, h2⟩ := h
  exact ⟨ts, h1.later hb, h2.later hb⟩
/-- an element of such a row -/
theorem Bodies.at {w : World} {a : Option Addr} {cap : Nat} {ys : List (List UInt8)} (h : Bodies w a cap ys) (hn : 0 < ys.length) :
    ∃ b off, a = some ⟨b, off, none⟩ ∧ ∀ i y, ys[i]? = some y → ∃ x c, w.cell? ⟨b, off + i, none⟩ = some (.slice x y.length c) ∧ BytesAt w x c y := by
  obtain ⟨ts, h1, h2⟩ := h
  have hl := h2.len
  obtain ⟨b, off, rfl, hc⟩ := h1.at (by omega) (by decide)
  refine ⟨b, off, rfl, fun i y hy => ?_⟩
  have hi : i < ts.length := by
    rw [hl]
    rcases Nat.lt_or_ge i ys.length with h | h
    · exact h
    · rw [List.getElem?_eq_none h] at hy; cases hy
  have ht := List.getElem?_eq_getElem hi
  have ⟨g1, g2⟩ := h2.get ht hy
  have h3 := hc i _ ht 0 _ rfl
  have e : i * encS.size + 0 = i := by show i * 1 + 0 = i; omega
  rw [e] at h3
  exact ⟨ts[i].1, ts[i].2.2, by rw [h3, g1], g2⟩

theorem OwnE.read {α : Type} {c : Enc α} {e : TypeId} {w : World} {base n cap : Nat} {a : Option Addr} {l : List α} (h : OwnE c e w base (.slice a n cap) l) : RowAt c w a cap l := by
  obtain ⟨a', cap', hv, hr⟩ := h.row
  injection hv with h1 _ h3
  subst h1 h3
  exact hr

end Go.Proofs.Ytdiegglnfbmpdaa
