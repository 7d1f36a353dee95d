/-
  PLAIN: layer 9's DiskKeeps and DiskCuts.
-/
import Derived.Test.YtdiegglnfbmpdaaPlDisk
namespace Go.Proofs.Ytdiegglnfbmpdaa
namespace Dsk

theorem get_put_other (d : Dk) {n : Int} (f : Fi) (hn : n = 0 ∨ n = 1) : (d.put n f).get (1 - n) = d.get (1 - n) := by
  rcases hn with rfl | rfl
  · rfl
  · rfl
/-- how it stands behind k things -/
structure Inv (n : Int) (d : Dk) (all : List UInt8) (safe k : Nat) : Prop where
  n01 : n = 0 ∨ n = 1
  file : d.get n = ⟨all.take safe, all.drop safe⟩
  le : safe ≤ all.length
  other : (d.get (1 - n)).all = []
  len : all.length ≤ 100 * k
theorem Inv.allIs {n : Int} {d : Dk} {all : List UInt8} {safe k : Nat} (h : Inv n d all safe k) : (d.get n).all = all := by
  rw [h.file]
  exact List.take_append_drop _ _
theorem right_small {d : Dk} {n : Int} (hn : n = 0 ∨ n = 1) (h1 : (d.get n).all.length ≤ 65536) (h2 : (d.get (1 - n)).all.length ≤ 65536) : rightK d = true := by
  rw [right_iff]
  rcases hn with rfl | rfl
  · exact ⟨h1, h2⟩
  · exact ⟨h2, h1⟩
theorem Inv.right {n : Int} {d : Dk} {all : List UInt8} {safe k : Nat} (h : Inv n d all safe k) (hk : k ≤ 60) : rightK d = true :=
  right_small h.n01 (by rw [h.allIs]; have := h.len; omega) (by rw [h.other]; exact Nat.zero_le _)
theorem Inv.ok {n : Int} {d : Dk} {all : List UInt8} {safe k : Nat} (h : Inv n d all safe k) (hk : k ≤ 60) : okK d n = true := ok_of (h.right hk) h.n01
theorem Inv.ok1 {n : Int} {d : Dk} {all : List UInt8} {safe k : Nat} (h : Inv n d all safe k) (hk : k ≤ 60) : okK d (1 - n) = true := ok_of (h.right hk) (by rcases h.n01 with rfl | rfl <;> simp)
theorem Inv.read {n : Int} {d : Dk} {all : List UInt8} {safe k : Nat} (h : Inv n d all safe k) (hk : k ≤ 60) : readK d n = all ∧ readK d (1 - n) = [] := by
  unfold readK
  rw [if_pos (h.ok hk), if_pos (h.ok1 hk)]
  exact ⟨h.allIs, h.other⟩
theorem inv_start {n : Int} (hn : n = 0 ∨ n = 1) : Inv n ⟨⟨[], []⟩, ⟨[], []⟩⟩ [] 0 0 := ⟨hn, by rcases hn with rfl | rfl <;> rfl, Nat.le_refl _, by rcases hn with rfl | rfl <;> rfl, Nat.le_refl _⟩
theorem inv_write {n : Int} {d : Dk} {all b : List UInt8} {safe k : Nat} (h : Inv n d all safe k) (hk : k < 60) (hb : b.length ≤ 100) : ∃ d', writeK d n b = (d', 0) ∧ Inv n d' (all ++ b) safe (k + 1) := by
  refine ⟨d.put n ⟨(d.get n).safe, (d.get n).tail ++ b⟩, ?_, h.n01, ?_, ?_, ?_, ?_⟩
  · unfold writeK
    rw [if_pos (h.ok (by omega)), if_pos (by rw [h.allIs]; have := h.len; omega)]
  · rw [get_put, h.file, List.take_append_of_le_length h.le, List.drop_append_of_le_length h.le]
  · rw [List.length_append]; have := h.le; omega
  · rw [get_put_other d _ h.n01]; exact h.other
  · rw [List.length_append]; have := h.len; omega
theorem inv_sync {n : Int} {d : Dk} {all : List UInt8} {safe k : Nat} (h : Inv n d all safe k) (hk : k < 60) : ∃ d', syncK d n = (d', 0) ∧ Inv n d' all all.length (k + 1) := by
  refine ⟨d.put n ⟨(d.get n).all, []⟩, ?_, h.n01, ?_, Nat.le_refl _, ?_, ?_⟩
  · unfold syncK
    rw [if_pos (h.ok (by omega))]
  · rw [get_put, h.allIs, List.take_length, List.drop_length]
  · rw [get_put_other d _ h.n01]; exact h.other
  · have := h.len; omega
theorem kept_nil {f : Fi} (h : f.all = []) (k : Int) : kept f k = ⟨[], []⟩ := by
  unfold Fi.all at h
  obtain ⟨h1, h2⟩ := List.append_eq_nil_iff.1 h
  unfold kept
  rw [h1, h2]
  simp
theorem kept_some (all : List UInt8) {safe : Nat} (_h : safe ≤ all.length) (k : Nat) : kept ⟨all.take safe, all.drop safe⟩ (k : Int) = ⟨all.take (safe + k), []⟩ := by
  unfold kept
  dsimp only
  rw [Int.toNat_natCast, List.take_add]
theorem Inv.small {n : Int} {d : Dk} {all : List UInt8} {safe k : Nat} (h : Inv n d all safe k) (hk : k ≤ 60) : d.small := small_right (h.right (by omega))
theorem inv_crash {n : Int} {d : Dk} {all : List UInt8} {safe k : Nat} (h : Inv n d all safe k) (hk : k < 60) (j : Nat) :
    Inv n (crashK d j j) (all.take (safe + j)) (all.take (safe + j)).length (k + 1) := by
  have hr := h.right (by omega)
  have hc : crashK d j j = ⟨kept d.f0 j, kept d.f1 j⟩ := by unfold crashK; rw [if_pos hr]
  have h1 : (crashK d j j).get n = ⟨all.take (safe + j), []⟩ := by
    rw [hc]
    rcases h.n01 with rfl | rfl
    · show kept d.f0 j = _
      rw [show d.f0 = ⟨all.take safe, all.drop safe⟩ from h.file, kept_some all h.le]
    · show kept d.f1 j = _
      rw [show d.f1 = ⟨all.take safe, all.drop safe⟩ from h.file, kept_some all h.le]
  have h2 : (crashK d j j).get (1 - n) = ⟨[], []⟩ := by
    rw [hc]
    have ho := h.other
    rcases h.n01 with rfl | rfl
    · show kept d.f1 j = _
      exact kept_nil ho _
    · show kept d.f0 j = _
      exact kept_nil ho _
  refine ⟨h.n01, ?_, Nat.le_refl _, by rw [h2]; rfl, ?_⟩
  · rw [h1, List.take_length, List.drop_length]
  · rw [List.length_take]; have := h.len; omega
theorem crash_len {all : List UInt8} {safe : Nat} (h : safe ≤ all.length) (j : Nat) : (all.take (safe + j)).length = min all.length (safe + j) ∧ safe ≤ (all.take (safe + j)).length ∧ (all.take (safe + j)).length ≤ all.length := by
  rw [List.length_take]
  omega

end Dsk
end Go.Proofs.Ytdiegglnfbmpdaa
