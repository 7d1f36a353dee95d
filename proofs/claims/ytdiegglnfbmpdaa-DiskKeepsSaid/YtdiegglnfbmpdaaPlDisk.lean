/-
  PLAIN: what layer 9 (disk) comes to, as Lean functions on lists of bytes. No program in sight.
-/
import Derived.Test.YtdiegglnfbmpdaaTools
namespace Go.Proofs.Ytdiegglnfbmpdaa
namespace Dsk

structure Fi where
  safe : List UInt8
  tail : List UInt8
structure Dk where
  f0 : Fi
  f1 : Fi
def Dk.get (d : Dk) (n : Int) : Fi := if n = 0 then d.f0 else d.f1
def Dk.put (d : Dk) (n : Int) (f : Fi) : Dk := if n = 0 then ⟨f, d.f1⟩ else ⟨d.f0, f⟩
def Fi.all (f : Fi) : List UInt8 := f.safe ++ f.tail
def rightK (d : Dk) : Bool := decide (d.f0.safe.length + d.f0.tail.length ≤ 65536) && decide (d.f1.safe.length + d.f1.tail.length ≤ 65536)
def isF (n : Int) : Bool := decide (n = 0) || decide (n = 1)
def okK (d : Dk) (n : Int) : Bool := rightK d && isF n
def readK (d : Dk) (n : Int) : List UInt8 := if okK d n = true then (d.get n).all else []
def writeK (d : Dk) (n : Int) (b : List UInt8) : Dk × Int :=
  if okK d n = true then (if (d.get n).all.length + b.length ≤ 65536 then (d.put n ⟨(d.get n).safe, (d.get n).tail ++ b⟩, 0) else (d, 5)) else (d, 1)
def cutK (d : Dk) (n k : Int) : Dk × Int :=
  if okK d n = true ∧ 0 ≤ k ∧ k ≤ (d.get n).all.length then (d.put n ⟨(d.get n).all.take k.toNat, []⟩, 0) else (d, 1)
def syncK (d : Dk) (n : Int) : Dk × Int := if okK d n = true then (d.put n ⟨(d.get n).all, []⟩, 0) else (d, 1)
def kept (f : Fi) (k : Int) : Fi := ⟨f.safe ++ f.tail.take k.toNat, []⟩
def crashK (d : Dk) (k0 k1 : Int) : Dk := if rightK d = true then ⟨kept d.f0 k0, kept d.f1 k1⟩ else d

theorem get_put (d : Dk) (n : Int) (f : Fi) : (d.put n f).get n = f := by
  unfold Dk.put Dk.get
  split <;> rfl
theorem isF_iff (n : Int) : isF n = true ↔ n = 0 ∨ n = 1 := by unfold isF; simp
theorem right_iff (d : Dk) : rightK d = true ↔ d.f0.all.length ≤ 65536 ∧ d.f1.all.length ≤ 65536 := by unfold rightK Fi.all; simp
/-- no slice of a disk is great -/
def Dk.small (d : Dk) : Prop := (d.f0.safe.length ≤ 100000 ∧ d.f0.tail.length ≤ 100000) ∧ d.f1.safe.length ≤ 100000 ∧ d.f1.tail.length ≤ 100000
theorem small_right {d : Dk} (h : rightK d = true) : d.small := by
  have h1 := (right_iff d).1 h
  unfold Fi.all at h1
  rw [List.length_append, List.length_append] at h1
  unfold Dk.small
  omega
theorem ok_of {d : Dk} {n : Int} (h : rightK d = true) (hn : n = 0 ∨ n = 1) : okK d n = true := by unfold okK; rw [h, (isF_iff n).2 hn]; rfl
/-- right disks stay right -/
theorem right_get {d : Dk} (h : rightK d = true) (n : Int) : (d.get n).all.length ≤ 65536 := by
  have h1 := (right_iff d).1 h
  unfold Dk.get
  split
  · exact h1.1
  · exact h1.2
theorem right_put {d : Dk} {f : Fi} (h : rightK d = true) (n : Int) (hf : f.all.length ≤ 65536) : rightK (d.put n f) = true := by
  have h1 := (right_iff d).1 h
  rw [right_iff]
  unfold Dk.put
  split
  · exact ⟨hf, h1.2⟩
  · exact ⟨h1.1, hf⟩
theorem right_write {d : Dk} (h : rightK d = true) (n : Int) (b : List UInt8) : rightK (writeK d n b).1 = true := by
  unfold writeK
  split
  · split
    · rename_i h2
      refine right_put h n ?_
      unfold Fi.all at h2 ⊢
      dsimp only
      rw [← List.append_assoc, List.length_append]
      exact h2
    · exact h
  · exact h
theorem right_cut {d : Dk} (h : rightK d = true) (n k : Int) : rightK (cutK d n k).1 = true := by
  unfold cutK
  split
  · refine right_put h n ?_
    have h1 := right_get h n
    show ((d.get n).all.take k.toNat ++ []).length ≤ 65536
    rw [List.append_nil, List.length_take]
    omega
  · exact h
theorem right_sync {d : Dk} (h : rightK d = true) (n : Int) : rightK (syncK d n).1 = true := by
  unfold syncK
  split
  · refine right_put h n ?_
    show ((d.get n).all ++ []).length ≤ 65536
    rw [List.append_nil]
    exact right_get h n
  · exact h
theorem kept_len (f : Fi) (k : Int) : (kept f k).all.length ≤ f.all.length := by
  unfold kept Fi.all
  dsimp only
  rw [List.append_nil, List.length_append, List.length_append, List.length_take]
  omega
theorem right_crash {d : Dk} (h : rightK d = true) (k0 k1 : Int) : rightK (crashK d k0 k1) = true := by
  unfold crashK
  rw [if_pos h]
  have h1 := (right_iff d).1 h
  rw [right_iff]
  exact ⟨Nat.le_trans (kept_len _ _) h1.1, Nat.le_trans (kept_len _ _) h1.2⟩

end Dsk
end Go.Proofs.Ytdiegglnfbmpdaa
