/-
  PLAIN: reading a field by its first sign '=': it comes to the same.
-/
import Derived.Test.YtddblaiahgjbaaaGreatDoorPlSeg
import Derived.Test.YtddblaiahgjbaaaGreatDoorPlIx
namespace Go.Proofs.YtddblaiahgjbaaaGreatDoor
namespace Fld
open Num

/-- may it be a value? -/
def rightV (v : List UInt8) : Bool := decide (1 ≤ v.length) && decide (v.length ≤ 256) && decide (ahead 1 v = v.length)
/-- may it be a tag? -/
def rightT (t : Int) : Bool := decide (1 ≤ t) && decide (t ≤ 9999)
theorem rightV_ones (v : List UInt8) : decide (ahead 1 v = v.length) = v.all fun c => c != 1 := by
  have h := ahead_lt 1 v
  have hl := ahead_le 1 v
  by_cases hm : (1 : UInt8) ∈ v
  · have h1 := h.2 hm
    rw [decide_eq_false (by omega), eq_comm, List.all_eq_false]
    exact ⟨1, hm, by simp⟩
  · have h1 : ¬ ahead 1 v < v.length := fun e => hm (h.1 e)
    rw [decide_eq_true (by omega), eq_comm, List.all_eq_true]
    intro c hc
    rw [bne_iff_ne]
    rintro rfl
    exact hm hc
theorem rightF_split (f : F) : rightF f = (rightT f.tag && rightV f.val.data.toList) := by
  have hl : f.val.data.toList.length = f.val.size := rfl
  unfold rightF rightV rightT
  rw [rightV_ones, hl]
  have e1 : decide (0 < f.tag) = decide (1 ≤ f.tag) := decide_eq_decide.2 (by omega)
  have e2 : decide (f.tag < 10000) = decide (f.tag ≤ 9999) := decide_eq_decide.2 (by omega)
  have e3 : decide (0 < f.val.size) = decide (1 ≤ f.val.size) := decide_eq_decide.2 (by omega)
  rw [e1, e2, e3]
  simp only [Bool.and_assoc]

/-- what stands ahead of the sign, and behind it -/
def nameOf (s : List UInt8) : List UInt8 := s.take (ahead 61 s)
def valueOf (s : List UInt8) : List UInt8 := s.drop (ahead 61 s + 1)
def readG (s : List UInt8) : Bool := decide (parseE (nameOf s) = 0) && rightT (parseV (nameOf s)) && rightV (valueOf s)
theorem split_at {s : List UInt8} (h : ahead 61 s < s.length) : s = nameOf s ++ 61 :: valueOf s := by
  unfold nameOf valueOf
  have h1 := ahead_get h
  rw [List.getElem?_eq_getElem h] at h1
  have e := List.drop_eq_getElem_cons h
  rw [Option.some.inj h1] at e
  rw [← e, List.take_append_drop]
theorem ahead_front {f : F} (h : rightF f = true) : ahead 61 (front f) = (showL f.tag).length := by
  have ⟨a, b, _, _, _⟩ := (right_iff f).1 h
  have ⟨_, h2, _⟩ := tag_show a b
  unfold ahead front
  rw [takeWhile_all _ (fun x hx => by rw [bne_iff_ne]; exact isD_ne_eq (List.all_eq_true.1 h2 x hx))]
  simp
theorem parts_front {f : F} (h : rightF f = true) : nameOf (front f) = showL f.tag ∧ valueOf (front f) = f.val.data.toList := by
  unfold nameOf valueOf
  rw [ahead_front h]
  unfold front
  refine ⟨List.take_left, ?_⟩
  rw [List.drop_append, List.drop_eq_nil_of_le (by omega)]
  simp
/-- without the sign nothing is read -/
theorem read_nosign {s : List UInt8} (h : ¬ ahead 61 s < s.length) : readOk s = false := by
  cases hr : readOk s
  · rfl
  · have ⟨r1, r2⟩ := read_back hr
    have h1 := ahead_front r1
    rw [r2] at h1
    have h2 := ahead_le 61 s
    have h3 : (front (mkF s (tagLen s))).length = s.length := by rw [r2]
    unfold front at h3
    simp only [List.length_append, List.length_cons] at h3
    omega
theorem right_tag {t : Int} (h : rightT t = true) : rightB t = true := by
  unfold rightT at h
  rw [Bool.and_eq_true, decide_eq_true_eq, decide_eq_true_eq] at h
  exact (Num.right_iff t).2 (by omega)
theorem read_sign {s : List UInt8} (h : ahead 61 s < s.length) : readOk s = readG s ∧ (readG s = true → mkF s (tagLen s) = ⟨parseV (nameOf s), ⟨(valueOf s).toArray⟩⟩) := by
  have hg : readG s = true → readOk s = true ∧ mkF s (tagLen s) = ⟨parseV (nameOf s), ⟨(valueOf s).toArray⟩⟩ := by
    intro hg
    unfold readG at hg
    rw [Bool.and_eq_true, Bool.and_eq_true, decide_eq_true_eq] at hg
    obtain ⟨⟨g1, g2⟩, g3⟩ := hg
    have e : s = front ⟨parseV (nameOf s), ⟨(valueOf s).toArray⟩⟩ := by
      unfold front
      rw [parse_show _ g1]
      exact split_at h
    have hr : rightF ⟨parseV (nameOf s), ⟨(valueOf s).toArray⟩⟩ = true := by
      rw [rightF_split]
      show (rightT (parseV (nameOf s)) && rightV (valueOf s)) = true
      rw [g2, g3]; rfl
    have ⟨r1, r2⟩ := read_front hr
    rw [← e] at r1 r2
    exact ⟨r1, r2⟩
  refine ⟨?_, fun h => (hg h).2⟩
  cases hr : readG s
  · cases ho : readOk s
    · rfl
    · have ⟨r1, r2⟩ := read_back ho
      have ⟨p1, p2⟩ := parts_front r1
      rw [r2] at p1 p2
      have hs := r1
      rw [rightF_split, Bool.and_eq_true] at hs
      have ⟨q1, q2⟩ := show_parse _ (right_tag hs.1)
      have : readG s = true := by
        unfold readG
        rw [p1, p2, q1, q2, hs.1, hs.2]
        rfl
      rw [hr] at this; cases this
  · exact (hg hr).1

end Fld
end Go.Proofs.YtddblaiahgjbaaaGreatDoor
