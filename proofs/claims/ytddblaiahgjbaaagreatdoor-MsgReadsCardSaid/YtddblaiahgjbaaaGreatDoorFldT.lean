/-
  The program's read of one field's text (layer 2).
-/
import Derived.Test.YtddblaiahgjbaaaGreatDoorFldQ
import Derived.Laws.ResultCell
namespace Go.Proofs.YtddblaiahgjbaaaGreatDoor
open Go.RowKit
namespace Fld
open Num

/-- a slot of two cells that was laid ahead of calls stands as it was -/
theorem slot_kept {w w1 : World} {u v : Value} {t : TypeId} (hb : Below (w.alloc (.cells #[u, v] t)).heap.size (w.alloc (.cells #[u, v] t)) w1) :
    w1.cell? ⟨w.heap.size, 0, none⟩ = some u ∧ w1.cell? ⟨w.heap.size, 1, none⟩ = some v ∧ w1.frozen? ⟨w.heap.size, 0, none⟩ = false ∧ w1.frozen? ⟨w.heap.size, 1, none⟩ = false ∧ w.heap.size < w1.heap.size := by
  refine ⟨(hb.cell (p := ⟨w.heap.size, 0, none⟩) (by simp)).trans (by rw [World.cell?_alloc_new]; rfl), (hb.cell (p := ⟨w.heap.size, 1, none⟩) (by simp)).trans (by rw [World.cell?_alloc_new]; rfl),
    (hb.frozen (p := ⟨w.heap.size, 0, none⟩) (by simp)).trans ?_, (hb.frozen (p := ⟨w.heap.size, 1, none⟩) (by simp)).trans ?_, Nat.lt_of_lt_of_le (by simp) hb.size⟩
  all_goals exact World.frozen?_alloc_at _ _ _ _ rfl

theorem extract_name {s : ByteArray} {k : Nat} : (s.extract 0 k).data.toList = s.data.toList.take k := by
  rw [ByteArray.data_extract, Array.toList_extract]
  simp
theorem extract_value {s : ByteArray} {k : Nat} : (s.extract k s.size).data.toList = s.data.toList.drop k := by
  rw [ByteArray.data_extract, Array.toList_extract]
  have hl : s.data.toList.length = s.size := rfl
  rw [List.extract_eq_take_drop, List.take_of_length_le]
  rw [List.length_drop, hl]
  exact Nat.le_refl _

/-- what is told of a text: a field, or none -/
def ReadPost (s : ByteArray) (w : World) (e : Ending) (w' : World) : Prop :=
  ∃ f : F, e = .returned (.tuple #[.agg #[.int .i64 f.tag, .string f.val], .bool (readOk s.data.toList)]) ∧ (readOk s.data.toList = true → mkF s.data.toList (tagLen s.data.toList) = f) ∧ Below w.heap.size w w'

set_option maxRecDepth 100000 in
set_option maxHeartbeats 1000000 in
theorem read_any (s : ByteArray) (w : World) (hs : s.size ≤ 9223372036854775807) (hl : Laid w) :
    Calls Tryz.prog 51 #[.string s] w (ReadPost s w) := by
  unfold ReadPost
  by_cases hi : ahead 61 s.data.toList < s.size
  · have ⟨hr1, hr2⟩ := read_sign (s := s.data.toList) hi
    have HC := Lib.hid fun w => strings_Cut_hit 61 s w hs hi
    obtain ⟨nm, hnm⟩ : ∃ nm, s.extract 0 (ahead 61 s.data.toList) = nm := ⟨_, rfl⟩
    obtain ⟨vl, hvl⟩ : ∃ vl, s.extract (ahead 61 s.data.toList + 1) s.size = vl := ⟨_, rfl⟩
    have en : nameOf s.data.toList = nm.data.toList := by rw [← hnm, extract_name]; rfl
    have ev : valueOf s.data.toList = vl.data.toList := by rw [← hvl, extract_value]; rfl
    have hns : nm.size ≤ 9223372036854775807 := by
      have h1 : nm.size = (nameOf s.data.toList).length := by rw [en]; rfl
      have h2 : (nameOf s.data.toList).length ≤ s.size := by unfold nameOf; rw [List.length_take]; exact Nat.min_le_right _ _
      omega
    have hvs : vl.size ≤ 9223372036854775807 := by
      have h1 : vl.size = (valueOf s.data.toList).length := by rw [ev]; rfl
      have h2 : (valueOf s.data.toList).length ≤ s.size := by unfold valueOf; rw [List.length_drop]; exact Nat.sub_le _ _
      omega
    rw [hnm, hvl] at HC
    have ec : (⟨vl.data.toList.toArray⟩ : ByteArray) = vl := rfl
    unfold readG at hr1 hr2
    rw [en, ev] at hr1 hr2
    rw [ec] at hr2
    obtain ⟨pv, hpv⟩ : ∃ pv, parseV nm.data.toList = pv := ⟨_, rfl⟩
    obtain ⟨pe, hpe⟩ : ∃ pe, parseE nm.data.toList = pe := ⟨_, rfl⟩
    have HPC := Lib.hid fun w hl => Num.parse_any nm hns w hl
    rw [hpv, hpe] at hr1 hr2 HPC
    have H1 := Lib.hid hr1
    have H2 := Lib.hid hr2
    have HL := Lib.hid hl
    clear hr1 hr2 hnm hvl en ev ec hpv hpe hl hi
    go_enter Tryz.func51, Tryz.ntmps51
    go_wp2_with fail
    refine (HC.out _).mono ?_
    rintro e w1 ⟨rfl, hb1⟩
    have HB1 := Lib.hid hb1
    clear hb1
    go_wp2_with fail
    refine (HPC.out _ ?_).mono ?_
    · exact HL.out.below ((((Below.refl _ _).alloc (Nat.le_refl _) _)).trans (HB1.out.mono (by simp)))
    rintro e w2 ⟨rfl, hb2⟩
    have HB2 := Lib.hid (HB1.out.trans (hb2.mono HB1.out.size))
    clear hb2
    obtain ⟨c0, c1, z0, z1, hsz⟩ := slot_kept HB2.out
    have HB := Lib.hid ((((Below.refl _ _).alloc (Nat.le_refl _) _)).trans (HB2.out.mono (by simp)))
    cases d : (pe != 0)
    · have hpe : pe = 0 := by simpa using d
      cases d2 : rightT pv
      · have HR := Lib.hid (show readOk s.data.toList = false by rw [H1.out, d2]; simp)
        have HT := Lib.hid d2
        clear hpe
        go_wp2_with fail
        refine (tag_any pv _).mono ?_
        rw [HT.out]
        rintro e w3 ⟨rfl, rfl⟩
        go_wp2_with fail
        rw [HR.out]
        refine bodyPost_ret (v := .tuple #[.agg #[.int .i64 0, .string ⟨#[]⟩], .bool false]) ?_ rfl ⟨⟨0, ⟨#[]⟩⟩, rfl, (fun h => nomatch h), ?_⟩
        · rw [results_cell_tmp rfl]
          go_simp
        · exact (HB.out.setCell (Nat.le_refl _) _).setCell (Nat.le_refl _) _
      · have HT := Lib.hid d2
        cases d3 : rightV vl.data.toList
        · have HR := Lib.hid (show readOk s.data.toList = false by rw [H1.out, d3]; simp)
          have HV := Lib.hid d3
          clear hpe d3
          go_wp2_with fail
          refine (tag_any pv _).mono ?_
          rw [HT.out]
          rintro e w3 ⟨rfl, rfl⟩
          go_wp2_with fail
          refine (value_any vl _ hvs).mono ?_
          rw [HV.out]
          rintro e w3 ⟨rfl, rfl⟩
          go_wp2_with fail
          rw [HR.out]
          refine bodyPost_ret (v := .tuple #[.agg #[.int .i64 0, .string ⟨#[]⟩], .bool false]) ?_ rfl ⟨⟨0, ⟨#[]⟩⟩, rfl, (fun h => nomatch h), ?_⟩
          · rw [results_cell_tmp rfl]
            go_simp
          · exact (HB.out.setCell (Nat.le_refl _) _).setCell (Nat.le_refl _) _
        · have hall : (decide (pe = 0) && rightT pv && rightV vl.data.toList) = true := by rw [hpe, d2, d3]; rfl
          have HR := Lib.hid (show readOk s.data.toList = true by rw [H1.out, hall])
          have HM := Lib.hid (H2.out hall)
          have HV := Lib.hid d3
          clear hpe d3 hall
          go_wp2_with fail
          refine (tag_any pv _).mono ?_
          rw [HT.out]
          rintro e w3 ⟨rfl, rfl⟩
          go_wp2_with fail
          refine (value_any vl _ hvs).mono ?_
          rw [HV.out]
          rintro e w3 ⟨rfl, rfl⟩
          go_wp2_with fail
          rw [HR.out]
          refine bodyPost_ret (v := .tuple #[.agg #[.int .i64 pv, .string vl], .bool true]) ?_ rfl ⟨⟨pv, vl⟩, rfl, (fun _ => HM.out), ?_⟩
          · rw [results_cell_tmp rfl]
            go_simp
          · exact (HB.out.setCell (Nat.le_refl _) _).setCell (Nat.le_refl _) _
    · have HR := Lib.hid (show readOk s.data.toList = false by rw [H1.out, decide_eq_false (by simpa using d)]; rfl)
      go_wp2_with fail
      rw [HR.out]
      refine bodyPost_ret (v := .tuple #[.agg #[.int .i64 0, .string ⟨#[]⟩], .bool false]) ?_ rfl ⟨⟨0, ⟨#[]⟩⟩, rfl, (fun h => nomatch h), ?_⟩
      · rw [results_cell_tmp rfl]
        go_simp
      · exact (HB.out.setCell (Nat.le_refl _) _).setCell (Nat.le_refl _) _
  · have HR := Lib.hid (read_nosign hi)
    have HC := Lib.hid fun w => strings_Cut_miss 61 s w hi
    go_enter Tryz.func51, Tryz.ntmps51
    go_wp2_with fail
    refine (HC.out _).mono ?_
    rintro e w' ⟨rfl, rfl⟩
    go_wp2_with fail
    rw [HR.out]
    refine bodyPost_ret (v := .tuple #[.agg #[.int .i64 0, .string ⟨#[]⟩], .bool false]) ?_ rfl ⟨⟨0, ⟨#[]⟩⟩, rfl, (fun h => nomatch h), ((Below.refl _ _).alloc (Nat.le_refl _) _)⟩
    · rw [results_cell_tmp rfl]
      go_simp

end Fld
end Go.Proofs.YtddblaiahgjbaaaGreatDoor
