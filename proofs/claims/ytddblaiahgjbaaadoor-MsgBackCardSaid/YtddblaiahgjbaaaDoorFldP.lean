/-
  The program's Put, Get and Num (layer 2).
-/
import Derived.Test.YtddblaiahgjbaaaDoorFldB
import Derived.Test.YtddblaiahgjbaaaDoorFldD
import Derived.Test.YtddblaiahgjbaaaDoorFldT
import Derived.Test.YtddblaiahgjbaaaDoorMemS
import Derived.Test.YtddblaiahgjbaaaDoorNumSh
namespace Go.Proofs.YtddblaiahgjbaaaDoor
open Go.RowKit
namespace Fld
open Num

theorem getV_size {l : List F} {tag : Int} (h : Fits l) : (getV l tag).size ≤ 9223372036854775807 := by
  unfold getV getF
  cases hf : l.find? (fun f => f.tag == tag) with
  | none => decide
  | some f => exact (h f (List.mem_of_find?_eq_some hf)).2.2
theorem parse_any0 (s : ByteArray) (hs : s.size ≤ 9223372036854775807) (w : World) (hl : Laid w) :
    Calls Tryd.prog 37 #[.string s] w fun e w' => e = .returned (.tuple #[.int .i64 (parseV s.data.toList), .int .i64 (parseE s.data.toList)]) ∧ Below w.heap.size w w' := Num.parse_any s hs w hl

set_option maxRecDepth 100000 in
set_option maxHeartbeats 1000000 in
theorem put_own (a : Option Addr) (cap : Nat) (l : List F) (w : World) (hfl : Flds w a l) (hfit : Fits l) (hlen : l.length ≤ 9223372036854775807) (hl : Laid w) :
    Calls Tryd.prog 12 #[.slice a l.length cap] w (RetBytes 5 w (putB l) (putE l)) := by
  have HF := Lib.hid hfl
  have HI := Lib.hid hfit
  have HL := Lib.hid hl
  clear hfl hfit hl
  by_cases hbig : 100 < l.length
  · have HP := Lib.hid (putE_long hbig)
    go_enter Tryd.func12, Tryd.ntmps12
    go_wp2_with fail
    go_ret2
    exact ⟨⟨.slice none 0 0, ret_vi HP.out.1.symm, by rw [HP.out.2]; exact Own.nil _ _ _⟩, Below.refl _ _⟩
  · obtain ⟨i0, hi0, hz0, hz1, hz2⟩ := info_parts infoU8
    have HI0 := Lib.hid hi0
    have HZ0 := Lib.hid hz0
    have HZ1 := Lib.hid hz1
    have HZ2 := Lib.hid hz2
    clear hi0 hz0 hz1 hz2
    go_enter Tryd.func12, Tryd.ntmps12
    go_wp2_with fail
    go_loopw [4, 12] (fun v i wr => ∃ k : Nat, k ≤ l.length ∧ i = .int .i64 k ∧ (l.take k).all rightF = true ∧ Own 5 wr w.heap.size v (bytesL (l.take k)) ∧ Below w.heap.size w wr) (fun _ i _ => l.length - (intOf i).toNat)
    case atStart => exact ⟨0, Nat.zero_le _, rfl, by simp, by simpa [bytesL] using Own.nil _ _ _, Below.refl _ _⟩
    case round =>
      obtain ⟨k, hk, rfl, hall, hown, hbel⟩ := hrel
      have HA := Lib.hid hall
      have HO := Lib.hid hown
      have HB := Lib.hid hbel
      clear hall hown hbel
      by_cases hlt : k < l.length
      · obtain ⟨b, off, rfl, hc⟩ := HF.out.at (by omega)
        obtain ⟨⟨t, u⟩, hf⟩ : ∃ f, l[k] = f := ⟨_, rfl⟩
        have HC : Hid (∀ wr, Below w.heap.size w wr → wr.cell? ⟨b, off + k * 2, none⟩ = some (.int .i64 t) ∧ wr.cell? ⟨b, off + k * 2 + 1, none⟩ = some (.string u)) := Lib.hid fun wr hb => by
          obtain ⟨b', off', e, hc'⟩ := (HF.out.later hb).at (show 0 < l.length by omega)
          injection e with e; injection e with e1 e2; subst e1 e2
          exact hc' k ⟨t, u⟩ (by rw [List.getElem?_eq_getElem hlt, hf])
        have ⟨t1, t2, u1⟩ := HI.out ⟨t, u⟩ (by rw [← hf]; exact List.getElem_mem hlt)
        clear hc
        have ⟨c0, c1⟩ := HC.out _ HB.out
        have HFK := Lib.hid hf
        clear hf
        have HLEN := Lib.hid (len_take HA.out (by omega : k ≤ 100))
        go_wp2_with fail
        cases hr : rightF ⟨t, u⟩
        · have HP := Lib.hid (putE_bad hbig hlt (by rw [HFK.out]; exact hr))
          refine (right_is t u _ hr _ u1).mono ?_
          rintro e w1 ⟨rfl, hb1⟩
          have HB1 := Lib.hid ((HB.out.alloc HB.out.size (.cells #[.int .i64 t, .string u] 38)).trans (hb1.mono (HB.out.alloc HB.out.size _).size))
          clear hb1
          go_wp2_with fail
          go_ret2
          exact ⟨⟨.slice none 0 0, ret_vi HP.out.1.symm, by rw [HP.out.2]; exact Own.nil _ _ _⟩, HB1.out⟩
        · have ⟨g1, g2, _, g4, _⟩ := (right_iff _).1 hr
          have HR := Lib.hid hr
          clear hr
          have HUL : Hid (u.size ≤ 256) := Lib.hid g4
          have HSL : Hid ((showS t).size ≤ 4) := Lib.hid (by have ⟨_, _, h3, _⟩ := tag_show g1 g2; exact h3)
          refine (right_is t u _ HR.out _ u1).mono ?_
          rintro e w1 ⟨rfl, hb1⟩
          have HB1 := Lib.hid ((HB.out.alloc HB.out.size (.cells #[.int .i64 t, .string u] 38)).trans (hb1.mono (HB.out.alloc HB.out.size _).size))
          have HS1 := Lib.hid ((Slot2.made wr (.int .i64 t) (.string u) 38).later hb1)
          have HO1 := Lib.hid ((HO.out.kept ((Below.refl _ _).alloc (Nat.le_refl _) (.cells #[.int .i64 t, .string u] 38))).kept hb1)
          clear hb1
          obtain ⟨s0, s1⟩ := HS1.out.cells
          go_wp2_with fail
          refine (Num.show_any t _ ?_).mono ?_
          · exact HL.out.below HB1.out
          rintro e w2 ⟨rfl, hb2⟩
          have HS2 := Lib.hid (HS1.out.later hb2)
          have HB2 := Lib.hid (HB1.out.trans (hb2.mono HB1.out.size))
          have HO2 := Lib.hid (HO1.out.kept hb2)
          clear hb2 HS1 HO1 s0 s1
          have hne : 38 ≠ 5 := by decide
          go_wp2_with (first
            | (at_builtin; refine wpList_append_str rfl (.tmp 19) (.tmp 22) 26 9 rfl w.heap.size 5 i0 Tryd.underlying26 Tryd.underlying9 HI0.out HZ0.out HZ1.out HZ2.out _ _ rfl HO2.out _ rfl (by have := HLEN.out; have := HSL.out; omega) HB2.out.size ?_; intro v1 w3 hown1 hb3 hk3
               have HB3 := Lib.hid (HB2.out.trans hb3); have HS3 := Lib.hid (HS2.out.kept hk3 hne); clear hb3 hk3 HO2)
            | (at_builtin; refine wpList_append_bytes_k rfl (.tmp 24) (.tmp 25) _ rfl w.heap.size 5 i0 _ Tryd.underlying26 HI0.out HZ0.out HZ1.out HZ2.out rfl _ _ rfl (hown1.kept ((Below.refl _ _).alloc (Nat.le_refl _) _)) _ _ _ [61] rfl (by rfl) (one_byte _ _ 61 _ rfl) (by rw [List.length_append]; have := HLEN.out; have := HSL.out; have e4 : (showS t).data.toList.length = (showS t).size := rfl; simp only [List.length_cons, List.length_nil]; omega) (HB3.out.alloc HB3.out.size _).size ?_; intro v2 w5 hown2 hb4 hk4
               have HB5 := Lib.hid ((HB3.out.alloc HB3.out.size _).trans hb4); have HS5 := Lib.hid ((HS3.out.later ((Below.refl _ _).alloc (Nat.le_refl _) _)).kept hk4 hne); clear hown1 hb4 hk4; have c5 := HS5.out.cells.2)
            | (at_builtin; refine wpList_append_str rfl (.tmp 27) (.tmp 29) 26 9 rfl w.heap.size 5 i0 Tryd.underlying26 Tryd.underlying9 HI0.out HZ0.out HZ1.out HZ2.out _ _ rfl hown2 _ rfl (by rw [List.length_append, List.length_append]; have := HLEN.out; have := HSL.out; have := HUL.out; have e4 : (showS t).data.toList.length = (showS t).size := rfl; simp only [List.length_cons, List.length_nil]; omega) HB5.out.size ?_; intro v3 w7 hown3 hb7 hk7
               have HB7 := Lib.hid (HB5.out.trans hb7); clear hb7 hk7 hown2)
            | (at_builtin; refine wpList_append_bytes_k rfl (.tmp 31) (.tmp 32) _ rfl w.heap.size 5 i0 _ Tryd.underlying26 HI0.out HZ0.out HZ1.out HZ2.out rfl _ _ rfl (hown3.kept ((Below.refl _ _).alloc (Nat.le_refl _) _)) _ _ _ [1] rfl (by rfl) (one_byte _ _ 1 _ rfl) (by rw [List.length_append, List.length_append, List.length_append]; have := HLEN.out; have := HSL.out; have := HUL.out; have e4 : (showS t).data.toList.length = (showS t).size := rfl; have e5 : u.data.toList.length = u.size := rfl; simp only [List.length_cons, List.length_nil]; omega) (HB7.out.alloc HB7.out.size _).size ?_; intro v4 w9 hown4 hb8 hk8
               have HB9 := Lib.hid ((HB7.out.alloc HB7.out.size _).trans hb8); clear hb8 hk8 hown3; have HO9 := Lib.hid hown4; clear hown4))
          go_roundw
          case rel =>
            refine ⟨k + 1, by omega, by go_num, all_succ hlt HA.out (by rw [HFK.out]; exact HR.out), ?_, HB9.out⟩
            rw [bytesL_succ hlt, HFK.out]
            exact HO9.out
          case measure => simp [intOf]; omega
      · obtain rfl : k = l.length := by omega
        have HP := Lib.hid (putE_good hbig (by have h := HA.out; rwa [List.take_length] at h))
        rw [List.take_length] at HO
        go_wp2_with fail
        go_ret2
        exact ⟨⟨_, ret_vi HP.out.1.symm, by rw [HP.out.2]; exact HO.out⟩, HB.out⟩

theorem put_any (a : Option Addr) (cap : Nat) (l : List F) (w : World) (hfl : Flds w a l) (hfit : Fits l) (hlen : l.length ≤ 9223372036854775807) (hl : Laid w) :
    Calls Tryd.prog 12 #[.slice a l.length cap] w (GotBytes w (putB l) (putE l)) := (put_own a cap l w hfl hfit hlen hl).mono fun _ _ h => h.got

set_option maxHeartbeats 400000 in
theorem get_any (a : Option Addr) (cap : Nat) (l : List F) (tag : Int) (w : World) (hfl : Flds w a l) (hlen : l.length ≤ 9223372036854775807) :
    Calls Tryd.prog 46 #[.slice a l.length cap, .int .i64 tag] w fun e w' => e = .returned (.tuple #[.string (getV l tag), .bool (getO l tag)]) ∧ Below w.heap.size w w' := by
  have HF := Lib.hid hfl
  clear hfl
  go_enter Tryd.func46, Tryd.ntmps46
  go_wp2_with fail
  go_loopw [10] (fun i_ wr => ∃ k : Nat, k ≤ l.length ∧ i_ = .int .i64 k ∧ (∀ f ∈ l.take k, f.tag ≠ tag) ∧ Below w.heap.size w wr) (fun i_ _ => l.length - (intOf i_).toNat)
  case atStart => exact ⟨0, Nat.zero_le _, rfl, by simp, Below.refl _ _⟩
  case round =>
    obtain ⟨k, hk, rfl, hno, hbel⟩ := hrel
    have HN := Lib.hid hno
    have HB := Lib.hid hbel
    clear hno hbel
    by_cases hlt : k < l.length
    · obtain ⟨b, off, rfl, hc⟩ := (HF.out.later HB.out).at (by omega)
      obtain ⟨⟨t, u⟩, hf⟩ : ∃ f, l[k]? = some f := ⟨_, List.getElem?_eq_getElem hlt⟩
      have ⟨c0, c1⟩ := hc k _ hf
      have HFK := Lib.hid hf
      clear hc hf
      cases d : (t == tag)
      · have HN2 := Lib.hid (no_step HFK.out HN.out (beq_eq_false_iff_ne.1 d))
        go_wp2_with fail
        go_roundw
        case rel => exact ⟨k + 1, by omega, by go_num, HN2.out, HB.out.alloc HB.out.size _⟩
        case measure => simp [intOf]; omega
      · have HG := Lib.hid (get_some HFK.out HN.out (beq_iff_eq.1 d))
        go_wp2_with fail
        go_ret2
        rw [HG.out.1, HG.out.2]
        exact ⟨rfl, HB.out.alloc HB.out.size _⟩
    · have HG := Lib.hid (get_none (by omega) HN.out)
      obtain rfl : k = l.length := by omega
      go_wp2_with fail
      go_ret2
      rw [HG.out.1, HG.out.2]
      exact ⟨rfl, HB.out⟩

theorem num_any (a : Option Addr) (cap : Nat) (l : List F) (tag : Int) (w : World) (hfl : Flds w a l) (hfit : Fits l) (hlen : l.length ≤ 9223372036854775807) (hl : Laid w) :
    Calls Tryd.prog 47 #[.slice a l.length cap, .int .i64 tag] w fun e w' => e = .returned (.tuple #[.int .i64 (numV l tag), .bool (numO l tag)]) ∧ Below w.heap.size w w' := by
  have HF := Lib.hid hfl
  have HI := Lib.hid hfit
  have HL := Lib.hid hl
  have HN := Lib.hid (num_is (l := l) (tag := tag))
  have HSZ : Hid ((getV l tag).size ≤ 9223372036854775807) := Lib.hid (getV_size HI.out)
  clear hfl hfit hl
  cases ho : getO l tag
  · have HV : Hid (numV l tag = 0 ∧ numO l tag = false) := Lib.hid (by
      have e : numO l tag = false := by unfold numO; rw [ho]; rfl
      exact ⟨by unfold numV; rw [e]; rfl, e⟩)
    have HO := Lib.hid ho
    clear ho
    go_enter Tryd.func47, Tryd.ntmps47
    go_wp2_with fail
    refine (get_any a cap l tag _ HF.out hlen).mono ?_
    rw [HO.out]
    rintro e w1 ⟨rfl, hb1⟩
    have HB1 := Lib.hid hb1
    clear hb1
    go_wp2_with fail
    go_ret2
    rw [HV.out.1, HV.out.2]
    exact ⟨rfl, HB1.out⟩
  · have HO := Lib.hid ho
    clear ho
    go_enter Tryd.func47, Tryd.ntmps47
    go_wp2_with fail
    refine (get_any a cap l tag _ HF.out hlen).mono ?_
    rw [HO.out]
    rintro e w1 ⟨rfl, hb1⟩
    have HB1 := Lib.hid hb1
    clear hb1
    go_wp2_with fail
    refine (parse_any0 (getV l tag) HSZ.out _ (HL.out.below HB1.out)).mono ?_
    rintro e w2 ⟨rfl, hb2⟩
    have HB2 := Lib.hid (HB1.out.trans (hb2.mono HB1.out.size))
    clear hb2
    go_wp2_with fail
    go_ret2
    exact ⟨ret_ib HN.out.1.symm (by rw [HN.out.2]; rfl), HB2.out⟩

end Fld
end Go.Proofs.YtddblaiahgjbaaaDoor
