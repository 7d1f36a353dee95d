/-
  The contract of the reference's Put (layer 2).
-/
import Derived.Test.YtddblaiahgjbaaaGreatDoorFldA
import Derived.Test.YtddblaiahgjbaaaGreatDoorMem
import Derived.Test.YtddblaiahgjbaaaGreatDoorRefD
namespace Go.Proofs.YtddblaiahgjbaaaGreatDoor
open Go.RowKit
namespace Fld
open Num (showL showS)

theorem infoU8 : (Tryz.prog.info? 5).map (fun i => (i.zero, i.size, i.bytes)) = some (some (.int .u8 0), 1, 1) := by kernel_rfl

/-- what may be asked of fields that come in: tags are ints, values are strings -/
def Fits (l : List F) : Prop := ∀ f ∈ l, -9223372036854775808 ≤ f.tag ∧ f.tag ≤ 9223372036854775807 ∧ f.val.size ≤ 9223372036854775807

theorem putE_long {l : List F} (h : 100 < l.length) : putE l = 4 ∧ putB l = [] := by
  have e : putE l = 4 := by unfold putE; rw [if_pos h]
  exact ⟨e, by unfold putB; rw [e]; rfl⟩
theorem putE_bad {l : List F} {k : Nat} (h : ¬ 100 < l.length) (hk : k < l.length) (hr : rightF l[k] = false) : putE l = 1 ∧ putB l = [] := by
  have ha : l.all rightF = false := by rw [List.all_eq_false]; exact ⟨_, List.getElem_mem hk, by simp [hr]⟩
  have e : putE l = 1 := by unfold putE; rw [if_neg h, ha]; rfl
  exact ⟨e, by unfold putB; rw [e]; rfl⟩
theorem putE_good {l : List F} (h : ¬ 100 < l.length) (ha : l.all rightF = true) : putE l = 0 ∧ putB l = bytesL l := by
  have e : putE l = 0 := by unfold putE; rw [if_neg h, ha]; rfl
  exact ⟨e, by unfold putB; rw [e]; rfl⟩
theorem bytesL_succ {l : List F} {k : Nat} (hk : k < l.length) : bytesL (l.take (k + 1)) = bytesL (l.take k) ++ showL l[k].tag ++ [61] ++ l[k].val.data.toList ++ [1] := by
  rw [List.take_succ_eq_append_getElem hk]
  unfold bytesL
  rw [List.flatMap_append]
  simp [bytesF]
theorem all_succ {l : List F} {k : Nat} (hk : k < l.length) (ha : (l.take k).all rightF = true) (hr : rightF l[k] = true) : (l.take (k + 1)).all rightF = true := by
  rw [List.take_succ_eq_append_getElem hk, List.all_append, ha]
  simp [hr]

theorem len_take {l : List F} {k : Nat} (h : (l.take k).all rightF = true) (hk : k ≤ 100) : (bytesL (l.take k)).length ≤ 26200 := by
  have h1 := len_bytesL h
  rw [List.length_take] at h1
  have : 262 * min k l.length ≤ 262 * 100 := Nat.mul_le_mul_left _ (by omega)
  omega

set_option maxRecDepth 100000 in
set_option maxHeartbeats 1000000 in
theorem rput_any (a : Option Addr) (cap : Nat) (l : List F) (w : World) (hfl : Flds w a l) (hfit : Fits l) (hlen : l.length ≤ 9223372036854775807) :
    Calls Tryz.prog 20 #[.slice a l.length cap] w (RetBytes 5 w (putB l) (putE l)) := by
  have HF := Lib.hid hfl
  have HI := Lib.hid hfit
  clear hfl hfit
  by_cases hbig : 100 < l.length
  · have HP := Lib.hid (putE_long hbig)
    go_enter Tryz.func20, Tryz.ntmps20
    go_wp2_with fail
    go_ret2
    exact ⟨⟨.slice none 0 0, ret_vi HP.out.1.symm, by rw [HP.out.2]; exact Own.nil _ _ _⟩, Below.refl _ _⟩
  · obtain ⟨i0, hi0, hz0, hz1, hz2⟩ := info_parts infoU8
    have HI0 := Lib.hid hi0
    have HZ0 := Lib.hid hz0
    have HZ1 := Lib.hid hz1
    have HZ2 := Lib.hid hz2
    clear hi0 hz0 hz1 hz2
    go_enter Tryz.func20, Tryz.ntmps20
    go_wp2_with fail
    go_loopw [4, 5] (fun v i wr => ∃ k : Nat, k ≤ l.length ∧ i = .int .i64 k ∧ (l.take k).all rightF = true ∧ Own 5 wr w.heap.size v (bytesL (l.take k)) ∧ Below w.heap.size w wr) (fun _ i _ => l.length - (intOf i).toNat)
    case atStart => exact ⟨0, Nat.zero_le _, rfl, by simp, by simpa [bytesL] using Own.nil _ _ _, Below.refl _ _⟩
    case round =>
      obtain ⟨k, hk, rfl, hall, hown, hbel⟩ := hrel
      have HA := Lib.hid hall
      have HO := Lib.hid hown
      have HB := Lib.hid hbel
      clear hall hown hbel
      by_cases hlt : k < l.length
      · obtain ⟨b, off, rfl, hc⟩ := HF.out.at (by omega)
        obtain ⟨⟨t, u⟩, hf⟩ : ∃ f, l[k] = f := ⟨_, rfl⟩
        have HC : Hid (∀ wr, Below w.heap.size w wr → wr.cell? ⟨b, off + k * 2, none⟩ = some (.int .i64 t) ∧ wr.cell? ⟨b, off + k * 2 + 1, none⟩ = some (.string u)) := Lib.hid fun wr hb => by
          obtain ⟨b', off', e, hc'⟩ := (HF.out.later hb).at (show 0 < l.length by omega)
          injection e with e; injection e with e1 e2; subst e1 e2
          exact hc' k ⟨t, u⟩ (by rw [List.getElem?_eq_getElem hlt, hf])
        have ⟨t1, t2, u1⟩ := HI.out ⟨t, u⟩ (by rw [← hf]; exact List.getElem_mem hlt)
        clear hc
        have ⟨c0, c1⟩ := HC.out _ HB.out
        have HFK := Lib.hid hf
        clear hf
        go_wp2_with fail
        have HLEN := Lib.hid (len_take HA.out (by omega : k ≤ 100))
        cases hr : rightF ⟨t, u⟩
        · have HP := Lib.hid (putE_bad hbig hlt (by rw [HFK.out]; exact hr))
          refine (rright_is t u _ hr _ u1).mono ?_
          rintro e w1 ⟨rfl, hb1⟩
          have HB1 := Lib.hid (HB.out.trans (hb1.mono HB.out.size))
          clear hb1
          go_wp2_with fail
          go_ret2
          exact ⟨⟨.slice none 0 0, ret_vi HP.out.1.symm, by rw [HP.out.2]; exact Own.nil _ _ _⟩, HB1.out⟩
        · have ⟨g1, g2, _, g4, _⟩ := (right_iff _).1 hr
          have HR := Lib.hid hr
          clear hr
          refine (rright_is t u _ HR.out _ u1).mono ?_
          rintro e w1 ⟨rfl, hb1⟩
          have HB1 := Lib.hid (HB.out.trans (hb1.mono HB.out.size))
          have HO1 := Lib.hid (HO.out.kept hb1)
          clear hb1
          have ⟨c2, c3⟩ := HC.out _ HB1.out
          go_wp2_with fail
          have HUL : Hid (u.data.toList.length ≤ 256) := Lib.hid g4
          have HSL : Hid ((showS t).data.toList.length ≤ 4) := Lib.hid (by have ⟨_, _, h3, _⟩ := tag_show g1 g2; exact h3)
          refine (Num.rshow_any t _).mono ?_
          rintro e w' ⟨rfl, rfl⟩
          go_wp2_with (first
            | (with_reducible refine wpList_bytes_of rfl 9 28 5 (.tmp 27) rfl _ Tryz.underlying9 Tryz.underlying28 Tryz.underlying5 rfl ?_; intro ad1 cap1 w2 hby1 hb2)
            | (at_builtin; refine wpList_append_bytes rfl (.tmp 21) (.tmp 28) _ rfl w.heap.size 5 i0 _ Tryz.underlying28 HI0.out HZ0.out HZ1.out HZ2.out rfl _ _ rfl (HO1.out.kept hb2) _ _ _ _ rfl (by rfl) hby1 (by have := HLEN.out; have := HSL.out; omega) (Nat.le_trans HB1.out.size hb2.size) ?_; intro v1 w3 hown1 hb3
               have HB3 := Lib.hid ((HB1.out.trans (hb2.mono HB1.out.size)).trans hb3); clear hby1 hb2 hb3)
            | (at_builtin; refine wpList_append_bytes rfl (.tmp 30) (.tmp 31) _ rfl w.heap.size 5 i0 _ Tryz.underlying28 HI0.out HZ0.out HZ1.out HZ2.out rfl _ _ rfl (hown1.kept ((Below.refl _ _).alloc (Nat.le_refl _) _)) _ _ _ [61] rfl (by rfl) (one_byte _ _ 61 _ rfl) (by rw [List.length_append]; have := HLEN.out; have := HSL.out; simp only [List.length_cons, List.length_nil]; omega) (HB3.out.alloc HB3.out.size _).size ?_; intro v2 w5 hown2 hb4
               have HB5 := Lib.hid ((HB3.out.alloc HB3.out.size _).trans hb4); clear hown1 hb4; have ⟨c4, c5⟩ := HC.out _ HB5.out)
            | (with_reducible refine wpList_bytes_of rfl 9 28 5 (.tmp 38) rfl _ Tryz.underlying9 Tryz.underlying28 Tryz.underlying5 rfl ?_; intro ad3 cap3 w6 hby3 hb6)
            | (at_builtin; refine wpList_append_bytes rfl (.tmp 33) (.tmp 39) _ rfl w.heap.size 5 i0 _ Tryz.underlying28 HI0.out HZ0.out HZ1.out HZ2.out rfl _ _ rfl (hown2.kept hb6) _ _ _ _ rfl (by rfl) hby3 (by rw [List.length_append, List.length_append]; have := HLEN.out; have := HSL.out; have := HUL.out; simp only [List.length_cons, List.length_nil]; omega) (Nat.le_trans HB5.out.size hb6.size) ?_; intro v3 w7 hown3 hb7
               have HB7 := Lib.hid ((HB5.out.trans (hb6.mono HB5.out.size)).trans hb7); clear hby3 hb6 hb7 hown2)
            | (at_builtin; refine wpList_append_bytes rfl (.tmp 41) (.tmp 42) _ rfl w.heap.size 5 i0 _ Tryz.underlying28 HI0.out HZ0.out HZ1.out HZ2.out rfl _ _ rfl (hown3.kept ((Below.refl _ _).alloc (Nat.le_refl _) _)) _ _ _ [1] rfl (by rfl) (one_byte _ _ 1 _ rfl) (by rw [List.length_append, List.length_append, List.length_append]; have := HLEN.out; have := HSL.out; have := HUL.out; simp only [List.length_cons, List.length_nil]; omega) (HB7.out.alloc HB7.out.size _).size ?_; intro v4 w9 hown4 hb8
               have HB9 := Lib.hid ((HB7.out.alloc HB7.out.size _).trans hb8); clear hb8 hown3; have HO9 := Lib.hid hown4; clear hown4))
          go_roundw
          case rel =>
            refine ⟨k + 1, by omega, by go_num, all_succ hlt HA.out (by rw [HFK.out]; exact HR.out), ?_, HB9.out⟩
            rw [bytesL_succ hlt, HFK.out]
            exact HO9.out
          case measure => simp [intOf]; omega
      · obtain rfl : k = l.length := by omega
        have HP := Lib.hid (putE_good hbig (by have h := HA.out; rwa [List.take_length] at h))
        rw [List.take_length] at HO
        go_wp2_with fail
        go_ret2
        exact ⟨⟨_, ret_vi HP.out.1.symm, by rw [HP.out.2]; exact HO.out⟩, HB.out⟩

end Fld
end Go.Proofs.YtddblaiahgjbaaaGreatDoor
