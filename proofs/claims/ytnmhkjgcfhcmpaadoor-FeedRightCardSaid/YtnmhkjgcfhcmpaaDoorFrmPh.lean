/-
  The program's junk and header of layer 3 (as landed in 3f6d5d6e).
-/
import Derived.Test.YtnmhkjgcfhcmpaaDoorPlNext
import Derived.Test.YtnmhkjgcfhcmpaaDoorFrmC
import Derived.Test.YtnmhkjgcfhcmpaaDoorFldT
import Derived.Test.YtnmhkjgcfhcmpaaDoorBy
import Derived.Lib.SlBytesConst
namespace Go.Proofs.YtnmhkjgcfhcmpaaDoor
open Go.RowKit
namespace Frm
open Num

/-- the beginning in a new block -/
theorem pre_new (w : World) (C : Array Value) (fr : Nat × Nat) (hC : C.toList = byteVs pre) : BytesAt (w.alloc (.cells C 5 fr)) (some ⟨w.heap.size, 0, none⟩) 12 pre := bytes_alloc w _ C fr pre hC 12 (Nat.le_refl _)
theorem pre_take (m : Nat) : ((⟨#[56, 61, 70, 73, 88, 46, 52, 46, 52, 1, 57, 61]⟩ : ByteArray).extract 0 m).data.toList = pre.take m := Fld.extract_name

set_option maxRecDepth 100000 in
set_option maxHeartbeats 2000000 in
theorem junk_any (a : Option Addr) (cap : Nat) (b : List UInt8) (w : World) (hby : BytesAt w a cap b) (hlen : b.length ≤ 1000000) (hne : b ≠ []) (hl : Laid w) :
    Calls Tryd.prog 21 #[.slice a b.length cap] w fun e w' => e = .returned (.int .i64 (junkN b)) ∧ Below w.heap.size w w' := by
  have h0 : 0 < b.length := by
    rcases Nat.eq_zero_or_pos b.length with h | h
    · exact absurd (List.length_eq_zero_iff.1 h) hne
    · exact h
  have hcap := hby.cap
  have HF := Lib.hid hby
  have HL := Lib.hid hl
  have HNE := Lib.hid hne
  obtain ⟨bb, off, rfl, _⟩ := hby.at h0
  clear hby hl hne
  have kc := fun (w : World) (C : Array Value) (n c : Nat) => Lib.run_convert_bytes_const (P := Tryd.prog) w 22 5 C n c Tryd.underlying22 Tryd.underlying5
  have HIX : Hid (∀ (a1 : Option Addr) (c1 : Nat) (W : World), (12 ≤ b.length - 1 → ∃ x, a1 = some x ∧ BytesAt W a1 c1 (b.drop 1)) → ∀ (x2 : Addr) (c2 : Nat), BytesAt W (some x2) c2 pre → (∃ m, W.cell? ⟨0, 0, none⟩ = some (.int .i64 m)) →
      Calls Tryd.prog 33 #[.slice a1 (b.length - 1) c1, .slice (some x2) 12 c2] W fun e w' => e = .returned (.int .i64 (Lib.index (b.drop 1) pre)) ∧ Below W.heap.size W w') := Lib.hid (fun a1 c1 W h x2 c2 h2 hm => by
    by_cases h12 : 12 ≤ b.length - 1
    · obtain ⟨x, rfl, hx⟩ := h h12
      exact by_Index x x2 c1 c2 (b.drop 1) pre _ 12 (by rw [List.length_drop]) rfl W hx h2 (by omega) (by decide) hm
    · refine (Tryd.bytes_Index_longer a1 (some x2) (b.length - 1) c1 12 c2 W (by decide) (by omega) (by decide)).mono ?_
      rintro e w' ⟨he, rfl⟩
      refine ⟨?_, Below.refl _ _⟩
      rw [he, Lib.index_none (fun j _ => by
        cases ho : Lib.occAt (b.drop 1) pre j
        · rfl
        · have := occ_room ho
          rw [List.length_drop] at this
          omega)])
  have HX : Hid (∀ (W : World), Below w.heap.size w W → Laid W) := Lib.hid fun W h => HL.out.below h
  have HIW : Hid (∀ (a1 : Option Addr) (c1 n : Nat), n = b.length - 1 → (12 ≤ b.length - 1 → ∃ x, a1 = some x ∧ ∀ W, Below w.heap.size w W → BytesAt W a1 c1 (b.drop 1)) →
      Calls Tryd.prog 33 #[.slice a1 n c1, .slice (some ⟨w.heap.size, 0, none⟩) 12 12] (w.alloc (.cells #[.int .u8 56, .int .u8 61, .int .u8 70, .int .u8 73, .int .u8 88, .int .u8 46, .int .u8 52, .int .u8 46, .int .u8 52, .int .u8 1, .int .u8 57, .int .u8 61] 5 (12, 13))) fun e w' => e = .returned (.int .i64 (Lib.index (b.drop 1) pre)) ∧ Below w.heap.size w w') := Lib.hid (fun a1 c1 n hn h => by
    subst hn
    have hal : Below w.heap.size w (w.alloc (.cells #[.int .u8 56, .int .u8 61, .int .u8 70, .int .u8 73, .int .u8 88, .int .u8 46, .int .u8 52, .int .u8 46, .int .u8 52, .int .u8 1, .int .u8 57, .int .u8 61] 5 (12, 13))) := (Below.refl _ _).alloc (Nat.le_refl _) _
    refine (HIX.out a1 c1 _ (fun h12 => (h h12).imp fun x hx => ⟨hx.1, hx.2 _ hal⟩) ⟨w.heap.size, 0, none⟩ 12 (pre_new w _ (12, 13) (by rfl)) (HX.out _ hal).max).mono ?_
    rintro e w' ⟨he, hb⟩
    exact ⟨he, hal.trans (hb.mono hal.size)⟩)
  clear HIX
  by_cases hc1 : cap = 1
  · subst hc1
    have hb1 : b.length = 1 := by omega
    have HJ : Hid (junkN b = 1) := Lib.hid (by
      have hi : Lib.index (b.drop 1) pre < 0 := by rw [List.drop_eq_nil_of_le (by omega)]; decide
      rw [junk_none hi (noend_start b) (by omega) (by omega) HNE.out (.inl (by omega)), hb1]; rfl)
    have HIN : Hid (Lib.index (b.drop 1) pre = -1) := Lib.hid (by rw [List.drop_eq_nil_of_le (by omega)]; rfl)
    go_enter Tryd.func21, Tryd.ntmps21
    go_wp2_with fail
    refine (HIW.out _ _ _ (by omega) (fun h => absurd h (by omega))).mono ?_
    rw [HIN.out]
    rintro e w1 ⟨rfl, hb1⟩
    have HB1 := Lib.hid hb1
    clear hb1
    go_wp2_with fail
    go_loopw [4] (fun m_ wr => m_ = .int .i64 0 ∧ Below w.heap.size w wr) (fun _ _ => 0)
    case atStart => exact ⟨congrArg (Value.int .i64) (by omega), HB1.out⟩
    case round =>
      obtain ⟨rfl, hbel⟩ := hrel
      have HBR := Lib.hid hbel
      clear hbel
      go_wp2_with fail
      go_ret
      exact ⟨ret_i (by rw [HJ.out]; omega), HBR.out⟩
  · go_enter Tryd.func21, Tryd.ntmps21
    go_wp2_with fail
    refine (HIW.out _ _ _ rfl (fun h => ⟨_, rfl, fun W hW => by have := (HF.out.later hW).drop 1 (by omega); rwa [add_none] at this⟩)).mono ?_
    obtain ⟨ix, hix⟩ : ∃ ix, Lib.index (b.drop 1) pre = ix := ⟨_, rfl⟩
    rw [hix]
    rintro e w1 ⟨rfl, hb1⟩
    have HB1 := Lib.hid hb1
    clear hb1
    cases di : decide (0 ≤ ix)
    · have hneg : ix < 0 := by have := of_decide_eq_false di; omega
      have HMISS : Hid (∀ m, NoEnd b m → m ≤ 11 → m ≤ b.length - 1 → (m = 0 ∨ (pre.take m).isSuffixOf b = true) → junkN b = b.length - m) := Lib.hid (fun m h h1 h2 h3 => junk_none (by rw [hix]; exact hneg) h h1 h2 HNE.out h3)
      have HSTEP : Hid (∀ m, NoEnd b m → 0 < m → (pre.take m).isSuffixOf b = false → NoEnd b (m - 1)) := Lib.hid (fun m h h1 h2 => noend_step h h1 h2)
      clear hix
      go_wp2_with fail
      go_loopw [4] (fun m_ wr => ∃ m : Nat, m_ = .int .i64 m ∧ m ≤ 11 ∧ m ≤ b.length - 1 ∧ NoEnd b m ∧ Below w.heap.size w wr) (fun m_ _ => (intOf m_).toNat)
      case atStart => exact ⟨min 11 (b.length - 1), congrArg (Value.int .i64) (by omega), by omega, by omega, noend_start b, HB1.out⟩
      case round =>
        obtain ⟨m, rfl, hm11, hmb, hno, hbel⟩ := hrel
        have HNO := Lib.hid hno
        have HBR := Lib.hid hbel
        clear hno hbel
        by_cases hm0 : 0 < m
        · have HTL : Hid ((pre.take m).length = m) := Lib.hid (by rw [List.length_take]; show min m 12 = m; omega)
          have HPT := Lib.hid (pre_take m)
          go_wp2_with (with_reducible refine wpList_bytes_of rfl 9 22 5 (.tmp 24) rfl _ Tryd.underlying9 Tryd.underlying22 Tryd.underlying5 rfl ?_; intro ad cp w2 hby2 hb2
                       obtain ⟨S, hS⟩ : ∃ S, (⟨#[56, 61, 70, 73, 88, 46, 52, 46, 52, 1, 57, 61]⟩ : ByteArray).extract 0 m = S := ⟨_, rfl⟩
                       rw [hS] at hby2 ⊢
                       have HPS := HPT.out
                       rw [hS] at HPS
                       have HSS := Lib.hid HPS
                       have HB2 := Lib.hid (HBR.out.trans (hb2.mono HBR.out.size))
                       have HY2 := Lib.hid hby2
                       clear hby2 hb2 HPS hS)
          have hsl : S.data.toList.length = m := by rw [HSS.out]; exact HTL.out
          have hss : S.size = m := hsl
          obtain ⟨b2, o2, rfl, _⟩ := HY2.out.at (by omega)
          have HSF := Lib.hid (fun W h1 h2 => by_HasSuffix bb off cap b2 o2 cp b S.data.toList b.length S.size rfl rfl W h1 h2 (by omega))
          rw [HSS.out] at HSF
          cases hsuf : (pre.take m).isSuffixOf b
          · rw [hsuf] at HSF
            have HN := Lib.hid (HSTEP.out m HNO.out hm0 hsuf)
            clear hsuf
            refine (HSF.out _ (HF.out.later HB2.out) (HSS.out ▸ HY2.out)).mono ?_
            rintro e w3 ⟨rfl, rfl⟩
            go_wp2_with fail
            go_roundw
            case rel => exact ⟨m - 1, congrArg (Value.int .i64) (by omega), by omega, by omega, HN.out, HB2.out⟩
            case measure => simp [intOf]; omega
          · rw [hsuf] at HSF
            have HJ := Lib.hid (HMISS.out m HNO.out hm11 hmb (.inr hsuf))
            clear hsuf
            refine (HSF.out _ (HF.out.later HB2.out) (HSS.out ▸ HY2.out)).mono ?_
            rintro e w3 ⟨rfl, rfl⟩
            go_wp2_with fail
            go_ret
            exact ⟨ret_i (by rw [HJ.out]; omega), HB2.out⟩
        · have HJ := Lib.hid (HMISS.out m HNO.out hm11 hmb (.inl (by omega)))
          go_wp2_with fail
          go_ret
          exact ⟨ret_i (by rw [HJ.out]; omega), HBR.out⟩
    · have hpos : 0 ≤ ix := of_decide_eq_true di
      have HJ : Hid ((junkN b : Int) = 1 + ix) := Lib.hid (by
        have e : Lib.index (b.drop 1) pre = (ix.toNat : Int) := by rw [hix]; omega
        rw [junk_index e]; omega)
      have hlt : ix ≤ 1000000 := by
        have e : Lib.index (b.drop 1) pre = (ix.toNat : Int) := by rw [hix]; omega
        have := junk_index e
        have := junk_le HNE.out
        omega
      clear hix
      go_wp2_with fail
      go_ret
      exact ⟨ret_i HJ.out.symm, HB1.out⟩

end Frm
end Go.Proofs.YtnmhkjgcfhcmpaaDoor
