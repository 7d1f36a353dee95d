/-
  The reference's All of layer 8.
-/
import Derived.Test.YtlpkklhagmkmpaaCrcC
import Derived.Test.YtlpkklhagmkmpaaRowS
namespace Go.Proofs.Ytlpkklhagmkmpaa
open Go.RowKit
namespace Crc
open Num

theorem infoSl : (Try.prog.info? 22).map (fun i => (i.zero, i.size, i.bytes)) = some (some (.slice none 0 0), 1, 24) := by kernel_rfl
/-- append of a row of headers: blocks of other types stand -/
theorem wpList_append_hdr {P : Program} {w : World} {ops : Array Oper} {rest : List Oper} {o : Oper} {a : Act} {Q : Exit → Act → World → Prop} (hgd : o.guard = none) (s x : Operand) (t : TypeId)
    (ho : o.op = .call { callee := .builtin .append, args := #[s, x], argTypes := #[t, t] })
    (base : Nat) (e : TypeId) (i : TypeInfo) (z : Value) (ht : P.underlying t = some (.slice e)) (hi : P.info? e = some i) (hz : i.zero = some z)
    (hsize : i.size = 1) (hby : i.bytes = 24) (hzs : z.cells.size = 1)
    (v : Value) (l : List Hdr) (hs : a.eval s = v) (hown : OwnE encS e w base v l)
    (b : Option Addr) (m cap : Nat) (k : List Hdr) (hx : a.eval x = .slice b m cap) (hm : k.length = m) (hb : RowAt encS w b cap k)
    (hlen : (l.length + k.length) * 24 ≤ 140737488355328) (hbase : base ≤ w.heap.size)
    (h : ∀ v' w', OwnE encS e w' base v' (l ++ k) → Below base w w' → Kept e w w' → wpList P ops Q rest (a.put o.dst v') w') : wpList P ops Q (o :: rest) a w := by
  subst hm
  rcases hb with ⟨rfl, rfl, rfl⟩ | ⟨y, rfl, hl, hc⟩
  · refine wpList_append_own_none (base := base) (e := e) (i := i) (size := 1) hgd s x t ho ht hi v l.length (l.flatMap encS.of) hs hown hx ?_
    exact h v w (by rw [List.append_nil]; exact hown) (Below.refl _ _) (Kept.of_below (Below.refl _ _))
  · refine wpList_append_own w hgd s x t ho base e i z 1 24 ht hi hz hsize hby hzs (by decide) v l.length (l.flatMap encS.of) hs hown y k.length cap (k.flatMap encS.of) hx (encS.flat_len k)
      hc (encS.flat_one k) (by unfold maxLen; omega) hlen hbase ?_
    intro v' w' h1 h2 _
    refine h v' w' ?_ ((Below.refl base w).grown h2 hbase fun j hj => (hown.lt j hj).1) (Kept.of_grown hown h2)
    unfold OwnE
    rw [List.length_append, List.flatMap_append]
    exact h1

/-- what All tells: parts of what came in -/
def GotAll (w : World) (a0 : Option Addr) (c0 : Nat) (b : List UInt8) (r : List (List UInt8) × Nat) (e : Ending) (w' : World) : Prop :=
  ∃ la lc ts, e = .returned (.tuple #[.slice la r.1.length lc, .int .i64 r.2]) ∧ RowAt encS w' la lc ts ∧ (∀ W, BytesAt W a0 c0 b → Match W ts r.1) ∧ Below w.heap.size w w'
theorem nextC_nil : nextC [] = ([], 0, 2) := rfl
theorem all_here {B : List UInt8} {ys : List (List UInt8)} {p : Nat} (h : allC B = (ys ++ (allC (B.drop p)).1, p + (allC (B.drop p)).2)) (h2 : (nextC (B.drop p)).2.2 ≠ 0) : allC B = (ys, p) := by
  rw [h, allC_stop h2, List.append_nil]
  rfl
theorem all_on {B r : List UInt8} {ys : List (List UInt8)} {p n : Nat} (h : allC B = (ys ++ (allC (B.drop p)).1, p + (allC (B.drop p)).2)) (h2 : nextC (B.drop p) = (r, n, 0)) :
    allC B = ((ys ++ [r]) ++ (allC (B.drop (p + n))).1, (p + n) + (allC (B.drop (p + n))).2) := by
  rw [h, allC_go h2, List.drop_drop, List.append_assoc, Nat.add_assoc]
  rfl

set_option maxRecDepth 100000 in
set_option maxHeartbeats 4000000 in
theorem rall_any (a : Option Addr) (cap : Nat) (b : List UInt8) (q : Nat) (hq : b.length = q) (w : World) (hby : BytesAt w a cap b) (hlen : q ≤ 1000000) :
    Calls Try.prog 13 #[.slice a q cap] w (GotAll w a cap b (allC b)) := by
  have HF := Lib.hid hby
  have HQ := Lib.hid hq
  have hcap := hby.cap
  rw [hq] at hcap
  clear hby hq
  obtain ⟨j0, hi0, hz0, hz1, hz2⟩ := info_parts infoSl
  have HJ0 := Lib.hid hi0
  have HY0 := Lib.hid hz0
  have HY1 := Lib.hid hz1
  have HY2 := Lib.hid hz2
  clear hi0 hz0 hz1 hz2
  go_enter Try.func13, Try.ntmps13
  go_wp2_with fail
  go_loopw [4, 5] (fun o_ at_ wr => ∃ (p : Nat) (ts : List Hdr) (ys : List (List UInt8)), at_ = .int .i64 p ∧ p ≤ q ∧ ts.length ≤ p ∧ ts.length = ys.length ∧ allC b = (ys ++ (allC (b.drop p)).1, p + (allC (b.drop p)).2) ∧
    OwnE encS 22 wr w.heap.size o_ ts ∧ (∀ W, BytesAt W a cap b → Match W ts ys) ∧ Below w.heap.size w wr) (fun _ at_ _ => q - (intOf at_).toNat)
  case atStart => exact ⟨0, [], [], rfl, Nat.zero_le _, Nat.le_refl _, rfl, by simp, OwnE.nil _ _ _ _, fun _ _ => trivial, Below.refl _ _⟩
  case round =>
    obtain ⟨p, ts, ys, rfl, hpq, htp, hty, hall, hown, hmat, hbel⟩ := hrel
    have HA := Lib.hid hall
    have HO := Lib.hid hown
    have HM := Lib.hid hmat
    have HB := Lib.hid hbel
    have HTY := Lib.hid hty
    clear hall hown hmat hbel hty
    obtain ⟨oa, oc, rfl, _⟩ := HO.out.row
    by_cases hlt : p < q
    · obtain ⟨bb, off, rfl, _⟩ := HF.out.at (by rw [HQ.out]; omega)
      have HDL : Hid ((b.drop p).length = q - p) := Lib.hid (by rw [List.length_drop, HQ.out])
      have HSD : Hid (∀ W, BytesAt W (some ⟨bb, off, none⟩) cap b → BytesAt W (some ⟨bb, off + p, none⟩) (cap - p) (b.drop p)) := Lib.hid fun W hW => by
        have h := hW.drop p (by rw [HQ.out]; omega)
        rwa [add_none] at h
      obtain ⟨r, n, k, hn⟩ : ∃ r n k, nextC (b.drop p) = (r, n, k) := ⟨_, _, _, rfl⟩
      have HN := Lib.hid hn
      have HNX := rnext_any (some ⟨bb, off + p, none⟩) (cap - p) (b.drop p) (q - p) HDL.out
      rw [hn] at HNX
      have HNX := Lib.hid HNX
      clear hn
      by_cases hk : k = 0
      · subst hk
        have HA2 := Lib.hid (all_on HA.out HN.out)
        have ht := nextC_takes (b := b.drop p) (by rw [HN.out])
        rw [HN.out, HDL.out] at ht
        simp only at ht
        go_wp2_with fail
        refine (HNX.out wr (HSD.out _ (HF.out.later HB.out)) (by omega)).mono ?_
        rintro e w7 ⟨a2, c2, rfl, hpart, hbel⟩
        have HB7 := Lib.hid (HB.out.trans (hbel.mono HB.out.size))
        have HO7 := Lib.hid (HO.out.kept hbel)
        have HM7 : Hid (∀ W, BytesAt W (some ⟨bb, off, none⟩) cap b → Match W (ts ++ [(a2, r.length, c2)]) (ys ++ [r])) := Lib.hid fun W hW => (HM.out W hW).append ⟨⟨rfl, hpart W (HSD.out W hW)⟩, trivial⟩
        have HROW : Hid (RowAt encS (w7.alloc (.cells #[.slice a2 r.length c2] 22)) (some ⟨w7.heap.size, 0, none⟩) 1 [(a2, r.length, c2)]) := Lib.hid (one_row encS w7 _ (a2, r.length, c2) _ rfl)
        clear hbel HO HM hpart HA
        go_wp2_with (at_builtin; refine wpList_append_hdr rfl (.tmp 25) (.tmp 27) _ rfl w.heap.size 22 j0 _ Try.underlying33 HJ0.out HY0.out HY1.out HY2.out (by rfl) _ ts rfl (HO7.out.kept ((Below.refl _ _).alloc (Nat.le_refl _) _)) _ _ _ [(a2, r.length, c2)] rfl (by rfl) HROW.out (by simp only [List.length_cons, List.length_nil]; omega) (HB7.out.alloc HB7.out.size _).size ?_; intro v8 w8 hown8 hb8 _
                     have HB8 := Lib.hid ((HB7.out.alloc HB7.out.size _).trans hb8)
                     have HO8 := Lib.hid hown8; clear hb8 hown8)
        go_roundw
        case rel => exact ⟨p + n, ts ++ [(a2, r.length, c2)], ys ++ [r], congrArg (Value.int .i64) (by omega), by omega, by rw [List.length_append]; simp only [List.length_cons, List.length_nil]; omega, by rw [List.length_append, List.length_append, HTY.out]; rfl, HA2.out, HO8.out, HM7.out, HB8.out⟩
        case measure => simp [intOf]; omega
      · have HA2 := Lib.hid (all_here HA.out (by rw [HN.out]; exact hk))
        have dk : (k == 0) = false := beq_eq_false_iff_ne.2 hk
        go_wp2_with fail
        refine (HNX.out wr (HSD.out _ (HF.out.later HB.out)) (by omega)).mono ?_
        rintro e w7 ⟨a2, c2, rfl, hpart, hbel⟩
        have HB7 := Lib.hid (HB.out.trans (hbel.mono HB.out.size))
        have HO7 := Lib.hid (HO.out.kept hbel)
        clear hbel hpart HO
        go_wp2_with fail
        go_ret2
        rw [HA2.out]
        exact ⟨oa, oc, ts, by rw [← HTY.out]; rfl, HO7.out.read, HM.out, HB7.out⟩
    · obtain rfl : p = q := by omega
      have HA2 := Lib.hid (all_here HA.out (by rw [← HQ.out, List.drop_length, nextC_nil]; decide))
      go_wp2_with fail
      go_ret2
      rw [HA2.out]
      exact ⟨oa, oc, ts, by rw [← HTY.out]; rfl, HO.out.read, HM.out, HB.out⟩

end Crc
end Go.Proofs.Ytlpkklhagmkmpaa
