/-
  The contracts of the reference's In and Same (layer 4).
-/
import Derived.Test.YtnmhkjgcfhcmpaaDoorFrmD
import Derived.Test.YtnmhkjgcfhcmpaaDoorPlFeed
import Derived.Test.YtnmhkjgcfhcmpaaDoorRowS
namespace Go.Proofs.YtnmhkjgcfhcmpaaDoor
open Go.RowKit
namespace Frm
open Num

theorem four_tmps {fn : Func} {t u v x : Tmp} (h : fn.results = #[.tmp t, .tmp u, .tmp v, .tmp x]) (tmps : Array Value) (P : Program) (w : World) :
    (results fn tmps).run P w = .ok (.tuple #[tmps.getD t undef, tmps.getD u undef, tmps.getD v undef, tmps.getD x undef]) w := by
  simp [results, h]

theorem infoSl : (Tryd.prog.info? 22).map (fun i => (i.zero, i.size, i.bytes)) = some (some (.slice none 0 0), 1, 24) := by kernel_rfl

/-- all headers are safe -/
def SafeAll (b : Nat) (w : World) (ts : List Hdr) : Prop := ∀ t ∈ ts, Safe 5 b w t.1
theorem SafeAll.nil (b : Nat) (w : World) : SafeAll b w [] := fun _ ht => nomatch ht
theorem SafeAll.mono {b b' : Nat} {w : World} {ts : List Hdr} (h : SafeAll b w ts) (hb : b ≤ b') : SafeAll b' w ts := fun t ht => (h t ht).mono hb
theorem SafeAll.later {b : Nat} {w w' : World} {ts : List Hdr} (h : SafeAll b w ts) (hb : Below w.heap.size w w') : SafeAll b w' ts := fun t ht => (h t ht).later hb
theorem SafeAll.kept {b : Nat} {e : TypeId} {w w' : World} {ts : List Hdr} (h : SafeAll b w ts) (hk : Kept e w w') (hn : 5 ≠ e) : SafeAll b w' ts := fun t ht => (h t ht).kept hk hn
theorem SafeAll.append {b : Nat} {w : World} {ts us : List Hdr} (h : SafeAll b w ts) (k : SafeAll b w us) : SafeAll b w (ts ++ us) := fun t ht => (List.mem_append.1 ht).elim (h t) (k t)
theorem Match.safe {e : TypeId} {b : Nat} {w w' : World} (hb : Below b w w') (hk : Kept e w w') (hn : 5 ≠ e) : ∀ {ts : List Hdr} {ys : List (List UInt8)}, Match w ts ys → SafeAll b w ts → Match w' ts ys
  | [], [], _, _ => trivial
  | t :: _, _ :: _, h, hs => ⟨⟨h.1.1, h.1.2.safe (hs t (by simp)) hb hk hn⟩, Match.safe hb hk hn h.2 fun u hu => hs u (by simp [hu])⟩
  | [], _ :: _, h, _ => h.elim
  | _ :: _, [], h, _ => h.elim

/-- what In comes to, and its error -/
def inY (kept piece : List UInt8) : Fed := if 16384 ≤ kept.length ∨ 65536 < piece.length then ([], 0, kept) else feedY (kept ++ piece)
def inE (kept piece : List UInt8) : Int := if 16384 ≤ kept.length ∨ 65536 < piece.length then 4 else 0
/-- what In tells: what is kept, the bodies, the junk, the error -/
def GotFed (w : World) (a0 a1 : Option Addr) (r : Fed) (n : Int) (e : Ending) (w' : World) : Prop :=
  ∃ a cap la lc ts, e = .returned (.tuple #[.slice a r.2.2.length cap, .slice la r.1.length lc, .int .i64 r.2.1, .int .i64 n]) ∧ BytesAt w' a cap r.2.2 ∧ RowAt encS w' la lc ts ∧ Match w' ts r.1 ∧
    (∀ b, b ≤ w.heap.size → Safe 5 b w a0 → Safe 5 b w a1 → SafeAll b w' ts ∧ Safe 5 b w' a) ∧ Below w.heap.size w w'

/-- append of a row of headers: blocks of other types stand -/
theorem wpList_append_hdr {P : Program} {w : World} {ops : Array Oper} {rest : List Oper} {o : Oper} {a : Act} {Q : Exit → Act → World → Prop} (hgd : o.guard = none) (s x : Operand) (t : TypeId)
    (ho : o.op = .call { callee := .builtin .append, args := #[s, x], argTypes := #[t, t] })
    (base : Nat) (e : TypeId) (i : TypeInfo) (z : Value) (ht : P.underlying t = some (.slice e)) (hi : P.info? e = some i) (hz : i.zero = some z)
    (hsize : i.size = 1) (hby : i.bytes = 24) (hzs : z.cells.size = 1)
    (v : Value) (l : List Hdr) (hs : a.eval s = v) (hown : OwnE encS e w base v l)
    (b : Option Addr) (m cap : Nat) (k : List Hdr) (hx : a.eval x = .slice b m cap) (hm : k.length = m) (hb : RowAt encS w b cap k)
    (hlen : (l.length + k.length) * 24 ≤ 140737488355328) (hbase : base ≤ w.heap.size)
    (h : ∀ v' w', OwnE encS e w' base v' (l ++ k) → Below base w w' → Kept e w w' → wpList P ops Q rest (a.put o.dst v') w') : wpList P ops Q (o :: rest) a w := by
  subst hm
  rcases hb with ⟨rfl, rfl, rfl⟩ | ⟨y, rfl, hl, hc⟩
  · refine wpList_append_own_none (base := base) (e := e) (i := i) (size := 1) hgd s x t ho ht hi v l.length (l.flatMap encS.of) hs hown hx ?_
    exact h v w (by rw [List.append_nil]; exact hown) (Below.refl _ _) (Kept.of_below (Below.refl _ _))
  · refine wpList_append_own w hgd s x t ho base e i z 1 24 ht hi hz hsize hby hzs (by decide) v l.length (l.flatMap encS.of) hs hown y k.length cap (k.flatMap encS.of) hx (encS.flat_len k)
      hc (encS.flat_one k) (by unfold maxLen; omega) hlen hbase ?_
    intro v' w' h1 h2 _
    refine h v' w' ?_ ((Below.refl base w).grown h2 hbase fun j hj => (hown.lt j hj).1) (Kept.of_grown hown h2)
    unfold OwnE
    rw [List.length_append, List.flatMap_append]
    exact h1

theorem join_y (o : List (List UInt8)) (j : Nat) (y : List UInt8) (n : Nat) (r : Fed) : joinF o j (stepF 1 y n r) = joinF (o ++ [y]) j r := by rw [join_step, if_pos rfl]
theorem join_n (o : List (List UInt8)) (j : Nat) (k : Int) (hk : k ≠ 1) (y : List UInt8) (n : Nat) (r : Fed) : joinF o j (stepF k y n r) = joinF o (j + n) r := by rw [join_step, if_neg hk]

theorem rnext_is (a : Option Addr) (cap : Nat) (b : List UInt8) (n : Nat) (hn : b.length = n) (w : World) (hby : BytesAt w a cap b) (hlen : n ≤ 4611686018427387904) (r : Int × List UInt8 × Nat) (hr : nextY b = r) :
    Calls Tryd.prog 15 #[.slice a n cap] w (GotNext w a r) := by
  subst hn hr
  exact rnext_any a cap b w hby hlen

set_option maxRecDepth 100000 in
set_option maxHeartbeats 2000000 in
theorem rin_big (a0 : Option Addr) (cap0 : Nat) (kept : List UInt8) (a1 : Option Addr) (cap1 : Nat) (piece : List UInt8) (w : World) (h0 : BytesAt w a0 cap0 kept) (h1 : BytesAt w a1 cap1 piece)
    (hl0 : kept.length ≤ 1000000) (hl1 : piece.length ≤ 1000000) (hbig : 16384 ≤ kept.length ∨ 65536 < piece.length) :
    Calls Tryd.prog 9 #[.slice a0 kept.length cap0, .slice a1 piece.length cap1] w (GotFed w a0 a1 (inY kept piece) (inE kept piece)) := by
  have HK := Lib.hid h0
  have HP := Lib.hid h1
  clear h0 h1
  have HI : Hid (inY kept piece = ([], 0, kept) ∧ inE kept piece = 4) := Lib.hid ⟨by unfold inY; rw [if_pos hbig], by unfold inE; rw [if_pos hbig]⟩
  by_cases hb1 : 16384 ≤ kept.length
  · clear hbig
    go_enter Tryd.func9, Tryd.ntmps9
    go_wp2_with fail
    refine bodyPost_ret (four_tmps rfl _ _ _) rfl ?_
    rw [HI.out.1, HI.out.2]
    exact ⟨a0, cap0, none, 0, [], rfl, HK.out, .inl ⟨rfl, rfl, rfl⟩, trivial, fun b _ s0 _ => ⟨SafeAll.nil b w, s0⟩, Below.refl _ _⟩
  · have hb2 : 65536 < piece.length := by omega
    clear hbig
    go_enter Tryd.func9, Tryd.ntmps9
    go_wp2_with fail
    refine bodyPost_ret (four_tmps rfl _ _ _) rfl ?_
    rw [HI.out.1, HI.out.2]
    exact ⟨a0, cap0, none, 0, [], rfl, HK.out, .inl ⟨rfl, rfl, rfl⟩, trivial, fun b _ s0 _ => ⟨SafeAll.nil b w, s0⟩, Below.refl _ _⟩

set_option maxRecDepth 100000 in
set_option maxHeartbeats 2000000 in
theorem rin_any (a0 : Option Addr) (cap0 : Nat) (kept : List UInt8) (a1 : Option Addr) (cap1 : Nat) (piece : List UInt8) (w : World) (h0 : BytesAt w a0 cap0 kept) (h1 : BytesAt w a1 cap1 piece)
    (hl0 : kept.length ≤ 1000000) (hl1 : piece.length ≤ 1000000) :
    Calls Tryd.prog 9 #[.slice a0 kept.length cap0, .slice a1 piece.length cap1] w (GotFed w a0 a1 (inY kept piece) (inE kept piece)) := by
  have HK := Lib.hid h0
  have HP := Lib.hid h1
  clear h0 h1
  by_cases hbig : 16384 ≤ kept.length ∨ 65536 < piece.length
  · exact rin_big a0 cap0 kept a1 cap1 piece w HK.out HP.out hl0 hl1 hbig
  · have hk : kept.length < 16384 := by omega
    have hp : piece.length ≤ 65536 := by omega
    have HI : Hid (inY kept piece = feedY (kept ++ piece) ∧ inE kept piece = 0) := Lib.hid ⟨by unfold inY; rw [if_neg hbig], by unfold inE; rw [if_neg hbig]⟩
    have hk2 : ¬ 16384 ≤ kept.length := by omega
    clear hbig
    obtain ⟨i0, hi0, hz0, hz1, hz2⟩ := info_parts infoB
    have HI0 := Lib.hid hi0
    have HZ0 := Lib.hid hz0
    have HZ1 := Lib.hid hz1
    have HZ2 := Lib.hid hz2
    clear hi0 hz0 hz1 hz2
    obtain ⟨j0, hi0, hz0, hz1, hz2⟩ := info_parts infoSl
    have HJ0 := Lib.hid hi0
    have HY0 := Lib.hid hz0
    have HY1 := Lib.hid hz1
    have HY2 := Lib.hid hz2
    clear hi0 hz0 hz1 hz2
    go_enter Tryd.func9, Tryd.ntmps9
    go_wp2_with (first
      | (at_builtin; refine wpList_append_g rfl (.tmp 24) (.tmp 25) _ rfl w.heap.size 5 i0 _ Tryd.underlying22 HI0.out HZ0.out HZ1.out HZ2.out rfl _ [] rfl (Own.g (own_empty w _ _ (Nat.le_refl _))) _ _ _ kept rfl (by rfl) (HK.out.later ((Below.refl _ _).alloc (Nat.le_refl _) _)) (by simp only [List.length_nil]; omega) (by simp) ?_; intro v3 w3 hown3 hb3 _
         rw [List.nil_append] at hown3
         have HB3 := Lib.hid (((Below.refl _ _).alloc (Nat.le_refl _) _).trans hb3); clear hb3)
      | (at_builtin; refine wpList_append_g rfl (.tmp 26) (.tmp 27) _ rfl w.heap.size 5 i0 _ Tryd.underlying22 HI0.out HZ0.out HZ1.out HZ2.out rfl _ _ rfl hown3 _ _ _ piece rfl (by rfl) (HP.out.later HB3.out) (by omega) HB3.out.size ?_; intro v4 w4 hown4 hb4 _
         have HB4 := Lib.hid (HB3.out.trans hb4); have HO4 := Lib.hid hown4; clear hb4 hown3 hown4; obtain ⟨sa, sc, rfl, hsb⟩ := HO4.out.bytes; have HSB := Lib.hid hsb; clear hsb))
    obtain ⟨B, hB⟩ : ∃ B, kept ++ piece = B := ⟨_, rfl⟩
    obtain ⟨q, hq⟩ : ∃ q, kept.length + piece.length = q := ⟨_, rfl⟩
    have HBL : Hid (B.length = q) := Lib.hid (by rw [← hB, List.length_append, hq])
    have hq6 : q ≤ 90000 := by omega
    rw [hB] at HO4 HSB HI
    rw [HBL.out] at HO4
    rw [hq]
    clear hB hq
    go_loopw [9, 10, 11] (fun o_ j_ at_ wr => ∃ (p j : Nat) (ts : List Hdr) (ys : List (List UInt8)), at_ = .int .i64 p ∧ j_ = .int .i64 j ∧ p ≤ q ∧ j ≤ p ∧ ts.length ≤ p ∧ feedY B = joinF ys j (feedY (B.drop p)) ∧
      OwnE encS 22 wr w4.heap.size o_ ts ∧ Match wr ts ys ∧ SafeAll 0 wr ts ∧ Below w4.heap.size w4 wr) (fun _ _ at_ _ => q - (intOf at_).toNat)
    case atStart => exact ⟨0, 0, [], [], rfl, rfl, Nat.zero_le _, Nat.le_refl _, Nat.le_refl _, (join_nil _).symm, OwnE.nil _ _ _ _, trivial, SafeAll.nil _ _, Below.refl _ _⟩
    case round =>
      obtain ⟨p, j, ts, ys, rfl, rfl, hpq, hjp, htp, hfd, hown, hmat, hsafe, hbel⟩ := hrel
      have HFD := Lib.hid hfd
      have HO := Lib.hid hown
      have HM := Lib.hid hmat
      have HS := Lib.hid hsafe
      have HB := Lib.hid hbel
      clear hfd hown hmat hsafe hbel
      have HW := Lib.hid (HB4.out.trans (HB.out.mono HB4.out.size))
      obtain ⟨oa, oc, rfl, _⟩ := HO.out.row
      by_cases hlt : p < q
      · obtain ⟨g, rfl, hbg, hgl⟩ := HO4.out.block (by rw [HBL.out]; omega)
        have hqsc : q ≤ sc := by have := HSB.out.cap; rw [HBL.out] at this; exact this
        have HTY : Hid (Safe 5 0 w4 (some ⟨g, p, none⟩)) := Lib.hid (by
          rcases HO4.out with ⟨hv, _⟩ | ⟨g', cap', cur, fz, hv, _, hg, _⟩
          · cases hv
          · injection hv with hv
            injection hv with hv
            injection hv with hv
            subst hv
            exact fun x hx => by obtain rfl := Option.some.inj hx; exact .inr ⟨cur, fz, hg⟩)
        have HDL : Hid ((B.drop p).length = q - p) := Lib.hid (by rw [List.length_drop, HBL.out])
        have HSD : Hid (∀ W, Below w4.heap.size w4 W → BytesAt W (some ⟨g, p, none⟩) (sc - p) (B.drop p)) := Lib.hid fun W hW => by
          have h := (HSB.out.later hW).drop p (by rw [HBL.out]; omega)
          rwa [add_none, Nat.zero_add] at h
        obtain ⟨k, y, n, hn⟩ : ∃ k y n, nextY (B.drop p) = (k, y, n) := ⟨_, _, _, rfl⟩
        have hgo := next_goes (B.drop p)
        rw [hn, HDL.out] at hgo
        obtain ⟨hg1, hg2, hg3, _⟩ := hgo
        simp only at hg1 hg2 hg3
        have HN := Lib.hid hn
        clear hn
        by_cases hk0 : k = 0
        · subst hk0
          obtain rfl : n = 0 := hg2.2 rfl
          obtain rfl : y = [] := hg3 (by decide)
          have HF : Hid (feedY B = (ys, j, B.drop p)) := Lib.hid (by rw [HFD.out, feed_need (by rw [HN.out])]; unfold joinF; simp)
          clear hg2 hg3
          go_wp2_with fail
          refine (rnext_is _ _ (B.drop p) _ HDL.out _ (HSD.out _ HB.out) (by omega) _ HN.out).mono ?_
          rintro e w7 ⟨a2, c2, rfl, _, _, hbel⟩
          have HB7 := Lib.hid (HB.out.trans (hbel.mono HB.out.size))
          have HO7 := Lib.hid (HO.out.kept hbel)
          have HM7 := Lib.hid (HM.out.later hbel)
          have HS7 := Lib.hid (HS.out.later hbel)
          clear hbel HO HM HS
          go_wp2_with fail
          refine bodyPost_ret (four_tmps rfl _ _ _) rfl ?_
          rw [HI.out.1, HI.out.2, HF.out]
          refine ⟨some ⟨g, p, none⟩, sc - p, oa, oc, ts, ?_, HSD.out _ HB7.out, ?_, HM7.out, ?_, HB4.out.trans (HB7.out.mono HB4.out.size)⟩
          · show _ = Ending.returned (.tuple #[.slice (some ⟨g, p, none⟩) (B.drop p).length (sc - p), .slice oa ys.length oc, .int .i64 j, .int .i64 0])
            rw [HDL.out, ← HM7.out.len]; rfl
          · exact HO7.out.read
          · exact fun b _ _ _ => ⟨HS7.out.mono (Nat.zero_le b), (HTY.out.later HB7.out).mono (Nat.zero_le b)⟩
        · have hn0 : n ≠ 0 := fun e => hk0 (hg2.1 e)
          have HST : Hid (feedY (B.drop p) = stepF k y n (feedY (B.drop (p + n)))) := Lib.hid (by rw [feed_step HN.out hn0, List.drop_drop])
          have dk0 : (k == 0) = false := beq_eq_false_iff_ne.2 hk0
          by_cases hk1 : k = 1
          · subst hk1
            have HF : Hid (feedY B = joinF (ys ++ [y]) j (feedY (B.drop (p + n)))) := Lib.hid (by rw [HFD.out, HST.out, join_y])
            clear hg2 hg3 hk0
            go_wp2_with fail
            refine (rnext_is _ _ (B.drop p) _ HDL.out _ (HSD.out _ HB.out) (by omega) _ HN.out).mono ?_
            rintro e w7 ⟨a2, c2, rfl, hy, hsf, hbel⟩
            have HB7 := Lib.hid (HB.out.trans (hbel.mono HB.out.size))
            have HO7 := Lib.hid (HO.out.kept hbel)
            have HMS : Hid (Match w7 (ts ++ [(a2, y.length, c2)]) (ys ++ [y]) ∧ SafeAll 0 w7 (ts ++ [(a2, y.length, c2)])) := Lib.hid
              ⟨(HM.out.later hbel).append ⟨⟨rfl, hy⟩, trivial⟩, (HS.out.later hbel).append fun t ht => by
                obtain rfl := List.mem_singleton.1 ht
                exact hsf 0 (Nat.zero_le _) (HTY.out.later HB.out)⟩
            have HROW : Hid (RowAt encS (w7.alloc (.cells #[.slice a2 y.length c2] 22)) (some ⟨w7.heap.size, 0, none⟩) 1 [(a2, y.length, c2)]) := Lib.hid (one_row encS w7 _ (a2, y.length, c2) _ rfl)
            have hyl : y.length ≤ 8000 := by have h := next_goes (B.drop p); rw [HN.out] at h; exact (putE_ok (h.2.2.2 rfl).1).2.1
            clear hbel HO HM HS hy hsf
            have hne : 5 ≠ 22 := by decide
            go_wp2_with (at_builtin; refine wpList_append_hdr rfl (.tmp 50) (.tmp 52) _ rfl w4.heap.size 22 j0 _ Tryd.underlying24 HJ0.out HY0.out HY1.out HY2.out (by rfl) _ ts rfl (HO7.out.kept ((Below.refl _ _).alloc (Nat.le_refl _) _)) _ _ _ [(a2, y.length, c2)] rfl (by rfl) HROW.out (by simp only [List.length_cons, List.length_nil]; omega) (HB7.out.alloc HB7.out.size _).size ?_; intro v8 w8 hown8 hb8 hk8
                         have HB8 := Lib.hid ((HB7.out.alloc HB7.out.size _).trans hb8)
                         have HMS8 := Lib.hid (And.intro (Match.safe hb8 hk8 hne (HMS.out.1.later ((Below.refl _ _).alloc (Nat.le_refl _) _)) ((HMS.out.2.later ((Below.refl _ _).alloc (Nat.le_refl _) _)).mono (Nat.zero_le _))) ((HMS.out.2.later ((Below.refl _ _).alloc (Nat.le_refl _) _)).kept hk8 hne))
                         have HO8 := Lib.hid hown8; clear hb8 hk8 hown8)
            go_roundw
            case rel => exact ⟨p + n, j, ts ++ [(a2, y.length, c2)], ys ++ [y], congrArg (Value.int .i64) (by omega), rfl, by omega, by omega, by rw [List.length_append]; simp only [List.length_cons, List.length_nil]; omega, HF.out, HO8.out, HMS8.out.1, HMS8.out.2, HB8.out⟩
            case measure => simp [intOf]; omega
          · have dk1 : (k == 1) = false := beq_eq_false_iff_ne.2 hk1
            have HF : Hid (feedY B = joinF ys (j + n) (feedY (B.drop (p + n)))) := Lib.hid (by rw [HFD.out, HST.out, join_n _ _ _ hk1])
            clear hg2 hg3
            go_wp2_with fail
            refine (rnext_is _ _ (B.drop p) _ HDL.out _ (HSD.out _ HB.out) (by omega) _ HN.out).mono ?_
            rintro e w7 ⟨a2, c2, rfl, _, _, hbel⟩
            have HB7 := Lib.hid (HB.out.trans (hbel.mono HB.out.size))
            have HO7 := Lib.hid (HO.out.kept hbel)
            have HM7 := Lib.hid (HM.out.later hbel)
            have HS7 := Lib.hid (HS.out.later hbel)
            clear hbel HO HM HS
            go_wp2_with fail
            go_roundw
            case rel => exact ⟨p + n, j + n, ts, ys, congrArg (Value.int .i64) (by omega), congrArg (Value.int .i64) (by omega), by omega, by omega, by omega, HF.out, HO7.out, HM7.out, HS7.out, HB7.out⟩
            case measure => simp [intOf]; omega
      · obtain rfl : p = q := by omega
        have HF : Hid (feedY B = (ys, j, [])) := Lib.hid (by rw [HFD.out, ← HBL.out, List.drop_length, feed_nil]; unfold joinF; simp)
        go_wp2_with fail
        refine bodyPost_ret (four_tmps rfl _ _ _) rfl ?_
        rw [HI.out.1, HI.out.2, HF.out]
        refine ⟨none, 0, oa, oc, ts, ?_, .inl ⟨rfl, rfl, rfl⟩, ?_, HM.out, ?_, HW.out⟩
        · rw [← HM.out.len]; rfl
        · exact HO.out.read
        · exact fun b _ _ _ => ⟨HS.out.mono (Nat.zero_le b), Safe.nil _ b _⟩

end Frm
end Go.Proofs.YtnmhkjgcfhcmpaaDoor
