/-
  The walk of layer 7's laws: SessFills.
-/
import Derived.Test.YtnmmokdkngccjaaSesL
import Derived.Test.YtnmmokdkngccjaaSesT
import Derived.Test.YtnmmokdkngccjaaPlS
import Derived.Test.YtnmmokdkngccjaaStepRow
import Derived.Deep.RegionHeld3
import Derived.Deep.CutBlock
import Derived.Deep.DeepCutAuto
import Derived.Deep.Cut
import Derived.OpenShut

namespace Go.Proofs.Ytnmmokdkngccjaa
open Go.RowKit
namespace Ses
open Num
open Msg (I64)
attribute [local go_sem ↓] load_sess
attribute [local go_sem] blkOf_ptr offOf_ptr

theorem bool_at {w : World} {b off cap : Nat} {l : List Bool} (hr : RowAt encB w (some ⟨b, off, none⟩) cap l) {k : Nat} {x : Bool} (hx : l[k]? = some x) : w.cell? ⟨b, off + k, none⟩ = some (.bool x) := by
  have hn : 0 < l.length := by
    cases l with
    | nil => cases hx
    | cons => simp
  obtain ⟨b', off', e, hc⟩ := hr.at hn (by decide)
  obtain ⟨rfl, rfl⟩ : b = b' ∧ off = off' := by
    have := Option.some.inj e
    injection this with h1 h2
    exact ⟨h1, h2⟩
  have h1 := hc k x hx 0 _ rfl
  rw [show k * encB.size + 0 = k from by show k * 1 + 0 = k; omega] at h1
  exact h1
def zeroM : Value := .agg #[.int .i64 0, .int .i64 0, .int .i64 0, .bool false, .int .i64 0, .int .i64 0, .bool false, .string ⟨#[]⟩, .string ⟨#[]⟩, .string ⟨#[]⟩, .string ⟨#[]⟩, .string ⟨#[]⟩, .string ⟨#[]⟩, .int .i64 0, .bool false, .int .i64 0, .int .i64 0, .int .i64 0]
theorem infoM : (Try.prog.info? 36).map (fun i => (i.zero, i.size, i.bytes)) = some (some zeroM, 18, 192) := by kernel_rfl
theorem ex_info : (Try.prog.info? 34).map (·.size) = some xE.cells.size := by
  rw [show xE.cells.size = 10 from rfl]
  kernel_rfl
theorem Ph.time {n : Int} {i : Nat} {l : Rsq.Li} {out asked : Int} {asks : List Msg.Ms} {count : Int} (h : Ph n i l out asked asks count) (hi : i ≤ 62) : timeP asked ∧ asks.length ≤ 1 ∧ 0 ≤ count ∧ count ≤ 62 := by
  obtain ⟨h1, h2, h3, h4, h5, h6, h7⟩ := h
  rcases h7 with ⟨_, rfl, rfl⟩ | ⟨y, r, g, rfl, g3⟩
  · exact ⟨timeP_zero, by simp, by omega, by omega⟩
  · have h0 := head_low h1 g
    have h8 := h3 y (by rw [g]; simp)
    have ⟨u1, u2, u3⟩ := upTo_le (a := l.next) (b := y.fr - 1) (by omega)
    exact ⟨⟨by omega, by omega⟩, by simp, by omega, by omega⟩
theorem askF_len (l : Rsq.Li) (out asked : Int) : (askF l out asked).2.2.length ≤ 1 := by
  unfold askF
  split
  · exact Nat.zero_le _
  · split
    · exact Nat.zero_le _
    · simp
theorem rep_fits (k : Int) (cp : Bool) (h0 : 0 < k) (h1 : k ≤ 1000) : (repM k cp).Fits := fits_right (rep_may cp h0 h1)
def q0 : Se := ⟨0, ⟨1, []⟩, 1, 30, 0, 0, 0, 0, false⟩
def q1 : Se := ⟨1, ⟨1, []⟩, 2, 30, 0, 0, 0, 0, false⟩
theorem fill_new : newS 30 = (q0, 0) := by kernel_rfl
theorem fill_connect : connect q0 0 = (q1, [{Msg.noMs with kind := 1, seq := 1, a := 30}], 0) := by kernel_rfl
theorem fill_logon : comeS q1 (mK 1 1) 0 = (fS ⟨2, []⟩ 2 0, [], [], false, 0) := logon_is ⟨by decide, by decide⟩ timeP_zero timeP_zero timeP_zero timeP_zero

theorem Mid.small {n : Int} {l : Rsq.Li} {out asked : Int} {asks : List Msg.Ms} {i : Nat} {count k b : Int} (h : Mid n l out asked asks i count k b) (hn : n ≤ 62) (hb : b < n) : Rsq.rightL l = true ∧ 0 ≤ count ∧ count ≤ 62 ∧ asks.length ≤ 63 ∧ out = 2 + asks.length ∧ i ≤ 62 := by
  rcases h with ⟨h1, h2, h⟩ | ⟨h1, h⟩
  · obtain ⟨g1, g2, g3, g4, g5, g6, g7, g8⟩ := h
    exact ⟨g1, by omega, by omega, by omega, g5, by omega⟩
  · have hs := h.small hn
    obtain ⟨g1, g2, g3, g4, g5, g6, g7⟩ := h
    exact ⟨g1, by omega, by omega, by omega, g5, by omega⟩
theorem Mid.use {n : Int} {l : Rsq.Li} {out asked : Int} {asks : List Msg.Ms} {i : Nat} {count k b : Int} (h : Mid n l out asked asks i count k b) (hn : n ≤ 62) (hb : b < n) (hk : k ≤ b) : timeP asked ∧ 1 < k ∧ asked = b := by
  rcases h with ⟨h1, h2, h⟩ | ⟨h1, h⟩
  · obtain ⟨g1, g2, g3, g4, g5, g6, g7, g8⟩ := h
    exact ⟨⟨by omega, by omega⟩, g3.1, h2⟩
  · omega
theorem Mid.end {n : Int} {l : Rsq.Li} {out asked : Int} {asks : List Msg.Ms} {i : Nat} {count k b : Int} (h : Mid n l out asked asks i count k b) (hk : ¬ k ≤ b) : Rnd n l out asked asks (i + 1) count := by
  rcases h with ⟨h1, _⟩ | ⟨_, h⟩
  · exact absurd h1 hk
  · exact h
theorem build_rep (k : Int) (cp : Bool) : Array.foldl (fun cs x => cs.setIfInBounds (8 + x.snd) x.fst) #[Value.int .i64 7, .int .i64 k, .int .i64 0, .bool cp, .int .i64 0, .int .i64 0, .bool false, .string ⟨#[]⟩, .string ⟨#[]⟩, .string ⟨#[]⟩, .string ⟨#[]⟩, .string ⟨#[]⟩, .string ⟨#[]⟩, .int .i64 0, .bool false, .int .i64 0, .int .i64 0, .int .i64 0] xE.cells.zipIdx 0 xE.cells.size = (repM k cp).cells := by
  kernel_rfl
theorem come_f (bb : Nat) (d f : Array Value) (s : Se) (m : Msg.Ms) (hf : m.Fits) (now : Int) (a : Option Addr) (cap n : Nat) (hd : d = s.arr a n cap) (he : f = m.cells) (hn : s.inn.held.length = n) (hn9 : n ≤ 100000000) (w : World) (hr : RowAt Rsq.encI w a cap s.inn.held) (hs : SafeR bb w a s.inn.held) (hl : Laid w)
    (r : Se) (l t : List Msg.Ms) (b : Bool) (k : Int) (p q u : Nat) (hp : comeS s m now = (r, l, t, b, k)) (hm : r.inn.held.length = p) (hq : l.length = q) (hu : t.length = u) :
    Calls Try.prog 14 #[.agg d, .agg f, .int .i64 now] w fun e w' => ∃ a' c' b' d' p' q', e = .returned (.tuple #[.agg (r.arr a' p c'), .slice b' q d', .slice p' u q', .bool b, .int .i64 k]) ∧
      RowAt Rsq.encI w' a' c' r.inn.held ∧ SafeR bb w' a' r.inn.held ∧ RowAt encM w' b' d' l ∧ RowAt encM w' p' q' t ∧ Below w.heap.size w w' := by
  subst hd he hm hq hu
  refine (come_safe bb s m hf now a cap n hn hn9 w hr hs hl).mono ?_
  rintro e w' ⟨a', c', b', d', p', q', k', rfl, rfl, h1, h2, h3, h4, h5⟩
  rw [hp] at h1 h2 h3 h4 ⊢
  exact ⟨a', c', b', d', p', q', rfl, h1, h2, h3, h4, h5⟩

set_option maxRecDepth 100000 in
set_option maxHeartbeats 32000000 in
theorem law_SessFills (a : Option Addr) (len cap : Nat) (bs : List Bool) (a1 : Option Addr) (len1 cap1 : Nat) (zs : List Int) (w : World) (hx : IsBls w a len cap bs) (_h1 : IsRow .u8 w a1 len1 cap1 zs) (hl : Laid w) :
    Calls Try.prog 4 #[.slice a len cap, .slice a1 len1 cap1] w fun e w' => e = .returned (.bool true) ∧ Below w.heap.size w w' := by
  have HL := Lib.hid hl
  obtain ⟨hxl, hxm, hxr⟩ := hx
  have hm1 : len ≤ 9223372036854775807 := by unfold maxLen at hxm; omega
  have HXL := Lib.hid hxl
  have HXR := Lib.hid hxr
  clear hl hxl hxm hxr
  have HLW : Hid (∀ W, Below w.heap.size w W → Laid W ∧ RowAt encB W a cap bs) := Lib.hid fun W h => ⟨HL.out.below h, HXR.out.later h⟩
  go_enter Try.func4, Try.ntmps4
  go_wp2_with fail
  refine (awake7_any _ HL.out).mono ?_
  rintro e w1 ⟨rfl, hb1⟩
  have HB1 := Lib.hid hb1
  clear hb1
  by_cases h60 : (60 : Int) < len
  · go_wp2_with fail
    go_ret
    exact ⟨rfl, HB1.out⟩
  have hl60 : len ≤ 60 := by omega
  go_wp2_with fail
  refine (new_is 30 _ (HLW.out _ HB1.out).1 q0 0 0 fill_new rfl).mono ?_
  rintro e w2 ⟨a2, c2, rfl, hr, hb⟩
  go_upto_region 6 with (refine wpList_store_row rfl 28 _ _ rfl w2.heap.size (q0.arr a2 0 c2) rfl rfl _ _ (heap_alloc_last _ _) (arr_info _ _ _ _) rfl (arr_one _ _ _ _) ?_; rw [World.setRow_alloc_new])
  have hbl : Below w2.heap.size w2 (w2.alloc (.cells (q0.arr a2 0 c2) 28)) := (Below.refl _ _).alloc (Nat.le_refl _) _
  have hb2 := HB1.out.trans (hb.mono HB1.out.size)
  have HG := Lib.hid (SeAt.made w2 q0 a2 0 c2)
  have HR := Lib.hid (hr.later hbl)
  have HB := Lib.hid (hb2.trans (hbl.mono hb2.size))
  obtain ⟨g, hg⟩ : ∃ g, w2.heap.size = g := ⟨_, rfl⟩
  have HGS : Hid (w.heap.size ≤ g) := Lib.hid (hg ▸ hb2.size)
  rw [hg] at HG ⊢
  clear hbl hb2 hr hb HB1
  generalize w2.alloc (.cells (q0.arr a2 0 c2) 28) = w3 at HG HR HB ⊢
  clear hg
  go_wp2_with (refine wpList_load_arr_g (by rfl) 28 _ rfl g 0 rfl (q0.arr a2 0 c2) _ HG.out.range Try.underlying28 rfl (arr_info _ _ _ _) ?_)
  refine (connect_is _ q0 0 a2 c2 0 rfl rfl (by decide) _ HR.out (HLW.out _ HB.out).1 q1 _ 0 0 1 fill_connect rfl rfl).mono ?_
  rintro e w4 ⟨a4, c4, b4, d4, rfl, hr, -, hb⟩
  have HG4 := Lib.hid (HG.out.later hb)
  have HB4 := Lib.hid (HB.out.trans (hb.mono HB.out.size))
  go_upto_region 7 with (refine wpList_store_row rfl 28 _ _ rfl g (q1.arr a4 0 c4) rfl rfl _ _ HG4.out (arr_info _ _ _ _) rfl (arr_one _ _ _ _) ?_)
  have HG5 := Lib.hid (HG4.out.put q1 a4 0 c4)
  have HR5 := Lib.hid (HG4.out.row (by decide) hr (q1.arr a4 0 c4))
  have HB5 := Lib.hid (below_setRow HB4.out HGS.out (q1.arr a4 0 c4))
  clear hr hb HG HR HB HG4 HB4
  generalize w4.setRow g (q1.arr a4 0 c4) = w5 at HG5 HR5 HB5 ⊢
  go_wp2_with (refine wpList_load_arr_g (by rfl) 28 _ rfl g 0 rfl (q1.arr a4 0 c4) _ HG5.out.range Try.underlying28 rfl (arr_info _ _ _ _) ?_)
  refine (come_is _ _ q1 (mK 1 1) (mK_fits (by unfold I64; decide) (by unfold I64; decide)) 0 a4 c4 0 rfl rfl rfl (by decide) _ HR5.out (HLW.out _ HB5.out).1 (fS ⟨2, []⟩ 2 0) [] [] false 0 0 0 0 fill_logon rfl rfl rfl).mono ?_
  rintro e w6 ⟨a6, c6, b6, d6, p6, q6, rfl, hr, -, -, hb⟩
  have HG6 := Lib.hid (HG5.out.later hb)
  have HB6 := Lib.hid (HB5.out.trans (hb.mono HB5.out.size))
  go_upto_region 8 with (refine wpList_store_row rfl 28 _ _ rfl g ((fS ⟨2, []⟩ 2 0).arr a6 0 c6) rfl rfl _ _ HG6.out (arr_info _ _ _ _) rfl (arr_one _ _ _ _) ?_)
  have HG7 := Lib.hid (HG6.out.put (fS ⟨2, []⟩ 2 0) a6 0 c6)
  have HR7 := Lib.hid (HG6.out.row (by decide) hr ((fS ⟨2, []⟩ 2 0).arr a6 0 c6))
  have HB7 := Lib.hid (below_setRow HB6.out HGS.out ((fS ⟨2, []⟩ 2 0).arr a6 0 c6))
  clear hr hb HG5 HR5 HB5 HG6 HB6
  generalize w6.setRow g ((fS ⟨2, []⟩ 2 0).arr a6 0 c6) = w7 at HG7 HR7 HB7 ⊢
  go_upto_region 11 with (refine wpList_store_row rfl 34 _ _ rfl w7.heap.size xE.cells rfl rfl _ _ (heap_alloc_last _ _) ex_info rfl (by kernel_rfl) ?_; rw [World.setRow_alloc_new])
  have hbl : Below w7.heap.size w7 (w7.alloc (.cells xE.cells 34)) := (Below.refl _ _).alloc (Nat.le_refl _) _
  have HX8 : Hid ((w7.alloc (.cells xE.cells 34)).heap[w7.heap.size]? = some (.cells xE.cells 34 (0, 0))) := Lib.hid (heap_alloc_new w7 _)
  obtain ⟨ex, hex⟩ : ∃ ex, w7.heap.size = ex := ⟨_, rfl⟩
  have HG8 := Lib.hid (HG7.out.later hbl)
  have HR8 := Lib.hid (HR7.out.later hbl)
  have HB8 := Lib.hid (HB7.out.trans (hbl.mono HB7.out.size))
  have HGX : Hid (g < ex) := Lib.hid (hex ▸ HG7.out.lt)
  rw [hex] at HX8 ⊢
  clear hbl HG7 HR7 HB7 hex
  generalize w7.alloc (.cells xE.cells 34) = w8 at HX8 HG8 HR8 HB8 ⊢
  have HS8 : Hid (ex < w8.heap.size) := Lib.hid (Array.getElem?_eq_some_iff.1 HX8.out).1
  obtain ⟨n, hn⟩ : ∃ n : Int, (len : Int) + 2 = n := ⟨_, rfl⟩
  have hn2 : n ≤ 62 := by omega
  have HN := Lib.hid hn
  have ew : IntKind.i64.wrap ((len : Int) + 2) = n := by rw [IntKind.wrap_i64]; omega
  go_upto_region 12 with fail
  clear ew hn
  go_wp2_with fail
  go_loopw [15, 16, 17] (fun c_ v_ i_ wr => ∃ (i : Nat) (l : Rsq.Li) (out asked count : Int) (asks : List Msg.Ms) (a9 : Option Addr) (c9 h9 : Nat), c_ = .int .i64 count ∧ i_ = .int .i64 i ∧ i ≤ len ∧ Hid (Ph n i l out asked asks count) ∧ Hid (l.held.length = h9) ∧ Hid (OwnE encM 36 wr w8.heap.size v_ asks) ∧
    Hid (SeAt wr g (fS l out asked) a9 h9 c9) ∧ Hid (RowAt Rsq.encI wr a9 c9 l.held) ∧ Hid (SafeR w8.heap.size wr a9 l.held) ∧ Hid (wr.heap[ex]? = some (.cells xE.cells 34 (0, 0)) ∧ w8.heap.size ≤ wr.heap.size) ∧ Hid (Below w.heap.size w wr)) (fun _ _ i_ _ => len - (intOf i_).toNat)
  case atStart => exact ⟨0, ⟨2, []⟩, 2, 0, 0, [], a6, c6, 0, rfl, rfl, Nat.zero_le _, Ph.start n, rfl, OwnE.nil _ _ _ _, HG8.out, HR8.out, fun h => absurd rfl h, ⟨HX8.out, Nat.le_refl _⟩, HB8.out⟩
  case round =>
    obtain ⟨i, l, out, asked, count, asks, a9, c9, h9, rfl, rfl, hi, HPH, HH9, HOW, HGI, HRI, HSI, HXI, HBI⟩ := hrel
    clear HG8 HR8
    have ⟨ht0, hak, hc0, hc1⟩ := HPH.out.time (by omega)
    have HTI := Lib.hid ht0
    have HOU : Hid (out = 2 + asks.length) := Lib.hid HPH.out.out
    have hh9 : h9 ≤ 64 := by rw [← HH9.out]; exact ((Rsq.right_iff _).1 HPH.out.right).2.2.1
    clear ht0
    by_cases hlt : i < len
    · obtain ⟨lb, hb⟩ : ∃ x, bs[i]? = some x := ⟨bs[i]'(by rw [HXL.out]; exact hlt), List.getElem?_eq_getElem _⟩
      obtain ⟨b, off, rfl, _⟩ := (HLW.out _ HBI.out).2.at (by rw [HXL.out]; omega) (by decide)
      have hcap : len ≤ cap := by
        rcases HXR.out with ⟨h, _⟩ | ⟨_, _, h, _⟩
        · cases h
        · rwa [HXL.out] at h
      have m0 := bool_at (HLW.out _ HBI.out).2 hb
      clear hb
      cases lb
      · have ew : IntKind.i64.wrap ((i : Int) + 2) = (i : Int) + 2 := by rw [IntKind.wrap_i64]; omega
        have HXE := Lib.hid (block_range HXI.out.1)
        have hfill := fill_step (l := l) (out := out) (asked := asked) (m := repM ((i : Int) + 2) false) HPH.out.right (by have := HOU.out; omega) (by have := HOU.out; omega) HTI.out (rep_may false (by omega) (by omega)) (.inl rfl)
        have hph := HPH.out.step hn2 (by have := HN.out; omega)
        dsimp only at hph
        obtain ⟨⟨l2, tl2, kk⟩, hcm⟩ : ∃ r, Rsq.come l (itemS (repM ((i : Int) + 2) false)) = r := ⟨_, rfl⟩
        rw [hcm] at hfill hph
        dsimp only at hfill hph
        obtain ⟨⟨o2, k2, sd⟩, haf⟩ : ∃ r, askF l2 out asked = r := ⟨_, rfl⟩
        rw [haf] at hfill hph
        dsimp only at hfill hph
        obtain ⟨td, htd⟩ : ∃ t, reports tl2 = t := ⟨_, rfl⟩
        rw [htd] at hfill hph
        obtain ⟨h2, hqh⟩ : ∃ k, l2.held.length = k := ⟨_, rfl⟩
        obtain ⟨sq, hqs⟩ : ∃ k, sd.length = k := ⟨_, rfl⟩
        obtain ⟨tq, hqt⟩ : ∃ k, td.length = k := ⟨_, rfl⟩
        have HCO := Lib.hid hfill
        have HQH : Hid (l2.held.length = h2) := Lib.hid hqh
        have HQS : Hid (sd.length = sq) := Lib.hid hqs
        have HQT : Hid (td.length = tq) := Lib.hid hqt
        rw [hqt] at hph
        clear hfill hcm haf htd
        have HPH2 := Lib.hid hph
        have ⟨ht2, hak2, hd0, hd1⟩ := hph.time (by omega)
        have hh2 : h2 ≤ 64 := by rw [← hqh]; exact ((Rsq.right_iff _).1 hph.right).2.2.1
        have ewc : IntKind.i64.wrap (count + (tq : Int)) = count + tq := by rw [IntKind.wrap_i64]; omega
        have hsl1 : asks.length + sq ≤ 100 := by rw [← hqs, ← List.length_append]; omega
        clear hph hqh hqs hqt ht2
        go_wp2_with (first | (refine wpList_load_arr_g (by rfl) 28 _ rfl g 0 rfl ((fS l out asked).arr a9 h9 c9) _ HGI.out.range Try.underlying28 rfl (arr_info _ _ _ _) ?_) | (refine wpList_load_arr_g (by rfl) 34 _ rfl ex 0 rfl xE.cells _ HXE.out Try.underlying34 rfl ex_info ?_))
        refine (come_f w8.heap.size _ _ (fS l out asked) (repM ((i : Int) + 2) false) (rep_fits ((i : Int) + 2) false (by omega) (by omega)) 0 a9 c9 h9 rfl (build_rep ((i : Int) + 2) false) HH9.out (by omega) _ HRI.out HSI.out (HLW.out _ HBI.out).1 (fS l2 o2 k2) sd td false 0 h2 sq tq HCO.out HQH.out HQS.out HQT.out).mono ?_
        rintro e w9 ⟨a5, c5, b5, d5, p5, q5, rfl, hr, hsf, hm, -, hb⟩
        clear m0 ew
        go_upto_region 19 with (refine wpList_store_row rfl 28 _ _ rfl w9.heap.size ((fS l2 o2 k2).arr a5 h2 c5) rfl rfl _ _ (heap_alloc_last _ _) (arr_info _ _ _ _) rfl (arr_one _ _ _ _) ?_; rw [World.setRow_alloc_new])
        have hbl : Below w9.heap.size w9 (w9.alloc (.cells ((fS l2 o2 k2).arr a5 h2 c5) 28)) := (Below.refl _ _).alloc (Nat.le_refl _) _
        have HP := Lib.hid (SeAt.made w9 (fS l2 o2 k2) a5 h2 c5)
        obtain ⟨p, hp⟩ : ∃ p, w9.heap.size = p := ⟨_, rfl⟩
        have hb2 := HBI.out.trans (hb.mono HBI.out.size)
        have HGN := Lib.hid ((HGI.out.later hb).later hbl)
        have HRN2 := Lib.hid (hr.later hbl)
        have HSN := Lib.hid (hsf.later hbl)
        have HMN := Lib.hid (hm.later hbl)
        have HON := Lib.hid ((HOW.out.kept hb).kept hbl)
        have HXN : Hid ((w9.alloc (.cells ((fS l2 o2 k2).arr a5 h2 c5) 28)).heap[ex]? = some (.cells xE.cells 34 (0, 0)) ∧ w8.heap.size ≤ (w9.alloc (.cells ((fS l2 o2 k2).arr a5 h2 c5) 28)).heap.size) := Lib.hid ⟨below_block (below_block HXI.out.1 hb) hbl, Nat.le_trans HXI.out.2 (Nat.le_trans hb.size hbl.size)⟩
        have HBN := Lib.hid (hb2.trans (hbl.mono hb2.size))
        have HPG : Hid (g ≠ p) := Lib.hid (fun e => by have h1 := (HGI.out.later hb).lt; rw [hp, ← e] at h1; exact Nat.lt_irrefl _ h1)
        rw [hp] at HP ⊢
        clear hbl hb2 hr hsf hm hb HGI HRI HSI HOW HXI HBI hp
        generalize w9.alloc (.cells ((fS l2 o2 k2).arr a5 h2 c5) 28) = wa at HP HGN HRN2 HSN HMN HON HXN HBN ⊢
        have HPK : Hid (∀ W, SeAt W p (fS l2 o2 k2) a5 h2 c5 → CellsOk W p 0 10 ∧ cellsAt W p 0 10 = (fS l2 o2 k2).arr a5 h2 c5) := Lib.hid fun W h => CellsOk.of h.range
        have HP0 : Hid (SeAt wa.drew p (fS l2 o2 k2) a5 h2 c5) := Lib.hid HP.out
        obtain ⟨j0, hi0, hz0, hz1, hz2⟩ := info_parts infoM
        have HJ0 := Lib.hid hi0
        have HY0 := Lib.hid hz0
        have HY1 := Lib.hid hz1
        have HY2 := Lib.hid hz2
        clear hi0 hz0 hz1 hz2
        refine wp_region_held_drew (S := (fun w' => CellsOk w' p 0 10 ∧ cellsAt w' p 0 10 = (fS l2 o2 k2).arr a5 h2 c5)) (by kernel_rfl) ?hs0 (fun hHeld => ?_)
        case hs0 => exact HPK.out _ HP0.out
        refine' wpAnyH_take (i := 0) (oi := _) (v := _) rfl (by kernel_rfl) (by kernel_rfl) (by kernel_rfl) (fun _ _ _ h => h) (Or.inl ⟨by rfl, ?hy⟩) (by assumption) ?_
        case hy => (intro w hSw; (try dsimp only at hSw); (try simp only [List.getElem_toArray, List.getElem_cons_zero]); go_simp; try with_reducible rfl)
        try simp only [List.getElem_toArray, List.getElem_cons_zero, Act.put, List.setIfInBounds_toArray, List.set_cons_zero, List.set_cons_succ]
        refine' wpAnyH_take (i := 1) (oi := _) (v := _) rfl (by kernel_rfl) (by kernel_rfl) (by kernel_rfl) (fun _ _ _ h => h) (Or.inl ⟨by rfl, ?hy⟩) (by assumption) ?_
        case hy => (intro w hSw; (try dsimp only at hSw); (try simp only [List.getElem_toArray, List.getElem_cons_zero, List.getElem_cons_succ]); go_simp; try with_reducible rfl)
        try simp only [List.getElem_toArray, List.getElem_cons_zero, List.getElem_cons_succ, Act.put, List.setIfInBounds_toArray, List.set_cons_zero, List.set_cons_succ]
        refine' wpAnyH_take (i := 2) (oi := _) (v := _) rfl (by kernel_rfl) (by kernel_rfl) (by kernel_rfl) (fun _ _ _ h => h) (Or.inl ⟨by rfl, ?hy⟩) (by assumption) ?_
        case hy => (intro w hSw; (try dsimp only at hSw); (try simp only [List.getElem_toArray, List.getElem_cons_zero, List.getElem_cons_succ]); go_simp; try with_reducible rfl)
        try simp only [List.getElem_toArray, List.getElem_cons_zero, List.getElem_cons_succ, Act.put, List.setIfInBounds_toArray, List.set_cons_zero, List.set_cons_succ]
        refine' wpAnyH_take (i := 4) (oi := _) (v := _) rfl (by kernel_rfl) (by kernel_rfl) (by kernel_rfl) (fun _ _ _ h => h) (Or.inl ⟨by rfl, ?hy⟩) (by assumption) ?_
        case hy => (intro w hSw; (try dsimp only at hSw); (try simp only [List.getElem_toArray, List.getElem_cons_zero, List.getElem_cons_succ]); go_simp; try with_reducible rfl)
        try simp only [List.getElem_toArray, List.getElem_cons_zero, List.getElem_cons_succ, Act.put, List.setIfInBounds_toArray, List.set_cons_zero, List.set_cons_succ]
        refine' wpAnyH_take (i := 5) (oi := _) (v := _) rfl (by kernel_rfl) (by kernel_rfl) (by kernel_rfl) (fun _ _ _ h => h) (Or.inl ⟨by rfl, ?hy⟩) (by assumption) ?_
        case hy => (intro w hSw; (try dsimp only at hSw); (try simp only [List.getElem_toArray, List.getElem_cons_zero, List.getElem_cons_succ]); go_simp; try with_reducible rfl)
        try simp only [List.getElem_toArray, List.getElem_cons_zero, List.getElem_cons_succ, Act.put, List.setIfInBounds_toArray, List.set_cons_zero, List.set_cons_succ]
        refine' wpAnyH_take (i := 6) (oi := _) (v := _) rfl (by kernel_rfl) (by kernel_rfl) (by kernel_rfl) (fun _ _ _ h => h) (Or.inl ⟨by rfl, ?hy⟩) (by assumption) ?_
        case hy => (intro w hSw; (try dsimp only at hSw); (try simp only [List.getElem_toArray, List.getElem_cons_zero, List.getElem_cons_succ]); go_simp; try with_reducible rfl)
        try simp only [List.getElem_toArray, List.getElem_cons_zero, List.getElem_cons_succ, Act.put, List.setIfInBounds_toArray, List.set_cons_zero, List.set_cons_succ]
        refine' wpAnyH_take (i := 7) (oi := _) (v := _) rfl (by kernel_rfl) (by kernel_rfl) (by kernel_rfl) (fun _ _ _ h => h) (Or.inl ⟨by rfl, ?hy⟩) (by assumption) ?_
        case hy => (intro w hSw; (try dsimp only at hSw); (try simp only [List.getElem_toArray, List.getElem_cons_zero, List.getElem_cons_succ]); go_simp; try with_reducible rfl)
        try simp only [List.getElem_toArray, List.getElem_cons_zero, List.getElem_cons_succ, Act.put, List.setIfInBounds_toArray, List.set_cons_zero, List.set_cons_succ]
        refine wpAnyH_ready (rs := [3]) (by kernel_rfl) (by simp) ?_
        refine AllReadyH.cons (o := _) rfl (fun K hK => ?_) AllReadyH.nil
        try simp only [List.getElem_toArray, List.getElem_cons_zero, List.getElem_cons_succ, Act.put, List.setIfInBounds_toArray, List.set_cons_zero, List.set_cons_succ]
        refine step_append_any encM (by decide) rfl (.tmp 97) (.tmp 98) 39 rfl w8.heap.size 36 j0 _ 192 Try.underlying39 HJ0.out HY0.out HY1.out HY2.out (by rfl) _ asks rfl HON.out _ _ _ sd rfl HQS.out HMN.out (by rw [HQS.out]; unfold maxLen; omega) (by rw [HQS.out]; omega) HXN.out.2 ?_
        intro v2 wb hown hbb hkk
        have HOB := Lib.hid hown
        have HKB : Hid (Kept 36 wa wb) := Lib.hid hkk
        have HBB : Hid (Below w8.heap.size wa wb) := Lib.hid ((⟨rfl, rfl, rfl, Nat.le_refl _, fun _ _ => rfl⟩ : Below w8.heap.size wa wa.drew).trans hbb)
        clear hown hbb hkk
        have HPB : Hid (SeAt wb p (fS l2 o2 k2) a5 h2 c5) := Lib.hid (HKB.out _ _ _ _ (by decide) HP.out)
        have HGB : Hid (SeAt wb g (fS l out asked) a9 h9 c9) := Lib.hid (HKB.out _ _ _ _ (by decide) HGN.out)
        have HRB := Lib.hid (row_safe HRN2.out HSN.out HBB.out HKB.out (by decide))
        have HSB := Lib.hid (HSN.out.kept HKB.out (by decide))
        have HXB : Hid (wb.heap[ex]? = some (.cells xE.cells 34 (0, 0)) ∧ w8.heap.size ≤ wb.heap.size) := Lib.hid ⟨HKB.out _ _ _ _ (by decide) HXN.out.1, Nat.le_trans HXN.out.2 HBB.out.size⟩
        have HWB := Lib.hid (HBN.out.trans (HBB.out.mono HB8.out.size))
        refine hK.out _ _ ?hs1 (fun hHeld => ?_)
        case hs1 => exact HPK.out _ HPB.out
        clear hK K
        try simp only [Act.put, List.setIfInBounds_toArray, List.set_cons_zero, List.set_cons_succ]
        refine wpAnyH_ready (rs := [8]) (by kernel_rfl) (by simp) ?_
        refine AllReadyH.cons (o := _) rfl (fun K hK => ?_) AllReadyH.nil
        try simp only [List.getElem_toArray, List.getElem_cons_zero, List.getElem_cons_succ, Act.put]
        have HO9 := Lib.hid (HOB.out.setRow (g := g) ((fS l2 o2 k2).arr a5 h2 c5) (Nat.lt_trans HGX.out HS8.out))
        have HG9 := Lib.hid (HGB.out.put (fS l2 o2 k2) a5 h2 c5)
        have HP9 := Lib.hid (HPB.out.other (fun e => HPG.out e.symm) ((fS l2 o2 k2).arr a5 h2 c5))
        have HR9 := Lib.hid (HGB.out.row (by decide) HRB.out ((fS l2 o2 k2).arr a5 h2 c5))
        have HS9 := Lib.hid (HSB.out.put HGB.out ((fS l2 o2 k2).arr a5 h2 c5))
        have HX9 : Hid ((wb.setRow g ((fS l2 o2 k2).arr a5 h2 c5)).heap[ex]? = some (.cells xE.cells 34 (0, 0)) ∧ w8.heap.size ≤ (wb.setRow g ((fS l2 o2 k2).arr a5 h2 c5)).heap.size) := Lib.hid ⟨(setRow_other wb g ex _ (fun e => by have h := HGX.out; omega)).trans HXB.out.1, by simpa [World.setRow] using HXB.out.2⟩
        have HB9 := Lib.hid (below_setRow HWB.out HGS.out ((fS l2 o2 k2).arr a5 h2 c5))
        refine step_store_row rfl 28 (.tmp 5) (.tmp 96) rfl g ((fS l2 o2 k2).arr a5 h2 c5) rfl rfl _ _ HGB.out (arr_info _ _ _ _) rfl (arr_one _ _ _ _) ?_
        generalize wb.setRow g ((fS l2 o2 k2).arr a5 h2 c5) = wc at HO9 HG9 HP9 HR9 HS9 HX9 HB9 ⊢
        refine hK.out _ _ ?hs1 (fun hHeld => ?_)
        case hs1 => exact HPK.out _ HP9.out
        clear hK K
        try simp only [Act.put]
        refine' wpAnyH_take (i := 9) (oi := _) (v := _) rfl (by kernel_rfl) (by kernel_rfl) (by kernel_rfl) (fun _ _ _ h => h) (Or.inl ⟨by rfl, ?hy⟩) (by assumption) ?_
        case hy => (intro w hSw; (try dsimp only at hSw); (try simp only [List.getElem_toArray, List.getElem_cons_zero, List.getElem_cons_succ]); go_simp; try with_reducible rfl)
        try simp only [List.getElem_toArray, List.getElem_cons_zero, List.getElem_cons_succ, Act.put, List.setIfInBounds_toArray, List.set_cons_zero, List.set_cons_succ]
        refine' wpAnyH_take (i := 10) (oi := _) (v := _) rfl (by kernel_rfl) (by kernel_rfl) (by kernel_rfl) (fun _ _ _ h => h) (Or.inl ⟨by rfl, ?hy⟩) (by assumption) ?_
        case hy => (intro w hSw; (try dsimp only at hSw); (try simp only [List.getElem_toArray, List.getElem_cons_zero, List.getElem_cons_succ]); go_simp; try with_reducible rfl)
        try simp only [List.getElem_toArray, List.getElem_cons_zero, List.getElem_cons_succ, Act.put, List.setIfInBounds_toArray, List.set_cons_zero, List.set_cons_succ]
        refine wpAnyH_done (by kernel_rfl) ?_ _
        go_wp2_with fail
        go_roundw
        case rel => exact ⟨i + 1, l2, o2, k2, count + tq, asks ++ sd, a5, c5, h2, rfl, congrArg (Value.int .i64) (by omega), hlt, HPH2, HQH, HO9, HG9, HR9, HS9, HX9, HB9⟩
        case measure => simp [intOf]; omega
      · have HPH2 := Lib.hid HPH.out.lost
        go_wp2_with fail
        go_roundw
        case rel => exact ⟨i + 1, l, out, asked, count, asks, a9, c9, h9, rfl, congrArg (Value.int .i64) (by omega), hlt, HPH2, HH9, HOW, HGI, HRI, HSI, HXI, HBI⟩
        case measure => simp [intOf]; omega
    · obtain rfl : i = len := by omega
      have hfill := fill_step (l := l) (out := out) (asked := asked) (m := finM n) HPH.out.right (by have := HOU.out; omega) (by have := HOU.out; omega) HTI.out (fin_may (by have := HN.out; omega) (by omega)) (.inr rfl)
      have hph := HPH.out.last hn2 HN.out.symm
      dsimp only at hph
      obtain ⟨⟨l2, tl2, kk⟩, hcm⟩ : ∃ r, Rsq.come l (itemS (finM n)) = r := ⟨_, rfl⟩
      rw [hcm] at hfill hph
      dsimp only at hfill hph
      obtain ⟨⟨o2, k2, sd⟩, haf⟩ : ∃ r, askF l2 out asked = r := ⟨_, rfl⟩
      rw [haf] at hfill hph
      dsimp only at hfill hph
      obtain ⟨td, htd⟩ : ∃ t, reports tl2 = t := ⟨_, rfl⟩
      rw [htd] at hfill hph
      obtain ⟨h2, hqh⟩ : ∃ k, l2.held.length = k := ⟨_, rfl⟩
      obtain ⟨sq, hqs⟩ : ∃ k, sd.length = k := ⟨_, rfl⟩
      obtain ⟨tq, hqt⟩ : ∃ k, td.length = k := ⟨_, rfl⟩
      have HCO := Lib.hid hfill
      have HQH : Hid (l2.held.length = h2) := Lib.hid hqh
      have HQS : Hid (sd.length = sq) := Lib.hid hqs
      have HQT : Hid (td.length = tq) := Lib.hid hqt
      rw [hqt] at hph
      clear hfill hcm haf htd
      have HRN := Lib.hid hph
      have hsm := hph.small hn2
      have hh2 : h2 ≤ 64 := by rw [← hqh]; exact ((Rsq.right_iff _).1 hph.right).2.2.1
      have hcn : 0 ≤ count + tq ∧ count + tq ≤ 62 := by have h1 := hph.count; have h2 := hph.low; have h3 := HN.out; omega
      have ewc : IntKind.i64.wrap (count + (tq : Int)) = count + tq := by rw [IntKind.wrap_i64]; omega
      have hsl1 : asks.length + sq ≤ 100 := by rw [← hqs, ← List.length_append]; omega
      have nb0 : 0 < n := by have := HN.out; omega
      clear hph hqh hqs hqt
      go_wp2_with (refine wpList_load_arr_g (by rfl) 28 _ rfl g 0 rfl ((fS l out asked).arr a9 h9 c9) _ HGI.out.range Try.underlying28 rfl (arr_info _ _ _ _) ?_)
      refine (come_f w8.heap.size _ _ (fS l out asked) (finM n) (fits_right (fin_may nb0 (by omega))) 0 a9 c9 h9 rfl rfl HH9.out (by omega) _ HRI.out HSI.out (HLW.out _ HBI.out).1 (fS l2 o2 k2) sd td false 0 h2 sq tq HCO.out HQH.out HQS.out HQT.out).mono ?_
      rintro e w9 ⟨a5, c5, b5, d5, p5, q5, rfl, hr, hsf, hm, -, hb⟩
      go_upto_region 21 with (refine wpList_store_row rfl 28 _ _ rfl w9.heap.size ((fS l2 o2 k2).arr a5 h2 c5) rfl rfl _ _ (heap_alloc_last _ _) (arr_info _ _ _ _) rfl (arr_one _ _ _ _) ?_; rw [World.setRow_alloc_new])
      have hbl : Below w9.heap.size w9 (w9.alloc (.cells ((fS l2 o2 k2).arr a5 h2 c5) 28)) := (Below.refl _ _).alloc (Nat.le_refl _) _
      have HP := Lib.hid (SeAt.made w9 (fS l2 o2 k2) a5 h2 c5)
      obtain ⟨p, hp⟩ : ∃ p, w9.heap.size = p := ⟨_, rfl⟩
      have hb2 := HBI.out.trans (hb.mono HBI.out.size)
      have HGN := Lib.hid ((HGI.out.later hb).later hbl)
      have HRN2 := Lib.hid (hr.later hbl)
      have HSN := Lib.hid (hsf.later hbl)
      have HMN := Lib.hid (hm.later hbl)
      have HON := Lib.hid ((HOW.out.kept hb).kept hbl)
      have HXN : Hid ((w9.alloc (.cells ((fS l2 o2 k2).arr a5 h2 c5) 28)).heap[ex]? = some (.cells xE.cells 34 (0, 0)) ∧ w8.heap.size ≤ (w9.alloc (.cells ((fS l2 o2 k2).arr a5 h2 c5) 28)).heap.size) := Lib.hid ⟨below_block (below_block HXI.out.1 hb) hbl, Nat.le_trans HXI.out.2 (Nat.le_trans hb.size hbl.size)⟩
      have HBN := Lib.hid (hb2.trans (hbl.mono hb2.size))
      have HPG : Hid (g ≠ p) := Lib.hid (fun e => by have h1 := (HGI.out.later hb).lt; rw [hp, ← e] at h1; exact Nat.lt_irrefl _ h1)
      rw [hp] at HP ⊢
      clear hbl hb2 hr hsf hm hb HGI HRI HSI HOW HXI HBI hp
      generalize w9.alloc (.cells ((fS l2 o2 k2).arr a5 h2 c5) 28) = wa at HP HGN HRN2 HSN HMN HON HXN HBN ⊢
      have HPK : Hid (∀ W, SeAt W p (fS l2 o2 k2) a5 h2 c5 → CellsOk W p 0 10 ∧ cellsAt W p 0 10 = (fS l2 o2 k2).arr a5 h2 c5) := Lib.hid fun W h => CellsOk.of h.range
      have HP0 : Hid (SeAt wa.drew p (fS l2 o2 k2) a5 h2 c5) := Lib.hid HP.out
      obtain ⟨j0, hi0, hz0, hz1, hz2⟩ := info_parts infoM
      have HJ0 := Lib.hid hi0
      have HY0 := Lib.hid hz0
      have HY1 := Lib.hid hz1
      have HY2 := Lib.hid hz2
      clear hi0 hz0 hz1 hz2
      refine wp_region_held_drew (S := (fun w' => CellsOk w' p 0 10 ∧ cellsAt w' p 0 10 = (fS l2 o2 k2).arr a5 h2 c5)) (by kernel_rfl) ?hs0 (fun hHeld => ?_)
      case hs0 => exact HPK.out _ HP0.out
      refine' wpAnyH_take (i := 0) (oi := _) (v := _) rfl (by kernel_rfl) (by kernel_rfl) (by kernel_rfl) (fun _ _ _ h => h) (Or.inl ⟨by rfl, ?hy⟩) (by assumption) ?_
      case hy => (intro w hSw; (try dsimp only at hSw); (try simp only [List.getElem_toArray, List.getElem_cons_zero]); go_simp; try with_reducible rfl)
      try simp only [List.getElem_toArray, List.getElem_cons_zero, Act.put, List.setIfInBounds_toArray, List.set_cons_zero, List.set_cons_succ]
      refine' wpAnyH_take (i := 1) (oi := _) (v := _) rfl (by kernel_rfl) (by kernel_rfl) (by kernel_rfl) (fun _ _ _ h => h) (Or.inl ⟨by rfl, ?hy⟩) (by assumption) ?_
      case hy => (intro w hSw; (try dsimp only at hSw); (try simp only [List.getElem_toArray, List.getElem_cons_zero, List.getElem_cons_succ]); go_simp; try with_reducible rfl)
      try simp only [List.getElem_toArray, List.getElem_cons_zero, List.getElem_cons_succ, Act.put, List.setIfInBounds_toArray, List.set_cons_zero, List.set_cons_succ]
      refine' wpAnyH_take (i := 2) (oi := _) (v := _) rfl (by kernel_rfl) (by kernel_rfl) (by kernel_rfl) (fun _ _ _ h => h) (Or.inl ⟨by rfl, ?hy⟩) (by assumption) ?_
      case hy => (intro w hSw; (try dsimp only at hSw); (try simp only [List.getElem_toArray, List.getElem_cons_zero, List.getElem_cons_succ]); go_simp; try with_reducible rfl)
      try simp only [List.getElem_toArray, List.getElem_cons_zero, List.getElem_cons_succ, Act.put, List.setIfInBounds_toArray, List.set_cons_zero, List.set_cons_succ]
      refine' wpAnyH_take (i := 4) (oi := _) (v := _) rfl (by kernel_rfl) (by kernel_rfl) (by kernel_rfl) (fun _ _ _ h => h) (Or.inl ⟨by rfl, ?hy⟩) (by assumption) ?_
      case hy => (intro w hSw; (try dsimp only at hSw); (try simp only [List.getElem_toArray, List.getElem_cons_zero, List.getElem_cons_succ]); go_simp; try with_reducible rfl)
      try simp only [List.getElem_toArray, List.getElem_cons_zero, List.getElem_cons_succ, Act.put, List.setIfInBounds_toArray, List.set_cons_zero, List.set_cons_succ]
      refine' wpAnyH_take (i := 5) (oi := _) (v := _) rfl (by kernel_rfl) (by kernel_rfl) (by kernel_rfl) (fun _ _ _ h => h) (Or.inl ⟨by rfl, ?hy⟩) (by assumption) ?_
      case hy => (intro w hSw; (try dsimp only at hSw); (try simp only [List.getElem_toArray, List.getElem_cons_zero, List.getElem_cons_succ]); go_simp; try with_reducible rfl)
      try simp only [List.getElem_toArray, List.getElem_cons_zero, List.getElem_cons_succ, Act.put, List.setIfInBounds_toArray, List.set_cons_zero, List.set_cons_succ]
      refine' wpAnyH_take (i := 6) (oi := _) (v := _) rfl (by kernel_rfl) (by kernel_rfl) (by kernel_rfl) (fun _ _ _ h => h) (Or.inl ⟨by rfl, ?hy⟩) (by assumption) ?_
      case hy => (intro w hSw; (try dsimp only at hSw); (try simp only [List.getElem_toArray, List.getElem_cons_zero, List.getElem_cons_succ]); go_simp; try with_reducible rfl)
      try simp only [List.getElem_toArray, List.getElem_cons_zero, List.getElem_cons_succ, Act.put, List.setIfInBounds_toArray, List.set_cons_zero, List.set_cons_succ]
      refine' wpAnyH_take (i := 7) (oi := _) (v := _) rfl (by kernel_rfl) (by kernel_rfl) (by kernel_rfl) (fun _ _ _ h => h) (Or.inl ⟨by rfl, ?hy⟩) (by assumption) ?_
      case hy => (intro w hSw; (try dsimp only at hSw); (try simp only [List.getElem_toArray, List.getElem_cons_zero, List.getElem_cons_succ]); go_simp; try with_reducible rfl)
      try simp only [List.getElem_toArray, List.getElem_cons_zero, List.getElem_cons_succ, Act.put, List.setIfInBounds_toArray, List.set_cons_zero, List.set_cons_succ]
      refine wpAnyH_ready (rs := [3]) (by kernel_rfl) (by simp) ?_
      refine AllReadyH.cons (o := _) rfl (fun K hK => ?_) AllReadyH.nil
      try simp only [List.getElem_toArray, List.getElem_cons_zero, List.getElem_cons_succ, Act.put, List.setIfInBounds_toArray, List.set_cons_zero, List.set_cons_succ]
      refine step_append_any encM (by decide) rfl (.tmp 115) (.tmp 116) 39 rfl w8.heap.size 36 j0 _ 192 Try.underlying39 HJ0.out HY0.out HY1.out HY2.out (by rfl) _ asks rfl HON.out _ _ _ sd rfl HQS.out HMN.out (by rw [HQS.out]; unfold maxLen; omega) (by rw [HQS.out]; omega) HXN.out.2 ?_
      intro v2 wb hown hbb hkk
      have HOB := Lib.hid hown
      have HKB : Hid (Kept 36 wa wb) := Lib.hid hkk
      have HBB : Hid (Below w8.heap.size wa wb) := Lib.hid ((⟨rfl, rfl, rfl, Nat.le_refl _, fun _ _ => rfl⟩ : Below w8.heap.size wa wa.drew).trans hbb)
      clear hown hbb hkk
      have HPB : Hid (SeAt wb p (fS l2 o2 k2) a5 h2 c5) := Lib.hid (HKB.out _ _ _ _ (by decide) HP.out)
      have HGB : Hid (SeAt wb g (fS l out asked) a9 h9 c9) := Lib.hid (HKB.out _ _ _ _ (by decide) HGN.out)
      have HRB := Lib.hid (row_safe HRN2.out HSN.out HBB.out HKB.out (by decide))
      have HSB := Lib.hid (HSN.out.kept HKB.out (by decide))
      have HXB : Hid (wb.heap[ex]? = some (.cells xE.cells 34 (0, 0)) ∧ w8.heap.size ≤ wb.heap.size) := Lib.hid ⟨HKB.out _ _ _ _ (by decide) HXN.out.1, Nat.le_trans HXN.out.2 HBB.out.size⟩
      have HWB := Lib.hid (HBN.out.trans (HBB.out.mono HB8.out.size))
      refine hK.out _ _ ?hs1 (fun hHeld => ?_)
      case hs1 => exact HPK.out _ HPB.out
      clear hK K
      try simp only [Act.put, List.setIfInBounds_toArray, List.set_cons_zero, List.set_cons_succ]
      refine wpAnyH_ready (rs := [8]) (by kernel_rfl) (by simp) ?_
      refine AllReadyH.cons (o := _) rfl (fun K hK => ?_) AllReadyH.nil
      try simp only [List.getElem_toArray, List.getElem_cons_zero, List.getElem_cons_succ, Act.put]
      have HO9 := Lib.hid (HOB.out.setRow (g := g) ((fS l2 o2 k2).arr a5 h2 c5) (Nat.lt_trans HGX.out HS8.out))
      have HG9 := Lib.hid (HGB.out.put (fS l2 o2 k2) a5 h2 c5)
      have HP9 := Lib.hid (HPB.out.other (fun e => HPG.out e.symm) ((fS l2 o2 k2).arr a5 h2 c5))
      have HR9 := Lib.hid (HGB.out.row (by decide) HRB.out ((fS l2 o2 k2).arr a5 h2 c5))
      have HS9 := Lib.hid (HSB.out.put HGB.out ((fS l2 o2 k2).arr a5 h2 c5))
      have HX9 : Hid ((wb.setRow g ((fS l2 o2 k2).arr a5 h2 c5)).heap[ex]? = some (.cells xE.cells 34 (0, 0)) ∧ w8.heap.size ≤ (wb.setRow g ((fS l2 o2 k2).arr a5 h2 c5)).heap.size) := Lib.hid ⟨(setRow_other wb g ex _ (fun e => by have h := HGX.out; omega)).trans HXB.out.1, by simpa [World.setRow] using HXB.out.2⟩
      have HB9 := Lib.hid (below_setRow HWB.out HGS.out ((fS l2 o2 k2).arr a5 h2 c5))
      refine step_store_row rfl 28 (.tmp 5) (.tmp 114) rfl g ((fS l2 o2 k2).arr a5 h2 c5) rfl rfl _ _ HGB.out (arr_info _ _ _ _) rfl (arr_one _ _ _ _) ?_
      generalize wb.setRow g ((fS l2 o2 k2).arr a5 h2 c5) = wc at HO9 HG9 HP9 HR9 HS9 HX9 HB9 ⊢
      refine hK.out _ _ ?hs1 (fun hHeld => ?_)
      case hs1 => exact HPK.out _ HP9.out
      clear hK K
      try simp only [Act.put]
      refine' wpAnyH_take (i := 9) (oi := _) (v := _) rfl (by kernel_rfl) (by kernel_rfl) (by kernel_rfl) (fun _ _ _ h => h) (Or.inl ⟨by rfl, ?hy⟩) (by assumption) ?_
      case hy => (intro w hSw; (try dsimp only at hSw); (try simp only [List.getElem_toArray, List.getElem_cons_zero, List.getElem_cons_succ]); go_simp; try with_reducible rfl)
      try simp only [List.getElem_toArray, List.getElem_cons_zero, List.getElem_cons_succ, Act.put, List.setIfInBounds_toArray, List.set_cons_zero, List.set_cons_succ]
      refine' wpAnyH_take (i := 10) (oi := _) (v := _) rfl (by kernel_rfl) (by kernel_rfl) (by kernel_rfl) (fun _ _ _ h => h) (Or.inl ⟨by rfl, ?hy⟩) (by assumption) ?_
      case hy => (intro w hSw; (try dsimp only at hSw); (try simp only [List.getElem_toArray, List.getElem_cons_zero, List.getElem_cons_succ]); go_simp; try with_reducible rfl)
      try simp only [List.getElem_toArray, List.getElem_cons_zero, List.getElem_cons_succ, Act.put, List.setIfInBounds_toArray, List.set_cons_zero, List.set_cons_succ]
      refine wpAnyH_done (by kernel_rfl) ?_ _
      go_wp2_with fail
      clear HPH HOU HTI HCO HQS HQT HPK HP0 HP HP9
      have HRND := HRN
      go_loopw [15, 16, 28] (fun c_ v_ i_ wr => ∃ (i : Nat) (l : Rsq.Li) (out asked count : Int) (asks : List Msg.Ms) (a9 : Option Addr) (c9 h9 : Nat), c_ = .int .i64 count ∧ i_ = .int .i64 i ∧ i ≤ 62 ∧ Hid (Rnd n l out asked asks i count) ∧ Hid (l.held.length = h9) ∧ Hid (OwnE encM 36 wr w8.heap.size v_ asks) ∧
        Hid (SeAt wr g (fS l out asked) a9 h9 c9) ∧ Hid (RowAt Rsq.encI wr a9 c9 l.held) ∧ Hid (SafeR w8.heap.size wr a9 l.held) ∧ Hid (wr.heap[ex]? = some (.cells xE.cells 34 (0, 0)) ∧ w8.heap.size ≤ wr.heap.size) ∧ Hid (Below w.heap.size w wr)) (fun _ _ i_ _ => 200 - (intOf i_).toNat)
      case atStart => exact ⟨0, l2, o2, k2, count + tq, asks ++ sd, a5, c5, h2, rfl, rfl, Nat.zero_le _, HRND, HQH, HO9, HG9, HR9, HS9, HX9, HB9⟩
      case round =>
        clear HQH HO9 HG9 HR9 HS9 HX9 HB9 HRN HRND hh2 hcn ewc hsl1 hak hc0 hc1 hh9 hsm
        obtain ⟨j, l, out, asked, count, asks, a9, c9, h9, rfl, rfl, hj, HRN, HH9, HOW, HGI, HRI, HSI, HXI, HBI⟩ := hrel
        obtain ⟨aa, ac, rfl, hrow⟩ := HOW.out.row
        have HAR := Lib.hid hrow
        obtain ⟨aq, haq⟩ : ∃ q, asks.length = q := ⟨_, rfl⟩
        have HAQ := Lib.hid haq
        rw [haq] at HOW ⊢
        have hsm := HRN.out.small hn2
        have hac : aq ≤ ac := by
          rcases hrow with ⟨_, h, _⟩ | ⟨_, _, h, _⟩
          · rw [h] at haq; simp at haq; omega
          · rwa [haq] at h
        rw [haq] at hsm
        have q200 : decide ((j : Int) < 200) = true := decide_eq_true (by omega)
        clear hrow haq
        by_cases hlt : j < aq
        · obtain ⟨o, ha, hb1, hb2, hb3, hmid⟩ := HRN.out.open (by rw [HAQ.out]; exact hlt)
          obtain ⟨x, y, rfl, _⟩ := HAR.out.at (by rw [HAQ.out]; omega) (by decide)
          obtain ⟨m0, -, -, m4, m5⟩ := msg_cells HAR.out ha
          have hlo := HRN.out.low
          obtain ⟨A, hA⟩ : ∃ A, l.next = A := ⟨_, rfl⟩
          rw [hA] at ha hb1 hb2 hmid hlo
          replace m0 : wr.cell? ⟨x, y + j * 18, none⟩ = some (.int .i64 4) := m0
          replace m4 : wr.cell? ⟨x, y + j * 18 + 4, none⟩ = some (.int .i64 A) := hA ▸ m4
          replace m5 : wr.cell? ⟨x, y + j * 18 + 5, none⟩ = some (.int .i64 asked) := m5
          obtain ⟨B, rfl⟩ : ∃ B, B = asked := ⟨_, rfl⟩
          have ews : IntKind.i64.wrap (B - A) = B - A := by rw [IntKind.wrap_i64]; omega
          have q9 : decide (9 < B - A) = false := decide_eq_false (by omega)
          have q1 : decide (A < 1) = false := decide_eq_false (by omega)
          have HMI : Hid (Mid n l out B asks j count A B) := Lib.hid hmid
          have HAS : Hid (asks[j]? = some (resM o A B)) := Lib.hid ha
          have hB1 : A ≤ B := by omega
          have hB2 : B < n := by omega
          clear ha hmid hA
          go_upto_region 25 with fail
          go_quiet (fail)
          have HD : Hid (Below wr.heap.size wr (wr.drewN nq)) := Lib.hid ⟨rfl, rfl, rfl, Nat.le_refl _, fun _ _ => rfl⟩
          replace m4 : (wr.drewN nq).cell? ⟨x, y + j * 18 + 4, none⟩ = some (.int .i64 A) := m4
          generalize wr.drewN nq = wd at HD m4 ⊢
          have HOD := Lib.hid (HOW.out.kept HD.out)
          have HGD := Lib.hid (HGI.out.later HD.out)
          have HRD := Lib.hid (HRI.out.later HD.out)
          have HSD := Lib.hid (HSI.out.later HD.out)
          have HXD : Hid (wd.heap[ex]? = some (.cells xE.cells 34 (0, 0)) ∧ w8.heap.size ≤ wd.heap.size) := Lib.hid ⟨below_block HXI.out.1 HD.out, Nat.le_trans HXI.out.2 HD.out.size⟩
          have HBD := Lib.hid (HBI.out.trans (HD.out.mono HBI.out.size))
          clear HOW HGI HRI HSI HXI HBI HAR m0 m5 ews q9 q1 hb1 hb2 hb3 HD
          go_wp2_with fail
          go_loopw [15, 16, 29] (fun c_ v_ k_ wr => ∃ (k : Int) (l : Rsq.Li) (out asked count : Int) (asks : List Msg.Ms) (a9 : Option Addr) (c9 h9 : Nat), c_ = .int .i64 count ∧ k_ = .int .i64 k ∧ A ≤ k ∧ k ≤ B + 1 ∧ Hid (Mid n l out asked asks j count k B) ∧ Hid (asks[j]? = some (resM o A B)) ∧ Hid (l.held.length = h9) ∧ Hid (OwnE encM 36 wr w8.heap.size v_ asks) ∧
            Hid (SeAt wr g (fS l out asked) a9 h9 c9) ∧ Hid (RowAt Rsq.encI wr a9 c9 l.held) ∧ Hid (SafeR w8.heap.size wr a9 l.held) ∧ Hid (wr.heap[ex]? = some (.cells xE.cells 34 (0, 0)) ∧ w8.heap.size ≤ wr.heap.size) ∧ Hid (Below w.heap.size w wr)) (fun _ _ k_ _ => (B + 1 - intOf k_).toNat)
          case atStart => exact ⟨A, l, out, B, count, asks, a9, c9, h9, rfl, rfl, Int.le_refl _, by omega, HMI, HAS, HH9, by have h := HOD.out; rw [← HAQ.out] at h; rw [← HAQ.out]; exact h, HGD, HRD, HSD, HXD, HBD⟩
          case round =>
            clear HOD HGD HRD HSD HXD HBD HMI HAS HH9 HRN HAQ m4 hac hlt hsm hlo
            obtain ⟨k, l, out, asked, count, asks, a9, c9, h9, rfl, rfl, hk1, hk2, HMI, HAS, HH9, HOW, HGI, HRI, HSI, HXI, HBI⟩ := hrel
            obtain ⟨hrl, hc0, hc1, hak, hou, hj2⟩ := HMI.out.small hn2 hB2
            have HOU := Lib.hid hou
            have HRL := Lib.hid hrl
            have hh9 : h9 ≤ 64 := by rw [← HH9.out]; exact ((Rsq.right_iff _).1 hrl).2.2.1
            obtain ⟨ab, ad, hva, hrow⟩ := HOW.out.row
            have hlen : j < asks.length := (List.getElem?_eq_some_iff.1 HAS.out).1
            obtain ⟨x2, y2, rfl, _⟩ := hrow.at (by omega) (by decide)
            obtain ⟨-, -, -, -, m5⟩ := msg_cells hrow HAS.out
            replace m5 : wr.cell? ⟨x2, y2 + j * 18 + 5, none⟩ = some (.int .i64 B) := m5
            obtain ⟨aq, haq⟩ : ∃ q, asks.length = q := ⟨_, rfl⟩
            have HAQ : Hid (asks.length = aq) := Lib.hid haq
            have had : aq ≤ ad := by
              rcases hrow with ⟨h, _⟩ | ⟨_, _, h, _⟩
              · cases h
              · rwa [haq] at h
            rw [haq] at hva hlen hak
            subst hva
            clear hou hrl hrow haq
            by_cases hkb : k ≤ B
            · have ⟨ht0, hk3, hab⟩ := HMI.out.use hn2 hB2 hkb
              have HXE := Lib.hid (block_range HXI.out.1)
              have hfill := fill_step (l := l) (out := out) (asked := asked) (m := repM k true) HRL.out (by have := HOU.out; omega) (by have := HOU.out; rw [HAQ.out] at this; omega) ht0 (rep_may true (by omega) (by omega)) (.inl rfl)
              have hph := mid_step hn2 hB2 HMI.out hkb
              dsimp only at hph
              obtain ⟨⟨l2, tl2, kk⟩, hcm⟩ : ∃ r, Rsq.come l (itemS (repM k true)) = r := ⟨_, rfl⟩
              rw [hcm] at hfill hph
              dsimp only at hfill hph
              obtain ⟨⟨o2, k2, sd⟩, haf⟩ : ∃ r, askF l2 out asked = r := ⟨_, rfl⟩
              rw [haf] at hfill hph
              dsimp only at hfill hph
              obtain ⟨td, htd⟩ : ∃ t, reports tl2 = t := ⟨_, rfl⟩
              rw [htd] at hfill hph
              obtain ⟨h2, hqh⟩ : ∃ k, l2.held.length = k := ⟨_, rfl⟩
              obtain ⟨sq, hqs⟩ : ∃ k, sd.length = k := ⟨_, rfl⟩
              obtain ⟨tq, hqt⟩ : ∃ k, td.length = k := ⟨_, rfl⟩
              have HCO := Lib.hid hfill
              have HQH : Hid (l2.held.length = h2) := Lib.hid hqh
              have HQS : Hid (sd.length = sq) := Lib.hid hqs
              have HQT : Hid (td.length = tq) := Lib.hid hqt
              rw [hqt] at hph
              clear hfill hcm haf htd
              have HMI2 := Lib.hid hph
              obtain ⟨hrl2, hd0, hd1, hak2, -, -⟩ := hph.small hn2 hB2
              have hh2 : h2 ≤ 64 := by rw [← hqh]; exact ((Rsq.right_iff _).1 hrl2).2.2.1
              have ewc : IntKind.i64.wrap (count + (tq : Int)) = count + tq := by rw [IntKind.wrap_i64]; omega
              have hsl1 : asks.length + sq ≤ 100 := by rw [← hqs, ← List.length_append]; omega
              have ewk : IntKind.i64.wrap (k + 1) = k + 1 := by rw [IntKind.wrap_i64]; omega
              have HAS2 : Hid ((asks ++ sd)[j]? = some (resM o A B)) := Lib.hid (by rw [List.getElem?_append_left (by rw [HAQ.out]; exact hlen)]; exact HAS.out)
              clear hph hqh hqs hqt ht0 hrl2 hab
              go_wp2_with (first | (refine wpList_load_arr_g (by rfl) 28 _ rfl g 0 rfl ((fS l out asked).arr a9 h9 c9) _ HGI.out.range Try.underlying28 rfl (arr_info _ _ _ _) ?_) | (refine wpList_load_arr_g (by rfl) 34 _ rfl ex 0 rfl xE.cells _ HXE.out Try.underlying34 rfl ex_info ?_))
              refine (come_f w8.heap.size _ _ (fS l out asked) (repM k true) (rep_fits k true (by omega) (by omega)) 0 a9 c9 h9 rfl (build_rep k true) HH9.out (by omega) _ HRI.out HSI.out (HLW.out _ HBI.out).1 (fS l2 o2 k2) sd td false 0 h2 sq tq HCO.out HQH.out HQS.out HQT.out).mono ?_
              rintro e w9 ⟨a5, c5, b5, d5, p5, q5, rfl, hr, hsf, hm, -, hb⟩
              clear m5
              go_upto_region 31 with (refine wpList_store_row rfl 28 _ _ rfl w9.heap.size ((fS l2 o2 k2).arr a5 h2 c5) rfl rfl _ _ (heap_alloc_last _ _) (arr_info _ _ _ _) rfl (arr_one _ _ _ _) ?_; rw [World.setRow_alloc_new])
              have hbl : Below w9.heap.size w9 (w9.alloc (.cells ((fS l2 o2 k2).arr a5 h2 c5) 28)) := (Below.refl _ _).alloc (Nat.le_refl _) _
              have HP := Lib.hid (SeAt.made w9 (fS l2 o2 k2) a5 h2 c5)
              obtain ⟨p, hp⟩ : ∃ p, w9.heap.size = p := ⟨_, rfl⟩
              have hb2 := HBI.out.trans (hb.mono HBI.out.size)
              have HGN := Lib.hid ((HGI.out.later hb).later hbl)
              have HRN2 := Lib.hid (hr.later hbl)
              have HSN := Lib.hid (hsf.later hbl)
              have HMN := Lib.hid (hm.later hbl)
              have HON := Lib.hid ((HOW.out.kept hb).kept hbl)
              have HXN : Hid ((w9.alloc (.cells ((fS l2 o2 k2).arr a5 h2 c5) 28)).heap[ex]? = some (.cells xE.cells 34 (0, 0)) ∧ w8.heap.size ≤ (w9.alloc (.cells ((fS l2 o2 k2).arr a5 h2 c5) 28)).heap.size) := Lib.hid ⟨below_block (below_block HXI.out.1 hb) hbl, Nat.le_trans HXI.out.2 (Nat.le_trans hb.size hbl.size)⟩
              have HBN := Lib.hid (hb2.trans (hbl.mono hb2.size))
              have HPG : Hid (g ≠ p) := Lib.hid (fun e => by have h1 := (HGI.out.later hb).lt; rw [hp, ← e] at h1; exact Nat.lt_irrefl _ h1)
              rw [hp] at HP ⊢
              clear hbl hb2 hr hsf hm hb HGI HRI HSI HOW HXI HBI hp
              generalize w9.alloc (.cells ((fS l2 o2 k2).arr a5 h2 c5) 28) = wa at HP HGN HRN2 HSN HMN HON HXN HBN ⊢
              have HPK : Hid (∀ W, SeAt W p (fS l2 o2 k2) a5 h2 c5 → CellsOk W p 0 10 ∧ cellsAt W p 0 10 = (fS l2 o2 k2).arr a5 h2 c5) := Lib.hid fun W h => CellsOk.of h.range
              have HP0 : Hid (SeAt wa.drew p (fS l2 o2 k2) a5 h2 c5) := Lib.hid HP.out
              obtain ⟨j0, hi0, hz0, hz1, hz2⟩ := info_parts infoM
              have HJ0 := Lib.hid hi0
              have HY0 := Lib.hid hz0
              have HY1 := Lib.hid hz1
              have HY2 := Lib.hid hz2
              clear hi0 hz0 hz1 hz2
              go_upto_region 33 with fail
              refine wp_region_held_drew (S := (fun w' => CellsOk w' p 0 10 ∧ cellsAt w' p 0 10 = (fS l2 o2 k2).arr a5 h2 c5)) (by kernel_rfl) ?hs0 (fun hHeld => ?_)
              case hs0 => exact HPK.out _ HP0.out
              refine' wpAnyH_take (i := 0) (oi := _) (v := _) rfl (by kernel_rfl) (by kernel_rfl) (by kernel_rfl) (fun _ _ _ h => h) (Or.inl ⟨by rfl, ?hy⟩) (by assumption) ?_
              case hy => (intro w hSw; (try dsimp only at hSw); (try simp only [List.getElem_toArray, List.getElem_cons_zero]); go_simp; try with_reducible rfl)
              try simp only [List.getElem_toArray, List.getElem_cons_zero, Act.put, List.setIfInBounds_toArray, List.set_cons_zero, List.set_cons_succ]
              refine' wpAnyH_take (i := 1) (oi := _) (v := _) rfl (by kernel_rfl) (by kernel_rfl) (by kernel_rfl) (fun _ _ _ h => h) (Or.inl ⟨by rfl, ?hy⟩) (by assumption) ?_
              case hy => (intro w hSw; (try dsimp only at hSw); (try simp only [List.getElem_toArray, List.getElem_cons_zero, List.getElem_cons_succ]); go_simp; try with_reducible rfl)
              try simp only [List.getElem_toArray, List.getElem_cons_zero, List.getElem_cons_succ, Act.put, List.setIfInBounds_toArray, List.set_cons_zero, List.set_cons_succ]
              refine' wpAnyH_take (i := 2) (oi := _) (v := _) rfl (by kernel_rfl) (by kernel_rfl) (by kernel_rfl) (fun _ _ _ h => h) (Or.inl ⟨by rfl, ?hy⟩) (by assumption) ?_
              case hy => (intro w hSw; (try dsimp only at hSw); (try simp only [List.getElem_toArray, List.getElem_cons_zero, List.getElem_cons_succ]); go_simp; try with_reducible rfl)
              try simp only [List.getElem_toArray, List.getElem_cons_zero, List.getElem_cons_succ, Act.put, List.setIfInBounds_toArray, List.set_cons_zero, List.set_cons_succ]
              refine' wpAnyH_take (i := 4) (oi := _) (v := _) rfl (by kernel_rfl) (by kernel_rfl) (by kernel_rfl) (fun _ _ _ h => h) (Or.inl ⟨by rfl, ?hy⟩) (by assumption) ?_
              case hy => (intro w hSw; (try dsimp only at hSw); (try simp only [List.getElem_toArray, List.getElem_cons_zero, List.getElem_cons_succ]); go_simp; try with_reducible rfl)
              try simp only [List.getElem_toArray, List.getElem_cons_zero, List.getElem_cons_succ, Act.put, List.setIfInBounds_toArray, List.set_cons_zero, List.set_cons_succ]
              refine' wpAnyH_take (i := 5) (oi := _) (v := _) rfl (by kernel_rfl) (by kernel_rfl) (by kernel_rfl) (fun _ _ _ h => h) (Or.inl ⟨by rfl, ?hy⟩) (by assumption) ?_
              case hy => (intro w hSw; (try dsimp only at hSw); (try simp only [List.getElem_toArray, List.getElem_cons_zero, List.getElem_cons_succ]); go_simp; try with_reducible rfl)
              try simp only [List.getElem_toArray, List.getElem_cons_zero, List.getElem_cons_succ, Act.put, List.setIfInBounds_toArray, List.set_cons_zero, List.set_cons_succ]
              refine' wpAnyH_take (i := 6) (oi := _) (v := _) rfl (by kernel_rfl) (by kernel_rfl) (by kernel_rfl) (fun _ _ _ h => h) (Or.inl ⟨by rfl, ?hy⟩) (by assumption) ?_
              case hy => (intro w hSw; (try dsimp only at hSw); (try simp only [List.getElem_toArray, List.getElem_cons_zero, List.getElem_cons_succ]); go_simp; try with_reducible rfl)
              try simp only [List.getElem_toArray, List.getElem_cons_zero, List.getElem_cons_succ, Act.put, List.setIfInBounds_toArray, List.set_cons_zero, List.set_cons_succ]
              refine' wpAnyH_take (i := 7) (oi := _) (v := _) rfl (by kernel_rfl) (by kernel_rfl) (by kernel_rfl) (fun _ _ _ h => h) (Or.inl ⟨by rfl, ?hy⟩) (by assumption) ?_
              case hy => (intro w hSw; (try dsimp only at hSw); (try simp only [List.getElem_toArray, List.getElem_cons_zero, List.getElem_cons_succ]); go_simp; try with_reducible rfl)
              try simp only [List.getElem_toArray, List.getElem_cons_zero, List.getElem_cons_succ, Act.put, List.setIfInBounds_toArray, List.set_cons_zero, List.set_cons_succ]
              refine wpAnyH_ready (rs := [3]) (by kernel_rfl) (by simp) ?_
              refine AllReadyH.cons (o := _) rfl (fun K hK => ?_) AllReadyH.nil
              try simp only [List.getElem_toArray, List.getElem_cons_zero, List.getElem_cons_succ, Act.put, List.setIfInBounds_toArray, List.set_cons_zero, List.set_cons_succ]
              refine step_append_any encM (by decide) rfl (.tmp 188) (.tmp 189) 39 rfl w8.heap.size 36 j0 _ 192 Try.underlying39 HJ0.out HY0.out HY1.out HY2.out (by rfl) _ asks rfl HON.out _ _ _ sd rfl HQS.out HMN.out (by rw [HQS.out]; unfold maxLen; omega) (by rw [HQS.out]; omega) HXN.out.2 ?_
              intro v2 wb hown hbb hkk
              have HOB := Lib.hid hown
              have HKB : Hid (Kept 36 wa wb) := Lib.hid hkk
              have HBB : Hid (Below w8.heap.size wa wb) := Lib.hid ((⟨rfl, rfl, rfl, Nat.le_refl _, fun _ _ => rfl⟩ : Below w8.heap.size wa wa.drew).trans hbb)
              clear hown hbb hkk
              have HPB : Hid (SeAt wb p (fS l2 o2 k2) a5 h2 c5) := Lib.hid (HKB.out _ _ _ _ (by decide) HP.out)
              have HGB : Hid (SeAt wb g (fS l out asked) a9 h9 c9) := Lib.hid (HKB.out _ _ _ _ (by decide) HGN.out)
              have HRB := Lib.hid (row_safe HRN2.out HSN.out HBB.out HKB.out (by decide))
              have HSB := Lib.hid (HSN.out.kept HKB.out (by decide))
              have HXB : Hid (wb.heap[ex]? = some (.cells xE.cells 34 (0, 0)) ∧ w8.heap.size ≤ wb.heap.size) := Lib.hid ⟨HKB.out _ _ _ _ (by decide) HXN.out.1, Nat.le_trans HXN.out.2 HBB.out.size⟩
              have HWB := Lib.hid (HBN.out.trans (HBB.out.mono HB8.out.size))
              refine hK.out _ _ ?hs1 (fun hHeld => ?_)
              case hs1 => exact HPK.out _ HPB.out
              clear hK K
              try simp only [Act.put, List.setIfInBounds_toArray, List.set_cons_zero, List.set_cons_succ]
              refine wpAnyH_ready (rs := [8]) (by kernel_rfl) (by simp) ?_
              refine AllReadyH.cons (o := _) rfl (fun K hK => ?_) AllReadyH.nil
              try simp only [List.getElem_toArray, List.getElem_cons_zero, List.getElem_cons_succ, Act.put]
              have HO9 := Lib.hid (HOB.out.setRow (g := g) ((fS l2 o2 k2).arr a5 h2 c5) (Nat.lt_trans HGX.out HS8.out))
              have HG9 := Lib.hid (HGB.out.put (fS l2 o2 k2) a5 h2 c5)
              have HP9 := Lib.hid (HPB.out.other (fun e => HPG.out e.symm) ((fS l2 o2 k2).arr a5 h2 c5))
              have HR9 := Lib.hid (HGB.out.row (by decide) HRB.out ((fS l2 o2 k2).arr a5 h2 c5))
              have HS9 := Lib.hid (HSB.out.put HGB.out ((fS l2 o2 k2).arr a5 h2 c5))
              have HX9 : Hid ((wb.setRow g ((fS l2 o2 k2).arr a5 h2 c5)).heap[ex]? = some (.cells xE.cells 34 (0, 0)) ∧ w8.heap.size ≤ (wb.setRow g ((fS l2 o2 k2).arr a5 h2 c5)).heap.size) := Lib.hid ⟨(setRow_other wb g ex _ (fun e => by have h := HGX.out; omega)).trans HXB.out.1, by simpa [World.setRow] using HXB.out.2⟩
              have HB9 := Lib.hid (below_setRow HWB.out HGS.out ((fS l2 o2 k2).arr a5 h2 c5))
              refine step_store_row rfl 28 (.tmp 5) (.tmp 187) rfl g ((fS l2 o2 k2).arr a5 h2 c5) rfl rfl _ _ HGB.out (arr_info _ _ _ _) rfl (arr_one _ _ _ _) ?_
              generalize wb.setRow g ((fS l2 o2 k2).arr a5 h2 c5) = wc at HO9 HG9 HP9 HR9 HS9 HX9 HB9 ⊢
              refine hK.out _ _ ?hs1 (fun hHeld => ?_)
              case hs1 => exact HPK.out _ HP9.out
              clear hK K
              try simp only [Act.put]
              refine' wpAnyH_take (i := 9) (oi := _) (v := _) rfl (by kernel_rfl) (by kernel_rfl) (by kernel_rfl) (fun _ _ _ h => h) (Or.inl ⟨by rfl, ?hy⟩) (by assumption) ?_
              case hy => (intro w hSw; (try dsimp only at hSw); (try simp only [List.getElem_toArray, List.getElem_cons_zero, List.getElem_cons_succ]); go_simp; try with_reducible rfl)
              try simp only [List.getElem_toArray, List.getElem_cons_zero, List.getElem_cons_succ, Act.put, List.setIfInBounds_toArray, List.set_cons_zero, List.set_cons_succ]
              refine' wpAnyH_take (i := 10) (oi := _) (v := _) rfl (by kernel_rfl) (by kernel_rfl) (by kernel_rfl) (fun _ _ _ h => h) (Or.inl ⟨by rfl, ?hy⟩) (by assumption) ?_
              case hy => (intro w hSw; (try dsimp only at hSw); (try simp only [List.getElem_toArray, List.getElem_cons_zero, List.getElem_cons_succ]); go_simp; try with_reducible rfl)
              try simp only [List.getElem_toArray, List.getElem_cons_zero, List.getElem_cons_succ, Act.put, List.setIfInBounds_toArray, List.set_cons_zero, List.set_cons_succ]
              refine wpAnyH_done (by kernel_rfl) ?_ _
              go_wp2_with fail
              go_roundw
              case rel => exact ⟨k + 1, l2, o2, k2, count + tq, asks ++ sd, a5, c5, h2, rfl, rfl, by omega, by omega, HMI2, HAS2, HQH, HO9, HG9, HR9, HS9, HX9, HB9⟩
              case measure => simp [intOf]; omega
            · have HRN2 := Lib.hid (HMI.out.end hkb)
              go_wp2_with fail
              go_roundw
              case rel => exact ⟨j + 1, l, out, asked, count, asks, a9, c9, h9, rfl, congrArg (Value.int .i64) (by omega), by have := HRN2.out.small hn2; omega, HRN2, HH9, HOW, HGI, HRI, HSI, HXI, HBI⟩
              case measure => simp [intOf]; omega
        · obtain ⟨e1, e2, e3⟩ := HRN.out.done hn2 (by rw [HAQ.out]; omega)
          have hc : count = i := by have := HN.out; omega
          have z1 : wr.cell? ⟨g, 1, none⟩ = some (.int .i64 (n + 1)) := e2 ▸ HGI.out.cells.c1
          have h90 : h9 = 0 := by rw [← HH9.out, e1]; rfl
          subst h90 hc
          have z2 := HGI.out.cells.c2
          have ewn : IntKind.i64.wrap (n + 1) = n + 1 := by rw [IntKind.wrap_i64]; omega
          clear e1 e2 e3
          go_wp2_with fail
          go_ret
          exact ⟨rfl, HBI.out⟩

end Ses
end Go.Proofs.Ytnmmokdkngccjaa
