/-
  Layer 5's messages in memory: their cells in a block, what is read fits, what a call tells.
-/
import Derived.Test.YtnmmokdkngccjaaMsgA
import Derived.Test.YtnmmokdkngccjaaGen
import Derived.Test.YtnmmokdkngccjaaFldB
import Derived.Test.YtnmmokdkngccjaaFldC
import Derived.Test.YtnmmokdkngccjaaNumRt
namespace Go.Proofs.Ytnmmokdkngccjaa
open Go.RowKit
namespace Msg
open Num
open Fld (F)

theorem empty_is (s : ByteArray) : s.toList.isEmpty = decide (s = emp) := by
  rw [Bool.eq_iff_iff, decide_eq_true_eq, ByteArray.toList_eq, List.isEmpty_iff]
  constructor
  · intro h
    obtain ⟨⟨x⟩⟩ := s
    simp at h
    rw [h]; rfl
  · intro h; rw [h]; rfl
theorem alloc_below2 {w : World} (o1 o2 : Obj) : Below w.heap.size w ((w.alloc o1).alloc o2) := ((Below.refl _ _).alloc (Nat.le_refl _) _).alloc (by simp) _
/-- the message's own cells, in a block that stands -/
structure BoxM (w : World) (g : Nat) (m : Ms) : Prop where
  c0 : w.cell? ⟨g, 0, none⟩ = some (.int .i64 m.kind)
  c1 : w.cell? ⟨g, 1, none⟩ = some (.int .i64 m.seq)
  c2 : w.cell? ⟨g, 2, none⟩ = some (.int .i64 m.time)
  c3 : w.cell? ⟨g, 3, none⟩ = some (.bool m.copy)
  c4 : w.cell? ⟨g, 4, none⟩ = some (.int .i64 m.a)
  c5 : w.cell? ⟨g, 5, none⟩ = some (.int .i64 m.b)
  c6 : w.cell? ⟨g, 6, none⟩ = some (.bool m.gap)
  c7 : w.cell? ⟨g, 7, none⟩ = some (.string m.text)
  c8 : w.cell? ⟨g, 8, none⟩ = some (.string m.exec.id)
  c9 : w.cell? ⟨g, 9, none⟩ = some (.string m.exec.ref)
  c10 : w.cell? ⟨g, 10, none⟩ = some (.string m.exec.order)
  c11 : w.cell? ⟨g, 11, none⟩ = some (.string m.exec.account)
  c12 : w.cell? ⟨g, 12, none⟩ = some (.string m.exec.symbol)
  c13 : w.cell? ⟨g, 13, none⟩ = some (.int .i64 m.exec.kind)
  c14 : w.cell? ⟨g, 14, none⟩ = some (.bool m.exec.buy)
  c15 : w.cell? ⟨g, 15, none⟩ = some (.int .i64 m.exec.qty)
  c16 : w.cell? ⟨g, 16, none⟩ = some (.int .i64 m.exec.price)
  c17 : w.cell? ⟨g, 17, none⟩ = some (.int .i64 m.exec.time)
theorem BoxM.made (w : World) (m : Ms) (e : TypeId) : BoxM (w.alloc (.cells m.cells e)) w.heap.size m := by
  constructor <;> (rw [World.cell?_alloc_new]; rfl)
theorem BoxM.later {w w' : World} {g : Nat} {m : Ms} (h : BoxM w g m) (hb : Below w.heap.size w w') : BoxM w' g m := by
  have k : ∀ {i : Nat} {v : Value}, w.cell? ⟨g, i, none⟩ = some v → w'.cell? ⟨g, i, none⟩ = some v := fun h => (hb.cell (cell_lt h)).trans h
  exact ⟨k h.c0, k h.c1, k h.c2, k h.c3, k h.c4, k h.c5, k h.c6, k h.c7, k h.c8, k h.c9, k h.c10, k h.c11, k h.c12, k h.c13, k h.c14, k h.c15, k h.c16, k h.c17⟩

theorem results_cell_one {fn : Func} {p : Tmp} {ty : TypeId} (h : fn.results = #[.cell p ty]) (tmps : Array Value) (P : Program) (w : World) :
    (results fn tmps).run P w = ((asAddr (tmps.getD p undef)).run P w).andThen fun a w₁ => ((loadVar ty a).run P w₁).andThen fun v w₂ => .ok v w₂ := by
  simp only [results, h]
  simp [Sem.run_bind, Result.andThen]
  generalize Sem.run P (asAddr (tmps[p]?.getD undef)) w = r
  cases r with
  | ok a w1 =>
    dsimp only
    generalize Sem.run P (loadVar ty a) w1 = r2
    cases r2 <;> rfl
  | halt h w1 => rfl
theorem BoxM.range {w : World} {g : Nat} {m : Ms} (h : BoxM w g m) : w.rangeAt g 0 m.cells.toList := by
  intro j v hv
  have hj : j < 18 := by
    rcases Nat.lt_or_ge j 18 with h | h
    · exact h
    · rw [List.getElem?_eq_none (by show 18 ≤ j; exact h)] at hv; cases hv
  rw [Nat.zero_add]
  match j, hj, hv with
  | 0, _, hv => exact h.c0.trans hv
  | 1, _, hv => exact h.c1.trans hv
  | 2, _, hv => exact h.c2.trans hv
  | 3, _, hv => exact h.c3.trans hv
  | 4, _, hv => exact h.c4.trans hv
  | 5, _, hv => exact h.c5.trans hv
  | 6, _, hv => exact h.c6.trans hv
  | 7, _, hv => exact h.c7.trans hv
  | 8, _, hv => exact h.c8.trans hv
  | 9, _, hv => exact h.c9.trans hv
  | 10, _, hv => exact h.c10.trans hv
  | 11, _, hv => exact h.c11.trans hv
  | 12, _, hv => exact h.c12.trans hv
  | 13, _, hv => exact h.c13.trans hv
  | 14, _, hv => exact h.c14.trans hv
  | 15, _, hv => exact h.c15.trans hv
  | 16, _, hv => exact h.c16.trans hv
  | 17, _, hv => exact h.c17.trans hv
theorem BoxM.rangeX {w : World} {g : Nat} {m : Ms} (h : BoxM w g m) : w.rangeAt g 8 m.exec.cells.toList := by
  intro j v hv
  have hj : j < 10 := by
    rcases Nat.lt_or_ge j 10 with h | h
    · exact h
    · rw [List.getElem?_eq_none (by show 10 ≤ j; exact h)] at hv; cases hv
  match j, hj, hv with
  | 0, _, hv => exact h.c8.trans hv
  | 1, _, hv => exact h.c9.trans hv
  | 2, _, hv => exact h.c10.trans hv
  | 3, _, hv => exact h.c11.trans hv
  | 4, _, hv => exact h.c12.trans hv
  | 5, _, hv => exact h.c13.trans hv
  | 6, _, hv => exact h.c14.trans hv
  | 7, _, hv => exact h.c15.trans hv
  | 8, _, hv => exact h.c16.trans hv
  | 9, _, hv => exact h.c17.trans hv
theorem optF_le (b : Bool) (f : F) : (optF b f).length ≤ 1 := by unfold optF; split <;> simp
theorem optF_t (f : F) : optF true f = [f] := rfl
theorem optF_f (f : F) : optF false f = [] := rfl

theorem fits_fields {m : Ms} (h : rightM m = true) : Fld.Fits (fieldsM m) := fun f hf => by
  have ha := (fields_may h).1
  rw [List.all_eq_true] at ha
  have ⟨h1, h2, _, h4, _⟩ := (Fld.right_iff f).1 (ha f hf)
  exact ⟨by omega, by omega, by omega⟩
theorem ex_one (x : Ex) : x.cells.all (·.oneCell') = true := by
  unfold Ex.cells
  simp [Value.oneCell']
/-- what Read tells: a message and a number; nothing that was there has turned -/
def GotM (w : World) (r : Ms × Int) (e : Ending) (w' : World) : Prop := e = .returned (.tuple #[.agg r.1.cells, .int .i64 r.2]) ∧ Below w.heap.size w w'

theorem parse_right {b : List UInt8} {l : List F} (h : Fld.parseL b = (l, 0)) : l.all Fld.rightF = true ∧ l.length ≤ 100 := by
  unfold Fld.parseL at h
  split at h
  · cases h
  · obtain ⟨m, rfl, _, h1, h2⟩ := Fld.parseG_back b.length [] b l (Nat.le_refl _) (Nat.zero_le _) h
    exact ⟨h1, h2⟩
def Okk (s : Tk) : Prop := ∀ f ∈ s.1, f.val.size ≤ 256
theorem emp_str : Str emp := by unfold Str; decide
theorem val_str {f : F} (h : f.val.size ≤ 256) : Str f.val := by unfold Str; omega
theorem take_fits {s : Tk} (h : Okk s) (t : Int) : Str (take t s).1 ∧ Okk (take t s).2 := by
  obtain ⟨l, b⟩ := s
  unfold take
  cases l with
  | nil => exact ⟨emp_str, h⟩
  | cons f r =>
    dsimp only
    split
    · exact ⟨val_str (h f (by simp)), fun x hx => h x (by simp [show x ∈ r from hx])⟩
    · exact ⟨emp_str, h⟩
theorem maybe_fits {s : Tk} (h : Okk s) (t : Int) : Str (maybe t s).1 ∧ Okk (maybe t s).2 := by
  obtain ⟨l, b⟩ := s
  unfold maybe
  cases l with
  | nil => exact ⟨emp_str, h⟩
  | cons f r =>
    dsimp only
    split
    · exact ⟨val_str (h f (by simp)), fun x hx => h x (by simp [show x ∈ r from hx])⟩
    · exact ⟨emp_str, h⟩
theorem parseV_fits (l : List UInt8) : I64 (parseV l) := by
  unfold parseV
  split
  · rename_i h
    unfold parseE at h
    split at h
    · cases h
    · split at h
      · split at h
        · rename_i hr
          have := (right_iff _).1 hr
          unfold I64
          omega
        · cases h
      · cases h
  · unfold I64; omega
theorem number_fits {s : Tk} (h : Okk s) (t : Int) : I64 (number t s).1 ∧ Okk (number t s).2 := ⟨parseV_fits _, (take_fits h t).2⟩
theorem yes_fits {s : Tk} (h : Okk s) (t : Int) : Okk (yes t s).2 := (maybe_fits h t).2
theorem exec_fits {s : Tk} (h : Okk s) : (execR s).1.Fits ∧ Okk (execR s).2 := by
  have h1 := take_fits h 17
  have h2 := maybe_fits h1.2 19
  have h3 := take_fits h2.2 11
  have h4 := take_fits h3.2 1
  have h5 := take_fits h4.2 55
  have h6 := take_fits h5.2 54
  unfold execR
  dsimp only
  generalize take 17 s = p1 at *
  generalize maybe 19 p1.2 = p2 at *
  generalize take 11 p2.2 = p3 at *
  generalize take 1 p3.2 = p4 at *
  generalize take 55 p4.2 = p5 at *
  generalize take 54 p5.2 = p6 at *
  generalize (decide (p6.1 ≠ ⟨#[49]⟩) && decide (p6.1 ≠ ⟨#[50]⟩)) = q6
  have h7 := number_fits (s := (p6.2.1, p6.2.2 || q6)) h6.2 150
  generalize number 150 (p6.2.1, p6.2.2 || q6) = p7 at *
  generalize (decide (p7.1 < 1) || decide (8 < p7.1)) = q7
  have h8 := number_fits (s := (p7.2.1, p7.2.2 || q7)) h7.2 32
  generalize number 32 (p7.2.1, p7.2.2 || q7) = p8 at *
  have h9 := number_fits h8.2 31
  generalize number 31 p8.2 = p9 at *
  have h10 := number_fits h9.2 60
  exact ⟨⟨h1.1, h2.1, h3.1, h4.1, h5.1, by show I64 (if q7 = true then 0 else p7.1); split; (unfold I64; omega); exact h7.1, h8.1, h9.1, h10.1⟩, h10.2⟩
theorem noEx_fits2 : noEx.Fits := ⟨by unfold Str; decide, by unfold Str; decide, by unfold Str; decide, by unfold Str; decide, by unfold Str; decide, by unfold I64; decide, by unfold I64; decide, by unfold I64; decide, by unfold I64; decide⟩
theorem kindR_fits (s : ByteArray) : I64 (kindR s) := by
  unfold kindR
  repeat' split
  all_goals (unfold I64; omega)
theorem readP_fits {l : List F} (h : l.all Fld.rightF = true) : (readP l).1.Fits := by
  have h0 : Okk (l, false) := fun f hf => by
    rw [List.all_eq_true] at h
    exact ((Fld.right_iff f).1 (h f hf)).2.2.2.1
  have h1 := take_fits h0 35
  have h2 := number_fits h1.2 34
  have h3 := number_fits h2.2 52
  have h4 := yes_fits h3.2 43
  have z : I64 0 := by unfold I64; omega
  have ze : Str emp := by unfold Str; decide
  have hh : (headR l).1.Fits ∧ Okk (headR l).2 := ⟨⟨kindR_fits _, h2.1, h3.1, z, z, ze, noEx_fits2⟩, h4⟩
  unfold readP
  generalize headR l = p at hh
  obtain ⟨m, s⟩ := p
  obtain ⟨hm, hs⟩ := hh
  unfold tailR
  dsimp only at hm hs ⊢
  split
  · exact ⟨hm.kind, hm.seq, hm.time, (number_fits hs 108).1, hm.b, hm.text, hm.exec⟩
  · split
    · exact ⟨hm.kind, hm.seq, hm.time, hm.a, hm.b, (maybe_fits hs 112).1, hm.exec⟩
    · split
      · exact ⟨hm.kind, hm.seq, hm.time, (number_fits hs 7).1, (number_fits (number_fits hs 7).2 16).1, hm.text, hm.exec⟩
      · split
        · exact ⟨hm.kind, hm.seq, hm.time, (number_fits (yes_fits hs 123) 36).1, hm.b, hm.text, hm.exec⟩
        · split
          · exact ⟨hm.kind, hm.seq, hm.time, hm.a, hm.b, hm.text, (exec_fits hs).1⟩
          · exact hm

theorem ms_one (m : Ms) : m.cells.all (·.oneCell') = true := by
  unfold Ms.cells
  simp [Value.oneCell']
theorem read_end {fn : Func} (hfn : fn.results = #[.cell 2 36, .tmp 3]) (g : Nat) (W : World) (cs old : Array Value) (tmps : Array Value) (n : Int) (hw : W.heap[g]? = some (.cells old 36 (0, 0))) (hcs : cs.size = 18)
    (ht2 : tmps.getD 2 undef = .pointer (some ⟨g, 0, none⟩)) (ht3 : tmps.getD 3 undef = .int .i64 n) : (results fn tmps).run Try.prog (W.setRow g cs) = .ok (.tuple #[.agg cs, .int .i64 n]) (W.setRow g cs) := by
  rw [results_row_tmp hfn tmps _ _ g 36 cs (0, 0) _ ht2 (setRow_heap W _ _ cs _ _ hw) Try.underlying36 rfl (by rw [hcs]; kernel_rfl), ht3]
theorem eq_guard (op : BinOp) (x y : Operand) (a b : Array Value) (w : World) : (eqGuard op 36 x y (.agg a) (.agg b)).run Try.prog w = .ok () w := run_eqGuard_agg w op _ _ _ _ _ (by kernel_rfl)

end Msg
end Go.Proofs.Ytnmmokdkngccjaa
