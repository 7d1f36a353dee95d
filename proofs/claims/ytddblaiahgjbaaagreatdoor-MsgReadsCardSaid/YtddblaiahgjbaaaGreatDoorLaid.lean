/-
  What the listed package-level variables hold, as the walks want it, and that it stays over calls that write to new memory alone.
-/
import Derived.Test.YtddblaiahgjbaaaGreatDoorTools
import Derived.Test.YtddblaiahgjbaaaGreatDoorShelf
import Derived.Test.YtddblaiahgjbaaaGreatDoorRows
import Derived.WalkSmall
import Derived.Lib.LaidTab
import Derived.Lib.ItoaNum
import Derived.Stop.LaidErr
import Derived.LaidLaws
import Derived.Shelf.Vars
namespace Go.Proofs.YtddblaiahgjbaaaGreatDoor
open Go.RowKit

/-- the library's table of powers of ten, and its two errors, lie in their variables -/
structure Laid (w : World) : Prop where
  tab : Lib.TabIs Tryz.prog w "internal/strconv.uint64pow10" .u64 Lib.pow10Tab
  syn : ∃ tp p, w.var? Tryz.prog "strconv.ErrSyntax" = some #[.iface tp p]
  rng : ∃ tp p, w.var? Tryz.prog "strconv.ErrRange" = some #[.iface tp p]
  max : ∃ m, w.cell? ⟨0, 0, none⟩ = some (.int .i64 m)

theorem gTab : Tryz.prog.globalNamed "internal/strconv.uint64pow10" = some 1 := by kernel_rfl
theorem gSyn : Tryz.prog.globalNamed "strconv.ErrSyntax" = some 2 := by kernel_rfl
theorem gRng : Tryz.prog.globalNamed "strconv.ErrRange" = some 3 := by kernel_rfl

theorem var_lt {P : Program} {w : World} {n : String} {g : Nat} {cs : Array Value} (hg : P.globalNamed n = some g) (hv : w.var? P n = some cs) : g < w.heap.size := by
  unfold World.var? at hv
  rw [hg] at hv
  simp only [Option.bind_some] at hv
  by_cases h : g < w.heap.size
  · exact h
  · rw [Array.getElem?_eq_none (by omega)] at hv
    cases hv
theorem Laid.below {w w' : World} (h : Laid w) (hb : Below w.heap.size w w') : Laid w' := by
  obtain ⟨tp, p, hs⟩ := h.syn
  obtain ⟨tq, q, hr⟩ := h.rng
  exact ⟨var?_below hb gTab (var_lt gTab h.tab) h.tab, ⟨tp, p, var?_below hb gSyn (var_lt gSyn hs) hs⟩, ⟨tq, q, var?_below hb gRng (var_lt gRng hr) hr⟩
    , h.max.imp fun _ hm => (hb.cell (p := ⟨0, 0, none⟩) (cell_lt hm)).trans hm
    ⟩
/-- up to which length the library searches at once: some number -/
theorem laid_max {W : World} (h : W.ShapedOpen Tryz.prog) : ∃ m, W.cell? ⟨0, 0, none⟩ = some (.int .i64 m) :=
  Go.Proofs.cell_of_shapedOpen_int (zero := #[.int .i64 0]) (t := 3) h (of_decide_eq_true (by kernel_rfl)) (by kernel_rfl) rfl (by kernel_rfl) (by kernel_rfl) Tryz.underlying3

/-! ### From a row's list to these facts -/
theorem tTab : (Tryz.prog.globals[1]?).map (·.type) = some 112 := by kernel_rfl
theorem tSyn : (Tryz.prog.globals[2]?).map (·.type) = some 97 := by kernel_rfl
theorem tRng : (Tryz.prog.globals[3]?).map (·.type) = some 97 := by kernel_rfl
theorem cTab : Tryz.prog.cellsOf 112 = 20 := by kernel_rfl
theorem cU64 : Tryz.prog.cellsOf 91 = 1 := by kernel_rfl
theorem cStr : Tryz.prog.cellsOf 9 = 1 := by kernel_rfl
theorem cErr : Tryz.prog.cellsOf 132 = 1 := by kernel_rfl
theorem star : "*" ++ "errors.errorString" = "*errors.errorString" := by decide
theorem oneRow (u : TypeId) (h : Tryz.prog.typeName? 3 u = some "*errors.errorString") : u = 130 :=
  typeName_ptr_named (nm := "errors.errorString") (by rw [star]; kernel_rfl) (by kernel_rfl) (by decide) u (by rw [star]; exact h)

theorem laid_tab {r : List (String × DataW Unit)} {W : World} (h : laidMet Tryz.prog (("internal/strconv.uint64pow10", Rows.laid_internal_strconv_uint64pow10) :: r) W) : Lib.TabIs Tryz.prog W "internal/strconv.uint64pow10" .u64 Lib.pow10Tab :=
  Lib.tabIs_of_head (rest := r) gTab tTab Tryz.underlying112 Tryz.underlying91 cU64 cTab h
theorem laid_syn {r : List (String × DataW Unit)} {W : World} (h : laidMet Tryz.prog (("strconv.ErrSyntax", Rows.laid_strconv_ErrSyntax) :: r) W) : ∃ tp p, W.var? Tryz.prog "strconv.ErrSyntax" = some #[.iface tp p] := by
  obtain ⟨a, s, hv, _⟩ := laid_sentinel h gSyn tSyn Tryz.underlying97 oneRow Tryz.underlying130 Tryz.underlying132 rfl rfl Tryz.underlying9 cErr cStr
  exact ⟨_, _, hv⟩
theorem laid_rng {r : List (String × DataW Unit)} {W : World} (h : laidMet Tryz.prog (("strconv.ErrRange", Rows.laid_strconv_ErrRange) :: r) W) : ∃ tp p, W.var? Tryz.prog "strconv.ErrRange" = some #[.iface tp p] := by
  obtain ⟨a, s, hv, _⟩ := laid_sentinel h gRng tRng Tryz.underlying97 oneRow Tryz.underlying130 Tryz.underlying132 rfl rfl Tryz.underlying9 cErr cStr
  exact ⟨_, _, hv⟩

end Go.Proofs.YtddblaiahgjbaaaGreatDoor
