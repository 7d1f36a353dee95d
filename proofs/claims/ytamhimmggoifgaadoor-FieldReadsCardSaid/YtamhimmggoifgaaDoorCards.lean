/-
  DERIVED. GIVEN WITH THE SEED: THE CARDS: each row of YtamhimmggoifgaaDoorRows.lean that lists a variable, with what it lists TIED to the program's text (the seventh form; the later family's looks); each row that meets fmt, with fmt's text TOLD by the authors' own Lean function (tested against real Go, not proved from fmt's source: count such statements apart). THE CARD IS WHAT COUNTS. Prove the row's statement (the work); the ties are given (YtamhimmggoifgaaDoorTie.lean); close each card by the builder's one call (the guide's Derived/Test/ToyasCard.lean, 'card_holds'). Laid BY PROGRAM, IN A SANDBOX (cutbox-door.mjs). By AI agents, Wed Nov 11 2026. No macro, syntax, notation, axiom, sorry.
-/
import Derived.Test.YtamhimmggoifgaaDoorRows
import GoSem.ClaimSeven
namespace Go.Proofs.YtamhimmggoifgaaDoor
namespace Rows

/-- THE TIED CARD OF 'checkrolllaw02.FieldRight'. -/
def fieldRightCard : Claim7 := { stood := { row := fieldRightRow, standIns := [], harness := (true, "bc5f8534da0658a6a103b4dde418c9a59e58724ce124b52dce6f56b82c1f9c09"), looks := true }, kinds := [], alts := [], laidByText := true, laidKinds := [.data, .data, .data, .sentinel, .sentinel], laidTests := true, laidLooks := .later }
def FieldRightCardSaid : Prop := Claim7.holds Tryd.pinned (.plain (OpenSpec.ofChange fieldRightSpec)) fieldRightCard

/-- THE TIED CARD OF 'checkrolllaw02.FieldReads'. -/
def fieldReadsCard : Claim7 := { stood := { row := fieldReadsRow, standIns := [], harness := (true, "bc5f8534da0658a6a103b4dde418c9a59e58724ce124b52dce6f56b82c1f9c09"), looks := true }, kinds := [], alts := [], laidByText := true, laidKinds := [.data, .data, .data, .sentinel, .sentinel], laidTests := true, laidLooks := .later }
def FieldReadsCardSaid : Prop := Claim7.holds Tryd.pinned (.plain (OpenSpec.ofChange fieldReadsSpec)) fieldReadsCard

/-- THE TIED CARD OF 'checkrolllaw02.FieldBack'. -/
def fieldBackCard : Claim7 := { stood := { row := fieldBackRow, standIns := [], harness := (true, "bc5f8534da0658a6a103b4dde418c9a59e58724ce124b52dce6f56b82c1f9c09"), looks := true }, kinds := [], alts := [], laidByText := true, laidKinds := [.data, .data, .data, .sentinel, .sentinel], laidTests := true, laidLooks := .later }
def FieldBackCardSaid : Prop := Claim7.holds Tryd.pinned (.plain (OpenSpec.ofChange fieldBackSpec)) fieldBackCard

/-- THE TIED CARD OF 'checkrolllaw02.FieldCuts'. -/
def fieldCutsCard : Claim7 := { stood := { row := fieldCutsRow, standIns := [], harness := (true, "bc5f8534da0658a6a103b4dde418c9a59e58724ce124b52dce6f56b82c1f9c09"), looks := true }, kinds := [], alts := [], laidByText := true, laidKinds := [.data, .data, .data, .sentinel, .sentinel], laidTests := true, laidLooks := .later }
def FieldCutsCardSaid : Prop := Claim7.holds Tryd.pinned (.plain (OpenSpec.ofChange fieldCutsSpec)) fieldCutsCard

/-- THE SECOND FORM's CARD OF 'checkrolllaw02.FieldRight'. -/
def fieldRightUptoCard : Claim7 := { stood := { row := fieldRightUptoRow, standIns := [], harness := (true, "bc5f8534da0658a6a103b4dde418c9a59e58724ce124b52dce6f56b82c1f9c09"), looks := true }, kinds := [], alts := [], laidByText := true, laidKinds := [.data, .data, .data, .sentinel, .sentinel], laidTests := true, laidLooks := .later }
def FieldRightUptoCardSaid : Prop := Claim7.holds Tryd.pinned (.plain (OpenSpec.upto fieldRightSpec)) fieldRightUptoCard

/-- THE SECOND FORM's CARD OF 'checkrolllaw02.FieldReads'. -/
def fieldReadsUptoCard : Claim7 := { stood := { row := fieldReadsUptoRow, standIns := [], harness := (true, "bc5f8534da0658a6a103b4dde418c9a59e58724ce124b52dce6f56b82c1f9c09"), looks := true }, kinds := [], alts := [], laidByText := true, laidKinds := [.data, .data, .data, .sentinel, .sentinel], laidTests := true, laidLooks := .later }
def FieldReadsUptoCardSaid : Prop := Claim7.holds Tryd.pinned (.plain (OpenSpec.upto fieldReadsSpec)) fieldReadsUptoCard

/-- THE SECOND FORM's CARD OF 'checkrolllaw02.FieldBack'. -/
def fieldBackUptoCard : Claim7 := { stood := { row := fieldBackUptoRow, standIns := [], harness := (true, "bc5f8534da0658a6a103b4dde418c9a59e58724ce124b52dce6f56b82c1f9c09"), looks := true }, kinds := [], alts := [], laidByText := true, laidKinds := [.data, .data, .data, .sentinel, .sentinel], laidTests := true, laidLooks := .later }
def FieldBackUptoCardSaid : Prop := Claim7.holds Tryd.pinned (.plain (OpenSpec.upto fieldBackSpec)) fieldBackUptoCard

/-- THE SECOND FORM's CARD OF 'checkrolllaw02.FieldCuts'. -/
def fieldCutsUptoCard : Claim7 := { stood := { row := fieldCutsUptoRow, standIns := [], harness := (true, "bc5f8534da0658a6a103b4dde418c9a59e58724ce124b52dce6f56b82c1f9c09"), looks := true }, kinds := [], alts := [], laidByText := true, laidKinds := [.data, .data, .data, .sentinel, .sentinel], laidTests := true, laidLooks := .later }
def FieldCutsUptoCardSaid : Prop := Claim7.holds Tryd.pinned (.plain (OpenSpec.upto fieldCutsSpec)) fieldCutsUptoCard
end Rows
end Go.Proofs.YtamhimmggoifgaaDoor
