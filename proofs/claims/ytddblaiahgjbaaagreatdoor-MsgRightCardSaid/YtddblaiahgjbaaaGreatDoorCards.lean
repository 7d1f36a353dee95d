/-
  DERIVED. GIVEN WITH THE SEED: THE CARDS: each row of YtddblaiahgjbaaaGreatDoorRows.lean that lists a variable, with what it lists TIED to the program's text (the seventh form; the later family's looks); each row that meets fmt, with fmt's text TOLD by the authors' own Lean function (tested against real Go, not proved from fmt's source: count such statements apart). THE CARD IS WHAT COUNTS. Prove the row's statement (the work); the ties are given (YtddblaiahgjbaaaGreatDoorTie.lean); close each card by the builder's one call (the guide's Derived/Test/ToyasCard.lean, 'card_holds'). Laid BY PROGRAM, IN A SANDBOX (cutbox-door.mjs). By AI agents, Wed Nov 11 2026. No macro, syntax, notation, axiom, sorry.
-/
import Derived.Test.YtddblaiahgjbaaaGreatDoorRows
import GoSem.ClaimSeven
namespace Go.Proofs.YtddblaiahgjbaaaGreatDoor
namespace Rows

/-- THE TIED CARD OF 'checkrolllaw05.MsgRight'. -/
def msgRightCard : Claim7 := { stood := { row := msgRightRow, standIns := [], harness := (true, "c2c9e93bc08ffee9c919bab2f90eef63209f38ac13a0b9570faa04783d59a8bb"), looks := true }, kinds := [], alts := [], laidByText := true, laidKinds := [.data, .data, .data, .sentinel, .sentinel], laidTests := true, laidLooks := .later }
def MsgRightCardSaid : Prop := Claim7.holds Tryz.pinned (.plain (OpenSpec.ofChange msgRightSpec)) msgRightCard

/-- THE TIED CARD OF 'checkrolllaw05.MsgReads'. -/
def msgReadsCard : Claim7 := { stood := { row := msgReadsRow, standIns := [], harness := (true, "c2c9e93bc08ffee9c919bab2f90eef63209f38ac13a0b9570faa04783d59a8bb"), looks := true }, kinds := [], alts := [], laidByText := true, laidKinds := [.data, .data, .data, .sentinel, .sentinel], laidTests := true, laidLooks := .later }
def MsgReadsCardSaid : Prop := Claim7.holds Tryz.pinned (.plain (OpenSpec.ofChange msgReadsSpec)) msgReadsCard

/-- THE SECOND FORM's CARD OF 'checkrolllaw05.MsgRight'. -/
def msgRightUptoCard : Claim7 := { stood := { row := msgRightUptoRow, standIns := [], harness := (true, "c2c9e93bc08ffee9c919bab2f90eef63209f38ac13a0b9570faa04783d59a8bb"), looks := true }, kinds := [], alts := [], laidByText := true, laidKinds := [.data, .data, .data, .sentinel, .sentinel], laidTests := true, laidLooks := .later }
def MsgRightUptoCardSaid : Prop := Claim7.holds Tryz.pinned (.plain (OpenSpec.upto msgRightSpec)) msgRightUptoCard

/-- THE SECOND FORM's CARD OF 'checkrolllaw05.MsgReads'. -/
def msgReadsUptoCard : Claim7 := { stood := { row := msgReadsUptoRow, standIns := [], harness := (true, "c2c9e93bc08ffee9c919bab2f90eef63209f38ac13a0b9570faa04783d59a8bb"), looks := true }, kinds := [], alts := [], laidByText := true, laidKinds := [.data, .data, .data, .sentinel, .sentinel], laidTests := true, laidLooks := .later }
def MsgReadsUptoCardSaid : Prop := Claim7.holds Tryz.pinned (.plain (OpenSpec.upto msgReadsSpec)) msgReadsUptoCard
end Rows
end Go.Proofs.YtddblaiahgjbaaaGreatDoor
