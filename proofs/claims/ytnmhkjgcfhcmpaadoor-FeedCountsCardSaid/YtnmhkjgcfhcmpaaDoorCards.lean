/-
  DERIVED. GIVEN WITH THE SEED: THE CARDS: each row of YtnmhkjgcfhcmpaaDoorRows.lean that lists a variable, with what it lists TIED to the program's text (the seventh form; the later family's looks); each row that meets fmt, with fmt's text TOLD by the authors' own Lean function (tested against real Go, not proved from fmt's source: count such statements apart). THE CARD IS WHAT COUNTS. Prove the row's statement (the work); the ties are given (YtnmhkjgcfhcmpaaDoorTie.lean); close each card by the builder's one call (the guide's Derived/Test/ToyasCard.lean, 'card_holds'). Laid BY PROGRAM, IN A SANDBOX (cutbox-door.mjs). By AI agents, Wed Nov 11 2026. No macro, syntax, notation, axiom, sorry.
-/
import Derived.Test.YtnmhkjgcfhcmpaaDoorRows
import GoSem.ClaimSeven
namespace Go.Proofs.YtnmhkjgcfhcmpaaDoor
namespace Rows

/-- THE TIED CARD OF 'checkrolllaw04.FeedRight'. -/
def feedRightCard : Claim7 := { stood := { row := feedRightRow, standIns := [], harness := (true, "4e6f6a444343f5de586a81346c180d66553b874f8e73c14ed86848db292df84d"), looks := true }, kinds := [], alts := [], laidByText := true, laidKinds := [.data, .data, .data, .sentinel, .sentinel], laidTests := true, laidLooks := .later }
def FeedRightCardSaid : Prop := Claim7.holds Tryd.pinned (.plain (OpenSpec.ofChange feedRightSpec)) feedRightCard

/-- THE TIED CARD OF 'checkrolllaw04.FeedPieces'. -/
def feedPiecesCard : Claim7 := { stood := { row := feedPiecesRow, standIns := [], harness := (true, "4e6f6a444343f5de586a81346c180d66553b874f8e73c14ed86848db292df84d"), looks := true }, kinds := [], alts := [], laidByText := true, laidKinds := [.data, .data, .data, .sentinel, .sentinel], laidTests := true, laidLooks := .later }
def FeedPiecesCardSaid : Prop := Claim7.holds Tryd.pinned (.plain (OpenSpec.ofChange feedPiecesSpec)) feedPiecesCard

/-- THE TIED CARD OF 'checkrolllaw04.FeedCounts'. -/
def feedCountsCard : Claim7 := { stood := { row := feedCountsRow, standIns := [], harness := (true, "4e6f6a444343f5de586a81346c180d66553b874f8e73c14ed86848db292df84d"), looks := true }, kinds := [], alts := [], laidByText := true, laidKinds := [.data, .data, .data, .sentinel, .sentinel], laidTests := true, laidLooks := .later }
def FeedCountsCardSaid : Prop := Claim7.holds Tryd.pinned (.plain (OpenSpec.ofChange feedCountsSpec)) feedCountsCard

/-- THE TIED CARD OF 'checkrolllaw04.FeedJunk'. -/
def feedJunkCard : Claim7 := { stood := { row := feedJunkRow, standIns := [], harness := (true, "4e6f6a444343f5de586a81346c180d66553b874f8e73c14ed86848db292df84d"), looks := true }, kinds := [], alts := [], laidByText := true, laidKinds := [.data, .data, .data, .sentinel, .sentinel], laidTests := true, laidLooks := .later }
def FeedJunkCardSaid : Prop := Claim7.holds Tryd.pinned (.plain (OpenSpec.ofChange feedJunkSpec)) feedJunkCard

/-- THE SECOND FORM's CARD OF 'checkrolllaw04.FeedRight'. -/
def feedRightUptoCard : Claim7 := { stood := { row := feedRightUptoRow, standIns := [], harness := (true, "4e6f6a444343f5de586a81346c180d66553b874f8e73c14ed86848db292df84d"), looks := true }, kinds := [], alts := [], laidByText := true, laidKinds := [.data, .data, .data, .sentinel, .sentinel], laidTests := true, laidLooks := .later }
def FeedRightUptoCardSaid : Prop := Claim7.holds Tryd.pinned (.plain (OpenSpec.upto feedRightSpec)) feedRightUptoCard

/-- THE SECOND FORM's CARD OF 'checkrolllaw04.FeedPieces'. -/
def feedPiecesUptoCard : Claim7 := { stood := { row := feedPiecesUptoRow, standIns := [], harness := (true, "4e6f6a444343f5de586a81346c180d66553b874f8e73c14ed86848db292df84d"), looks := true }, kinds := [], alts := [], laidByText := true, laidKinds := [.data, .data, .data, .sentinel, .sentinel], laidTests := true, laidLooks := .later }
def FeedPiecesUptoCardSaid : Prop := Claim7.holds Tryd.pinned (.plain (OpenSpec.upto feedPiecesSpec)) feedPiecesUptoCard

/-- THE SECOND FORM's CARD OF 'checkrolllaw04.FeedCounts'. -/
def feedCountsUptoCard : Claim7 := { stood := { row := feedCountsUptoRow, standIns := [], harness := (true, "4e6f6a444343f5de586a81346c180d66553b874f8e73c14ed86848db292df84d"), looks := true }, kinds := [], alts := [], laidByText := true, laidKinds := [.data, .data, .data, .sentinel, .sentinel], laidTests := true, laidLooks := .later }
def FeedCountsUptoCardSaid : Prop := Claim7.holds Tryd.pinned (.plain (OpenSpec.upto feedCountsSpec)) feedCountsUptoCard

/-- THE SECOND FORM's CARD OF 'checkrolllaw04.FeedJunk'. -/
def feedJunkUptoCard : Claim7 := { stood := { row := feedJunkUptoRow, standIns := [], harness := (true, "4e6f6a444343f5de586a81346c180d66553b874f8e73c14ed86848db292df84d"), looks := true }, kinds := [], alts := [], laidByText := true, laidKinds := [.data, .data, .data, .sentinel, .sentinel], laidTests := true, laidLooks := .later }
def FeedJunkUptoCardSaid : Prop := Claim7.holds Tryd.pinned (.plain (OpenSpec.upto feedJunkSpec)) feedJunkUptoCard
end Rows
end Go.Proofs.YtnmhkjgcfhcmpaaDoor
