/-
  DERIVED. GIVEN WITH THE SEED: THE CARDS: each row of YtjcikhacekmcfaaGreatDoorRows.lean that lists a variable, with what it lists TIED to the program's text (the seventh form; the later family's looks); each row that meets fmt, with fmt's text TOLD by the authors' own Lean function (tested against real Go, not proved from fmt's source: count such statements apart). THE CARD IS WHAT COUNTS. Prove the row's statement (the work); the ties are given (YtjcikhacekmcfaaGreatDoorTie.lean); close each card by the builder's one call (the guide's Derived/Test/ToyasCard.lean, 'card_holds'). Laid BY PROGRAM, IN A SANDBOX (cutbox-door.mjs). By AI agents, Wed Nov 11 2026. No macro, syntax, notation, axiom, sorry.
-/
import Derived.Test.YtjcikhacekmcfaaGreatDoorRows
import GoSem.ClaimSeven
namespace Go.Proofs.YtjcikhacekmcfaaGreatDoor
namespace Rows

/-- THE TIED CARD OF 'provostlaw07.WalDoes'. -/
def walDoesCard : Claim7 := { stood := { row := walDoesRow, standIns := [], harness := (true, "11e45c4559ad16e14342a32a1987399abc83d7c77b64112862d7f33186ca5f96"), looks := true }, kinds := [], alts := [], laidByText := true, laidKinds := [.data, .data, .data, .sentinel, .sentinel], laidTests := true, laidLooks := .later }
def WalDoesCardSaid : Prop := Claim7.holds Tryz.pinned (.plain (OpenSpec.ofChange walDoesSpec)) walDoesCard

/-- THE TIED CARD OF 'provostlaw07.WalOpens'. -/
def walOpensCard : Claim7 := { stood := { row := walOpensRow, standIns := [], harness := (true, "11e45c4559ad16e14342a32a1987399abc83d7c77b64112862d7f33186ca5f96"), looks := true }, kinds := [], alts := [], laidByText := true, laidKinds := [.data, .data, .data, .sentinel, .sentinel], laidTests := true, laidLooks := .later }
def WalOpensCardSaid : Prop := Claim7.holds Tryz.pinned (.plain (OpenSpec.ofChange walOpensSpec)) walOpensCard

/-- THE TIED CARD OF 'provostlaw07.WalSnaps'. -/
def walSnapsCard : Claim7 := { stood := { row := walSnapsRow, standIns := [], harness := (true, "11e45c4559ad16e14342a32a1987399abc83d7c77b64112862d7f33186ca5f96"), looks := true }, kinds := [], alts := [], laidByText := true, laidKinds := [.data, .data, .data, .sentinel, .sentinel], laidTests := true, laidLooks := .later }
def WalSnapsCardSaid : Prop := Claim7.holds Tryz.pinned (.plain (OpenSpec.ofChange walSnapsSpec)) walSnapsCard

/-- THE TIED CARD OF 'provostlaw07.WalAnew'. -/
def walAnewCard : Claim7 := { stood := { row := walAnewRow, standIns := [], harness := (true, "11e45c4559ad16e14342a32a1987399abc83d7c77b64112862d7f33186ca5f96"), looks := true }, kinds := [], alts := [], laidByText := true, laidKinds := [.data, .data, .data, .sentinel, .sentinel], laidTests := true, laidLooks := .later }
def WalAnewCardSaid : Prop := Claim7.holds Tryz.pinned (.plain (OpenSpec.ofChange walAnewSpec)) walAnewCard

/-- THE TIED CARD OF 'provostlaw07.WalVotes'. -/
def walVotesCard : Claim7 := { stood := { row := walVotesRow, standIns := [], harness := (true, "11e45c4559ad16e14342a32a1987399abc83d7c77b64112862d7f33186ca5f96"), looks := true }, kinds := [], alts := [], laidByText := true, laidKinds := [.data, .data, .data, .sentinel, .sentinel], laidTests := true, laidLooks := .later }
def WalVotesCardSaid : Prop := Claim7.holds Tryz.pinned (.plain (OpenSpec.ofChange walVotesSpec)) walVotesCard

/-- THE TIED CARD OF 'provostlaw07.WalHolds'. -/
def walHoldsCard : Claim7 := { stood := { row := walHoldsRow, standIns := [], harness := (true, "11e45c4559ad16e14342a32a1987399abc83d7c77b64112862d7f33186ca5f96"), looks := true }, kinds := [], alts := [], laidByText := true, laidKinds := [.data, .data, .data, .sentinel, .sentinel], laidTests := true, laidLooks := .later }
def WalHoldsCardSaid : Prop := Claim7.holds Tryz.pinned (.plain (OpenSpec.ofChange walHoldsSpec)) walHoldsCard

/-- THE SECOND FORM's CARD OF 'provostlaw07.WalDoes'. -/
def walDoesUptoCard : Claim7 := { stood := { row := walDoesUptoRow, standIns := [], harness := (true, "11e45c4559ad16e14342a32a1987399abc83d7c77b64112862d7f33186ca5f96"), looks := true }, kinds := [], alts := [], laidByText := true, laidKinds := [.data, .data, .data, .sentinel, .sentinel], laidTests := true, laidLooks := .later }
def WalDoesUptoCardSaid : Prop := Claim7.holds Tryz.pinned (.plain (OpenSpec.upto walDoesSpec)) walDoesUptoCard

/-- THE SECOND FORM's CARD OF 'provostlaw07.WalOpens'. -/
def walOpensUptoCard : Claim7 := { stood := { row := walOpensUptoRow, standIns := [], harness := (true, "11e45c4559ad16e14342a32a1987399abc83d7c77b64112862d7f33186ca5f96"), looks := true }, kinds := [], alts := [], laidByText := true, laidKinds := [.data, .data, .data, .sentinel, .sentinel], laidTests := true, laidLooks := .later }
def WalOpensUptoCardSaid : Prop := Claim7.holds Tryz.pinned (.plain (OpenSpec.upto walOpensSpec)) walOpensUptoCard

/-- THE SECOND FORM's CARD OF 'provostlaw07.WalSnaps'. -/
def walSnapsUptoCard : Claim7 := { stood := { row := walSnapsUptoRow, standIns := [], harness := (true, "11e45c4559ad16e14342a32a1987399abc83d7c77b64112862d7f33186ca5f96"), looks := true }, kinds := [], alts := [], laidByText := true, laidKinds := [.data, .data, .data, .sentinel, .sentinel], laidTests := true, laidLooks := .later }
def WalSnapsUptoCardSaid : Prop := Claim7.holds Tryz.pinned (.plain (OpenSpec.upto walSnapsSpec)) walSnapsUptoCard

/-- THE SECOND FORM's CARD OF 'provostlaw07.WalAnew'. -/
def walAnewUptoCard : Claim7 := { stood := { row := walAnewUptoRow, standIns := [], harness := (true, "11e45c4559ad16e14342a32a1987399abc83d7c77b64112862d7f33186ca5f96"), looks := true }, kinds := [], alts := [], laidByText := true, laidKinds := [.data, .data, .data, .sentinel, .sentinel], laidTests := true, laidLooks := .later }
def WalAnewUptoCardSaid : Prop := Claim7.holds Tryz.pinned (.plain (OpenSpec.upto walAnewSpec)) walAnewUptoCard

/-- THE SECOND FORM's CARD OF 'provostlaw07.WalVotes'. -/
def walVotesUptoCard : Claim7 := { stood := { row := walVotesUptoRow, standIns := [], harness := (true, "11e45c4559ad16e14342a32a1987399abc83d7c77b64112862d7f33186ca5f96"), looks := true }, kinds := [], alts := [], laidByText := true, laidKinds := [.data, .data, .data, .sentinel, .sentinel], laidTests := true, laidLooks := .later }
def WalVotesUptoCardSaid : Prop := Claim7.holds Tryz.pinned (.plain (OpenSpec.upto walVotesSpec)) walVotesUptoCard

/-- THE SECOND FORM's CARD OF 'provostlaw07.WalHolds'. -/
def walHoldsUptoCard : Claim7 := { stood := { row := walHoldsUptoRow, standIns := [], harness := (true, "11e45c4559ad16e14342a32a1987399abc83d7c77b64112862d7f33186ca5f96"), looks := true }, kinds := [], alts := [], laidByText := true, laidKinds := [.data, .data, .data, .sentinel, .sentinel], laidTests := true, laidLooks := .later }
def WalHoldsUptoCardSaid : Prop := Claim7.holds Tryz.pinned (.plain (OpenSpec.upto walHoldsSpec)) walHoldsUptoCard
end Rows
end Go.Proofs.YtjcikhacekmcfaaGreatDoor
