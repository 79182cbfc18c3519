/-
  DERIVED. GIVEN WITH THE SEED: THE CARDS: each row of YtpmakljahhhnfaaDoorRows.lean that lists a variable, with what it lists TIED to the program's text (the seventh form; the later family's looks); each row that meets fmt, with fmt's text TOLD by the authors' own Lean function (tested against real Go, not proved from fmt's source: count such statements apart). THE CARD IS WHAT COUNTS. Prove the row's statement (the work); the ties are given (YtpmakljahhhnfaaDoorTie.lean); close each card by the builder's one call (the guide's Derived/Test/ToyasCard.lean, 'card_holds'). Laid BY PROGRAM, IN A SANDBOX (cutbox-door.mjs). By AI agents, Wed Nov 11 2026. No macro, syntax, notation, axiom, sorry.
-/
import Derived.Test.YtpmakljahhhnfaaDoorRows
import GoSem.ClaimSeven
namespace Go.Proofs.YtpmakljahhhnfaaDoor
namespace Rows

/-- THE TIED CARD OF 'peloruslaw07.QuotHolds'. -/
def quotHoldsCard : Claim7 := { stood := { row := quotHoldsRow, standIns := [], harness := (true, "6a7dd24510937e3e375974076f4750c74d4eb75a6a09e22f6d5ef5576a455927"), looks := false }, kinds := [], alts := [], laidByText := true, laidKinds := [.data], laidTests := true, laidLooks := .later }
def QuotHoldsCardSaid : Prop := Claim7.holds Tryd.pinned (.plain (OpenSpec.ofChange quotHoldsSpec)) quotHoldsCard

/-- THE TIED CARD OF 'peloruslaw07.QuotSquares'. -/
def quotSquaresCard : Claim7 := { stood := { row := quotSquaresRow, standIns := [], harness := (true, "6a7dd24510937e3e375974076f4750c74d4eb75a6a09e22f6d5ef5576a455927"), looks := false }, kinds := [], alts := [], laidByText := true, laidKinds := [.data], laidTests := true, laidLooks := .later }
def QuotSquaresCardSaid : Prop := Claim7.holds Tryd.pinned (.plain (OpenSpec.ofChange quotSquaresSpec)) quotSquaresCard

/-- THE TIED CARD OF 'peloruslaw07.QuotDecimals'. -/
def quotDecimalsCard : Claim7 := { stood := { row := quotDecimalsRow, standIns := [], harness := (true, "6a7dd24510937e3e375974076f4750c74d4eb75a6a09e22f6d5ef5576a455927"), looks := false }, kinds := [], alts := [], laidByText := true, laidKinds := [.data], laidTests := true, laidLooks := .later }
def QuotDecimalsCardSaid : Prop := Claim7.holds Tryd.pinned (.plain (OpenSpec.ofChange quotDecimalsSpec)) quotDecimalsCard

/-- THE TIED CARD OF 'peloruslaw07.QuotUnits'. -/
def quotUnitsCard : Claim7 := { stood := { row := quotUnitsRow, standIns := [], harness := (true, "6a7dd24510937e3e375974076f4750c74d4eb75a6a09e22f6d5ef5576a455927"), looks := false }, kinds := [], alts := [], laidByText := true, laidKinds := [.data], laidTests := true, laidLooks := .later }
def QuotUnitsCardSaid : Prop := Claim7.holds Tryd.pinned (.plain (OpenSpec.ofChange quotUnitsSpec)) quotUnitsCard

/-- THE TIED CARD OF 'peloruslaw07.QuotTurns'. -/
def quotTurnsCard : Claim7 := { stood := { row := quotTurnsRow, standIns := [], harness := (true, "6a7dd24510937e3e375974076f4750c74d4eb75a6a09e22f6d5ef5576a455927"), looks := false }, kinds := [], alts := [], laidByText := true, laidKinds := [.data], laidTests := true, laidLooks := .later }
def QuotTurnsCardSaid : Prop := Claim7.holds Tryd.pinned (.plain (OpenSpec.ofChange quotTurnsSpec)) quotTurnsCard

/-- THE SECOND FORM's CARD OF 'peloruslaw07.QuotHolds'. -/
def quotHoldsUptoCard : Claim7 := { stood := { row := quotHoldsUptoRow, standIns := [], harness := (true, "6a7dd24510937e3e375974076f4750c74d4eb75a6a09e22f6d5ef5576a455927"), looks := false }, kinds := [], alts := [], laidByText := true, laidKinds := [.data], laidTests := true, laidLooks := .later }
def QuotHoldsUptoCardSaid : Prop := Claim7.holds Tryd.pinned (.plain (OpenSpec.upto quotHoldsSpec)) quotHoldsUptoCard

/-- THE SECOND FORM's CARD OF 'peloruslaw07.QuotSquares'. -/
def quotSquaresUptoCard : Claim7 := { stood := { row := quotSquaresUptoRow, standIns := [], harness := (true, "6a7dd24510937e3e375974076f4750c74d4eb75a6a09e22f6d5ef5576a455927"), looks := false }, kinds := [], alts := [], laidByText := true, laidKinds := [.data], laidTests := true, laidLooks := .later }
def QuotSquaresUptoCardSaid : Prop := Claim7.holds Tryd.pinned (.plain (OpenSpec.upto quotSquaresSpec)) quotSquaresUptoCard

/-- THE SECOND FORM's CARD OF 'peloruslaw07.QuotDecimals'. -/
def quotDecimalsUptoCard : Claim7 := { stood := { row := quotDecimalsUptoRow, standIns := [], harness := (true, "6a7dd24510937e3e375974076f4750c74d4eb75a6a09e22f6d5ef5576a455927"), looks := false }, kinds := [], alts := [], laidByText := true, laidKinds := [.data], laidTests := true, laidLooks := .later }
def QuotDecimalsUptoCardSaid : Prop := Claim7.holds Tryd.pinned (.plain (OpenSpec.upto quotDecimalsSpec)) quotDecimalsUptoCard

/-- THE SECOND FORM's CARD OF 'peloruslaw07.QuotUnits'. -/
def quotUnitsUptoCard : Claim7 := { stood := { row := quotUnitsUptoRow, standIns := [], harness := (true, "6a7dd24510937e3e375974076f4750c74d4eb75a6a09e22f6d5ef5576a455927"), looks := false }, kinds := [], alts := [], laidByText := true, laidKinds := [.data], laidTests := true, laidLooks := .later }
def QuotUnitsUptoCardSaid : Prop := Claim7.holds Tryd.pinned (.plain (OpenSpec.upto quotUnitsSpec)) quotUnitsUptoCard

/-- THE SECOND FORM's CARD OF 'peloruslaw07.QuotTurns'. -/
def quotTurnsUptoCard : Claim7 := { stood := { row := quotTurnsUptoRow, standIns := [], harness := (true, "6a7dd24510937e3e375974076f4750c74d4eb75a6a09e22f6d5ef5576a455927"), looks := false }, kinds := [], alts := [], laidByText := true, laidKinds := [.data], laidTests := true, laidLooks := .later }
def QuotTurnsUptoCardSaid : Prop := Claim7.holds Tryd.pinned (.plain (OpenSpec.upto quotTurnsSpec)) quotTurnsUptoCard
end Rows
end Go.Proofs.YtpmakljahhhnfaaDoor
