/-
  DERIVED. GIVEN WITH THE SEED: THE CARDS: each row of YtpmakljahhhnfaaGreatDoorRows.lean that lists a variable, with what it lists TIED to the program's text (the seventh form; the later family's looks); each row that meets fmt, with fmt's text TOLD by the authors' own Lean function (tested against real Go, not proved from fmt's source: count such statements apart). THE CARD IS WHAT COUNTS. Prove the row's statement (the work); the ties are given (YtpmakljahhhnfaaGreatDoorTie.lean); close each card by the builder's one call (the guide's Derived/Test/ToyasCard.lean, 'card_holds'). Laid BY PROGRAM, IN A SANDBOX (cutbox-door.mjs). By AI agents, Wed Nov 11 2026. No macro, syntax, notation, axiom, sorry.
-/
import Derived.Test.YtpmakljahhhnfaaGreatDoorRows
import GoSem.ClaimSeven
namespace Go.Proofs.YtpmakljahhhnfaaGreatDoor
namespace Rows

/-- THE TIED CARD OF 'peloruslaw07.QuotDivs'. -/
def quotDivsCard : Claim7 := { stood := { row := quotDivsRow, standIns := [], harness := (true, "b12e5692c6c20d744082121aa570ed6bcc8e802f8291af221a89109e17ce91d4"), looks := false }, kinds := [], alts := [], laidByText := true, laidKinds := [.data], laidTests := true, laidLooks := .later }
def QuotDivsCardSaid : Prop := Claim7.holds Tryz.pinned (.plain (OpenSpec.ofChange quotDivsSpec)) quotDivsCard

/-- THE TIED CARD OF 'peloruslaw07.QuotRoots'. -/
def quotRootsCard : Claim7 := { stood := { row := quotRootsRow, standIns := [], harness := (true, "b12e5692c6c20d744082121aa570ed6bcc8e802f8291af221a89109e17ce91d4"), looks := false }, kinds := [], alts := [], laidByText := true, laidKinds := [.data], laidTests := true, laidLooks := .later }
def QuotRootsCardSaid : Prop := Claim7.holds Tryz.pinned (.plain (OpenSpec.ofChange quotRootsSpec)) quotRootsCard

/-- THE TIED CARD OF 'peloruslaw07.QuotRatios'. -/
def quotRatiosCard : Claim7 := { stood := { row := quotRatiosRow, standIns := [], harness := (true, "b12e5692c6c20d744082121aa570ed6bcc8e802f8291af221a89109e17ce91d4"), looks := false }, kinds := [], alts := [], laidByText := true, laidKinds := [.data], laidTests := true, laidLooks := .later }
def QuotRatiosCardSaid : Prop := Claim7.holds Tryz.pinned (.plain (OpenSpec.ofChange quotRatiosSpec)) quotRatiosCard

/-- THE SECOND FORM's CARD OF 'peloruslaw07.QuotDivs'. -/
def quotDivsUptoCard : Claim7 := { stood := { row := quotDivsUptoRow, standIns := [], harness := (true, "b12e5692c6c20d744082121aa570ed6bcc8e802f8291af221a89109e17ce91d4"), looks := false }, kinds := [], alts := [], laidByText := true, laidKinds := [.data], laidTests := true, laidLooks := .later }
def QuotDivsUptoCardSaid : Prop := Claim7.holds Tryz.pinned (.plain (OpenSpec.upto quotDivsSpec)) quotDivsUptoCard

/-- THE SECOND FORM's CARD OF 'peloruslaw07.QuotRoots'. -/
def quotRootsUptoCard : Claim7 := { stood := { row := quotRootsUptoRow, standIns := [], harness := (true, "b12e5692c6c20d744082121aa570ed6bcc8e802f8291af221a89109e17ce91d4"), looks := false }, kinds := [], alts := [], laidByText := true, laidKinds := [.data], laidTests := true, laidLooks := .later }
def QuotRootsUptoCardSaid : Prop := Claim7.holds Tryz.pinned (.plain (OpenSpec.upto quotRootsSpec)) quotRootsUptoCard

/-- THE SECOND FORM's CARD OF 'peloruslaw07.QuotRatios'. -/
def quotRatiosUptoCard : Claim7 := { stood := { row := quotRatiosUptoRow, standIns := [], harness := (true, "b12e5692c6c20d744082121aa570ed6bcc8e802f8291af221a89109e17ce91d4"), looks := false }, kinds := [], alts := [], laidByText := true, laidKinds := [.data], laidTests := true, laidLooks := .later }
def QuotRatiosUptoCardSaid : Prop := Claim7.holds Tryz.pinned (.plain (OpenSpec.upto quotRatiosSpec)) quotRatiosUptoCard
end Rows
end Go.Proofs.YtpmakljahhhnfaaGreatDoor
