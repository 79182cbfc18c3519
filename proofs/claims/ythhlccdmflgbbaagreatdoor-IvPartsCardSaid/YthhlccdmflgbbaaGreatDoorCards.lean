/-
  DERIVED. GIVEN WITH THE SEED: THE CARDS: each row of YthhlccdmflgbbaaGreatDoorRows.lean that lists a variable, with what it lists TIED to the program's text (the seventh form; the later family's looks); each row that meets fmt, with fmt's text TOLD by the authors' own Lean function (tested against real Go, not proved from fmt's source: count such statements apart). THE CARD IS WHAT COUNTS. Prove the row's statement (the work); the ties are given (YthhlccdmflgbbaaGreatDoorTie.lean); close each card by the builder's one call (the guide's Derived/Test/ToyasCard.lean, 'card_holds'). Laid BY PROGRAM, IN A SANDBOX (cutbox-door.mjs). By AI agents, Wed Nov 11 2026. No macro, syntax, notation, axiom, sorry.
-/
import Derived.Test.YthhlccdmflgbbaaGreatDoorRows
import GoSem.ClaimSeven
namespace Go.Proofs.YthhlccdmflgbbaaGreatDoor
namespace Rows

/-- THE TIED CARD OF 'peloruslaw08.IvParts'. -/
def ivPartsCard : Claim7 := { stood := { row := ivPartsRow, standIns := [], harness := (true, "d3e470d92ac079b2c98a9ea5104b27e435cec9452f73c71c00eadbadf5cdacd8"), looks := false }, kinds := [], alts := [], laidByText := true, laidKinds := [.data], laidTests := true, laidLooks := .later }
def IvPartsCardSaid : Prop := Claim7.holds Tryz.pinned (.plain (OpenSpec.ofChange ivPartsSpec)) ivPartsCard

/-- THE SECOND FORM's CARD OF 'peloruslaw08.IvParts'. -/
def ivPartsUptoCard : Claim7 := { stood := { row := ivPartsUptoRow, standIns := [], harness := (true, "d3e470d92ac079b2c98a9ea5104b27e435cec9452f73c71c00eadbadf5cdacd8"), looks := false }, kinds := [], alts := [], laidByText := true, laidKinds := [.data], laidTests := true, laidLooks := .later }
def IvPartsUptoCardSaid : Prop := Claim7.holds Tryz.pinned (.plain (OpenSpec.upto ivPartsSpec)) ivPartsUptoCard
end Rows
end Go.Proofs.YthhlccdmflgbbaaGreatDoor
