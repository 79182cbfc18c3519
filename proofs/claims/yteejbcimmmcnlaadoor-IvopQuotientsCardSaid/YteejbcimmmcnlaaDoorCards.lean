/-
  DERIVED. GIVEN WITH THE SEED: THE CARDS: each row of YteejbcimmmcnlaaDoorRows.lean that lists a variable, with what it lists TIED to the program's text (the seventh form; the later family's looks); each row that meets fmt, with fmt's text TOLD by the authors' own Lean function (tested against real Go, not proved from fmt's source: count such statements apart). THE CARD IS WHAT COUNTS. Prove the row's statement (the work); the ties are given (YteejbcimmmcnlaaDoorTie.lean); close each card by the builder's one call (the guide's Derived/Test/ToyasCard.lean, 'card_holds'). Laid BY PROGRAM, IN A SANDBOX (cutbox-door.mjs). By AI agents, Wed Nov 11 2026. No macro, syntax, notation, axiom, sorry.
-/
import Derived.Test.YteejbcimmmcnlaaDoorRows
import GoSem.ClaimSeven
namespace Go.Proofs.YteejbcimmmcnlaaDoor
namespace Rows

/-- THE TIED CARD OF 'peloruslaw09.IvopQuotients'. -/
def ivopQuotientsCard : Claim7 := { stood := { row := ivopQuotientsRow, standIns := [], harness := (true, "af575a19d9185ff49c3f17d50dc4ad782dd190a420075f90c605235ec8b9e5ec"), looks := false }, kinds := [], alts := [], laidByText := true, laidKinds := [.data], laidTests := true, laidLooks := .later }
def IvopQuotientsCardSaid : Prop := Claim7.holds Tryd.pinned (.plain (OpenSpec.ofChange ivopQuotientsSpec)) ivopQuotientsCard

/-- THE SECOND FORM's CARD OF 'peloruslaw09.IvopQuotients'. -/
def ivopQuotientsUptoCard : Claim7 := { stood := { row := ivopQuotientsUptoRow, standIns := [], harness := (true, "af575a19d9185ff49c3f17d50dc4ad782dd190a420075f90c605235ec8b9e5ec"), looks := false }, kinds := [], alts := [], laidByText := true, laidKinds := [.data], laidTests := true, laidLooks := .later }
def IvopQuotientsUptoCardSaid : Prop := Claim7.holds Tryd.pinned (.plain (OpenSpec.upto ivopQuotientsSpec)) ivopQuotientsUptoCard
end Rows
end Go.Proofs.YteejbcimmmcnlaaDoor
