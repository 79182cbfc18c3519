/-
  DERIVED. GIVEN WITH THE SEED: THE CARDS: each row of YtnbliijpjcmbjaaGreatDoorRows.lean that lists a variable, with what it lists TIED to the program's text (the seventh form; the later family's looks); each row that meets fmt, with fmt's text TOLD by the authors' own Lean function (tested against real Go, not proved from fmt's source: count such statements apart). THE CARD IS WHAT COUNTS. Prove the row's statement (the work); the ties are given (YtnbliijpjcmbjaaGreatDoorTie.lean); close each card by the builder's one call (the guide's Derived/Test/ToyasCard.lean, 'card_holds'). Laid BY PROGRAM, IN A SANDBOX (cutbox-door.mjs). By AI agents, Wed Nov 11 2026. No macro, syntax, notation, axiom, sorry.
-/
import Derived.Test.YtnbliijpjcmbjaaGreatDoorRows
import GoSem.ClaimSeven
namespace Go.Proofs.YtnbliijpjcmbjaaGreatDoor
namespace Rows

/-- THE TIED CARD OF 'peloruslaw10.BackSums'. -/
def backSumsCard : Claim7 := { stood := { row := backSumsRow, standIns := [], harness := (true, "12b0da221990bf82e857bd68bf231d4521fc5958741387a25daf702e4cd8e08e"), looks := false }, kinds := [], alts := [], laidByText := true, laidKinds := [.data, .data], laidTests := true, laidLooks := .later }
def BackSumsCardSaid : Prop := Claim7.holds Tryz.pinned (.plain (OpenSpec.ofChange backSumsSpec)) backSumsCard

/-- THE TIED CARD OF 'peloruslaw10.BackProducts'. -/
def backProductsCard : Claim7 := { stood := { row := backProductsRow, standIns := [], harness := (true, "12b0da221990bf82e857bd68bf231d4521fc5958741387a25daf702e4cd8e08e"), looks := false }, kinds := [], alts := [], laidByText := true, laidKinds := [.data, .data], laidTests := true, laidLooks := .later }
def BackProductsCardSaid : Prop := Claim7.holds Tryz.pinned (.plain (OpenSpec.ofChange backProductsSpec)) backProductsCard

/-- THE TIED CARD OF 'peloruslaw10.BackRoots'. -/
def backRootsCard : Claim7 := { stood := { row := backRootsRow, standIns := [], harness := (true, "12b0da221990bf82e857bd68bf231d4521fc5958741387a25daf702e4cd8e08e"), looks := false }, kinds := [], alts := [], laidByText := true, laidKinds := [.data, .data], laidTests := true, laidLooks := .later }
def BackRootsCardSaid : Prop := Claim7.holds Tryz.pinned (.plain (OpenSpec.ofChange backRootsSpec)) backRootsCard

/-- THE TIED CARD OF 'peloruslaw10.BackWithin'. -/
def backWithinCard : Claim7 := { stood := { row := backWithinRow, standIns := [], harness := (true, "12b0da221990bf82e857bd68bf231d4521fc5958741387a25daf702e4cd8e08e"), looks := false }, kinds := [], alts := [], laidByText := true, laidKinds := [.data, .data], laidTests := true, laidLooks := .later }
def BackWithinCardSaid : Prop := Claim7.holds Tryz.pinned (.plain (OpenSpec.ofChange backWithinSpec)) backWithinCard

/-- THE TIED CARD OF 'peloruslaw10.BackKeeps'. -/
def backKeepsCard : Claim7 := { stood := { row := backKeepsRow, standIns := [], harness := (true, "12b0da221990bf82e857bd68bf231d4521fc5958741387a25daf702e4cd8e08e"), looks := false }, kinds := [], alts := [], laidByText := true, laidKinds := [.data, .data], laidTests := true, laidLooks := .later }
def BackKeepsCardSaid : Prop := Claim7.holds Tryz.pinned (.plain (OpenSpec.ofChange backKeepsSpec)) backKeepsCard

/-- THE TIED CARD OF 'peloruslaw10.BackEmpty'. -/
def backEmptyCard : Claim7 := { stood := { row := backEmptyRow, standIns := [], harness := (true, "12b0da221990bf82e857bd68bf231d4521fc5958741387a25daf702e4cd8e08e"), looks := false }, kinds := [], alts := [], laidByText := true, laidKinds := [.data, .data], laidTests := true, laidLooks := .later }
def BackEmptyCardSaid : Prop := Claim7.holds Tryz.pinned (.plain (OpenSpec.ofChange backEmptySpec)) backEmptyCard

/-- THE TIED CARD OF 'peloruslaw10.BackPoints'. -/
def backPointsCard : Claim7 := { stood := { row := backPointsRow, standIns := [], harness := (true, "12b0da221990bf82e857bd68bf231d4521fc5958741387a25daf702e4cd8e08e"), looks := false }, kinds := [], alts := [], laidByText := true, laidKinds := [.data, .data], laidTests := true, laidLooks := .later }
def BackPointsCardSaid : Prop := Claim7.holds Tryz.pinned (.plain (OpenSpec.ofChange backPointsSpec)) backPointsCard

/-- THE SECOND FORM's CARD OF 'peloruslaw10.BackSums'. -/
def backSumsUptoCard : Claim7 := { stood := { row := backSumsUptoRow, standIns := [], harness := (true, "12b0da221990bf82e857bd68bf231d4521fc5958741387a25daf702e4cd8e08e"), looks := false }, kinds := [], alts := [], laidByText := true, laidKinds := [.data, .data], laidTests := true, laidLooks := .later }
def BackSumsUptoCardSaid : Prop := Claim7.holds Tryz.pinned (.plain (OpenSpec.upto backSumsSpec)) backSumsUptoCard

/-- THE SECOND FORM's CARD OF 'peloruslaw10.BackProducts'. -/
def backProductsUptoCard : Claim7 := { stood := { row := backProductsUptoRow, standIns := [], harness := (true, "12b0da221990bf82e857bd68bf231d4521fc5958741387a25daf702e4cd8e08e"), looks := false }, kinds := [], alts := [], laidByText := true, laidKinds := [.data, .data], laidTests := true, laidLooks := .later }
def BackProductsUptoCardSaid : Prop := Claim7.holds Tryz.pinned (.plain (OpenSpec.upto backProductsSpec)) backProductsUptoCard

/-- THE SECOND FORM's CARD OF 'peloruslaw10.BackRoots'. -/
def backRootsUptoCard : Claim7 := { stood := { row := backRootsUptoRow, standIns := [], harness := (true, "12b0da221990bf82e857bd68bf231d4521fc5958741387a25daf702e4cd8e08e"), looks := false }, kinds := [], alts := [], laidByText := true, laidKinds := [.data, .data], laidTests := true, laidLooks := .later }
def BackRootsUptoCardSaid : Prop := Claim7.holds Tryz.pinned (.plain (OpenSpec.upto backRootsSpec)) backRootsUptoCard

/-- THE SECOND FORM's CARD OF 'peloruslaw10.BackWithin'. -/
def backWithinUptoCard : Claim7 := { stood := { row := backWithinUptoRow, standIns := [], harness := (true, "12b0da221990bf82e857bd68bf231d4521fc5958741387a25daf702e4cd8e08e"), looks := false }, kinds := [], alts := [], laidByText := true, laidKinds := [.data, .data], laidTests := true, laidLooks := .later }
def BackWithinUptoCardSaid : Prop := Claim7.holds Tryz.pinned (.plain (OpenSpec.upto backWithinSpec)) backWithinUptoCard

/-- THE SECOND FORM's CARD OF 'peloruslaw10.BackKeeps'. -/
def backKeepsUptoCard : Claim7 := { stood := { row := backKeepsUptoRow, standIns := [], harness := (true, "12b0da221990bf82e857bd68bf231d4521fc5958741387a25daf702e4cd8e08e"), looks := false }, kinds := [], alts := [], laidByText := true, laidKinds := [.data, .data], laidTests := true, laidLooks := .later }
def BackKeepsUptoCardSaid : Prop := Claim7.holds Tryz.pinned (.plain (OpenSpec.upto backKeepsSpec)) backKeepsUptoCard

/-- THE SECOND FORM's CARD OF 'peloruslaw10.BackEmpty'. -/
def backEmptyUptoCard : Claim7 := { stood := { row := backEmptyUptoRow, standIns := [], harness := (true, "12b0da221990bf82e857bd68bf231d4521fc5958741387a25daf702e4cd8e08e"), looks := false }, kinds := [], alts := [], laidByText := true, laidKinds := [.data, .data], laidTests := true, laidLooks := .later }
def BackEmptyUptoCardSaid : Prop := Claim7.holds Tryz.pinned (.plain (OpenSpec.upto backEmptySpec)) backEmptyUptoCard

/-- THE SECOND FORM's CARD OF 'peloruslaw10.BackPoints'. -/
def backPointsUptoCard : Claim7 := { stood := { row := backPointsUptoRow, standIns := [], harness := (true, "12b0da221990bf82e857bd68bf231d4521fc5958741387a25daf702e4cd8e08e"), looks := false }, kinds := [], alts := [], laidByText := true, laidKinds := [.data, .data], laidTests := true, laidLooks := .later }
def BackPointsUptoCardSaid : Prop := Claim7.holds Tryz.pinned (.plain (OpenSpec.upto backPointsSpec)) backPointsUptoCard
end Rows
end Go.Proofs.YtnbliijpjcmbjaaGreatDoor
