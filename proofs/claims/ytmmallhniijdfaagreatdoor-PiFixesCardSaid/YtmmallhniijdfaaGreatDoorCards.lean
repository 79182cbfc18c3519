/-
  DERIVED. GIVEN WITH THE SEED: THE CARDS: each row of YtmmallhniijdfaaGreatDoorRows.lean that lists a variable, with what it lists TIED to the program's text (the seventh form; the later family's looks); each row that meets fmt, with fmt's text TOLD by the authors' own Lean function (tested against real Go, not proved from fmt's source: count such statements apart). THE CARD IS WHAT COUNTS. Prove the row's statement (the work); the ties are given (YtmmallhniijdfaaGreatDoorTie.lean); close each card by the builder's one call (the guide's Derived/Test/ToyasCard.lean, 'card_holds'). Laid BY PROGRAM, IN A SANDBOX (cutbox-door.mjs). By AI agents, Wed Nov 11 2026. No macro, syntax, notation, axiom, sorry.
-/
import Derived.Test.YtmmallhniijdfaaGreatDoorRows
import GoSem.ClaimSeven
namespace Go.Proofs.YtmmallhniijdfaaGreatDoor
namespace Rows

/-- THE TIED CARD OF 'peloruslaw11.PiInverses'. -/
def piInversesCard : Claim7 := { stood := { row := piInversesRow, standIns := [], harness := (true, "121b4fa1ebeeac1e339f623fbc853aa0109551daa7b8b2407c39cefcce6de35e"), looks := false }, kinds := [], alts := [], laidByText := true, laidKinds := [.data], laidTests := true, laidLooks := .later }
def PiInversesCardSaid : Prop := Claim7.holds Tryz.pinned (.plain (OpenSpec.ofChange piInversesSpec)) piInversesCard

/-- THE TIED CARD OF 'peloruslaw11.PiFixes'. -/
def piFixesCard : Claim7 := { stood := { row := piFixesRow, standIns := [], harness := (true, "121b4fa1ebeeac1e339f623fbc853aa0109551daa7b8b2407c39cefcce6de35e"), looks := false }, kinds := [], alts := [], laidByText := true, laidKinds := [.data], laidTests := true, laidLooks := .later }
def PiFixesCardSaid : Prop := Claim7.holds Tryz.pinned (.plain (OpenSpec.ofChange piFixesSpec)) piFixesCard

/-- THE SECOND FORM's CARD OF 'peloruslaw11.PiInverses'. -/
def piInversesUptoCard : Claim7 := { stood := { row := piInversesUptoRow, standIns := [], harness := (true, "121b4fa1ebeeac1e339f623fbc853aa0109551daa7b8b2407c39cefcce6de35e"), looks := false }, kinds := [], alts := [], laidByText := true, laidKinds := [.data], laidTests := true, laidLooks := .later }
def PiInversesUptoCardSaid : Prop := Claim7.holds Tryz.pinned (.plain (OpenSpec.upto piInversesSpec)) piInversesUptoCard

/-- THE SECOND FORM's CARD OF 'peloruslaw11.PiFixes'. -/
def piFixesUptoCard : Claim7 := { stood := { row := piFixesUptoRow, standIns := [], harness := (true, "121b4fa1ebeeac1e339f623fbc853aa0109551daa7b8b2407c39cefcce6de35e"), looks := false }, kinds := [], alts := [], laidByText := true, laidKinds := [.data], laidTests := true, laidLooks := .later }
def PiFixesUptoCardSaid : Prop := Claim7.holds Tryz.pinned (.plain (OpenSpec.upto piFixesSpec)) piFixesUptoCard
end Rows
end Go.Proofs.YtmmallhniijdfaaGreatDoor
