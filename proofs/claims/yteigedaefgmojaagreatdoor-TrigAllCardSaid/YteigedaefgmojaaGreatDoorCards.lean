/-
  DERIVED. GIVEN WITH THE SEED: THE CARDS: each row of YteigedaefgmojaaGreatDoorRows.lean that lists a variable, with what it lists TIED to the program's text (the seventh form; the later family's looks); each row that meets fmt, with fmt's text TOLD by the authors' own Lean function (tested against real Go, not proved from fmt's source: count such statements apart). THE CARD IS WHAT COUNTS. Prove the row's statement (the work); the ties are given (YteigedaefgmojaaGreatDoorTie.lean); close each card by the builder's one call (the guide's Derived/Test/ToyasCard.lean, 'card_holds'). Laid BY PROGRAM, IN A SANDBOX (cutbox-door.mjs). By AI agents, Wed Nov 11 2026. No macro, syntax, notation, axiom, sorry.
-/
import Derived.Test.YteigedaefgmojaaGreatDoorRows
import GoSem.ClaimSeven
namespace Go.Proofs.YteigedaefgmojaaGreatDoor
namespace Rows

/-- THE TIED CARD OF 'peloruslaw12.TrigAll'. -/
def trigAllCard : Claim7 := { stood := { row := trigAllRow, standIns := [], harness := (true, "91cc245382092d390a7fcae4a9a8abb236e637b3b46ee302224ce8d51408b56d"), looks := false }, kinds := [], alts := [], laidByText := true, laidKinds := [.data, .data], laidTests := true, laidLooks := .later }
def TrigAllCardSaid : Prop := Claim7.holds Tryz.pinned (.plain (OpenSpec.ofChange trigAllSpec)) trigAllCard

/-- THE TIED CARD OF 'peloruslaw13.AtanAngles'. -/
def atanAnglesCard : Claim7 := { stood := { row := atanAnglesRow, standIns := [], harness := (true, "91cc245382092d390a7fcae4a9a8abb236e637b3b46ee302224ce8d51408b56d"), looks := false }, kinds := [], alts := [], laidByText := true, laidKinds := [.data, .data], laidTests := true, laidLooks := .later }
def AtanAnglesCardSaid : Prop := Claim7.holds Tryz.pinned (.plain (OpenSpec.ofChange atanAnglesSpec)) atanAnglesCard

/-- THE SECOND FORM's CARD OF 'peloruslaw12.TrigAll'. -/
def trigAllUptoCard : Claim7 := { stood := { row := trigAllUptoRow, standIns := [], harness := (true, "91cc245382092d390a7fcae4a9a8abb236e637b3b46ee302224ce8d51408b56d"), looks := false }, kinds := [], alts := [], laidByText := true, laidKinds := [.data, .data], laidTests := true, laidLooks := .later }
def TrigAllUptoCardSaid : Prop := Claim7.holds Tryz.pinned (.plain (OpenSpec.upto trigAllSpec)) trigAllUptoCard

/-- THE SECOND FORM's CARD OF 'peloruslaw13.AtanAngles'. -/
def atanAnglesUptoCard : Claim7 := { stood := { row := atanAnglesUptoRow, standIns := [], harness := (true, "91cc245382092d390a7fcae4a9a8abb236e637b3b46ee302224ce8d51408b56d"), looks := false }, kinds := [], alts := [], laidByText := true, laidKinds := [.data, .data], laidTests := true, laidLooks := .later }
def AtanAnglesUptoCardSaid : Prop := Claim7.holds Tryz.pinned (.plain (OpenSpec.upto atanAnglesSpec)) atanAnglesUptoCard
end Rows
end Go.Proofs.YteigedaefgmojaaGreatDoor
