/-
  DERIVED. GIVEN WITH THE SEED: THE CARDS: each row of YtaadmpiphnfllaaGreatDoorRows.lean that lists a variable, with what it lists TIED to the program's text (the seventh form; the later family's looks); each row that meets fmt, with fmt's text TOLD by the authors' own Lean function (tested against real Go, not proved from fmt's source: count such statements apart). THE CARD IS WHAT COUNTS. Prove the row's statement (the work); the ties are given (YtaadmpiphnfllaaGreatDoorTie.lean); close each card by the builder's one call (the guide's Derived/Test/ToyasCard.lean, 'card_holds'). Laid BY PROGRAM, IN A SANDBOX (cutbox-door.mjs). By AI agents, Wed Nov 11 2026. No macro, syntax, notation, axiom, sorry.
-/
import Derived.Test.YtaadmpiphnfllaaGreatDoorRows
import GoSem.ClaimSeven
namespace Go.Proofs.YtaadmpiphnfllaaGreatDoor
namespace Rows

/-- THE TIED CARD OF 'peloruslaw12.TrigPoints'. -/
def trigPointsCard : Claim7 := { stood := { row := trigPointsRow, standIns := [], harness := (true, "dabfa5e470ce9f08012102cb7256956bac6de3ab4fcdcf8446cc93fcc41540eb"), looks := false }, kinds := [], alts := [], laidByText := true, laidKinds := [.data, .data], laidTests := true, laidLooks := .later }
def TrigPointsCardSaid : Prop := Claim7.holds Tryz.pinned (.plain (OpenSpec.ofChange trigPointsSpec)) trigPointsCard

/-- THE TIED CARD OF 'peloruslaw12.TrigAll'. -/
def trigAllCard : Claim7 := { stood := { row := trigAllRow, standIns := [], harness := (true, "dabfa5e470ce9f08012102cb7256956bac6de3ab4fcdcf8446cc93fcc41540eb"), looks := false }, kinds := [], alts := [], laidByText := true, laidKinds := [.data, .data], laidTests := true, laidLooks := .later }
def TrigAllCardSaid : Prop := Claim7.holds Tryz.pinned (.plain (OpenSpec.ofChange trigAllSpec)) trigAllCard

/-- THE TIED CARD OF 'peloruslaw12.TrigTight'. -/
def trigTightCard : Claim7 := { stood := { row := trigTightRow, standIns := [], harness := (true, "dabfa5e470ce9f08012102cb7256956bac6de3ab4fcdcf8446cc93fcc41540eb"), looks := false }, kinds := [], alts := [], laidByText := true, laidKinds := [.data, .data], laidTests := true, laidLooks := .later }
def TrigTightCardSaid : Prop := Claim7.holds Tryz.pinned (.plain (OpenSpec.ofChange trigTightSpec)) trigTightCard

/-- THE TIED CARD OF 'peloruslaw12.TrigCircle'. -/
def trigCircleCard : Claim7 := { stood := { row := trigCircleRow, standIns := [], harness := (true, "dabfa5e470ce9f08012102cb7256956bac6de3ab4fcdcf8446cc93fcc41540eb"), looks := false }, kinds := [], alts := [], laidByText := true, laidKinds := [.data, .data], laidTests := true, laidLooks := .later }
def TrigCircleCardSaid : Prop := Claim7.holds Tryz.pinned (.plain (OpenSpec.ofChange trigCircleSpec)) trigCircleCard

/-- THE TIED CARD OF 'peloruslaw12.TrigWithin'. -/
def trigWithinCard : Claim7 := { stood := { row := trigWithinRow, standIns := [], harness := (true, "dabfa5e470ce9f08012102cb7256956bac6de3ab4fcdcf8446cc93fcc41540eb"), looks := false }, kinds := [], alts := [], laidByText := true, laidKinds := [.data, .data], laidTests := true, laidLooks := .later }
def TrigWithinCardSaid : Prop := Claim7.holds Tryz.pinned (.plain (OpenSpec.ofChange trigWithinSpec)) trigWithinCard

/-- THE TIED CARD OF 'peloruslaw12.TrigDoubles'. -/
def trigDoublesCard : Claim7 := { stood := { row := trigDoublesRow, standIns := [], harness := (true, "dabfa5e470ce9f08012102cb7256956bac6de3ab4fcdcf8446cc93fcc41540eb"), looks := false }, kinds := [], alts := [], laidByText := true, laidKinds := [.data, .data], laidTests := true, laidLooks := .later }
def TrigDoublesCardSaid : Prop := Claim7.holds Tryz.pinned (.plain (OpenSpec.ofChange trigDoublesSpec)) trigDoublesCard

/-- THE SECOND FORM's CARD OF 'peloruslaw12.TrigPoints'. -/
def trigPointsUptoCard : Claim7 := { stood := { row := trigPointsUptoRow, standIns := [], harness := (true, "dabfa5e470ce9f08012102cb7256956bac6de3ab4fcdcf8446cc93fcc41540eb"), looks := false }, kinds := [], alts := [], laidByText := true, laidKinds := [.data, .data], laidTests := true, laidLooks := .later }
def TrigPointsUptoCardSaid : Prop := Claim7.holds Tryz.pinned (.plain (OpenSpec.upto trigPointsSpec)) trigPointsUptoCard

/-- THE SECOND FORM's CARD OF 'peloruslaw12.TrigAll'. -/
def trigAllUptoCard : Claim7 := { stood := { row := trigAllUptoRow, standIns := [], harness := (true, "dabfa5e470ce9f08012102cb7256956bac6de3ab4fcdcf8446cc93fcc41540eb"), looks := false }, kinds := [], alts := [], laidByText := true, laidKinds := [.data, .data], laidTests := true, laidLooks := .later }
def TrigAllUptoCardSaid : Prop := Claim7.holds Tryz.pinned (.plain (OpenSpec.upto trigAllSpec)) trigAllUptoCard

/-- THE SECOND FORM's CARD OF 'peloruslaw12.TrigTight'. -/
def trigTightUptoCard : Claim7 := { stood := { row := trigTightUptoRow, standIns := [], harness := (true, "dabfa5e470ce9f08012102cb7256956bac6de3ab4fcdcf8446cc93fcc41540eb"), looks := false }, kinds := [], alts := [], laidByText := true, laidKinds := [.data, .data], laidTests := true, laidLooks := .later }
def TrigTightUptoCardSaid : Prop := Claim7.holds Tryz.pinned (.plain (OpenSpec.upto trigTightSpec)) trigTightUptoCard

/-- THE SECOND FORM's CARD OF 'peloruslaw12.TrigCircle'. -/
def trigCircleUptoCard : Claim7 := { stood := { row := trigCircleUptoRow, standIns := [], harness := (true, "dabfa5e470ce9f08012102cb7256956bac6de3ab4fcdcf8446cc93fcc41540eb"), looks := false }, kinds := [], alts := [], laidByText := true, laidKinds := [.data, .data], laidTests := true, laidLooks := .later }
def TrigCircleUptoCardSaid : Prop := Claim7.holds Tryz.pinned (.plain (OpenSpec.upto trigCircleSpec)) trigCircleUptoCard

/-- THE SECOND FORM's CARD OF 'peloruslaw12.TrigWithin'. -/
def trigWithinUptoCard : Claim7 := { stood := { row := trigWithinUptoRow, standIns := [], harness := (true, "dabfa5e470ce9f08012102cb7256956bac6de3ab4fcdcf8446cc93fcc41540eb"), looks := false }, kinds := [], alts := [], laidByText := true, laidKinds := [.data, .data], laidTests := true, laidLooks := .later }
def TrigWithinUptoCardSaid : Prop := Claim7.holds Tryz.pinned (.plain (OpenSpec.upto trigWithinSpec)) trigWithinUptoCard

/-- THE SECOND FORM's CARD OF 'peloruslaw12.TrigDoubles'. -/
def trigDoublesUptoCard : Claim7 := { stood := { row := trigDoublesUptoRow, standIns := [], harness := (true, "dabfa5e470ce9f08012102cb7256956bac6de3ab4fcdcf8446cc93fcc41540eb"), looks := false }, kinds := [], alts := [], laidByText := true, laidKinds := [.data, .data], laidTests := true, laidLooks := .later }
def TrigDoublesUptoCardSaid : Prop := Claim7.holds Tryz.pinned (.plain (OpenSpec.upto trigDoublesSpec)) trigDoublesUptoCard
end Rows
end Go.Proofs.YtaadmpiphnfllaaGreatDoor
