/-
  DERIVED. GIVEN WITH THE SEED: THE CARDS: each row of YtomikokonmikgaaGreatDoorRows.lean that lists a variable, with what it lists TIED to the program's text (the seventh form; the later family's looks); each row that meets fmt, with fmt's text TOLD by the authors' own Lean function (tested against real Go, not proved from fmt's source: count such statements apart). THE CARD IS WHAT COUNTS. Prove the row's statement (the work); the ties are given (YtomikokonmikgaaGreatDoorTie.lean); close each card by the builder's one call (the guide's Derived/Test/ToyasCard.lean, 'card_holds'). Laid BY PROGRAM, IN A SANDBOX (cutbox-door.mjs). By AI agents, Wed Nov 11 2026. No macro, syntax, notation, axiom, sorry.
-/
import Derived.Test.YtomikokonmikgaaGreatDoorRows
import GoSem.ClaimSeven
namespace Go.Proofs.YtomikokonmikgaaGreatDoor
namespace Rows

/-- THE TIED CARD OF 'peloruslaw12.TrigPoints'. -/
def trigPointsCard : Claim7 := { stood := { row := trigPointsRow, standIns := [], harness := (true, "47a05f4e922fc19b8973817a5547b4eae379f4c2ddb8491edd907b3eeea62799"), looks := false }, kinds := [], alts := [], laidByText := true, laidKinds := [.data, .data], laidTests := true, laidLooks := .later }
def TrigPointsCardSaid : Prop := Claim7.holds Tryz.pinned (.plain (OpenSpec.ofChange trigPointsSpec)) trigPointsCard

/-- THE TIED CARD OF 'peloruslaw12.TrigAll'. -/
def trigAllCard : Claim7 := { stood := { row := trigAllRow, standIns := [], harness := (true, "47a05f4e922fc19b8973817a5547b4eae379f4c2ddb8491edd907b3eeea62799"), looks := false }, kinds := [], alts := [], laidByText := true, laidKinds := [.data, .data], laidTests := true, laidLooks := .later }
def TrigAllCardSaid : Prop := Claim7.holds Tryz.pinned (.plain (OpenSpec.ofChange trigAllSpec)) trigAllCard

/-- THE TIED CARD OF 'peloruslaw13.AtanPoints'. -/
def atanPointsCard : Claim7 := { stood := { row := atanPointsRow, standIns := [], harness := (true, "47a05f4e922fc19b8973817a5547b4eae379f4c2ddb8491edd907b3eeea62799"), looks := false }, kinds := [], alts := [], laidByText := true, laidKinds := [.data, .data], laidTests := true, laidLooks := .later }
def AtanPointsCardSaid : Prop := Claim7.holds Tryz.pinned (.plain (OpenSpec.ofChange atanPointsSpec)) atanPointsCard

/-- THE TIED CARD OF 'peloruslaw13.AtanAngles'. -/
def atanAnglesCard : Claim7 := { stood := { row := atanAnglesRow, standIns := [], harness := (true, "47a05f4e922fc19b8973817a5547b4eae379f4c2ddb8491edd907b3eeea62799"), looks := false }, kinds := [], alts := [], laidByText := true, laidKinds := [.data, .data], laidTests := true, laidLooks := .later }
def AtanAnglesCardSaid : Prop := Claim7.holds Tryz.pinned (.plain (OpenSpec.ofChange atanAnglesSpec)) atanAnglesCard

/-- THE TIED CARD OF 'peloruslaw13.AtanTight'. -/
def atanTightCard : Claim7 := { stood := { row := atanTightRow, standIns := [], harness := (true, "47a05f4e922fc19b8973817a5547b4eae379f4c2ddb8491edd907b3eeea62799"), looks := false }, kinds := [], alts := [], laidByText := true, laidKinds := [.data, .data], laidTests := true, laidLooks := .later }
def AtanTightCardSaid : Prop := Claim7.holds Tryz.pinned (.plain (OpenSpec.ofChange atanTightSpec)) atanTightCard

/-- THE TIED CARD OF 'peloruslaw13.AtanSlopes'. -/
def atanSlopesCard : Claim7 := { stood := { row := atanSlopesRow, standIns := [], harness := (true, "47a05f4e922fc19b8973817a5547b4eae379f4c2ddb8491edd907b3eeea62799"), looks := false }, kinds := [], alts := [], laidByText := true, laidKinds := [.data, .data], laidTests := true, laidLooks := .later }
def AtanSlopesCardSaid : Prop := Claim7.holds Tryz.pinned (.plain (OpenSpec.ofChange atanSlopesSpec)) atanSlopesCard

/-- THE TIED CARD OF 'peloruslaw13.AtanGrows'. -/
def atanGrowsCard : Claim7 := { stood := { row := atanGrowsRow, standIns := [], harness := (true, "47a05f4e922fc19b8973817a5547b4eae379f4c2ddb8491edd907b3eeea62799"), looks := false }, kinds := [], alts := [], laidByText := true, laidKinds := [.data, .data], laidTests := true, laidLooks := .later }
def AtanGrowsCardSaid : Prop := Claim7.holds Tryz.pinned (.plain (OpenSpec.ofChange atanGrowsSpec)) atanGrowsCard

/-- THE TIED CARD OF 'peloruslaw13.AtanTurns'. -/
def atanTurnsCard : Claim7 := { stood := { row := atanTurnsRow, standIns := [], harness := (true, "47a05f4e922fc19b8973817a5547b4eae379f4c2ddb8491edd907b3eeea62799"), looks := false }, kinds := [], alts := [], laidByText := true, laidKinds := [.data, .data], laidTests := true, laidLooks := .later }
def AtanTurnsCardSaid : Prop := Claim7.holds Tryz.pinned (.plain (OpenSpec.ofChange atanTurnsSpec)) atanTurnsCard

/-- THE SECOND FORM's CARD OF 'peloruslaw12.TrigPoints'. -/
def trigPointsUptoCard : Claim7 := { stood := { row := trigPointsUptoRow, standIns := [], harness := (true, "47a05f4e922fc19b8973817a5547b4eae379f4c2ddb8491edd907b3eeea62799"), looks := false }, kinds := [], alts := [], laidByText := true, laidKinds := [.data, .data], laidTests := true, laidLooks := .later }
def TrigPointsUptoCardSaid : Prop := Claim7.holds Tryz.pinned (.plain (OpenSpec.upto trigPointsSpec)) trigPointsUptoCard

/-- THE SECOND FORM's CARD OF 'peloruslaw12.TrigAll'. -/
def trigAllUptoCard : Claim7 := { stood := { row := trigAllUptoRow, standIns := [], harness := (true, "47a05f4e922fc19b8973817a5547b4eae379f4c2ddb8491edd907b3eeea62799"), looks := false }, kinds := [], alts := [], laidByText := true, laidKinds := [.data, .data], laidTests := true, laidLooks := .later }
def TrigAllUptoCardSaid : Prop := Claim7.holds Tryz.pinned (.plain (OpenSpec.upto trigAllSpec)) trigAllUptoCard

/-- THE SECOND FORM's CARD OF 'peloruslaw13.AtanPoints'. -/
def atanPointsUptoCard : Claim7 := { stood := { row := atanPointsUptoRow, standIns := [], harness := (true, "47a05f4e922fc19b8973817a5547b4eae379f4c2ddb8491edd907b3eeea62799"), looks := false }, kinds := [], alts := [], laidByText := true, laidKinds := [.data, .data], laidTests := true, laidLooks := .later }
def AtanPointsUptoCardSaid : Prop := Claim7.holds Tryz.pinned (.plain (OpenSpec.upto atanPointsSpec)) atanPointsUptoCard

/-- THE SECOND FORM's CARD OF 'peloruslaw13.AtanAngles'. -/
def atanAnglesUptoCard : Claim7 := { stood := { row := atanAnglesUptoRow, standIns := [], harness := (true, "47a05f4e922fc19b8973817a5547b4eae379f4c2ddb8491edd907b3eeea62799"), looks := false }, kinds := [], alts := [], laidByText := true, laidKinds := [.data, .data], laidTests := true, laidLooks := .later }
def AtanAnglesUptoCardSaid : Prop := Claim7.holds Tryz.pinned (.plain (OpenSpec.upto atanAnglesSpec)) atanAnglesUptoCard

/-- THE SECOND FORM's CARD OF 'peloruslaw13.AtanTight'. -/
def atanTightUptoCard : Claim7 := { stood := { row := atanTightUptoRow, standIns := [], harness := (true, "47a05f4e922fc19b8973817a5547b4eae379f4c2ddb8491edd907b3eeea62799"), looks := false }, kinds := [], alts := [], laidByText := true, laidKinds := [.data, .data], laidTests := true, laidLooks := .later }
def AtanTightUptoCardSaid : Prop := Claim7.holds Tryz.pinned (.plain (OpenSpec.upto atanTightSpec)) atanTightUptoCard

/-- THE SECOND FORM's CARD OF 'peloruslaw13.AtanSlopes'. -/
def atanSlopesUptoCard : Claim7 := { stood := { row := atanSlopesUptoRow, standIns := [], harness := (true, "47a05f4e922fc19b8973817a5547b4eae379f4c2ddb8491edd907b3eeea62799"), looks := false }, kinds := [], alts := [], laidByText := true, laidKinds := [.data, .data], laidTests := true, laidLooks := .later }
def AtanSlopesUptoCardSaid : Prop := Claim7.holds Tryz.pinned (.plain (OpenSpec.upto atanSlopesSpec)) atanSlopesUptoCard

/-- THE SECOND FORM's CARD OF 'peloruslaw13.AtanGrows'. -/
def atanGrowsUptoCard : Claim7 := { stood := { row := atanGrowsUptoRow, standIns := [], harness := (true, "47a05f4e922fc19b8973817a5547b4eae379f4c2ddb8491edd907b3eeea62799"), looks := false }, kinds := [], alts := [], laidByText := true, laidKinds := [.data, .data], laidTests := true, laidLooks := .later }
def AtanGrowsUptoCardSaid : Prop := Claim7.holds Tryz.pinned (.plain (OpenSpec.upto atanGrowsSpec)) atanGrowsUptoCard

/-- THE SECOND FORM's CARD OF 'peloruslaw13.AtanTurns'. -/
def atanTurnsUptoCard : Claim7 := { stood := { row := atanTurnsUptoRow, standIns := [], harness := (true, "47a05f4e922fc19b8973817a5547b4eae379f4c2ddb8491edd907b3eeea62799"), looks := false }, kinds := [], alts := [], laidByText := true, laidKinds := [.data, .data], laidTests := true, laidLooks := .later }
def AtanTurnsUptoCardSaid : Prop := Claim7.holds Tryz.pinned (.plain (OpenSpec.upto atanTurnsSpec)) atanTurnsUptoCard
end Rows
end Go.Proofs.YtomikokonmikgaaGreatDoor
