/-
  DERIVED. GIVEN WITH THE SEED: THE CARDS: each row of YtpnmphofengoeaaDoorRows.lean that lists a variable, with what it lists TIED to the program's text (the seventh form; the later family's looks); each row that meets fmt, with fmt's text TOLD by the authors' own Lean function (tested against real Go, not proved from fmt's source: count such statements apart). THE CARD IS WHAT COUNTS. Prove the row's statement (the work); the ties are given (YtpnmphofengoeaaDoorTie.lean); close each card by the builder's one call (the guide's Derived/Test/ToyasCard.lean, 'card_holds'). Laid BY PROGRAM, IN A SANDBOX (cutbox-door.mjs). By AI agents, Wed Nov 11 2026. No macro, syntax, notation, axiom, sorry.
-/
import Derived.Test.YtpnmphofengoeaaDoorRows
import GoSem.ClaimSeven
namespace Go.Proofs.YtpnmphofengoeaaDoor
namespace Rows

/-- THE TIED CARD OF 'peloruslaw14.BoxSets'. -/
def boxSetsCard : Claim7 := { stood := { row := boxSetsRow, standIns := [], harness := (true, "ee99cd3483326086f3bf7792a8f595960f2c52bdbe766857ae2a2d499c555612"), looks := false }, kinds := [], alts := [], laidByText := true, laidKinds := [.data], laidTests := true, laidLooks := .later }
def BoxSetsCardSaid : Prop := Claim7.holds Tryd.pinned (.plain (OpenSpec.ofChange boxSetsSpec)) boxSetsCard

/-- THE TIED CARD OF 'peloruslaw14.BoxHas'. -/
def boxHasCard : Claim7 := { stood := { row := boxHasRow, standIns := [], harness := (true, "ee99cd3483326086f3bf7792a8f595960f2c52bdbe766857ae2a2d499c555612"), looks := false }, kinds := [], alts := [], laidByText := true, laidKinds := [.data], laidTests := true, laidLooks := .later }
def BoxHasCardSaid : Prop := Claim7.holds Tryd.pinned (.plain (OpenSpec.ofChange boxHasSpec)) boxHasCard

/-- THE TIED CARD OF 'peloruslaw14.BoxOrder'. -/
def boxOrderCard : Claim7 := { stood := { row := boxOrderRow, standIns := [], harness := (true, "ee99cd3483326086f3bf7792a8f595960f2c52bdbe766857ae2a2d499c555612"), looks := false }, kinds := [], alts := [], laidByText := true, laidKinds := [.data], laidTests := true, laidLooks := .later }
def BoxOrderCardSaid : Prop := Claim7.holds Tryd.pinned (.plain (OpenSpec.ofChange boxOrderSpec)) boxOrderCard

/-- THE TIED CARD OF 'peloruslaw14.BoxHalves'. -/
def boxHalvesCard : Claim7 := { stood := { row := boxHalvesRow, standIns := [], harness := (true, "ee99cd3483326086f3bf7792a8f595960f2c52bdbe766857ae2a2d499c555612"), looks := false }, kinds := [], alts := [], laidByText := true, laidKinds := [.data], laidTests := true, laidLooks := .later }
def BoxHalvesCardSaid : Prop := Claim7.holds Tryd.pinned (.plain (OpenSpec.ofChange boxHalvesSpec)) boxHalvesCard

/-- THE SECOND FORM's CARD OF 'peloruslaw14.BoxSets'. -/
def boxSetsUptoCard : Claim7 := { stood := { row := boxSetsUptoRow, standIns := [], harness := (true, "ee99cd3483326086f3bf7792a8f595960f2c52bdbe766857ae2a2d499c555612"), looks := false }, kinds := [], alts := [], laidByText := true, laidKinds := [.data], laidTests := true, laidLooks := .later }
def BoxSetsUptoCardSaid : Prop := Claim7.holds Tryd.pinned (.plain (OpenSpec.upto boxSetsSpec)) boxSetsUptoCard

/-- THE SECOND FORM's CARD OF 'peloruslaw14.BoxHas'. -/
def boxHasUptoCard : Claim7 := { stood := { row := boxHasUptoRow, standIns := [], harness := (true, "ee99cd3483326086f3bf7792a8f595960f2c52bdbe766857ae2a2d499c555612"), looks := false }, kinds := [], alts := [], laidByText := true, laidKinds := [.data], laidTests := true, laidLooks := .later }
def BoxHasUptoCardSaid : Prop := Claim7.holds Tryd.pinned (.plain (OpenSpec.upto boxHasSpec)) boxHasUptoCard

/-- THE SECOND FORM's CARD OF 'peloruslaw14.BoxOrder'. -/
def boxOrderUptoCard : Claim7 := { stood := { row := boxOrderUptoRow, standIns := [], harness := (true, "ee99cd3483326086f3bf7792a8f595960f2c52bdbe766857ae2a2d499c555612"), looks := false }, kinds := [], alts := [], laidByText := true, laidKinds := [.data], laidTests := true, laidLooks := .later }
def BoxOrderUptoCardSaid : Prop := Claim7.holds Tryd.pinned (.plain (OpenSpec.upto boxOrderSpec)) boxOrderUptoCard

/-- THE SECOND FORM's CARD OF 'peloruslaw14.BoxHalves'. -/
def boxHalvesUptoCard : Claim7 := { stood := { row := boxHalvesUptoRow, standIns := [], harness := (true, "ee99cd3483326086f3bf7792a8f595960f2c52bdbe766857ae2a2d499c555612"), looks := false }, kinds := [], alts := [], laidByText := true, laidKinds := [.data], laidTests := true, laidLooks := .later }
def BoxHalvesUptoCardSaid : Prop := Claim7.holds Tryd.pinned (.plain (OpenSpec.upto boxHalvesSpec)) boxHalvesUptoCard
end Rows
end Go.Proofs.YtpnmphofengoeaaDoor
