/-
  DERIVED. GIVEN WITH THE SEED: THE CARDS: each row of YtbhnpmkdmnnclaaDoorRows.lean that lists a variable, with what it lists TIED to the program's text (the seventh form; the later family's looks); each row that meets fmt, with fmt's text TOLD by the authors' own Lean function (tested against real Go, not proved from fmt's source: count such statements apart). THE CARD IS WHAT COUNTS. Prove the row's statement (the work); the ties are given (YtbhnpmkdmnnclaaDoorTie.lean); close each card by the builder's one call (the guide's Derived/Test/ToyasCard.lean, 'card_holds'). Laid BY PROGRAM, IN A SANDBOX (cutbox-door.mjs). By AI agents, Wed Nov 11 2026. No macro, syntax, notation, axiom, sorry.
-/
import Derived.Test.YtbhnpmkdmnnclaaDoorRows
import GoSem.ClaimSeven
namespace Go.Proofs.YtbhnpmkdmnnclaaDoor
namespace Rows

/-- THE TIED CARD OF 'peloruslaw06.ArithSums'. -/
def arithSumsCard : Claim7 := { stood := { row := arithSumsRow, standIns := [], harness := (true, "f780c04a07a637a9a76c98b5e4ae9b4a1da3f044a1db968416f78489bdaf128b"), looks := false }, kinds := [], alts := [], laidByText := true, laidKinds := [.data], laidTests := true, laidLooks := .later }
def ArithSumsCardSaid : Prop := Claim7.holds Tryd.pinned (.plain (OpenSpec.ofChange arithSumsSpec)) arithSumsCard

/-- THE TIED CARD OF 'peloruslaw06.ArithProducts'. -/
def arithProductsCard : Claim7 := { stood := { row := arithProductsRow, standIns := [], harness := (true, "f780c04a07a637a9a76c98b5e4ae9b4a1da3f044a1db968416f78489bdaf128b"), looks := false }, kinds := [], alts := [], laidByText := true, laidKinds := [.data], laidTests := true, laidLooks := .later }
def ArithProductsCardSaid : Prop := Claim7.holds Tryd.pinned (.plain (OpenSpec.ofChange arithProductsSpec)) arithProductsCard

/-- THE TIED CARD OF 'peloruslaw06.ArithMany'. -/
def arithManyCard : Claim7 := { stood := { row := arithManyRow, standIns := [], harness := (true, "f780c04a07a637a9a76c98b5e4ae9b4a1da3f044a1db968416f78489bdaf128b"), looks := false }, kinds := [], alts := [], laidByText := true, laidKinds := [.data], laidTests := true, laidLooks := .later }
def ArithManyCardSaid : Prop := Claim7.holds Tryd.pinned (.plain (OpenSpec.ofChange arithManySpec)) arithManyCard

/-- THE TIED CARD OF 'peloruslaw06.ArithHolds'. -/
def arithHoldsCard : Claim7 := { stood := { row := arithHoldsRow, standIns := [], harness := (true, "f780c04a07a637a9a76c98b5e4ae9b4a1da3f044a1db968416f78489bdaf128b"), looks := false }, kinds := [], alts := [], laidByText := true, laidKinds := [.data, .data], laidTests := true, laidLooks := .later }
def ArithHoldsCardSaid : Prop := Claim7.holds Tryd.pinned (.plain (OpenSpec.ofChange arithHoldsSpec)) arithHoldsCard

/-- THE TIED CARD OF 'peloruslaw06.ArithGrows'. -/
def arithGrowsCard : Claim7 := { stood := { row := arithGrowsRow, standIns := [], harness := (true, "f780c04a07a637a9a76c98b5e4ae9b4a1da3f044a1db968416f78489bdaf128b"), looks := false }, kinds := [], alts := [], laidByText := true, laidKinds := [.data], laidTests := true, laidLooks := .later }
def ArithGrowsCardSaid : Prop := Claim7.holds Tryd.pinned (.plain (OpenSpec.ofChange arithGrowsSpec)) arithGrowsCard

/-- THE TIED CARD OF 'peloruslaw06.ArithTurns'. -/
def arithTurnsCard : Claim7 := { stood := { row := arithTurnsRow, standIns := [], harness := (true, "f780c04a07a637a9a76c98b5e4ae9b4a1da3f044a1db968416f78489bdaf128b"), looks := false }, kinds := [], alts := [], laidByText := true, laidKinds := [.data], laidTests := true, laidLooks := .later }
def ArithTurnsCardSaid : Prop := Claim7.holds Tryd.pinned (.plain (OpenSpec.ofChange arithTurnsSpec)) arithTurnsCard

/-- THE TIED CARD OF 'peloruslaw06.ArithUnits'. -/
def arithUnitsCard : Claim7 := { stood := { row := arithUnitsRow, standIns := [], harness := (true, "f780c04a07a637a9a76c98b5e4ae9b4a1da3f044a1db968416f78489bdaf128b"), looks := false }, kinds := [], alts := [], laidByText := true, laidKinds := [.data], laidTests := true, laidLooks := .later }
def ArithUnitsCardSaid : Prop := Claim7.holds Tryd.pinned (.plain (OpenSpec.ofChange arithUnitsSpec)) arithUnitsCard

/-- THE TIED CARD OF 'peloruslaw06.ArithFar'. -/
def arithFarCard : Claim7 := { stood := { row := arithFarRow, standIns := [], harness := (true, "f780c04a07a637a9a76c98b5e4ae9b4a1da3f044a1db968416f78489bdaf128b"), looks := false }, kinds := [], alts := [], laidByText := true, laidKinds := [.data], laidTests := true, laidLooks := .later }
def ArithFarCardSaid : Prop := Claim7.holds Tryd.pinned (.plain (OpenSpec.ofChange arithFarSpec)) arithFarCard

/-- THE SECOND FORM's CARD OF 'peloruslaw06.ArithSums'. -/
def arithSumsUptoCard : Claim7 := { stood := { row := arithSumsUptoRow, standIns := [], harness := (true, "f780c04a07a637a9a76c98b5e4ae9b4a1da3f044a1db968416f78489bdaf128b"), looks := false }, kinds := [], alts := [], laidByText := true, laidKinds := [.data], laidTests := true, laidLooks := .later }
def ArithSumsUptoCardSaid : Prop := Claim7.holds Tryd.pinned (.plain (OpenSpec.upto arithSumsSpec)) arithSumsUptoCard

/-- THE SECOND FORM's CARD OF 'peloruslaw06.ArithProducts'. -/
def arithProductsUptoCard : Claim7 := { stood := { row := arithProductsUptoRow, standIns := [], harness := (true, "f780c04a07a637a9a76c98b5e4ae9b4a1da3f044a1db968416f78489bdaf128b"), looks := false }, kinds := [], alts := [], laidByText := true, laidKinds := [.data], laidTests := true, laidLooks := .later }
def ArithProductsUptoCardSaid : Prop := Claim7.holds Tryd.pinned (.plain (OpenSpec.upto arithProductsSpec)) arithProductsUptoCard

/-- THE SECOND FORM's CARD OF 'peloruslaw06.ArithMany'. -/
def arithManyUptoCard : Claim7 := { stood := { row := arithManyUptoRow, standIns := [], harness := (true, "f780c04a07a637a9a76c98b5e4ae9b4a1da3f044a1db968416f78489bdaf128b"), looks := false }, kinds := [], alts := [], laidByText := true, laidKinds := [.data], laidTests := true, laidLooks := .later }
def ArithManyUptoCardSaid : Prop := Claim7.holds Tryd.pinned (.plain (OpenSpec.upto arithManySpec)) arithManyUptoCard

/-- THE SECOND FORM's CARD OF 'peloruslaw06.ArithHolds'. -/
def arithHoldsUptoCard : Claim7 := { stood := { row := arithHoldsUptoRow, standIns := [], harness := (true, "f780c04a07a637a9a76c98b5e4ae9b4a1da3f044a1db968416f78489bdaf128b"), looks := false }, kinds := [], alts := [], laidByText := true, laidKinds := [.data, .data], laidTests := true, laidLooks := .later }
def ArithHoldsUptoCardSaid : Prop := Claim7.holds Tryd.pinned (.plain (OpenSpec.upto arithHoldsSpec)) arithHoldsUptoCard

/-- THE SECOND FORM's CARD OF 'peloruslaw06.ArithGrows'. -/
def arithGrowsUptoCard : Claim7 := { stood := { row := arithGrowsUptoRow, standIns := [], harness := (true, "f780c04a07a637a9a76c98b5e4ae9b4a1da3f044a1db968416f78489bdaf128b"), looks := false }, kinds := [], alts := [], laidByText := true, laidKinds := [.data], laidTests := true, laidLooks := .later }
def ArithGrowsUptoCardSaid : Prop := Claim7.holds Tryd.pinned (.plain (OpenSpec.upto arithGrowsSpec)) arithGrowsUptoCard

/-- THE SECOND FORM's CARD OF 'peloruslaw06.ArithTurns'. -/
def arithTurnsUptoCard : Claim7 := { stood := { row := arithTurnsUptoRow, standIns := [], harness := (true, "f780c04a07a637a9a76c98b5e4ae9b4a1da3f044a1db968416f78489bdaf128b"), looks := false }, kinds := [], alts := [], laidByText := true, laidKinds := [.data], laidTests := true, laidLooks := .later }
def ArithTurnsUptoCardSaid : Prop := Claim7.holds Tryd.pinned (.plain (OpenSpec.upto arithTurnsSpec)) arithTurnsUptoCard

/-- THE SECOND FORM's CARD OF 'peloruslaw06.ArithUnits'. -/
def arithUnitsUptoCard : Claim7 := { stood := { row := arithUnitsUptoRow, standIns := [], harness := (true, "f780c04a07a637a9a76c98b5e4ae9b4a1da3f044a1db968416f78489bdaf128b"), looks := false }, kinds := [], alts := [], laidByText := true, laidKinds := [.data], laidTests := true, laidLooks := .later }
def ArithUnitsUptoCardSaid : Prop := Claim7.holds Tryd.pinned (.plain (OpenSpec.upto arithUnitsSpec)) arithUnitsUptoCard

/-- THE SECOND FORM's CARD OF 'peloruslaw06.ArithFar'. -/
def arithFarUptoCard : Claim7 := { stood := { row := arithFarUptoRow, standIns := [], harness := (true, "f780c04a07a637a9a76c98b5e4ae9b4a1da3f044a1db968416f78489bdaf128b"), looks := false }, kinds := [], alts := [], laidByText := true, laidKinds := [.data], laidTests := true, laidLooks := .later }
def ArithFarUptoCardSaid : Prop := Claim7.holds Tryd.pinned (.plain (OpenSpec.upto arithFarSpec)) arithFarUptoCard
end Rows
end Go.Proofs.YtbhnpmkdmnnclaaDoor
