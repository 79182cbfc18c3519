/-
  DERIVED. GIVEN WITH THE SEED: THE CARDS: each row of YtmmallhniijdfaaDoorRows.lean that lists a variable, with what it lists TIED to the program's text (the seventh form; the later family's looks); each row that meets fmt, with fmt's text TOLD by the authors' own Lean function (tested against real Go, not proved from fmt's source: count such statements apart). THE CARD IS WHAT COUNTS. Prove the row's statement (the work); the ties are given (YtmmallhniijdfaaDoorTie.lean); close each card by the builder's one call (the guide's Derived/Test/ToyasCard.lean, 'card_holds'). Laid BY PROGRAM, IN A SANDBOX (cutbox-door.mjs). By AI agents, Wed Nov 11 2026. No macro, syntax, notation, axiom, sorry.
-/
import Derived.Test.YtmmallhniijdfaaDoorRows
import GoSem.ClaimSeven
namespace Go.Proofs.YtmmallhniijdfaaDoor
namespace Rows

/-- THE TIED CARD OF 'peloruslaw11.PiHolds'. -/
def piHoldsCard : Claim7 := { stood := { row := piHoldsRow, standIns := [], harness := (true, "c6d4794ce64cfbec7ddfdce88263f0eb3f6b675ab0c4d096e3657ada368f5fcd"), looks := false }, kinds := [], alts := [], laidByText := true, laidKinds := [.data], laidTests := true, laidLooks := .later }
def PiHoldsCardSaid : Prop := Claim7.holds Tryd.pinned (.plain (OpenSpec.ofChange piHoldsSpec)) piHoldsCard

/-- THE TIED CARD OF 'peloruslaw11.PiTight'. -/
def piTightCard : Claim7 := { stood := { row := piTightRow, standIns := [], harness := (true, "c6d4794ce64cfbec7ddfdce88263f0eb3f6b675ab0c4d096e3657ada368f5fcd"), looks := false }, kinds := [], alts := [], laidByText := true, laidKinds := [.data], laidTests := true, laidLooks := .later }
def PiTightCardSaid : Prop := Claim7.holds Tryd.pinned (.plain (OpenSpec.ofChange piTightSpec)) piTightCard

/-- THE TIED CARD OF 'peloruslaw11.PiDoubles'. -/
def piDoublesCard : Claim7 := { stood := { row := piDoublesRow, standIns := [], harness := (true, "c6d4794ce64cfbec7ddfdce88263f0eb3f6b675ab0c4d096e3657ada368f5fcd"), looks := false }, kinds := [], alts := [], laidByText := true, laidKinds := [.data], laidTests := true, laidLooks := .later }
def PiDoublesCardSaid : Prop := Claim7.holds Tryd.pinned (.plain (OpenSpec.ofChange piDoublesSpec)) piDoublesCard

/-- THE TIED CARD OF 'peloruslaw11.PiParts'. -/
def piPartsCard : Claim7 := { stood := { row := piPartsRow, standIns := [], harness := (true, "c6d4794ce64cfbec7ddfdce88263f0eb3f6b675ab0c4d096e3657ada368f5fcd"), looks := false }, kinds := [], alts := [], laidByText := true, laidKinds := [.data], laidTests := true, laidLooks := .later }
def PiPartsCardSaid : Prop := Claim7.holds Tryd.pinned (.plain (OpenSpec.ofChange piPartsSpec)) piPartsCard

/-- THE SECOND FORM's CARD OF 'peloruslaw11.PiHolds'. -/
def piHoldsUptoCard : Claim7 := { stood := { row := piHoldsUptoRow, standIns := [], harness := (true, "c6d4794ce64cfbec7ddfdce88263f0eb3f6b675ab0c4d096e3657ada368f5fcd"), looks := false }, kinds := [], alts := [], laidByText := true, laidKinds := [.data], laidTests := true, laidLooks := .later }
def PiHoldsUptoCardSaid : Prop := Claim7.holds Tryd.pinned (.plain (OpenSpec.upto piHoldsSpec)) piHoldsUptoCard

/-- THE SECOND FORM's CARD OF 'peloruslaw11.PiTight'. -/
def piTightUptoCard : Claim7 := { stood := { row := piTightUptoRow, standIns := [], harness := (true, "c6d4794ce64cfbec7ddfdce88263f0eb3f6b675ab0c4d096e3657ada368f5fcd"), looks := false }, kinds := [], alts := [], laidByText := true, laidKinds := [.data], laidTests := true, laidLooks := .later }
def PiTightUptoCardSaid : Prop := Claim7.holds Tryd.pinned (.plain (OpenSpec.upto piTightSpec)) piTightUptoCard

/-- THE SECOND FORM's CARD OF 'peloruslaw11.PiDoubles'. -/
def piDoublesUptoCard : Claim7 := { stood := { row := piDoublesUptoRow, standIns := [], harness := (true, "c6d4794ce64cfbec7ddfdce88263f0eb3f6b675ab0c4d096e3657ada368f5fcd"), looks := false }, kinds := [], alts := [], laidByText := true, laidKinds := [.data], laidTests := true, laidLooks := .later }
def PiDoublesUptoCardSaid : Prop := Claim7.holds Tryd.pinned (.plain (OpenSpec.upto piDoublesSpec)) piDoublesUptoCard

/-- THE SECOND FORM's CARD OF 'peloruslaw11.PiParts'. -/
def piPartsUptoCard : Claim7 := { stood := { row := piPartsUptoRow, standIns := [], harness := (true, "c6d4794ce64cfbec7ddfdce88263f0eb3f6b675ab0c4d096e3657ada368f5fcd"), looks := false }, kinds := [], alts := [], laidByText := true, laidKinds := [.data], laidTests := true, laidLooks := .later }
def PiPartsUptoCardSaid : Prop := Claim7.holds Tryd.pinned (.plain (OpenSpec.upto piPartsSpec)) piPartsUptoCard
end Rows
end Go.Proofs.YtmmallhniijdfaaDoor
