/-
  DERIVED. GIVEN WITH THE SEED: THE CARDS: each row of YthhlccdmflgbbaaDoorRows.lean that lists a variable, with what it lists TIED to the program's text (the seventh form; the later family's looks); each row that meets fmt, with fmt's text TOLD by the authors' own Lean function (tested against real Go, not proved from fmt's source: count such statements apart). THE CARD IS WHAT COUNTS. Prove the row's statement (the work); the ties are given (YthhlccdmflgbbaaDoorTie.lean); close each card by the builder's one call (the guide's Derived/Test/ToyasCard.lean, 'card_holds'). Laid BY PROGRAM, IN A SANDBOX (cutbox-door.mjs). By AI agents, Wed Nov 11 2026. No macro, syntax, notation, axiom, sorry.
-/
import Derived.Test.YthhlccdmflgbbaaDoorRows
import GoSem.ClaimSeven
namespace Go.Proofs.YthhlccdmflgbbaaDoor
namespace Rows

/-- THE TIED CARD OF 'peloruslaw08.IvHalves'. -/
def ivHalvesCard : Claim7 := { stood := { row := ivHalvesRow, standIns := [], harness := (true, "edd3a1c2b3566450055c74c39ca5db449e5045d4a68f63259440900510e18f03"), looks := false }, kinds := [], alts := [], laidByText := true, laidKinds := [.data], laidTests := true, laidLooks := .later }
def IvHalvesCardSaid : Prop := Claim7.holds Tryd.pinned (.plain (OpenSpec.ofChange ivHalvesSpec)) ivHalvesCard

/-- THE TIED CARD OF 'peloruslaw08.IvWider'. -/
def ivWiderCard : Claim7 := { stood := { row := ivWiderRow, standIns := [], harness := (true, "edd3a1c2b3566450055c74c39ca5db449e5045d4a68f63259440900510e18f03"), looks := false }, kinds := [], alts := [], laidByText := true, laidKinds := [.data], laidTests := true, laidLooks := .later }
def IvWiderCardSaid : Prop := Claim7.holds Tryd.pinned (.plain (OpenSpec.ofChange ivWiderSpec)) ivWiderCard

/-- THE SECOND FORM's CARD OF 'peloruslaw08.IvHalves'. -/
def ivHalvesUptoCard : Claim7 := { stood := { row := ivHalvesUptoRow, standIns := [], harness := (true, "edd3a1c2b3566450055c74c39ca5db449e5045d4a68f63259440900510e18f03"), looks := false }, kinds := [], alts := [], laidByText := true, laidKinds := [.data], laidTests := true, laidLooks := .later }
def IvHalvesUptoCardSaid : Prop := Claim7.holds Tryd.pinned (.plain (OpenSpec.upto ivHalvesSpec)) ivHalvesUptoCard

/-- THE SECOND FORM's CARD OF 'peloruslaw08.IvWider'. -/
def ivWiderUptoCard : Claim7 := { stood := { row := ivWiderUptoRow, standIns := [], harness := (true, "edd3a1c2b3566450055c74c39ca5db449e5045d4a68f63259440900510e18f03"), looks := false }, kinds := [], alts := [], laidByText := true, laidKinds := [.data], laidTests := true, laidLooks := .later }
def IvWiderUptoCardSaid : Prop := Claim7.holds Tryd.pinned (.plain (OpenSpec.upto ivWiderSpec)) ivWiderUptoCard
end Rows
end Go.Proofs.YthhlccdmflgbbaaDoor
