/-
  DERIVED. GIVEN WITH THE SEED: THE CARDS: each row of YteejbcimmmcnlaaGreatDoorRows.lean that lists a variable, with what it lists TIED to the program's text (the seventh form; the later family's looks); each row that meets fmt, with fmt's text TOLD by the authors' own Lean function (tested against real Go, not proved from fmt's source: count such statements apart). THE CARD IS WHAT COUNTS. Prove the row's statement (the work); the ties are given (YteejbcimmmcnlaaGreatDoorTie.lean); close each card by the builder's one call (the guide's Derived/Test/ToyasCard.lean, 'card_holds'). Laid BY PROGRAM, IN A SANDBOX (cutbox-door.mjs). By AI agents, Wed Nov 11 2026. No macro, syntax, notation, axiom, sorry.
-/
import Derived.Test.YteejbcimmmcnlaaGreatDoorRows
import GoSem.ClaimSeven
namespace Go.Proofs.YteejbcimmmcnlaaGreatDoor
namespace Rows

/-- THE TIED CARD OF 'peloruslaw09.IvopSums'. -/
def ivopSumsCard : Claim7 := { stood := { row := ivopSumsRow, standIns := [], harness := (true, "0d8c6555ae53875f5fac98b06835e5f383671c9a89bb36dde60d902280cee33b"), looks := false }, kinds := [], alts := [], laidByText := true, laidKinds := [.data, .data], laidTests := true, laidLooks := .later }
def IvopSumsCardSaid : Prop := Claim7.holds Tryz.pinned (.plain (OpenSpec.ofChange ivopSumsSpec)) ivopSumsCard

/-- THE TIED CARD OF 'peloruslaw09.IvopProducts'. -/
def ivopProductsCard : Claim7 := { stood := { row := ivopProductsRow, standIns := [], harness := (true, "0d8c6555ae53875f5fac98b06835e5f383671c9a89bb36dde60d902280cee33b"), looks := false }, kinds := [], alts := [], laidByText := true, laidKinds := [.data], laidTests := true, laidLooks := .later }
def IvopProductsCardSaid : Prop := Claim7.holds Tryz.pinned (.plain (OpenSpec.ofChange ivopProductsSpec)) ivopProductsCard

/-- THE TIED CARD OF 'peloruslaw09.IvopRoots'. -/
def ivopRootsCard : Claim7 := { stood := { row := ivopRootsRow, standIns := [], harness := (true, "0d8c6555ae53875f5fac98b06835e5f383671c9a89bb36dde60d902280cee33b"), looks := false }, kinds := [], alts := [], laidByText := true, laidKinds := [.data], laidTests := true, laidLooks := .later }
def IvopRootsCardSaid : Prop := Claim7.holds Tryz.pinned (.plain (OpenSpec.ofChange ivopRootsSpec)) ivopRootsCard

/-- THE TIED CARD OF 'peloruslaw09.IvopHolds'. -/
def ivopHoldsCard : Claim7 := { stood := { row := ivopHoldsRow, standIns := [], harness := (true, "0d8c6555ae53875f5fac98b06835e5f383671c9a89bb36dde60d902280cee33b"), looks := false }, kinds := [], alts := [], laidByText := true, laidKinds := [.data, .data], laidTests := true, laidLooks := .later }
def IvopHoldsCardSaid : Prop := Claim7.holds Tryz.pinned (.plain (OpenSpec.ofChange ivopHoldsSpec)) ivopHoldsCard

/-- THE TIED CARD OF 'peloruslaw09.IvopWithin'. -/
def ivopWithinCard : Claim7 := { stood := { row := ivopWithinRow, standIns := [], harness := (true, "0d8c6555ae53875f5fac98b06835e5f383671c9a89bb36dde60d902280cee33b"), looks := false }, kinds := [], alts := [], laidByText := true, laidKinds := [.data, .data], laidTests := true, laidLooks := .later }
def IvopWithinCardSaid : Prop := Claim7.holds Tryz.pinned (.plain (OpenSpec.ofChange ivopWithinSpec)) ivopWithinCard

/-- THE TIED CARD OF 'peloruslaw09.IvopRules'. -/
def ivopRulesCard : Claim7 := { stood := { row := ivopRulesRow, standIns := [], harness := (true, "0d8c6555ae53875f5fac98b06835e5f383671c9a89bb36dde60d902280cee33b"), looks := false }, kinds := [], alts := [], laidByText := true, laidKinds := [.data, .data], laidTests := true, laidLooks := .later }
def IvopRulesCardSaid : Prop := Claim7.holds Tryz.pinned (.plain (OpenSpec.ofChange ivopRulesSpec)) ivopRulesCard

/-- THE TIED CARD OF 'peloruslaw09.IvopSpreads'. -/
def ivopSpreadsCard : Claim7 := { stood := { row := ivopSpreadsRow, standIns := [], harness := (true, "0d8c6555ae53875f5fac98b06835e5f383671c9a89bb36dde60d902280cee33b"), looks := false }, kinds := [], alts := [], laidByText := true, laidKinds := [.data, .data], laidTests := true, laidLooks := .later }
def IvopSpreadsCardSaid : Prop := Claim7.holds Tryz.pinned (.plain (OpenSpec.ofChange ivopSpreadsSpec)) ivopSpreadsCard

/-- THE SECOND FORM's CARD OF 'peloruslaw09.IvopSums'. -/
def ivopSumsUptoCard : Claim7 := { stood := { row := ivopSumsUptoRow, standIns := [], harness := (true, "0d8c6555ae53875f5fac98b06835e5f383671c9a89bb36dde60d902280cee33b"), looks := false }, kinds := [], alts := [], laidByText := true, laidKinds := [.data, .data], laidTests := true, laidLooks := .later }
def IvopSumsUptoCardSaid : Prop := Claim7.holds Tryz.pinned (.plain (OpenSpec.upto ivopSumsSpec)) ivopSumsUptoCard

/-- THE SECOND FORM's CARD OF 'peloruslaw09.IvopProducts'. -/
def ivopProductsUptoCard : Claim7 := { stood := { row := ivopProductsUptoRow, standIns := [], harness := (true, "0d8c6555ae53875f5fac98b06835e5f383671c9a89bb36dde60d902280cee33b"), looks := false }, kinds := [], alts := [], laidByText := true, laidKinds := [.data], laidTests := true, laidLooks := .later }
def IvopProductsUptoCardSaid : Prop := Claim7.holds Tryz.pinned (.plain (OpenSpec.upto ivopProductsSpec)) ivopProductsUptoCard

/-- THE SECOND FORM's CARD OF 'peloruslaw09.IvopRoots'. -/
def ivopRootsUptoCard : Claim7 := { stood := { row := ivopRootsUptoRow, standIns := [], harness := (true, "0d8c6555ae53875f5fac98b06835e5f383671c9a89bb36dde60d902280cee33b"), looks := false }, kinds := [], alts := [], laidByText := true, laidKinds := [.data], laidTests := true, laidLooks := .later }
def IvopRootsUptoCardSaid : Prop := Claim7.holds Tryz.pinned (.plain (OpenSpec.upto ivopRootsSpec)) ivopRootsUptoCard

/-- THE SECOND FORM's CARD OF 'peloruslaw09.IvopHolds'. -/
def ivopHoldsUptoCard : Claim7 := { stood := { row := ivopHoldsUptoRow, standIns := [], harness := (true, "0d8c6555ae53875f5fac98b06835e5f383671c9a89bb36dde60d902280cee33b"), looks := false }, kinds := [], alts := [], laidByText := true, laidKinds := [.data, .data], laidTests := true, laidLooks := .later }
def IvopHoldsUptoCardSaid : Prop := Claim7.holds Tryz.pinned (.plain (OpenSpec.upto ivopHoldsSpec)) ivopHoldsUptoCard

/-- THE SECOND FORM's CARD OF 'peloruslaw09.IvopWithin'. -/
def ivopWithinUptoCard : Claim7 := { stood := { row := ivopWithinUptoRow, standIns := [], harness := (true, "0d8c6555ae53875f5fac98b06835e5f383671c9a89bb36dde60d902280cee33b"), looks := false }, kinds := [], alts := [], laidByText := true, laidKinds := [.data, .data], laidTests := true, laidLooks := .later }
def IvopWithinUptoCardSaid : Prop := Claim7.holds Tryz.pinned (.plain (OpenSpec.upto ivopWithinSpec)) ivopWithinUptoCard

/-- THE SECOND FORM's CARD OF 'peloruslaw09.IvopRules'. -/
def ivopRulesUptoCard : Claim7 := { stood := { row := ivopRulesUptoRow, standIns := [], harness := (true, "0d8c6555ae53875f5fac98b06835e5f383671c9a89bb36dde60d902280cee33b"), looks := false }, kinds := [], alts := [], laidByText := true, laidKinds := [.data, .data], laidTests := true, laidLooks := .later }
def IvopRulesUptoCardSaid : Prop := Claim7.holds Tryz.pinned (.plain (OpenSpec.upto ivopRulesSpec)) ivopRulesUptoCard

/-- THE SECOND FORM's CARD OF 'peloruslaw09.IvopSpreads'. -/
def ivopSpreadsUptoCard : Claim7 := { stood := { row := ivopSpreadsUptoRow, standIns := [], harness := (true, "0d8c6555ae53875f5fac98b06835e5f383671c9a89bb36dde60d902280cee33b"), looks := false }, kinds := [], alts := [], laidByText := true, laidKinds := [.data, .data], laidTests := true, laidLooks := .later }
def IvopSpreadsUptoCardSaid : Prop := Claim7.holds Tryz.pinned (.plain (OpenSpec.upto ivopSpreadsSpec)) ivopSpreadsUptoCard
end Rows
end Go.Proofs.YteejbcimmmcnlaaGreatDoor
