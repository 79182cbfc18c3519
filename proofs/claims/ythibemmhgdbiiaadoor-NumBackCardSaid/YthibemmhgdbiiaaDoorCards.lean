/-
  DERIVED. GIVEN WITH THE SEED: THE CARDS: each row of YthibemmhgdbiiaaDoorRows.lean that lists a variable, with what it lists TIED to the program's text (the seventh form; the later family's looks); each row that meets fmt, with fmt's text TOLD by the authors' own Lean function (tested against real Go, not proved from fmt's source: count such statements apart). THE CARD IS WHAT COUNTS. Prove the row's statement (the work); the ties are given (YthibemmhgdbiiaaDoorTie.lean); close each card by the builder's one call (the guide's Derived/Test/ToyasCard.lean, 'card_holds'). Laid BY PROGRAM, IN A SANDBOX (cutbox-door.mjs). By AI agents, Wed Nov 11 2026. No macro, syntax, notation, axiom, sorry.
-/
import Derived.Test.YthibemmhgdbiiaaDoorRows
import GoSem.ClaimSeven
namespace Go.Proofs.YthibemmhgdbiiaaDoor
namespace Rows

/-- THE TIED CARD OF 'peloruslaw05.NumRounds'. -/
def numRoundsCard : Claim7 := { stood := { row := numRoundsRow, standIns := [], harness := (true, "923b2228d10b187d7a661222ca67584ceedc8a9d6a0716240e6577db6690f53f"), looks := false }, kinds := [], alts := [], laidByText := true, laidKinds := [.data], laidTests := true, laidLooks := .later }
def NumRoundsCardSaid : Prop := Claim7.holds Tryd.pinned (.plain (OpenSpec.ofChange numRoundsSpec)) numRoundsCard

/-- THE TIED CARD OF 'peloruslaw05.NumTells'. -/
def numTellsCard : Claim7 := { stood := { row := numTellsRow, standIns := [], harness := (true, "923b2228d10b187d7a661222ca67584ceedc8a9d6a0716240e6577db6690f53f"), looks := false }, kinds := [], alts := [], laidByText := true, laidKinds := [.data], laidTests := true, laidLooks := .later }
def NumTellsCardSaid : Prop := Claim7.holds Tryd.pinned (.plain (OpenSpec.ofChange numTellsSpec)) numTellsCard

/-- THE TIED CARD OF 'peloruslaw05.NumLeast'. -/
def numLeastCard : Claim7 := { stood := { row := numLeastRow, standIns := [], harness := (true, "923b2228d10b187d7a661222ca67584ceedc8a9d6a0716240e6577db6690f53f"), looks := false }, kinds := [], alts := [], laidByText := true, laidKinds := [.data], laidTests := true, laidLooks := .later }
def NumLeastCardSaid : Prop := Claim7.holds Tryd.pinned (.plain (OpenSpec.ofChange numLeastSpec)) numLeastCard

/-- THE TIED CARD OF 'peloruslaw05.NumTight'. -/
def numTightCard : Claim7 := { stood := { row := numTightRow, standIns := [], harness := (true, "923b2228d10b187d7a661222ca67584ceedc8a9d6a0716240e6577db6690f53f"), looks := false }, kinds := [], alts := [], laidByText := true, laidKinds := [.data], laidTests := true, laidLooks := .later }
def NumTightCardSaid : Prop := Claim7.holds Tryd.pinned (.plain (OpenSpec.ofChange numTightSpec)) numTightCard

/-- THE TIED CARD OF 'peloruslaw05.NumBack'. -/
def numBackCard : Claim7 := { stood := { row := numBackRow, standIns := [], harness := (true, "923b2228d10b187d7a661222ca67584ceedc8a9d6a0716240e6577db6690f53f"), looks := false }, kinds := [], alts := [], laidByText := true, laidKinds := [.data], laidTests := true, laidLooks := .later }
def NumBackCardSaid : Prop := Claim7.holds Tryd.pinned (.plain (OpenSpec.ofChange numBackSpec)) numBackCard

/-- THE TIED CARD OF 'peloruslaw05.NumNext'. -/
def numNextCard : Claim7 := { stood := { row := numNextRow, standIns := [], harness := (true, "923b2228d10b187d7a661222ca67584ceedc8a9d6a0716240e6577db6690f53f"), looks := false }, kinds := [], alts := [], laidByText := true, laidKinds := [.data], laidTests := true, laidLooks := .later }
def NumNextCardSaid : Prop := Claim7.holds Tryd.pinned (.plain (OpenSpec.ofChange numNextSpec)) numNextCard

/-- THE TIED CARD OF 'peloruslaw05.NumOrder'. -/
def numOrderCard : Claim7 := { stood := { row := numOrderRow, standIns := [], harness := (true, "923b2228d10b187d7a661222ca67584ceedc8a9d6a0716240e6577db6690f53f"), looks := false }, kinds := [], alts := [], laidByText := true, laidKinds := [.data], laidTests := true, laidLooks := .later }
def NumOrderCardSaid : Prop := Claim7.holds Tryd.pinned (.plain (OpenSpec.ofChange numOrderSpec)) numOrderCard

/-- THE TIED CARD OF 'peloruslaw05.NumWholes'. -/
def numWholesCard : Claim7 := { stood := { row := numWholesRow, standIns := [], harness := (true, "923b2228d10b187d7a661222ca67584ceedc8a9d6a0716240e6577db6690f53f"), looks := false }, kinds := [], alts := [], laidByText := true, laidKinds := [.data], laidTests := true, laidLooks := .later }
def NumWholesCardSaid : Prop := Claim7.holds Tryd.pinned (.plain (OpenSpec.ofChange numWholesSpec)) numWholesCard

/-- THE SECOND FORM's CARD OF 'peloruslaw05.NumRounds'. -/
def numRoundsUptoCard : Claim7 := { stood := { row := numRoundsUptoRow, standIns := [], harness := (true, "923b2228d10b187d7a661222ca67584ceedc8a9d6a0716240e6577db6690f53f"), looks := false }, kinds := [], alts := [], laidByText := true, laidKinds := [.data], laidTests := true, laidLooks := .later }
def NumRoundsUptoCardSaid : Prop := Claim7.holds Tryd.pinned (.plain (OpenSpec.upto numRoundsSpec)) numRoundsUptoCard

/-- THE SECOND FORM's CARD OF 'peloruslaw05.NumTells'. -/
def numTellsUptoCard : Claim7 := { stood := { row := numTellsUptoRow, standIns := [], harness := (true, "923b2228d10b187d7a661222ca67584ceedc8a9d6a0716240e6577db6690f53f"), looks := false }, kinds := [], alts := [], laidByText := true, laidKinds := [.data], laidTests := true, laidLooks := .later }
def NumTellsUptoCardSaid : Prop := Claim7.holds Tryd.pinned (.plain (OpenSpec.upto numTellsSpec)) numTellsUptoCard

/-- THE SECOND FORM's CARD OF 'peloruslaw05.NumLeast'. -/
def numLeastUptoCard : Claim7 := { stood := { row := numLeastUptoRow, standIns := [], harness := (true, "923b2228d10b187d7a661222ca67584ceedc8a9d6a0716240e6577db6690f53f"), looks := false }, kinds := [], alts := [], laidByText := true, laidKinds := [.data], laidTests := true, laidLooks := .later }
def NumLeastUptoCardSaid : Prop := Claim7.holds Tryd.pinned (.plain (OpenSpec.upto numLeastSpec)) numLeastUptoCard

/-- THE SECOND FORM's CARD OF 'peloruslaw05.NumTight'. -/
def numTightUptoCard : Claim7 := { stood := { row := numTightUptoRow, standIns := [], harness := (true, "923b2228d10b187d7a661222ca67584ceedc8a9d6a0716240e6577db6690f53f"), looks := false }, kinds := [], alts := [], laidByText := true, laidKinds := [.data], laidTests := true, laidLooks := .later }
def NumTightUptoCardSaid : Prop := Claim7.holds Tryd.pinned (.plain (OpenSpec.upto numTightSpec)) numTightUptoCard

/-- THE SECOND FORM's CARD OF 'peloruslaw05.NumBack'. -/
def numBackUptoCard : Claim7 := { stood := { row := numBackUptoRow, standIns := [], harness := (true, "923b2228d10b187d7a661222ca67584ceedc8a9d6a0716240e6577db6690f53f"), looks := false }, kinds := [], alts := [], laidByText := true, laidKinds := [.data], laidTests := true, laidLooks := .later }
def NumBackUptoCardSaid : Prop := Claim7.holds Tryd.pinned (.plain (OpenSpec.upto numBackSpec)) numBackUptoCard

/-- THE SECOND FORM's CARD OF 'peloruslaw05.NumNext'. -/
def numNextUptoCard : Claim7 := { stood := { row := numNextUptoRow, standIns := [], harness := (true, "923b2228d10b187d7a661222ca67584ceedc8a9d6a0716240e6577db6690f53f"), looks := false }, kinds := [], alts := [], laidByText := true, laidKinds := [.data], laidTests := true, laidLooks := .later }
def NumNextUptoCardSaid : Prop := Claim7.holds Tryd.pinned (.plain (OpenSpec.upto numNextSpec)) numNextUptoCard

/-- THE SECOND FORM's CARD OF 'peloruslaw05.NumOrder'. -/
def numOrderUptoCard : Claim7 := { stood := { row := numOrderUptoRow, standIns := [], harness := (true, "923b2228d10b187d7a661222ca67584ceedc8a9d6a0716240e6577db6690f53f"), looks := false }, kinds := [], alts := [], laidByText := true, laidKinds := [.data], laidTests := true, laidLooks := .later }
def NumOrderUptoCardSaid : Prop := Claim7.holds Tryd.pinned (.plain (OpenSpec.upto numOrderSpec)) numOrderUptoCard

/-- THE SECOND FORM's CARD OF 'peloruslaw05.NumWholes'. -/
def numWholesUptoCard : Claim7 := { stood := { row := numWholesUptoRow, standIns := [], harness := (true, "923b2228d10b187d7a661222ca67584ceedc8a9d6a0716240e6577db6690f53f"), looks := false }, kinds := [], alts := [], laidByText := true, laidKinds := [.data], laidTests := true, laidLooks := .later }
def NumWholesUptoCardSaid : Prop := Claim7.holds Tryd.pinned (.plain (OpenSpec.upto numWholesSpec)) numWholesUptoCard
end Rows
end Go.Proofs.YthibemmhgdbiiaaDoor
