/-
  NARROWER THAN 'FOR EVERY INPUT', by the rows' own cells (each row's printed sentence says how): PiHolds: laid · PiTight: laid · PiDoubles: laid · PiParts: laid.
  DERIVED. THE GIVEN ROWS OF THIS SEAT. 4 by the template 'for every input the law returns true; each argument reads behind the call as it read before'; 0 by the template 'total and deterministic' (their statements: YtmmallhniijdfaaDoorTotals.lean).
  GIVEN WITH THE SEED: the statements are not yours to turn. If you find one false, say at which input.
  Laid BY PROGRAM, IN A SANDBOX (cutbox-rows.mjs): the forced cells as the released guide's own fill.sh prints them over the translation 480f332f2b20655d… (all of the seat's roots in one cut). By AI agents, Wed Nov 11 2026. No macro, syntax, notation, axiom, sorry.
-/
import Derived.Test.YtmmallhniijdfaaDoorChecked
import GoSem.Claim
import GoSem.ClaimJoined
import GoSem.ClaimMapViews
import Derived.JoinedTies
import Derived.KernelRfl
namespace Go.Proofs.YtmmallhniijdfaaDoor
/- THE CELL 'sum', in the pinned program and in every row, IS THE sha256 OF THE DUMP (.gsa) THAT YtmmallhniijdfaaDoorProg.lean LOADS. Nothing in Lean hashes anything: it is a label: what it is worth is what the hold of that sum in a sandbox is worth. -/
noncomputable def Tryd.pinned : Pinned := { name := "ytmmallhniijdfaadoor", sum := "480f332f2b20655d690a27f48746f0c4f92a4d032b929152b62ceaab6cf0e188", checked := Tryd.checked }
namespace Rows
def none {H : Type} : Left H := { results := [], args := [] }

/- WHAT THE LISTED PACKAGE-LEVEL VARIABLES READ AS WHEN THE CALL BEGINS. Each datum BY PROGRAM (the guide's laid-datum.mjs) off the statement by which the dump's own 'gosem.cut.vars' lays the variable. In a bare row this is a premise. The card (YtmmallhniijdfaaDoorCards.lean) ties it to the program's text. -/
def laid_math_bits_deBruijn32tab {H : Type} : DataW H := .agg [.lit (.int .u8 0), .lit (.int .u8 1), .lit (.int .u8 28), .lit (.int .u8 2), .lit (.int .u8 29), .lit (.int .u8 14), .lit (.int .u8 24), .lit (.int .u8 3), .lit (.int .u8 30), .lit (.int .u8 22), .lit (.int .u8 20), .lit (.int .u8 15), .lit (.int .u8 25), .lit (.int .u8 17), .lit (.int .u8 4), .lit (.int .u8 8), .lit (.int .u8 31), .lit (.int .u8 27), .lit (.int .u8 13), .lit (.int .u8 23), .lit (.int .u8 21), .lit (.int .u8 19), .lit (.int .u8 16), .lit (.int .u8 7), .lit (.int .u8 26), .lit (.int .u8 12), .lit (.int .u8 18), .lit (.int .u8 6), .lit (.int .u8 11), .lit (.int .u8 5), .lit (.int .u8 10), .lit (.int .u8 9)]

/-- 'peloruslaw11.PiHolds': WHATEVER THE INPUT: true; the input reads as it did. -/
def piHoldsSpec : ChangeSpec := { name := "piHolds", fn := fun _ => fun
  | [d] => { results := [.lit (.bool true)], args := [d] }
  | _ => none }
def piHoldsRow : OpenClaim := { program := "ytmmallhniijdfaadoor", sum := "480f332f2b20655d690a27f48746f0c4f92a4d032b929152b62ceaab6cf0e188", func := "pelorus/peloruslaw11.PiHolds", spec := "piHolds", unfollowed := true, recurses := true, named := ["math/bits.overflowError", "math/bits.deBruijn32tab"], apart := false, laid := [("math/bits.deBruijn32tab", laid_math_bits_deBruijn32tab)] }
def PiHoldsSaid : Prop := piHoldsRow.holds Tryd.pinned (OpenSpec.ofChange piHoldsSpec)

/-- ITS FALSE NEIGHBOUR: 'it returns false'. Refute it at one input. -/
def piHoldsWrong : ChangeSpec := { name := "piHolds", fn := fun _ => fun
  | [d] => { results := [.lit (.bool false)], args := [d] }
  | _ => none }
def PiHoldsWrongFalsely : Prop := piHoldsRow.holds Tryd.pinned (OpenSpec.ofChange piHoldsWrong)

/-- 'peloruslaw11.PiTight': WHATEVER THE INPUT: true; the input reads as it did. -/
def piTightSpec : ChangeSpec := { name := "piTight", fn := fun _ => fun
  | [d] => { results := [.lit (.bool true)], args := [d] }
  | _ => none }
def piTightRow : OpenClaim := { program := "ytmmallhniijdfaadoor", sum := "480f332f2b20655d690a27f48746f0c4f92a4d032b929152b62ceaab6cf0e188", func := "pelorus/peloruslaw11.PiTight", spec := "piTight", unfollowed := true, recurses := true, named := ["math/bits.overflowError", "math/bits.deBruijn32tab"], apart := false, laid := [("math/bits.deBruijn32tab", laid_math_bits_deBruijn32tab)] }
def PiTightSaid : Prop := piTightRow.holds Tryd.pinned (OpenSpec.ofChange piTightSpec)

/-- ITS FALSE NEIGHBOUR: 'it returns false'. Refute it at one input. -/
def piTightWrong : ChangeSpec := { name := "piTight", fn := fun _ => fun
  | [d] => { results := [.lit (.bool false)], args := [d] }
  | _ => none }
def PiTightWrongFalsely : Prop := piTightRow.holds Tryd.pinned (OpenSpec.ofChange piTightWrong)

/-- 'peloruslaw11.PiDoubles': WHATEVER THE INPUT: true; the input reads as it did. -/
def piDoublesSpec : ChangeSpec := { name := "piDoubles", fn := fun _ => fun
  | [d] => { results := [.lit (.bool true)], args := [d] }
  | _ => none }
def piDoublesRow : OpenClaim := { program := "ytmmallhniijdfaadoor", sum := "480f332f2b20655d690a27f48746f0c4f92a4d032b929152b62ceaab6cf0e188", func := "pelorus/peloruslaw11.PiDoubles", spec := "piDoubles", unfollowed := true, recurses := true, named := ["math/bits.overflowError", "math/bits.deBruijn32tab"], apart := false, laid := [("math/bits.deBruijn32tab", laid_math_bits_deBruijn32tab)] }
def PiDoublesSaid : Prop := piDoublesRow.holds Tryd.pinned (OpenSpec.ofChange piDoublesSpec)

/-- ITS FALSE NEIGHBOUR: 'it returns false'. Refute it at one input. -/
def piDoublesWrong : ChangeSpec := { name := "piDoubles", fn := fun _ => fun
  | [d] => { results := [.lit (.bool false)], args := [d] }
  | _ => none }
def PiDoublesWrongFalsely : Prop := piDoublesRow.holds Tryd.pinned (OpenSpec.ofChange piDoublesWrong)

/-- 'peloruslaw11.PiParts': WHATEVER THE INPUT: true; the input reads as it did. -/
def piPartsSpec : ChangeSpec := { name := "piParts", fn := fun _ => fun
  | [d] => { results := [.lit (.bool true)], args := [d] }
  | _ => none }
def piPartsRow : OpenClaim := { program := "ytmmallhniijdfaadoor", sum := "480f332f2b20655d690a27f48746f0c4f92a4d032b929152b62ceaab6cf0e188", func := "pelorus/peloruslaw11.PiParts", spec := "piParts", unfollowed := true, recurses := true, named := ["math/bits.overflowError", "math/bits.deBruijn32tab"], apart := false, laid := [("math/bits.deBruijn32tab", laid_math_bits_deBruijn32tab)] }
def PiPartsSaid : Prop := piPartsRow.holds Tryd.pinned (OpenSpec.ofChange piPartsSpec)

/-- ITS FALSE NEIGHBOUR: 'it returns false'. Refute it at one input. -/
def piPartsWrong : ChangeSpec := { name := "piParts", fn := fun _ => fun
  | [d] => { results := [.lit (.bool false)], args := [d] }
  | _ => none }
def PiPartsWrongFalsely : Prop := piPartsRow.holds Tryd.pinned (OpenSpec.ofChange piPartsWrong)

/- THE SECOND FORM. 'bulk': how many values and letters a reading holds, each counted each time it is reached (what is shared counts as often as it is met; a slice's spare places count too). A statement '..UptoSaid' is the law's where the arguments, and the package variables that the reading takes, are together of bulk at most 1048576: NARROWER than '..Said'. Prove '..Said' where nothing that the law and all that it calls make is longer than what came in: it says more and counts as full. Else prove '..UptoSaid'. A law counts once. -/
mutual
def uptoBulk {H : Type} : DataW H → Nat
  | .lit (.string bytes) => bytes.length + 1
  | .lit _ => 1
  | .nil => 1
  | .ptr d => uptoBulk d + 1
  | .slice elems spare => uptoBulkAll elems + uptoBulkAll spare + 1
  | .agg parts => uptoBulkAll parts + 1
  | .iface _ d => uptoBulk d + 1
  | .map entries => uptoBulkEntries entries + 1
  | .held _ => 1
def uptoBulkAll {H : Type} : List (DataW H) → Nat
  | [] => 0
  | d :: r => uptoBulk d + uptoBulkAll r
def uptoBulkEntries {H : Type} : List (Lit × DataW H) → Nat
  | [] => 0
  | x :: r => uptoBulkEntry x + uptoBulkEntries r
def uptoBulkEntry {H : Type} : Lit × DataW H → Nat
  | (.string bytes, d) => bytes.length + uptoBulk d + 1
  | (_, d) => uptoBulk d + 1
 end
def uptoSmall : (H : Type) → List (DataW H) → Bool := fun _ ds => decide (uptoBulkAll ds ≤ 1048576)
def OpenSpec.upto (s : _root_.Go.ChangeSpec) : _root_.Go.OpenSpec := { _root_.Go.OpenSpec.ofChange s with cond := some uptoSmall }

/-- 'peloruslaw11.PiHolds', WHERE WHAT IT READS IS OF BULK AT MOST 1048576: true; the input reads as it did. -/
def piHoldsUptoRow : OpenClaim := { program := "ytmmallhniijdfaadoor", sum := "480f332f2b20655d690a27f48746f0c4f92a4d032b929152b62ceaab6cf0e188", func := "pelorus/peloruslaw11.PiHolds", spec := "piHolds", unfollowed := true, recurses := true, named := ["math/bits.overflowError", "math/bits.deBruijn32tab"], apart := false, laid := [("math/bits.deBruijn32tab", laid_math_bits_deBruijn32tab)], narrowed := true }
def PiHoldsUptoSaid : Prop := piHoldsUptoRow.holds Tryd.pinned (OpenSpec.upto piHoldsSpec)

/-- 'peloruslaw11.PiTight', WHERE WHAT IT READS IS OF BULK AT MOST 1048576: true; the input reads as it did. -/
def piTightUptoRow : OpenClaim := { program := "ytmmallhniijdfaadoor", sum := "480f332f2b20655d690a27f48746f0c4f92a4d032b929152b62ceaab6cf0e188", func := "pelorus/peloruslaw11.PiTight", spec := "piTight", unfollowed := true, recurses := true, named := ["math/bits.overflowError", "math/bits.deBruijn32tab"], apart := false, laid := [("math/bits.deBruijn32tab", laid_math_bits_deBruijn32tab)], narrowed := true }
def PiTightUptoSaid : Prop := piTightUptoRow.holds Tryd.pinned (OpenSpec.upto piTightSpec)

/-- 'peloruslaw11.PiDoubles', WHERE WHAT IT READS IS OF BULK AT MOST 1048576: true; the input reads as it did. -/
def piDoublesUptoRow : OpenClaim := { program := "ytmmallhniijdfaadoor", sum := "480f332f2b20655d690a27f48746f0c4f92a4d032b929152b62ceaab6cf0e188", func := "pelorus/peloruslaw11.PiDoubles", spec := "piDoubles", unfollowed := true, recurses := true, named := ["math/bits.overflowError", "math/bits.deBruijn32tab"], apart := false, laid := [("math/bits.deBruijn32tab", laid_math_bits_deBruijn32tab)], narrowed := true }
def PiDoublesUptoSaid : Prop := piDoublesUptoRow.holds Tryd.pinned (OpenSpec.upto piDoublesSpec)

/-- 'peloruslaw11.PiParts', WHERE WHAT IT READS IS OF BULK AT MOST 1048576: true; the input reads as it did. -/
def piPartsUptoRow : OpenClaim := { program := "ytmmallhniijdfaadoor", sum := "480f332f2b20655d690a27f48746f0c4f92a4d032b929152b62ceaab6cf0e188", func := "pelorus/peloruslaw11.PiParts", spec := "piParts", unfollowed := true, recurses := true, named := ["math/bits.overflowError", "math/bits.deBruijn32tab"], apart := false, laid := [("math/bits.deBruijn32tab", laid_math_bits_deBruijn32tab)], narrowed := true }
def PiPartsUptoSaid : Prop := piPartsUptoRow.holds Tryd.pinned (OpenSpec.upto piPartsSpec)

end Rows
end Go.Proofs.YtmmallhniijdfaaDoor
