/-
  NARROWER THAN 'FOR EVERY INPUT', by the rows' own cells (each row's printed sentence says how): ArithSums: laid · ArithProducts: laid · ArithMany: laid · ArithHolds: laid · ArithGrows: laid · ArithTurns: laid · ArithUnits: laid · ArithFar: laid.
  DERIVED. THE GIVEN ROWS OF THIS SEAT. 8 by the template 'for every input the law returns true; each argument reads behind the call as it read before'; 0 by the template 'total and deterministic' (their statements: YtbhnpmkdmnnclaaDoorTotals.lean).
  GIVEN WITH THE SEED: the statements are not yours to turn. If you find one false, say at which input.
  Laid BY PROGRAM, IN A SANDBOX (cutbox-rows.mjs): the forced cells as the released guide's own fill.sh prints them over the translation 116a3c4b0b0b1fe1… (all of the seat's roots in one cut). By AI agents, Wed Nov 11 2026. No macro, syntax, notation, axiom, sorry.
-/
import Derived.Test.YtbhnpmkdmnnclaaDoorChecked
import GoSem.Claim
import GoSem.ClaimJoined
import GoSem.ClaimMapViews
import Derived.JoinedTies
import Derived.KernelRfl
namespace Go.Proofs.YtbhnpmkdmnnclaaDoor
/- THE CELL 'sum', in the pinned program and in every row, IS THE sha256 OF THE DUMP (.gsa) THAT YtbhnpmkdmnnclaaDoorProg.lean LOADS. Nothing in Lean hashes anything: it is a label: what it is worth is what the hold of that sum in a sandbox is worth. -/
noncomputable def Tryd.pinned : Pinned := { name := "ytbhnpmkdmnnclaadoor", sum := "116a3c4b0b0b1fe15deea0b2eafce095108a0f0ec75433fd12202cb7cda76472", checked := Tryd.checked }
namespace Rows
def none {H : Type} : Left H := { results := [], args := [] }

/- WHAT THE LISTED PACKAGE-LEVEL VARIABLES READ AS WHEN THE CALL BEGINS. Each datum BY PROGRAM (the guide's laid-datum.mjs) off the statement by which the dump's own 'gosem.cut.vars' lays the variable. In a bare row this is a premise. The card (YtbhnpmkdmnnclaaDoorCards.lean) ties it to the program's text. -/
def laid_math_bits_deBruijn64tab {H : Type} : DataW H := .agg [.lit (.int .u8 0), .lit (.int .u8 1), .lit (.int .u8 56), .lit (.int .u8 2), .lit (.int .u8 57), .lit (.int .u8 49), .lit (.int .u8 28), .lit (.int .u8 3), .lit (.int .u8 61), .lit (.int .u8 58), .lit (.int .u8 42), .lit (.int .u8 50), .lit (.int .u8 38), .lit (.int .u8 29), .lit (.int .u8 17), .lit (.int .u8 4), .lit (.int .u8 62), .lit (.int .u8 47), .lit (.int .u8 59), .lit (.int .u8 36), .lit (.int .u8 45), .lit (.int .u8 43), .lit (.int .u8 51), .lit (.int .u8 22), .lit (.int .u8 53), .lit (.int .u8 39), .lit (.int .u8 33), .lit (.int .u8 30), .lit (.int .u8 24), .lit (.int .u8 18), .lit (.int .u8 12), .lit (.int .u8 5), .lit (.int .u8 63), .lit (.int .u8 55), .lit (.int .u8 48), .lit (.int .u8 27), .lit (.int .u8 60), .lit (.int .u8 41), .lit (.int .u8 37), .lit (.int .u8 16), .lit (.int .u8 46), .lit (.int .u8 35), .lit (.int .u8 44), .lit (.int .u8 21), .lit (.int .u8 52), .lit (.int .u8 32), .lit (.int .u8 23), .lit (.int .u8 11), .lit (.int .u8 54), .lit (.int .u8 26), .lit (.int .u8 40), .lit (.int .u8 15), .lit (.int .u8 34), .lit (.int .u8 20), .lit (.int .u8 31), .lit (.int .u8 10), .lit (.int .u8 25), .lit (.int .u8 14), .lit (.int .u8 19), .lit (.int .u8 9), .lit (.int .u8 13), .lit (.int .u8 8), .lit (.int .u8 7), .lit (.int .u8 6)]
def laid_math_bits_deBruijn32tab {H : Type} : DataW H := .agg [.lit (.int .u8 0), .lit (.int .u8 1), .lit (.int .u8 28), .lit (.int .u8 2), .lit (.int .u8 29), .lit (.int .u8 14), .lit (.int .u8 24), .lit (.int .u8 3), .lit (.int .u8 30), .lit (.int .u8 22), .lit (.int .u8 20), .lit (.int .u8 15), .lit (.int .u8 25), .lit (.int .u8 17), .lit (.int .u8 4), .lit (.int .u8 8), .lit (.int .u8 31), .lit (.int .u8 27), .lit (.int .u8 13), .lit (.int .u8 23), .lit (.int .u8 21), .lit (.int .u8 19), .lit (.int .u8 16), .lit (.int .u8 7), .lit (.int .u8 26), .lit (.int .u8 12), .lit (.int .u8 18), .lit (.int .u8 6), .lit (.int .u8 11), .lit (.int .u8 5), .lit (.int .u8 10), .lit (.int .u8 9)]

/-- 'peloruslaw06.ArithSums': WHATEVER THE INPUT: true; the input reads as it did. -/
def arithSumsSpec : ChangeSpec := { name := "arithSums", fn := fun _ => fun
  | [d1, d2, d3] => { results := [.lit (.bool true)], args := [d1, d2, d3] }
  | _ => none }
def arithSumsRow : OpenClaim := { program := "ytbhnpmkdmnnclaadoor", sum := "116a3c4b0b0b1fe15deea0b2eafce095108a0f0ec75433fd12202cb7cda76472", func := "pelorus/peloruslaw06.ArithSums", spec := "arithSums", inPlace := ["math/bits.Add64", "math/bits.Sub64"], named := ["math/bits.deBruijn64tab"], apart := false, laid := [("math/bits.deBruijn64tab", laid_math_bits_deBruijn64tab)] }
def ArithSumsSaid : Prop := arithSumsRow.holds Tryd.pinned (OpenSpec.ofChange arithSumsSpec)

/-- ITS FALSE NEIGHBOUR: 'it returns false'. Refute it at one input. -/
def arithSumsWrong : ChangeSpec := { name := "arithSums", fn := fun _ => fun
  | [d1, d2, d3] => { results := [.lit (.bool false)], args := [d1, d2, d3] }
  | _ => none }
def ArithSumsWrongFalsely : Prop := arithSumsRow.holds Tryd.pinned (OpenSpec.ofChange arithSumsWrong)

/-- 'peloruslaw06.ArithProducts': WHATEVER THE INPUT: true; the input reads as it did. -/
def arithProductsSpec : ChangeSpec := { name := "arithProducts", fn := fun _ => fun
  | [d1, d2, d3] => { results := [.lit (.bool true)], args := [d1, d2, d3] }
  | _ => none }
def arithProductsRow : OpenClaim := { program := "ytbhnpmkdmnnclaadoor", sum := "116a3c4b0b0b1fe15deea0b2eafce095108a0f0ec75433fd12202cb7cda76472", func := "pelorus/peloruslaw06.ArithProducts", spec := "arithProducts", inPlace := ["math/bits.Add64", "math/bits.Sub64"], named := ["math/bits.deBruijn64tab"], apart := false, laid := [("math/bits.deBruijn64tab", laid_math_bits_deBruijn64tab)] }
def ArithProductsSaid : Prop := arithProductsRow.holds Tryd.pinned (OpenSpec.ofChange arithProductsSpec)

/-- ITS FALSE NEIGHBOUR: 'it returns false'. Refute it at one input. -/
def arithProductsWrong : ChangeSpec := { name := "arithProducts", fn := fun _ => fun
  | [d1, d2, d3] => { results := [.lit (.bool false)], args := [d1, d2, d3] }
  | _ => none }
def ArithProductsWrongFalsely : Prop := arithProductsRow.holds Tryd.pinned (OpenSpec.ofChange arithProductsWrong)

/-- 'peloruslaw06.ArithMany': WHATEVER THE INPUT: true; the input reads as it did. -/
def arithManySpec : ChangeSpec := { name := "arithMany", fn := fun _ => fun
  | [d1, d2] => { results := [.lit (.bool true)], args := [d1, d2] }
  | _ => none }
def arithManyRow : OpenClaim := { program := "ytbhnpmkdmnnclaadoor", sum := "116a3c4b0b0b1fe15deea0b2eafce095108a0f0ec75433fd12202cb7cda76472", func := "pelorus/peloruslaw06.ArithMany", spec := "arithMany", inPlace := ["math/bits.Add64", "math/bits.Sub64"], named := ["math/bits.deBruijn64tab"], apart := false, laid := [("math/bits.deBruijn64tab", laid_math_bits_deBruijn64tab)] }
def ArithManySaid : Prop := arithManyRow.holds Tryd.pinned (OpenSpec.ofChange arithManySpec)

/-- ITS FALSE NEIGHBOUR: 'it returns false'. Refute it at one input. -/
def arithManyWrong : ChangeSpec := { name := "arithMany", fn := fun _ => fun
  | [d1, d2] => { results := [.lit (.bool false)], args := [d1, d2] }
  | _ => none }
def ArithManyWrongFalsely : Prop := arithManyRow.holds Tryd.pinned (OpenSpec.ofChange arithManyWrong)

/-- 'peloruslaw06.ArithHolds': WHATEVER THE INPUT: true; the input reads as it did. -/
def arithHoldsSpec : ChangeSpec := { name := "arithHolds", fn := fun _ => fun
  | [d1, d2] => { results := [.lit (.bool true)], args := [d1, d2] }
  | _ => none }
def arithHoldsRow : OpenClaim := { program := "ytbhnpmkdmnnclaadoor", sum := "116a3c4b0b0b1fe15deea0b2eafce095108a0f0ec75433fd12202cb7cda76472", func := "pelorus/peloruslaw06.ArithHolds", spec := "arithHolds", inPlace := ["math/bits.Add64", "math/bits.Sub64"], named := ["math/bits.deBruijn64tab", "math/bits.deBruijn32tab"], apart := false, laid := [("math/bits.deBruijn32tab", laid_math_bits_deBruijn32tab), ("math/bits.deBruijn64tab", laid_math_bits_deBruijn64tab)] }
def ArithHoldsSaid : Prop := arithHoldsRow.holds Tryd.pinned (OpenSpec.ofChange arithHoldsSpec)

/-- ITS FALSE NEIGHBOUR: 'it returns false'. Refute it at one input. -/
def arithHoldsWrong : ChangeSpec := { name := "arithHolds", fn := fun _ => fun
  | [d1, d2] => { results := [.lit (.bool false)], args := [d1, d2] }
  | _ => none }
def ArithHoldsWrongFalsely : Prop := arithHoldsRow.holds Tryd.pinned (OpenSpec.ofChange arithHoldsWrong)

/-- 'peloruslaw06.ArithGrows': WHATEVER THE INPUT: true; the input reads as it did. -/
def arithGrowsSpec : ChangeSpec := { name := "arithGrows", fn := fun _ => fun
  | [d1, d2, d3, d4] => { results := [.lit (.bool true)], args := [d1, d2, d3, d4] }
  | _ => none }
def arithGrowsRow : OpenClaim := { program := "ytbhnpmkdmnnclaadoor", sum := "116a3c4b0b0b1fe15deea0b2eafce095108a0f0ec75433fd12202cb7cda76472", func := "pelorus/peloruslaw06.ArithGrows", spec := "arithGrows", inPlace := ["math/bits.Add64", "math/bits.Sub64"], named := ["math/bits.deBruijn64tab"], apart := false, laid := [("math/bits.deBruijn64tab", laid_math_bits_deBruijn64tab)] }
def ArithGrowsSaid : Prop := arithGrowsRow.holds Tryd.pinned (OpenSpec.ofChange arithGrowsSpec)

/-- ITS FALSE NEIGHBOUR: 'it returns false'. Refute it at one input. -/
def arithGrowsWrong : ChangeSpec := { name := "arithGrows", fn := fun _ => fun
  | [d1, d2, d3, d4] => { results := [.lit (.bool false)], args := [d1, d2, d3, d4] }
  | _ => none }
def ArithGrowsWrongFalsely : Prop := arithGrowsRow.holds Tryd.pinned (OpenSpec.ofChange arithGrowsWrong)

/-- 'peloruslaw06.ArithTurns': WHATEVER THE INPUT: true; the input reads as it did. -/
def arithTurnsSpec : ChangeSpec := { name := "arithTurns", fn := fun _ => fun
  | [d1, d2, d3] => { results := [.lit (.bool true)], args := [d1, d2, d3] }
  | _ => none }
def arithTurnsRow : OpenClaim := { program := "ytbhnpmkdmnnclaadoor", sum := "116a3c4b0b0b1fe15deea0b2eafce095108a0f0ec75433fd12202cb7cda76472", func := "pelorus/peloruslaw06.ArithTurns", spec := "arithTurns", inPlace := ["math/bits.Add64", "math/bits.Sub64"], named := ["math/bits.deBruijn64tab"], apart := false, laid := [("math/bits.deBruijn64tab", laid_math_bits_deBruijn64tab)] }
def ArithTurnsSaid : Prop := arithTurnsRow.holds Tryd.pinned (OpenSpec.ofChange arithTurnsSpec)

/-- ITS FALSE NEIGHBOUR: 'it returns false'. Refute it at one input. -/
def arithTurnsWrong : ChangeSpec := { name := "arithTurns", fn := fun _ => fun
  | [d1, d2, d3] => { results := [.lit (.bool false)], args := [d1, d2, d3] }
  | _ => none }
def ArithTurnsWrongFalsely : Prop := arithTurnsRow.holds Tryd.pinned (OpenSpec.ofChange arithTurnsWrong)

/-- 'peloruslaw06.ArithUnits': WHATEVER THE INPUT: true; the input reads as it did. -/
def arithUnitsSpec : ChangeSpec := { name := "arithUnits", fn := fun _ => fun
  | [d1, d2] => { results := [.lit (.bool true)], args := [d1, d2] }
  | _ => none }
def arithUnitsRow : OpenClaim := { program := "ytbhnpmkdmnnclaadoor", sum := "116a3c4b0b0b1fe15deea0b2eafce095108a0f0ec75433fd12202cb7cda76472", func := "pelorus/peloruslaw06.ArithUnits", spec := "arithUnits", inPlace := ["math/bits.Add64", "math/bits.Sub64"], named := ["math/bits.deBruijn64tab"], apart := false, laid := [("math/bits.deBruijn64tab", laid_math_bits_deBruijn64tab)] }
def ArithUnitsSaid : Prop := arithUnitsRow.holds Tryd.pinned (OpenSpec.ofChange arithUnitsSpec)

/-- ITS FALSE NEIGHBOUR: 'it returns false'. Refute it at one input. -/
def arithUnitsWrong : ChangeSpec := { name := "arithUnits", fn := fun _ => fun
  | [d1, d2] => { results := [.lit (.bool false)], args := [d1, d2] }
  | _ => none }
def ArithUnitsWrongFalsely : Prop := arithUnitsRow.holds Tryd.pinned (OpenSpec.ofChange arithUnitsWrong)

/-- 'peloruslaw06.ArithFar': WHATEVER THE INPUT: true; the input reads as it did. -/
def arithFarSpec : ChangeSpec := { name := "arithFar", fn := fun _ => fun
  | [d1, d2] => { results := [.lit (.bool true)], args := [d1, d2] }
  | _ => none }
def arithFarRow : OpenClaim := { program := "ytbhnpmkdmnnclaadoor", sum := "116a3c4b0b0b1fe15deea0b2eafce095108a0f0ec75433fd12202cb7cda76472", func := "pelorus/peloruslaw06.ArithFar", spec := "arithFar", inPlace := ["math/bits.Add64", "math/bits.Sub64"], named := ["math/bits.deBruijn64tab"], apart := false, laid := [("math/bits.deBruijn64tab", laid_math_bits_deBruijn64tab)] }
def ArithFarSaid : Prop := arithFarRow.holds Tryd.pinned (OpenSpec.ofChange arithFarSpec)

/-- ITS FALSE NEIGHBOUR: 'it returns false'. Refute it at one input. -/
def arithFarWrong : ChangeSpec := { name := "arithFar", fn := fun _ => fun
  | [d1, d2] => { results := [.lit (.bool false)], args := [d1, d2] }
  | _ => none }
def ArithFarWrongFalsely : Prop := arithFarRow.holds Tryd.pinned (OpenSpec.ofChange arithFarWrong)

/- THE SECOND FORM. 'bulk': how many values and letters a reading holds, each counted each time it is reached (what is shared counts as often as it is met; a slice's spare places count too). A statement '..UptoSaid' is the law's where the arguments, and the package variables that the reading takes, are together of bulk at most 1048576: NARROWER than '..Said'. Prove '..Said' where nothing that the law and all that it calls make is longer than what came in: it says more and counts as full. Else prove '..UptoSaid'. A law counts once. -/
mutual
def uptoBulk {H : Type} : DataW H → Nat
  | .lit (.string bytes) => bytes.length + 1
  | .lit _ => 1
  | .nil => 1
  | .ptr d => uptoBulk d + 1
  | .slice elems spare => uptoBulkAll elems + uptoBulkAll spare + 1
  | .agg parts => uptoBulkAll parts + 1
  | .iface _ d => uptoBulk d + 1
  | .map entries => uptoBulkEntries entries + 1
  | .held _ => 1
def uptoBulkAll {H : Type} : List (DataW H) → Nat
  | [] => 0
  | d :: r => uptoBulk d + uptoBulkAll r
def uptoBulkEntries {H : Type} : List (Lit × DataW H) → Nat
  | [] => 0
  | x :: r => uptoBulkEntry x + uptoBulkEntries r
def uptoBulkEntry {H : Type} : Lit × DataW H → Nat
  | (.string bytes, d) => bytes.length + uptoBulk d + 1
  | (_, d) => uptoBulk d + 1
 end
def uptoSmall : (H : Type) → List (DataW H) → Bool := fun _ ds => decide (uptoBulkAll ds ≤ 1048576)
def OpenSpec.upto (s : _root_.Go.ChangeSpec) : _root_.Go.OpenSpec := { _root_.Go.OpenSpec.ofChange s with cond := some uptoSmall }

/-- 'peloruslaw06.ArithSums', WHERE WHAT IT READS IS OF BULK AT MOST 1048576: true; the input reads as it did. -/
def arithSumsUptoRow : OpenClaim := { program := "ytbhnpmkdmnnclaadoor", sum := "116a3c4b0b0b1fe15deea0b2eafce095108a0f0ec75433fd12202cb7cda76472", func := "pelorus/peloruslaw06.ArithSums", spec := "arithSums", inPlace := ["math/bits.Add64", "math/bits.Sub64"], named := ["math/bits.deBruijn64tab"], apart := false, laid := [("math/bits.deBruijn64tab", laid_math_bits_deBruijn64tab)], narrowed := true }
def ArithSumsUptoSaid : Prop := arithSumsUptoRow.holds Tryd.pinned (OpenSpec.upto arithSumsSpec)

/-- 'peloruslaw06.ArithProducts', WHERE WHAT IT READS IS OF BULK AT MOST 1048576: true; the input reads as it did. -/
def arithProductsUptoRow : OpenClaim := { program := "ytbhnpmkdmnnclaadoor", sum := "116a3c4b0b0b1fe15deea0b2eafce095108a0f0ec75433fd12202cb7cda76472", func := "pelorus/peloruslaw06.ArithProducts", spec := "arithProducts", inPlace := ["math/bits.Add64", "math/bits.Sub64"], named := ["math/bits.deBruijn64tab"], apart := false, laid := [("math/bits.deBruijn64tab", laid_math_bits_deBruijn64tab)], narrowed := true }
def ArithProductsUptoSaid : Prop := arithProductsUptoRow.holds Tryd.pinned (OpenSpec.upto arithProductsSpec)

/-- 'peloruslaw06.ArithMany', WHERE WHAT IT READS IS OF BULK AT MOST 1048576: true; the input reads as it did. -/
def arithManyUptoRow : OpenClaim := { program := "ytbhnpmkdmnnclaadoor", sum := "116a3c4b0b0b1fe15deea0b2eafce095108a0f0ec75433fd12202cb7cda76472", func := "pelorus/peloruslaw06.ArithMany", spec := "arithMany", inPlace := ["math/bits.Add64", "math/bits.Sub64"], named := ["math/bits.deBruijn64tab"], apart := false, laid := [("math/bits.deBruijn64tab", laid_math_bits_deBruijn64tab)], narrowed := true }
def ArithManyUptoSaid : Prop := arithManyUptoRow.holds Tryd.pinned (OpenSpec.upto arithManySpec)

/-- 'peloruslaw06.ArithHolds', WHERE WHAT IT READS IS OF BULK AT MOST 1048576: true; the input reads as it did. -/
def arithHoldsUptoRow : OpenClaim := { program := "ytbhnpmkdmnnclaadoor", sum := "116a3c4b0b0b1fe15deea0b2eafce095108a0f0ec75433fd12202cb7cda76472", func := "pelorus/peloruslaw06.ArithHolds", spec := "arithHolds", inPlace := ["math/bits.Add64", "math/bits.Sub64"], named := ["math/bits.deBruijn64tab", "math/bits.deBruijn32tab"], apart := false, laid := [("math/bits.deBruijn32tab", laid_math_bits_deBruijn32tab), ("math/bits.deBruijn64tab", laid_math_bits_deBruijn64tab)], narrowed := true }
def ArithHoldsUptoSaid : Prop := arithHoldsUptoRow.holds Tryd.pinned (OpenSpec.upto arithHoldsSpec)

/-- 'peloruslaw06.ArithGrows', WHERE WHAT IT READS IS OF BULK AT MOST 1048576: true; the input reads as it did. -/
def arithGrowsUptoRow : OpenClaim := { program := "ytbhnpmkdmnnclaadoor", sum := "116a3c4b0b0b1fe15deea0b2eafce095108a0f0ec75433fd12202cb7cda76472", func := "pelorus/peloruslaw06.ArithGrows", spec := "arithGrows", inPlace := ["math/bits.Add64", "math/bits.Sub64"], named := ["math/bits.deBruijn64tab"], apart := false, laid := [("math/bits.deBruijn64tab", laid_math_bits_deBruijn64tab)], narrowed := true }
def ArithGrowsUptoSaid : Prop := arithGrowsUptoRow.holds Tryd.pinned (OpenSpec.upto arithGrowsSpec)

/-- 'peloruslaw06.ArithTurns', WHERE WHAT IT READS IS OF BULK AT MOST 1048576: true; the input reads as it did. -/
def arithTurnsUptoRow : OpenClaim := { program := "ytbhnpmkdmnnclaadoor", sum := "116a3c4b0b0b1fe15deea0b2eafce095108a0f0ec75433fd12202cb7cda76472", func := "pelorus/peloruslaw06.ArithTurns", spec := "arithTurns", inPlace := ["math/bits.Add64", "math/bits.Sub64"], named := ["math/bits.deBruijn64tab"], apart := false, laid := [("math/bits.deBruijn64tab", laid_math_bits_deBruijn64tab)], narrowed := true }
def ArithTurnsUptoSaid : Prop := arithTurnsUptoRow.holds Tryd.pinned (OpenSpec.upto arithTurnsSpec)

/-- 'peloruslaw06.ArithUnits', WHERE WHAT IT READS IS OF BULK AT MOST 1048576: true; the input reads as it did. -/
def arithUnitsUptoRow : OpenClaim := { program := "ytbhnpmkdmnnclaadoor", sum := "116a3c4b0b0b1fe15deea0b2eafce095108a0f0ec75433fd12202cb7cda76472", func := "pelorus/peloruslaw06.ArithUnits", spec := "arithUnits", inPlace := ["math/bits.Add64", "math/bits.Sub64"], named := ["math/bits.deBruijn64tab"], apart := false, laid := [("math/bits.deBruijn64tab", laid_math_bits_deBruijn64tab)], narrowed := true }
def ArithUnitsUptoSaid : Prop := arithUnitsUptoRow.holds Tryd.pinned (OpenSpec.upto arithUnitsSpec)

/-- 'peloruslaw06.ArithFar', WHERE WHAT IT READS IS OF BULK AT MOST 1048576: true; the input reads as it did. -/
def arithFarUptoRow : OpenClaim := { program := "ytbhnpmkdmnnclaadoor", sum := "116a3c4b0b0b1fe15deea0b2eafce095108a0f0ec75433fd12202cb7cda76472", func := "pelorus/peloruslaw06.ArithFar", spec := "arithFar", inPlace := ["math/bits.Add64", "math/bits.Sub64"], named := ["math/bits.deBruijn64tab"], apart := false, laid := [("math/bits.deBruijn64tab", laid_math_bits_deBruijn64tab)], narrowed := true }
def ArithFarUptoSaid : Prop := arithFarUptoRow.holds Tryd.pinned (OpenSpec.upto arithFarSpec)

end Rows
end Go.Proofs.YtbhnpmkdmnnclaaDoor
