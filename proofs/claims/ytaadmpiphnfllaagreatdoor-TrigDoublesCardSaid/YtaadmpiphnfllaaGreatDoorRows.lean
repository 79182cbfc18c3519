/-
  NARROWER THAN 'FOR EVERY INPUT', by the rows' own cells (each row's printed sentence says how): TrigPoints: laid · TrigAll: laid · TrigTight: laid · TrigCircle: laid · TrigWithin: laid · TrigDoubles: laid.
  DERIVED. THE GIVEN ROWS OF THIS SEAT. 6 by the template 'for every input the law returns true; each argument reads behind the call as it read before'; 0 by the template 'total and deterministic' (their statements: YtaadmpiphnfllaaGreatDoorTotals.lean).
  GIVEN WITH THE SEED: the statements are not yours to turn. If you find one false, say at which input.
  Laid BY PROGRAM, IN A SANDBOX (cutbox-rows.mjs): the forced cells as the released guide's own fill.sh prints them over the translation 72239498bea239ef… (all of the seat's roots in one cut). By AI agents, Wed Nov 11 2026. No macro, syntax, notation, axiom, sorry.
-/
import Derived.Test.YtaadmpiphnfllaaGreatDoorChecked
import GoSem.Claim
import GoSem.ClaimJoined
import GoSem.ClaimMapViews
import Derived.JoinedTies
import Derived.KernelRfl
namespace Go.Proofs.YtaadmpiphnfllaaGreatDoor
/- THE CELL 'sum', in the pinned program and in every row, IS THE sha256 OF THE DUMP (.gsa) THAT YtaadmpiphnfllaaGreatDoorProg.lean LOADS. Nothing in Lean hashes anything: it is a label: what it is worth is what the hold of that sum in a sandbox is worth. -/
noncomputable def Tryz.pinned : Pinned := { name := "ytaadmpiphnfllaagreatdoor", sum := "72239498bea239efef88e010674941f58323a86b1c96f06dab20e5b148a7443f", checked := Tryz.checked }
namespace Rows
def none {H : Type} : Left H := { results := [], args := [] }

/- WHAT THE LISTED PACKAGE-LEVEL VARIABLES READ AS WHEN THE CALL BEGINS. Each datum BY PROGRAM (the guide's laid-datum.mjs) off the statement by which the dump's own 'gosem.cut.vars' lays the variable. In a bare row this is a premise. The card (YtaadmpiphnfllaaGreatDoorCards.lean) ties it to the program's text. -/
def laid_math_bits_deBruijn32tab {H : Type} : DataW H := .agg [.lit (.int .u8 0), .lit (.int .u8 1), .lit (.int .u8 28), .lit (.int .u8 2), .lit (.int .u8 29), .lit (.int .u8 14), .lit (.int .u8 24), .lit (.int .u8 3), .lit (.int .u8 30), .lit (.int .u8 22), .lit (.int .u8 20), .lit (.int .u8 15), .lit (.int .u8 25), .lit (.int .u8 17), .lit (.int .u8 4), .lit (.int .u8 8), .lit (.int .u8 31), .lit (.int .u8 27), .lit (.int .u8 13), .lit (.int .u8 23), .lit (.int .u8 21), .lit (.int .u8 19), .lit (.int .u8 16), .lit (.int .u8 7), .lit (.int .u8 26), .lit (.int .u8 12), .lit (.int .u8 18), .lit (.int .u8 6), .lit (.int .u8 11), .lit (.int .u8 5), .lit (.int .u8 10), .lit (.int .u8 9)]
def laid_math_bits_deBruijn64tab {H : Type} : DataW H := .agg [.lit (.int .u8 0), .lit (.int .u8 1), .lit (.int .u8 56), .lit (.int .u8 2), .lit (.int .u8 57), .lit (.int .u8 49), .lit (.int .u8 28), .lit (.int .u8 3), .lit (.int .u8 61), .lit (.int .u8 58), .lit (.int .u8 42), .lit (.int .u8 50), .lit (.int .u8 38), .lit (.int .u8 29), .lit (.int .u8 17), .lit (.int .u8 4), .lit (.int .u8 62), .lit (.int .u8 47), .lit (.int .u8 59), .lit (.int .u8 36), .lit (.int .u8 45), .lit (.int .u8 43), .lit (.int .u8 51), .lit (.int .u8 22), .lit (.int .u8 53), .lit (.int .u8 39), .lit (.int .u8 33), .lit (.int .u8 30), .lit (.int .u8 24), .lit (.int .u8 18), .lit (.int .u8 12), .lit (.int .u8 5), .lit (.int .u8 63), .lit (.int .u8 55), .lit (.int .u8 48), .lit (.int .u8 27), .lit (.int .u8 60), .lit (.int .u8 41), .lit (.int .u8 37), .lit (.int .u8 16), .lit (.int .u8 46), .lit (.int .u8 35), .lit (.int .u8 44), .lit (.int .u8 21), .lit (.int .u8 52), .lit (.int .u8 32), .lit (.int .u8 23), .lit (.int .u8 11), .lit (.int .u8 54), .lit (.int .u8 26), .lit (.int .u8 40), .lit (.int .u8 15), .lit (.int .u8 34), .lit (.int .u8 20), .lit (.int .u8 31), .lit (.int .u8 10), .lit (.int .u8 25), .lit (.int .u8 14), .lit (.int .u8 19), .lit (.int .u8 9), .lit (.int .u8 13), .lit (.int .u8 8), .lit (.int .u8 7), .lit (.int .u8 6)]

/-- 'peloruslaw12.TrigPoints': WHATEVER THE INPUT: true; the input reads as it did. -/
def trigPointsSpec : ChangeSpec := { name := "trigPoints", fn := fun _ => fun
  | [d1, d2] => { results := [.lit (.bool true)], args := [d1, d2] }
  | _ => none }
def trigPointsRow : OpenClaim := { program := "ytaadmpiphnfllaagreatdoor", sum := "72239498bea239efef88e010674941f58323a86b1c96f06dab20e5b148a7443f", func := "pelorus/peloruslaw12.TrigPoints", spec := "trigPoints", inPlace := ["math/bits.Add64", "math/bits.Sub64"], unfollowed := true, recurses := true, named := ["math/bits.overflowError", "math/bits.deBruijn32tab", "math/bits.deBruijn64tab"], apart := false, laid := [("math/bits.deBruijn32tab", laid_math_bits_deBruijn32tab), ("math/bits.deBruijn64tab", laid_math_bits_deBruijn64tab)] }
def TrigPointsSaid : Prop := trigPointsRow.holds Tryz.pinned (OpenSpec.ofChange trigPointsSpec)

/-- ITS FALSE NEIGHBOUR: 'it returns false'. Refute it at one input. -/
def trigPointsWrong : ChangeSpec := { name := "trigPoints", fn := fun _ => fun
  | [d1, d2] => { results := [.lit (.bool false)], args := [d1, d2] }
  | _ => none }
def TrigPointsWrongFalsely : Prop := trigPointsRow.holds Tryz.pinned (OpenSpec.ofChange trigPointsWrong)

/-- 'peloruslaw12.TrigAll': WHATEVER THE INPUT: true; the input reads as it did. -/
def trigAllSpec : ChangeSpec := { name := "trigAll", fn := fun _ => fun
  | [d] => { results := [.lit (.bool true)], args := [d] }
  | _ => none }
def trigAllRow : OpenClaim := { program := "ytaadmpiphnfllaagreatdoor", sum := "72239498bea239efef88e010674941f58323a86b1c96f06dab20e5b148a7443f", func := "pelorus/peloruslaw12.TrigAll", spec := "trigAll", inPlace := ["math/bits.Add64", "math/bits.Sub64"], unfollowed := true, recurses := true, named := ["math/bits.overflowError", "math/bits.deBruijn32tab", "math/bits.deBruijn64tab"], apart := false, laid := [("math/bits.deBruijn32tab", laid_math_bits_deBruijn32tab), ("math/bits.deBruijn64tab", laid_math_bits_deBruijn64tab)] }
def TrigAllSaid : Prop := trigAllRow.holds Tryz.pinned (OpenSpec.ofChange trigAllSpec)

/-- ITS FALSE NEIGHBOUR: 'it returns false'. Refute it at one input. -/
def trigAllWrong : ChangeSpec := { name := "trigAll", fn := fun _ => fun
  | [d] => { results := [.lit (.bool false)], args := [d] }
  | _ => none }
def TrigAllWrongFalsely : Prop := trigAllRow.holds Tryz.pinned (OpenSpec.ofChange trigAllWrong)

/-- 'peloruslaw12.TrigTight': WHATEVER THE INPUT: true; the input reads as it did. -/
def trigTightSpec : ChangeSpec := { name := "trigTight", fn := fun _ => fun
  | [d] => { results := [.lit (.bool true)], args := [d] }
  | _ => none }
def trigTightRow : OpenClaim := { program := "ytaadmpiphnfllaagreatdoor", sum := "72239498bea239efef88e010674941f58323a86b1c96f06dab20e5b148a7443f", func := "pelorus/peloruslaw12.TrigTight", spec := "trigTight", inPlace := ["math/bits.Add64", "math/bits.Sub64"], unfollowed := true, recurses := true, named := ["math/bits.overflowError", "math/bits.deBruijn32tab", "math/bits.deBruijn64tab"], apart := false, laid := [("math/bits.deBruijn32tab", laid_math_bits_deBruijn32tab), ("math/bits.deBruijn64tab", laid_math_bits_deBruijn64tab)] }
def TrigTightSaid : Prop := trigTightRow.holds Tryz.pinned (OpenSpec.ofChange trigTightSpec)

/-- ITS FALSE NEIGHBOUR: 'it returns false'. Refute it at one input. -/
def trigTightWrong : ChangeSpec := { name := "trigTight", fn := fun _ => fun
  | [d] => { results := [.lit (.bool false)], args := [d] }
  | _ => none }
def TrigTightWrongFalsely : Prop := trigTightRow.holds Tryz.pinned (OpenSpec.ofChange trigTightWrong)

/-- 'peloruslaw12.TrigCircle': WHATEVER THE INPUT: true; the input reads as it did. -/
def trigCircleSpec : ChangeSpec := { name := "trigCircle", fn := fun _ => fun
  | [d] => { results := [.lit (.bool true)], args := [d] }
  | _ => none }
def trigCircleRow : OpenClaim := { program := "ytaadmpiphnfllaagreatdoor", sum := "72239498bea239efef88e010674941f58323a86b1c96f06dab20e5b148a7443f", func := "pelorus/peloruslaw12.TrigCircle", spec := "trigCircle", inPlace := ["math/bits.Add64", "math/bits.Sub64"], unfollowed := true, recurses := true, named := ["math/bits.overflowError", "math/bits.deBruijn32tab", "math/bits.deBruijn64tab"], apart := false, laid := [("math/bits.deBruijn32tab", laid_math_bits_deBruijn32tab), ("math/bits.deBruijn64tab", laid_math_bits_deBruijn64tab)] }
def TrigCircleSaid : Prop := trigCircleRow.holds Tryz.pinned (OpenSpec.ofChange trigCircleSpec)

/-- ITS FALSE NEIGHBOUR: 'it returns false'. Refute it at one input. -/
def trigCircleWrong : ChangeSpec := { name := "trigCircle", fn := fun _ => fun
  | [d] => { results := [.lit (.bool false)], args := [d] }
  | _ => none }
def TrigCircleWrongFalsely : Prop := trigCircleRow.holds Tryz.pinned (OpenSpec.ofChange trigCircleWrong)

/-- 'peloruslaw12.TrigWithin': WHATEVER THE INPUT: true; the input reads as it did. -/
def trigWithinSpec : ChangeSpec := { name := "trigWithin", fn := fun _ => fun
  | [d1, d2, d3] => { results := [.lit (.bool true)], args := [d1, d2, d3] }
  | _ => none }
def trigWithinRow : OpenClaim := { program := "ytaadmpiphnfllaagreatdoor", sum := "72239498bea239efef88e010674941f58323a86b1c96f06dab20e5b148a7443f", func := "pelorus/peloruslaw12.TrigWithin", spec := "trigWithin", inPlace := ["math/bits.Add64", "math/bits.Sub64"], unfollowed := true, recurses := true, named := ["math/bits.overflowError", "math/bits.deBruijn32tab", "math/bits.deBruijn64tab"], apart := false, laid := [("math/bits.deBruijn32tab", laid_math_bits_deBruijn32tab), ("math/bits.deBruijn64tab", laid_math_bits_deBruijn64tab)] }
def TrigWithinSaid : Prop := trigWithinRow.holds Tryz.pinned (OpenSpec.ofChange trigWithinSpec)

/-- ITS FALSE NEIGHBOUR: 'it returns false'. Refute it at one input. -/
def trigWithinWrong : ChangeSpec := { name := "trigWithin", fn := fun _ => fun
  | [d1, d2, d3] => { results := [.lit (.bool false)], args := [d1, d2, d3] }
  | _ => none }
def TrigWithinWrongFalsely : Prop := trigWithinRow.holds Tryz.pinned (OpenSpec.ofChange trigWithinWrong)

/-- 'peloruslaw12.TrigDoubles': WHATEVER THE INPUT: true; the input reads as it did. -/
def trigDoublesSpec : ChangeSpec := { name := "trigDoubles", fn := fun _ => fun
  | [d] => { results := [.lit (.bool true)], args := [d] }
  | _ => none }
def trigDoublesRow : OpenClaim := { program := "ytaadmpiphnfllaagreatdoor", sum := "72239498bea239efef88e010674941f58323a86b1c96f06dab20e5b148a7443f", func := "pelorus/peloruslaw12.TrigDoubles", spec := "trigDoubles", inPlace := ["math/bits.Add64", "math/bits.Sub64"], unfollowed := true, recurses := true, named := ["math/bits.overflowError", "math/bits.deBruijn32tab", "math/bits.deBruijn64tab"], apart := false, laid := [("math/bits.deBruijn32tab", laid_math_bits_deBruijn32tab), ("math/bits.deBruijn64tab", laid_math_bits_deBruijn64tab)] }
def TrigDoublesSaid : Prop := trigDoublesRow.holds Tryz.pinned (OpenSpec.ofChange trigDoublesSpec)

/-- ITS FALSE NEIGHBOUR: 'it returns false'. Refute it at one input. -/
def trigDoublesWrong : ChangeSpec := { name := "trigDoubles", fn := fun _ => fun
  | [d] => { results := [.lit (.bool false)], args := [d] }
  | _ => none }
def TrigDoublesWrongFalsely : Prop := trigDoublesRow.holds Tryz.pinned (OpenSpec.ofChange trigDoublesWrong)

/- THE SECOND FORM. 'bulk': how many values and letters a reading holds, each counted each time it is reached (what is shared counts as often as it is met; a slice's spare places count too). A statement '..UptoSaid' is the law's where the arguments, and the package variables that the reading takes, are together of bulk at most 1048576: NARROWER than '..Said'. Prove '..Said' where nothing that the law and all that it calls make is longer than what came in: it says more and counts as full. Else prove '..UptoSaid'. A law counts once. -/
mutual
def uptoBulk {H : Type} : DataW H → Nat
  | .lit (.string bytes) => bytes.length + 1
  | .lit _ => 1
  | .nil => 1
  | .ptr d => uptoBulk d + 1
  | .slice elems spare => uptoBulkAll elems + uptoBulkAll spare + 1
  | .agg parts => uptoBulkAll parts + 1
  | .iface _ d => uptoBulk d + 1
  | .map entries => uptoBulkEntries entries + 1
  | .held _ => 1
def uptoBulkAll {H : Type} : List (DataW H) → Nat
  | [] => 0
  | d :: r => uptoBulk d + uptoBulkAll r
def uptoBulkEntries {H : Type} : List (Lit × DataW H) → Nat
  | [] => 0
  | x :: r => uptoBulkEntry x + uptoBulkEntries r
def uptoBulkEntry {H : Type} : Lit × DataW H → Nat
  | (.string bytes, d) => bytes.length + uptoBulk d + 1
  | (_, d) => uptoBulk d + 1
 end
def uptoSmall : (H : Type) → List (DataW H) → Bool := fun _ ds => decide (uptoBulkAll ds ≤ 1048576)
def OpenSpec.upto (s : _root_.Go.ChangeSpec) : _root_.Go.OpenSpec := { _root_.Go.OpenSpec.ofChange s with cond := some uptoSmall }

/-- 'peloruslaw12.TrigPoints', WHERE WHAT IT READS IS OF BULK AT MOST 1048576: true; the input reads as it did. -/
def trigPointsUptoRow : OpenClaim := { program := "ytaadmpiphnfllaagreatdoor", sum := "72239498bea239efef88e010674941f58323a86b1c96f06dab20e5b148a7443f", func := "pelorus/peloruslaw12.TrigPoints", spec := "trigPoints", inPlace := ["math/bits.Add64", "math/bits.Sub64"], unfollowed := true, recurses := true, named := ["math/bits.overflowError", "math/bits.deBruijn32tab", "math/bits.deBruijn64tab"], apart := false, laid := [("math/bits.deBruijn32tab", laid_math_bits_deBruijn32tab), ("math/bits.deBruijn64tab", laid_math_bits_deBruijn64tab)], narrowed := true }
def TrigPointsUptoSaid : Prop := trigPointsUptoRow.holds Tryz.pinned (OpenSpec.upto trigPointsSpec)

/-- 'peloruslaw12.TrigAll', WHERE WHAT IT READS IS OF BULK AT MOST 1048576: true; the input reads as it did. -/
def trigAllUptoRow : OpenClaim := { program := "ytaadmpiphnfllaagreatdoor", sum := "72239498bea239efef88e010674941f58323a86b1c96f06dab20e5b148a7443f", func := "pelorus/peloruslaw12.TrigAll", spec := "trigAll", inPlace := ["math/bits.Add64", "math/bits.Sub64"], unfollowed := true, recurses := true, named := ["math/bits.overflowError", "math/bits.deBruijn32tab", "math/bits.deBruijn64tab"], apart := false, laid := [("math/bits.deBruijn32tab", laid_math_bits_deBruijn32tab), ("math/bits.deBruijn64tab", laid_math_bits_deBruijn64tab)], narrowed := true }
def TrigAllUptoSaid : Prop := trigAllUptoRow.holds Tryz.pinned (OpenSpec.upto trigAllSpec)

/-- 'peloruslaw12.TrigTight', WHERE WHAT IT READS IS OF BULK AT MOST 1048576: true; the input reads as it did. -/
def trigTightUptoRow : OpenClaim := { program := "ytaadmpiphnfllaagreatdoor", sum := "72239498bea239efef88e010674941f58323a86b1c96f06dab20e5b148a7443f", func := "pelorus/peloruslaw12.TrigTight", spec := "trigTight", inPlace := ["math/bits.Add64", "math/bits.Sub64"], unfollowed := true, recurses := true, named := ["math/bits.overflowError", "math/bits.deBruijn32tab", "math/bits.deBruijn64tab"], apart := false, laid := [("math/bits.deBruijn32tab", laid_math_bits_deBruijn32tab), ("math/bits.deBruijn64tab", laid_math_bits_deBruijn64tab)], narrowed := true }
def TrigTightUptoSaid : Prop := trigTightUptoRow.holds Tryz.pinned (OpenSpec.upto trigTightSpec)

/-- 'peloruslaw12.TrigCircle', WHERE WHAT IT READS IS OF BULK AT MOST 1048576: true; the input reads as it did. -/
def trigCircleUptoRow : OpenClaim := { program := "ytaadmpiphnfllaagreatdoor", sum := "72239498bea239efef88e010674941f58323a86b1c96f06dab20e5b148a7443f", func := "pelorus/peloruslaw12.TrigCircle", spec := "trigCircle", inPlace := ["math/bits.Add64", "math/bits.Sub64"], unfollowed := true, recurses := true, named := ["math/bits.overflowError", "math/bits.deBruijn32tab", "math/bits.deBruijn64tab"], apart := false, laid := [("math/bits.deBruijn32tab", laid_math_bits_deBruijn32tab), ("math/bits.deBruijn64tab", laid_math_bits_deBruijn64tab)], narrowed := true }
def TrigCircleUptoSaid : Prop := trigCircleUptoRow.holds Tryz.pinned (OpenSpec.upto trigCircleSpec)

/-- 'peloruslaw12.TrigWithin', WHERE WHAT IT READS IS OF BULK AT MOST 1048576: true; the input reads as it did. -/
def trigWithinUptoRow : OpenClaim := { program := "ytaadmpiphnfllaagreatdoor", sum := "72239498bea239efef88e010674941f58323a86b1c96f06dab20e5b148a7443f", func := "pelorus/peloruslaw12.TrigWithin", spec := "trigWithin", inPlace := ["math/bits.Add64", "math/bits.Sub64"], unfollowed := true, recurses := true, named := ["math/bits.overflowError", "math/bits.deBruijn32tab", "math/bits.deBruijn64tab"], apart := false, laid := [("math/bits.deBruijn32tab", laid_math_bits_deBruijn32tab), ("math/bits.deBruijn64tab", laid_math_bits_deBruijn64tab)], narrowed := true }
def TrigWithinUptoSaid : Prop := trigWithinUptoRow.holds Tryz.pinned (OpenSpec.upto trigWithinSpec)

/-- 'peloruslaw12.TrigDoubles', WHERE WHAT IT READS IS OF BULK AT MOST 1048576: true; the input reads as it did. -/
def trigDoublesUptoRow : OpenClaim := { program := "ytaadmpiphnfllaagreatdoor", sum := "72239498bea239efef88e010674941f58323a86b1c96f06dab20e5b148a7443f", func := "pelorus/peloruslaw12.TrigDoubles", spec := "trigDoubles", inPlace := ["math/bits.Add64", "math/bits.Sub64"], unfollowed := true, recurses := true, named := ["math/bits.overflowError", "math/bits.deBruijn32tab", "math/bits.deBruijn64tab"], apart := false, laid := [("math/bits.deBruijn32tab", laid_math_bits_deBruijn32tab), ("math/bits.deBruijn64tab", laid_math_bits_deBruijn64tab)], narrowed := true }
def TrigDoublesUptoSaid : Prop := trigDoublesUptoRow.holds Tryz.pinned (OpenSpec.upto trigDoublesSpec)

end Rows
end Go.Proofs.YtaadmpiphnfllaaGreatDoor
