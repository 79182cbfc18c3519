/-
  NARROWER THAN 'FOR EVERY INPUT', by the rows' own cells (each row's printed sentence says how): BackSums: laid · BackProducts: laid · BackRoots: laid · BackWithin: laid · BackKeeps: laid · BackEmpty: laid · BackPoints: laid.
  DERIVED. THE GIVEN ROWS OF THIS SEAT. 7 by the template 'for every input the law returns true; each argument reads behind the call as it read before'; 0 by the template 'total and deterministic' (their statements: YtnbliijpjcmbjaaGreatDoorTotals.lean).
  GIVEN WITH THE SEED: the statements are not yours to turn. If you find one false, say at which input.
  Laid BY PROGRAM, IN A SANDBOX (cutbox-rows.mjs): the forced cells as the released guide's own fill.sh prints them over the translation abab23566eab75a9… (all of the seat's roots in one cut). By AI agents, Wed Nov 11 2026. No macro, syntax, notation, axiom, sorry.
-/
import Derived.Test.YtnbliijpjcmbjaaGreatDoorChecked
import GoSem.Claim
import GoSem.ClaimJoined
import GoSem.ClaimMapViews
import Derived.JoinedTies
import Derived.KernelRfl
namespace Go.Proofs.YtnbliijpjcmbjaaGreatDoor
/- THE CELL 'sum', in the pinned program and in every row, IS THE sha256 OF THE DUMP (.gsa) THAT YtnbliijpjcmbjaaGreatDoorProg.lean LOADS. Nothing in Lean hashes anything: it is a label: what it is worth is what the hold of that sum in a sandbox is worth. -/
noncomputable def Tryz.pinned : Pinned := { name := "ytnbliijpjcmbjaagreatdoor", sum := "abab23566eab75a9654aea9262feb7dc8c8de255829d184b224a6bd6ee8adfdc", checked := Tryz.checked }
namespace Rows
def none {H : Type} : Left H := { results := [], args := [] }

/- WHAT THE LISTED PACKAGE-LEVEL VARIABLES READ AS WHEN THE CALL BEGINS. Each datum BY PROGRAM (the guide's laid-datum.mjs) off the statement by which the dump's own 'gosem.cut.vars' lays the variable. In a bare row this is a premise. The card (YtnbliijpjcmbjaaGreatDoorCards.lean) ties it to the program's text. -/
def laid_math_bits_deBruijn32tab {H : Type} : DataW H := .agg [.lit (.int .u8 0), .lit (.int .u8 1), .lit (.int .u8 28), .lit (.int .u8 2), .lit (.int .u8 29), .lit (.int .u8 14), .lit (.int .u8 24), .lit (.int .u8 3), .lit (.int .u8 30), .lit (.int .u8 22), .lit (.int .u8 20), .lit (.int .u8 15), .lit (.int .u8 25), .lit (.int .u8 17), .lit (.int .u8 4), .lit (.int .u8 8), .lit (.int .u8 31), .lit (.int .u8 27), .lit (.int .u8 13), .lit (.int .u8 23), .lit (.int .u8 21), .lit (.int .u8 19), .lit (.int .u8 16), .lit (.int .u8 7), .lit (.int .u8 26), .lit (.int .u8 12), .lit (.int .u8 18), .lit (.int .u8 6), .lit (.int .u8 11), .lit (.int .u8 5), .lit (.int .u8 10), .lit (.int .u8 9)]
def laid_math_bits_deBruijn64tab {H : Type} : DataW H := .agg [.lit (.int .u8 0), .lit (.int .u8 1), .lit (.int .u8 56), .lit (.int .u8 2), .lit (.int .u8 57), .lit (.int .u8 49), .lit (.int .u8 28), .lit (.int .u8 3), .lit (.int .u8 61), .lit (.int .u8 58), .lit (.int .u8 42), .lit (.int .u8 50), .lit (.int .u8 38), .lit (.int .u8 29), .lit (.int .u8 17), .lit (.int .u8 4), .lit (.int .u8 62), .lit (.int .u8 47), .lit (.int .u8 59), .lit (.int .u8 36), .lit (.int .u8 45), .lit (.int .u8 43), .lit (.int .u8 51), .lit (.int .u8 22), .lit (.int .u8 53), .lit (.int .u8 39), .lit (.int .u8 33), .lit (.int .u8 30), .lit (.int .u8 24), .lit (.int .u8 18), .lit (.int .u8 12), .lit (.int .u8 5), .lit (.int .u8 63), .lit (.int .u8 55), .lit (.int .u8 48), .lit (.int .u8 27), .lit (.int .u8 60), .lit (.int .u8 41), .lit (.int .u8 37), .lit (.int .u8 16), .lit (.int .u8 46), .lit (.int .u8 35), .lit (.int .u8 44), .lit (.int .u8 21), .lit (.int .u8 52), .lit (.int .u8 32), .lit (.int .u8 23), .lit (.int .u8 11), .lit (.int .u8 54), .lit (.int .u8 26), .lit (.int .u8 40), .lit (.int .u8 15), .lit (.int .u8 34), .lit (.int .u8 20), .lit (.int .u8 31), .lit (.int .u8 10), .lit (.int .u8 25), .lit (.int .u8 14), .lit (.int .u8 19), .lit (.int .u8 9), .lit (.int .u8 13), .lit (.int .u8 8), .lit (.int .u8 7), .lit (.int .u8 6)]

/-- 'peloruslaw10.BackSums': WHATEVER THE INPUT: true; the input reads as it did. -/
def backSumsSpec : ChangeSpec := { name := "backSums", fn := fun _ => fun
  | [d1, d2, d3] => { results := [.lit (.bool true)], args := [d1, d2, d3] }
  | _ => none }
def backSumsRow : OpenClaim := { program := "ytnbliijpjcmbjaagreatdoor", sum := "abab23566eab75a9654aea9262feb7dc8c8de255829d184b224a6bd6ee8adfdc", func := "pelorus/peloruslaw10.BackSums", spec := "backSums", inPlace := ["math/bits.Add64", "math/bits.Sub64"], named := ["math/bits.deBruijn64tab", "math/bits.overflowError", "math/bits.deBruijn32tab"], apart := false, laid := [("math/bits.deBruijn32tab", laid_math_bits_deBruijn32tab), ("math/bits.deBruijn64tab", laid_math_bits_deBruijn64tab)] }
def BackSumsSaid : Prop := backSumsRow.holds Tryz.pinned (OpenSpec.ofChange backSumsSpec)

/-- ITS FALSE NEIGHBOUR: 'it returns false'. Refute it at one input. -/
def backSumsWrong : ChangeSpec := { name := "backSums", fn := fun _ => fun
  | [d1, d2, d3] => { results := [.lit (.bool false)], args := [d1, d2, d3] }
  | _ => none }
def BackSumsWrongFalsely : Prop := backSumsRow.holds Tryz.pinned (OpenSpec.ofChange backSumsWrong)

/-- 'peloruslaw10.BackProducts': WHATEVER THE INPUT: true; the input reads as it did. -/
def backProductsSpec : ChangeSpec := { name := "backProducts", fn := fun _ => fun
  | [d1, d2, d3] => { results := [.lit (.bool true)], args := [d1, d2, d3] }
  | _ => none }
def backProductsRow : OpenClaim := { program := "ytnbliijpjcmbjaagreatdoor", sum := "abab23566eab75a9654aea9262feb7dc8c8de255829d184b224a6bd6ee8adfdc", func := "pelorus/peloruslaw10.BackProducts", spec := "backProducts", inPlace := ["math/bits.Add64", "math/bits.Sub64"], unfollowed := true, recurses := true, named := ["math/bits.deBruijn64tab", "math/bits.overflowError", "math/bits.deBruijn32tab"], apart := false, laid := [("math/bits.deBruijn32tab", laid_math_bits_deBruijn32tab), ("math/bits.deBruijn64tab", laid_math_bits_deBruijn64tab)] }
def BackProductsSaid : Prop := backProductsRow.holds Tryz.pinned (OpenSpec.ofChange backProductsSpec)

/-- ITS FALSE NEIGHBOUR: 'it returns false'. Refute it at one input. -/
def backProductsWrong : ChangeSpec := { name := "backProducts", fn := fun _ => fun
  | [d1, d2, d3] => { results := [.lit (.bool false)], args := [d1, d2, d3] }
  | _ => none }
def BackProductsWrongFalsely : Prop := backProductsRow.holds Tryz.pinned (OpenSpec.ofChange backProductsWrong)

/-- 'peloruslaw10.BackRoots': WHATEVER THE INPUT: true; the input reads as it did. -/
def backRootsSpec : ChangeSpec := { name := "backRoots", fn := fun _ => fun
  | [d1, d2] => { results := [.lit (.bool true)], args := [d1, d2] }
  | _ => none }
def backRootsRow : OpenClaim := { program := "ytnbliijpjcmbjaagreatdoor", sum := "abab23566eab75a9654aea9262feb7dc8c8de255829d184b224a6bd6ee8adfdc", func := "pelorus/peloruslaw10.BackRoots", spec := "backRoots", inPlace := ["math/bits.Add64", "math/bits.Sub64"], named := ["math/bits.deBruijn64tab", "math/bits.overflowError", "math/bits.deBruijn32tab"], apart := false, laid := [("math/bits.deBruijn32tab", laid_math_bits_deBruijn32tab), ("math/bits.deBruijn64tab", laid_math_bits_deBruijn64tab)] }
def BackRootsSaid : Prop := backRootsRow.holds Tryz.pinned (OpenSpec.ofChange backRootsSpec)

/-- ITS FALSE NEIGHBOUR: 'it returns false'. Refute it at one input. -/
def backRootsWrong : ChangeSpec := { name := "backRoots", fn := fun _ => fun
  | [d1, d2] => { results := [.lit (.bool false)], args := [d1, d2] }
  | _ => none }
def BackRootsWrongFalsely : Prop := backRootsRow.holds Tryz.pinned (OpenSpec.ofChange backRootsWrong)

/-- 'peloruslaw10.BackWithin': WHATEVER THE INPUT: true; the input reads as it did. -/
def backWithinSpec : ChangeSpec := { name := "backWithin", fn := fun _ => fun
  | [d1, d2, d3] => { results := [.lit (.bool true)], args := [d1, d2, d3] }
  | _ => none }
def backWithinRow : OpenClaim := { program := "ytnbliijpjcmbjaagreatdoor", sum := "abab23566eab75a9654aea9262feb7dc8c8de255829d184b224a6bd6ee8adfdc", func := "pelorus/peloruslaw10.BackWithin", spec := "backWithin", inPlace := ["math/bits.Add64", "math/bits.Sub64"], unfollowed := true, recurses := true, named := ["math/bits.deBruijn64tab", "math/bits.overflowError", "math/bits.deBruijn32tab"], apart := false, laid := [("math/bits.deBruijn32tab", laid_math_bits_deBruijn32tab), ("math/bits.deBruijn64tab", laid_math_bits_deBruijn64tab)] }
def BackWithinSaid : Prop := backWithinRow.holds Tryz.pinned (OpenSpec.ofChange backWithinSpec)

/-- ITS FALSE NEIGHBOUR: 'it returns false'. Refute it at one input. -/
def backWithinWrong : ChangeSpec := { name := "backWithin", fn := fun _ => fun
  | [d1, d2, d3] => { results := [.lit (.bool false)], args := [d1, d2, d3] }
  | _ => none }
def BackWithinWrongFalsely : Prop := backWithinRow.holds Tryz.pinned (OpenSpec.ofChange backWithinWrong)

/-- 'peloruslaw10.BackKeeps': WHATEVER THE INPUT: true; the input reads as it did. -/
def backKeepsSpec : ChangeSpec := { name := "backKeeps", fn := fun _ => fun
  | [d1, d2, d3, d4, d5] => { results := [.lit (.bool true)], args := [d1, d2, d3, d4, d5] }
  | _ => none }
def backKeepsRow : OpenClaim := { program := "ytnbliijpjcmbjaagreatdoor", sum := "abab23566eab75a9654aea9262feb7dc8c8de255829d184b224a6bd6ee8adfdc", func := "pelorus/peloruslaw10.BackKeeps", spec := "backKeeps", inPlace := ["math/bits.Add64", "math/bits.Sub64"], unfollowed := true, recurses := true, named := ["math/bits.deBruijn64tab", "math/bits.overflowError", "math/bits.deBruijn32tab"], apart := false, laid := [("math/bits.deBruijn32tab", laid_math_bits_deBruijn32tab), ("math/bits.deBruijn64tab", laid_math_bits_deBruijn64tab)] }
def BackKeepsSaid : Prop := backKeepsRow.holds Tryz.pinned (OpenSpec.ofChange backKeepsSpec)

/-- ITS FALSE NEIGHBOUR: 'it returns false'. Refute it at one input. -/
def backKeepsWrong : ChangeSpec := { name := "backKeeps", fn := fun _ => fun
  | [d1, d2, d3, d4, d5] => { results := [.lit (.bool false)], args := [d1, d2, d3, d4, d5] }
  | _ => none }
def BackKeepsWrongFalsely : Prop := backKeepsRow.holds Tryz.pinned (OpenSpec.ofChange backKeepsWrong)

/-- 'peloruslaw10.BackEmpty': WHATEVER THE INPUT: true; the input reads as it did. -/
def backEmptySpec : ChangeSpec := { name := "backEmpty", fn := fun _ => fun
  | [d1, d2] => { results := [.lit (.bool true)], args := [d1, d2] }
  | _ => none }
def backEmptyRow : OpenClaim := { program := "ytnbliijpjcmbjaagreatdoor", sum := "abab23566eab75a9654aea9262feb7dc8c8de255829d184b224a6bd6ee8adfdc", func := "pelorus/peloruslaw10.BackEmpty", spec := "backEmpty", inPlace := ["math/bits.Add64", "math/bits.Sub64"], unfollowed := true, recurses := true, named := ["math/bits.deBruijn64tab", "math/bits.overflowError", "math/bits.deBruijn32tab"], apart := false, laid := [("math/bits.deBruijn32tab", laid_math_bits_deBruijn32tab), ("math/bits.deBruijn64tab", laid_math_bits_deBruijn64tab)] }
def BackEmptySaid : Prop := backEmptyRow.holds Tryz.pinned (OpenSpec.ofChange backEmptySpec)

/-- ITS FALSE NEIGHBOUR: 'it returns false'. Refute it at one input. -/
def backEmptyWrong : ChangeSpec := { name := "backEmpty", fn := fun _ => fun
  | [d1, d2] => { results := [.lit (.bool false)], args := [d1, d2] }
  | _ => none }
def BackEmptyWrongFalsely : Prop := backEmptyRow.holds Tryz.pinned (OpenSpec.ofChange backEmptyWrong)

/-- 'peloruslaw10.BackPoints': WHATEVER THE INPUT: true; the input reads as it did. -/
def backPointsSpec : ChangeSpec := { name := "backPoints", fn := fun _ => fun
  | [d1, d2, d3] => { results := [.lit (.bool true)], args := [d1, d2, d3] }
  | _ => none }
def backPointsRow : OpenClaim := { program := "ytnbliijpjcmbjaagreatdoor", sum := "abab23566eab75a9654aea9262feb7dc8c8de255829d184b224a6bd6ee8adfdc", func := "pelorus/peloruslaw10.BackPoints", spec := "backPoints", inPlace := ["math/bits.Add64", "math/bits.Sub64"], unfollowed := true, recurses := true, named := ["math/bits.deBruijn64tab", "math/bits.overflowError", "math/bits.deBruijn32tab"], apart := false, laid := [("math/bits.deBruijn32tab", laid_math_bits_deBruijn32tab), ("math/bits.deBruijn64tab", laid_math_bits_deBruijn64tab)] }
def BackPointsSaid : Prop := backPointsRow.holds Tryz.pinned (OpenSpec.ofChange backPointsSpec)

/-- ITS FALSE NEIGHBOUR: 'it returns false'. Refute it at one input. -/
def backPointsWrong : ChangeSpec := { name := "backPoints", fn := fun _ => fun
  | [d1, d2, d3] => { results := [.lit (.bool false)], args := [d1, d2, d3] }
  | _ => none }
def BackPointsWrongFalsely : Prop := backPointsRow.holds Tryz.pinned (OpenSpec.ofChange backPointsWrong)

/- THE SECOND FORM. 'bulk': how many values and letters a reading holds, each counted each time it is reached (what is shared counts as often as it is met; a slice's spare places count too). A statement '..UptoSaid' is the law's where the arguments, and the package variables that the reading takes, are together of bulk at most 1048576: NARROWER than '..Said'. Prove '..Said' where nothing that the law and all that it calls make is longer than what came in: it says more and counts as full. Else prove '..UptoSaid'. A law counts once. -/
mutual
def uptoBulk {H : Type} : DataW H → Nat
  | .lit (.string bytes) => bytes.length + 1
  | .lit _ => 1
  | .nil => 1
  | .ptr d => uptoBulk d + 1
  | .slice elems spare => uptoBulkAll elems + uptoBulkAll spare + 1
  | .agg parts => uptoBulkAll parts + 1
  | .iface _ d => uptoBulk d + 1
  | .map entries => uptoBulkEntries entries + 1
  | .held _ => 1
def uptoBulkAll {H : Type} : List (DataW H) → Nat
  | [] => 0
  | d :: r => uptoBulk d + uptoBulkAll r
def uptoBulkEntries {H : Type} : List (Lit × DataW H) → Nat
  | [] => 0
  | x :: r => uptoBulkEntry x + uptoBulkEntries r
def uptoBulkEntry {H : Type} : Lit × DataW H → Nat
  | (.string bytes, d) => bytes.length + uptoBulk d + 1
  | (_, d) => uptoBulk d + 1
 end
def uptoSmall : (H : Type) → List (DataW H) → Bool := fun _ ds => decide (uptoBulkAll ds ≤ 1048576)
def OpenSpec.upto (s : _root_.Go.ChangeSpec) : _root_.Go.OpenSpec := { _root_.Go.OpenSpec.ofChange s with cond := some uptoSmall }

/-- 'peloruslaw10.BackSums', WHERE WHAT IT READS IS OF BULK AT MOST 1048576: true; the input reads as it did. -/
def backSumsUptoRow : OpenClaim := { program := "ytnbliijpjcmbjaagreatdoor", sum := "abab23566eab75a9654aea9262feb7dc8c8de255829d184b224a6bd6ee8adfdc", func := "pelorus/peloruslaw10.BackSums", spec := "backSums", inPlace := ["math/bits.Add64", "math/bits.Sub64"], named := ["math/bits.deBruijn64tab", "math/bits.overflowError", "math/bits.deBruijn32tab"], apart := false, laid := [("math/bits.deBruijn32tab", laid_math_bits_deBruijn32tab), ("math/bits.deBruijn64tab", laid_math_bits_deBruijn64tab)], narrowed := true }
def BackSumsUptoSaid : Prop := backSumsUptoRow.holds Tryz.pinned (OpenSpec.upto backSumsSpec)

/-- 'peloruslaw10.BackProducts', WHERE WHAT IT READS IS OF BULK AT MOST 1048576: true; the input reads as it did. -/
def backProductsUptoRow : OpenClaim := { program := "ytnbliijpjcmbjaagreatdoor", sum := "abab23566eab75a9654aea9262feb7dc8c8de255829d184b224a6bd6ee8adfdc", func := "pelorus/peloruslaw10.BackProducts", spec := "backProducts", inPlace := ["math/bits.Add64", "math/bits.Sub64"], unfollowed := true, recurses := true, named := ["math/bits.deBruijn64tab", "math/bits.overflowError", "math/bits.deBruijn32tab"], apart := false, laid := [("math/bits.deBruijn32tab", laid_math_bits_deBruijn32tab), ("math/bits.deBruijn64tab", laid_math_bits_deBruijn64tab)], narrowed := true }
def BackProductsUptoSaid : Prop := backProductsUptoRow.holds Tryz.pinned (OpenSpec.upto backProductsSpec)

/-- 'peloruslaw10.BackRoots', WHERE WHAT IT READS IS OF BULK AT MOST 1048576: true; the input reads as it did. -/
def backRootsUptoRow : OpenClaim := { program := "ytnbliijpjcmbjaagreatdoor", sum := "abab23566eab75a9654aea9262feb7dc8c8de255829d184b224a6bd6ee8adfdc", func := "pelorus/peloruslaw10.BackRoots", spec := "backRoots", inPlace := ["math/bits.Add64", "math/bits.Sub64"], named := ["math/bits.deBruijn64tab", "math/bits.overflowError", "math/bits.deBruijn32tab"], apart := false, laid := [("math/bits.deBruijn32tab", laid_math_bits_deBruijn32tab), ("math/bits.deBruijn64tab", laid_math_bits_deBruijn64tab)], narrowed := true }
def BackRootsUptoSaid : Prop := backRootsUptoRow.holds Tryz.pinned (OpenSpec.upto backRootsSpec)

/-- 'peloruslaw10.BackWithin', WHERE WHAT IT READS IS OF BULK AT MOST 1048576: true; the input reads as it did. -/
def backWithinUptoRow : OpenClaim := { program := "ytnbliijpjcmbjaagreatdoor", sum := "abab23566eab75a9654aea9262feb7dc8c8de255829d184b224a6bd6ee8adfdc", func := "pelorus/peloruslaw10.BackWithin", spec := "backWithin", inPlace := ["math/bits.Add64", "math/bits.Sub64"], unfollowed := true, recurses := true, named := ["math/bits.deBruijn64tab", "math/bits.overflowError", "math/bits.deBruijn32tab"], apart := false, laid := [("math/bits.deBruijn32tab", laid_math_bits_deBruijn32tab), ("math/bits.deBruijn64tab", laid_math_bits_deBruijn64tab)], narrowed := true }
def BackWithinUptoSaid : Prop := backWithinUptoRow.holds Tryz.pinned (OpenSpec.upto backWithinSpec)

/-- 'peloruslaw10.BackKeeps', WHERE WHAT IT READS IS OF BULK AT MOST 1048576: true; the input reads as it did. -/
def backKeepsUptoRow : OpenClaim := { program := "ytnbliijpjcmbjaagreatdoor", sum := "abab23566eab75a9654aea9262feb7dc8c8de255829d184b224a6bd6ee8adfdc", func := "pelorus/peloruslaw10.BackKeeps", spec := "backKeeps", inPlace := ["math/bits.Add64", "math/bits.Sub64"], unfollowed := true, recurses := true, named := ["math/bits.deBruijn64tab", "math/bits.overflowError", "math/bits.deBruijn32tab"], apart := false, laid := [("math/bits.deBruijn32tab", laid_math_bits_deBruijn32tab), ("math/bits.deBruijn64tab", laid_math_bits_deBruijn64tab)], narrowed := true }
def BackKeepsUptoSaid : Prop := backKeepsUptoRow.holds Tryz.pinned (OpenSpec.upto backKeepsSpec)

/-- 'peloruslaw10.BackEmpty', WHERE WHAT IT READS IS OF BULK AT MOST 1048576: true; the input reads as it did. -/
def backEmptyUptoRow : OpenClaim := { program := "ytnbliijpjcmbjaagreatdoor", sum := "abab23566eab75a9654aea9262feb7dc8c8de255829d184b224a6bd6ee8adfdc", func := "pelorus/peloruslaw10.BackEmpty", spec := "backEmpty", inPlace := ["math/bits.Add64", "math/bits.Sub64"], unfollowed := true, recurses := true, named := ["math/bits.deBruijn64tab", "math/bits.overflowError", "math/bits.deBruijn32tab"], apart := false, laid := [("math/bits.deBruijn32tab", laid_math_bits_deBruijn32tab), ("math/bits.deBruijn64tab", laid_math_bits_deBruijn64tab)], narrowed := true }
def BackEmptyUptoSaid : Prop := backEmptyUptoRow.holds Tryz.pinned (OpenSpec.upto backEmptySpec)

/-- 'peloruslaw10.BackPoints', WHERE WHAT IT READS IS OF BULK AT MOST 1048576: true; the input reads as it did. -/
def backPointsUptoRow : OpenClaim := { program := "ytnbliijpjcmbjaagreatdoor", sum := "abab23566eab75a9654aea9262feb7dc8c8de255829d184b224a6bd6ee8adfdc", func := "pelorus/peloruslaw10.BackPoints", spec := "backPoints", inPlace := ["math/bits.Add64", "math/bits.Sub64"], unfollowed := true, recurses := true, named := ["math/bits.deBruijn64tab", "math/bits.overflowError", "math/bits.deBruijn32tab"], apart := false, laid := [("math/bits.deBruijn32tab", laid_math_bits_deBruijn32tab), ("math/bits.deBruijn64tab", laid_math_bits_deBruijn64tab)], narrowed := true }
def BackPointsUptoSaid : Prop := backPointsUptoRow.holds Tryz.pinned (OpenSpec.upto backPointsSpec)

end Rows
end Go.Proofs.YtnbliijpjcmbjaaGreatDoor
