/-
  No cell of these rows narrows 'for every input' (looked for: loops, veiled, ifaces, maps, wideKeys, modest, calm, conditions, laid).
  DERIVED. THE GIVEN ROWS OF THIS SEAT. 9 by the template 'for every input the law returns true; each argument reads behind the call as it read before'; 0 by the template 'total and deterministic' (their statements: YtloaabajkallnaaTotals.lean).
  GIVEN WITH THE SEED: the statements are not yours to turn. If you find one false, say at which input.
  Laid BY PROGRAM, IN A SANDBOX (cutbox-rows.mjs): the forced cells as the released guide's own fill.sh prints them over the translation ed3faba9b1539afd… (all of the seat's roots in one cut). By AI agents, Wed Nov 11 2026. No macro, syntax, notation, axiom, sorry.
-/
import Derived.Test.YtloaabajkallnaaChecked
import GoSem.Claim
import GoSem.ClaimJoined
import GoSem.ClaimMapViews
import Derived.JoinedTies
import Derived.KernelRfl
namespace Go.Proofs.Ytloaabajkallnaa
/- THE CELL 'sum', in the pinned program and in every row, IS THE sha256 OF THE DUMP (.gsa) THAT YtloaabajkallnaaProg.lean LOADS. Nothing in Lean hashes anything: it is a label: what it is worth is what the hold of that sum in a sandbox is worth. -/
noncomputable def Try.pinned : Pinned := { name := "ytloaabajkallnaa", sum := "ed3faba9b1539afd8db3c45c7c8b830b2293edf3cb6a6fd8c73971890049326e", checked := Try.checked }
namespace Rows
def none {H : Type} : Left H := { results := [], args := [] }

/-- 'peloruslaw01.NatSums': WHATEVER THE INPUT: true; the input reads as it did. -/
def natSumsSpec : ChangeSpec := { name := "natSums", fn := fun _ => fun
  | [d1, d2] => { results := [.lit (.bool true)], args := [d1, d2] }
  | _ => none }
def natSumsRow : OpenClaim := { program := "ytloaabajkallnaa", sum := "ed3faba9b1539afd8db3c45c7c8b830b2293edf3cb6a6fd8c73971890049326e", func := "pelorus/peloruslaw01.NatSums", spec := "natSums", named := ["math/bits.overflowError"], apart := false }
def NatSumsSaid : Prop := natSumsRow.holds Try.pinned (OpenSpec.ofChange natSumsSpec)

/-- ITS FALSE NEIGHBOUR: 'it returns false'. Refute it at one input. -/
def natSumsWrong : ChangeSpec := { name := "natSums", fn := fun _ => fun
  | [d1, d2] => { results := [.lit (.bool false)], args := [d1, d2] }
  | _ => none }
def NatSumsWrongFalsely : Prop := natSumsRow.holds Try.pinned (OpenSpec.ofChange natSumsWrong)

/-- 'peloruslaw01.NatDivs': WHATEVER THE INPUT: true; the input reads as it did. -/
def natDivsSpec : ChangeSpec := { name := "natDivs", fn := fun _ => fun
  | [d1, d2] => { results := [.lit (.bool true)], args := [d1, d2] }
  | _ => none }
def natDivsRow : OpenClaim := { program := "ytloaabajkallnaa", sum := "ed3faba9b1539afd8db3c45c7c8b830b2293edf3cb6a6fd8c73971890049326e", func := "pelorus/peloruslaw01.NatDivs", spec := "natDivs", named := ["math/bits.overflowError"], apart := false }
def NatDivsSaid : Prop := natDivsRow.holds Try.pinned (OpenSpec.ofChange natDivsSpec)

/-- ITS FALSE NEIGHBOUR: 'it returns false'. Refute it at one input. -/
def natDivsWrong : ChangeSpec := { name := "natDivs", fn := fun _ => fun
  | [d1, d2] => { results := [.lit (.bool false)], args := [d1, d2] }
  | _ => none }
def NatDivsWrongFalsely : Prop := natDivsRow.holds Try.pinned (OpenSpec.ofChange natDivsWrong)

/-- 'peloruslaw01.NatShifts': WHATEVER THE INPUT: true; the input reads as it did. -/
def natShiftsSpec : ChangeSpec := { name := "natShifts", fn := fun _ => fun
  | [d1, d2] => { results := [.lit (.bool true)], args := [d1, d2] }
  | _ => none }
def natShiftsRow : OpenClaim := { program := "ytloaabajkallnaa", sum := "ed3faba9b1539afd8db3c45c7c8b830b2293edf3cb6a6fd8c73971890049326e", func := "pelorus/peloruslaw01.NatShifts", spec := "natShifts", named := ["math/bits.overflowError"], apart := false }
def NatShiftsSaid : Prop := natShiftsRow.holds Try.pinned (OpenSpec.ofChange natShiftsSpec)

/-- ITS FALSE NEIGHBOUR: 'it returns false'. Refute it at one input. -/
def natShiftsWrong : ChangeSpec := { name := "natShifts", fn := fun _ => fun
  | [d1, d2] => { results := [.lit (.bool false)], args := [d1, d2] }
  | _ => none }
def NatShiftsWrongFalsely : Prop := natShiftsRow.holds Try.pinned (OpenSpec.ofChange natShiftsWrong)

/-- 'peloruslaw01.NatBack': WHATEVER THE INPUT: true; the input reads as it did. -/
def natBackSpec : ChangeSpec := { name := "natBack", fn := fun _ => fun
  | [d1, d2] => { results := [.lit (.bool true)], args := [d1, d2] }
  | _ => none }
def natBackRow : OpenClaim := { program := "ytloaabajkallnaa", sum := "ed3faba9b1539afd8db3c45c7c8b830b2293edf3cb6a6fd8c73971890049326e", func := "pelorus/peloruslaw01.NatBack", spec := "natBack", named := ["math/bits.overflowError"], apart := false }
def NatBackSaid : Prop := natBackRow.holds Try.pinned (OpenSpec.ofChange natBackSpec)

/-- ITS FALSE NEIGHBOUR: 'it returns false'. Refute it at one input. -/
def natBackWrong : ChangeSpec := { name := "natBack", fn := fun _ => fun
  | [d1, d2] => { results := [.lit (.bool false)], args := [d1, d2] }
  | _ => none }
def NatBackWrongFalsely : Prop := natBackRow.holds Try.pinned (OpenSpec.ofChange natBackWrong)

/-- 'peloruslaw01.NatLess': WHATEVER THE INPUT: true; the input reads as it did. -/
def natLessSpec : ChangeSpec := { name := "natLess", fn := fun _ => fun
  | [d1, d2] => { results := [.lit (.bool true)], args := [d1, d2] }
  | _ => none }
def natLessRow : OpenClaim := { program := "ytloaabajkallnaa", sum := "ed3faba9b1539afd8db3c45c7c8b830b2293edf3cb6a6fd8c73971890049326e", func := "pelorus/peloruslaw01.NatLess", spec := "natLess", named := ["math/bits.overflowError"], apart := false }
def NatLessSaid : Prop := natLessRow.holds Try.pinned (OpenSpec.ofChange natLessSpec)

/-- ITS FALSE NEIGHBOUR: 'it returns false'. Refute it at one input. -/
def natLessWrong : ChangeSpec := { name := "natLess", fn := fun _ => fun
  | [d1, d2] => { results := [.lit (.bool false)], args := [d1, d2] }
  | _ => none }
def NatLessWrongFalsely : Prop := natLessRow.holds Try.pinned (OpenSpec.ofChange natLessWrong)

/-- 'peloruslaw01.NatRoots': WHATEVER THE INPUT: true; the input reads as it did. -/
def natRootsSpec : ChangeSpec := { name := "natRoots", fn := fun _ => fun
  | [d] => { results := [.lit (.bool true)], args := [d] }
  | _ => none }
def natRootsRow : OpenClaim := { program := "ytloaabajkallnaa", sum := "ed3faba9b1539afd8db3c45c7c8b830b2293edf3cb6a6fd8c73971890049326e", func := "pelorus/peloruslaw01.NatRoots", spec := "natRoots", named := ["math/bits.overflowError"], apart := false }
def NatRootsSaid : Prop := natRootsRow.holds Try.pinned (OpenSpec.ofChange natRootsSpec)

/-- ITS FALSE NEIGHBOUR: 'it returns false'. Refute it at one input. -/
def natRootsWrong : ChangeSpec := { name := "natRoots", fn := fun _ => fun
  | [d] => { results := [.lit (.bool false)], args := [d] }
  | _ => none }
def NatRootsWrongFalsely : Prop := natRootsRow.holds Try.pinned (OpenSpec.ofChange natRootsWrong)

/-- 'peloruslaw01.NatSpreads': WHATEVER THE INPUT: true; the input reads as it did. -/
def natSpreadsSpec : ChangeSpec := { name := "natSpreads", fn := fun _ => fun
  | [d1, d2, d3, d4] => { results := [.lit (.bool true)], args := [d1, d2, d3, d4] }
  | _ => none }
def natSpreadsRow : OpenClaim := { program := "ytloaabajkallnaa", sum := "ed3faba9b1539afd8db3c45c7c8b830b2293edf3cb6a6fd8c73971890049326e", func := "pelorus/peloruslaw01.NatSpreads", spec := "natSpreads", named := ["math/bits.overflowError"], apart := false }
def NatSpreadsSaid : Prop := natSpreadsRow.holds Try.pinned (OpenSpec.ofChange natSpreadsSpec)

/-- ITS FALSE NEIGHBOUR: 'it returns false'. Refute it at one input. -/
def natSpreadsWrong : ChangeSpec := { name := "natSpreads", fn := fun _ => fun
  | [d1, d2, d3, d4] => { results := [.lit (.bool false)], args := [d1, d2, d3, d4] }
  | _ => none }
def NatSpreadsWrongFalsely : Prop := natSpreadsRow.holds Try.pinned (OpenSpec.ofChange natSpreadsWrong)

/-- 'peloruslaw01.NatTrims': WHATEVER THE INPUT: true; the input reads as it did. -/
def natTrimsSpec : ChangeSpec := { name := "natTrims", fn := fun _ => fun
  | [d1, d2, d3] => { results := [.lit (.bool true)], args := [d1, d2, d3] }
  | _ => none }
def natTrimsRow : OpenClaim := { program := "ytloaabajkallnaa", sum := "ed3faba9b1539afd8db3c45c7c8b830b2293edf3cb6a6fd8c73971890049326e", func := "pelorus/peloruslaw01.NatTrims", spec := "natTrims", named := ["math/bits.overflowError"], apart := false }
def NatTrimsSaid : Prop := natTrimsRow.holds Try.pinned (OpenSpec.ofChange natTrimsSpec)

/-- ITS FALSE NEIGHBOUR: 'it returns false'. Refute it at one input. -/
def natTrimsWrong : ChangeSpec := { name := "natTrims", fn := fun _ => fun
  | [d1, d2, d3] => { results := [.lit (.bool false)], args := [d1, d2, d3] }
  | _ => none }
def NatTrimsWrongFalsely : Prop := natTrimsRow.holds Try.pinned (OpenSpec.ofChange natTrimsWrong)

/-- 'peloruslaw01.NatBits': WHATEVER THE INPUT: true; the input reads as it did. -/
def natBitsSpec : ChangeSpec := { name := "natBits", fn := fun _ => fun
  | [d1, d2] => { results := [.lit (.bool true)], args := [d1, d2] }
  | _ => none }
def natBitsRow : OpenClaim := { program := "ytloaabajkallnaa", sum := "ed3faba9b1539afd8db3c45c7c8b830b2293edf3cb6a6fd8c73971890049326e", func := "pelorus/peloruslaw01.NatBits", spec := "natBits", named := ["math/bits.overflowError"], apart := false }
def NatBitsSaid : Prop := natBitsRow.holds Try.pinned (OpenSpec.ofChange natBitsSpec)

/-- ITS FALSE NEIGHBOUR: 'it returns false'. Refute it at one input. -/
def natBitsWrong : ChangeSpec := { name := "natBits", fn := fun _ => fun
  | [d1, d2] => { results := [.lit (.bool false)], args := [d1, d2] }
  | _ => none }
def NatBitsWrongFalsely : Prop := natBitsRow.holds Try.pinned (OpenSpec.ofChange natBitsWrong)

/- THE SECOND FORM. 'bulk': how many values and letters a reading holds, each counted each time it is reached (what is shared counts as often as it is met; a slice's spare places count too). A statement '..UptoSaid' is the law's where the arguments, and the package variables that the reading takes, are together of bulk at most 1048576: NARROWER than '..Said'. Prove '..Said' where nothing that the law and all that it calls make is longer than what came in: it says more and counts as full. Else prove '..UptoSaid'. A law counts once. -/
mutual
def uptoBulk {H : Type} : DataW H → Nat
  | .lit (.string bytes) => bytes.length + 1
  | .lit _ => 1
  | .nil => 1
  | .ptr d => uptoBulk d + 1
  | .slice elems spare => uptoBulkAll elems + uptoBulkAll spare + 1
  | .agg parts => uptoBulkAll parts + 1
  | .iface _ d => uptoBulk d + 1
  | .map entries => uptoBulkEntries entries + 1
  | .held _ => 1
def uptoBulkAll {H : Type} : List (DataW H) → Nat
  | [] => 0
  | d :: r => uptoBulk d + uptoBulkAll r
def uptoBulkEntries {H : Type} : List (Lit × DataW H) → Nat
  | [] => 0
  | x :: r => uptoBulkEntry x + uptoBulkEntries r
def uptoBulkEntry {H : Type} : Lit × DataW H → Nat
  | (.string bytes, d) => bytes.length + uptoBulk d + 1
  | (_, d) => uptoBulk d + 1
 end
def uptoSmall : (H : Type) → List (DataW H) → Bool := fun _ ds => decide (uptoBulkAll ds ≤ 1048576)
def OpenSpec.upto (s : _root_.Go.ChangeSpec) : _root_.Go.OpenSpec := { _root_.Go.OpenSpec.ofChange s with cond := some uptoSmall }

/-- 'peloruslaw01.NatSums', WHERE WHAT IT READS IS OF BULK AT MOST 1048576: true; the input reads as it did. -/
def natSumsUptoRow : OpenClaim := { program := "ytloaabajkallnaa", sum := "ed3faba9b1539afd8db3c45c7c8b830b2293edf3cb6a6fd8c73971890049326e", func := "pelorus/peloruslaw01.NatSums", spec := "natSums", named := ["math/bits.overflowError"], apart := false, narrowed := true }
def NatSumsUptoSaid : Prop := natSumsUptoRow.holds Try.pinned (OpenSpec.upto natSumsSpec)

/-- 'peloruslaw01.NatDivs', WHERE WHAT IT READS IS OF BULK AT MOST 1048576: true; the input reads as it did. -/
def natDivsUptoRow : OpenClaim := { program := "ytloaabajkallnaa", sum := "ed3faba9b1539afd8db3c45c7c8b830b2293edf3cb6a6fd8c73971890049326e", func := "pelorus/peloruslaw01.NatDivs", spec := "natDivs", named := ["math/bits.overflowError"], apart := false, narrowed := true }
def NatDivsUptoSaid : Prop := natDivsUptoRow.holds Try.pinned (OpenSpec.upto natDivsSpec)

/-- 'peloruslaw01.NatShifts', WHERE WHAT IT READS IS OF BULK AT MOST 1048576: true; the input reads as it did. -/
def natShiftsUptoRow : OpenClaim := { program := "ytloaabajkallnaa", sum := "ed3faba9b1539afd8db3c45c7c8b830b2293edf3cb6a6fd8c73971890049326e", func := "pelorus/peloruslaw01.NatShifts", spec := "natShifts", named := ["math/bits.overflowError"], apart := false, narrowed := true }
def NatShiftsUptoSaid : Prop := natShiftsUptoRow.holds Try.pinned (OpenSpec.upto natShiftsSpec)

/-- 'peloruslaw01.NatBack', WHERE WHAT IT READS IS OF BULK AT MOST 1048576: true; the input reads as it did. -/
def natBackUptoRow : OpenClaim := { program := "ytloaabajkallnaa", sum := "ed3faba9b1539afd8db3c45c7c8b830b2293edf3cb6a6fd8c73971890049326e", func := "pelorus/peloruslaw01.NatBack", spec := "natBack", named := ["math/bits.overflowError"], apart := false, narrowed := true }
def NatBackUptoSaid : Prop := natBackUptoRow.holds Try.pinned (OpenSpec.upto natBackSpec)

/-- 'peloruslaw01.NatLess', WHERE WHAT IT READS IS OF BULK AT MOST 1048576: true; the input reads as it did. -/
def natLessUptoRow : OpenClaim := { program := "ytloaabajkallnaa", sum := "ed3faba9b1539afd8db3c45c7c8b830b2293edf3cb6a6fd8c73971890049326e", func := "pelorus/peloruslaw01.NatLess", spec := "natLess", named := ["math/bits.overflowError"], apart := false, narrowed := true }
def NatLessUptoSaid : Prop := natLessUptoRow.holds Try.pinned (OpenSpec.upto natLessSpec)

/-- 'peloruslaw01.NatRoots', WHERE WHAT IT READS IS OF BULK AT MOST 1048576: true; the input reads as it did. -/
def natRootsUptoRow : OpenClaim := { program := "ytloaabajkallnaa", sum := "ed3faba9b1539afd8db3c45c7c8b830b2293edf3cb6a6fd8c73971890049326e", func := "pelorus/peloruslaw01.NatRoots", spec := "natRoots", named := ["math/bits.overflowError"], apart := false, narrowed := true }
def NatRootsUptoSaid : Prop := natRootsUptoRow.holds Try.pinned (OpenSpec.upto natRootsSpec)

/-- 'peloruslaw01.NatSpreads', WHERE WHAT IT READS IS OF BULK AT MOST 1048576: true; the input reads as it did. -/
def natSpreadsUptoRow : OpenClaim := { program := "ytloaabajkallnaa", sum := "ed3faba9b1539afd8db3c45c7c8b830b2293edf3cb6a6fd8c73971890049326e", func := "pelorus/peloruslaw01.NatSpreads", spec := "natSpreads", named := ["math/bits.overflowError"], apart := false, narrowed := true }
def NatSpreadsUptoSaid : Prop := natSpreadsUptoRow.holds Try.pinned (OpenSpec.upto natSpreadsSpec)

/-- 'peloruslaw01.NatTrims', WHERE WHAT IT READS IS OF BULK AT MOST 1048576: true; the input reads as it did. -/
def natTrimsUptoRow : OpenClaim := { program := "ytloaabajkallnaa", sum := "ed3faba9b1539afd8db3c45c7c8b830b2293edf3cb6a6fd8c73971890049326e", func := "pelorus/peloruslaw01.NatTrims", spec := "natTrims", named := ["math/bits.overflowError"], apart := false, narrowed := true }
def NatTrimsUptoSaid : Prop := natTrimsUptoRow.holds Try.pinned (OpenSpec.upto natTrimsSpec)

/-- 'peloruslaw01.NatBits', WHERE WHAT IT READS IS OF BULK AT MOST 1048576: true; the input reads as it did. -/
def natBitsUptoRow : OpenClaim := { program := "ytloaabajkallnaa", sum := "ed3faba9b1539afd8db3c45c7c8b830b2293edf3cb6a6fd8c73971890049326e", func := "pelorus/peloruslaw01.NatBits", spec := "natBits", named := ["math/bits.overflowError"], apart := false, narrowed := true }
def NatBitsUptoSaid : Prop := natBitsUptoRow.holds Try.pinned (OpenSpec.upto natBitsSpec)

end Rows
end Go.Proofs.Ytloaabajkallnaa
