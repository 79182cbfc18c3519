/-
  No cell of these rows narrows 'for every input' (looked for: loops, veiled, ifaces, maps, wideKeys, modest, calm, conditions, laid).
  DERIVED. THE GIVEN ROWS OF THIS SEAT. 5 by the template 'for every input the law returns true; each argument reads behind the call as it read before'; 0 by the template 'total and deterministic' (their statements: YthhlccdmflgbbaaTotals.lean).
  GIVEN WITH THE SEED: the statements are not yours to turn. If you find one false, say at which input.
  Laid BY PROGRAM, IN A SANDBOX (cutbox-rows.mjs): the forced cells as the released guide's own fill.sh prints them over the translation 4ebfa85a986c4bb1… (all of the seat's roots in one cut). By AI agents, Wed Nov 11 2026. No macro, syntax, notation, axiom, sorry.
-/
import Derived.Test.YthhlccdmflgbbaaChecked
import GoSem.Claim
import GoSem.ClaimJoined
import GoSem.ClaimMapViews
import Derived.JoinedTies
import Derived.KernelRfl
namespace Go.Proofs.Ythhlccdmflgbbaa
/- THE CELL 'sum', in the pinned program and in every row, IS THE sha256 OF THE DUMP (.gsa) THAT YthhlccdmflgbbaaProg.lean LOADS. Nothing in Lean hashes anything: it is a label: what it is worth is what the hold of that sum in a sandbox is worth. -/
noncomputable def Try.pinned : Pinned := { name := "ythhlccdmflgbbaa", sum := "4ebfa85a986c4bb1000352e6d7e8dad3a3b0e8168635ce1caf4bfad97b19e519", checked := Try.checked }
namespace Rows
def none {H : Type} : Left H := { results := [], args := [] }

/-- 'peloruslaw08.IvMakes': WHATEVER THE INPUT: true; the input reads as it did. -/
def ivMakesSpec : ChangeSpec := { name := "ivMakes", fn := fun _ => fun
  | [d1, d2, d3, d4] => { results := [.lit (.bool true)], args := [d1, d2, d3, d4] }
  | _ => none }
def ivMakesRow : OpenClaim := { program := "ythhlccdmflgbbaa", sum := "4ebfa85a986c4bb1000352e6d7e8dad3a3b0e8168635ce1caf4bfad97b19e519", func := "pelorus/peloruslaw08.IvMakes", spec := "ivMakes", apart := false }
def IvMakesSaid : Prop := ivMakesRow.holds Try.pinned (OpenSpec.ofChange ivMakesSpec)

/-- ITS FALSE NEIGHBOUR: 'it returns false'. Refute it at one input. -/
def ivMakesWrong : ChangeSpec := { name := "ivMakes", fn := fun _ => fun
  | [d1, d2, d3, d4] => { results := [.lit (.bool false)], args := [d1, d2, d3, d4] }
  | _ => none }
def IvMakesWrongFalsely : Prop := ivMakesRow.holds Try.pinned (OpenSpec.ofChange ivMakesWrong)

/-- 'peloruslaw08.IvSets': WHATEVER THE INPUT: true; the input reads as it did. -/
def ivSetsSpec : ChangeSpec := { name := "ivSets", fn := fun _ => fun
  | [d] => { results := [.lit (.bool true)], args := [d] }
  | _ => none }
def ivSetsRow : OpenClaim := { program := "ythhlccdmflgbbaa", sum := "4ebfa85a986c4bb1000352e6d7e8dad3a3b0e8168635ce1caf4bfad97b19e519", func := "pelorus/peloruslaw08.IvSets", spec := "ivSets", apart := false }
def IvSetsSaid : Prop := ivSetsRow.holds Try.pinned (OpenSpec.ofChange ivSetsSpec)

/-- ITS FALSE NEIGHBOUR: 'it returns false'. Refute it at one input. -/
def ivSetsWrong : ChangeSpec := { name := "ivSets", fn := fun _ => fun
  | [d] => { results := [.lit (.bool false)], args := [d] }
  | _ => none }
def IvSetsWrongFalsely : Prop := ivSetsRow.holds Try.pinned (OpenSpec.ofChange ivSetsWrong)

/-- 'peloruslaw08.IvHas': WHATEVER THE INPUT: true; the input reads as it did. -/
def ivHasSpec : ChangeSpec := { name := "ivHas", fn := fun _ => fun
  | [d1, d2, d3] => { results := [.lit (.bool true)], args := [d1, d2, d3] }
  | _ => none }
def ivHasRow : OpenClaim := { program := "ythhlccdmflgbbaa", sum := "4ebfa85a986c4bb1000352e6d7e8dad3a3b0e8168635ce1caf4bfad97b19e519", func := "pelorus/peloruslaw08.IvHas", spec := "ivHas", apart := false }
def IvHasSaid : Prop := ivHasRow.holds Try.pinned (OpenSpec.ofChange ivHasSpec)

/-- ITS FALSE NEIGHBOUR: 'it returns false'. Refute it at one input. -/
def ivHasWrong : ChangeSpec := { name := "ivHas", fn := fun _ => fun
  | [d1, d2, d3] => { results := [.lit (.bool false)], args := [d1, d2, d3] }
  | _ => none }
def IvHasWrongFalsely : Prop := ivHasRow.holds Try.pinned (OpenSpec.ofChange ivHasWrong)

/-- 'peloruslaw08.IvOrder': WHATEVER THE INPUT: true; the input reads as it did. -/
def ivOrderSpec : ChangeSpec := { name := "ivOrder", fn := fun _ => fun
  | [d1, d2] => { results := [.lit (.bool true)], args := [d1, d2] }
  | _ => none }
def ivOrderRow : OpenClaim := { program := "ythhlccdmflgbbaa", sum := "4ebfa85a986c4bb1000352e6d7e8dad3a3b0e8168635ce1caf4bfad97b19e519", func := "pelorus/peloruslaw08.IvOrder", spec := "ivOrder", apart := false }
def IvOrderSaid : Prop := ivOrderRow.holds Try.pinned (OpenSpec.ofChange ivOrderSpec)

/-- ITS FALSE NEIGHBOUR: 'it returns false'. Refute it at one input. -/
def ivOrderWrong : ChangeSpec := { name := "ivOrder", fn := fun _ => fun
  | [d1, d2] => { results := [.lit (.bool false)], args := [d1, d2] }
  | _ => none }
def IvOrderWrongFalsely : Prop := ivOrderRow.holds Try.pinned (OpenSpec.ofChange ivOrderWrong)

/-- 'peloruslaw08.IvMany': WHATEVER THE INPUT: true; the input reads as it did. -/
def ivManySpec : ChangeSpec := { name := "ivMany", fn := fun _ => fun
  | [d1, d2, d3] => { results := [.lit (.bool true)], args := [d1, d2, d3] }
  | _ => none }
def ivManyRow : OpenClaim := { program := "ythhlccdmflgbbaa", sum := "4ebfa85a986c4bb1000352e6d7e8dad3a3b0e8168635ce1caf4bfad97b19e519", func := "pelorus/peloruslaw08.IvMany", spec := "ivMany", apart := false }
def IvManySaid : Prop := ivManyRow.holds Try.pinned (OpenSpec.ofChange ivManySpec)

/-- ITS FALSE NEIGHBOUR: 'it returns false'. Refute it at one input. -/
def ivManyWrong : ChangeSpec := { name := "ivMany", fn := fun _ => fun
  | [d1, d2, d3] => { results := [.lit (.bool false)], args := [d1, d2, d3] }
  | _ => none }
def IvManyWrongFalsely : Prop := ivManyRow.holds Try.pinned (OpenSpec.ofChange ivManyWrong)

/- THE SECOND FORM. 'bulk': how many values and letters a reading holds, each counted each time it is reached (what is shared counts as often as it is met; a slice's spare places count too). A statement '..UptoSaid' is the law's where the arguments, and the package variables that the reading takes, are together of bulk at most 1048576: NARROWER than '..Said'. Prove '..Said' where nothing that the law and all that it calls make is longer than what came in: it says more and counts as full. Else prove '..UptoSaid'. A law counts once. -/
mutual
def uptoBulk {H : Type} : DataW H → Nat
  | .lit (.string bytes) => bytes.length + 1
  | .lit _ => 1
  | .nil => 1
  | .ptr d => uptoBulk d + 1
  | .slice elems spare => uptoBulkAll elems + uptoBulkAll spare + 1
  | .agg parts => uptoBulkAll parts + 1
  | .iface _ d => uptoBulk d + 1
  | .map entries => uptoBulkEntries entries + 1
  | .held _ => 1
def uptoBulkAll {H : Type} : List (DataW H) → Nat
  | [] => 0
  | d :: r => uptoBulk d + uptoBulkAll r
def uptoBulkEntries {H : Type} : List (Lit × DataW H) → Nat
  | [] => 0
  | x :: r => uptoBulkEntry x + uptoBulkEntries r
def uptoBulkEntry {H : Type} : Lit × DataW H → Nat
  | (.string bytes, d) => bytes.length + uptoBulk d + 1
  | (_, d) => uptoBulk d + 1
 end
def uptoSmall : (H : Type) → List (DataW H) → Bool := fun _ ds => decide (uptoBulkAll ds ≤ 1048576)
def OpenSpec.upto (s : _root_.Go.ChangeSpec) : _root_.Go.OpenSpec := { _root_.Go.OpenSpec.ofChange s with cond := some uptoSmall }

/-- 'peloruslaw08.IvMakes', WHERE WHAT IT READS IS OF BULK AT MOST 1048576: true; the input reads as it did. -/
def ivMakesUptoRow : OpenClaim := { program := "ythhlccdmflgbbaa", sum := "4ebfa85a986c4bb1000352e6d7e8dad3a3b0e8168635ce1caf4bfad97b19e519", func := "pelorus/peloruslaw08.IvMakes", spec := "ivMakes", apart := false, narrowed := true }
def IvMakesUptoSaid : Prop := ivMakesUptoRow.holds Try.pinned (OpenSpec.upto ivMakesSpec)

/-- 'peloruslaw08.IvSets', WHERE WHAT IT READS IS OF BULK AT MOST 1048576: true; the input reads as it did. -/
def ivSetsUptoRow : OpenClaim := { program := "ythhlccdmflgbbaa", sum := "4ebfa85a986c4bb1000352e6d7e8dad3a3b0e8168635ce1caf4bfad97b19e519", func := "pelorus/peloruslaw08.IvSets", spec := "ivSets", apart := false, narrowed := true }
def IvSetsUptoSaid : Prop := ivSetsUptoRow.holds Try.pinned (OpenSpec.upto ivSetsSpec)

/-- 'peloruslaw08.IvHas', WHERE WHAT IT READS IS OF BULK AT MOST 1048576: true; the input reads as it did. -/
def ivHasUptoRow : OpenClaim := { program := "ythhlccdmflgbbaa", sum := "4ebfa85a986c4bb1000352e6d7e8dad3a3b0e8168635ce1caf4bfad97b19e519", func := "pelorus/peloruslaw08.IvHas", spec := "ivHas", apart := false, narrowed := true }
def IvHasUptoSaid : Prop := ivHasUptoRow.holds Try.pinned (OpenSpec.upto ivHasSpec)

/-- 'peloruslaw08.IvOrder', WHERE WHAT IT READS IS OF BULK AT MOST 1048576: true; the input reads as it did. -/
def ivOrderUptoRow : OpenClaim := { program := "ythhlccdmflgbbaa", sum := "4ebfa85a986c4bb1000352e6d7e8dad3a3b0e8168635ce1caf4bfad97b19e519", func := "pelorus/peloruslaw08.IvOrder", spec := "ivOrder", apart := false, narrowed := true }
def IvOrderUptoSaid : Prop := ivOrderUptoRow.holds Try.pinned (OpenSpec.upto ivOrderSpec)

/-- 'peloruslaw08.IvMany', WHERE WHAT IT READS IS OF BULK AT MOST 1048576: true; the input reads as it did. -/
def ivManyUptoRow : OpenClaim := { program := "ythhlccdmflgbbaa", sum := "4ebfa85a986c4bb1000352e6d7e8dad3a3b0e8168635ce1caf4bfad97b19e519", func := "pelorus/peloruslaw08.IvMany", spec := "ivMany", apart := false, narrowed := true }
def IvManyUptoSaid : Prop := ivManyUptoRow.holds Try.pinned (OpenSpec.upto ivManySpec)

end Rows
end Go.Proofs.Ythhlccdmflgbbaa
