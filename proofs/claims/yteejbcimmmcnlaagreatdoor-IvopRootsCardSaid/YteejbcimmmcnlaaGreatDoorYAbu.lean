/-
  Contracts and words that the statement's proof rests on, several texts in one: Opd.
-/
import Derived.Below
import Derived.BigQuiet
import Derived.Carry
import Derived.ChangeSame
import Derived.Deep.DeepCutAuto
import Derived.Deep.Draws
import Derived.Deep.MidRow
import Derived.Deep.QuietTactic
import Derived.Deep.RegionHeld3
import Derived.Deep.RegionWith
import Derived.Deep.Slices
import Derived.IntWalk
import Derived.LaidHandle
import Derived.Laws.CopyOwn
import Derived.Laws.MakeOwn
import Derived.Laws.OwnMore
import Derived.Laws.Rows
import Derived.Lay
import Derived.Lib.BitFns
import Derived.Lib.Hide
import Derived.Lib.LaidTab
import Derived.MakeChecks
import Derived.Maps.AppendAt
import Derived.OpenShut
import Derived.ProofKit
import Derived.StillTailTactics
import Derived.Test.YteejbcimmmcnlaaGreatDoorRows
import Derived.WalkKit
import Derived.WalkLawsBesides
import Derived.WalkSpells
import Derived.Test.YteejbcimmmcnlaaGreatDoorYAai
import Derived.Test.YteejbcimmmcnlaaGreatDoorYAaj
import Derived.Test.YteejbcimmmcnlaaGreatDoorYAam
import Derived.Test.YteejbcimmmcnlaaGreatDoorYAas
/-
  What a row's proof is told of numbers times powers of two that come in, and of a listed table.
-/
namespace Go.Proofs.YteejbcimmmcnlaaGreatDoor
open Go.ChangeShapes Go.WideShapes Go.ChangeAt Go.RowKit Go.Deep
set_option linter.unusedVariables false
set_option maxRecDepth 100000

section
variable {H : Type} {enc : TypeId × Value → H} {W : World}

theorem cells_int : Tryz.prog.cellsOf 3 = 1 := by kernel_rfl

theorem gTab : Tryz.prog.globalNamed "math/bits.deBruijn32tab" = some 0 := by kernel_rfl
theorem tTab : (Tryz.prog.globals[0]?).map (·.type) = some 141 := by kernel_rfl
theorem cells_u8 : Tryz.prog.cellsOf 5 = 1 := by kernel_rfl
theorem cells_tab : Tryz.prog.cellsOf 141 = 32 := by kernel_rfl
theorem tab_of {rest : List (String × DataW Unit)} (h : laidMet Tryz.prog (("math/bits.deBruijn32tab", Lib.tabData .u8 tzs) :: rest) W) : Tab W := by
  have hT := Lib.tabIs_of_head gTab tTab Tryz.underlying141 Tryz.underlying5 cells_u8 cells_tab h
  exact fun i hi => hT.cell gTab i hi
end
end Go.Proofs.YteejbcimmmcnlaaGreatDoor
