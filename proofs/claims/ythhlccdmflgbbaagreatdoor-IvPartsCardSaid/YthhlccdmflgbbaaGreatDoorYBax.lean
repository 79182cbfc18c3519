/-
  Contracts and words that the statement's proof rests on, several texts in one: Opd.
-/
import Derived.Below
import Derived.BigQuiet
import Derived.Carry
import Derived.ChangeSame
import Derived.Deep.Draws
import Derived.Deep.MidRow
import Derived.Deep.QuietTactic
import Derived.Deep.RegionWith
import Derived.Deep.Slices
import Derived.LaidHandle
import Derived.Laws.CopyOwn
import Derived.Laws.MakeOwn
import Derived.Laws.OwnMore
import Derived.Laws.Rows
import Derived.Lay
import Derived.Lib.BitFns
import Derived.Lib.Hide
import Derived.Lib.LaidTab
import Derived.MakeChecks
import Derived.OpenShut
import Derived.ProofKit
import Derived.Test.YthhlccdmflgbbaaGreatDoorRows
import Derived.WalkKit
import Derived.WalkLawsBesides
import Derived.WalkSpells
import Derived.Test.YthhlccdmflgbbaaGreatDoorYBag
import Derived.Test.YthhlccdmflgbbaaGreatDoorYBan
/-
  What a row's proof is told of numbers times powers of two that come in, and of a listed table.
-/
namespace Go.Proofs.YthhlccdmflgbbaaGreatDoor
open Go.ChangeShapes Go.WideShapes Go.ChangeAt Go.RowKit Go.Deep
set_option linter.unusedVariables false
set_option maxRecDepth 100000

section
variable {H : Type} {enc : TypeId × Value → H} {W : World}

theorem cells_int : Tryz.prog.cellsOf 3 = 1 := by kernel_rfl

end
end Go.Proofs.YthhlccdmflgbbaaGreatDoor
