/-
  Contracts and words that the statement's proof rests on: Opd.
-/
import Derived.ChangeSame
import Derived.Deep.Slices
import Derived.LaidHandle
import Derived.Lay
import Derived.Lib.LaidTab
import Derived.MakeChecks
import Derived.OpenShut
import Derived.ProofKit
import Derived.Test.YtpnmphofengoeaaGreatDoorYPao
namespace Go.Proofs.YtpnmphofengoeaaGreatDoor
open Go.ChangeShapes Go.WideShapes Go.ChangeAt Go.RowKit Go.Deep
set_option linter.unusedVariables false
set_option maxRecDepth 100000

section
variable {H : Type} {enc : TypeId × Value → H} {W : World}

theorem cells_int : Tryz.prog.cellsOf 3 = 1 := by kernel_rfl

end
end Go.Proofs.YtpnmphofengoeaaGreatDoor
