/-
 Contracts that the proof rests on.
-/
import Derived.ChangeSame
import Derived.Deep.Slices
import Derived.LaidHandle
import Derived.Lay
import Derived.Lib.LaidTab
import Derived.MakeChecks
import Derived.OpenShut
import Derived.ProofKit
import Derived.Test.YteigedaefgmojaaGreatDoorYQao
namespace Go.Proofs.YteigedaefgmojaaGreatDoor
open Go.Proofs.Tryz
open Go.ChangeShapes Go.WideShapes Go.ChangeAt Go.RowKit Go.Deep
set_option linter.unusedVariables false
set_option maxRecDepth 100000
section
variable {H:Type} {enc:TypeId × Value->H} {W:World}
theorem sJ:prog.cellsOf 3=1:=by kernel_rfl
theorem GF:prog.globalNamed "math/bits.deBruijn32tab" =some 1:=by kernel_rfl
theorem IA:(prog.globals[1]?).map (·.type)=some 185:=by kernel_rfl
theorem xd:prog.cellsOf 5=1:=by kernel_rfl
theorem sK:prog.cellsOf 185=32:=by kernel_rfl
theorem FL{rest:List (String × DataW Unit)}(h:laidMet prog (("math/bits.deBruijn32tab",Lib.tabData .u8 IE)::rest) W):dN W:=by
 have a:=Lib.tabIs_of_head GF IA Tryz.underlying185 Tryz.underlying5 xd sK h
 exact fun i hi=>a.cell GF i hi
