/-
 Contracts that the proof rests on.
-/
import Derived.LaidHandle
import Derived.Lay
import Derived.Lib.LaidTab
import Derived.MakeChecks
import Derived.Test.YtomikokonmikgaaGreatDoorYTao
import Derived.Test.YtomikokonmikgaaGreatDoorYTap
namespace Go.Proofs.YtomikokonmikgaaGreatDoor
open Go.Proofs.Tryz
open Go.ChangeShapes Go.WideShapes Go.ChangeAt Go.RowKit Go.Deep
set_option linter.unusedVariables false
set_option maxRecDepth 100000
section
variable {H:Type} {enc:TypeId × Value->H} {W:World}
theorem wh:prog.cellsOf 3=1:=by kernel_rfl
theorem IS:prog.globalNamed "math/bits.deBruijn32tab" =some 2:=by kernel_rfl
theorem J7:(prog.globals[2]?).map (·.type)=some 194:=by kernel_rfl
theorem y6:prog.cellsOf 5=1:=by kernel_rfl
theorem wq:prog.cellsOf 194=32:=by kernel_rfl
theorem Hy{rest:List (String × DataW Unit)}(h:laidMet prog (("math/bits.deBruijn32tab",Lib.tabData .u8 Kb)::rest) W):dQ W:=by
 have a:=Lib.tabIs_of_head IS J7 Tryz.underlying194 Tryz.underlying5 y6 wq h
 exact fun i hi=>a.cell IS i hi
