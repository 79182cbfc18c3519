/-
 Contracts that the proof rests on.
-/
import Derived.LaidHandle
import Derived.Lay
import Derived.Lib.LaidTab
import Derived.MakeChecks
import Derived.Test.YtomikokonmikgaaGreatDoorYPao
import Derived.Test.YtomikokonmikgaaGreatDoorYPap
namespace Go.Proofs.YtomikokonmikgaaGreatDoor
open Go.ChangeShapes Go.WideShapes Go.ChangeAt Go.RowKit Go.Deep
set_option linter.unusedVariables false
set_option maxRecDepth 100000
section
variable {H:Type} {enc:TypeId × Value->H} {W:World}
theorem cells_int:Tryz.prog.cellsOf 3=1:=by kernel_rfl
theorem gTab:Tryz.prog.globalNamed "math/bits.deBruijn32tab" =some 2:=by kernel_rfl
theorem tTab:(Tryz.prog.globals[2]?).map (·.type)=some 194:=by kernel_rfl
theorem cells_u8:Tryz.prog.cellsOf 5=1:=by kernel_rfl
theorem cells_tab:Tryz.prog.cellsOf 194=32:=by kernel_rfl
theorem tab_of{rest:List (String × DataW Unit)}(h:laidMet Tryz.prog (("math/bits.deBruijn32tab",Lib.tabData .u8 tzs)::rest) W):Tab W:=by
 have hT:=Lib.tabIs_of_head gTab tTab Tryz.underlying194 Tryz.underlying5 cells_u8 cells_tab h
 exact fun i hi=>hT.cell gTab i hi
