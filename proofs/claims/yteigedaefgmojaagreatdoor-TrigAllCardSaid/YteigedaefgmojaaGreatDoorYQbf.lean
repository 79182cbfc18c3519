/-
 Contracts that the proof rests on.
-/
import Derived.Lib.LaidU8
import Derived.Test.YteigedaefgmojaaGreatDoorYQas
import Derived.Test.YteigedaefgmojaaGreatDoorYQbe
namespace Go.Proofs.YteigedaefgmojaaGreatDoor
open Go.Proofs.Tryz
open Go.ChangeShapes Go.WideShapes Go.ChangeAt Go.RowKit
set_option linter.unusedVariables false
set_option maxRecDepth 100000
section
variable {W:World}
theorem IQ:prog.globalNamed "math/bits.deBruijn64tab" =some 0:=by kernel_rfl
theorem I3:(prog.globals[0]?).map (·.type)=some 181:=by kernel_rfl
theorem sM:prog.cellsOf 5=1:=by kernel_rfl
theorem xc:prog.cellsOf 181=64:=by kernel_rfl
theorem Hp{l:List (String × DataW Unit)}(h:laidMet prog l W)(hm:("math/bits.deBruijn64tab",Lib.tabData .u8 Ic) ∈ l):Tb W:=by
 obtain⟨g,t,cs,fuel,p,h1,h2,a,h4⟩:=Lib.laidMet.reads h hm
 obtain rfl:=Option.some.inj (IQ.symm.trans h1)
 obtain rfl:=Option.some.inj (I3.symm.trans h2)
 have b:Lib.TabIs prog W "math/bits.deBruijn64tab" .u8 Ic:=by
  unfold Lib.TabIs
  rw[a,<-Lib.cells_of_tab Tryz.underlying181 Tryz.underlying5 sM xc h4]
 exact fun i hi=>b.cell IQ i hi
