/-
 Contracts that the proof rests on.
-/
import Derived.Lib.LaidU8
import Derived.Test.YtomikokonmikgaaGreatDoorYTat
import Derived.Test.YtomikokonmikgaaGreatDoorYTbg
namespace Go.Proofs.YtomikokonmikgaaGreatDoor
open Go.Proofs.Tryz
open Go.ChangeShapes Go.WideShapes Go.ChangeAt Go.RowKit
set_option linter.unusedVariables false
set_option maxRecDepth 100000
section
variable {W:World}
theorem Kk:prog.globalNamed "math/bits.deBruijn64tab" =some 0:=by kernel_rfl
theorem Ks:(prog.globals[0]?).map (·.type)=some 191:=by kernel_rfl
theorem wt:prog.cellsOf 5=1:=by kernel_rfl
theorem y5:prog.cellsOf 191=64:=by kernel_rfl
theorem Jt{l:List (String × DataW Unit)}(h:laidMet prog l W)(hm:("math/bits.deBruijn64tab",Lib.tabData .u8 JO) ∈ l):Tb W:=by
 obtain⟨g,t,cs,fuel,p,h1,h2,a,h4⟩:=Lib.laidMet.reads h hm
 obtain rfl:=Option.some.inj (Kk.symm.trans h1)
 obtain rfl:=Option.some.inj (Ks.symm.trans h2)
 have b:Lib.TabIs prog W "math/bits.deBruijn64tab" .u8 JO:=by
  unfold Lib.TabIs
  rw[a,<-Lib.cells_of_tab Tryz.underlying191 Tryz.underlying5 wt y5 h4]
 exact fun i hi=>b.cell Kk i hi
