/-
 Contracts that the proof rests on.
-/
import Derived.Lib.LaidU8
import Derived.Test.YteigedaefgmojaaGreatDoorYUas
import Derived.Test.YteigedaefgmojaaGreatDoorYUbf
namespace Go.Proofs.YteigedaefgmojaaGreatDoor
open Go.Proofs.Tryz
open Go.ChangeShapes Go.WideShapes Go.ChangeAt Go.RowKit
set_option linter.unusedVariables false
set_option maxRecDepth 100000
section
variable {W:World}
theorem KZ:prog.globalNamed "math/bits.deBruijn64tab" =some 0:=by kernel_rfl
theorem Lj:(prog.globals[0]?).map (·.type)=some 181:=by kernel_rfl
theorem xq:prog.cellsOf 5=1:=by kernel_rfl
theorem Af:prog.cellsOf 181=64:=by kernel_rfl
theorem J7{l:List (String × DataW Unit)}(h:laidMet prog l W)(hm:("math/bits.deBruijn64tab",Lib.tabData .u8 Ks) ∈ l):Tb W:=by
 obtain⟨g,t,cs,fuel,p,h1,h2,a,h4⟩:=Lib.laidMet.reads h hm
 obtain rfl:=Option.some.inj (KZ.symm.trans h1)
 obtain rfl:=Option.some.inj (Lj.symm.trans h2)
 have b:Lib.TabIs prog W "math/bits.deBruijn64tab" .u8 Ks:=by
  unfold Lib.TabIs
  rw[a,<-Lib.cells_of_tab Tryz.underlying181 Tryz.underlying5 xq Af h4]
 exact fun i hi=>b.cell KZ i hi
