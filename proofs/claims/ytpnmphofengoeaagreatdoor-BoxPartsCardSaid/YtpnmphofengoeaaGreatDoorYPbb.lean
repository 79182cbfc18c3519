/-
  Contracts and words that the statement's proof rests on: Opo.
-/
import Derived.Lib.LaidU8
import Derived.Test.YtpnmphofengoeaaGreatDoorYPas
import Derived.Test.YtpnmphofengoeaaGreatDoorYPaz
namespace Go.Proofs.YtpnmphofengoeaaGreatDoor
open Go.ChangeShapes Go.WideShapes Go.ChangeAt Go.RowKit
set_option linter.unusedVariables false
set_option maxRecDepth 100000

section
variable {W : World}
theorem gTb : Tryz.prog.globalNamed "math/bits.deBruijn64tab" = some 0 := by kernel_rfl
theorem tTb : (Tryz.prog.globals[0]?).map (·.type) = some 117 := by kernel_rfl
theorem cells_u8b : Tryz.prog.cellsOf 5 = 1 := by kernel_rfl
theorem cells_tb : Tryz.prog.cellsOf 117 = 64 := by kernel_rfl
theorem tb_of {l : List (String × DataW Unit)} (h : laidMet Tryz.prog l W) (hm : ("math/bits.deBruijn64tab", Lib.tabData .u8 tz8) ∈ l) : Tb W := by
  obtain ⟨g, t, cs, fuel, p, h1, h2, h3, h4⟩ := Lib.laidMet.reads h hm
  obtain rfl := Option.some.inj (gTb.symm.trans h1)
  obtain rfl := Option.some.inj (tTb.symm.trans h2)
  have hT : Lib.TabIs Tryz.prog W "math/bits.deBruijn64tab" .u8 tz8 := by
    unfold Lib.TabIs
    rw [h3, ← Lib.cells_of_tab Tryz.underlying117 Tryz.underlying5 cells_u8b cells_tb h4]
  exact fun i hi => hT.cell gTb i hi
end
end Go.Proofs.YtpnmphofengoeaaGreatDoor
