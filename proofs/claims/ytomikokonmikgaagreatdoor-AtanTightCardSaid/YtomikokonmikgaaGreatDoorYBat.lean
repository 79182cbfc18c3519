/-
 Contracts that the proof rests on.
-/
import Derived.ChangeSame
import Derived.Deep.Slices
import Derived.LaidHandle
import Derived.Lay
import Derived.Lib.LaidTab
import Derived.MakeChecks
import Derived.OpenShut
import Derived.ProofKit
import Derived.Test.YtomikokonmikgaaGreatDoorYBan
namespace Go.Proofs.YtomikokonmikgaaGreatDoor
open Go.ChangeShapes Go.WideShapes Go.ChangeAt Go.RowKit Go.Deep
set_option linter.unusedVariables false
set_option maxRecDepth 100000
section
variable {H:Type} {enc:TypeId × Value->H} {W:World}
theorem cells_int:Tryz.prog.cellsOf 3=1:=by kernel_rfl
def RowsD (w:World)(a:Option Addr)(len cap:Nat):Prop:=
 (a=none/\len=0/\cap=0)\/∃x,a=some x/\len<=cap/\cap<=maxLen/\∀i,i < len->∃s b n c zs e,w.cell? (x.add (i*3))=some (.bool s)/\w.cell? (x.add (i*3+1))=some (.slice b n c)/\w.cell? (x.add (i*3+2))=some (.int .i64 e)/\RowIn w b n c zs
theorem RowsD.len{w:World}{a:Option Addr}{len cap:Nat}(h:RowsD w a len cap):len<=9223372036854775807:=by
 rcases h with⟨_,rfl,_⟩ | ⟨x,_,h1,h2,_⟩
 ·omega
 ·unfold maxLen at h2;omega
theorem gTab:Tryz.prog.globalNamed "math/bits.deBruijn32tab" =some 2:=by kernel_rfl
theorem tTab:(Tryz.prog.globals[2]?).map (·.type)=some 194:=by kernel_rfl
theorem cells_u8:Tryz.prog.cellsOf 5=1:=by kernel_rfl
theorem cells_tab:Tryz.prog.cellsOf 194=32:=by kernel_rfl
theorem tab_of{rest:List (String × DataW Unit)}(h:laidMet Tryz.prog (("math/bits.deBruijn32tab",Lib.tabData .u8 tzs)::rest) W):Tab W:=by
 have hT:=Lib.tabIs_of_head gTab tTab Tryz.underlying194 Tryz.underlying5 cells_u8 cells_tab h
 exact fun i hi=>hT.cell gTab i hi
