/-
 Contracts that the proof rests on.
-/
import Derived.Deep.Strs
import Derived.Test.YtomikokonmikgaaGreatDoorYSap
import Derived.Test.YtomikokonmikgaaGreatDoorYSau
namespace Go.Proofs.YtomikokonmikgaaGreatDoor
open Go.ChangeShapes Go.WideShapes Go.ChangeAt Go.RowKit Go.Deep
set_option linter.unusedVariables false
set_option maxRecDepth 100000
section
variable {H:Type} {enc:TypeId × Value->H} {W:World}
def RowsI (w:World)(a:Option Addr)(len cap:Nat):Prop:=
 (a=none/\len=0/\cap=0)\/∃x,a=some x/\len<=cap/\cap<=maxLen/\∀i,i < len->∃e D s M E G g P Q,w.cell? (x.add (i*9))=some (.bool e)/\w.cell? (x.add (i*9+1))=some (.int .i64 D)/\w.cell? (x.add (i*9+2))=some (.bool s)/\w.cell? (x.add (i*9+3))=some (.int .u64 M)/\w.cell? (x.add (i*9+4))=some (.int .i64 E)/\w.cell? (x.add (i*9+5))=some (.int .i64 G)/\w.cell? (x.add (i*9+6))=some (.bool g)/\w.cell? (x.add (i*9+7))=some (.int .u64 P)/\w.cell? (x.add (i*9+8))=some (.int .i64 Q)/\M < 18446744073709551616/\P < 18446744073709551616
theorem RowsI.len{w:World}{a:Option Addr}{len cap:Nat}(h:RowsI w a len cap):len<=9223372036854775807:=by
 rcases h with⟨_,rfl,_⟩ | ⟨x,_,h1,h2,_⟩
 ·omega
 ·unfold maxLen at h2;omega
