/-
 Contracts that the proof rests on.
-/
import Derived.Lib.SmallJoins
import Derived.Test.YteigedaefgmojaaGreatDoorYQap
import Derived.Test.YteigedaefgmojaaGreatDoorYQbd
namespace Go.Proofs.YteigedaefgmojaaGreatDoor
open Go.Proofs.Tryz
open Go.ChangeShapes Go.WideShapes Go.ChangeAt Go.RowKit Go.Deep
set_option linter.unusedVariables false
set_option maxRecDepth 100000
section
variable {H:Type} {enc:TypeId × Value->H} {W:World}
theorem l7:prog.cellsOf 24=4:=by kernel_rfl
theorem sL:prog.cellsOf 22=1:=by kernel_rfl
theorem jL:prog.cellsOf 4=1:=by kernel_rfl
theorem F3{n:Int}(h:(Lit.int .u64 n).wf=true):0<=n/\n < 18446744073709551616:=by
 simp[Lit.wf,IntKind.min,IntKind.max,IntKind.signed,IntKind.bits]at h
 omega
theorem yZ{n:Nat}{cs:List Value}{y:DataW H × List MemPlace}(h:DataW.trod enc prog W 0 (fun _=>true) true n 24 cs=some y):
  ∃D s M E,cs=[.int .i64 D,.bool s,.int .u64 M,.int .i64 E]/\0<=M/\M < 18446744073709551616:=by
 obtain⟨e,f,g,i,m,_,hl,a,h1,h2,b⟩:=Go.Joins.trod_struct4 Tryz.underlying24 h;rw[l7]at hl;simp only[sJ,jL,sL]at a h1 h2 b
 match cs,hl with
 | [c0,c1,c2,c3],_=>
  obtain⟨D,e0,_,_⟩:=DataW.trod_int Tryz.underlying3 a;obtain⟨s,e1,_⟩:=DataW.trod_bool Tryz.underlying4 h1;obtain⟨M,e2,_,c⟩:=DataW.trod_int Tryz.underlying22 h2;obtain⟨E,e3,_,_⟩:=DataW.trod_int Tryz.underlying3 b
  simp at e0 e1 e2 e3
  obtain⟨w1,d⟩:=F3 c;exact⟨D,s,M,E,by rw[e0,e1,e2,e3],w1,d⟩
