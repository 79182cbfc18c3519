/-
 Contracts that the proof rests on.
-/
import Derived.Lib.SmallJoins
import Derived.Test.YteigedaefgmojaaGreatDoorYUap
import Derived.Test.YteigedaefgmojaaGreatDoorYUbe
namespace Go.Proofs.YteigedaefgmojaaGreatDoor
open Go.Proofs.Tryz
open Go.ChangeShapes Go.WideShapes Go.ChangeAt Go.RowKit Go.Deep
set_option linter.unusedVariables false
set_option maxRecDepth 100000
section
variable {H:Type} {enc:TypeId × Value->H} {W:World}
theorem oi:prog.cellsOf 24=4:=by kernel_rfl
theorem xo:prog.cellsOf 22=1:=by kernel_rfl
theorem lk:prog.cellsOf 4=1:=by kernel_rfl
theorem I0{n:Int}(h:(Lit.int .u64 n).wf=true):0<=n/\n < 18446744073709551616:=by
 simp[Lit.wf,IntKind.min,IntKind.max,IntKind.signed,IntKind.bits]at h
 omega
theorem tc{n:Nat}{cs:List Value}{y:DataW H × List MemPlace}(h:DataW.trod enc prog W 0 (fun _=>true) true n 24 cs=some y):
  ∃D s M E,cs=[.int .i64 D,.bool s,.int .u64 M,.int .i64 E]/\0<=M/\M < 18446744073709551616:=by
 obtain⟨e,f,g,i,m,_,hl,a,h1,h2,b⟩:=Go.Joins.trod_struct4 Tryz.underlying24 h;rw[oi]at hl;simp only[xm,lk,xo]at a h1 h2 b
 match cs,hl with
 | [c0,c1,c2,c3],_=>
  obtain⟨D,e0,_,_⟩:=DataW.trod_int Tryz.underlying3 a;obtain⟨s,e1,_⟩:=DataW.trod_bool Tryz.underlying4 h1;obtain⟨M,e2,_,c⟩:=DataW.trod_int Tryz.underlying22 h2;obtain⟨E,e3,_,_⟩:=DataW.trod_int Tryz.underlying3 b
  simp at e0 e1 e2 e3
  obtain⟨w1,d⟩:=I0 c;exact⟨D,s,M,E,by rw[e0,e1,e2,e3],w1,d⟩
theorem rj{r:Reach}{b0:Nat}{v:Value}{d:DataW H}{p:List MemPlace}(hv:Value.okWide prog W r b0 24 v)(h:DataW.Trod enc prog W 0 (fun _=>true) true 24 v d p):
  ∃D s M E,v= .agg #[.int .i64 D,.bool s,.int .u64 M,.int .i64 E]/\0<=M/\M < 18446744073709551616:=by
 obtain⟨cs,rfl,b⟩:=okWide_struct Tryz.underlying24 hv;obtain⟨fuel,hf⟩:=h;obtain⟨D,s,M,E,e,a⟩:=tc hf;refine⟨D,s,M,E,?_,a⟩
 simp[Value.cells]at e
 congr 1
 cases cs
 simp at e
 rw[e]
