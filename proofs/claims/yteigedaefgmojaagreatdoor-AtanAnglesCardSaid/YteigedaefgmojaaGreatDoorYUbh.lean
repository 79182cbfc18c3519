/-
 Contracts that the proof rests on.
-/
import Derived.Deep.Strs
import Derived.Test.YteigedaefgmojaaGreatDoorYUau
import Derived.Test.YteigedaefgmojaaGreatDoorYUbf
namespace Go.Proofs.YteigedaefgmojaaGreatDoor
open Go.Proofs.Tryz
open Go.ChangeShapes Go.WideShapes Go.ChangeAt Go.RowKit Go.Deep
set_option linter.unusedVariables false
set_option maxRecDepth 100000
section
variable {H:Type} {enc:TypeId × Value->H} {W:World}
theorem Ae:prog.cellsOf 26=9:=by kernel_rfl
theorem JA{n:Nat}{cs:List Value}{y:DataW H × List MemPlace}(h:DataW.trod enc prog W 0 (fun _=>true) true n 26 cs=some y):
  ∃e D s M E G g P Q,cs=[.bool e,.int .i64 D,.bool s,.int .u64 M,.int .i64 E,.int .i64 G,.bool g,.int .u64 P,.int .i64 Q]/\M < 18446744073709551616/\P < 18446744073709551616:=by
 obtain⟨j,k,l,m,_,hl,a,h1,h2⟩:=trod_struct3 Tryz.underlying26 h;rw[Ae]at hl;simp only[lk,oi]at a h1 h2
 match cs,hl with
 | [c0,c1,c2,c3,c4,c5,c6,c7,c8],_=>
  obtain⟨e,e0,_⟩:=DataW.trod_bool Tryz.underlying4 a;obtain⟨D,s,M,E,e1,_,w1⟩:=tc h1;obtain⟨G,g,P,Q,e2,_,i⟩:=tc h2
  simp at e0 e1 e2
  obtain⟨b,c,d,f⟩:=e1;obtain⟨g1,g2,g3,g4⟩:=e2;exact⟨e,D,s,M,E,G,g,P,Q,by rw[e0,b,c,d,f,g1,g2,g3,g4],w1,i⟩
theorem Fo{r:Reach}{b0:Nat}{v:Value}{d:DataW H}{p:List MemPlace}(hv:Value.okWide prog W r b0 26 v)(h:DataW.Trod enc prog W 0 (fun _=>true) true 26 v d p):
  ∃e D s M E G g P Q,v= .agg #[.bool e,.int .i64 D,.bool s,.int .u64 M,.int .i64 E,.int .i64 G,.bool g,.int .u64 P,.int .i64 Q]/\M < 18446744073709551616/\P < 18446744073709551616:=by
 obtain⟨cs,rfl,b⟩:=okWide_struct Tryz.underlying26 hv;obtain⟨fuel,hf⟩:=h;obtain⟨e,D,s,M,E,G,g,P,Q,e0,a⟩:=JA hf;refine⟨e,D,s,M,E,G,g,P,Q,?_,a⟩
 simp[Value.cells]at e0
 congr 1
 cases cs
 simp at e0
 rw[e0]
