/-
 Contracts that the proof rests on.
-/
import Derived.Deep.Strs
import Derived.Test.YtomikokonmikgaaGreatDoorYBap
import Derived.Test.YtomikokonmikgaaGreatDoorYBau
namespace Go.Proofs.YtomikokonmikgaaGreatDoor
open Go.ChangeShapes Go.WideShapes Go.ChangeAt Go.RowKit Go.Deep
set_option linter.unusedVariables false
set_option maxRecDepth 100000
section
variable {H:Type} {enc:TypeId × Value->H} {W:World}
theorem cells_iv:Tryz.prog.cellsOf 32=9:=by kernel_rfl
theorem iv_of{n:Nat}{cs:List Value}{y:DataW H × List MemPlace}(h:DataW.trod enc Tryz.prog W 0 (fun _=>true) true n 32 cs=some y):
  ∃e D s M E G g P Q,cs=[.bool e,.int .i64 D,.bool s,.int .u64 M,.int .i64 E,.int .i64 G,.bool g,.int .u64 P,.int .i64 Q]/\M < 18446744073709551616/\P < 18446744073709551616:=by
 obtain⟨y0,y1,y2,m,_,hl,h0,h1,h2⟩:=trod_struct3 Tryz.underlying32 h;rw[cells_iv]at hl;simp only[cells_bool',cells_num]at h0 h1 h2
 match cs,hl with
 | [c0,c1,c2,c3,c4,c5,c6,c7,c8],_=>
  obtain⟨e,e0,_⟩:=DataW.trod_bool Tryz.underlying4 h0;obtain⟨D,s,M,E,e1,_,w1⟩:=num_of h1;obtain⟨G,g,P,Q,e2,_,w2⟩:=num_of h2
  simp at e0 e1 e2
  obtain⟨f1,f2,f3,f4⟩:=e1;obtain⟨g1,g2,g3,g4⟩:=e2;exact⟨e,D,s,M,E,G,g,P,Q,by rw[e0,f1,f2,f3,f4,g1,g2,g3,g4],w1,w2⟩
theorem open_iv{r:Reach}{b0:Nat}{v:Value}{d:DataW H}{p:List MemPlace}(hv:Value.okWide Tryz.prog W r b0 32 v)(h:DataW.Trod enc Tryz.prog W 0 (fun _=>true) true 32 v d p):
  ∃e D s M E G g P Q,v= .agg #[.bool e,.int .i64 D,.bool s,.int .u64 M,.int .i64 E,.int .i64 G,.bool g,.int .u64 P,.int .i64 Q]/\M < 18446744073709551616/\P < 18446744073709551616:=by
 obtain⟨cs,rfl,hsz⟩:=okWide_struct Tryz.underlying32 hv;obtain⟨fuel,hf⟩:=h;obtain⟨e,D,s,M,E,G,g,P,Q,e0,hr⟩:=iv_of hf;refine⟨e,D,s,M,E,G,g,P,Q,?_,hr⟩
 simp[Value.cells]at e0
 congr 1
 cases cs
 simp at e0
 rw[e0]
def RowsI (w:World)(a:Option Addr)(len cap:Nat):Prop:=
 (a=none/\len=0/\cap=0)\/∃x,a=some x/\len<=cap/\cap<=maxLen/\∀i,i < len->∃e D s M E G g P Q,w.cell? (x.add (i*9))=some (.bool e)/\w.cell? (x.add (i*9+1))=some (.int .i64 D)/\w.cell? (x.add (i*9+2))=some (.bool s)/\w.cell? (x.add (i*9+3))=some (.int .u64 M)/\w.cell? (x.add (i*9+4))=some (.int .i64 E)/\w.cell? (x.add (i*9+5))=some (.int .i64 G)/\w.cell? (x.add (i*9+6))=some (.bool g)/\w.cell? (x.add (i*9+7))=some (.int .u64 P)/\w.cell? (x.add (i*9+8))=some (.int .i64 Q)/\M < 18446744073709551616/\P < 18446744073709551616
theorem RowsI.len{w:World}{a:Option Addr}{len cap:Nat}(h:RowsI w a len cap):len<=9223372036854775807:=by
 rcases h with⟨_,rfl,_⟩ | ⟨x,_,h1,h2,_⟩
 ·omega
 ·unfold maxLen at h2;omega
