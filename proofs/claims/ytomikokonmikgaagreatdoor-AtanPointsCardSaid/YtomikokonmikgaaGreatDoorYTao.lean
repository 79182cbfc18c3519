/-
 Contracts that the proof rests on.
-/
import Derived.ChangeSame
import Derived.Deep.Slices
import Derived.OpenShut
import Derived.ProofKit
import Derived.Test.YtomikokonmikgaaGreatDoorYTag
namespace Go.Proofs.YtomikokonmikgaaGreatDoor
open Go.Proofs.Tryz
open Go.ChangeShapes Go.WideShapes Go.ChangeAt Go.RowKit Go.Deep
set_option linter.unusedVariables false
set_option maxRecDepth 100000
section
variable {H:Type} {enc:TypeId × Value->H} {W:World}
theorem Hn{n:Nat}{v:Value}{y:DataW H × List MemPlace}(h:DataW.trod enc prog W 0 (fun _=>true) true n 25 [v]=some y):∃a len cap zs,v= .slice a len cap/\nD W a len cap zs:=by
 rcases open_ints Tryz.underlying25 Tryz.underlying92 (by kernel_rfl) h with⟨b,_⟩ | ⟨x,l,c,zs,b,_,hl,hm,hz,_,hcell,d⟩
 ·simp at b
  exact⟨none,0,0,[],b,.inl ⟨rfl,rfl,rfl,rfl⟩⟩
 ·simp at b
  exact⟨some x,l,c,zs,b,.inr ⟨_,rfl,hl,hm,by simpa using hz,hcell,d⟩⟩
theorem pO:prog.cellsOf 27=2:=by kernel_rfl
theorem rx:prog.cellsOf 4=1:=by kernel_rfl
theorem wm:prog.cellsOf 25=1:=by kernel_rfl
theorem CX{n:Nat}{cs:List Value}{y:DataW H × List MemPlace}(h:DataW.trod enc prog W 0 (fun _=>true) true n 27 cs=some y):
  ∃s a len cap zs,cs=[.bool s,.slice a len cap]/\nD W a len cap zs:=by
 obtain⟨d,f,m,_,hl,b,h1⟩:=trod_struct2 Tryz.underlying27 h;rw[pO]at hl;simp only[rx,wm]at b h1
 match cs,hl with
 | [c0,c1],_=>
  obtain⟨s,e,_⟩:=DataW.trod_bool Tryz.underlying4 b;obtain⟨a,len,cap,zs,e1,c⟩:=Hn (v:=c1) h1
  simp at e
  exact⟨s,a,len,cap,zs,by rw[e,e1],c⟩
theorem sj{r:Reach}{b0:Nat}{v:Value}{d:DataW H}{p:List MemPlace}(hv:Value.okWide prog W r b0 27 v)(h:DataW.Trod enc prog W 0 (fun _=>true) true 27 v d p):
  ∃s a len cap zs,v= .agg #[.bool s,.slice a len cap]/\nD W a len cap zs:=by
 obtain⟨cs,rfl,f⟩:=okWide_struct Tryz.underlying27 hv;obtain⟨fuel,b⟩:=h;obtain⟨s,a,len,cap,zs,e,c⟩:=CX b;refine⟨s,a,len,cap,zs,?_,c⟩
 simp[Value.cells]at e
 congr 1
 cases cs
 simp at e
 rw[e]
