/-
 Contracts that the proof rests on.
-/
import Derived.ChangeSame
import Derived.Deep.Slices
import Derived.OpenShut
import Derived.ProofKit
import Derived.Test.YtomikokonmikgaaGreatDoorYPag
namespace Go.Proofs.YtomikokonmikgaaGreatDoor
open Go.ChangeShapes Go.WideShapes Go.ChangeAt Go.RowKit Go.Deep
set_option linter.unusedVariables false
set_option maxRecDepth 100000
section
variable {H:Type} {enc:TypeId × Value->H} {W:World}
theorem row_of{n:Nat}{v:Value}{y:DataW H × List MemPlace}(h:DataW.trod enc Tryz.prog W 0 (fun _=>true) true n 25 [v]=some y):∃a len cap zs,v= .slice a len cap/\RowIn W a len cap zs:=by
 rcases open_ints Tryz.underlying25 Tryz.underlying92 (by kernel_rfl) h with⟨hcs,_⟩ | ⟨x,l,c,zs,hcs,_,hl,hm,hz,_,hcell,hwz⟩
 ·simp at hcs
  exact⟨none,0,0,[],hcs,.inl ⟨rfl,rfl,rfl,rfl⟩⟩
 ·simp at hcs
  exact⟨some x,l,c,zs,hcs,.inr ⟨_,rfl,hl,hm,by simpa using hz,hcell,hwz⟩⟩
theorem cells_whole:Tryz.prog.cellsOf 27=2:=by kernel_rfl
theorem cells_bool:Tryz.prog.cellsOf 4=1:=by kernel_rfl
theorem cells_row:Tryz.prog.cellsOf 25=1:=by kernel_rfl
theorem whole_of{n:Nat}{cs:List Value}{y:DataW H × List MemPlace}(h:DataW.trod enc Tryz.prog W 0 (fun _=>true) true n 27 cs=some y):
  ∃s a len cap zs,cs=[.bool s,.slice a len cap]/\RowIn W a len cap zs:=by
 obtain⟨y0,y1,m,_,hl,h0,h1⟩:=trod_struct2 Tryz.underlying27 h;rw[cells_whole]at hl;simp only[cells_bool,cells_row]at h0 h1
 match cs,hl with
 | [c0,c1],_=>
  obtain⟨s,e,_⟩:=DataW.trod_bool Tryz.underlying4 h0;obtain⟨a,len,cap,zs,e1,hr⟩:=row_of (v:=c1) h1
  simp at e
  exact⟨s,a,len,cap,zs,by rw[e,e1],hr⟩
theorem open_whole{r:Reach}{b0:Nat}{v:Value}{d:DataW H}{p:List MemPlace}(hv:Value.okWide Tryz.prog W r b0 27 v)(h:DataW.Trod enc Tryz.prog W 0 (fun _=>true) true 27 v d p):
  ∃s a len cap zs,v= .agg #[.bool s,.slice a len cap]/\RowIn W a len cap zs:=by
 obtain⟨cs,rfl,hsz⟩:=okWide_struct Tryz.underlying27 hv;obtain⟨fuel,hf⟩:=h;obtain⟨s,a,len,cap,zs,e,hr⟩:=whole_of hf;refine⟨s,a,len,cap,zs,?_,hr⟩
 simp[Value.cells]at e
 congr 1
 cases cs
 simp at e
 rw[e]
