/-
  The walk of TrigAll: for all arguments the call answers true, and nothing that was there has turned.
-/
import Derived.Test.YteigedaefgmojaaGreatDoorYQbc
namespace Go.Proofs.YteigedaefgmojaaGreatDoor
open Go.Proofs.Tryz
open Go.RowKit
set_option linter.unusedVariables false
set_option linter.unusedSimpArgs false
set_option maxRecDepth 100000
set_option maxRecDepth 100000 in
set_option maxHeartbeats 16000000 in
theorem trigAll_main (e0:Bool)(D0:Int)(s0:Bool)(M0 E0 G0:Int)(g0:Bool)(P0 Q0:Int)(w:World)(hT:dN w)(hT2:Tb w)(u0:LQ M0)(v0:LQ P0)(X Zs Zc:Sp)(hx:fG e0 D0 s0 M0 E0 G0 g0 P0 Q0=X)(hs:km false X Zs)(hc:km true X Zc):
  Calls prog 3 #[VI e0 D0 s0 M0 E0 G0 g0 P0 Q0] w (PB w true):=by
 delta VI
 have E:=ie hx;have HS:=ie hs;have HC:=ie hc;clear hx hs hc
 go_enter func3,ntmps3
 go_upto_region 1 with fail
 generalize s:w.alloc _=w1 at *;obtain⟨r,d⟩:=Bo.en1 s;replace hT:=hT.below d.out;replace hT2:=hT2.below d.out;clear s
 go_wp2_with fail
 refine(Bp hT hT2).mono ?_;rintro ee w2 ⟨rfl,B⟩;refine dk ?_ r hT hT2 d B;clear r hT hT2 d B;intro r hT hT2 d
 go_upto_region 2 with fail
 have bB:=r.lt;refine aV [0,1,2,3,4,5,6,7,8,9,10,11,12,13,14,15] [6,7,8,9,10,11,12,13,14,15,16,17,18,19,20,3] [[],[0],[1],[1,2],[1],[1,4],[1,3,5],[1,6],[7],[8],[8,9],[8],[8,11],[8,10,12],[8,13],[14]] 16 0 [Jo.qb true,Jo.qb true,Jo.q9 e0 D0 s0 M0 E0 G0 g0 P0 Q0,Jo.Fact.iv Zs,Jo.q9 e0 D0 s0 M0 E0 G0 g0 P0 Q0,Jo.Fact.iv Zs,Jo.qb true,Jo.qb true,Jo.qb true,Jo.q9 e0 D0 s0 M0 E0 G0 g0 P0 Q0,Jo.Fact.iv Zc,Jo.q9 e0 D0 s0 M0 E0 G0 g0 P0 Q0,Jo.Fact.iv Zc,Jo.qb true,Jo.qb true,Jo.qb true] ?_ ?_
 ·iterate 3 (refine jm ?_ ?_;rotate_left)
  refine jm ?_ ?_
  ·rintro e c _ rfl _ rfl K a;go_simp;exact Jo.v1 (Aw (hT.b c) (hT2.b c) u0 v0 E.out HS.out) a.out
  refine jm ?_ ?_;rotate_left
  refine jm ?_ ?_
  ·rintro e c _ rfl _ rfl K a;go_simp;exact Jo.v1 (EG u0 v0 E.out HS.out) a.out
  refine jm ?_ ?_
  ·rintro e c _ rfl _ ⟨S,J,W,O,F,j,t,n,f,rfl,y⟩ _ ⟨T,L,Y,P,G,k,u,o,g,rfl,A⟩ K a;simp only[Jo.z]at a|-;obtain⟨rfl,rfl,rfl,rfl,rfl,rfl,rfl,rfl,rfl⟩:=y.uniq A;go_simp
   exact a.out _ _ (by first | rfl | (show Value.bool _=Value.bool _;simp)) (br _ _)
  iterate 3 (refine jm ?_ ?_;rotate_left)
  refine jm ?_ ?_
  ·rintro e c _ rfl _ rfl K a;go_simp;exact Jo.v1 (At (hT.b c) (hT2.b c) u0 v0 E.out HC.out) a.out
  refine jm ?_ ?_;rotate_left
  refine jm ?_ ?_
  ·rintro e c _ rfl _ rfl K a;go_simp;exact Jo.v1 (EF u0 v0 E.out HC.out) a.out
  refine jm ?_ ?_
  ·rintro e c _ rfl _ ⟨U,M,Z,Q,H,l,v,p,h,rfl,C⟩ _ ⟨V,N,bA,R,I,m,x,q,i,rfl,D⟩ K a;simp only[Jo.z]at a|-;obtain⟨rfl,rfl,rfl,rfl,rfl,rfl,rfl,rfl,rfl⟩:=C.uniq D;go_simp
   exact a.out _ _ (by first | rfl | (show Value.bool _=Value.bool _;simp)) (br _ _)
  iterate 2 (refine jm ?_ ?_;rotate_left)
  exact jo
  all_goals (rintro e c;(repeat rintro _ rfl);intro K a;have bC:=(r.b c).cell;go_simp;exact a.out _ _ rfl (br _ _))
 rintro w3 c _ rfl _ rfl _ rfl _ ⟨S,J,W,O,F,j,t,n,f,rfl,y⟩ _ rfl _ ⟨T,L,Y,P,G,k,u,o,g,rfl,A⟩ _ rfl _ rfl _ rfl _ rfl _ ⟨U,M,Z,Q,H,l,v,p,h,rfl,C⟩ _ rfl _ ⟨V,N,bA,R,I,m,x,q,i,rfl,D⟩ _ rfl _ rfl _ rfl -;simp only[Jo.z];replace d:=aj d c;refine jd ?_
 go_wp2
 go_ret
 exact⟨rfl,d.out⟩
theorem trigAll_walk (e0:Bool)(D0:Int)(s0:Bool)(M0 E0 G0:Int)(g0:Bool)(P0 Q0:Int)(w:World)(hT:dN w)(hT2:Tb w)(u0:LQ M0)(v0:LQ P0):
  Calls prog 3 #[VI e0 D0 s0 M0 E0 G0 g0 P0 Q0] w fun e w'=>e= .returned (.bool true)/\Below w.heap.size w w':=by
 delta VI
 obtain⟨b,hs⟩:=pF false (fG e0 D0 s0 M0 E0 G0 g0 P0 Q0);obtain⟨a,c⟩:=pF true (fG e0 D0 s0 M0 E0 G0 g0 P0 Q0);exact trigAll_main e0 D0 s0 M0 E0 G0 g0 P0 Q0 w hT hT2 u0 v0 _ b a rfl hs c
