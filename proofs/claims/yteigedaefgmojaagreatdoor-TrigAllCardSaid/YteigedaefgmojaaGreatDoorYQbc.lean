/-
 Contracts that the proof rests on.
-/
import Derived.Test.YteigedaefgmojaaGreatDoorYQba
import Derived.Test.YteigedaefgmojaaGreatDoorYQbb
namespace Go.Proofs.YteigedaefgmojaaGreatDoor
open Go.Proofs.Tryz
open Go.RowKit
set_option linter.unusedVariables false
set_option linter.unusedSimpArgs false
set_option maxRecDepth 100000
set_option maxHeartbeats 8000000 in
theorem Bp{w:World}(hT:dN w)(hT2:Tb w):Calls prog 5 #[] w (PB w true):=by
 obtain⟨Zs,hs⟩:=As false 0;obtain⟨Zc,hc⟩:=pF true (some (al (-1),al 1));obtain⟨s1,s2⟩:=Ed hs;obtain⟨c1,c2⟩:=Ec hc;have hw:=Bn;obtain⟨σ,hσ⟩:∃σ,ah (eY Zs) (al 1)=σ:=⟨_,rfl⟩
 have e0:decide (σ < 0)=true:=dt (by rw[<-hσ,ax s2];decide)
 have m1:du (al (-1)) (al 1)=some (al (-1),al 1):=lD
 have m7:du (al 0) (al 7)=some (al 0,al 7):=vY
 have HS:=ie hs;have HC:=ie hc;have bA:=ie s1;have V:=ie c1;have W:=ie c2;have HW:=ie hw;have bB:=ie hσ;have X:=ie e0;have Y:=ie m1;have Z:=ie m7;clear s2 hs hc s1 c1 c2 hw hσ e0 m1 m7
 go_enter func5,ntmps5
 have c:=ie (Below.refl w.heap.size w)
 go_wp2_with fail
 refine(qf (n:=0) (r:=0) _ (by decide) (by decide) rfl).mono ?_;rintro j w1 ⟨K1,s1,M1,E1,rfl,L,B⟩;refine aE ?_ hT hT2 c B;clear hT hT2 c B;intro hT hT2 c
 go_wp2_with fail
 refine(Iz hT (xE L) L.top L.rk HS.out).mono ?_;rintro j w2 ⟨e2,K2,s2,M2,E2,s,H,v,o,rfl,v2,B⟩;refine aE ?_ hT hT2 c B;clear hT hT2 c B;intro hT hT2 c
 go_upto_region 2 with fail
 generalize g:w2.alloc _=w3 at *;obtain⟨e,k⟩:=Bo.nw g;clear g;refine aE ?_ hT hT2 c k;clear hT hT2 c k;intro hT hT2 c;clear L
 go_wp2_with fail
 refine(EL (a:= -1) (b:=1) (by decide) (by decide) (by decide) (by decide) rfl rfl Y.out).mono ?_;rintro j w4 ⟨e3,K3,s3,M3,E3,lA,zX,qT,hY,rfl,M,B⟩;refine dk ?_ e hT hT2 c B;clear e hT hT2 c B;intro e hT hT2 c
 go_wp2_with fail
 refine(At hT hT2 M.top.1 M.top.2 M.rk HC.out).mono ?_;rintro j w5 ⟨e4,K4,s4,M4,E4,t,I,y,p,rfl,l,B⟩;refine dk ?_ e hT hT2 c B;clear e hT hT2 c B;intro e hT hT2 c
 go_upto_region 3 with fail
 have hH:=e.lt;generalize g:w5.alloc _=w6 at *;obtain⟨h,k⟩:=Bo.nw g;clear g;refine dk ?_ e hT hT2 c k;clear e hT hT2 c k;intro e hT hT2 c;clear M
 go_wp2_with fail
 refine(EL (a:=0) (b:=7) (by decide) (by decide) (by decide) (by decide) rfl rfl Z.out).mono ?_;rintro j w7 ⟨e5,K5,s5,M5,E5,lB,BX,xX,hZ,rfl,N,B⟩;refine dG ?_ e h hT hT2 c B;clear e h hT hT2 c B;intro e h hT hT2 c
 go_wp2_with fail
 refine(Aw hT hT2 N.top.1 N.top.2 N.rk HW.out).mono ?_;rintro j w8 ⟨e6,K6,s6,M6,E6,gP,hU,hF,U,rfl,v6,B⟩;refine dk ?_ e h hT2 c B;clear e h hT2 c B;intro e h hT2 c
 go_upto_region 4 with fail
 have hI:=e.lt;have hL:=h.lt;generalize g:w8.alloc _=w9 at *;obtain⟨X3,k⟩:=Bo.nw g;clear g;refine dk ?_ e h hT2 c k;clear e h hT2 c k;intro e h hT2 c;clear N;have hV:=e.lt;have hW:=h.lt;have hX:=X3.lt;refine aV [0,1,2,3,4,5,6,7,8,9,10,11,12,13,14,15,16,17,18,19,20,21,22,23,24,25,26] [11,12,13,14,15,16,17,18,19,20,21,22,23,24,25,26,27,28,29,30,31,32,33,34,35,36,1] [[],[],[0,1],[2],[3],[3,4],[3],[3,5,6],[3,7],[3,8],[9],[10],[10],[10,11,12],[10,13],[14],[15],[15],[15,16,17],[15,18],[15,19],[20],[21],[21],[21,22,23],[21,24],[25]] 27 0 [Jo.q9 e2 K2 s2 M2 E2 s H v o,Jo.Fact.num 0,Jo.qb true,Jo.qb true,Jo.q9 e2 K2 s2 M2 E2 s H v o,Jo.Fact.num (eY Zs),Jo.Fact.num (al 1),Jo.qi σ,Jo.qb true,Jo.qb true,Jo.qb true,Jo.q9 e4 K4 s4 M4 E4 t I y p,Jo.Fact.num (al 1),Jo.qb true,Jo.qb true,Jo.qb true,Jo.q9 e4 K4 s4 M4 E4 t I y p,Jo.Fact.num 0,Jo.qb false,Jo.qb true,Jo.qb true,Jo.qb true,Jo.q9 e6 K6 s6 M6 E6 gP hU hF U,Jo.Fact.iv dY,Jo.qb true,Jo.qb true,Jo.qb true] ?_ ?_
 ·refine jm ?_ ?_;rotate_left
  refine jm ?_ ?_
  ·rintro i f K d;go_simp;exact Jo.n1 (qf (n:=0) (r:=0) _ (by decide) (by decide) rfl) d.out
  refine jm ?_ ?_
  ·rintro i f _ rfl _ ⟨bC,hM,gS,O,rfl,A⟩ K d;go_simp;refine(yh v2.top.1 v2.top.2 A.top v2.rk A.rk bA.out).mono ?_;rintro j wk ⟨rfl,B⟩;exact d.out _ _ rfl B
  iterate 2 (refine jm ?_ ?_;rotate_left)
  refine jm ?_ ?_
  ·rintro i f _ rfl _ rfl K d;go_simp;exact Jo.n1 (m8 (hT2.b f) v2.top.1 v2.top.2 v2.rk rfl) d.out
  refine jm ?_ ?_
  ·rintro i f _ rfl K d;go_simp;exact Jo.n1 (qf (n:=1) (r:=(al 1)) _ (by decide) (by decide) rfl) d.out
  refine jm ?_ ?_
  ·rintro i f _ rfl _ ⟨bD,hN,hA,P,rfl,C⟩ _ ⟨bH,hP,hB,Q,rfl,D⟩ K d;go_simp;refine(iR (z:=σ) C.top D.top (by rw[C.rk,D.rk];exact bB.out)).mono ?_;rintro j wk ⟨rfl,B⟩;exact d.out _ _ rfl B
  refine jm ?_ ?_
  ·rintro i f _ rfl _ rfl K d;have ht:=X.out;go_simp
   exact d.out _ _ (by first | rfl | (show Value.bool _=Value.bool _;first | (rw[ht];done) | (simp only[ht];done) | simp_all)) (br _ _)
  iterate 3 (refine jm ?_ ?_;rotate_left)
  refine jm ?_ ?_
  ·rintro i f _ rfl K d;go_simp;exact Jo.n1 (qf (n:=1) (r:=(al 1)) _ (by decide) (by decide) rfl) d.out
  refine jm ?_ ?_
  ·rintro i f _ rfl _ rfl _ ⟨bN,hQ,hC,R,rfl,E⟩ K d;go_simp;refine(yh l.top.1 l.top.2 E.top l.rk E.rk V.out).mono ?_;rintro j wk ⟨rfl,B⟩;exact d.out _ _ rfl B
  iterate 3 (refine jm ?_ ?_;rotate_left)
  refine jm ?_ ?_
  ·rintro i f _ rfl K d;go_simp;exact Jo.n1 (qf (n:=0) (r:=0) _ (by decide) (by decide) rfl) d.out
  refine jm ?_ ?_
  ·rintro i f _ rfl _ rfl _ ⟨gB,hR,hD,S,rfl,F⟩ K d;go_simp;refine(yh l.top.1 l.top.2 F.top l.rk F.rk W.out).mono ?_;rintro j wk ⟨rfl,B⟩;exact d.out _ _ rfl B
  iterate 4 (refine jm ?_ ?_;rotate_left)
  refine jm ?_ ?_
  ·rintro i f _ rfl K d;go_simp;exact Jo.v1 (EL (a:= -1) (b:=1) (x:=dY) (by decide) (by decide) (by decide) (by decide) rfl rfl rfl) d.out
  refine jm ?_ ?_
  ·rintro i f _ rfl _ rfl _ ⟨hG,gO,hS,hE,T,q,G,u,m,rfl,J⟩ K d;simp only[Jo.z]at d|-;obtain⟨rfl,rfl,rfl,rfl,rfl,rfl,rfl,rfl,rfl⟩:=v6.uniq J;go_simp
   exact d.out _ _ (by first | rfl | (show Value.bool _=Value.bool _;simp)) (br _ _)
  iterate 2 (refine jm ?_ ?_;rotate_left)
  exact jo
  all_goals (rintro i f;(repeat rintro _ rfl);intro K d;have DS:=(e.b f).cell;have ET:=(h.b f).cell;have HA:=(X3.b f).cell;go_simp;exact d.out _ _ rfl (br _ _))
 rintro wA f _ rfl _ ⟨bC,hM,gS,O,rfl,_⟩ _ rfl _ rfl _ rfl _ ⟨bD,hN,hA,P,rfl,_⟩ _ ⟨bH,hP,hB,Q,rfl,_⟩ _ rfl _ rfl _ rfl _ rfl _ rfl _ ⟨bN,hQ,hC,R,rfl,_⟩ _ rfl _ rfl _ rfl _ rfl _ ⟨gB,hR,hD,S,rfl,_⟩ _ rfl _ rfl _ rfl _ rfl _ rfl _ ⟨hG,gO,hS,hE,T,q,G,u,m,rfl,J⟩ _ rfl _ rfl _ rfl -;simp only[Jo.z];replace c:=aj c f
 refine jd ?_;go_wp2
 go_ret
 exact⟨rfl,c.out⟩
