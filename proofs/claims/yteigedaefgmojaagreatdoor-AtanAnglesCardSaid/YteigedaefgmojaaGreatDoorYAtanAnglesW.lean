/-
  The walk of AtanAngles: for all arguments the call answers true, and nothing that was there has turned.
-/
import Derived.Test.YteigedaefgmojaaGreatDoorYUbd
namespace Go.Proofs.YteigedaefgmojaaGreatDoor
open Go.Proofs.Tryz
open Go.RowKit
set_option linter.unusedVariables false
set_option linter.unusedSimpArgs false
set_option maxRecDepth 100000
theorem finq_finp{D:Int}{s:Bool}{M E:Int}(hM:LQ M)(h:dc D s M E=true):jF (rk D s M E):=by
 obtain⟨hp,hd⟩:=dw.1 h;have k:=eD hM (of_decide_eq_true hp);generalize rk D s M E=x at k|-
 rcases k.cases with⟨e0,_,_,_,e⟩ | ⟨e0,a,b,c,d,⟨_,e⟩ | ⟨_,e⟩⟩ | ⟨e0,_⟩
 ·subst e;exact⟨by decide,by decide⟩
 ·exact⟨by omega,by omega⟩
 ·exact⟨by omega,by omega⟩
 ·rw[e0]at hd
  cases hd
set_option maxRecDepth 100000 in
set_option maxHeartbeats 16000000 in
theorem atanAngles_main (D0:Int)(s0:Bool)(M0 E0:Int)(D1:Int)(s1:Bool)(M1 E1:Int)(e2:Bool)(D2:Int)(s2:Bool)(M2 E2 G2:Int)(g2:Bool)(P2 Q2:Int)(w:World){q:Bool->Int->Int->Int}(hq:QF q)(hT:dL w)(hT2:Tb w)(u2:LQ M2)(v2:LQ P2){t:Bool}{Z X Y:Sp}(hA:∀w,dL w->Tb w->Calls prog 11 #[.agg #[.int .i64 D0,.bool s0,.int .u64 M0,.int .i64 E0],.agg #[.int .i64 D1,.bool s1,.int .u64 M1,.int .i64 E1]] w (nY w Z t))(hB:∀w,Calls prog 12 #[.agg #[.int .i64 D0,.bool s0,.int .u64 M0,.int .i64 E0],.agg #[.int .i64 D1,.bool s1,.int .u64 M1,.int .i64 E1]] w (nY w Z t))(hX:iJ e2 D2 s2 M2 E2 G2 g2 P2 Q2=X)(hY:tO q X Y):
  Calls prog 4 #[.agg #[.int .i64 D0,.bool s0,.int .u64 M0,.int .i64 E0],.agg #[.int .i64 D1,.bool s1,.int .u64 M1,.int .i64 E1],.agg #[.bool e2,.int .i64 D2,.bool s2,.int .u64 M2,.int .i64 E2,.int .i64 G2,.bool g2,.int .u64 P2,.int .i64 Q2]] w (PB w true):=by
 have T:=ie hq;have HA:=ie hA;have S:=ie hB;have r:=ie hX;have s:=ie hY;clear hq hA hB hX hY
 go_enter func4,ntmps4
 go_upto_region 1 with fail
 generalize F:((w.alloc _).alloc _).alloc _=w1 at *;obtain⟨e,f,c,a⟩:=Bo.en3 F;replace hT:=hT.below a.out;replace hT2:=hT2.below a.out;clear F
 go_wp2_with fail
 refine(Ei T.out hT hT2).mono ?_;rintro ee w2 ⟨rfl,B⟩;refine gv ?_ e f c hT hT2 a B;clear e f c hT hT2 a B;intro e f c hT hT2 a;have j:=e.cell;have k:=f.cell
 go_wp2_with fail
 refine(HA.out _ hT hT2).mono ?_;rintro ee w3 ⟨bN,U,hG,bB,O,u,G,A,m,rfl,hM,B⟩;clear j k;refine gv ?_ e f c hT hT2 a B;clear e f c hT hT2 a B;intro e f c hT hT2 a;have gO:=a.out.size
 go_upto_region 3 with fail
 have gS:=e.lt;have hC:=f.lt;have hD:=c.lt;generalize h:w3.alloc _=w4 at *;obtain⟨i,l⟩:=Bo.nw h;clear h;refine gv ?_ e f c hT hT2 a l;clear e f c hT hT2 a l;intro e f c hT hT2 a;have j:=e.cell;have k:=f.cell
 go_wp2_with fail
 refine(S.out _).mono ?_;rintro ee w5 ⟨fH,V,hH,bC,P,v,H,C,n,rfl,hN,B⟩;clear j k;refine dW ?_ c i hT hT2 a B;clear c i hT hT2 a B;intro c i hT hT2 a;have gP:=a.out.size
 go_upto_region 4 with fail
 have hE:=c.lt;have hF:=i.lt;generalize h:w5.alloc _=w6 at *;obtain⟨XB,l⟩:=Bo.nw h;clear h;refine dW ?_ c i hT hT2 a l;clear c i hT hT2 a l;intro c i hT hT2 a;have hP:=c.lt;have hQ:=i.lt;have hR:=XB.lt;refine bF [0,1,2,3,4,5,6,7,8,9,10,11,12,13,14,15,16,17,18] [26,27,28,29,30,31,32,33,34,35,36,37,38,39,40,41,42,43,7] [[],[0],[1],[1],[1,2,3],[1,4],[5],[6],[6],[6,7,8],[6,9],[10],[11],[11,12],[11],[11,14],[11,13,15],[11,16],[17]] 19 0 [Jo.qb true,Jo.qb true,Jo.q9 bN U hG bB O u G A m,Jo.q9 fH V hH bC P v H C n,Jo.qb true,Jo.qb true,Jo.qb true,Jo.qb t,Jo.qb t,Jo.qb true,Jo.qb true,Jo.qb true,Jo.q9 e2 D2 s2 M2 E2 G2 g2 P2 Q2,Jo.Fact.iv Y,Jo.q9 e2 D2 s2 M2 E2 G2 g2 P2 Q2,Jo.Fact.iv Y,Jo.qb true,Jo.qb true,Jo.qb true] ?_ ?_
 ·iterate 4 (refine jm ?_ ?_;rotate_left)
  refine jm ?_ ?_
  ·rintro N g _ rfl _ rfl _ rfl K d;simp only[Jo.z]at d|-;obtain⟨rfl,rfl,rfl,rfl,rfl,rfl,rfl,rfl,rfl⟩:=hM.uniq hN;go_simp
   exact d.out _ _ (by first | rfl | (show Value.bool _=Value.bool _;simp)) (br _ _)
  iterate 4 (refine jm ?_ ?_;rotate_left)
  refine jm ?_ ?_
  ·rintro N g _ rfl _ rfl _ rfl K d;go_simp
   exact d.out _ _ (by first | rfl | (show Value.bool _=Value.bool _;simp)) (br _ _)
  iterate 3 (refine jm ?_ ?_;rotate_left)
  refine jm ?_ ?_
  ·rintro N g _ rfl _ rfl K d;go_simp;exact Jo.v1 (KB T.out (hT.b g) (hT2.b g) u2 v2 r.out s.out) d.out
  refine jm ?_ ?_;rotate_left
  refine jm ?_ ?_
  ·rintro N g _ rfl _ rfl K d;go_simp;exact Jo.v1 (JB T.out u2 v2 r.out s.out) d.out
  refine jm ?_ ?_
  ·rintro N g _ rfl _ ⟨fP,W,hI,bD,Q,x,I,D,o,rfl,L⟩ _ ⟨gB,bA,hL,bH,R,y,J,E,p,rfl,M⟩ K d;simp only[Jo.z]at d|-;obtain⟨rfl,rfl,rfl,rfl,rfl,rfl,rfl,rfl,rfl⟩:=L.uniq M;go_simp
   exact d.out _ _ (by first | rfl | (show Value.bool _=Value.bool _;simp)) (br _ _)
  iterate 2 (refine jm ?_ ?_;rotate_left)
  exact jo
  all_goals (rintro N g;(repeat rintro _ rfl);intro K d;have hU:=(i.b g).cell;have hV:=(XB.b g).cell;have hS:=(c.b g).cell;go_simp;exact d.out _ _ rfl (br _ _))
 rintro w7 g _ rfl _ rfl _ rfl _ rfl _ rfl _ rfl _ rfl _ rfl _ rfl _ rfl _ rfl _ rfl _ rfl _ ⟨fP,W,hI,bD,Q,x,I,D,o,rfl,L⟩ _ rfl _ ⟨gB,bA,hL,bH,R,y,J,E,p,rfl,M⟩ _ rfl _ rfl _ rfl -;simp only[Jo.z];replace a:=ak a g;refine jd ?_;go_wp2
 go_ret
 exact⟨rfl,a.out⟩
theorem atanAngles_walk (D0:Int)(s0:Bool)(M0 E0:Int)(D1:Int)(s1:Bool)(M1 E1:Int)(e2:Bool)(D2:Int)(s2:Bool)(M2 E2 G2:Int)(g2:Bool)(P2 Q2:Int)(w:World)(hT:dL w)(hT2:Tb w)(w0:0<=M0)(u0:LQ M0)(w1:0<=M1)(u1:LQ M1)(u2:LQ M2)(v2:LQ P2):
  Calls prog 4 #[VQ D0 s0 M0 E0,VQ D1 s1 M1 E1,VI e2 D2 s2 M2 E2 G2 g2 P2 Q2] w fun e w'=>e= .returned (.bool true)/\Below w.heap.size w w':=by
 delta VI VQ
 obtain⟨q,hq⟩:=JU;obtain⟨Y,hY⟩:=Eh q (iJ e2 D2 s2 M2 E2 G2 g2 P2 Q2)
 cases hf:(dc D0 s0 M0 E0 && dc D1 s1 M1 E1)
 ·exact atanAngles_main D0 s0 M0 E0 D1 s1 M1 E1 e2 D2 s2 M2 E2 G2 g2 P2 Q2 w hq hT hT2 u2 v2 (fun w a b=>rZ a b u0 u1 rfl rfl hf) (fun w=>xK hf) rfl hY
 ·by_cases c:rk D0 s0 M0 E0=0/\rk D1 s1 M1 E1=0
  ·exact atanAngles_main D0 s0 M0 E0 D1 s1 M1 E1 e2 D2 s2 M2 E2 G2 g2 P2 Q2 w hq hT hT2 u2 v2 (fun w a b=>oR a b u0 u1 rfl rfl hf c.1 c.2) (fun w=>qP u0 u1 rfl rfl hf c.1 c.2) rfl hY
  ·obtain⟨Z,d⟩:=tY q (rk D0 s0 M0 E0) (rk D1 s1 M1 E1);have g:=hf;rw[Bool.and_eq_true]at g
   exact atanAngles_main D0 s0 M0 E0 D1 s1 M1 E1 e2 D2 s2 M2 E2 G2 g2 P2 Q2 w hq hT hT2 u2 v2 (fun w a b=>tZ hq a b u0 u1 rfl rfl hf c (finq_finp u0 g.1) (finq_finp u1 g.2) d) (fun w=>Hv hq u0 u1 rfl rfl hf c d) rfl hY
