/-
  The walk of AtanPoints: for all arguments the call answers true, and nothing that was there has turned.
-/
import Derived.Test.YtomikokonmikgaaGreatDoorYTbe
namespace Go.Proofs.YtomikokonmikgaaGreatDoor
open Go.Proofs.Tryz
set_option maxHeartbeats 16000000
open Go.RowKit
set_option linter.unusedVariables false
set_option linter.unusedSimpArgs false
set_option maxRecDepth 100000
set_option maxRecDepth 100000 in
theorem atanPoints_far (D0:Int)(s0:Bool)(M0 E0:Int)(s1:Bool)(a1:Option Addr)(len1 cap1:Nat)(w:World){q:Bool->Int->Int->Int}(hq:QF q)(hT:dQ w)(hT2:Tb w)(hf:20 < len1):
  Calls prog 5 #[VQ D0 s0 M0 E0,.agg #[.bool s1,.slice a1 len1 cap1]] w (PB w true):=by
 delta VQ
 have e:=ie hq;clear hq
 go_enter func5,ntmps5
 go_upto_region 1 with (fail)
 generalize c:(w.alloc _).alloc _=w1 at *;obtain⟨g,d,a⟩:=Bo.en2 c;replace hT:=hT.below a.out;replace hT2:=hT2.below a.out;clear c
 go_wp2_with fail
 refine(tr e.out hT hT2).mono ?_;rintro h i ⟨rfl,B⟩;replace d:=d.b B;replace a:=aa a B;clear B;clear hT hT2;have f:=d.cell;go_wp2
 go_ret
 exact⟨rfl,a.out⟩
set_option maxRecDepth 100000 in
theorem atanPoints_main (D0:Int)(s0:Bool)(M0 E0:Int)(s1:Bool)(a1:Option Addr)(len1 cap1:Nat)(w:World){q:Bool->Int->Int->Int}(hq:QF q)(hT:dQ w)(hT2:Tb w)(w0:0<=M0)(u0:LQ M0)(x y r:Int)(Z:Sp)(hx:rk D0 s0 M0 E0=x)(hz:jM q x Z)(h1:Wr w s1 a1 len1 cap1 y)(l1:len1<=20)(hr:nu y=r):
  Calls prog 5 #[VQ D0 s0 M0 E0,.agg #[.bool s1,.slice a1 len1 cap1]] w (PB w true):=by
 delta VQ
 have t1:¬(20:Int) < len1:=by omega
 have I:=ie hq;have X:=ie hx;have Y:=ie hz;have W:=ie hr;clear hq hx hz hr
 go_enter func5,ntmps5
 go_upto_region 1 with (fail)
 generalize t:(w.alloc _).alloc _=w1 at *;obtain⟨j,s,d⟩:=Bo.en2 t;replace hT:=hT.below d.out;replace hT2:=hT2.below d.out;replace h1:=h1.below d.out;clear t
 go_wp2_with fail
 refine(tr I.out hT hT2).mono ?_;rintro ee w2 ⟨rfl,B⟩;replace j:=j.b B;replace s:=s.b B;replace hT:=hT.b B;replace hT2:=hT2.b B;replace h1:=h1.b B;replace d:=aa d B;clear B;have D:=s.cell
 go_upto_region 4 with (fail)
 clear t1;clear D;have bA:=j.lt;have bB:=s.lt;refine jk [0,1,2,3,4,5] [some 17,some 18,some 19,some 20,some 21,some 6] [[],[0],[],[2],[1,3],[4]] 6 0 [Jo.Fact.eq (.agg #[.bool s1,.slice a1 len1 cap1]),Jo.Fact.wn (r) (2300),Jo.Fact.eq (.agg #[.bool s1,.slice a1 len1 cap1]),Jo.Fact.wn (r) (2300),Jo.qb true,Jo.qb true] ?_ ?_
 ·refine jm ?_ ?_;rotate_left
  refine jm ?_ ?_
  ·rintro i c _ rfl K a;simp only[Jo.z]at a|-;go_simp;exact Jo.w1 (Fr (h1.b c) (by omega) W.out) a.out
  refine jm ?_ ?_;rotate_left
  refine jm ?_ ?_
  ·rintro i c _ rfl K a;simp only[Jo.z]at a|-;go_simp;exact Jo.w1 (rT (h1.b c) (by omega) W.out) a.out
  refine jm ?_ ?_
  ·rintro i c _ ⟨g,E,U,O,rfl,e,S⟩ _ ⟨h,F,V,P,rfl,f,T⟩ K a;simp only[Jo.z]at a|-;go_simp;refine(He e f).mono ?_;rintro ee wk ⟨rfl,B⟩;exact a.out _ _ rfl B
  refine jm ?_ ?_;rotate_left
  exact jo
  all_goals (rintro i c;(repeat rintro _ rfl);intro K a;simp only[Jo.z]at a|-;have D:=(s.b c).cell;go_simp;exact a.out _ _ rfl (br _ _))
 rintro w3 c _ rfl _ ⟨g,E,U,O,rfl,e,S⟩ _ rfl _ ⟨h,F,V,P,rfl,f,T⟩ _ rfl _ rfl -;simp only[Jo.z];replace j:=j.b c;replace hT:=hT.b c;replace hT2:=hT2.b c;replace d:=aa d c;refine jd ?_;clear e f h1
 go_upto_region 5 with (fail)
 refine jk [0,1,2,3,4,5,6,7,8] [some 22,some 23,some 24,some 25,some 26,some 27,some 28,some 29,some 4] [[],[0],[1],[1,2],[1],[1,4],[1,3,5],[1,6],[7]] 9 0 [Jo.qb true,Jo.qb true,Jo.q4 D0 s0 M0 E0,Jo.Fact.iv Z,Jo.q4 D0 s0 M0 E0,Jo.Fact.iv Z,Jo.qb true,Jo.qb true,Jo.qb true] ?_ ?_
 ·iterate 3 (refine jm ?_ ?_;rotate_left)
  refine jm ?_ ?_
  ·rintro i c _ rfl _ rfl K a;simp only[Jo.z]at a|-;go_simp;exact Jo.v1 (lR I.out (hT.b c) (hT2.b c) w0 u0 X.out Y.out) a.out
  refine jm ?_ ?_;rotate_left
  refine jm ?_ ?_
  ·rintro i c _ rfl _ rfl K a;simp only[Jo.z]at a|-;go_simp;exact Jo.v1 (IU I.out u0 X.out Y.out) a.out
  refine jm ?_ ?_
  ·rintro i c _ rfl _ ⟨Q,J,g,M,G,m,u,o,k,rfl,A⟩ _ ⟨R,L,h,N,H,n,v,p,l,rfl,C⟩ K a;simp only[Jo.z]at a|-;obtain⟨rfl,rfl,rfl,rfl,rfl,rfl,rfl,rfl,rfl⟩:=A.uniq C;go_simp
   exact a.out _ _ (by first | rfl | (show Value.bool _=Value.bool _;simp)) (br _ _)
  iterate 2 (refine jm ?_ ?_;rotate_left)
  exact jo
  all_goals (rintro i c;(repeat rintro _ rfl);intro K a;simp only[Jo.z]at a|-;have bC:=(j.b c).cell;go_simp;exact a.out _ _ rfl (br _ _))
 rintro w4 c _ rfl _ rfl _ rfl _ ⟨Q,J,g,M,G,m,u,o,k,rfl,A⟩ _ rfl _ ⟨R,L,h,N,H,n,v,p,l,rfl,C⟩ _ rfl _ rfl _ rfl -;simp only[Jo.z];replace d:=aa d c;refine jd ?_;go_wp2
 go_ret
 exact⟨rfl,d.out⟩
theorem atanPoints_walk (D0:Int)(s0:Bool)(M0 E0:Int)(s1:Bool)(a1:Option Addr)(len1 cap1:Nat)(y1:List Int)(w:World)(hT:dQ w)(hT2:Tb w)(w0:0<=M0)(u0:LQ M0)(w1:nD w a1 len1 cap1 y1):
  Calls prog 5 #[VQ D0 s0 M0 E0,.agg #[.bool s1,.slice a1 len1 cap1]] w fun e w'=>e= .returned (.bool true)/\Below w.heap.size w w':=by
 delta VQ
 obtain⟨q,hq⟩:=Je
 by_cases a:len1<=20
 ·obtain⟨c,b⟩:=w1.rd (by omega);obtain⟨Z,hz⟩:=ow q (rk D0 s0 M0 E0);exact atanPoints_main D0 s0 M0 E0 s1 a1 len1 cap1 w hq hT hT2 w0 u0 _ _ _ Z rfl hz (b.wr s1) a rfl
 ·exact atanPoints_far D0 s0 M0 E0 s1 a1 len1 cap1 w hq hT hT2 (by omega)
