/-
  The walk of AtanTurns: for all arguments the call answers true, and nothing that was there has turned.
-/
import Derived.Test.YtomikokonmikgaaGreatDoorYBas
namespace Go.Proofs.YtomikokonmikgaaGreatDoor
set_option maxHeartbeats 16000000
open Go.RowKit
set_option linter.unusedVariables false
set_option linter.unusedSimpArgs false
set_option maxRecDepth 100000
theorem opl_noughtT{n:Int}(h1: -9223372036854775808<=n)(h2:n<=9223372036854775807)(h:opl n=0):n=0:=by
 have e:=opl_vr h1 h2;rw[h]at e
 have p:(2:Int)^KK≠0:=Int.ne_of_gt (Int.pow_pos (by decide))
 rcases Int.mul_eq_zero.1 (e.symm.trans (show vr 0=0 from rfl))with h | h
 ·exact h
 ·exact absurd h p
set_option maxRecDepth 100000 in
theorem atanTurns_no (n0:Int)(n1:Int)(n2:Int)(w:World){q:Bool->Int->Int->Int}(hq:QF q)(hT:Tab w)(hT2:Tb w)(h:n0 < -2147483648\/2147483648 < n0\/n1 < -2147483648\/2147483648 < n1\/n2 < 1\/1048576 < n2\/(n0=0/\n1=0)):
  Calls Tryz.prog 10 #[.int .i64 n0,.int .i64 n1,.int .i64 n2] w (PB w true):=by
 have HQ:=ie hq;have HH:=ie h;clear hq h
 go_enter Tryz.func10,Tryz.ntmps10
 have HB:=ie (Below.refl w.heap.size w)
 go_wp2_with fail
 refine(awake13 HQ.out hT hT2).mono ?_;rintro ee w2 ⟨rfl,B⟩;replace HB:=Hqb HB B;clear B
 by_cases c0:n0 < -2147483648
 ·have e0:decide (n0 < -2147483648)=true:=dt c0
  go_wp2
  go_ret
  exact⟨rfl,HB.out⟩
 ·have e0:decide (n0 < -2147483648)=false:=df c0
  by_cases c1:2147483648 < n0
  ·have e1:decide (2147483648 < n0)=true:=dt c1
   go_wp2
   go_ret
   exact⟨rfl,HB.out⟩
  ·have e1:decide (2147483648 < n0)=false:=df c1
   by_cases c2:n1 < -2147483648
   ·have e2:decide (n1 < -2147483648)=true:=dt c2
    go_wp2
    go_ret
    exact⟨rfl,HB.out⟩
   ·have e2:decide (n1 < -2147483648)=false:=df c2
    by_cases c3:2147483648 < n1
    ·have e3:decide (2147483648 < n1)=true:=dt c3
     go_wp2
     go_ret
     exact⟨rfl,HB.out⟩
    ·have e3:decide (2147483648 < n1)=false:=df c3
     by_cases c4:n2 < 1
     ·have e4:decide (n2 < 1)=true:=dt c4
      go_wp2
      go_ret
      exact⟨rfl,HB.out⟩
     ·have e4:decide (n2 < 1)=false:=df c4
      by_cases c5:1048576 < n2
      ·have e5:decide (1048576 < n2)=true:=dt c5
       go_wp2
       go_ret
       exact⟨rfl,HB.out⟩
      ·have e5:decide (1048576 < n2)=false:=df c5
       have z:n0=0/\n1=0:=by have:=HH.out;omega
       have e7:(n0==0)=true:=by rw[z.1];rfl
       have e8:(n1==0)=true:=by rw[z.2];rfl
       clear z c0 c1 c2 c3 c4 c5;go_wp2
       go_ret
       exact⟨rfl,HB.out⟩
set_option maxRecDepth 100000 in
theorem atanTurns_main (n0:Int)(n1:Int)(n2:Int)(w:World){q:Bool->Int->Int->Int}(hq:QF q)(hT:Tab w)(hT2:Tb w)(e0:decide (n0 < -2147483648)=false)(e1:decide (2147483648 < n0)=false)(e2:decide (n1 < -2147483648)=false)(e3:decide (2147483648 < n1)=false)(e4:decide (n2 < 1)=false)(e5:decide (1048576 < n2)=false)(h0:¬(n0=0/\n1=0))(r0: -2147483648<=n0/\n0<=2147483648)(r1: -2147483648<=n1/\n1<=2147483648)(p0: -9223372036854775808<=n0*n2/\n0*n2<=9223372036854775807)(p1: -9223372036854775808<=n1*n2/\n1*n2<=9223372036854775807)
  (z0:¬(opl n0=0/\opl n1=0)) (z1:¬(opl (n0*n2)=0/\opl (n1*n2)=0)) (z2:¬(opl (-n0)=0/\opl (-n1)=0)) {A B C:Sp} {a b c d:Int} (hA:AngV q (opl n0) (opl n1) A) (hB:AngV q (opl (n0*n2)) (opl (n1*n2)) B) (hC:AngV q (opl (-n0)) (opl (-n1)) C) (h1:meetL [A,B]=some (a,b)) (h2:meetL [(absI (subI A C)),(infI (some (PIL,PIL+1)) p60)]=some (c,d)):
  Calls Tryz.prog 10 #[.int .i64 n0,.int .i64 n1,.int .i64 n2] w (PB w true):=by
 have W1:Hid (IntKind.i64.wrap (n0*n2)=n0*n2):=ie (IntWalk.i64_in _ p0)
 have W2:Hid (IntKind.i64.wrap (n1*n2)=n1*n2):=ie (IntWalk.i64_in _ p1)
 have W3:=iw (-n0);have W4:=iw (-n1);have HQ:=ie hq;have HA:=ie hA;have HBB:=ie hB;have HC:=ie hC;have H1:=ie h1;have H2:=ie h2;have Z0:=ie z0;have Z1:=ie z1;have Z2:=ie z2;have H0:=ie h0;clear hq hA hB hC h1 h2 z0 z1 z2 h0
 go_enter Tryz.func10,Tryz.ntmps10
 have HB:=ie (Below.refl w.heap.size w)
 go_wp2_with fail
 refine(awake13 HQ.out hT hT2).mono ?_;rintro ee w2 ⟨rfl,B⟩;replace hT:=hT.b B;replace hT2:=hT2.b B;replace HB:=Hqb HB B;clear B
 go_upto_region 2 with (fail)
 go_cut [47] (fun v wx=>v= .bool false/\Tab wx/\Tb wx/\Below w.heap.size w wx)
 case first=>
  by_cases cz:n0=0
  ·have e7:(n0==0)=true:=by rw[cz];rfl
   have e8:(n1==0)=false:=by
    have:=H0.out
    simp only[beq_eq_false_iff_ne]
    omega
   clear cz
   go_wp2_with fail
   go_meet
   exact⟨rfl,hT,hT2,HB.out⟩
  ·have e7:(n0==0)=false:=by simp only[beq_eq_false_iff_ne];exact cz
   clear cz
   go_wp2_with fail
   go_meet
   exact⟨rfl,hT,hT2,HB.out⟩
 case rest=>
  clear hT hT2 HB H0 e0 e1 e2 e3 e4 e5;obtain⟨rfl,hT,hT2,hB⟩:=hcut;have HB:=ie hB;clear hB
  have s0: -9223372036854775808<= -n0/\ -n0<=9223372036854775807:=by omega
  have s1: -9223372036854775808<= -n1/\ -n1<=9223372036854775807:=by omega
  have i0: -9223372036854775808<=n0/\n0<=9223372036854775807:=by omega
  have i1: -9223372036854775808<=n1/\n1<=9223372036854775807:=by omega
  go_wp2_with fail
  refine(nOf (n:=n0) (r:=opl n0) _ i0.1 i0.2 rfl).mono ?_;rintro ee wd1 ⟨K21,s21,M21,E21,rfl,q21,B⟩;replace hT:=hT.b B;replace hT2:=hT2.b B;replace HB:=Hqb HB B;clear B
  go_wp2_with fail
  refine(nOf (n:=n1) (r:=opl n1) _ i1.1 i1.2 rfl).mono ?_;rintro ee wd2 ⟨K22,s22,M22,E22,rfl,q22,B⟩;replace hT:=hT.b B;replace hT2:=hT2.b B;replace HB:=Hqb HB B;clear B
  go_wp2_with fail
  refine(atAngle HQ.out hT hT2 q21.top q22.top q21.rk q22.rk (finq_two q21 q22 opl_finA opl_finA) Z0.out opl_finA opl_finA HA.out).mono ?_;rintro ee wd3 ⟨e20,K20,s20,M20,E20,K20b,s20b,M20b,E20b,rfl,v20,B⟩;replace hT:=hT.b B;replace hT2:=hT2.b B;replace HB:=Hqb HB B;clear B;have hsz20:=HB.out.size
  go_upto_region 5 with (fail)
  generalize hWn:wd3.alloc _=wd4 at *;obtain⟨XA,BW⟩:=Bo.nw hWn;clear hWn;replace hT:=hT.b BW;replace hT2:=hT2.b BW;replace HB:=Hqb HB BW;clear BW;clear q21 q22;have hw1:=W1.out;have hw2:=W2.out
  go_wp2_with fail
  refine(nOf (n:=(n0*n2)) (r:=opl (n0*n2)) _ p0.1 p0.2 rfl).mono ?_;rintro ee we1 ⟨K31,s31,M31,E31,rfl,q31,B⟩;replace XA:=XA.b B;replace hT:=hT.b B;replace hT2:=hT2.b B;replace HB:=Hqb HB B;clear B
  go_wp2_with fail
  refine(nOf (n:=(n1*n2)) (r:=opl (n1*n2)) _ p1.1 p1.2 rfl).mono ?_;rintro ee we2 ⟨K32,s32,M32,E32,rfl,q32,B⟩;replace XA:=XA.b B;replace hT:=hT.b B;replace hT2:=hT2.b B;replace HB:=Hqb HB B;clear B;clear hw1 hw2
  go_wp2_with fail
  refine(atAngle HQ.out hT hT2 q31.top q32.top q31.rk q32.rk (finq_two q31 q32 opl_finA opl_finA) Z1.out opl_finA opl_finA HBB.out).mono ?_;rintro ee we3 ⟨e30,K30,s30,M30,E30,K30b,s30b,M30b,E30b,rfl,v30,B⟩;replace XA:=XA.b B;replace hT:=hT.b B;replace hT2:=hT2.b B;replace HB:=Hqb HB B;clear B;have hsz30:=HB.out.size
  go_upto_region 6 with (fail)
  have nXBXA:=XA.lt;generalize hWn:we3.alloc _=we4 at *;obtain⟨XB,BW⟩:=Bo.nw hWn;clear hWn;replace XA:=XA.b BW;replace hT:=hT.b BW;replace hT2:=hT2.b BW;replace HB:=Hqb HB BW;clear BW;clear q31 q32;have hw3:=W3.out;have hw4:=W4.out
  go_wp2_with fail
  refine(nOf (n:=(-n0)) (r:=opl (-n0)) _ s0.1 s0.2 rfl).mono ?_;rintro ee wf1 ⟨K41,s41,M41,E41,rfl,q41,B⟩;replace XA:=XA.b B;replace XB:=XB.b B;replace hT:=hT.b B;replace hT2:=hT2.b B;replace HB:=Hqb HB B;clear B
  go_wp2_with fail
  refine(nOf (n:=(-n1)) (r:=opl (-n1)) _ s1.1 s1.2 rfl).mono ?_;rintro ee wf2 ⟨K42,s42,M42,E42,rfl,q42,B⟩;replace XA:=XA.b B;replace XB:=XB.b B;replace hT:=hT.b B;replace hT2:=hT2.b B;replace HB:=Hqb HB B;clear B;clear hw3 hw4
  go_wp2_with fail
  refine(atAngle HQ.out hT hT2 q41.top q42.top q41.rk q42.rk (finq_two q41 q42 opl_finA opl_finA) Z2.out opl_finA opl_finA HC.out).mono ?_;rintro ee wf3 ⟨e40,K40,s40,M40,E40,K40b,s40b,M40b,E40b,rfl,v40,B⟩;replace XA:=XA.b B;replace XB:=XB.b B;replace hT:=hT.b B;replace hT2:=hT2.b B;replace HB:=Hqb HB B;clear B;have hsz40:=HB.out.size
  go_upto_region 7 with (fail)
  have nXCXA:=XA.lt;have nXCXB:=XB.lt;generalize hWn:wf3.alloc _=wf4 at *;obtain⟨XC,BW⟩:=Bo.nw hWn;clear hWn;replace XA:=XA.b BW;replace XB:=XB.b BW;replace hT:=hT.b BW;replace hT2:=hT2.b BW;replace HB:=Hqb HB BW;clear BW;clear q41 q42;clear W1 W2 W3 W4 s0 s1 i0 i1 p0 p1 r0 r1;have xXA:=XA.cell
  have xXB:=XB.cell
  go_wp2_with fail
  refine(kvMeet (Il8.lit2 rfl v20.rw v30.rw) H1.out).mono ?_;rintro ee wg1 ⟨e50,K50,s50,M50,E50,K50b,s50b,M50b,E50b,rfl,v50,B⟩;clear xXA xXB;replace B:=bt (bel1 _ _) B;replace XA:=XA.b B;replace XC:=XC.b B;replace hT:=hT.b B;replace hT2:=hT2.b B;replace HB:=Hqb HB B
  clear B;have hsz50:=HB.out.size
  go_upto_region 8 with (fail)
  have nXMXA:=XA.lt;have nXMXC:=XC.lt;generalize hWn:wg1.alloc _=wg2 at *;obtain⟨XM,BW⟩:=Bo.nw hWn;clear hWn;replace XA:=XA.b BW;replace XC:=XC.b BW;replace hT:=hT.b BW;replace hT2:=hT2.b BW;replace HB:=Hqb HB BW;clear BW;clear v30 XB
  obtain rfl:e50=false:=v50.1
  have xXA:=XA.cell;have xXC:=XC.cell
  go_wp2_with fail
  refine(fkSub hT2 v20.top.1 v20.top.2 v40.top.1 v40.top.2 v20.rk v40.rk rfl).mono ?_;rintro ee wh1 ⟨e51,K51,s51,M51,E51,K51b,s51b,M51b,E51b,rfl,v51,B⟩;clear xXA xXC;replace XM:=XM.b B;replace hT:=hT.b B;replace hT2:=hT2.b B;replace HB:=Hqb HB B;clear B
  go_wp2_with fail
  refine(fkAbs v51.top.1 v51.top.2 v51.rk rfl).mono ?_;rintro ee wh2 ⟨e52,K52,s52,M52,E52,K52b,s52b,M52b,E52b,rfl,v52,B⟩;replace XM:=XM.b B;replace hT:=hT.b B;replace hT2:=hT2.b B;replace HB:=Hqb HB B;clear B;have hsz52:=HB.out.size
  go_upto_region 9 with (fail)
  have nXDXM:=XM.lt;generalize hWn:wh2.alloc _=wh3 at *;obtain⟨XD,BW⟩:=Bo.nw hWn;clear hWn;replace XM:=XM.b BW;replace hT:=hT.b BW;replace hT2:=hT2.b BW;replace HB:=Hqb HB BW;clear BW;clear v20 v40 v51 XA XC;have ltXM:=XM.lt;have ltXD:=XD.lt;refine jk [0,1,2,3,4,5,6] [some 87,some 88,some 89,some 90,some 91,some 92,some 16,none] [[],[],[],[1,2],[0,3],[4],[],[]] 8 1 [Jo.q9 e52 K52 s52 M52 E52 K52b s52b M52b E52b,Jo.Fact.iv (some (PIL,PIL+1)),Jo.Fact.num p60,Jo.Fact.iv (infI (some (PIL,PIL+1)) p60),Jo.Fact.il8 2 [(absI (subI A C)),(infI (some (PIL,PIL+1)) p60)],Jo.Fact.iv (some (c,d)),Jo.Fact.bo wh3.heap.size #[.bool false,.int .i64 0,.bool false,.int .u64 0,.int .i64 0,.int .i64 0,.bool false,.int .u64 0,.int .i64 0] 32,Jo.Fact.any] ?_ ?_
  ·refine jm ?_ ?_
   ·rintro wj hJ K hK;simp only[Jo.z]at hK|-;have xXD:=(XD.b hJ).cell;go_simp;exact hK.out _ _ rfl (br _ _)
   refine jm ?_ ?_
   ·rintro wj hJ K hK;simp only[Jo.z]at hK|-;go_simp;exact Jo.v1 (cPi (hT.b hJ)) hK.out
   refine jm ?_ ?_
   ·rintro wj hJ K hK;simp only[Jo.z]at hK|-;go_simp;exact Jo.n1 (aSmall) hK.out
   refine jm ?_ ?_
   ·rintro wj hJ _ ⟨e60,K60,s60,M60,E60,K60b,s60b,M60b,E60b,rfl,v60⟩ _ ⟨K61,s61,M61,E61,rfl,q61⟩ K hK;simp only[Jo.z]at hK|-;go_simp;exact Jo.v1 (kvInflate (hT2.b hJ) v60.top.1 v60.top.2 q61.top v60.rk q61.rk rfl) hK.out
   refine jm ?_ ?_
   ·rintro wj hJ _ rfl _ ⟨e62,K62,s62,M62,E62,K62b,s62b,M62b,E62b,rfl,v62⟩ K hK;simp only[Jo.z]at hK|-;go_simp;exact hK.out _ _ ⟨_,2,rfl,Il8.lit2 rfl v52.rw v62.rw⟩ (bel1 _ _)
   refine jm ?_ ?_
   ·rintro wj hJ _ ⟨A65,c65,rfl,h65⟩ K hK;simp only[Jo.z]at hK|-;go_simp;exact Jo.v1 (kvMeet h65 H2.out) hK.out
   refine jm ?_ ?_
   ·rintro wj hJ K hK;simp only[Jo.z]at hK|-;go_simp;exact hK.out _ _ ⟨_,rfl,hJ.size,Bo.new _ _ _⟩ (bel1 _ _)
   exact jo
  rintro wi1 hJ _ rfl _ ⟨e60,K60,s60,M60,E60,K60b,s60b,M60b,E60b,rfl,v60⟩ _ ⟨K61,s61,M61,E61,rfl,_⟩ _ ⟨e62,K62,s62,M62,E62,K62b,s62b,M62b,E62b,rfl,v62⟩ _ ⟨_,_,rfl,_⟩ _ ⟨e63,K63,s63,M63,E63,K63b,s63b,M63b,E63b,rfl,v63⟩ _ ⟨g10,rfl,hg10,X10⟩ -;simp only[Jo.z];replace XM:=XM.b hJ;replace HB:=Hqb HB hJ;have xX10:=X10.cell
  have zX100:=X10.frozen
  refine jn 7 fun K hK=>?_
  go_simp;refine hK.out _ _ ?_;clear hK K xX10 zX100;generalize hS:((((((((wi1.setCell _ _).setCell _ _).setCell _ _).setCell _ _).setCell _ _).setCell _ _).setCell _ _).setCell _ _).setCell _ _=wi2 at *;have SX:=StN.of9 X10 hS;replace XM:=XM.s SX;replace HB:=Hqs HB SX (by omega);replace X10:=SX.box;clear SX hS
  refine jd ?_;clear v60 v62
  obtain rfl:e63=false:=v63.1
  have xXM:=XM.cell;have xX10:=X10.cell;go_wp2
  go_ret
  exact⟨rfl,HB.out⟩
theorem atanTurns_walk (n0:Int)(n1:Int)(n2:Int)(w:World)(hT:Tab w)(hT2:Tb w)(w0:(Lit.int .i64 n0).wf=true)(w1:(Lit.int .i64 n1).wf=true)(w2:(Lit.int .i64 n2).wf=true):
  Calls Tryz.prog 10 #[.int .i64 n0,.int .i64 n1,.int .i64 n2] w fun e w'=>e= .returned (.bool true)/\Below w.heap.size w w':=by
 obtain⟨q,hq⟩:=qf_ex
 have i0: -9223372036854775808<=n0/\n0<=9223372036854775807:=by simpa [Lit.wf,IntKind.min,IntKind.max,IntKind.signed,IntKind.bits]using w0
 by_cases h:n0 < -2147483648\/2147483648 < n0\/n1 < -2147483648\/2147483648 < n1\/n2 < 1\/1048576 < n2\/(n0=0/\n1=0)
 ·exact atanTurns_no n0 n1 n2 w hq hT hT2 h
 ·obtain⟨A,hA⟩:=angv_ex q (opl n0) (opl n1);obtain⟨B,hB⟩:=angv_ex q (opl (n0*n2)) (opl (n1*n2));obtain⟨C,hC⟩:=angv_ex q (opl (-n0)) (opl (-n1))
  have r0: -2147483648<=n0/\n0<=2147483648:=by omega
  have r1: -2147483648<=n1/\n1<=2147483648:=by omega
  have r2:1<=n2/\n2<=1048576:=by omega
  have nz:¬(n0=0/\n1=0):=by omega
  have bd:∀x:Int,-2147483648<=x->x<=2147483648-> -9223372036854775808<=x*n2/\x*n2<=9223372036854775807:=fun x a b=>by
   have a1:(-2147483648)*n2<=x*n2:=Int.mul_le_mul_of_nonneg_right a (by omega)
   have a2:x*n2<=2147483648*n2:=Int.mul_le_mul_of_nonneg_right b (by omega)
   omega
  have p0:=bd n0 r0.1 r0.2;have p1:=bd n1 r1.1 r1.2
  have z0:¬(opl n0=0/\opl n1=0):=fun e=>nz ⟨opl_noughtT (by omega) (by omega) e.1,opl_noughtT (by omega) (by omega) e.2⟩
  have nn:∀x:Int,x*n2=0->x=0:=fun x e=>(Int.mul_eq_zero.1 e).resolve_right (by omega)
  have z1:¬(opl (n0*n2)=0/\opl (n1*n2)=0):=fun e=>nz ⟨nn _ (opl_noughtT p0.1 p0.2 e.1),nn _ (opl_noughtT p1.1 p1.2 e.2)⟩
  have z2:¬(opl (-n0)=0/\opl (-n1)=0):=fun e=>z0 ⟨by have:=e.1;rw[opl_neg]at this;omega,by have:=e.2;rw[opl_neg]at this;omega⟩
  have eAB:A=B:=ang_times hq (m:=n2) (by omega) opl_finA opl_finA opl_finA opl_finA (by rw[opl_vr p0.1 p0.2,opl_vr (by omega) (by omega),Int.mul_comm n0 n2,Int.mul_assoc]) (by rw[opl_vr p1.1 p1.2,opl_vr (by omega) (by omega),Int.mul_comm n1 n2,Int.mul_assoc]) hA hB
  subst eAB
  have oA:SpOk A:=((hA.in8 hq).fin four_bd.2.2.1).ok
  have oC:SpOk C:=((hC.in8 hq).fin four_bd.2.2.1).ok
  obtain⟨a,b,h1⟩:=self_meet (hA.in8 hq);obtain⟨c,d,h2⟩:=ang_opp hq opl_finA opl_finA z0 hA (by rw[<-opl_neg,<-opl_neg];exact hC);exact atanTurns_main n0 n1 n2 w hq hT hT2 (df (by omega)) (df (by omega)) (df (by omega)) (df (by omega)) (df (by omega)) (df (by omega)) nz r0 r1 p0 p1 z0 z1 z2 hA hB hC (by rw[meetL2 oA];exact h1) (by rw[meetL2 (abs_ok (sub_ok oA oC))];exact h2)
