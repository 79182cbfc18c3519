/-
  The walk of AtanGrows: for all arguments the call answers true, and nothing that was there has turned.
-/
import Derived.Test.YtomikokonmikgaaGreatDoorYBas
namespace Go.Proofs.YtomikokonmikgaaGreatDoor
set_option maxHeartbeats 16000000
open Go.RowKit
set_option linter.unusedVariables false
set_option linter.unusedSimpArgs false
set_option maxRecDepth 100000
set_option maxRecDepth 100000 in
theorem atanGrows_na (D0:Int)(s0:Bool)(M0 E0:Int)(D1:Int)(s1:Bool)(M1 E1:Int)(e2:Bool)(D2:Int)(s2:Bool)(M2 E2 G2:Int)(g2:Bool)(P2 Q2:Int)(e3:Bool)(D3:Int)(s3:Bool)(M3 E3 G3:Int)(g3:Bool)(P3 Q3:Int)(w:World){q:Bool->Int->Int->Int}(hq:QF q)(hT:Tab w)(hT2:Tb w)(w0:0<=M0)(u0:LQ M0)(wY:0<=M1)(u1:LQ M1)(u2:LQ M2)(v2:LQ P2)(u3:LQ M3)(v3:LQ P3)(ma:decide (MayQ D0 s0 M0 E0)=false):
  Calls Tryz.prog 9 #[VQ D0 s0 M0 E0,VQ D1 s1 M1 E1,VI e2 D2 s2 M2 E2 G2 g2 P2 Q2,VI e3 D3 s3 M3 E3 G3 g3 P3 Q3] w (PB w true):=by
 delta VI VQ
 have HQ:=ie hq;have HMA:=ie ma;clear hq ma
 go_enter Tryz.func9,Tryz.ntmps9
 go_upto_region 1 with (fail)
 generalize hW1:(((w.alloc _).alloc _).alloc _).alloc _=w1 at *;obtain⟨X0,X1,X2,X3,HB⟩:=Bo.en4 hW1;replace hT:=hT.below HB.out;replace hT2:=hT2.below HB.out;clear hW1
 go_wp2_with fail
 refine(awake13 HQ.out hT hT2).mono ?_;rintro ee wN ⟨rfl,B⟩;replace X0:=X0.b B;replace HB:=Hqb HB B;clear B;have xX0:=X0.cell
 go_wp2_with fail
 refine(nMay HMA.out).mono ?_;rintro ee wa ⟨rfl,B⟩;clear xX0;replace HB:=Hqb HB B;clear B;go_wp2
 go_ret
 exact⟨rfl,HB.out⟩
set_option maxRecDepth 100000 in
theorem atanGrows_nb (D0:Int)(s0:Bool)(M0 E0:Int)(D1:Int)(s1:Bool)(M1 E1:Int)(e2:Bool)(D2:Int)(s2:Bool)(M2 E2 G2:Int)(g2:Bool)(P2 Q2:Int)(e3:Bool)(D3:Int)(s3:Bool)(M3 E3 G3:Int)(g3:Bool)(P3 Q3:Int)(w:World){q:Bool->Int->Int->Int}(hq:QF q)(hT:Tab w)(hT2:Tb w)(w0:0<=M0)(u0:LQ M0)(wY:0<=M1)(u1:LQ M1)(u2:LQ M2)(v2:LQ P2)(u3:LQ M3)(v3:LQ P3)(ma:decide (MayQ D0 s0 M0 E0)=true)(mb:decide (MayQ D1 s1 M1 E1)=false):
  Calls Tryz.prog 9 #[VQ D0 s0 M0 E0,VQ D1 s1 M1 E1,VI e2 D2 s2 M2 E2 G2 g2 P2 Q2,VI e3 D3 s3 M3 E3 G3 g3 P3 Q3] w (PB w true):=by
 delta VI VQ
 have HQ:=ie hq;have HMA:=ie ma;have HMB:=ie mb;clear hq ma mb
 go_enter Tryz.func9,Tryz.ntmps9
 go_upto_region 1 with (fail)
 generalize hW1:(((w.alloc _).alloc _).alloc _).alloc _=w1 at *;obtain⟨X0,X1,X2,X3,HB⟩:=Bo.en4 hW1;replace hT:=hT.below HB.out;replace hT2:=hT2.below HB.out;clear hW1
 go_wp2_with fail
 refine(awake13 HQ.out hT hT2).mono ?_;rintro ee wN ⟨rfl,B⟩;replace X0:=X0.b B;replace X1:=X1.b B;replace HB:=Hqb HB B;clear B;have xX0:=X0.cell
 go_wp2_with fail
 refine(nMay HMA.out).mono ?_;rintro ee wa ⟨rfl,B⟩;clear xX0;replace X1:=X1.b B;replace HB:=Hqb HB B;clear B;have xX1:=X1.cell
 go_wp2_with fail
 refine(nMay HMB.out).mono ?_;rintro ee wb ⟨rfl,B⟩;clear xX1;replace HB:=Hqb HB B;clear B;go_wp2
 go_ret
 exact⟨rfl,HB.out⟩
set_option maxRecDepth 100000 in
theorem atanGrows_gt (D0:Int)(s0:Bool)(M0 E0:Int)(D1:Int)(s1:Bool)(M1 E1:Int)(e2:Bool)(D2:Int)(s2:Bool)(M2 E2 G2:Int)(g2:Bool)(P2 Q2:Int)(e3:Bool)(D3:Int)(s3:Bool)(M3 E3 G3:Int)(g3:Bool)(P3 Q3:Int)(w:World){q:Bool->Int->Int->Int}(hq:QF q)(hT:Tab w)(hT2:Tb w)(w0:0<=M0)(u0:LQ M0)(wY:0<=M1)(u1:LQ M1)(u2:LQ M2)(v2:LQ P2)(u3:LQ M3)(v3:LQ P3)(ma:decide (MayQ D0 s0 M0 E0)=true)(mb:decide (MayQ D1 s1 M1 E1)=true)(x y:Int)(hx:rk D0 s0 M0 E0=x)(hy:rk D1 s1 M1 E1=y)(hgt:y < x):
  Calls Tryz.prog 9 #[VQ D0 s0 M0 E0,VQ D1 s1 M1 E1,VI e2 D2 s2 M2 E2 G2 g2 P2 Q2,VI e3 D3 s3 M3 E3 G3 g3 P3 Q3] w (PB w true):=by
 delta VI VQ
 obtain⟨σ,hσ⟩:∃σ,cmpI x y=σ:=⟨_,rfl⟩
 have e0:decide (0 < σ)=true:=by
  rw[(cmp_lt12 hσ).2];exact dt hgt
 have HQ:=ie hq;have HMA:=ie ma;have HMB:=ie mb;have HX:=ie hx;have HY:=ie hy;have HS:=ie hσ;have HE0:=ie e0;clear hq ma mb hx hy hσ e0;clear hgt
 go_enter Tryz.func9,Tryz.ntmps9
 go_upto_region 1 with (fail)
 generalize hW1:(((w.alloc _).alloc _).alloc _).alloc _=w1 at *;obtain⟨X0,X1,X2,X3,HB⟩:=Bo.en4 hW1;replace hT:=hT.below HB.out;replace hT2:=hT2.below HB.out;clear hW1
 go_wp2_with fail
 refine(awake13 HQ.out hT hT2).mono ?_;rintro ee wN ⟨rfl,B⟩;replace X0:=X0.b B;replace X1:=X1.b B;replace HB:=Hqb HB B;clear B;have xX0:=X0.cell
 go_wp2_with fail
 refine(nMay HMA.out).mono ?_;rintro ee wa ⟨rfl,B⟩;clear xX0;replace X0:=X0.b B;replace X1:=X1.b B;replace HB:=Hqb HB B;clear B;have xX1:=X1.cell
 go_wp2_with fail
 refine(nMay HMB.out).mono ?_;rintro ee wb ⟨rfl,B⟩;clear xX1;replace X0:=X0.b B;replace X1:=X1.b B;replace HB:=Hqb HB B;clear B;have e0:=HE0.out;have xX0:=X0.cell;have xX1:=X1.cell
 go_wp2_with fail
 refine(nCmp (z:=σ) u0 u1 (by rw[HX.out,HY.out];exact HS.out)).mono ?_;rintro ee wc ⟨rfl,B⟩;clear xX0 xX1;replace HB:=Hqb HB B;clear B;go_wp2
 go_ret
 exact⟨rfl,HB.out⟩
set_option maxRecDepth 100000 in
theorem atanGrows_out (D0:Int)(s0:Bool)(M0 E0:Int)(D1:Int)(s1:Bool)(M1 E1:Int)(e2:Bool)(D2:Int)(s2:Bool)(M2 E2 G2:Int)(g2:Bool)(P2 Q2:Int)(e3:Bool)(D3:Int)(s3:Bool)(M3 E3 G3:Int)(g3:Bool)(P3 Q3:Int)(w:World){q:Bool->Int->Int->Int}(hq:QF q)(hT:Tab w)(hT2:Tb w)(w0:0<=M0)(u0:LQ M0)(wY:0<=M1)(u1:LQ M1)(u2:LQ M2)(v2:LQ P2)(u3:LQ M3)(v3:LQ P3)(ma:decide (MayQ D0 s0 M0 E0)=true)(mb:decide (MayQ D1 s1 M1 E1)=true)(x y:Int)(hx:rk D0 s0 M0 E0=x)(hy:rk D1 s1 M1 E1=y)(a b c d:Int)(hp:AtV q x (some (a,b)))(hr:AtV q y (some (c,d)))(hle:x<=y)(hac:a<=d)(X Y:Sp)(hX:rkI e2 D2 s2 M2 E2 G2 g2 P2 Q2=X)(hY:rkI e3 D3 s3 M3 E3 G3 g3 P3 Q3=Y)(hw:witI X Y=false):
  Calls Tryz.prog 9 #[VQ D0 s0 M0 E0,VQ D1 s1 M1 E1,VI e2 D2 s2 M2 E2 G2 g2 P2 Q2,VI e3 D3 s3 M3 E3 G3 g3 P3 Q3] w (PB w true):=by
 delta VI VQ
 obtain⟨σ,hσ⟩:∃σ,cmpI x y=σ:=⟨_,rfl⟩
 have e0:decide (0 < σ)=false:=by
  rw[(cmp_lt12 hσ).2];exact df (by omega)
 obtain⟨ρ,hρ⟩:∃σ,cmpI a d=σ:=⟨_,rfl⟩
 have e1:decide (0 < ρ)=false:=by
  rw[(cmp_lt12 hρ).2];exact df (by omega)
 have HQ:=ie hq;have HMA:=ie ma;have HMB:=ie mb;have HX:=ie hx;have HY:=ie hy;have HS:=ie hσ;have HE0:=ie e0;have HP:=ie hp;have HR:=ie hr;have HRO:=ie hρ;have HE1:=ie e1;have HIX:=ie hX;have HIY:=ie hY;have HW:=ie hw;clear hq ma mb hx hy hσ e0 hp hr hρ e1 hX hY hw;clear hle hac
 go_enter Tryz.func9,Tryz.ntmps9
 go_upto_region 1 with (fail)
 generalize hW1:(((w.alloc _).alloc _).alloc _).alloc _=w1 at *;obtain⟨X0,X1,X2,X3,HB⟩:=Bo.en4 hW1;replace hT:=hT.below HB.out;replace hT2:=hT2.below HB.out;clear hW1
 go_wp2_with fail
 refine(awake13 HQ.out hT hT2).mono ?_;rintro ee wN ⟨rfl,B⟩;replace X0:=X0.b B;replace X1:=X1.b B;replace X2:=X2.b B;replace X3:=X3.b B;replace hT:=hT.b B;replace hT2:=hT2.b B;replace HB:=Hqb HB B;clear B;have xX0:=X0.cell
 go_wp2_with fail
 refine(nMay HMA.out).mono ?_;rintro ee wa ⟨rfl,B⟩;clear xX0;replace X0:=X0.b B;replace X1:=X1.b B;replace X2:=X2.b B;replace X3:=X3.b B;replace hT:=hT.b B;replace hT2:=hT2.b B;replace HB:=Hqb HB B;clear B;have xX1:=X1.cell
 go_wp2_with fail
 refine(nMay HMB.out).mono ?_;rintro ee wb ⟨rfl,B⟩;clear xX1;replace X0:=X0.b B;replace X1:=X1.b B;replace X2:=X2.b B;replace X3:=X3.b B;replace hT:=hT.b B;replace hT2:=hT2.b B;replace HB:=Hqb HB B;clear B;have e0:=HE0.out;have xX0:=X0.cell;have xX1:=X1.cell
 go_wp2_with fail
 refine(nCmp (z:=σ) u0 u1 (by rw[HX.out,HY.out];exact HS.out)).mono ?_;rintro ee wc ⟨rfl,B⟩;clear xX0 xX1;replace X0:=X0.b B;replace X1:=X1.b B;replace X2:=X2.b B;replace X3:=X3.b B;replace hT:=hT.b B;replace hT2:=hT2.b B;replace HB:=Hqb HB B;clear B
 go_upto_region 4 with (fail)
 clear e0;have xX0:=X0.cell
 go_wp2_with fail
 refine(atAtan HQ.out hT hT2 w0 u0 HX.out HP.out).mono ?_;rintro ee wd ⟨e11,K11,s11,M11,E11,K11b,s11b,M11b,E11b,rfl,v11,B⟩;clear xX0;replace X1:=X1.b B;replace X2:=X2.b B;replace X3:=X3.b B;replace hT:=hT.b B;replace hT2:=hT2.b B;replace HB:=Hqb HB B;clear B;have hsz11:=HB.out.size
 go_upto_region 5 with (fail)
 have nXAX1:=X1.lt;have nXAX2:=X2.lt;have nXAX3:=X3.lt;generalize hWn:wd.alloc _=we at *;obtain⟨XA,BW⟩:=Bo.nw hWn;clear hWn;replace X1:=X1.b BW;replace X2:=X2.b BW;replace X3:=X3.b BW;replace hT:=hT.b BW;replace hT2:=hT2.b BW;replace HB:=Hqb HB BW;clear BW
 obtain rfl:e11=false:=v11.1
 have xX1:=X1.cell
 go_wp2_with fail
 refine(atAtan HQ.out hT hT2 wY u1 HY.out HR.out).mono ?_;rintro ee wf ⟨e12,K12,s12,M12,E12,K12b,s12b,M12b,E12b,rfl,v12,B⟩;clear xX1;replace X2:=X2.b B;replace X3:=X3.b B;replace XA:=XA.b B;replace HB:=Hqb HB B;clear B;have hsz12:=HB.out.size
 go_upto_region 6 with (fail)
 have nXBX2:=X2.lt;have nXBX3:=X3.lt;have nXBXA:=XA.lt;generalize hWn:wf.alloc _=wg at *;obtain⟨XB,BW⟩:=Bo.nw hWn;clear hWn;replace X2:=X2.b BW;replace X3:=X3.b BW;replace XA:=XA.b BW;replace HB:=Hqb HB BW;clear BW
 obtain rfl:e12=false:=v12.1
 obtain⟨_,qa,qb,oab,oa,ob⟩:=v11;obtain⟨_,qc,qd,ocd,oc,od⟩:=v12;have e1:=HE1.out;have xXA:=XA.cell;have xXB:=XB.cell
 go_wp2_with fail
 refine(nCmp (z:=ρ) qa.top qd.top (by rw[qa.rk,qd.rk];exact HRO.out)).mono ?_;rintro ee wh ⟨rfl,B⟩;clear xXA xXB;replace X2:=X2.b B;replace X3:=X3.b B;replace HB:=Hqb HB B;clear B
 go_upto_region 8 with (fail)
 clear e1 qa qb qc qd oab oa ob ocd oc od;have ltX2:=X2.lt;have ltX3:=X3.lt;refine jk [0,1,2,3,4,5,6,7,8,9,10,11,12,13,14,15,16] [some 46,some 47,some 48,some 49,some 50,some 51,some 52,some 53,some 54,some 55,some 56,some 57,some 58,some 59,some 60,some 61,some 8] [[],[0],[1],[1],[1,2,3],[1,4],[1,5],[6],[6,7],[6],[6,9],[6],[6,10,11],[6,8,12],[1,6,13],[1,14],[15]] 17 0 [Jo.qb true,Jo.qb true,Jo.q9 e2 D2 s2 M2 E2 G2 g2 P2 Q2,Jo.q9 e3 D3 s3 M3 E3 G3 g3 P3 Q3,Jo.qb false,Jo.qb true,Jo.qb true,Jo.qu,Jo.qu,Jo.qu,Jo.qu,Jo.qu,Jo.qu,Jo.qu,Jo.qb true,Jo.qb true,Jo.qb true] ?_ ?_
 ·iterate 4 (refine jm ?_ ?_;rotate_left)
  refine jm ?_ ?_
  ·rintro wj hJ _ rfl _ rfl _ rfl K hK;simp only[Jo.z]at hK|-;go_simp;refine(kvWithin u2 v2 u3 v3 HIX.out HIY.out HW.out).mono ?_;rintro ee wk ⟨rfl,B⟩;exact hK.out _ _ rfl B
  iterate 12 (refine jm ?_ ?_;rotate_left)
  exact jo
  all_goals (rintro wj hJ;(repeat rintro _ rfl);intro K hK;simp only[Jo.z]at hK|-;have xX2:=(X2.b hJ).cell;have xX3:=(X3.b hJ).cell;go_simp;exact hK.out _ _ rfl (br _ _))
 rintro wi hJ _ rfl _ rfl _ rfl _ rfl _ rfl _ rfl _ rfl _ rfl _ rfl _ rfl _ rfl _ rfl _ rfl _ rfl _ rfl _ rfl _ rfl -;simp only[Jo.z];replace HB:=Hqb HB hJ;refine jd ?_;go_wp2
 go_ret
 exact⟨rfl,HB.out⟩
set_option maxRecDepth 100000 in
theorem atanGrows_in (D0:Int)(s0:Bool)(M0 E0:Int)(D1:Int)(s1:Bool)(M1 E1:Int)(e2:Bool)(D2:Int)(s2:Bool)(M2 E2 G2:Int)(g2:Bool)(P2 Q2:Int)(e3:Bool)(D3:Int)(s3:Bool)(M3 E3 G3:Int)(g3:Bool)(P3 Q3:Int)(w:World){q:Bool->Int->Int->Int}(hq:QF q)(hT:Tab w)(hT2:Tb w)(w0:0<=M0)(u0:LQ M0)(wY:0<=M1)(u1:LQ M1)(u2:LQ M2)(v2:LQ P2)(u3:LQ M3)(v3:LQ P3)(ma:decide (MayQ D0 s0 M0 E0)=true)(mb:decide (MayQ D1 s1 M1 E1)=true)(x y:Int)(hx:rk D0 s0 M0 E0=x)(hy:rk D1 s1 M1 E1=y)(a b c d:Int)(hp:AtV q x (some (a,b)))(hr:AtV q y (some (c,d)))(hle:x<=y)(hac:a<=d)(X Y:Sp)(hX:rkI e2 D2 s2 M2 E2 G2 g2 P2 Q2=X)(hY:rkI e3 D3 s3 M3 E3 G3 g3 P3 Q3=Y)(hw:witI X Y=true)(U V:Sp)(hU:AtOfV q X U)(hV:AtOfV q Y V)(hg:witI U (infI V p60)=true):
  Calls Tryz.prog 9 #[VQ D0 s0 M0 E0,VQ D1 s1 M1 E1,VI e2 D2 s2 M2 E2 G2 g2 P2 Q2,VI e3 D3 s3 M3 E3 G3 g3 P3 Q3] w (PB w true):=by
 delta VI VQ
 obtain⟨σ,hσ⟩:∃σ,cmpI x y=σ:=⟨_,rfl⟩
 have e0:decide (0 < σ)=false:=by
  rw[(cmp_lt12 hσ).2];exact df (by omega)
 obtain⟨ρ,hρ⟩:∃σ,cmpI a d=σ:=⟨_,rfl⟩
 have e1:decide (0 < ρ)=false:=by
  rw[(cmp_lt12 hρ).2];exact df (by omega)
 have HQ:=ie hq;have HMA:=ie ma;have HMB:=ie mb;have HX:=ie hx;have HY:=ie hy;have HS:=ie hσ;have HE0:=ie e0;have HP:=ie hp;have HR:=ie hr;have HRO:=ie hρ;have HE1:=ie e1;have HIX:=ie hX;have HIY:=ie hY;have HW:=ie hw;have HU:=ie hU;have HV:=ie hV;have HG:=ie hg;clear hq ma mb hx hy hσ e0 hp hr hρ e1 hX hY hw hU hV hg
 clear hle hac
 go_enter Tryz.func9,Tryz.ntmps9
 go_upto_region 1 with (fail)
 generalize hW1:(((w.alloc _).alloc _).alloc _).alloc _=w1 at *;obtain⟨X0,X1,X2,X3,HB⟩:=Bo.en4 hW1;replace hT:=hT.below HB.out;replace hT2:=hT2.below HB.out;clear hW1
 go_wp2_with fail
 refine(awake13 HQ.out hT hT2).mono ?_;rintro ee wN ⟨rfl,B⟩;replace X0:=X0.b B;replace X1:=X1.b B;replace X2:=X2.b B;replace X3:=X3.b B;replace hT:=hT.b B;replace hT2:=hT2.b B;replace HB:=Hqb HB B;clear B;have xX0:=X0.cell
 go_wp2_with fail
 refine(nMay HMA.out).mono ?_;rintro ee wa ⟨rfl,B⟩;clear xX0;replace X0:=X0.b B;replace X1:=X1.b B;replace X2:=X2.b B;replace X3:=X3.b B;replace hT:=hT.b B;replace hT2:=hT2.b B;replace HB:=Hqb HB B;clear B;have xX1:=X1.cell
 go_wp2_with fail
 refine(nMay HMB.out).mono ?_;rintro ee wb ⟨rfl,B⟩;clear xX1;replace X0:=X0.b B;replace X1:=X1.b B;replace X2:=X2.b B;replace X3:=X3.b B;replace hT:=hT.b B;replace hT2:=hT2.b B;replace HB:=Hqb HB B;clear B;have e0:=HE0.out;have xX0:=X0.cell;have xX1:=X1.cell
 go_wp2_with fail
 refine(nCmp (z:=σ) u0 u1 (by rw[HX.out,HY.out];exact HS.out)).mono ?_;rintro ee wc ⟨rfl,B⟩;clear xX0 xX1;replace X0:=X0.b B;replace X1:=X1.b B;replace X2:=X2.b B;replace X3:=X3.b B;replace hT:=hT.b B;replace hT2:=hT2.b B;replace HB:=Hqb HB B;clear B
 go_upto_region 4 with (fail)
 clear e0;have xX0:=X0.cell
 go_wp2_with fail
 refine(atAtan HQ.out hT hT2 w0 u0 HX.out HP.out).mono ?_;rintro ee wd ⟨e11,K11,s11,M11,E11,K11b,s11b,M11b,E11b,rfl,v11,B⟩;clear xX0;replace X1:=X1.b B;replace X2:=X2.b B;replace X3:=X3.b B;replace hT:=hT.b B;replace hT2:=hT2.b B;replace HB:=Hqb HB B;clear B;have hsz11:=HB.out.size
 go_upto_region 5 with (fail)
 have nXAX1:=X1.lt;have nXAX2:=X2.lt;have nXAX3:=X3.lt;generalize hWn:wd.alloc _=we at *;obtain⟨XA,BW⟩:=Bo.nw hWn;clear hWn;replace X1:=X1.b BW;replace X2:=X2.b BW;replace X3:=X3.b BW;replace hT:=hT.b BW;replace hT2:=hT2.b BW;replace HB:=Hqb HB BW;clear BW
 obtain rfl:e11=false:=v11.1
 have xX1:=X1.cell
 go_wp2_with fail
 refine(atAtan HQ.out hT hT2 wY u1 HY.out HR.out).mono ?_;rintro ee wf ⟨e12,K12,s12,M12,E12,K12b,s12b,M12b,E12b,rfl,v12,B⟩;clear xX1;replace X2:=X2.b B;replace X3:=X3.b B;replace XA:=XA.b B;replace hT:=hT.b B;replace hT2:=hT2.b B;replace HB:=Hqb HB B;clear B;have hsz12:=HB.out.size
 go_upto_region 6 with (fail)
 have nXBX2:=X2.lt;have nXBX3:=X3.lt;have nXBXA:=XA.lt;generalize hWn:wf.alloc _=wg at *;obtain⟨XB,BW⟩:=Bo.nw hWn;clear hWn;replace X2:=X2.b BW;replace X3:=X3.b BW;replace XA:=XA.b BW;replace hT:=hT.b BW;replace hT2:=hT2.b BW;replace HB:=Hqb HB BW;clear BW
 obtain rfl:e12=false:=v12.1
 obtain⟨_,qa,qb,oab,oa,ob⟩:=v11;obtain⟨_,qc,qd,ocd,oc,od⟩:=v12;have e1:=HE1.out;have xXA:=XA.cell;have xXB:=XB.cell
 go_wp2_with fail
 refine(nCmp (z:=ρ) qa.top qd.top (by rw[qa.rk,qd.rk];exact HRO.out)).mono ?_;rintro ee wh ⟨rfl,B⟩;clear xXA xXB;replace X2:=X2.b B;replace X3:=X3.b B;replace hT:=hT.b B;replace hT2:=hT2.b B;replace HB:=Hqb HB B;clear B
 go_upto_region 8 with (fail)
 clear e1 qa qb qc qd oab oa ob ocd oc od;have ltX2:=X2.lt;have ltX3:=X3.lt;refine jk [0,1,2,3,4,5,6,7,8,9,10,11,12,13,14,15,16] [some 46,some 47,some 48,some 49,some 50,some 51,some 52,some 53,some 54,some 55,some 56,some 57,some 58,some 59,some 60,some 61,some 8] [[],[0],[1],[1],[1,2,3],[1,4],[1,5],[6],[6,7],[6],[6,9],[6],[6,10,11],[6,8,12],[1,6,13],[1,14],[15]] 17 0 [Jo.qb true,Jo.qb true,Jo.q9 e2 D2 s2 M2 E2 G2 g2 P2 Q2,Jo.q9 e3 D3 s3 M3 E3 G3 g3 P3 Q3,Jo.qb true,Jo.qb false,Jo.qb false,Jo.q9 e2 D2 s2 M2 E2 G2 g2 P2 Q2,Jo.Fact.iv U,Jo.q9 e3 D3 s3 M3 E3 G3 g3 P3 Q3,Jo.Fact.iv V,Jo.Fact.num p60,Jo.Fact.iv (infI V p60),Jo.qb true,Jo.qb true,Jo.qb true,Jo.qb true] ?_ ?_
 ·iterate 4 (refine jm ?_ ?_;rotate_left)
  refine jm ?_ ?_
  ·rintro wj hJ _ rfl _ rfl _ rfl K hK;simp only[Jo.z]at hK|-;go_simp;refine(kvWithin u2 v2 u3 v3 HIX.out HIY.out HW.out).mono ?_;rintro ee wk ⟨rfl,B⟩;exact hK.out _ _ rfl B
  iterate 3 (refine jm ?_ ?_;rotate_left)
  refine jm ?_ ?_
  ·rintro wj hJ _ rfl _ rfl K hK;simp only[Jo.z]at hK|-;go_simp;exact Jo.v1 (atOf HQ.out (hT.b hJ) (hT2.b hJ) u2 v2 HIX.out HU.out) hK.out
  refine jm ?_ ?_;rotate_left
  refine jm ?_ ?_
  ·rintro wj hJ _ rfl _ rfl K hK;simp only[Jo.z]at hK|-;go_simp;exact Jo.v1 (atOf HQ.out (hT.b hJ) (hT2.b hJ) u3 v3 HIY.out HV.out) hK.out
  refine jm ?_ ?_
  ·rintro wj hJ _ rfl K hK;simp only[Jo.z]at hK|-;go_simp;exact Jo.n1 (aSmall) hK.out
  refine jm ?_ ?_
  ·rintro wj hJ _ rfl _ ⟨e21,K21,s21,M21,E21,K21b,s21b,M21b,E21b,rfl,v21⟩ _ ⟨K22,s22,M22,E22,rfl,q22⟩ K hK;simp only[Jo.z]at hK|-;go_simp;exact Jo.v1 (kvInflate (hT2.b hJ) v21.top.1 v21.top.2 q22.top v21.rk q22.rk rfl) hK.out
  refine jm ?_ ?_
  ·rintro wj hJ _ rfl _ ⟨e20,K20,s20,M20,E20,K20b,s20b,M20b,E20b,rfl,v20⟩ _ ⟨e23,K23,s23,M23,E23,K23b,s23b,M23b,E23b,rfl,v23⟩ K hK;simp only[Jo.z]at hK|-;go_simp;refine(kvWithin v20.top.1 v20.top.2 v23.top.1 v23.top.2 v20.rk v23.rk HG.out).mono ?_;rintro ee wk ⟨rfl,B⟩;exact hK.out _ _ rfl B
  iterate 3 (refine jm ?_ ?_;rotate_left)
  exact jo
  all_goals (rintro wj hJ;(repeat rintro _ rfl);intro K hK;simp only[Jo.z]at hK|-;have xX2:=(X2.b hJ).cell;have xX3:=(X3.b hJ).cell;go_simp;exact hK.out _ _ rfl (br _ _))
 rintro wi hJ _ rfl _ rfl _ rfl _ rfl _ rfl _ rfl _ rfl _ rfl _ ⟨e20,K20,s20,M20,E20,K20b,s20b,M20b,E20b,rfl,v20⟩ _ rfl _ ⟨e21,K21,s21,M21,E21,K21b,s21b,M21b,E21b,rfl,v21⟩ _ ⟨K22,s22,M22,E22,rfl,_⟩ _ ⟨e23,K23,s23,M23,E23,K23b,s23b,M23b,E23b,rfl,v23⟩ _ rfl _ rfl _ rfl _ rfl -;simp only[Jo.z];replace HB:=Hqb HB hJ;refine jd ?_
 go_wp2
 go_ret
 exact⟨rfl,HB.out⟩
theorem atanGrows_walk (D0:Int)(s0:Bool)(M0 E0:Int)(D1:Int)(s1:Bool)(M1 E1:Int)(e2:Bool)(D2:Int)(s2:Bool)(M2 E2 G2:Int)(g2:Bool)(P2 Q2:Int)(e3:Bool)(D3:Int)(s3:Bool)(M3 E3 G3:Int)(g3:Bool)(P3 Q3:Int)(w:World)(hT:Tab w)(hT2:Tb w)(w0:0<=M0)(u0:LQ M0)(w1:0<=M1)(u1:LQ M1)(u2:LQ M2)(v2:LQ P2)(u3:LQ M3)(v3:LQ P3):
  Calls Tryz.prog 9 #[VQ D0 s0 M0 E0,VQ D1 s1 M1 E1,VI e2 D2 s2 M2 E2 G2 g2 P2 Q2,VI e3 D3 s3 M3 E3 G3 g3 P3 Q3] w fun e w'=>e= .returned (.bool true)/\Below w.heap.size w w':=by
 delta VI VQ
 obtain⟨q,hq⟩:=qf_ex;obtain⟨x,hx⟩:∃x,rk D0 s0 M0 E0=x:=⟨_,rfl⟩;obtain⟨y,hy⟩:∃x,rk D1 s1 M1 E1=x:=⟨_,rfl⟩;obtain⟨X,hX⟩:∃X,rkI e2 D2 s2 M2 E2 G2 g2 P2 Q2=X:=⟨_,rfl⟩;obtain⟨Y,hY⟩:∃Y,rkI e3 D3 s3 M3 E3 G3 g3 P3 Q3=Y:=⟨_,rfl⟩
 have okX:SpOk X:=hX▸rkI_ok u2 v2
 have okY:SpOk Y:=hY▸rkI_ok u3 v3
 have bx:=rk_bd (K:=D0) (s:=s0) (E:=E0) u0;have bY:=rk_bd (K:=D1) (s:=s1) (E:=E1) u1;rw[hx]at bx;rw[hy]at bY
 cases ma:decide (MayQ D0 s0 M0 E0)
 ·exact atanGrows_na D0 s0 M0 E0 D1 s1 M1 E1 e2 D2 s2 M2 E2 G2 g2 P2 Q2 e3 D3 s3 M3 E3 G3 g3 P3 Q3 w hq hT hT2 w0 u0 w1 u1 u2 v2 u3 v3 ma
 ·cases mb:decide (MayQ D1 s1 M1 E1)
  ·exact atanGrows_nb D0 s0 M0 E0 D1 s1 M1 E1 e2 D2 s2 M2 E2 G2 g2 P2 Q2 e3 D3 s3 M3 E3 G3 g3 P3 Q3 w hq hT hT2 w0 u0 w1 u1 u2 v2 u3 v3 ma mb
  ·by_cases hgt:y < x
   ·exact atanGrows_gt D0 s0 M0 E0 D1 s1 M1 E1 e2 D2 s2 M2 E2 G2 g2 P2 Q2 e3 D3 s3 M3 E3 G3 g3 P3 Q3 w hq hT hT2 w0 u0 w1 u1 u2 v2 u3 v3 ma mb x y hx hy hgt
   ·obtain⟨P,hP⟩:=atv_ex q x;obtain⟨R,hR⟩:=atv_ex q y;obtain⟨_,_,hg⟩:=AtV.grow hq hP hR bx.1 (by omega) bY.2;obtain⟨a,b,rfl,k1,k2,k3,_⟩:=hP.tight hq bx.1 bx.2;obtain⟨c,d,rfl,l1,l2,l3,_⟩:=hR.tight hq bY.1 bY.2;have tb:=two_bd;have hac:=ends_R (by omega) (by omega) hg
    cases hw:witI X Y
    ·exact atanGrows_out D0 s0 M0 E0 D1 s1 M1 E1 e2 D2 s2 M2 E2 G2 g2 P2 Q2 e3 D3 s3 M3 E3 G3 g3 P3 Q3 w hq hT hT2 w0 u0 w1 u1 u2 v2 u3 v3 ma mb x y hx hy a b c d hP hR (by omega) hac X Y hX hY hw
    ·obtain⟨U,hU⟩:=atof_ex q X;obtain⟨V,hV⟩:=atof_ex q Y;exact atanGrows_in D0 s0 M0 E0 D1 s1 M1 E1 e2 D2 s2 M2 E2 G2 g2 P2 Q2 e3 D3 s3 M3 E3 G3 g3 P3 Q3 w hq hT hT2 w0 u0 w1 u1 u2 v2 u3 v3 ma mb x y hx hy a b c d hP hR (by omega) hac X Y hX hY hw U V hU hV (at_grows hq hU hV okX okY hw)
