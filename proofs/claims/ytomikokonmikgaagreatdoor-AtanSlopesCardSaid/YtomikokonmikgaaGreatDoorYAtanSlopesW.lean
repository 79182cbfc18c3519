/-
  The walk of AtanSlopes: for all arguments the call answers true, and nothing that was there has turned.
-/
import Derived.Below
import Derived.BigQuiet
import Derived.Carry
import Derived.Deep.DeepCutAuto
import Derived.Deep.Draws
import Derived.Deep.MidRow
import Derived.Deep.QuietTactic
import Derived.Deep.RegionHeld3
import Derived.Deep.RegionWith
import Derived.IntWalk
import Derived.Laws.Bits64b
import Derived.Laws.CopyOwn
import Derived.Laws.EntriesVeiled
import Derived.Laws.Externs
import Derived.Laws.MakeOwn
import Derived.Laws.OwnMore
import Derived.Laws.Rows
import Derived.Lib.BitFns
import Derived.Lib.Hide
import Derived.Lib.Mul64
import Derived.Lib.TrailingZeros
import Derived.Maps.AppendAt
import Derived.StillTailTactics
import Derived.Test.YtomikokonmikgaaGreatDoorRows
import Derived.WalkKit
import Derived.WalkLawsBesides
import Derived.WalkSpells
import Derived.Test.YtomikokonmikgaaGreatDoorYSas
namespace Go.Proofs.YtomikokonmikgaaGreatDoor
set_option maxHeartbeats 16000000
open Go.RowKit
set_option linter.unusedVariables false
set_option linter.unusedSimpArgs false
set_option maxRecDepth 100000
set_option maxRecDepth 100000 in
theorem atanSlopes_no (D0:Int)(s0:Bool)(M0 E0:Int)(w:World){q:Bool->Int->Int->Int}(hq:QF q)(hT:Tab w)(hT2:Tb w)(w0:0<=M0)(u0:LQ M0)(hm:decide (MayQ D0 s0 M0 E0)=false):
  Calls Tryz.prog 8 #[VQ D0 s0 M0 E0] w (PB w true):=by
 delta VQ
 have HQ:=ie hq;have HM:=ie hm;clear hq hm
 go_enter Tryz.func8,Tryz.ntmps8
 go_upto_region 1 with (fail)
 generalize hW1:w.alloc _=w1 at *;obtain⟨X0,HB⟩:=Bo.en1 hW1;replace hT:=hT.below HB.out;replace hT2:=hT2.below HB.out;clear hW1
 go_wp2_with fail
 refine(awake13 HQ.out hT hT2).mono ?_;rintro ee w2 ⟨rfl,B⟩;replace X0:=X0.b B;replace HB:=Hqb HB B;clear B;have xX0:=X0.cell
 go_wp2_with fail
 refine(nMay HM.out).mono ?_;rintro ee w3 ⟨rfl,B⟩;clear xX0;replace HB:=Hqb HB B;clear B;go_wp2
 go_ret
 exact⟨rfl,HB.out⟩
set_option maxRecDepth 100000 in
theorem atanSlopes_inf (D0:Int)(s0:Bool)(M0 E0:Int)(w:World){q:Bool->Int->Int->Int}(hq:QF q)(hT:Tab w)(hT2:Tb w)(w0:0<=M0)(u0:LQ M0)(hm:decide (MayQ D0 s0 M0 E0)=true)(hd:(D0==2)=true):
  Calls Tryz.prog 8 #[VQ D0 s0 M0 E0] w (PB w true):=by
 delta VQ
 have HQ:=ie hq;have HM:=ie hm;have HD:=ie hd;clear hq hm hd
 go_enter Tryz.func8,Tryz.ntmps8
 go_upto_region 1 with (fail)
 generalize hW1:w.alloc _=w1 at *;obtain⟨X0,HB⟩:=Bo.en1 hW1;replace hT:=hT.below HB.out;replace hT2:=hT2.below HB.out;clear hW1
 go_wp2_with fail
 refine(awake13 HQ.out hT hT2).mono ?_;rintro ee w2 ⟨rfl,B⟩;replace X0:=X0.b B;replace HB:=Hqb HB B;clear B;have xX0:=X0.cell
 go_wp2_with fail
 refine(nMay HM.out).mono ?_;rintro ee w3 ⟨rfl,B⟩;clear xX0;replace X0:=X0.b B;replace HB:=Hqb HB B;clear B;have td:=HD.out;have xX0:=X0.cell;go_wp2
 go_ret
 exact⟨rfl,HB.out⟩
set_option maxRecDepth 100000 in
theorem atanSlopes_in (D0:Int)(s0:Bool)(M0 E0:Int)(w:World){q:Bool->Int->Int->Int}(hq:QF q)(hT:Tab w)(hT2:Tb w)(w0:0<=M0)(u0:LQ M0)(hm:decide (MayQ D0 s0 M0 E0)=true)(hd:(D0==2)=false)(x a b:Int)(Z Zs Zc:Sp)(hx:rk D0 s0 M0 E0=x)(hz:AtV q x Z)(hs:AllV false Z Zs)(hc:AllV true Z Zc)(oz:SpOk Zs)(h1:meetL [Zs,mulI (some (x,x)) Zc]=some (a,b))(hpt:mkI x x=some (x,x)):
  Calls Tryz.prog 8 #[VQ D0 s0 M0 E0] w (PB w true):=by
 delta VQ
 have HQ:=ie hq;have HM:=ie hm;have HD:=ie hd;have HX:=ie hx;have HZ:=ie hz;have HS:=ie hs;have HC:=ie hc;have H1:=ie h1;have HPT:=ie hpt;clear hq hm hd hx hz hs hc h1 hpt
 go_enter Tryz.func8,Tryz.ntmps8
 go_upto_region 1 with (fail)
 generalize hW1:w.alloc _=w1 at *;obtain⟨X0,HB⟩:=Bo.en1 hW1;replace hT:=hT.below HB.out;replace hT2:=hT2.below HB.out;clear hW1
 go_wp2_with fail
 refine(awake13 HQ.out hT hT2).mono ?_;rintro ee w2 ⟨rfl,B⟩;replace X0:=X0.b B;replace hT:=hT.b B;replace hT2:=hT2.b B;replace HB:=Hqb HB B;clear B;have xX0:=X0.cell
 go_wp2_with fail
 refine(nMay HM.out).mono ?_;rintro ee w3 ⟨rfl,B⟩;clear xX0;replace X0:=X0.b B;replace hT:=hT.b B;replace hT2:=hT2.b B;replace HB:=Hqb HB B;clear B;have td:=HD.out;have xX0:=X0.cell
 go_upto_region 4 with (fail)
 clear td;clear xX0;have xX0:=X0.cell
 go_wp2_with fail
 refine(atAtan HQ.out hT hT2 w0 u0 HX.out HZ.out).mono ?_;rintro ee w4 ⟨e11,K11,s11,M11,E11,K11b,s11b,M11b,E11b,rfl,v11,B⟩;clear xX0;replace X0:=X0.b B;replace hT:=hT.b B;replace hT2:=hT2.b B;replace HB:=Hqb HB B;clear B;have hsz11:=HB.out.size
 go_upto_region 5 with (fail)
 have nX4X0:=X0.lt;generalize hWn:w4.alloc _=w5 at *;obtain⟨X4,BW⟩:=Bo.nw hWn;clear hWn;replace X0:=X0.b BW;replace hT:=hT.b BW;replace hT2:=hT2.b BW;replace HB:=Hqb HB BW;clear BW;have ltX0:=X0.lt;have ltX4:=X4.lt;refine jk [0,1,2,3,4,5,6,7,8,9] [some 18,some 19,some 20,some 21,some 22,some 23,some 24,some 25,some 26,some 5,none] [[],[0],[],[2],[],[4],[3,5],[1,6],[7],[],[]] 11 1 [Jo.q9 e11 K11 s11 M11 E11 K11b s11b M11b E11b,Jo.Fact.iv Zs,Jo.q4 D0 s0 M0 E0,Jo.Fact.iv (some (x,x)),Jo.q9 e11 K11 s11 M11 E11 K11b s11b M11b E11b,Jo.Fact.iv Zc,Jo.Fact.iv (mulI (some (x,x)) Zc),Jo.Fact.il8 2 [Zs,(mulI (some (x,x)) Zc)],Jo.Fact.iv (some (a,b)),Jo.Fact.bo w5.heap.size #[.bool false,.int .i64 0,.bool false,.int .u64 0,.int .i64 0,.int .i64 0,.bool false,.int .u64 0,.int .i64 0] 32,Jo.Fact.any] ?_ ?_
 ·refine jm ?_ ?_;rotate_left
  refine jm ?_ ?_
  ·rintro wj hJ _ rfl K hK;simp only[Jo.z]at hK|-;go_simp;exact Jo.v1 (tSinOf (hT.b hJ) (hT2.b hJ) v11.top.1 v11.top.2 v11.rk HS.out) hK.out
  refine jm ?_ ?_;rotate_left
  refine jm ?_ ?_
  ·rintro wj hJ _ rfl K hK;simp only[Jo.z]at hK|-;go_simp;exact Jo.v1 (kvPoint u0 HX.out HPT.out) hK.out
  refine jm ?_ ?_;rotate_left
  refine jm ?_ ?_
  ·rintro wj hJ _ rfl K hK;simp only[Jo.z]at hK|-;go_simp;exact Jo.v1 (tCosOf (hT.b hJ) (hT2.b hJ) v11.top.1 v11.top.2 v11.rk HC.out) hK.out
  refine jm ?_ ?_
  ·rintro wj hJ _ ⟨e21,K21,s21,M21,E21,K21b,s21b,M21b,E21b,rfl,v21⟩ _ ⟨e22,K22,s22,M22,E22,K22b,s22b,M22b,E22b,rfl,v22⟩ K hK;simp only[Jo.z]at hK|-;go_simp;exact Jo.v1 (fkMul v21.top.1 v21.top.2 v22.top.1 v22.top.2 v21.rk v22.rk rfl) hK.out
  refine jm ?_ ?_
  ·rintro wj hJ _ ⟨e20,K20,s20,M20,E20,K20b,s20b,M20b,E20b,rfl,v20⟩ _ ⟨e23,K23,s23,M23,E23,K23b,s23b,M23b,E23b,rfl,v23⟩ K hK;simp only[Jo.z]at hK|-;go_simp;exact hK.out _ _ ⟨_,2,rfl,Il8.lit2 rfl v20.rw v23.rw⟩ (bel1 _ _)
  refine jm ?_ ?_
  ·rintro wj hJ _ ⟨A25,c25,rfl,h25⟩ K hK;simp only[Jo.z]at hK|-;go_simp;exact Jo.v1 (kvMeet h25 H1.out) hK.out
  refine jm ?_ ?_
  ·rintro wj hJ K hK;simp only[Jo.z]at hK|-;go_simp;exact hK.out _ _ ⟨_,rfl,hJ.size,Bo.new _ _ _⟩ (bel1 _ _)
  exact jo
  all_goals (rintro wj hJ;(repeat rintro _ rfl);intro K hK;simp only[Jo.z]at hK|-;have xX4:=(X4.b hJ).cell;have xX0:=(X0.b hJ).cell;go_simp;exact hK.out _ _ rfl (br _ _))
 rintro w6 hJ _ rfl _ ⟨e20,K20,s20,M20,E20,K20b,s20b,M20b,E20b,rfl,v20⟩ _ rfl _ ⟨e21,K21,s21,M21,E21,K21b,s21b,M21b,E21b,rfl,v21⟩ _ rfl _ ⟨e22,K22,s22,M22,E22,K22b,s22b,M22b,E22b,rfl,v22⟩ _ ⟨e23,K23,s23,M23,E23,K23b,s23b,M23b,E23b,rfl,v23⟩ _ ⟨_,_,rfl,_⟩ _ ⟨e24,K24,s24,M24,E24,K24b,s24b,M24b,E24b,rfl,v24⟩ _ ⟨g10,rfl,hg10,X10⟩ -;simp only[Jo.z]
 replace HB:=Hqb HB hJ;have xX10:=X10.cell;have zX100:=X10.frozen
 refine jn 10 fun K hK=>?_
 go_simp;refine hK.out _ _ ?_;clear hK K xX10 zX100;generalize hS:((((((((w6.setCell _ _).setCell _ _).setCell _ _).setCell _ _).setCell _ _).setCell _ _).setCell _ _).setCell _ _).setCell _ _=w7 at *;have SX:=StN.of9 X10 hS;replace HB:=Hqs HB SX (by omega);replace X10:=SX.box;clear SX hS;refine jd ?_
 obtain rfl:e24=false:=v24.1
 have xX10:=X10.cell;go_wp2
 go_ret
 exact⟨rfl,HB.out⟩
theorem atanSlopes_walk (D0:Int)(s0:Bool)(M0 E0:Int)(w:World)(hT:Tab w)(hT2:Tb w)(w0:0<=M0)(u0:LQ M0):
  Calls Tryz.prog 8 #[VQ D0 s0 M0 E0] w fun e w'=>e= .returned (.bool true)/\Below w.heap.size w w':=by
 delta VQ
 obtain⟨q,hq⟩:=qf_ex;obtain⟨x,hx⟩:∃x,rk D0 s0 M0 E0=x:=⟨_,rfl⟩
 cases hm:decide (MayQ D0 s0 M0 E0)
 ·exact atanSlopes_no D0 s0 M0 E0 w hq hT hT2 w0 u0 hm
 ·cases hd:(D0==2)
  ·have fx:FinP x:=by
    have q1:=rk_fq u0 (of_decide_eq_true hm);rw[hx]at q1
    rcases q1.cases with⟨_,_,_,_,e⟩ | ⟨_,_,_,_,_,⟨_,e⟩ | ⟨_,e⟩⟩ | ⟨e,_⟩
    ·subst e;exact⟨by decide,by decide⟩
    ·exact⟨by omega,by omega⟩
    ·exact⟨by omega,by omega⟩
    ·rw[e]at hd
     cases hd
   obtain⟨Z,hZ⟩:=atv_ex q x;obtain⟨Zs,hs⟩:=all_ex false Z;obtain⟨Zc,hc⟩:=all_ex true Z;obtain⟨a,b,h1⟩:=at_slopes hq hZ fx.1 fx.2 hs hc
   have oz:SpOk Zs:=by
    obtain⟨a2,b2,e,_⟩:=hZ.tight hq (Int.le_of_lt fx.1) (Int.le_of_lt fx.2);rw[e]at hs;exact(all_us hs).fin.ok
   exact atanSlopes_in D0 s0 M0 E0 w hq hT hT2 w0 u0 hm hd x a b Z Zs Zc hx hZ hs hc oz (by rw[meetL2 oz];exact h1) (mkI_some (Int.le_refl _) fx.2 fx.1)
  ·exact atanSlopes_inf D0 s0 M0 E0 w hq hT hT2 w0 u0 hm hd
