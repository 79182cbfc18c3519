/-
  The walk of TrigWithin: for all arguments the call answers true, and nothing that was there has turned.
-/
import Derived.Test.YtaadmpiphnfllaaGreatDoorYAbo
namespace Go.Proofs.YtaadmpiphnfllaaGreatDoor
set_option maxHeartbeats 16000000
open Go.RowKit
set_option linter.unusedVariables false
set_option linter.unusedSimpArgs false
set_option maxRecDepth 100000
set_option maxRecDepth 100000 in
theorem trigWithin_no (e0:Bool)(D0:Int)(s0:Bool)(M0 E0 G0:Int)(g0:Bool)(P0 Q0:Int)(e1:Bool)(D1:Int)(s1:Bool)(M1 E1 G1:Int)(g1:Bool)(P1 Q1:Int)(D2:Int)(s2:Bool)(M2 E2:Int)(w:World)(hT:Tab w)(hT2:Tb w)(u0:LQ M0)(v0:LQ P0)(u1:LQ M1)(v1:LQ P1)(w2:0≤M2)(u2:LQ M2)(X Y:Sp)(n:Int)(hx:rkI e0 D0 s0 M0 E0 G0 g0 P0 Q0=X)(hy:rkI e1 D1 s1 M1 E1 G1 g1 P1 Q1=Y)(hn:rk D2 s2 M2 E2=n)(hw:witI X Y=false):
  Calls Tryz.prog 7 #[VI e0 D0 s0 M0 E0 G0 g0 P0 Q0,VI e1 D1 s1 M1 E1 G1 g1 P1 Q1,VQ D2 s2 M2 E2] w (PB w true):=by
 delta VI VQ
 have HX:=Lib.hid hx;have HY:=Lib.hid hy;have HW:=Lib.hid hw;clear hx hy hw
 go_enter Tryz.func7,Tryz.ntmps7
 go_upto_region 1 with (fail)
 generalize hW1:((w.alloc _).alloc _).alloc _=w1 at *;obtain⟨X0,X1,X2,HB⟩:=Bo.en3 hW1;replace hT:=hT.below HB.out;replace hT2:=hT2.below HB.out;clear hW1
 go_wp2_with fail
 refine (awake12 hT hT2).mono ?_;rintro ee wN ⟨rfl,B⟩;replace X0:=X0.below B;replace X1:=X1.below B;replace X2:=X2.below B;replace hT:=hT.below B;replace hT2:=hT2.below B;replace HB:=Hqb HB B;clear B;clear hT hT2;have xX0:=X0.cell;have xX1:=X1.cell
 go_wp2_with fail
 refine (kvWithin u0 v0 u1 v1 HX.out HY.out HW.out).mono ?_;rintro ee w3 ⟨rfl,B⟩;clear xX0 xX1;replace X0:=X0.below B;replace X1:=X1.below B;replace X2:=X2.below B;replace HB:=Hqb HB B;clear B;go_wp2
 go_ret
 exact⟨rfl,HB.out⟩
set_option maxRecDepth 100000 in
theorem trigWithin_out (e0:Bool)(D0:Int)(s0:Bool)(M0 E0 G0:Int)(g0:Bool)(P0 Q0:Int)(e1:Bool)(D1:Int)(s1:Bool)(M1 E1 G1:Int)(g1:Bool)(P1 Q1:Int)(D2:Int)(s2:Bool)(M2 E2:Int)(w:World)(hT:Tab w)(hT2:Tb w)(u0:LQ M0)(v0:LQ P0)(u1:LQ M1)(v1:LQ P1)(w2:0≤M2)(u2:LQ M2)(X Y:Sp)(n:Int)(hx:rkI e0 D0 s0 M0 E0 G0 g0 P0 Q0=X)(hy:rkI e1 D1 s1 M1 E1 G1 g1 P1 Q1=Y)(hn:rk D2 s2 M2 E2=n)(Ts Tc Zs Zc Ys Yc:Sp)(p q:Sp)(hw:witI X Y=true)(hts:Sv false n Ts)(htc:Sv true n Tc)(hzs:AllV false X Zs)(hzc:AllV true X Zc)(hys:AllV false Y Ys)(hyc:AllV true Y Yc)(h1:meetL [Ts,Zs]=p)(h2:meetL [Tc,Zc]=q)(hh:hasI X n=false)(ns:witI Zs (infI Ys p60)=true)(nc:witI Zc (infI Yc p60)=true):
  Calls Tryz.prog 7 #[VI e0 D0 s0 M0 E0 G0 g0 P0 Q0,VI e1 D1 s1 M1 E1 G1 g1 P1 Q1,VQ D2 s2 M2 E2] w (PB w true):=by
 delta VI VQ
 have HX:=Lib.hid hx;have HY:=Lib.hid hy;have HN:=Lib.hid hn;have HW:=Lib.hid hw;have HTS:=Lib.hid hts;have HTC:=Lib.hid htc;have HZS:=Lib.hid hzs;have HZC:=Lib.hid hzc;have HYS:=Lib.hid hys;have HYC:=Lib.hid hyc;have H1:=Lib.hid h1;have H2:=Lib.hid h2;have HH:=Lib.hid hh;have NS:=Lib.hid ns;have NC:=Lib.hid nc;clear hx hy hn hw hts htc hzs hzc hys hyc h1 h2 hh ns nc
 go_enter Tryz.func7,Tryz.ntmps7
 go_upto_region 1 with (fail)
 generalize hW1:((w.alloc _).alloc _).alloc _=w1 at *;obtain⟨X0,X1,X2,HB⟩:=Bo.en3 hW1;replace hT:=hT.below HB.out;replace hT2:=hT2.below HB.out;clear hW1
 go_wp2_with fail
 refine (awake12 hT hT2).mono ?_;rintro ee wN ⟨rfl,B⟩;replace X0:=X0.below B;replace X1:=X1.below B;replace X2:=X2.below B;replace hT:=hT.below B;replace hT2:=hT2.below B;replace HB:=Hqb HB B;clear B;have xX0:=X0.cell;have xX1:=X1.cell
 go_wp2_with fail
 refine (kvWithin u0 v0 u1 v1 HX.out HY.out HW.out).mono ?_;rintro ee w3 ⟨rfl,B⟩;clear xX0 xX1;replace X0:=X0.below B;replace X1:=X1.below B;replace X2:=X2.below B;replace hT:=hT.below B;replace hT2:=hT2.below B;replace HB:=Hqb HB B;clear B
 go_upto_region 4 with (fail)
 have ltX0:=X0.lt;have ltX1:=X1.lt;have ltX2:=X2.lt;refine Jo.rk [0,1,2,3,4,5,6] [some 18,some 19,some 20,some 21,some 22,some 23,some 8,none] [[],[0],[],[2],[1,3],[4],[],[]] 8 1 [Jo.q4 D2 s2 M2 E2,Jo.Fact.iv Ts,Jo.q9 e0 D0 s0 M0 E0 G0 g0 P0 Q0,Jo.Fact.iv Zs,Jo.Fact.il8 2 [Ts,Zs],Jo.Fact.iv p,Jo.Fact.bo w3.heap.size #[.bool false,.int .i64 0,.bool false,.int .u64 0,.int .i64 0,.int .i64 0,.bool false,.int .u64 0,.int .i64 0] 32,Jo.Fact.any] (by kernel_rfl) (by kernel_rfl) (by decide) rfl ?_ ?_
 ·refine Jo.jm rfl ?_ ?_;rotate_left
  refine Jo.jm rfl ?_ ?_
  ·rintro wj hJ _ rfl K hK;simp only [Jo.z]at hK⊢;go_simp;refine (tSin (hT.below hJ) w2 u2 HN.out HTS.out).mono ?_;rintro ee wk ⟨e20,K20,s20,M20,E20,K20b,s20b,M20b,E20b,rfl,v20,B⟩;exact hK.out _ _ ⟨e20,K20,s20,M20,E20,K20b,s20b,M20b,E20b,rfl,v20⟩ B
  refine Jo.jm rfl ?_ ?_;rotate_left
  refine Jo.jm rfl ?_ ?_
  ·rintro wj hJ _ rfl K hK;simp only [Jo.z]at hK⊢;go_simp;refine (tSinOf (hT.below hJ) (hT2.below hJ) u0 v0 HX.out HZS.out).mono ?_;rintro ee wk ⟨e21,K21,s21,M21,E21,K21b,s21b,M21b,E21b,rfl,v21,B⟩;exact hK.out _ _ ⟨e21,K21,s21,M21,E21,K21b,s21b,M21b,E21b,rfl,v21⟩ B
  refine Jo.jm rfl ?_ ?_
  ·rintro wj hJ _ ⟨e20,K20,s20,M20,E20,K20b,s20b,M20b,E20b,rfl,v20⟩ _ ⟨e21,K21,s21,M21,E21,K21b,s21b,M21b,E21b,rfl,v21⟩ K hK;simp only [Jo.z]at hK⊢;go_simp;exact hK.out _ _ ⟨_,2,rfl,Il8.lit2 rfl v20.rw v21.rw⟩ (bel1 _ _)
  refine Jo.jm rfl ?_ ?_
  ·rintro wj hJ _ ⟨A25,c25,rfl,h25⟩ K hK;simp only [Jo.z]at hK⊢;go_simp;refine (kvMeet h25 H1.out).mono ?_;rintro ee wk ⟨e22,K22,s22,M22,E22,K22b,s22b,M22b,E22b,rfl,v22,B⟩;exact hK.out _ _ ⟨e22,K22,s22,M22,E22,K22b,s22b,M22b,E22b,rfl,v22⟩ B
  refine Jo.jm rfl ?_ ?_
  ·rintro wj hJ K hK;simp only [Jo.z]at hK⊢;go_simp;exact hK.out _ _ ⟨_,rfl,hJ.size,Bo.new _ _ _⟩ (bel1 _ _)
  exact Jo.Steps.nil
  all_goals (rintro wj hJ;(repeat rintro _ rfl);intro K hK;simp only [Jo.z]at hK⊢;have xX2:=(X2.below hJ).cell;have xX0:=(X0.below hJ).cell;go_simp;exact hK.out _ _ rfl (br _ _))
 rintro w4 hJ _ rfl _ ⟨e20,K20,s20,M20,E20,K20b,s20b,M20b,E20b,rfl,v20⟩ _ rfl _ ⟨e21,K21,s21,M21,E21,K21b,s21b,M21b,E21b,rfl,v21⟩ _ ⟨_,_,rfl,_⟩ _ ⟨e22,K22,s22,M22,E22,K22b,s22b,M22b,E22b,rfl,v22⟩ _ ⟨g10,rfl,hg10,X10⟩ -;simp only [Jo.z];replace X0:=X0.below hJ;replace X1:=X1.below hJ;replace X2:=X2.below hJ;replace hT:=hT.below hJ;replace hT2:=hT2.below hJ
 replace HB:=Hqb HB hJ;have xX10:=X10.cell;have zX100:=X10.frozen
 refine Jo.jnext (i:=7) (o:=⟨none,_,_,_,_,_⟩) (by kernel_rfl) rfl (fun K hK=>?_)
 go_simp;refine hK.out _ _ ?_;clear hK K xX10 zX100;generalize hS:((((((((w4.setCell _ _).setCell _ _).setCell _ _).setCell _ _).setCell _ _).setCell _ _).setCell _ _).setCell _ _).setCell _ _=w5 at *;have SX:=StN.of9 X10 hS;replace X0:=X0.stn SX (by omega);replace X1:=X1.stn SX (by omega);replace X2:=X2.stn SX (by omega);replace hT:=hT.stn SX (by simp [no8])
 replace hT2:=hT2.stn SX (by simp [no8]);replace HB:=Hqs HB SX (by omega);replace X10:=SX.box;clear SX hS;refine Jo.jdone (by kernel_rfl) ?_;clear v20 v21
 go_upto_region 5 with (fail)
 have ltX0:=X0.lt;have ltX1:=X1.lt;have ltX2:=X2.lt;have ltX10:=X10.lt;refine Jo.rk [0,1,2,3,4,5,6] [some 24,some 25,some 26,some 27,some 28,some 29,some 9,none] [[],[0],[],[2],[1,3],[4],[],[]] 8 1 [Jo.q4 D2 s2 M2 E2,Jo.Fact.iv Tc,Jo.q9 e0 D0 s0 M0 E0 G0 g0 P0 Q0,Jo.Fact.iv Zc,Jo.Fact.il8 2 [Tc,Zc],Jo.Fact.iv q,Jo.Fact.bo w5.heap.size #[.bool false,.int .i64 0,.bool false,.int .u64 0,.int .i64 0,.int .i64 0,.bool false,.int .u64 0,.int .i64 0] 32,Jo.Fact.any] (by kernel_rfl) (by kernel_rfl) (by decide) rfl ?_ ?_
 ·refine Jo.jm rfl ?_ ?_;rotate_left
  refine Jo.jm rfl ?_ ?_
  ·rintro wj hJ _ rfl K hK;simp only [Jo.z]at hK⊢;go_simp;refine (tCos (hT.below hJ) w2 u2 HN.out HTC.out).mono ?_;rintro ee wk ⟨e30,K30,s30,M30,E30,K30b,s30b,M30b,E30b,rfl,v30,B⟩;exact hK.out _ _ ⟨e30,K30,s30,M30,E30,K30b,s30b,M30b,E30b,rfl,v30⟩ B
  refine Jo.jm rfl ?_ ?_;rotate_left
  refine Jo.jm rfl ?_ ?_
  ·rintro wj hJ _ rfl K hK;simp only [Jo.z]at hK⊢;go_simp;refine (tCosOf (hT.below hJ) (hT2.below hJ) u0 v0 HX.out HZC.out).mono ?_;rintro ee wk ⟨e31,K31,s31,M31,E31,K31b,s31b,M31b,E31b,rfl,v31,B⟩;exact hK.out _ _ ⟨e31,K31,s31,M31,E31,K31b,s31b,M31b,E31b,rfl,v31⟩ B
  refine Jo.jm rfl ?_ ?_
  ·rintro wj hJ _ ⟨e30,K30,s30,M30,E30,K30b,s30b,M30b,E30b,rfl,v30⟩ _ ⟨e31,K31,s31,M31,E31,K31b,s31b,M31b,E31b,rfl,v31⟩ K hK;simp only [Jo.z]at hK⊢;go_simp;exact hK.out _ _ ⟨_,2,rfl,Il8.lit2 rfl v30.rw v31.rw⟩ (bel1 _ _)
  refine Jo.jm rfl ?_ ?_
  ·rintro wj hJ _ ⟨A35,c35,rfl,h35⟩ K hK;simp only [Jo.z]at hK⊢;go_simp;refine (kvMeet h35 H2.out).mono ?_;rintro ee wk ⟨e32,K32,s32,M32,E32,K32b,s32b,M32b,E32b,rfl,v32,B⟩;exact hK.out _ _ ⟨e32,K32,s32,M32,E32,K32b,s32b,M32b,E32b,rfl,v32⟩ B
  refine Jo.jm rfl ?_ ?_
  ·rintro wj hJ K hK;simp only [Jo.z]at hK⊢;go_simp;exact hK.out _ _ ⟨_,rfl,hJ.size,Bo.new _ _ _⟩ (bel1 _ _)
  exact Jo.Steps.nil
  all_goals (rintro wj hJ;(repeat rintro _ rfl);intro K hK;simp only [Jo.z]at hK⊢;have xX2:=(X2.below hJ).cell;have xX0:=(X0.below hJ).cell;go_simp;exact hK.out _ _ rfl (br _ _))
 rintro w6 hJ _ rfl _ ⟨e30,K30,s30,M30,E30,K30b,s30b,M30b,E30b,rfl,v30⟩ _ rfl _ ⟨e31,K31,s31,M31,E31,K31b,s31b,M31b,E31b,rfl,v31⟩ _ ⟨_,_,rfl,_⟩ _ ⟨e32,K32,s32,M32,E32,K32b,s32b,M32b,E32b,rfl,v32⟩ _ ⟨g20,rfl,hg20,X20⟩ -;simp only [Jo.z];replace X0:=X0.below hJ;replace X1:=X1.below hJ;replace X2:=X2.below hJ;replace X10:=X10.below hJ;replace hT:=hT.below hJ
 replace hT2:=hT2.below hJ;replace HB:=Hqb HB hJ;have xX20:=X20.cell;have zX200:=X20.frozen
 refine Jo.jnext (i:=7) (o:=⟨none,_,_,_,_,_⟩) (by kernel_rfl) rfl (fun K hK=>?_)
 go_simp;refine hK.out _ _ ?_;clear hK K xX20 zX200;generalize hS:((((((((w6.setCell _ _).setCell _ _).setCell _ _).setCell _ _).setCell _ _).setCell _ _).setCell _ _).setCell _ _).setCell _ _=w7 at *;have SX:=StN.of9 X20 hS;replace X0:=X0.stn SX (by omega);replace X1:=X1.stn SX (by omega);replace X2:=X2.stn SX (by omega);replace X10:=X10.stn SX (by omega)
 replace hT:=hT.stn SX (by simp [no8]);replace hT2:=hT2.stn SX (by simp [no8]);replace HB:=Hqs HB SX (by omega);replace X20:=SX.box;clear SX hS;refine Jo.jdone (by kernel_rfl) ?_;clear v30 v31
 go_upto_region 6 with (fail)
 have xX0:=X0.cell;have xX2:=X2.cell
 go_wp2_with fail
 refine (kvHas u0 v0 u2 HX.out HN.out HH.out).mono ?_;rintro ee w8 ⟨rfl,B⟩;clear xX0 xX2;replace X0:=X0.below B;replace X1:=X1.below B;replace X2:=X2.below B;replace X10:=X10.below B;replace X20:=X20.below B;replace hT:=hT.below B;replace hT2:=hT2.below B;replace HB:=Hqb HB B;clear B;have xX10:=X10.cell
 have xX20:=X20.cell
 go_upto_region 8 with (fail)
 clear xX10 xX20;have ltX0:=X0.lt;have ltX1:=X1.lt;have ltX2:=X2.lt;have ltX10:=X10.lt;have ltX20:=X20.lt;refine Jo.rk [0,1,2,3,4,5] [some 41,some 42,some 43,some 44,some 45,some 10] [[],[0],[],[2],[1,3],[4]] 6 0 [Jo.q9 e0 D0 s0 M0 E0 G0 g0 P0 Q0,Jo.Fact.iv Zs,Jo.q9 e1 D1 s1 M1 E1 G1 g1 P1 Q1,Jo.Fact.iv Ys,Jo.qb true,Jo.qb true] (by kernel_rfl) (by kernel_rfl) (by decide) rfl ?_ ?_
 ·refine Jo.jm rfl ?_ ?_;rotate_left
  refine Jo.jm rfl ?_ ?_
  ·rintro wj hJ _ rfl K hK;simp only [Jo.z]at hK⊢;go_simp;refine (tSinOf (hT.below hJ) (hT2.below hJ) u0 v0 HX.out HZS.out).mono ?_;rintro ee wk ⟨e64,K64,s64,M64,E64,K64b,s64b,M64b,E64b,rfl,v64,B⟩;exact hK.out _ _ ⟨e64,K64,s64,M64,E64,K64b,s64b,M64b,E64b,rfl,v64⟩ B
  refine Jo.jm rfl ?_ ?_;rotate_left
  refine Jo.jm rfl ?_ ?_
  ·rintro wj hJ _ rfl K hK;simp only [Jo.z]at hK⊢;go_simp;refine (tSinOf (hT.below hJ) (hT2.below hJ) u1 v1 HY.out HYS.out).mono ?_;rintro ee wk ⟨e65,K65,s65,M65,E65,K65b,s65b,M65b,E65b,rfl,v65,B⟩;exact hK.out _ _ ⟨e65,K65,s65,M65,E65,K65b,s65b,M65b,E65b,rfl,v65⟩ B
  refine Jo.jm rfl ?_ ?_
  ·rintro wj hJ _ ⟨e64,K64,s64,M64,E64,K64b,s64b,M64b,E64b,rfl,v64⟩ _ ⟨e65,K65,s65,M65,E65,K65b,s65b,M65b,E65b,rfl,v65⟩ K hK;simp only [Jo.z]at hK⊢;go_simp;refine (tNearly (hT2.below hJ) v64.top.1 v64.top.2 v65.top.1 v65.top.2 v64.rk v65.rk NS.out).mono ?_;rintro ee wk ⟨rfl,B⟩;exact hK.out _ _ rfl B
  refine Jo.jm rfl ?_ ?_;rotate_left
  exact Jo.Steps.nil
  all_goals (rintro wj hJ;(repeat rintro _ rfl);intro K hK;simp only [Jo.z]at hK⊢;have xX0:=(X0.below hJ).cell;have xX1:=(X1.below hJ).cell;go_simp;exact hK.out _ _ rfl (br _ _))
 rintro w9 hJ _ rfl _ ⟨e64,K64,s64,M64,E64,K64b,s64b,M64b,E64b,rfl,v64⟩ _ rfl _ ⟨e65,K65,s65,M65,E65,K65b,s65b,M65b,E65b,rfl,v65⟩ _ rfl _ rfl -;simp only [Jo.z];replace X0:=X0.below hJ;replace X1:=X1.below hJ;replace X2:=X2.below hJ;replace X10:=X10.below hJ;replace X20:=X20.below hJ;replace hT:=hT.below hJ;replace hT2:=hT2.below hJ;replace HB:=Hqb HB hJ
 refine Jo.jdone (by kernel_rfl) ?_
 go_upto_region 9 with (fail)
 refine Jo.rk [0,1,2,3,4,5] [some 46,some 47,some 48,some 49,some 50,some 11] [[],[0],[],[2],[1,3],[4]] 6 0 [Jo.q9 e0 D0 s0 M0 E0 G0 g0 P0 Q0,Jo.Fact.iv Zc,Jo.q9 e1 D1 s1 M1 E1 G1 g1 P1 Q1,Jo.Fact.iv Yc,Jo.qb true,Jo.qb true] (by kernel_rfl) (by kernel_rfl) (by decide) rfl ?_ ?_
 ·refine Jo.jm rfl ?_ ?_;rotate_left
  refine Jo.jm rfl ?_ ?_
  ·rintro wj hJ _ rfl K hK;simp only [Jo.z]at hK⊢;go_simp;refine (tCosOf (hT.below hJ) (hT2.below hJ) u0 v0 HX.out HZC.out).mono ?_;rintro ee wk ⟨e67,K67,s67,M67,E67,K67b,s67b,M67b,E67b,rfl,v67,B⟩;exact hK.out _ _ ⟨e67,K67,s67,M67,E67,K67b,s67b,M67b,E67b,rfl,v67⟩ B
  refine Jo.jm rfl ?_ ?_;rotate_left
  refine Jo.jm rfl ?_ ?_
  ·rintro wj hJ _ rfl K hK;simp only [Jo.z]at hK⊢;go_simp;refine (tCosOf (hT.below hJ) (hT2.below hJ) u1 v1 HY.out HYC.out).mono ?_;rintro ee wk ⟨e68,K68,s68,M68,E68,K68b,s68b,M68b,E68b,rfl,v68,B⟩;exact hK.out _ _ ⟨e68,K68,s68,M68,E68,K68b,s68b,M68b,E68b,rfl,v68⟩ B
  refine Jo.jm rfl ?_ ?_
  ·rintro wj hJ _ ⟨e67,K67,s67,M67,E67,K67b,s67b,M67b,E67b,rfl,v67⟩ _ ⟨e68,K68,s68,M68,E68,K68b,s68b,M68b,E68b,rfl,v68⟩ K hK;simp only [Jo.z]at hK⊢;go_simp;refine (tNearly (hT2.below hJ) v67.top.1 v67.top.2 v68.top.1 v68.top.2 v67.rk v68.rk NC.out).mono ?_;rintro ee wk ⟨rfl,B⟩;exact hK.out _ _ rfl B
  refine Jo.jm rfl ?_ ?_;rotate_left
  exact Jo.Steps.nil
  all_goals (rintro wj hJ;(repeat rintro _ rfl);intro K hK;simp only [Jo.z]at hK⊢;have xX0:=(X0.below hJ).cell;have xX1:=(X1.below hJ).cell;go_simp;exact hK.out _ _ rfl (br _ _))
 rintro wA hJ _ rfl _ ⟨e67,K67,s67,M67,E67,K67b,s67b,M67b,E67b,rfl,v67⟩ _ rfl _ ⟨e68,K68,s68,M68,E68,K68b,s68b,M68b,E68b,rfl,v68⟩ _ rfl _ rfl -;simp only [Jo.z];replace X0:=X0.below hJ;replace X1:=X1.below hJ;replace X2:=X2.below hJ;replace X10:=X10.below hJ;replace X20:=X20.below hJ;replace hT:=hT.below hJ;replace hT2:=hT2.below hJ;replace HB:=Hqb HB hJ
 refine Jo.jdone (by kernel_rfl) ?_;go_wp2
 go_ret
 exact⟨rfl,HB.out⟩
set_option maxRecDepth 100000 in
theorem trigWithin_in (e0:Bool)(D0:Int)(s0:Bool)(M0 E0 G0:Int)(g0:Bool)(P0 Q0:Int)(e1:Bool)(D1:Int)(s1:Bool)(M1 E1 G1:Int)(g1:Bool)(P1 Q1:Int)(D2:Int)(s2:Bool)(M2 E2:Int)(w:World)(hT:Tab w)(hT2:Tb w)(u0:LQ M0)(v0:LQ P0)(u1:LQ M1)(v1:LQ P1)(w2:0≤M2)(u2:LQ M2)(X Y:Sp)(n:Int)(hx:rkI e0 D0 s0 M0 E0 G0 g0 P0 Q0=X)(hy:rkI e1 D1 s1 M1 E1 G1 g1 P1 Q1=Y)(hn:rk D2 s2 M2 E2=n)(Ts Tc Zs Zc Ys Yc:Sp)(a b a' b':Int)(hw:witI X Y=true)(hts:Sv false n Ts)(htc:Sv true n Tc)(hzs:AllV false X Zs)(hzc:AllV true X Zc)(hys:AllV false Y Ys)(hyc:AllV true Y Yc)(h1:meetL [Ts,Zs]=some (a,b))(h2:meetL [Tc,Zc]=some (a',b'))(hh:hasI X n=true)(ns:witI Zs (infI Ys p60)=true)(nc:witI Zc (infI Yc p60)=true):
  Calls Tryz.prog 7 #[VI e0 D0 s0 M0 E0 G0 g0 P0 Q0,VI e1 D1 s1 M1 E1 G1 g1 P1 Q1,VQ D2 s2 M2 E2] w (PB w true):=by
 delta VI VQ
 have HX:=Lib.hid hx;have HY:=Lib.hid hy;have HN:=Lib.hid hn;have HW:=Lib.hid hw;have HTS:=Lib.hid hts;have HTC:=Lib.hid htc;have HZS:=Lib.hid hzs;have HZC:=Lib.hid hzc;have HYS:=Lib.hid hys;have HYC:=Lib.hid hyc;have H1:=Lib.hid h1;have H2:=Lib.hid h2;have HH:=Lib.hid hh;have NS:=Lib.hid ns;have NC:=Lib.hid nc;clear hx hy hn hw hts htc hzs hzc hys hyc h1 h2 hh ns nc
 go_enter Tryz.func7,Tryz.ntmps7
 go_upto_region 1 with (fail)
 generalize hW1:((w.alloc _).alloc _).alloc _=w1 at *;obtain⟨X0,X1,X2,HB⟩:=Bo.en3 hW1;replace hT:=hT.below HB.out;replace hT2:=hT2.below HB.out;clear hW1
 go_wp2_with fail
 refine (awake12 hT hT2).mono ?_;rintro ee wN ⟨rfl,B⟩;replace X0:=X0.below B;replace X1:=X1.below B;replace X2:=X2.below B;replace hT:=hT.below B;replace hT2:=hT2.below B;replace HB:=Hqb HB B;clear B;have xX0:=X0.cell;have xX1:=X1.cell
 go_wp2_with fail
 refine (kvWithin u0 v0 u1 v1 HX.out HY.out HW.out).mono ?_;rintro ee w3 ⟨rfl,B⟩;clear xX0 xX1;replace X0:=X0.below B;replace X1:=X1.below B;replace X2:=X2.below B;replace hT:=hT.below B;replace hT2:=hT2.below B;replace HB:=Hqb HB B;clear B
 go_upto_region 4 with (fail)
 have ltX0:=X0.lt;have ltX1:=X1.lt;have ltX2:=X2.lt;refine Jo.rk [0,1,2,3,4,5,6] [some 18,some 19,some 20,some 21,some 22,some 23,some 8,none] [[],[0],[],[2],[1,3],[4],[],[]] 8 1 [Jo.q4 D2 s2 M2 E2,Jo.Fact.iv Ts,Jo.q9 e0 D0 s0 M0 E0 G0 g0 P0 Q0,Jo.Fact.iv Zs,Jo.Fact.il8 2 [Ts,Zs],Jo.Fact.iv (some (a,b)),Jo.Fact.bo w3.heap.size #[.bool false,.int .i64 0,.bool false,.int .u64 0,.int .i64 0,.int .i64 0,.bool false,.int .u64 0,.int .i64 0] 32,Jo.Fact.any] (by kernel_rfl) (by kernel_rfl) (by decide) rfl ?_ ?_
 ·refine Jo.jm rfl ?_ ?_;rotate_left
  refine Jo.jm rfl ?_ ?_
  ·rintro wj hJ _ rfl K hK;simp only [Jo.z]at hK⊢;go_simp;refine (tSin (hT.below hJ) w2 u2 HN.out HTS.out).mono ?_;rintro ee wk ⟨e20,K20,s20,M20,E20,K20b,s20b,M20b,E20b,rfl,v20,B⟩;exact hK.out _ _ ⟨e20,K20,s20,M20,E20,K20b,s20b,M20b,E20b,rfl,v20⟩ B
  refine Jo.jm rfl ?_ ?_;rotate_left
  refine Jo.jm rfl ?_ ?_
  ·rintro wj hJ _ rfl K hK;simp only [Jo.z]at hK⊢;go_simp;refine (tSinOf (hT.below hJ) (hT2.below hJ) u0 v0 HX.out HZS.out).mono ?_;rintro ee wk ⟨e21,K21,s21,M21,E21,K21b,s21b,M21b,E21b,rfl,v21,B⟩;exact hK.out _ _ ⟨e21,K21,s21,M21,E21,K21b,s21b,M21b,E21b,rfl,v21⟩ B
  refine Jo.jm rfl ?_ ?_
  ·rintro wj hJ _ ⟨e20,K20,s20,M20,E20,K20b,s20b,M20b,E20b,rfl,v20⟩ _ ⟨e21,K21,s21,M21,E21,K21b,s21b,M21b,E21b,rfl,v21⟩ K hK;simp only [Jo.z]at hK⊢;go_simp;exact hK.out _ _ ⟨_,2,rfl,Il8.lit2 rfl v20.rw v21.rw⟩ (bel1 _ _)
  refine Jo.jm rfl ?_ ?_
  ·rintro wj hJ _ ⟨A25,c25,rfl,h25⟩ K hK;simp only [Jo.z]at hK⊢;go_simp;refine (kvMeet h25 H1.out).mono ?_;rintro ee wk ⟨e22,K22,s22,M22,E22,K22b,s22b,M22b,E22b,rfl,v22,B⟩;exact hK.out _ _ ⟨e22,K22,s22,M22,E22,K22b,s22b,M22b,E22b,rfl,v22⟩ B
  refine Jo.jm rfl ?_ ?_
  ·rintro wj hJ K hK;simp only [Jo.z]at hK⊢;go_simp;exact hK.out _ _ ⟨_,rfl,hJ.size,Bo.new _ _ _⟩ (bel1 _ _)
  exact Jo.Steps.nil
  all_goals (rintro wj hJ;(repeat rintro _ rfl);intro K hK;simp only [Jo.z]at hK⊢;have xX2:=(X2.below hJ).cell;have xX0:=(X0.below hJ).cell;go_simp;exact hK.out _ _ rfl (br _ _))
 rintro w4 hJ _ rfl _ ⟨e20,K20,s20,M20,E20,K20b,s20b,M20b,E20b,rfl,v20⟩ _ rfl _ ⟨e21,K21,s21,M21,E21,K21b,s21b,M21b,E21b,rfl,v21⟩ _ ⟨_,_,rfl,_⟩ _ ⟨e22,K22,s22,M22,E22,K22b,s22b,M22b,E22b,rfl,v22⟩ _ ⟨g10,rfl,hg10,X10⟩ -;simp only [Jo.z];replace X0:=X0.below hJ;replace X1:=X1.below hJ;replace X2:=X2.below hJ;replace hT:=hT.below hJ;replace hT2:=hT2.below hJ
 replace HB:=Hqb HB hJ;have xX10:=X10.cell;have zX100:=X10.frozen
 refine Jo.jnext (i:=7) (o:=⟨none,_,_,_,_,_⟩) (by kernel_rfl) rfl (fun K hK=>?_)
 go_simp;refine hK.out _ _ ?_;clear hK K xX10 zX100;generalize hS:((((((((w4.setCell _ _).setCell _ _).setCell _ _).setCell _ _).setCell _ _).setCell _ _).setCell _ _).setCell _ _).setCell _ _=w5 at *;have SX:=StN.of9 X10 hS;replace X0:=X0.stn SX (by omega);replace X1:=X1.stn SX (by omega);replace X2:=X2.stn SX (by omega);replace hT:=hT.stn SX (by simp [no8])
 replace hT2:=hT2.stn SX (by simp [no8]);replace HB:=Hqs HB SX (by omega);replace X10:=SX.box;clear SX hS;refine Jo.jdone (by kernel_rfl) ?_;clear v20 v21
 obtain rfl:e22=false:=v22.1
 go_upto_region 5 with (fail)
 have ltX0:=X0.lt;have ltX1:=X1.lt;have ltX2:=X2.lt;have ltX10:=X10.lt;refine Jo.rk [0,1,2,3,4,5,6] [some 24,some 25,some 26,some 27,some 28,some 29,some 9,none] [[],[0],[],[2],[1,3],[4],[],[]] 8 1 [Jo.q4 D2 s2 M2 E2,Jo.Fact.iv Tc,Jo.q9 e0 D0 s0 M0 E0 G0 g0 P0 Q0,Jo.Fact.iv Zc,Jo.Fact.il8 2 [Tc,Zc],Jo.Fact.iv (some (a',b')),Jo.Fact.bo w5.heap.size #[.bool false,.int .i64 0,.bool false,.int .u64 0,.int .i64 0,.int .i64 0,.bool false,.int .u64 0,.int .i64 0] 32,Jo.Fact.any] (by kernel_rfl) (by kernel_rfl) (by decide) rfl ?_ ?_
 ·refine Jo.jm rfl ?_ ?_;rotate_left
  refine Jo.jm rfl ?_ ?_
  ·rintro wj hJ _ rfl K hK;simp only [Jo.z]at hK⊢;go_simp;refine (tCos (hT.below hJ) w2 u2 HN.out HTC.out).mono ?_;rintro ee wk ⟨e30,K30,s30,M30,E30,K30b,s30b,M30b,E30b,rfl,v30,B⟩;exact hK.out _ _ ⟨e30,K30,s30,M30,E30,K30b,s30b,M30b,E30b,rfl,v30⟩ B
  refine Jo.jm rfl ?_ ?_;rotate_left
  refine Jo.jm rfl ?_ ?_
  ·rintro wj hJ _ rfl K hK;simp only [Jo.z]at hK⊢;go_simp;refine (tCosOf (hT.below hJ) (hT2.below hJ) u0 v0 HX.out HZC.out).mono ?_;rintro ee wk ⟨e31,K31,s31,M31,E31,K31b,s31b,M31b,E31b,rfl,v31,B⟩;exact hK.out _ _ ⟨e31,K31,s31,M31,E31,K31b,s31b,M31b,E31b,rfl,v31⟩ B
  refine Jo.jm rfl ?_ ?_
  ·rintro wj hJ _ ⟨e30,K30,s30,M30,E30,K30b,s30b,M30b,E30b,rfl,v30⟩ _ ⟨e31,K31,s31,M31,E31,K31b,s31b,M31b,E31b,rfl,v31⟩ K hK;simp only [Jo.z]at hK⊢;go_simp;exact hK.out _ _ ⟨_,2,rfl,Il8.lit2 rfl v30.rw v31.rw⟩ (bel1 _ _)
  refine Jo.jm rfl ?_ ?_
  ·rintro wj hJ _ ⟨A35,c35,rfl,h35⟩ K hK;simp only [Jo.z]at hK⊢;go_simp;refine (kvMeet h35 H2.out).mono ?_;rintro ee wk ⟨e32,K32,s32,M32,E32,K32b,s32b,M32b,E32b,rfl,v32,B⟩;exact hK.out _ _ ⟨e32,K32,s32,M32,E32,K32b,s32b,M32b,E32b,rfl,v32⟩ B
  refine Jo.jm rfl ?_ ?_
  ·rintro wj hJ K hK;simp only [Jo.z]at hK⊢;go_simp;exact hK.out _ _ ⟨_,rfl,hJ.size,Bo.new _ _ _⟩ (bel1 _ _)
  exact Jo.Steps.nil
  all_goals (rintro wj hJ;(repeat rintro _ rfl);intro K hK;simp only [Jo.z]at hK⊢;have xX2:=(X2.below hJ).cell;have xX0:=(X0.below hJ).cell;go_simp;exact hK.out _ _ rfl (br _ _))
 rintro w6 hJ _ rfl _ ⟨e30,K30,s30,M30,E30,K30b,s30b,M30b,E30b,rfl,v30⟩ _ rfl _ ⟨e31,K31,s31,M31,E31,K31b,s31b,M31b,E31b,rfl,v31⟩ _ ⟨_,_,rfl,_⟩ _ ⟨e32,K32,s32,M32,E32,K32b,s32b,M32b,E32b,rfl,v32⟩ _ ⟨g20,rfl,hg20,X20⟩ -;simp only [Jo.z];replace X0:=X0.below hJ;replace X1:=X1.below hJ;replace X2:=X2.below hJ;replace X10:=X10.below hJ;replace hT:=hT.below hJ
 replace hT2:=hT2.below hJ;replace HB:=Hqb HB hJ;have xX20:=X20.cell;have zX200:=X20.frozen
 refine Jo.jnext (i:=7) (o:=⟨none,_,_,_,_,_⟩) (by kernel_rfl) rfl (fun K hK=>?_)
 go_simp;refine hK.out _ _ ?_;clear hK K xX20 zX200;generalize hS:((((((((w6.setCell _ _).setCell _ _).setCell _ _).setCell _ _).setCell _ _).setCell _ _).setCell _ _).setCell _ _).setCell _ _=w7 at *;have SX:=StN.of9 X20 hS;replace X0:=X0.stn SX (by omega);replace X1:=X1.stn SX (by omega);replace X2:=X2.stn SX (by omega);replace X10:=X10.stn SX (by omega)
 replace hT:=hT.stn SX (by simp [no8]);replace hT2:=hT2.stn SX (by simp [no8]);replace HB:=Hqs HB SX (by omega);replace X20:=SX.box;clear SX hS;refine Jo.jdone (by kernel_rfl) ?_;clear v30 v31
 obtain rfl:e32=false:=v32.1
 go_upto_region 6 with (fail)
 have xX0:=X0.cell;have xX2:=X2.cell
 go_wp2_with fail
 refine (kvHas u0 v0 u2 HX.out HN.out HH.out).mono ?_;rintro ee w8 ⟨rfl,B⟩;clear xX0 xX2;replace X0:=X0.below B;replace X1:=X1.below B;replace X2:=X2.below B;replace X10:=X10.below B;replace X20:=X20.below B;replace hT:=hT.below B;replace hT2:=hT2.below B;replace HB:=Hqb HB B;clear B;have xX10:=X10.cell
 have xX20:=X20.cell
 go_upto_region 8 with (fail)
 clear xX10 xX20;have ltX0:=X0.lt;have ltX1:=X1.lt;have ltX2:=X2.lt;have ltX10:=X10.lt;have ltX20:=X20.lt;refine Jo.rk [0,1,2,3,4,5] [some 41,some 42,some 43,some 44,some 45,some 10] [[],[0],[],[2],[1,3],[4]] 6 0 [Jo.q9 e0 D0 s0 M0 E0 G0 g0 P0 Q0,Jo.Fact.iv Zs,Jo.q9 e1 D1 s1 M1 E1 G1 g1 P1 Q1,Jo.Fact.iv Ys,Jo.qb true,Jo.qb true] (by kernel_rfl) (by kernel_rfl) (by decide) rfl ?_ ?_
 ·refine Jo.jm rfl ?_ ?_;rotate_left
  refine Jo.jm rfl ?_ ?_
  ·rintro wj hJ _ rfl K hK;simp only [Jo.z]at hK⊢;go_simp;refine (tSinOf (hT.below hJ) (hT2.below hJ) u0 v0 HX.out HZS.out).mono ?_;rintro ee wk ⟨e64,K64,s64,M64,E64,K64b,s64b,M64b,E64b,rfl,v64,B⟩;exact hK.out _ _ ⟨e64,K64,s64,M64,E64,K64b,s64b,M64b,E64b,rfl,v64⟩ B
  refine Jo.jm rfl ?_ ?_;rotate_left
  refine Jo.jm rfl ?_ ?_
  ·rintro wj hJ _ rfl K hK;simp only [Jo.z]at hK⊢;go_simp;refine (tSinOf (hT.below hJ) (hT2.below hJ) u1 v1 HY.out HYS.out).mono ?_;rintro ee wk ⟨e65,K65,s65,M65,E65,K65b,s65b,M65b,E65b,rfl,v65,B⟩;exact hK.out _ _ ⟨e65,K65,s65,M65,E65,K65b,s65b,M65b,E65b,rfl,v65⟩ B
  refine Jo.jm rfl ?_ ?_
  ·rintro wj hJ _ ⟨e64,K64,s64,M64,E64,K64b,s64b,M64b,E64b,rfl,v64⟩ _ ⟨e65,K65,s65,M65,E65,K65b,s65b,M65b,E65b,rfl,v65⟩ K hK;simp only [Jo.z]at hK⊢;go_simp;refine (tNearly (hT2.below hJ) v64.top.1 v64.top.2 v65.top.1 v65.top.2 v64.rk v65.rk NS.out).mono ?_;rintro ee wk ⟨rfl,B⟩;exact hK.out _ _ rfl B
  refine Jo.jm rfl ?_ ?_;rotate_left
  exact Jo.Steps.nil
  all_goals (rintro wj hJ;(repeat rintro _ rfl);intro K hK;simp only [Jo.z]at hK⊢;have xX0:=(X0.below hJ).cell;have xX1:=(X1.below hJ).cell;go_simp;exact hK.out _ _ rfl (br _ _))
 rintro w9 hJ _ rfl _ ⟨e64,K64,s64,M64,E64,K64b,s64b,M64b,E64b,rfl,v64⟩ _ rfl _ ⟨e65,K65,s65,M65,E65,K65b,s65b,M65b,E65b,rfl,v65⟩ _ rfl _ rfl -;simp only [Jo.z];replace X0:=X0.below hJ;replace X1:=X1.below hJ;replace X2:=X2.below hJ;replace X10:=X10.below hJ;replace X20:=X20.below hJ;replace hT:=hT.below hJ;replace hT2:=hT2.below hJ;replace HB:=Hqb HB hJ
 refine Jo.jdone (by kernel_rfl) ?_
 go_upto_region 9 with (fail)
 refine Jo.rk [0,1,2,3,4,5] [some 46,some 47,some 48,some 49,some 50,some 11] [[],[0],[],[2],[1,3],[4]] 6 0 [Jo.q9 e0 D0 s0 M0 E0 G0 g0 P0 Q0,Jo.Fact.iv Zc,Jo.q9 e1 D1 s1 M1 E1 G1 g1 P1 Q1,Jo.Fact.iv Yc,Jo.qb true,Jo.qb true] (by kernel_rfl) (by kernel_rfl) (by decide) rfl ?_ ?_
 ·refine Jo.jm rfl ?_ ?_;rotate_left
  refine Jo.jm rfl ?_ ?_
  ·rintro wj hJ _ rfl K hK;simp only [Jo.z]at hK⊢;go_simp;refine (tCosOf (hT.below hJ) (hT2.below hJ) u0 v0 HX.out HZC.out).mono ?_;rintro ee wk ⟨e67,K67,s67,M67,E67,K67b,s67b,M67b,E67b,rfl,v67,B⟩;exact hK.out _ _ ⟨e67,K67,s67,M67,E67,K67b,s67b,M67b,E67b,rfl,v67⟩ B
  refine Jo.jm rfl ?_ ?_;rotate_left
  refine Jo.jm rfl ?_ ?_
  ·rintro wj hJ _ rfl K hK;simp only [Jo.z]at hK⊢;go_simp;refine (tCosOf (hT.below hJ) (hT2.below hJ) u1 v1 HY.out HYC.out).mono ?_;rintro ee wk ⟨e68,K68,s68,M68,E68,K68b,s68b,M68b,E68b,rfl,v68,B⟩;exact hK.out _ _ ⟨e68,K68,s68,M68,E68,K68b,s68b,M68b,E68b,rfl,v68⟩ B
  refine Jo.jm rfl ?_ ?_
  ·rintro wj hJ _ ⟨e67,K67,s67,M67,E67,K67b,s67b,M67b,E67b,rfl,v67⟩ _ ⟨e68,K68,s68,M68,E68,K68b,s68b,M68b,E68b,rfl,v68⟩ K hK;simp only [Jo.z]at hK⊢;go_simp;refine (tNearly (hT2.below hJ) v67.top.1 v67.top.2 v68.top.1 v68.top.2 v67.rk v68.rk NC.out).mono ?_;rintro ee wk ⟨rfl,B⟩;exact hK.out _ _ rfl B
  refine Jo.jm rfl ?_ ?_;rotate_left
  exact Jo.Steps.nil
  all_goals (rintro wj hJ;(repeat rintro _ rfl);intro K hK;simp only [Jo.z]at hK⊢;have xX0:=(X0.below hJ).cell;have xX1:=(X1.below hJ).cell;go_simp;exact hK.out _ _ rfl (br _ _))
 rintro wA hJ _ rfl _ ⟨e67,K67,s67,M67,E67,K67b,s67b,M67b,E67b,rfl,v67⟩ _ rfl _ ⟨e68,K68,s68,M68,E68,K68b,s68b,M68b,E68b,rfl,v68⟩ _ rfl _ rfl -;simp only [Jo.z];replace X0:=X0.below hJ;replace X1:=X1.below hJ;replace X2:=X2.below hJ;replace X10:=X10.below hJ;replace X20:=X20.below hJ;replace hT:=hT.below hJ;replace hT2:=hT2.below hJ;replace HB:=Hqb HB hJ
 refine Jo.jdone (by kernel_rfl) ?_;go_wp2
 go_ret
 exact⟨rfl,HB.out⟩
theorem trigWithin_walk (e0:Bool)(D0:Int)(s0:Bool)(M0 E0 G0:Int)(g0:Bool)(P0 Q0:Int)(e1:Bool)(D1:Int)(s1:Bool)(M1 E1 G1:Int)(g1:Bool)(P1 Q1:Int)(D2:Int)(s2:Bool)(M2 E2:Int)(w:World)(hT:Tab w)(hT2:Tb w)(u0:LQ M0)(v0:LQ P0)(u1:LQ M1)(v1:LQ P1)(w2:0≤M2)(u2:LQ M2):
  Calls Tryz.prog 7 #[VI e0 D0 s0 M0 E0 G0 g0 P0 Q0,VI e1 D1 s1 M1 E1 G1 g1 P1 Q1,VQ D2 s2 M2 E2] w fun e w'=>e= .returned (.bool true)∧Below w.heap.size w w':=by
 delta VI VQ
 obtain⟨X,hx⟩:∃X,rkI e0 D0 s0 M0 E0 G0 g0 P0 Q0=X:=⟨_,rfl⟩;obtain⟨Y,hy⟩:∃Y,rkI e1 D1 s1 M1 E1 G1 g1 P1 Q1=Y:=⟨_,rfl⟩;obtain⟨n,hn⟩:∃n,rk D2 s2 M2 E2=n:=⟨_,rfl⟩
 have okX:SpOk X:=hx▸rkI_ok u0 v0
 have okY:SpOk Y:=hy▸rkI_ok u1 v1
 have bn:=rk_bd (K:=D2) (s:=s2) (E:=E2) u2;rw [hn]at bn
 cases hw:witI X Y
 ·exact trigWithin_no e0 D0 s0 M0 E0 G0 g0 P0 Q0 e1 D1 s1 M1 E1 G1 g1 P1 Q1 D2 s2 M2 E2 w hT hT2 u0 v0 u1 v1 w2 u2 X Y n hx hy hn hw
 ·obtain⟨Ts,hts⟩:=sv_ex false n;obtain⟨Tc,htc⟩:=sv_ex true n;obtain⟨Zs,hzs⟩:=all_ex false X;obtain⟨Zc,hzc⟩:=all_ex true X;obtain⟨Ys,hys⟩:=all_ex false Y;obtain⟨Yc,hyc⟩:=all_ex true Y;have ns:=all_within hzs hys okX okY hw;have nc:=all_within hzc hyc okX okY hw
  cases hh:hasI X n
  ·exact trigWithin_out e0 D0 s0 M0 E0 G0 g0 P0 Q0 e1 D1 s1 M1 E1 G1 g1 P1 Q1 D2 s2 M2 E2 w hT hT2 u0 v0 u1 v1 w2 u2 X Y n hx hy hn Ts Tc Zs Zc Ys Yc _ _ hw hts htc hzs hzc hys hyc rfl rfl hh ns nc
  ·obtain⟨a,b,m1⟩:=all_meets hzs hh bn.1 bn.2 hts;obtain⟨a',b',m2⟩:=all_meets hzc hh bn.1 bn.2 htc;exact trigWithin_in e0 D0 s0 M0 E0 G0 g0 P0 Q0 e1 D1 s1 M1 E1 G1 g1 P1 Q1 D2 s2 M2 E2 w hT hT2 u0 v0 u1 v1 w2 u2 X Y n hx hy hn Ts Tc Zs Zc Ys Yc a b a' b' hw hts htc hzs hzc hys hyc (by rw [meetL2 (sv_us hts).fin.ok];exact m1) (by rw [meetL2 (sv_us htc).fin.ok];exact m2) hh ns nc
end Go.Proofs.YtaadmpiphnfllaaGreatDoor
