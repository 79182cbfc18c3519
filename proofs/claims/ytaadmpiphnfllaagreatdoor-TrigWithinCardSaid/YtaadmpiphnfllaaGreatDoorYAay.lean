/-
 Contracts that the proof rests on.
-/
import Derived.Test.YtaadmpiphnfllaaGreatDoorYAax
namespace Go.Proofs.YtaadmpiphnfllaaGreatDoor
set_option maxHeartbeats 8000000
open Go.RowKit
set_option linter.unusedVariables false
set_option linter.unusedSimpArgs false
set_option maxRecDepth 100000
theorem fq_tk{D:Int}{s:Bool}{M E:Int}(hM:LQ M):∃K1 s1 M1 E1,Fq K1 s1 M1 E1 (rk D s M E):=by
 by_cases hm:MayQ D s M E
 ·exact⟨_,_,_,_,rk_fq hM hm⟩
 ·rw [rk_not hm];exact⟨_,_,_,_,Fq.nought⟩
theorem aTaken{w:World}{D M E:Int}{s:Bool}{K1 M1 E1 x:Int}{s1:Bool}(hM:LQ M)(q:Fq K1 s1 M1 E1 x)(hx:rk D s M E=x):Calls Tryz.prog 127 #[VQ D s M E] w (fun e w'=>e= .returned (.agg #[.int .i64 K1,.bool s1,.int .u64 M1,.int .i64 E1])∧Below w.heap.size w w'):=by
 delta VQ
 by_cases hm:MayQ D s M E
 ·obtain⟨rfl,rfl,rfl,rfl⟩:=q.uniq (hx▸rk_fq hM hm)
  have HC:=Lib.hid (show decide (MayQ K1 s1 M1 E1)=true from decide_eq_true hm)
  clear hm hx hM q
  go_enter Tryz.func127,Tryz.ntmps127
  go_upto_region 1 with (fail)
  generalize hW1:(w.alloc _).alloc _=w1 at *;obtain⟨X1,XR,HB⟩:=Bo.en2 hW1;clear hW1;have xX1:=X1.cell
  go_wp2_with fail
  refine (nMay HC.out).mono ?_;rintro ee w2 ⟨rfl,B⟩;clear xX1;replace X1:=X1.below B;replace XR:=XR.below B;replace HB:=Hqb HB B;clear B;have xXR:=XR.cell;have zXR0:=XR.frozen;have xX1:=X1.cell;go_wp2;clear xXR zXR0 xX1;have SX:=StN.mk4 XR (.int .i64 K1) (.bool s1) (.int .u64 M1) (.int .i64 E1)
  exact bodyPost_ret (v:= .agg #[.int .i64 K1,.bool s1,.int .u64 M1,.int .i64 E1]) (by simp [results,Tryz.results127,go_sem,SX.box.cell]) rfl ⟨rfl,(SX.below HB.out (by omega))⟩
 ·rw [rk_not hm]at hx;subst hx;obtain⟨rfl,rfl,rfl,rfl⟩:=q.uniq Fq.nought
  have HC:=Lib.hid (show decide (MayQ D s M E)=false from decide_eq_false hm)
  clear hm hM q
  go_enter Tryz.func127,Tryz.ntmps127
  go_upto_region 1 with (fail)
  generalize hW1:(w.alloc _).alloc _=w1 at *;obtain⟨X1,XR,HB⟩:=Bo.en2 hW1;clear hW1;have xX1:=X1.cell
  go_wp2_with fail
  refine (nMay HC.out).mono ?_;rintro ee w2 ⟨rfl,B⟩;clear xX1;replace X1:=X1.below B;replace XR:=XR.below B;replace HB:=Hqb HB B;clear B;have xXR:=XR.cell;have zXR0:=XR.frozen;have xX1:=X1.cell;go_wp2;clear xXR zXR0 xX1;have SX:=StN.mk4 XR (.int .i64 0) (.bool false) (.int .u64 0) (.int .i64 0)
  exact bodyPost_ret (v:= .agg #[.int .i64 0,.bool false,.int .u64 0,.int .i64 0]) (by simp [results,Tryz.results127,go_sem,SX.box.cell]) rfl ⟨rfl,(SX.below HB.out (by omega))⟩
theorem aAdd{w:World}{D D' M M' E E':Int}{s s':Bool}{up:Bool}{x y r:Int}(hT:Tb w)(hM:LQ M)(hM':LQ M')(hx:rk D s M E=x)(hy:rk D' s' M' E'=y)(hr:addp up x y=r):Calls Tryz.prog 126 #[VQ D s M E,VQ D' s' M' E',.bool up] w (PN w r):=by
 delta VQ
 obtain⟨K1,s1,M1,E1,q1⟩:=fq_tk (D:=D) (s:=s) (M:=M) (E:=E) hM;obtain⟨K2,s2,M2,E2,q2⟩:=fq_tk (D:=D') (s:=s') (M:=M') (E:=E') hM';rw [hx]at q1;rw [hy]at q2;have HX:=Lib.hid hx;have HY:=Lib.hid hy;clear hx hy
 go_enter Tryz.func126,Tryz.ntmps126
 go_upto_region 1 with (fail)
 generalize hW1:((w.alloc _).alloc _).alloc _=w1 at *;obtain⟨X3,X4,XR,HB⟩:=Bo.en3 hW1;replace hT:=hT.below HB.out;clear hW1;refine Jo.rk [0,1,2,3] [some 7,some 8,some 9,some 10,none,none] [[],[0],[],[2],[],[]] 6 2 [Jo.q4 D s M E,Jo.q4 K1 s1 M1 E1,Jo.q4 D' s' M' E',Jo.q4 K2 s2 M2 E2,Jo.Fact.any,Jo.Fact.any] (by kernel_rfl) (by kernel_rfl) (by decide) rfl ?_ ?_
 ·refine Jo.jm rfl ?_ ?_;rotate_left
  refine Jo.jm rfl ?_ ?_
  ·rintro wj hJ _ rfl K hK;simp only [Jo.z]at hK⊢;go_simp;refine (aTaken hM q1 HX.out).mono ?_;rintro ee wk ⟨rfl,B⟩;exact hK.out _ _ rfl B
  refine Jo.jm rfl ?_ ?_;rotate_left
  refine Jo.jm rfl ?_ ?_
  ·rintro wj hJ _ rfl K hK;simp only [Jo.z]at hK⊢;go_simp;refine (aTaken hM' q2 HY.out).mono ?_;rintro ee wk ⟨rfl,B⟩;exact hK.out _ _ rfl B
  exact Jo.Steps.nil
  all_goals (rintro wj hJ;(repeat rintro _ rfl);intro K hK;simp only [Jo.z]at hK⊢;have xX3:=(X3.below hJ).cell;have xX4:=(X4.below hJ).cell;go_simp;exact hK.out _ _ rfl (br _ _))
 rintro w2 hJ _ rfl _ rfl _ rfl _ rfl -;simp only [Jo.z];replace X3:=X3.below hJ;replace X4:=X4.below hJ;replace XR:=XR.below hJ;replace hT:=hT.below hJ;replace HB:=Hqb HB hJ;have xX3:=X3.cell;have zX30:=X3.frozen
 refine Jo.jnext (i:=4) (o:=⟨none,_,_,_,_,_⟩) (by kernel_rfl) rfl (fun K hK=>?_)
 go_simp;refine hK.out _ _ ?_;clear hK K xX3 zX30;generalize hS:(((w2.setCell _ _).setCell _ _).setCell _ _).setCell _ _=w3 at *;have SX:=StN.of4 X3 hS;replace X4:=X4.stn SX (by omega);replace XR:=XR.stn SX (by omega);replace hT:=hT.stn SX (by simp [no8]);replace HB:=Hqs HB SX (by omega);replace X3:=SX.box;clear SX hS;have xX4:=X4.cell
 have zX40:=X4.frozen
 refine Jo.jnext (i:=5) (o:=⟨none,_,_,_,_,_⟩) (by kernel_rfl) rfl (fun K hK=>?_)
 go_simp;refine hK.out _ _ ?_;clear hK K xX4 zX40;generalize hS:(((w3.setCell _ _).setCell _ _).setCell _ _).setCell _ _=w4 at *;have SX:=StN.of4 X4 hS;replace X3:=X3.stn SX (by omega);replace XR:=XR.stn SX (by omega);replace hT:=hT.stn SX (by simp [no8]);replace HB:=Hqs HB SX (by omega);replace X4:=SX.box;clear SX hS;refine Jo.jdone (by kernel_rfl) ?_
 clear HX HY hM hM';have i1:=fq_inf q1;have i2:=fq_inf q2;have z1:=q1.zero_iff;have z2:=q2.zero_iff;have d1:=q1.bd;have d2:=q2.bd
 have kk1:K1=2∨K1=0∨K1=1:=by rcases q1.cases with⟨h,_⟩ | ⟨h,_⟩ | ⟨h,_⟩ <;> omega
 have kk2:K2=2∨K2=0∨K2=1:=by rcases q2.cases with⟨h,_⟩ | ⟨h,_⟩ | ⟨h,_⟩ <;> omega
 rcases kk1 with rfl | rfl | rfl
 ·rcases kk2 with rfl | rfl | rfl
  ·by_cases ks:s1=s2
   ·rw [addp_same up i1 ((fq_same q1 q2).2 ks)]at hr;subst hr;subst ks;clear i1 i2 z1 z2 d1 d2 q2;have xXR:=XR.cell;have zXR0:=XR.frozen;have xX3:=X3.cell;have xX4:=X4.cell;go_wp2;clear xXR zXR0 xX3 xX4;have SX:=StN.mk4 XR (.int .i64 2) (.bool s1) (.int .u64 M1) (.int .i64 E1)
    exact bodyPost_ret (by simp [results,Tryz.results126,go_sem,SX.box.cell]) rfl ⟨_,_,_,_,rfl,q1,(SX.below HB.out (by omega))⟩
   ·rw [addp_diff up i1 i2 (fun e=>ks ((fq_same q1 q2).1 e))]at hr
    obtain rfl:(!s1)=s2:=by cases s1 <;> cases s2 <;> first | rfl | exact absurd rfl ks
    have e2:(s1==!s1)=false:=by cases s1 <;> rfl
    have HRR:=Lib.hid hr;clear i1 i2 z1 z2 d1 d2 q1 q2 hr ks;have xX3:=X3.cell;have xX4:=X4.cell
    go_wp2_with fail
    refine (nInf (s:=!up) HRR.out).mono ?_;rintro ee w5 ⟨K3,s3,M3,E3,rfl,q3,B⟩;clear xX3 xX4;replace X3:=X3.below B;replace X4:=X4.below B;replace XR:=XR.below B;replace HB:=Hqb HB B;clear B;have xXR:=XR.cell;have zXR0:=XR.frozen;go_wp2;clear xXR zXR0;have SX:=StN.mk4 XR (.int .i64 K3) (.bool s3) (.int .u64 M3) (.int .i64 E3)
    exact bodyPost_ret (by simp [results,Tryz.results126,go_sem,SX.box.cell]) rfl ⟨_,_,_,_,rfl,q3,(SX.below HB.out (by omega))⟩
  ·rw [addp_tf up i1 i2]at hr;subst hr;clear i1 i2 z1 z2 d1 d2 q2;have xXR:=XR.cell;have zXR0:=XR.frozen;have xX3:=X3.cell;have xX4:=X4.cell;go_wp2;clear xXR zXR0 xX3 xX4;have SX:=StN.mk4 XR (.int .i64 2) (.bool s1) (.int .u64 M1) (.int .i64 E1);exact bodyPost_ret (by simp [results,Tryz.results126,go_sem,SX.box.cell]) rfl ⟨_,_,_,_,rfl,q1,(SX.below HB.out (by omega))⟩
  ·rw [addp_tf up i1 i2]at hr;subst hr;clear i1 i2 z1 z2 d1 d2 q2;have xXR:=XR.cell;have zXR0:=XR.frozen;have xX3:=X3.cell;have xX4:=X4.cell;go_wp2;clear xXR zXR0 xX3 xX4;have SX:=StN.mk4 XR (.int .i64 2) (.bool s1) (.int .u64 M1) (.int .i64 E1);exact bodyPost_ret (by simp [results,Tryz.results126,go_sem,SX.box.cell]) rfl ⟨_,_,_,_,rfl,q1,(SX.below HB.out (by omega))⟩
 ·rcases kk2 with rfl | rfl | rfl
  ·rw [addp_ft up i1 i2]at hr;subst hr;clear i1 i2 z1 z2 d1 d2 q1;have xXR:=XR.cell;have zXR0:=XR.frozen;have xX3:=X3.cell;have xX4:=X4.cell;go_wp2;clear xXR zXR0 xX3 xX4;have SX:=StN.mk4 XR (.int .i64 2) (.bool s2) (.int .u64 M2) (.int .i64 E2);exact bodyPost_ret (by simp [results,Tryz.results126,go_sem,SX.box.cell]) rfl ⟨_,_,_,_,rfl,q2,(SX.below HB.out (by omega))⟩
  ·rw [z2.1 rfl,addp_zero up d1.1 d1.2]at hr;subst hr;clear i1 i2 z1 z2 d1 d2 q2;have xXR:=XR.cell;have zXR0:=XR.frozen;have xX3:=X3.cell;have xX4:=X4.cell;go_wp2;clear xXR zXR0 xX3 xX4;have SX:=StN.mk4 XR (.int .i64 0) (.bool s1) (.int .u64 M1) (.int .i64 E1);exact bodyPost_ret (by simp [results,Tryz.results126,go_sem,SX.box.cell]) rfl ⟨_,_,_,_,rfl,q1,(SX.below HB.out (by omega))⟩
  ·rw [z1.1 rfl,addp_comm,addp_zero up d2.1 d2.2]at hr;subst hr;clear i1 i2 z1 z2 d1 d2 q1;have xXR:=XR.cell;have zXR0:=XR.frozen;have xX3:=X3.cell;have xX4:=X4.cell;go_wp2;clear xXR zXR0 xX3 xX4;have SX:=StN.mk4 XR (.int .i64 1) (.bool s2) (.int .u64 M2) (.int .i64 E2)
   exact bodyPost_ret (by simp [results,Tryz.results126,go_sem,SX.box.cell]) rfl ⟨_,_,_,_,rfl,q2,(SX.below HB.out (by omega))⟩
 ·rcases kk2 with rfl | rfl | rfl
  ·rw [addp_ft up i1 i2]at hr;subst hr;clear i1 i2 z1 z2 d1 d2 q1;have xXR:=XR.cell;have zXR0:=XR.frozen;have xX3:=X3.cell;have xX4:=X4.cell;go_wp2;clear xXR zXR0 xX3 xX4;have SX:=StN.mk4 XR (.int .i64 2) (.bool s2) (.int .u64 M2) (.int .i64 E2);exact bodyPost_ret (by simp [results,Tryz.results126,go_sem,SX.box.cell]) rfl ⟨_,_,_,_,rfl,q2,(SX.below HB.out (by omega))⟩
  ·rw [z2.1 rfl,addp_zero up d1.1 d1.2]at hr;subst hr;clear i1 i2 z1 z2 d1 d2 q2;have xXR:=XR.cell;have zXR0:=XR.frozen;have xX3:=X3.cell;have xX4:=X4.cell;go_wp2;clear xXR zXR0 xX3 xX4;have SX:=StN.mk4 XR (.int .i64 1) (.bool s1) (.int .u64 M1) (.int .i64 E1);exact bodyPost_ret (by simp [results,Tryz.results126,go_sem,SX.box.cell]) rfl ⟨_,_,_,_,rfl,q1,(SX.below HB.out (by omega))⟩
  ·have HRR:=Lib.hid hr;clear i1 i2 z1 z2 d1 d2 hr;have xX3:=X3.cell;have xX4:=X4.cell
   go_wp2_with fail
   refine (aSum2 hT q1 q2).mono ?_;rintro ee w5 ⟨s3,H3,L3,x3,rfl,p3,B⟩;clear xX3 xX4;replace X3:=X3.below B;replace X4:=X4.below B;replace XR:=XR.below B;replace hT:=hT.below B;replace HB:=Hqb HB B;clear B
   go_wp2_with fail
   refine (aRound p3 HRR.out).mono ?_;rintro ee w6 ⟨K4,s4,M4,E4,rfl,q4,B⟩;replace X3:=X3.below B;replace X4:=X4.below B;replace XR:=XR.below B;replace HB:=Hqb HB B;clear B;have xXR:=XR.cell;have zXR0:=XR.frozen;go_wp2;clear xXR zXR0;have SX:=StN.mk4 XR (.int .i64 K4) (.bool s4) (.int .u64 M4) (.int .i64 E4);exact bodyPost_ret (by simp [results,Tryz.results126,go_sem,SX.box.cell]) rfl ⟨_,_,_,_,rfl,q4,(SX.below HB.out (by omega))⟩
theorem aMul{w:World}{D D' M M' E E':Int}{s s':Bool}{up:Bool}{x y r:Int}(hM:LQ M)(hM':LQ M')(hx:rk D s M E=x)(hy:rk D' s' M' E'=y)(hr:mulp up x y=r):Calls Tryz.prog 72 #[VQ D s M E,VQ D' s' M' E',.bool up] w (PN w r):=by
 delta VQ
 obtain⟨K1,s1,M1,E1,q1⟩:=fq_tk (D:=D) (s:=s) (M:=M) (E:=E) hM;obtain⟨K2,s2,M2,E2,q2⟩:=fq_tk (D:=D') (s:=s') (M:=M') (E:=E') hM';rw [hx]at q1;rw [hy]at q2;have HX:=Lib.hid hx;have HY:=Lib.hid hy;clear hx hy
 go_enter Tryz.func72,Tryz.ntmps72
 go_upto_region 1 with (fail)
 generalize hW1:((w.alloc _).alloc _).alloc _=w1 at *;obtain⟨X3,X4,XR,HB⟩:=Bo.en3 hW1;clear hW1;refine Jo.rk [0,1,2,3] [some 7,some 8,some 9,some 10,none,none] [[],[0],[],[2],[],[]] 6 2 [Jo.q4 D s M E,Jo.q4 K1 s1 M1 E1,Jo.q4 D' s' M' E',Jo.q4 K2 s2 M2 E2,Jo.Fact.any,Jo.Fact.any] (by kernel_rfl) (by kernel_rfl) (by decide) rfl ?_ ?_
 ·refine Jo.jm rfl ?_ ?_;rotate_left
  refine Jo.jm rfl ?_ ?_
  ·rintro wj hJ _ rfl K hK;simp only [Jo.z]at hK⊢;go_simp;refine (aTaken hM q1 HX.out).mono ?_;rintro ee wk ⟨rfl,B⟩;exact hK.out _ _ rfl B
  refine Jo.jm rfl ?_ ?_;rotate_left
  refine Jo.jm rfl ?_ ?_
  ·rintro wj hJ _ rfl K hK;simp only [Jo.z]at hK⊢;go_simp;refine (aTaken hM' q2 HY.out).mono ?_;rintro ee wk ⟨rfl,B⟩;exact hK.out _ _ rfl B
  exact Jo.Steps.nil
  all_goals (rintro wj hJ;(repeat rintro _ rfl);intro K hK;simp only [Jo.z]at hK⊢;have xX3:=(X3.below hJ).cell;have xX4:=(X4.below hJ).cell;go_simp;exact hK.out _ _ rfl (br _ _))
 rintro w2 hJ _ rfl _ rfl _ rfl _ rfl -;simp only [Jo.z];replace X3:=X3.below hJ;replace X4:=X4.below hJ;replace XR:=XR.below hJ;replace HB:=Hqb HB hJ;have xX3:=X3.cell;have zX30:=X3.frozen
 refine Jo.jnext (i:=4) (o:=⟨none,_,_,_,_,_⟩) (by kernel_rfl) rfl (fun K hK=>?_)
 go_simp;refine hK.out _ _ ?_;clear hK K xX3 zX30;generalize hS:(((w2.setCell _ _).setCell _ _).setCell _ _).setCell _ _=w3 at *;have SX:=StN.of4 X3 hS;replace X4:=X4.stn SX (by omega);replace XR:=XR.stn SX (by omega);replace HB:=Hqs HB SX (by omega);replace X3:=SX.box;clear SX hS;have xX4:=X4.cell;have zX40:=X4.frozen
 refine Jo.jnext (i:=5) (o:=⟨none,_,_,_,_,_⟩) (by kernel_rfl) rfl (fun K hK=>?_)
 go_simp;refine hK.out _ _ ?_;clear hK K xX4 zX40;generalize hS:(((w3.setCell _ _).setCell _ _).setCell _ _).setCell _ _=w4 at *;have SX:=StN.of4 X4 hS;replace X3:=X3.stn SX (by omega);replace XR:=XR.stn SX (by omega);replace HB:=Hqs HB SX (by omega);replace X4:=SX.box;clear SX hS;refine Jo.jdone (by kernel_rfl) ?_;clear HX HY hM hM';have i1:=fq_inf q1
 have i2:=fq_inf q2;have z1:=q1.zero_iff;have z2:=q2.zero_iff;have d1:=q1.bd;have d2:=q2.bd
 have kk1:K1=2∨K1=0∨K1=1:=by rcases q1.cases with⟨h,_⟩ | ⟨h,_⟩ | ⟨h,_⟩ <;> omega
 have kk2:K2=2∨K2=0∨K2=1:=by rcases q2.cases with⟨h,_⟩ | ⟨h,_⟩ | ⟨h,_⟩ <;> omega
 rcases kk1 with rfl | rfl | rfl
 ·rcases kk2 with rfl | rfl | rfl
  ·have hnz:¬(x=0∨y=0):=fun c=>c.elim (fun c=>absurd (z1.2 c) (by decide)) (fun c=>absurd (z2.2 c) (by decide))
   have sx:decide (x < 0)=s1:=by
    rcases q1.three with⟨a,_⟩ | ⟨_,rfl,b⟩ | ⟨_,rfl,b⟩
    ·exact absurd a (by decide)
    ·exact decide_eq_false (by omega)
    ·exact decide_eq_true b
   have sy:decide (y < 0)=s2:=by
    rcases q2.three with⟨a,_⟩ | ⟨_,rfl,b⟩ | ⟨_,rfl,b⟩
    ·exact absurd a (by decide)
    ·exact decide_eq_false (by omega)
    ·exact decide_eq_true b
   rw [mulp_inf up hnz (.inl i1),sx,sy]at hr;have HRR:=Lib.hid hr;clear i1 i2 z1 z2 d1 d2 q1 q2 hr sx sy hnz;have xX3:=X3.cell;have xX4:=X4.cell
   go_wp2_with fail
   refine (nInf (s:=s1 !=s2) HRR.out).mono ?_;rintro ee w5 ⟨K3,s3,M3,E3,rfl,q3,B⟩;clear xX3 xX4;replace X3:=X3.below B;replace X4:=X4.below B;replace XR:=XR.below B;replace HB:=Hqb HB B;clear B;have xXR:=XR.cell;have zXR0:=XR.frozen;go_wp2;clear xXR zXR0;have SX:=StN.mk4 XR (.int .i64 K3) (.bool s3) (.int .u64 M3) (.int .i64 E3)
   exact bodyPost_ret (by simp [results,Tryz.results72,go_sem,SX.box.cell]) rfl ⟨_,_,_,_,rfl,q3,(SX.below HB.out (by omega))⟩
  ·rw [mulp_zero up (.inr (z2.1 rfl))]at hr;subst hr;clear i1 i2 z1 z2 d1 d2 q1 q2;have xXR:=XR.cell;have zXR0:=XR.frozen;have xX3:=X3.cell;have xX4:=X4.cell;go_wp2;clear xXR zXR0 xX3 xX4;have SX:=StN.mk4 XR (.int .i64 0) (.bool false) (.int .u64 0) (.int .i64 0);exact bodyPost_ret (by simp [results,Tryz.results72,go_sem,SX.box.cell]) rfl ⟨_,_,_,_,rfl,Fq.nought,(SX.below HB.out (by omega))⟩
  ·have hnz:¬(x=0∨y=0):=fun c=>c.elim (fun c=>absurd (z1.2 c) (by decide)) (fun c=>absurd (z2.2 c) (by decide))
   have sx:decide (x < 0)=s1:=by
    rcases q1.three with⟨a,_⟩ | ⟨_,rfl,b⟩ | ⟨_,rfl,b⟩
    ·exact absurd a (by decide)
    ·exact decide_eq_false (by omega)
    ·exact decide_eq_true b
   have sy:decide (y < 0)=s2:=by
    rcases q2.three with⟨a,_⟩ | ⟨_,rfl,b⟩ | ⟨_,rfl,b⟩
    ·exact absurd a (by decide)
    ·exact decide_eq_false (by omega)
    ·exact decide_eq_true b
   rw [mulp_inf up hnz (.inl i1),sx,sy]at hr;have HRR:=Lib.hid hr;clear i1 i2 z1 z2 d1 d2 q1 q2 hr sx sy hnz;have xX3:=X3.cell;have xX4:=X4.cell
   go_wp2_with fail
   refine (nInf (s:=s1 !=s2) HRR.out).mono ?_;rintro ee w5 ⟨K3,s3,M3,E3,rfl,q3,B⟩;clear xX3 xX4;replace X3:=X3.below B;replace X4:=X4.below B;replace XR:=XR.below B;replace HB:=Hqb HB B;clear B;have xXR:=XR.cell;have zXR0:=XR.frozen;go_wp2;clear xXR zXR0;have SX:=StN.mk4 XR (.int .i64 K3) (.bool s3) (.int .u64 M3) (.int .i64 E3)
   exact bodyPost_ret (by simp [results,Tryz.results72,go_sem,SX.box.cell]) rfl ⟨_,_,_,_,rfl,q3,(SX.below HB.out (by omega))⟩
 ·rcases kk2 with rfl | rfl | rfl
  ·rw [mulp_zero up (.inl (z1.1 rfl))]at hr;subst hr;clear i1 i2 z1 z2 d1 d2 q1 q2;have xXR:=XR.cell;have zXR0:=XR.frozen;have xX3:=X3.cell;have xX4:=X4.cell;go_wp2;clear xXR zXR0 xX3 xX4;have SX:=StN.mk4 XR (.int .i64 0) (.bool false) (.int .u64 0) (.int .i64 0);exact bodyPost_ret (by simp [results,Tryz.results72,go_sem,SX.box.cell]) rfl ⟨_,_,_,_,rfl,Fq.nought,(SX.below HB.out (by omega))⟩
  ·rw [mulp_zero up (.inl (z1.1 rfl))]at hr;subst hr;clear i1 i2 z1 z2 d1 d2 q1 q2;have xXR:=XR.cell;have zXR0:=XR.frozen;have xX3:=X3.cell;have xX4:=X4.cell;go_wp2;clear xXR zXR0 xX3 xX4;have SX:=StN.mk4 XR (.int .i64 0) (.bool false) (.int .u64 0) (.int .i64 0);exact bodyPost_ret (by simp [results,Tryz.results72,go_sem,SX.box.cell]) rfl ⟨_,_,_,_,rfl,Fq.nought,(SX.below HB.out (by omega))⟩
  ·rw [mulp_zero up (.inl (z1.1 rfl))]at hr;subst hr;clear i1 i2 z1 z2 d1 d2 q1 q2;have xXR:=XR.cell;have zXR0:=XR.frozen;have xX3:=X3.cell;have xX4:=X4.cell;go_wp2;clear xXR zXR0 xX3 xX4;have SX:=StN.mk4 XR (.int .i64 0) (.bool false) (.int .u64 0) (.int .i64 0);exact bodyPost_ret (by simp [results,Tryz.results72,go_sem,SX.box.cell]) rfl ⟨_,_,_,_,rfl,Fq.nought,(SX.below HB.out (by omega))⟩
 ·rcases kk2 with rfl | rfl | rfl
  ·have hnz:¬(x=0∨y=0):=fun c=>c.elim (fun c=>absurd (z1.2 c) (by decide)) (fun c=>absurd (z2.2 c) (by decide))
   have sx:decide (x < 0)=s1:=by
    rcases q1.three with⟨a,_⟩ | ⟨_,rfl,b⟩ | ⟨_,rfl,b⟩
    ·exact absurd a (by decide)
    ·exact decide_eq_false (by omega)
    ·exact decide_eq_true b
   have sy:decide (y < 0)=s2:=by
    rcases q2.three with⟨a,_⟩ | ⟨_,rfl,b⟩ | ⟨_,rfl,b⟩
    ·exact absurd a (by decide)
    ·exact decide_eq_false (by omega)
    ·exact decide_eq_true b
   rw [mulp_inf up hnz (.inr i2),sx,sy]at hr;have HRR:=Lib.hid hr;clear i1 i2 z1 z2 d1 d2 q1 q2 hr sx sy hnz;have xX3:=X3.cell;have xX4:=X4.cell
   go_wp2_with fail
   refine (nInf (s:=s1 !=s2) HRR.out).mono ?_;rintro ee w5 ⟨K3,s3,M3,E3,rfl,q3,B⟩;clear xX3 xX4;replace X3:=X3.below B;replace X4:=X4.below B;replace XR:=XR.below B;replace HB:=Hqb HB B;clear B;have xXR:=XR.cell;have zXR0:=XR.frozen;go_wp2;clear xXR zXR0;have SX:=StN.mk4 XR (.int .i64 K3) (.bool s3) (.int .u64 M3) (.int .i64 E3)
   exact bodyPost_ret (by simp [results,Tryz.results72,go_sem,SX.box.cell]) rfl ⟨_,_,_,_,rfl,q3,(SX.below HB.out (by omega))⟩
  ·rw [mulp_zero up (.inr (z2.1 rfl))]at hr;subst hr;clear i1 i2 z1 z2 d1 d2 q1 q2;have xXR:=XR.cell;have zXR0:=XR.frozen;have xX3:=X3.cell;have xX4:=X4.cell;go_wp2;clear xXR zXR0 xX3 xX4;have SX:=StN.mk4 XR (.int .i64 0) (.bool false) (.int .u64 0) (.int .i64 0);exact bodyPost_ret (by simp [results,Tryz.results72,go_sem,SX.box.cell]) rfl ⟨_,_,_,_,rfl,Fq.nought,(SX.below HB.out (by omega))⟩
  ·have HRR:=Lib.hid hr;clear i1 i2 z1 z2 d1 d2 hr;have xX3:=X3.cell;have xX4:=X4.cell
   go_wp2_with fail
   refine (aProduct q1 q2).mono ?_;rintro ee w5 ⟨s3,H3,L3,x3,rfl,p3,B⟩;clear xX3 xX4;replace X3:=X3.below B;replace X4:=X4.below B;replace XR:=XR.below B;replace HB:=Hqb HB B;clear B
   go_wp2_with fail
   refine (aRound p3 HRR.out).mono ?_;rintro ee w6 ⟨K4,s4,M4,E4,rfl,q4,B⟩;replace X3:=X3.below B;replace X4:=X4.below B;replace XR:=XR.below B;replace HB:=Hqb HB B;clear B;have xXR:=XR.cell;have zXR0:=XR.frozen;go_wp2;clear xXR zXR0;have SX:=StN.mk4 XR (.int .i64 K4) (.bool s4) (.int .u64 M4) (.int .i64 E4);exact bodyPost_ret (by simp [results,Tryz.results72,go_sem,SX.box.cell]) rfl ⟨_,_,_,_,rfl,q4,(SX.below HB.out (by omega))⟩
theorem aSub{w:World}{D D' M M' E E':Int}{s s':Bool}{up:Bool}{x y r:Int}(hT:Tb w)(hM:LQ M)(hM':LQ M')(hx:rk D s M E=x)(hy: -rk D' s' M' E'=y)(hr:addp up x y=r):Calls Tryz.prog 68 #[VQ D s M E,VQ D' s' M' E',.bool up] w (PN w r):=by
 delta VQ
 have HX:=Lib.hid hx;have HY:=Lib.hid hy;have HR:=Lib.hid hr;clear hx hy hr
 go_enter Tryz.func68,Tryz.ntmps68
 go_upto_region 1 with (fail)
 generalize hW1:((w.alloc _).alloc _).alloc _=w1 at *;obtain⟨X3,X4,XR,HB⟩:=Bo.en3 hW1;replace hT:=hT.below HB.out;clear hW1;refine Jo.rk [0,1,2,3,4] [some 7,some 8,some 9,some 10,some 11,none] [[],[],[1],[],[0,2,3],[]] 6 1 [Jo.q4 D s M E,Jo.q4 D' s' M' E',Jo.Fact.num y,Jo.qb up,Jo.Fact.num r,Jo.Fact.any] (by kernel_rfl) (by kernel_rfl) (by decide) rfl ?_ ?_
 ·iterate 2 (refine Jo.jm rfl ?_ ?_;rotate_left)
  refine Jo.jm rfl ?_ ?_
  ·rintro wj hJ _ rfl K hK;simp only [Jo.z]at hK⊢;go_simp;refine (nNeg hM' HY.out).mono ?_;rintro ee wk ⟨K4,s4,M4,E4,rfl,q4,B⟩;exact hK.out _ _ ⟨K4,s4,M4,E4,rfl,q4⟩ B
  refine Jo.jm rfl ?_ ?_;rotate_left
  refine Jo.jm rfl ?_ ?_
  ·rintro wj hJ _ rfl _ ⟨K4,s4,M4,E4,rfl,q4⟩ _ rfl K hK;simp only [Jo.z]at hK⊢;go_simp;refine (aAdd (hT.below hJ) hM q4.top HX.out q4.rk HR.out).mono ?_;rintro ee wk ⟨K5,s5,M5,E5,rfl,q5,B⟩;exact hK.out _ _ ⟨K5,s5,M5,E5,rfl,q5⟩ B
  exact Jo.Steps.nil
  all_goals (rintro wj hJ;(repeat rintro _ rfl);intro K hK;simp only [Jo.z]at hK⊢;have xX3:=(X3.below hJ).cell;have xX4:=(X4.below hJ).cell;go_simp;exact hK.out _ _ rfl (br _ _))
 rintro w2 hJ _ rfl _ rfl _ ⟨K4,s4,M4,E4,rfl,q4⟩ _ rfl _ ⟨K5,s5,M5,E5,rfl,q5⟩ -;simp only [Jo.z];replace X3:=X3.below hJ;replace X4:=X4.below hJ;replace XR:=XR.below hJ;replace hT:=hT.below hJ;replace HB:=Hqb HB hJ;have xXR:=XR.cell;have zXR0:=XR.frozen
 refine Jo.jnext (i:=5) (o:=⟨none,_,_,_,_,_⟩) (by kernel_rfl) rfl (fun K hK=>?_)
 go_simp;refine hK.out _ _ ?_;clear hK K xXR zXR0;have SX:=StN.mk4 XR (.int .i64 K5) (.bool s5) (.int .u64 M5) (.int .i64 E5);refine Jo.jdone (by kernel_rfl) ?_;go_wp2;exact bodyPost_ret (by simp [results,Tryz.results68,go_sem,SX.box.cell]) rfl ⟨_,_,_,_,rfl,q5,(SX.below HB.out (by omega))⟩
def smA (up:Bool)(l:List Int):Int:=l.foldl (addp up) 0
theorem smA_take (up:Bool){l:List Int}{k:Nat}(h:k < l.length):smA up (l.take (k+1))=addp up (smA up (l.take k)) (l.getD k 0):=by
 unfold smA
 rw [List.take_succ_eq_append_getElem h,List.foldl_append]
 simp [List.getD_eq_getElem?_getD,h]
theorem aSum{w:World}{A:Option Addr}{n c:Nat}{l:List Int}{up:Bool}{r:Int}(hT:Tb w)(h:Nl w A n c l)(hr:smA up l=r):Calls Tryz.prog 70 #[.bool up,.slice A n c] w (PN w r):=by
 have HR:=Lib.hid hr;have HLn:=Lib.hid h.1;have hcap:=h.2.1;have hbig:=h.2.2.1;have hD0:=h;have hT0:=hT;clear hr
 go_enter Tryz.func70,Tryz.ntmps70
 go_upto_region 1 with (fail)
 generalize hW1:w.alloc _=w1 at *;obtain⟨XR,HB⟩:=Bo.en1 hW1;replace h:=h.below HB.out;replace hT:=hT.below HB.out;clear hW1
 go_upto_region 2 with (fail)
 have hg3:=XR.lt;have lX3:=Nat.le_refl (World.heap w1).size;have nX3XR:=XR.lt;generalize hWn:w1.alloc _=w3 at *;obtain⟨X3,BW⟩:=Bo.nw hWn;clear hWn;replace XR:=XR.below BW;replace h:=h.below BW;replace hT:=hT.below BW;replace HB:=Hqb HB BW;clear BW
 go_wp2_with fail
 generalize w1.heap.size=g3 at *;clear h hT w1
 go_loopw [11] (fun i wr=>∃k:Nat,k≤n∧i= .int .i64 k∧NInv w g3 (smA up (l.take k)) wr) (fun i _=>n-(intOf i).toNat)
 case atStart=>exact ⟨0,Nat.zero_le _,rfl,_,_,_,_,XR,X3,Fq.nought,HB.out⟩
 clear HB XR X3 lX3
 case round=>
  obtain⟨k,hk,rfl,hI⟩:=hrel;obtain⟨K1,s1,M1,E1,XR,X3,q1,hB⟩:=hI;have HB:=Lib.hid hB;have h:=hD0.below hB;have hT:=hT0.below hB;clear hB
  by_cases hlt:k < n
  ·obtain⟨b,o,rfl,hcell⟩:=h.2.2.2 (by omega);obtain⟨D,s,M,E,c0,c1,c2,c3,hM,hx⟩:=hcell k hlt;clear hcell h hD0
   have i1:(k:Int) < n:=by omega
   have i2:(0:Int)≤k:=by omega
   have hst:=smA_take up (l:=l) (k:=k) (by rw [HLn.out];exact hlt);rw [←hx]at hst;generalize smA up (l.take k)=R at *;obtain⟨x,hX⟩:∃x,rk D s M E=x:=⟨_,rfl⟩;rw [hX]at hst;obtain⟨r2,hr2⟩:∃r2,addp up R x=r2:=⟨_,rfl⟩;rw [hr2]at hst;have HX:=Lib.hid hX;have HST:=Lib.hid hst;have HAD:=Lib.hid hr2;clear hst hX hx hr2
   go_upto_region 5 with (fail)
   have hgd:=X3.lt;have lX5:=Nat.le_refl (World.heap wr).size;have nX5XR:=XR.lt;have nX5X3:=X3.lt;generalize hWn:wr.alloc _=w3 at *;obtain⟨X5,BW⟩:=Bo.nw hWn;clear hWn;replace XR:=XR.below BW;replace X3:=X3.below BW;replace hT:=hT.below BW;replace HB:=Hqb HB BW;clear BW;clear c0 c1 c2 c3 lX5;have xX3:=X3.cell;have xX5:=X5.cell
   go_wp2_with fail
   refine (aAdd hT q1.top hM q1.rk HX.out HAD.out).mono ?_;rintro ee w4 ⟨K2,s2,M2,E2,rfl,q2,B⟩;clear xX3 xX5;replace XR:=XR.below B;replace X3:=X3.below B;replace X5:=X5.below B;replace hT:=hT.below B;replace HB:=Hqb HB B;clear B;have xX3:=X3.cell;have zX30:=X3.frozen
   go_upto_region 6 with (fail)
   clear xX3 zX30;generalize hS:(((w4.setCell _ _).setCell _ _).setCell _ _).setCell _ _=w5 at *;have SX:=StN.of4 X3 hS;replace XR:=XR.stn SX (by omega);replace X5:=X5.stn SX (by omega);replace HB:=Hqs HB SX (by omega);replace X3:=SX.box;clear SX hS;go_wp2
   go_roundw
   case rel=>
    refine⟨k+1,by omega,by go_num,K2,s2,M2,E2,XR,X3,?_,HB.out⟩
    rw [HST.out];exact q2
   case measure=>simp [intOf];omega
  ·obtain rfl:k=n:=by omega
   rw [List.take_of_length_le (by rw [HLn.out];omega),HR.out]at q1;have xXR:=XR.cell;have zXR0:=XR.frozen;have xX3:=X3.cell;go_wp2;clear xXR zXR0 xX3;have SX:=StN.mk4 XR (.int .i64 K1) (.bool s1) (.int .u64 M1) (.int .i64 E1);exact bodyPost_ret (by simp [results,Tryz.results70,go_sem,SX.box.cell]) rfl ⟨_,_,_,_,rfl,q1,(SX.below HB.out (by omega))⟩
theorem mulp_up{x y z:Int}(up:Bool)(x1: -19342822337206103650074625≤x)(x2:x≤19342822337206103650074625)(y1: -19342822337206103650074625≤y)(y2:y≤19342822337206103650074625)(hz:0≤z)(z2:z≤19342822337206103650074625)(h:x≤y):mulp up x z≤mulp up y z:=by
 by_cases h0:z=0
 ·rw [mulp_zero up (.inr h0),mulp_zero up (.inr h0)];exact Int.le_refl _
 ·exact mulp_mono up x1 x2 y1 y2 (by omega) z2 h
def Fz (x:Int)(h:Nat):Prop:=infp x=true∨Fit h (ep x)
theorem Fz.mono{x:Int}{h k:Nat}(f:Fz x h)(hk:h≤k):Fz x k:=f.imp id fun g=>g.mono hk
theorem Fz.zero (h:Nat):Fz 0 h:= .inr (by rw [ep_zero];exact Fit.zero h)
theorem rnd_fz{P:Int × Int}{h:Nat}(up:Bool)(hh:h≤100000)(f:Fit h P):Fz (rnd up P.1 P.2) (h+65):=by
 rcases f.nf.cases with e | ⟨h0,ho,e1,e2⟩
 ·subst e;rw [rnd_nought];exact Fz.zero _
 ·right
  have hm:P.1.natAbs≠0:=by omega
  have lo1:=f.lo
  have hb0:blen P.1.natAbs≠0:=fun e=>hm (blen_eq_zero.1 e)
  have hbl:blen P.1.natAbs-1+(P.2+(h:Int)).toNat < 2*h:=by
   have l1:=Nat.mul_le_mul_right (2^(P.2+(h:Int)).toNat) (blen_le hm);rw [←Nat.pow_add]at l1;exact (Nat.pow_lt_pow_iff_right (by decide)).1 (Nat.lt_of_le_of_lt l1 f.2.2)
  have g1:=tp_ge hm;have g2:=tp_lt P.1.natAbs
  have hx:xp P.1.natAbs P.2=P.2+(blen P.1.natAbs:Nat)-64:=rfl
  have el:lo P.1.natAbs P.2=(tp P.1.natAbs:Int)-9223372036854775808+1+(xp P.1.natAbs P.2+1048576)*9223372036854775808:=by
   unfold lo
   rw [if_neg hm,if_neg (by omega),if_neg (by omega)]
  obtain⟨h1,h2⟩:=hi_bd P.1.natAbs P.2;obtain⟨s,hs⟩:∃s,s=decide (P.1 < 0):=⟨_,rfl⟩
  have hr:∃l,(rnd up P.1 P.2=sgi s l)∧lo P.1.natAbs P.2≤l∧l≤lo P.1.natAbs P.2+1:=by
   by_cases hu:s=up
   ·exact⟨_,rnd_same hs hu,by omega,by omega⟩
   ·have hu2:up=!s:=by cases s <;> cases up <;> first | rfl | exact absurd rfl hu
    exact⟨_,by rw [hu2];exact rnd_diff hs,h1,h2⟩
  obtain⟨l,er,l1,l2⟩:=hr;rw [el]at l1 l2;clear el h1 h2 hs
  have hab:((rnd up P.1 P.2).natAbs:Int)=l:=by
   rw [er,sgi_abs s (by omega)]
   omega
  revert hab
  generalize rnd up P.1 P.2=r
  intro hab
  unfold ep
  rw [if_neg (by omega)];obtain⟨M,hM⟩:∃M,((r.natAbs:Int)-1)%9223372036854775808+9223372036854775808=M:=⟨_,rfl⟩;obtain⟨E,hE⟩:∃E,((r.natAbs:Int)-1) /9223372036854775808-1048576=E:=⟨_,rfl⟩;rw [hM,hE]
  have b1:xp P.1.natAbs P.2≤E∧E≤xp P.1.natAbs P.2+1:=by omega
  have b2:0≤M∧M < 18446744073709551616:=by omega
  clear hM hE er l1 l2 hab;refine (mk_fit (h:=h+65) (by omega) (by omega) ?_).1;rw [sgi_abs _ b2.1]
  have:M.toNat < 2^64:=by omega
  have:=Nat.mul_lt_mul_of_pos_right this (Nat.pow_pos (n:=(E+((h+65:Nat):Int)).toNat) (show 0 < 2 by decide))
  rw [←Nat.pow_add]at this;exact Nat.lt_of_lt_of_le this (Nat.pow_le_pow_right (by decide) (by omega))
theorem addp_fz{x y:Int}{h:Nat}(up:Bool)(hh:h≤90000)(fx:Fz x h)(fy:Fz y h):Fz (addp up x y) (h+66):=by
 cases hx:infp x
 ·cases hy:infp y
  ·rw [addp_ff up hx hy]
   rcases fx with fx | fx
   ·rw [hx]at fx;cases fx
   ·rcases fy with fy | fy
    ·rw [hy]at fy;cases fy
    ·exact rnd_fz up (by omega) (pl_fit (by omega) fx fy).1
  ·rw [addp_ft up hx hy];exact .inl hy
 ·cases hy:infp y
  ·rw [addp_tf up hx hy];exact .inl hx
  ·by_cases e:x=y
   ·rw [addp_same up hx e];exact .inl hx
   ·rw [addp_diff up hx hy e];exact .inl (fq_inf (Fq.inf _))
theorem dn_le_up{X r t:Int}(h:Dn X r)(k:Up X t):r≤t:=by
 obtain⟨h1,h2,h3,h4⟩:=h;obtain⟨k1,k2,k3,k4⟩:=k
 rcases Int.lt_or_le t r with q | q
 ·exfalso
  have a:=h3 (by omega);have b:=k3 (by omega);rw [vr_neg]at b
  have:=vr_lt q
  omega
 ·exact q
theorem addp_le{x y:Int}(x1: -19342822337206103650074625≤x)(x2:x≤19342822337206103650074625)(y1: -19342822337206103650074625≤y)(y2:y≤19342822337206103650074625):addp false x y≤addp true x y:=by
 have htp:=TP_eq
 cases hx:infp x <;> cases hy:infp y
 ·obtain⟨a1,a2⟩:=infp_false x1 x2 hx;obtain⟨b1,b2⟩:=infp_false y1 y2 hy;obtain⟨u,v⟩:=addp_spec (x:=x) (y:=y) true a1 a2 b1 b2;exact dn_le_up u v
 ·rw [addp_ft _ hx hy,addp_ft _ hx hy];exact Int.le_refl _
 ·rw [addp_tf _ hx hy,addp_tf _ hx hy];exact Int.le_refl _
 ·by_cases e:x=y
  ·rw [addp_same _ hx e,addp_same _ hx e];exact Int.le_refl _
  ·rw [addp_diff _ hx hy e,addp_diff _ hx hy e,show (!false)=true from rfl,show (!true)=false from rfl,wsg_f,wsg_t]
   omega
theorem has_in{a b n:Int}(h1: -19342822337206103650074625 < n)(h2:n < 19342822337206103650074625)(h3:a≤n)(h4:n≤b):hasI (some (a,b)) n=true:=by
 simp [hasI,infp_fin h1 h2]
 omega
theorem foldl_ok{f:Sp→Sp→Sp}(hf:∀x y,SpOk x→SpOk y→SpOk (f x y)):∀{l:List Sp} {x:Sp},SpOk x→(∀y ∈ l,SpOk y)→SpOk (l.foldl f x)
 | [],_,h,_=>h
 | y::l,x,h,k=>foldl_ok hf (l:=l) (hf x y h (k y (List.mem_cons_self ..))) (fun z hz=>k z (List.mem_cons_of_mem _ hz))
theorem hullL_ok{l:List Sp}(h:∀y ∈ l,SpOk y):SpOk (hullL l):=foldl_ok (fun _ _=>hullI_ok) trivial h
theorem meet_stuck:∀l:List Sp,l.foldl meetI none=none
 | []=>rfl
 | _::l=>meet_stuck l
def In (x:Int):Prop:= -19342822337206103650074625≤x∧x≤19342822337206103650074625
theorem mkI_in{a b:Int}(ha:In a)(hb:In b):SpOk (mkI a b):=mkI_ok ha.1 hb.2
theorem SpOk.in1{a b:Int}(h:SpOk (some (a,b))):In a∧In b:=by
 obtain⟨h1,h2,h3,h4,h5⟩:=h;exact⟨⟨by omega,by omega⟩,⟨by omega,by omega⟩⟩
theorem has_out{a b n:Int}(h:hasI (some (a,b)) n=true)(hn:In n): -19342822337206103650074625 < n∧n < 19342822337206103650074625∧a≤n∧n≤b:=by
 simp only [hasI,Bool.and_eq_true,decide_eq_true_eq,Bool.not_eq_true']at h
 have:=infp_false hn.1 hn.2 h.1.1
 exact⟨this.1,this.2,h.1.2,h.2⟩
def negI (x:Sp):Sp:=match x with
 | none=>none
 | some (a,b)=>mkI (-b) (-a)
def addI (x y:Sp):Sp:=match x,y with
 | some (a,b),some (c,d)=>mkI (addp false a c) (addp true b d)
 | _,_=>none
def addL (l:List Sp):Sp:=match l with
 | []=>some (0,0)
 | x::l=>l.foldl addI x
def cor (f:Bool→Int→Int→Int)(a b c d:Int):Sp:=mkI (min (min (f false a c) (f false a d)) (min (f false b c) (f false b d))) (max (max (f true a c) (f true a d)) (max (f true b c) (f true b d)))
def mulI (x y:Sp):Sp:=match x,y with
 | some (a,b),some (c,d)=>cor mulp a b c d
 | _,_=>none
theorem negI_some{a b:Int}(h:SpOk (some (a,b))):negI (some (a,b))=some (-b,-a):=by
 obtain⟨h1,h2,h3,h4,h5⟩:=h;exact mkI_some (by omega) (by omega) (by omega)
theorem negI_ok{x:Sp}(h:SpOk x):SpOk (negI x):=by
 rcases x with _ | ⟨a,b⟩
 ·exact trivial
 ·obtain⟨⟨h1,h2⟩,h3,h4⟩:=h.in1;exact mkI_in ⟨by omega,by omega⟩ ⟨by omega,by omega⟩
theorem neg_neg{x:Sp}(h:SpOk x):negI (negI x)=x:=by
 rcases x with _ | ⟨a,b⟩
 ·rfl
 ·have k:=negI_ok h;rw [negI_some h]at k⊢;rw [negI_some k,Int.neg_neg,Int.neg_neg]
theorem add_none (x:Sp):addI x none=none:=by cases x <;> rfl
theorem add_comm (x y:Sp):addI x y=addI y x:=by
 rcases x with _ | ⟨a,b⟩ <;> rcases y with _ | ⟨c,d⟩ <;> first | rfl | skip
 show mkI _ _=mkI _ _
 rw [addp_comm (x:=a),addp_comm (x:=b)]
theorem addp_le2{x y z t:Int}(up:Bool)(hx:In x)(hy:In y)(hz:In z)(ht:In t)(h:x≤y)(k:z≤t):addp up x z≤addp up y t:=by
 refine Int.le_trans (addp_mono up hx.1 hx.2 hy.1 hy.2 hz.1 hz.2 h) ?_;rw [addp_comm (x:=y),addp_comm (x:=y)];exact addp_mono up hz.1 hz.2 ht.1 ht.2 hy.1 hy.2 k
def Mono (f:Int→Int)(a b:Int):Prop:=(∀x y,a≤x→x≤y→y≤b→f x≤f y)∨(∀x y,a≤x→x≤y→y≤b→f y≤f x)
theorem Mono.lo{f:Int→Int}{a b x:Int}(h:Mono f a b)(h1:a≤x)(h2:x≤b):min (f a) (f b)≤f x:=by
 rcases h with h | h
 ·have:=h a x (Int.le_refl _) h1 h2
  omega
 ·have:=h x b h1 h2 (Int.le_refl _)
  omega
theorem mul_comm (x y:Sp):mulI x y=mulI y x:=by
 rcases x with _ | ⟨a,b⟩ <;> rcases y with _ | ⟨c,d⟩ <;> first | rfl | skip
 show cor mulp a b c d=cor mulp c d a b
 unfold cor
 simp only [mulp_comm (x:=c),mulp_comm (x:=d)]
 congr 1 <;> omega
def DnQ (A B r:Int):Prop:= -19342822337206103650074625≤r∧r≤19342822337206103650074624∧(-19342822337206103650074625 < r→vr r*B≤A)∧(r < 19342822337206103650074624→A < vr (r+1)*B)
def UpQ (A B r:Int):Prop:=DnQ (-A) B (-r)
def Sid (up:Bool)(A B r:Int):Prop:=if up=true then UpQ A B r else DnQ A B r
theorem sid_f{A B r:Int}:Sid false A B r=DnQ A B r:=if_neg (by decide)
theorem sid_t{A B r:Int}:Sid true A B r=UpQ A B r:=if_pos rfl
theorem DnQ.mono{A B C D r t:Int}(hB:0 < B)(hD:0 < D)(h:DnQ A B r)(k:DnQ C D t)(hAC:A*D≤C*B):r≤t:=by
 obtain⟨h1,h2,h3,h4⟩:=h;obtain⟨k1,k2,k3,k4⟩:=k
 rcases Int.lt_or_le t r with q | q
 ·exfalso
  have a:=h3 (by omega);have b:=k4 (by omega)
  have c:vr (t+1)≤vr r:=vr_le (by omega)
  have a2:vr r*B*D≤A*D:=Int.mul_le_mul_of_nonneg_right a (Int.le_of_lt hD)
  have b2:C*B < vr (t+1)*D*B:=Int.mul_lt_mul_of_pos_right b hB
  have c2:vr (t+1)*(D*B)≤vr r*(D*B):=Int.mul_le_mul_of_nonneg_right c (Int.le_of_lt (Int.mul_pos hD hB))
  rw [Int.mul_assoc,Int.mul_comm B D]at a2;rw [Int.mul_assoc]at b2
  omega
 ·exact q
theorem DnQ.uniq{A B r t:Int}(hB:0 < B)(h:DnQ A B r)(k:DnQ A B t):r=t:=by
 have a:=h.mono hB hB k (Int.le_refl _);have b:=k.mono hB hB h (Int.le_refl _)
 omega
theorem Sid.uniq{up:Bool}{A B r t:Int}(hB:0 < B)(h:Sid up A B r)(k:Sid up A B t):r=t:=by
 cases up
 ·rw [sid_f]at h k;exact h.uniq hB k
 ·rw [sid_t]at h k
  have:=DnQ.uniq hB h k
  omega
theorem Sid.mono{up:Bool}{A B C D r t:Int}(hB:0 < B)(hD:0 < D)(h:Sid up A B r)(k:Sid up C D t)(hAC:A*D≤C*B):r≤t:=by
 cases up
 ·rw [sid_f]at h k;exact h.mono hB hD k hAC
 ·rw [sid_t]at h k
  have:=DnQ.mono hD hB k h (by rw [Int.neg_mul,Int.neg_mul];omega)
  omega
theorem Sid.neg{up:Bool}{A B r:Int}(h:Sid up A B r):Sid (!up) (-A) B (-r):=by
 cases up
 ·rw [sid_f]at h
  rw [show (!false)=true from rfl,sid_t]
  unfold UpQ
  rw [Int.neg_neg,Int.neg_neg];exact h
 ·rw [sid_t]at h
  rw [show (!true)=false from rfl,sid_f]
  exact h
theorem sid_sgi{s up:Bool}{A B r:Int}(h:Sid (up !=s) A B r):Sid up (sgi s A) B (sgi s r):=by
 cases s
 ·rw [wsg_f,wsg_f]
  cases up <;> exact h
 ·rw [wsg_t,wsg_t]
  have h2:Sid (!up) A B r:=by cases up <;> exact h
  have:=h2.neg
  rwa [Bool.not_not]at this
theorem Sid.bd{up:Bool}{A B r:Int}(h:Sid up A B r): -19342822337206103650074625≤r∧r≤19342822337206103650074625:=by
 cases up
 ·rw [sid_f]at h
  have:=h.1;have:=h.2.1
  omega
 ·rw [sid_t]at h
  have:=h.1;have:=h.2.1
  omega
theorem last_yes (p:Nat→Prop)(h0:p 0):∀n,¬p n→∃k,k < n∧p k∧¬p (k+1)
 | 0,h=>absurd h0 h
 | n+1,h=>by
  by_cases q:p n
  ·exact⟨n,Nat.lt_succ_self _,q,h⟩
  ·obtain⟨k,a,b,c⟩:=last_yes p h0 n q;exact⟨k,Nat.lt_succ_of_lt a,b,c⟩
theorem dnq_ex (A:Int){B:Int}(hB:0 < B):∃r,DnQ A B r:=by
 obtain⟨n,hn⟩:∃n:Nat,(n:Int)=38685644674412207300149250:=⟨38685644674412207300149250,rfl⟩
 obtain⟨k,hk,a,b⟩:=last_yes (fun k=>k=0∨((k:Int)≤38685644674412207300149249∧vr ((k:Int)-19342822337206103650074625)*B≤A)) (.inl rfl) n (by omega)
 refine⟨(k:Int)-19342822337206103650074625,by omega,by omega,fun h=>?_,fun h=>?_⟩
 ·rcases a with a | a
  ·omega
  ·exact a.2
 ·have c:¬vr (((k+1:Nat):Int)-19342822337206103650074625)*B≤A:=fun c=>b (.inr ⟨by omega,c⟩)
  rw [show ((k+1:Nat):Int)-19342822337206103650074625=(k:Int)-19342822337206103650074625+1 by omega]at c
  omega
theorem sid_ex (up:Bool)(A:Int){B:Int}(hB:0 < B):∃r,Sid up A B r:=by
 cases up
 ·obtain⟨r,h⟩:=dnq_ex A hB;exact⟨r,by rw [sid_f];exact h⟩
 ·obtain⟨r,h⟩:=dnq_ex (-A) hB;refine⟨-r,?_⟩;rw [sid_t]
  unfold UpQ
  rw [Int.neg_neg];exact h
theorem DnQ.of_dn{X A B a b r:Int}(hB:0 < B)(h:Dn X r)(h1:a < X)(h2:X < b)(h3:a*B < A)(h4:A < b*B)(hs:∀s,¬(a < vr s∧vr s < b)):DnQ A B r:=by
 obtain⟨d1,d2,d3,d4⟩:=h
 refine⟨d1,d2,fun k=>?_,fun k=>?_⟩
 ·have e:=d3 k;have n:=hs r
  have l:vr r≤a:=by omega
  have:=Int.mul_le_mul_of_nonneg_right l (Int.le_of_lt hB)
  omega
 ·have e:=d4 k;have n:=hs (r+1)
  have l:b≤vr (r+1):=by omega
  have:=Int.mul_le_mul_of_nonneg_right l (Int.le_of_lt hB)
  omega
theorem DnQ.of_eq{X A B r:Int}(hB:0 < B)(h:Dn X r)(e:X*B=A):DnQ A B r:=by
 obtain⟨d1,d2,d3,d4⟩:=h;subst e
 exact⟨d1,d2,fun k=>Int.mul_le_mul_of_nonneg_right (d3 k) (Int.le_of_lt hB),fun k=>Int.mul_lt_mul_of_pos_right (d4 k) hB⟩
theorem sid_of{P:Int × Int}{A B a b:Int}(up:Bool)(hP:Nf P)(hB:0 < B)(h1:a < vl P)(h2:vl P < b)(h3:a*B < A)(h4:A < b*B)(hs:∀s,¬(a < vr s∧vr s < b)):Sid up A B (rnd up P.1 P.2):=by
 obtain⟨p1,p2⟩:=rnd_spec hP
 cases up
 ·rw [sid_f];exact DnQ.of_dn hB p1 h1 h2 h3 h4 hs
 ·rw [sid_t]
  refine DnQ.of_dn (a:= -b) (b:= -a) hB p2 (by omega) (by omega) (by rw [Int.neg_mul];omega) (by rw [Int.neg_mul];omega) (fun s=>?_)
  have:=hs (-s)
  rw [vr_neg]at this
  omega
theorem sid_eq{P:Int × Int}{A B:Int}(up:Bool)(hP:Nf P)(hB:0 < B)(e:vl P*B=A):Sid up A B (rnd up P.1 P.2):=by
 obtain⟨p1,p2⟩:=rnd_spec hP
 cases up
 ·rw [sid_f];exact DnQ.of_eq hB p1 e
 ·rw [sid_t];exact DnQ.of_eq hB p2 (by rw [Int.neg_mul];omega)
theorem no_placeQ{i:Int}{u:Nat}(hi:9223372036854775808≤i)(s:Int):¬(2*i*2^u < vr s∧vr s < (2*i+2)*2^u):=by
 rintro ⟨h1,h2⟩;have hu:=p2pos u
 have hpos:0 < vr s:=Int.lt_of_le_of_lt (Int.mul_nonneg (by omega) (Int.le_of_lt hu)) h1
 have hs:0 < s:=by
  rcases Int.lt_or_le 0 s with q | q
  ·exact q
  ·exfalso
   have:=vr_le q
   rw [show vr 0=0 from rfl]at this
   omega
 have e0:vr s=((s-1)%9223372036854775808+9223372036854775808)*2^((s-1) /9223372036854775808-1048576+KK).toNat:=by
  unfold vr vp
  rw [if_neg (by omega),if_neg (by omega)]
 obtain⟨M,hM⟩:∃M,(s-1)%9223372036854775808+9223372036854775808=M:=⟨_,rfl⟩;obtain⟨t,ht⟩:∃t,((s-1) /9223372036854775808-1048576+(KK:Int)).toNat=t:=⟨_,rfl⟩;rw [hM,ht]at e0
 have hMl:M < 18446744073709551616:=by omega
 rw [e0]at h1 h2;clear e0 hM ht hs hpos
 rcases Nat.lt_or_ge u t with q | q
 ·obtain⟨d,rfl⟩:∃d,t=u+1+d:=⟨t-(u+1),by omega⟩
  have e1:M*2^(u+1+d)=M*2^d*2*2^u:=by
   rw [Int.pow_add,Int.pow_succ];generalize (2:Int)^u=U;generalize (2:Int)^d=D;rw [Int.mul_assoc M D 2,Int.mul_assoc M,Int.mul_comm U 2,Int.mul_comm (2*U) D,Int.mul_assoc D 2 U]
  rw [e1]at h1 h2;have a1:=Int.lt_of_mul_lt_mul_right h1 (Int.le_of_lt hu);have a2:=Int.lt_of_mul_lt_mul_right h2 (Int.le_of_lt hu)
  omega
 ·obtain⟨d,rfl⟩:∃d,u=t+d:=⟨u-t,by omega⟩
  have ht:=p2pos t;have hd:=p2pos d;rw [Int.pow_add]at h1
  have l1:(2:Int)^t*1≤2^t*2^d:=Int.mul_le_mul_of_nonneg_left hd (Int.le_of_lt ht)
  rw [Int.mul_one]at l1
  have l2:2*i*(2:Int)^t≤2*i*(2^t*2^d):=Int.mul_le_mul_of_nonneg_left l1 (by omega)
  have a1:=Int.lt_of_mul_lt_mul_right (Int.lt_of_le_of_lt l2 h1) (Int.le_of_lt ht)
  omega
theorem mk_vlB{z e:Int}(h:z.natAbs < 2^500000)(h1: -3000000≤e)(h2:e≤3000000):vl (mk z e)=z*2^(e+KK).toNat:=by
 obtain⟨η,hη⟩:∃η:Nat,η=4000000:=⟨_,rfl⟩;refine (mk_fit (h:=η) (by omega) (by omega) ?_).2;obtain⟨κ,hκ⟩:∃κ:Nat,κ=500000:=⟨_,rfl⟩;rw [←hκ]at h
 have:=Nat.mul_lt_mul_of_pos_right h (Nat.pow_pos (n:=(e+(η:Int)).toNat) (show 0 < 2 by decide))
 rw [←Nat.pow_add]at this;exact Nat.lt_of_lt_of_le this (Nat.pow_le_pow_right (by decide) (by omega))
def stk (q r:Nat):Nat:=2*q+if r=0 then 0 else 1
theorem quo_side{α β:Nat}{e:Int}{n κ:Nat}(up:Bool)(hβ:0 < β)(hq0:α≠0→9223372036854775808≤α*2^n/β)(hκ:κ=500000)(hs:stk (α*2^n/β) (α*2^n%β) < 2^κ)(h1: -2900000≤e-n)(h2:e≤2900000):
  Sid up ((α:Int)*2^(e+KK).toNat) (β:Int) (rnd up (mk ((stk (α*2^n/β) (α*2^n%β):Nat):Int) (e-n-1)).1 (mk ((stk (α*2^n/β) (α*2^n%β):Nat):Int) (e-n-1)).2):=by
 have hk:=KK_eq
 have hb0:(0:Int) < (β:Int):=by omega
 have nf:=mk_nf ((stk (α*2^n/β) (α*2^n%β):Nat):Int) (e-n-1);have ev:=mk_vlB (z:=((stk (α*2^n/β) (α*2^n%β):Nat):Int)) (e:=e-n-1) (by rw [Int.natAbs_natCast,←hκ];exact hs) (by omega) (by omega);obtain⟨u,hu⟩:∃u:Nat,(e-n-1+(KK:Int)).toNat=u:=⟨_,rfl⟩
 have e1:(e+(KK:Int)).toNat=n+(1+u):=by omega
 rw [hu]at ev
 rw [e1,Int.pow_add,Int.pow_add,show (2:Int)^1=2 from rfl,←Int.mul_assoc]
 have hd:=Nat.div_add_mod (α*2^n) β;have hm:=Nat.mod_lt (α*2^n) hβ;have hpu:=p2pos u
 have hcast:((α*2^n:Nat):Int)=(α:Int)*2^n:=by push_cast;rfl
 by_cases ha:α=0
 ·subst ha
  have e2:stk (0*2^n/β) (0*2^n%β)=0:=by
   rw [Nat.zero_mul,Nat.zero_div,Nat.zero_mod]
   rfl
  rw [e2]at ev nf⊢;refine sid_eq up nf hb0 ?_;rw [ev]
  show (((0:Nat):Int))*2^u*(β:Int)=((0:Nat):Int)*2^n*(2*2^u)
  rw [show (((0:Nat):Int))=0 from rfl,Int.zero_mul,Int.zero_mul,Int.zero_mul,Int.zero_mul]
 ·have hq:=hq0 ha;clear hq0;clear hs;rw [←hcast];clear hcast;generalize α*2^n=X at ev nf hd hm hq⊢;generalize X/β=q at ev nf hd hq⊢;generalize X%β=r at ev nf hd hm⊢
  have hdI:(β:Int)*(q:Int)+(r:Int)=(X:Int):=by exact_mod_cast hd
  by_cases hr:r=0
  ·have e3:stk q r=2*q:=by
    unfold stk
    rw [if_pos hr]
    omega
   rw [e3]at ev nf⊢;refine sid_eq up nf hb0 ?_;rw [ev,←hdI,hr]
   show (((2*q:Nat)):Int)*2^u*(β:Int)=((β:Int)*(q:Int)+((0:Nat):Int))*(2*2^u)
   push_cast
   generalize (2:Int)^u=U;rw [Int.add_zero,Int.mul_assoc,Int.mul_comm U,Int.mul_assoc 2,←Int.mul_assoc (q:Int),Int.mul_comm (q:Int),Int.mul_left_comm]
  ·have e3:stk q r=2*q+1:=by
    unfold stk
    rw [if_neg hr]
   rw [e3]at ev nf⊢
   have c1:(((2*q+1:Nat)):Int)=2*(q:Int)+1:=by omega
   have c2:(2*(q:Int)*2^u)*(β:Int)=(β:Int)*(q:Int)*(2*2^u):=by
    generalize (2:Int)^u=U;rw [Int.mul_right_comm,Int.mul_comm 2 (q:Int),Int.mul_assoc (q:Int) 2,Int.mul_comm 2 (β:Int),←Int.mul_assoc (q:Int),Int.mul_comm (q:Int),Int.mul_assoc]
   have c3:((2*(q:Int)+2)*2^u)*(β:Int)=((β:Int)*(q:Int)+(β:Int))*(2*2^u):=by
    rw [show 2*(q:Int)+2=2*((q:Int)+1) by omega,show (β:Int)*(q:Int)+(β:Int)=(β:Int)*((q:Int)+1) by rw [Int.mul_add,Int.mul_one]]
    generalize (2:Int)^u=U;generalize (q:Int)+1=p;rw [Int.mul_right_comm,Int.mul_comm 2 p,Int.mul_assoc p 2,Int.mul_comm 2 (β:Int),←Int.mul_assoc p,Int.mul_comm p,Int.mul_assoc]
   have h2u:(0:Int) < 2*2^u:=by omega
   refine sid_of up nf hb0 (a:=2*(q:Int)*2^u) (b:=(2*(q:Int)+2)*2^u) ?_ ?_ ?_ ?_ (no_placeQ (by omega))
   ·rw [ev,c1];exact Int.mul_lt_mul_of_pos_right (by omega) hpu
   ·rw [ev,c1];exact Int.mul_lt_mul_of_pos_right (by omega) hpu
   ·rw [c2];exact Int.mul_lt_mul_of_pos_right (by omega) h2u
   ·rw [c3];exact Int.mul_lt_mul_of_pos_right (by omega) h2u
theorem sid_exact{up:Bool}{A B r:Int}(hB:0 < B)(h1: -19342822337206103650074625 < r)(h2:r < 19342822337206103650074625)(e:vr r*B=A):Sid up A B r:=by
 cases up
 ·rw [sid_f];exact DnQ.of_eq hB (dn_self h1 h2) e
 ·rw [sid_t];refine DnQ.of_eq hB (dn_self (r:= -r) (by omega) (by omega)) ?_;rw [vr_neg,Int.neg_mul,e]
theorem sid_two{A B r t:Int}(hB:0 < B)(h:Sid false A B r)(k:Sid true A B t):(t=r∧vr r*B=A∧ -19342822337206103650074625 < r∧r < 19342822337206103650074625)∨(t=r+1∧(-19342822337206103650074625 < r→vr r*B < A)∧(t < 19342822337206103650074625→A < vr t*B)):=by
 rw [sid_f]at h;rw [sid_t]at k;obtain⟨h1,h2,h3,h4⟩:=h;obtain⟨k1,k2,k3,k4⟩:=k
 have k3':t < 19342822337206103650074625→A≤vr t*B:=fun c=>by
  have:=k3 (by omega)
  rw [vr_neg,Int.neg_mul]at this
  omega
 have k4': -19342822337206103650074624 < t→vr (t-1)*B < A:=fun c=>by
  have:=k4 (by omega)
  rw [show -t+1= -(t-1) by omega,vr_neg,Int.neg_mul]at this
  omega
 have mul_le:∀a b:Int,a≤b→vr a*B≤vr b*B:=fun a b c=>Int.mul_le_mul_of_nonneg_right (vr_le c) (Int.le_of_lt hB)
 have hrt:r≤t:=by
  rcases Int.lt_or_le t r with q | q
  ·exfalso
   have a:=h3 (by omega);have b:=k3' (by omega)
   have c:vr t*B < vr r*B:=Int.mul_lt_mul_of_pos_right (vr_lt q) hB
   omega
  ·exact q
 have htr:t≤r+1:=by
  rcases Int.lt_or_le (r+1) t with q | q
  ·exfalso
   have a:=h4 (by omega);have b:=k4' (by omega);have c:=mul_le (r+1) (t-1) (by omega)
   omega
  ·exact q
 by_cases e:t=r
 ·subst e
  left
  have a:=h3 (by omega);have b:=k3' (by omega);exact⟨rfl,by omega,by omega,by omega⟩
 ·right
  have e2:t=r+1:=by omega
  refine⟨e2,fun c=>?_,fun c=>?_⟩
  ·have:=k4' (by omega)
   rw [e2,show r+1-1=r by omega]at this
   exact this
  ·have:=h4 (by omega)
   rw [←e2]at this;exact this
def Qt (up:Bool)(x y r:Int):Prop:=
 if y=0 then r=sgi (!up) TP else if x=0∨infp y=true then r=0 else if infp x=true then r=sgi (decide (x < 0) !=decide (y < 0)) TP else Sid up (sgi (decide (y < 0)) (vr x)*2^KK) (sgi (decide (y < 0)) (vr y)) r
theorem qt_zero{up:Bool}{x y r:Int}(hy:y≠0)(h:x=0∨infp y=true):Qt up x y r↔r=0:=by
 unfold Qt
 rw [if_neg hy,if_pos h]
theorem qt_none'{up:Bool}{x r:Int}:Qt up x 0 r↔r=sgi (!up) TP:=by
 unfold Qt
 rw [if_pos rfl]
theorem qt_inf{up:Bool}{x y r:Int}(hy:y≠0)(h:¬(x=0∨infp y=true))(hx:infp x=true):Qt up x y r↔r=sgi (decide (x < 0) !=decide (y < 0)) TP:=by
 unfold Qt
 rw [if_neg hy,if_neg h,if_pos hx]
theorem qt_fin{up:Bool}{x y r:Int}(hy:y≠0)(h:¬(x=0∨infp y=true))(hx:infp x=false):Qt up x y r↔Sid up (sgi (decide (y < 0)) (vr x)*2^KK) (sgi (decide (y < 0)) (vr y)) r:=by
 unfold Qt
 rw [if_neg hy,if_neg h,if_neg (by rw [hx];exact ff)]
theorem sg_vr_pos{y:Int}(hy:y≠0):0 < sgi (decide (y < 0)) (vr y):=by
 by_cases c:y < 0
 ·rw [decide_eq_true c,wsg_t]
  have:=vr_pos (x:= -y) (by omega)
  rw [vr_neg]at this;exact this
 ·rw [decide_eq_false c,wsg_f];exact vr_pos (by omega)
theorem Qt.uniq{up:Bool}{x y r t:Int}(h:Qt up x y r)(k:Qt up x y t):r=t:=by
 by_cases hy:y=0
 ·subst hy;rw [qt_none'.1 h,qt_none'.1 k]
 ·by_cases h0:x=0∨infp y=true
  ·rw [(qt_zero hy h0).1 h,(qt_zero hy h0).1 k]
  ·cases hx:infp x
   ·exact ((qt_fin hy h0 hx).1 h).uniq (sg_vr_pos hy) ((qt_fin hy h0 hx).1 k)
   ·rw [(qt_inf hy h0 hx).1 h,(qt_inf hy h0 hx).1 k]
theorem Qt.bd{up:Bool}{x y r:Int}(h:Qt up x y r): -19342822337206103650074625≤r∧r≤19342822337206103650074625:=by
 have htp:=TP_eq
 have sg:∀s,-19342822337206103650074625≤sgi s TP∧sgi s TP≤19342822337206103650074625:=fun s=>by
  rcases sgT s with e | e <;> rw [e] <;> omega
 by_cases hy:y=0
 ·subst hy;rw [qt_none'.1 h];exact sg _
 ·by_cases h0:x=0∨infp y=true
  ·rw [(qt_zero hy h0).1 h]
   decide
  ·cases hx:infp x
   ·exact ((qt_fin hy h0 hx).1 h).bd
   ·rw [(qt_inf hy h0 hx).1 h];exact sg _
theorem sgi_sgi (s:Bool)(x:Int):sgi s (sgi s x)=x:=by
 cases s
 ·rw [wsg_f,wsg_f]
 ·rw [wsg_t,wsg_t,Int.neg_neg]
def Rt (up:Bool)(X r:Int):Prop:=
 if up=true then 0 < r∧r≤19342822337206103650074625∧(r < 19342822337206103650074625→X≤vr r*vr r)∧vr (r-1)*vr (r-1) < X
 else 0≤r∧r≤19342822337206103650074624∧vr r*vr r≤X∧(r < 19342822337206103650074624→X < vr (r+1)*vr (r+1))
theorem rt_f{X r:Int}:Rt false X r↔(0≤r∧r≤19342822337206103650074624∧vr r*vr r≤X∧(r < 19342822337206103650074624→X < vr (r+1)*vr (r+1))):=by
 unfold Rt
 rw [if_neg ff]
theorem rt_t{X r:Int}:Rt true X r↔(0 < r∧r≤19342822337206103650074625∧(r < 19342822337206103650074625→X≤vr r*vr r)∧vr (r-1)*vr (r-1) < X):=by
 unfold Rt
 rw [if_pos rfl]
theorem sq_le{a b:Int}(h0:0≤a)(h:a≤b):a*a≤b*b:=Int.mul_le_mul h h h0 (by omega)
theorem vr_sq{r t:Int}(h0:0≤r)(h:r≤t):vr r*vr r≤vr t*vr t:=sq_le (vr_nn h0) (vr_le h)
theorem Rt.uniq{up:Bool}{X r t:Int}(h:Rt up X r)(k:Rt up X t):r=t:=by
 have key:∀{r t},Rt up X r→Rt up X t→¬r < t:=by
  intro r t h k c
  cases up
  ·obtain⟨h1,h2,h3,h4⟩:=rt_f.1 h;obtain⟨k1,k2,k3,k4⟩:=rt_f.1 k;have a:=h4 (by omega);have b:=vr_sq (r:=r+1) (t:=t) (by omega) (by omega)
   omega
  ·obtain⟨h1,h2,h3,h4⟩:=rt_t.1 h;obtain⟨k1,k2,k3,k4⟩:=rt_t.1 k;have a:=h3 (by omega);have b:=vr_sq (r:=r) (t:=t-1) (by omega) (by omega)
   omega
 have a:=key h k;have b:=key k h
 omega
theorem rnd_sgi{σ up:Bool}{z e:Int}:rnd up (mk (sgi σ z) e).1 (mk (sgi σ z) e).2=sgi σ (rnd (up !=σ) (mk z e).1 (mk z e).2):=by
 cases σ
 ·rw [wsg_f,wsg_f]
  cases up <;> rfl
 ·rw [wsg_t,wsg_t,mk_neg];have h:=rnd_turn (mk_nf z e) (!up);rw [Bool.not_not]at h;rw [h]
  cases up <;> rfl
theorem Sid.cross{up:Bool}{A B C D r:Int}(hB:0 < B)(hD:0 < D)(h:Sid up A B r)(e:A*D=C*B):Sid up C D r:=by
 obtain⟨t,ht⟩:=sid_ex up C hD;have a:=h.mono hB hD ht (Int.le_of_eq e);have b:=ht.mono hD hB h (Int.le_of_eq e.symm)
 have c:r=t:=by omega
 rw [c];exact ht
def Rq (up:Bool)(z y r:Int):Prop:=if y=0 then r=sgi (!up) TP else Sid up (sgi (decide (y < 0)) z*2^KK) (sgi (decide (y < 0)) y) r
theorem rq_none{up:Bool}{z r:Int}:Rq up z 0 r↔r=sgi (!up) TP:=by
 unfold Rq
 rw [if_pos rfl]
theorem rq_some{up:Bool}{z y r:Int}(hy:y≠0):Rq up z y r↔Sid up (sgi (decide (y < 0)) z*2^KK) (sgi (decide (y < 0)) y) r:=by
 unfold Rq
 rw [if_neg hy]
theorem sg_pos{y:Int}(hy:y≠0):0 < sgi (decide (y < 0)) y:=by
 by_cases c:y < 0
 ·rw [decide_eq_true c,wsg_t];omega
 ·rw [decide_eq_false c,wsg_f];omega
theorem rq_ex (up:Bool)(z y:Int):∃r,Rq up z y r:=by
 by_cases hy:y=0
 ·subst hy;exact⟨_,rq_none.2 rfl⟩
 ·obtain⟨r,hr⟩:=sid_ex up (sgi (decide (y < 0)) z*2^KK) (sg_pos hy);exact⟨r,(rq_some hy).2 hr⟩
theorem Rq.uniq{up:Bool}{z y r t:Int}(h:Rq up z y r)(k:Rq up z y t):r=t:=by
 by_cases hy:y=0
 ·subst hy;rw [rq_none.1 h,rq_none.1 k]
 ·exact ((rq_some hy).1 h).uniq (sg_pos hy) ((rq_some hy).1 k)
theorem Rq.mono{up:Bool}{z y z' y' r t:Int}(hy:0 < y)(hy':0 < y')(h:Rq up z y r)(k:Rq up z' y' t)(hle:z*y'≤z'*y):r≤t:=by
 have a:=(rq_some (by omega)).1 h;have b:=(rq_some (by omega)).1 k;rw [decide_eq_false (by omega),wsg_f,wsg_f]at a b;refine a.mono hy hy' b ?_
 have:=Int.mul_le_mul_of_nonneg_right hle (Int.le_of_lt (p2pos KK))
 rw [Int.mul_right_comm z,Int.mul_right_comm z'];exact this
theorem rq_of{up s t:Bool}{α β:Nat}{r:Int}(hβ:0 < β)(h:Sid up (sgi (s !=t) ((α:Int)*2^(0+(KK:Int)).toNat)) (β:Int) r):Rq up (sgi s (α:Int)) (sgi t (β:Int)) r:=by
 have hy:sgi t (β:Int)≠0:=by
  cases t
  ·rw [wsg_f];omega
  ·rw [wsg_t];omega
 refine (rq_some hy).2 ?_
 have ht:decide (sgi t (β:Int) < 0)=t:=by
  cases t
  ·rw [wsg_f];exact decide_eq_false (by omega)
  ·rw [wsg_t];exact decide_eq_true (by omega)
 rw [ht,sgi_sgi]
 have e:sgi t (sgi s (α:Int))*2^KK=sgi (s !=t) ((α:Int)*2^(0+(KK:Int)).toNat):=by
  rw [show (0+(KK:Int)).toNat=KK by omega,←sgi_mul]
  congr 1
  cases s <;> cases t
  ·rfl
  ·rfl
  ·rfl
  ·rw [show (true !=true)=false from rfl,wsg_f,wsg_t,wsg_t,Int.neg_neg]
 rw [e];exact h
end Go.Proofs.YtaadmpiphnfllaaGreatDoor
