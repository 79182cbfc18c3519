/-
 Contracts that the proof rests on.
-/
import Derived.Test.YtaadmpiphnfllaaGreatDoorYAbf
namespace Go.Proofs.YtaadmpiphnfllaaGreatDoor
set_option maxHeartbeats 8000000
open Go.RowKit
set_option linter.unusedVariables false
set_option linter.unusedSimpArgs false
set_option maxRecDepth 100000
theorem cinv_lo{w:World}{n:Int}(h:n < 2):Calls Tryz.prog 185 #[.int .i64 n] w (W2 w 1000000 0 0):=by
 have t1:decide (n < 2)=true:=decide_eq_true h
 go_enter Tryz.func185,Tryz.ntmps185
 go_upto_region 1 with (fail)
 generalize hW1:(w.alloc _).alloc _=w1 at *;obtain⟨XR,XS,HB⟩:=Bo.en2 hW1;clear hW1;have xXR:=XR.cell;have zXR0:=XR.frozen;have xXS:=XS.cell;have zXS0:=XS.frozen;go_wp2;clear xXR zXR0 xXS zXS0;generalize hS:(w1.setCell _ _).setCell _ _=w2 at *;have SX:=StN.of2 XR hS;replace XS:=XS.stn SX (by omega);replace HB:=Hqs HB SX (by omega)
 replace XR:=SX.box;clear SX hS;generalize hS:(w2.setCell _ _).setCell _ _=w3 at *;have SX:=StN.of2 XS hS;replace XR:=XR.stn SX (by omega);replace HB:=Hqs HB SX (by omega);replace XS:=SX.box;clear SX hS;exact bodyPost_ret (v:= .tuple #[.agg #[.bool false,.slice none 0 0],.agg #[.bool false,.slice none 0 0]]) (by simp [results,Tryz.results185,go_sem,XR.cell,XS.cell]) rfl ⟨_,_,_,_,_,_,_,_,rfl,⟨Nm.zero,rfl⟩,⟨Nm.zero,rfl⟩,Nat.zero_le _,Nat.zero_le _,HB.out⟩
theorem cinv_hi{w:World}{n:Int}(h:1000 < n):Calls Tryz.prog 185 #[.int .i64 n] w (W2 w 1000000 0 0):=by
 have t1:decide (n < 2)=false:=decide_eq_false (by omega)
 have t2:decide (1000 < n)=true:=decide_eq_true h
 go_enter Tryz.func185,Tryz.ntmps185
 go_upto_region 1 with (fail)
 generalize hW1:(w.alloc _).alloc _=w1 at *;obtain⟨XR,XS,HB⟩:=Bo.en2 hW1;clear hW1;have xXR:=XR.cell;have zXR0:=XR.frozen;have xXS:=XS.cell;have zXS0:=XS.frozen;go_wp2;clear xXR zXR0 xXS zXS0;generalize hS:(w1.setCell _ _).setCell _ _=w2 at *;have SX:=StN.of2 XR hS;replace XS:=XS.stn SX (by omega);replace HB:=Hqs HB SX (by omega)
 replace XR:=SX.box;clear SX hS;generalize hS:(w2.setCell _ _).setCell _ _=w3 at *;have SX:=StN.of2 XS hS;replace XR:=XR.stn SX (by omega);replace HB:=Hqs HB SX (by omega);replace XS:=SX.box;clear SX hS;exact bodyPost_ret (v:= .tuple #[.agg #[.bool false,.slice none 0 0],.agg #[.bool false,.slice none 0 0]]) (by simp [results,Tryz.results185,go_sem,XR.cell,XS.cell]) rfl ⟨_,_,_,_,_,_,_,_,rfl,⟨Nm.zero,rfl⟩,⟨Nm.zero,rfl⟩,Nat.zero_le _,Nat.zero_le _,HB.out⟩
theorem cinv_in{w:World}{n:Int}(h1:2≤n)(h2:n≤1000){a b:Int}(hr:invP n=(a,b)):Calls Tryz.prog 185 #[.int .i64 n] w (W2 w 1000000 a b):=by
 have t1:decide (n < 2)=false:=decide_eq_false (by omega)
 have t2:decide (1000 < n)=false:=decide_eq_false (by omega)
 obtain⟨R,hR⟩:∃R,invG n 200 0 0 n=R:=⟨_,rfl⟩
 have hans:R.1-((R.2:Int)+1)=a∧R.1+((R.2:Int)+1)=b:=by
  unfold invP at hr
  rw [if_neg (by omega),hR]at hr
  injection hr with e1 e2
  exact⟨by omega,e2⟩
 have HR:=Lib.hid hR;have HA:=Lib.hid hans.1;have HBB:=Lib.hid hans.2;clear hr hR hans
 go_enter Tryz.func185,Tryz.ntmps185
 go_upto_region 1 with (fail)
 generalize hW1:(w.alloc _).alloc _=w1 at *;obtain⟨XR,XS,HB⟩:=Bo.en2 hW1;clear hW1;have G0:=XS.lt
 go_wp2_with fail
 refine (cTerms h1 h2).mono ?_;rintro ee w2 ⟨gp,go,gb,s6,A6,n6,c6,s7,A7,n7,c7,rfl,XP,XO,XB,p6,p7,k6,k7,hpo,hpb,hob,hg1,hg2,B⟩;replace XR:=XR.below B;replace XS:=XS.below B;replace HB:=Hqb HB B;clear B;clear t1 t2;have hsz:=HB.out.size;have ltXR:=XR.lt;have ltXS:=XS.lt
 go_wp2_with fail
 refine (cAlt XP XO XB p6 p7 k6 k7 hpo hpb hob h1 h2 HR.out).mono ?_;rintro ee w3 ⟨s4,A4,n4,c4,rfl,p4,k4,hk,B⟩;replace XR:=XR.duo B (by omega) (by omega);replace XS:=XS.duo B (by omega) (by omega);replace HB:=Lib.hid (B.below HB.out (by omega) (by omega) (by omega));clear B XP XO XB p6 p7 HR;clear hg1 hg2 hpo hpb hob ltXR ltXS hsz G0;obtain⟨R1,R2⟩:=R;simp only at p4 hk HA HBB⊢
 go_upto_region 4 with (fail)
 have lX4:=Nat.le_refl (World.heap w3).size;have nX4XR:=XR.lt;have nX4XS:=XS.lt;generalize hWn:w3.alloc _=w4 at *;obtain⟨X4,BW⟩:=Bo.nw hWn;clear hWn;replace XR:=XR.below BW;replace XS:=XS.below BW;replace p4:=p4.below BW;replace HB:=Hqb HB BW;clear BW;clear lX4
 have HW1:Hid (IntKind.i64.wrap ((R2:Int)+1)=(R2:Int)+1):=Lib.hid (IntWalk.i64_in _ (by omega))
 have HW2:Hid (wrap64 ((R2:Int)+1)=(R2:Int)+1):=Lib.hid (IntWalk.wrap64_in _ (by omega))
 have hw1:=HW1.out;have hw2:=HW2.out
 go_wp2_with fail
 refine (wFrom ((R2:Int)+1) _ (by omega) (by omega)).mono ?_;rintro ee w5 ⟨s5,A5,n5,c5,rfl,p5,k5,B⟩;replace XR:=XR.below B;replace XS:=XS.below B;replace X4:=X4.below B;replace p4:=p4.below B;replace HB:=Hqb HB B;clear B;clear hw1 hw2 HW1 HW2;have hsz:=HB.out.size
 go_upto_region 5 with (fail)
 have lX6:=Nat.le_refl (World.heap w5).size;have nX6XR:=XR.lt;have nX6XS:=XS.lt;have nX6X4:=X4.lt;generalize hWn:w5.alloc _=w6 at *;obtain⟨X6,BW⟩:=Bo.nw hWn;clear hWn;replace XR:=XR.below BW;replace XS:=XS.below BW;replace X4:=X4.below BW;replace p4:=p4.below BW;replace p5:=p5.below BW;replace HB:=Hqb HB BW;clear BW;clear lX6;have ltXR:=XR.lt
 have ltXS:=XS.lt;have ltX4:=X4.lt;have ltX6:=X6.lt;refine Jo.rk [0,1,2,3,4,5] [some 24,some 25,some 26,some 27,some 28,some 29,none,none] [[],[],[0,1],[],[],[3,4],[],[]] 8 2 [Jo.Fact.eq (.agg #[.bool s4,.slice A4 n4 c4]),Jo.Fact.eq (.agg #[.bool s5,.slice A5 n5 c5]),Jo.Fact.wn (a) (1000000),Jo.Fact.eq (.agg #[.bool s4,.slice A4 n4 c4]),Jo.Fact.eq (.agg #[.bool s5,.slice A5 n5 c5]),Jo.Fact.wn (b) (1000000),Jo.Fact.any,Jo.Fact.any] (by kernel_rfl) (by kernel_rfl) (by decide) rfl ?_ ?_
 ·iterate 2 (refine Jo.jm rfl ?_ ?_;rotate_left)
  refine Jo.jm rfl ?_ ?_
  ·rintro wj hJ _ rfl _ rfl K hK;simp only [Jo.z]at hK⊢;go_simp;refine (wSub (p4.below hJ).wr (p5.below hJ).wr (by omega) (by omega) HA.out).mono ?_;rintro ee wk ⟨s31,A31,n31,c31,rfl,p31,k31,B⟩;exact hK.out _ _ ⟨s31,A31,n31,c31,rfl,p31,by omega⟩ B
  iterate 2 (refine Jo.jm rfl ?_ ?_;rotate_left)
  refine Jo.jm rfl ?_ ?_
  ·rintro wj hJ _ rfl _ rfl K hK;simp only [Jo.z]at hK⊢;go_simp;refine (wAdd (p4.below hJ).wr (p5.below hJ).wr (by omega) (by omega) HBB.out).mono ?_;rintro ee wk ⟨s33,A33,n33,c33,rfl,p33,k33,B⟩;exact hK.out _ _ ⟨s33,A33,n33,c33,rfl,p33,by omega⟩ B
  exact Jo.Steps.nil
  all_goals (rintro wj hJ;(repeat rintro _ rfl);intro K hK;simp only [Jo.z]at hK⊢;have xX4:=(X4.below hJ).cell;have xX6:=(X6.below hJ).cell;go_simp;exact hK.out _ _ rfl (br _ _))
 rintro w9 hJ _ rfl _ rfl _ ⟨s31,A31,n31,c31,rfl,p31,k31⟩ _ rfl _ rfl _ ⟨s33,A33,n33,c33,rfl,p33,k33⟩ -;simp only [Jo.z];replace XR:=XR.below hJ;replace XS:=XS.below hJ;replace X4:=X4.below hJ;replace X6:=X6.below hJ;replace p4:=p4.below hJ;replace p5:=p5.below hJ;replace HB:=Hqb HB hJ;have xXR:=XR.cell;have zXR0:=XR.frozen
 refine Jo.jnext (i:=6) (o:=⟨none,_,_,_,_,_⟩) (by kernel_rfl) rfl (fun K hK=>?_)
 go_simp;refine hK.out _ _ ?_;clear hK K xXR zXR0;generalize hS:(w9.setCell _ _).setCell _ _=wA at *;have SX:=StN.of2 XR hS;replace XS:=XS.stn SX (by omega);replace X4:=X4.stn SX (by omega);replace X6:=X6.stn SX (by omega);replace p31:=p31.stn SX (by simp [no32]);replace p33:=p33.stn SX (by simp [no32]);replace HB:=Hqs HB SX (by omega);replace XR:=SX.box
 clear SX hS;have xXS:=XS.cell;have zXS0:=XS.frozen
 refine Jo.jnext (i:=7) (o:=⟨none,_,_,_,_,_⟩) (by kernel_rfl) rfl (fun K hK=>?_)
 go_simp;refine hK.out _ _ ?_;clear hK K xXS zXS0;generalize hS:(wA.setCell _ _).setCell _ _=wB at *;have SX:=StN.of2 XS hS;replace XR:=XR.stn SX (by omega);replace X4:=X4.stn SX (by omega);replace X6:=X6.stn SX (by omega);replace p31:=p31.stn SX (by simp [no32]);replace p33:=p33.stn SX (by simp [no32]);replace HB:=Hqs HB SX (by omega);replace XS:=SX.box
 clear SX hS;refine Jo.jdone (by kernel_rfl) ?_;go_wp2;exact bodyPost_ret (v:= .tuple #[.agg #[.bool s31,.slice A31 n31 c31],.agg #[.bool s33,.slice A33 n33 c33]]) (by simp [results,Tryz.results185,go_sem,XR.cell,XS.cell]) rfl ⟨s31,A31,n31,c31,s33,A33,n33,c33,rfl,p31,p33,k31,k33,HB.out⟩
theorem cInv{w:World}{n a b:Int}(hr:invP n=(a,b)):Calls Tryz.prog 185 #[.int .i64 n] w (W2 w 1000000 a b):=by
 by_cases h1:n < 2
 ·unfold invP at hr
  rw [if_pos (.inl h1)]at hr
  injection hr with e1 e2
  subst e1;subst e2;exact cinv_lo h1
 ·by_cases h2:1000 < n
  ·unfold invP at hr
   rw [if_pos (.inr h2)]at hr
   injection hr with e1 e2
   subst e1;subst e2;exact cinv_hi h2
  ·exact cinv_in (by omega) (by omega) hr
theorem cFour{w:World}{A:Option Addr}{n c:Nat}{s:Bool}{x:Int}{B:Option Addr}{m d:Nat}{t:Bool}{y:Int}{r:Int}(h:Wr w s A n c x)(k:Wr w t B m d y)(hn:n≤1000000)(hm:m≤1000000)(hr:16*x-4*y=r):Calls Tryz.prog 186 #[.agg #[.bool s,.slice A n c],.agg #[.bool t,.slice B m d]] w (W1 w 10000000 r):=by
 have HR:=Lib.hid hr
 have H1:Hid (prd [16,x]=16*x):=Lib.hid (by show 1*16*x=_;rw [Int.one_mul])
 have H2:Hid (prd [4,y]=4*y):=Lib.hid (by show 1*4*y=_;rw [Int.one_mul])
 clear hr
 go_enter Tryz.func186,Tryz.ntmps186
 go_upto_region 1 with (fail)
 generalize hW1:((w.alloc _).alloc _).alloc _=w1 at *;obtain⟨X2,X3,XR,HB⟩:=Bo.en3 hW1;replace h:=h.below HB.out;replace k:=k.below HB.out;clear hW1;have ltX2:=X2.lt;have ltX3:=X3.lt;have ltXR:=XR.lt;refine Jo.rk [0,1,2,3,4,5,6,7,8] [some 5,some 6,some 7,some 8,some 9,some 10,some 11,some 12,some 13,none] [[],[],[0,1],[2],[],[],[4,5],[6],[3,7],[]] 10 1 [Jo.Fact.wn (16) (2),Jo.Fact.eq (.agg #[.bool s,.slice A n c]),Jo.Fact.wl 1000000 2 [16,x],Jo.Fact.wn (16*x) (2000001),Jo.Fact.wn (4) (2),Jo.Fact.eq (.agg #[.bool t,.slice B m d]),Jo.Fact.wl 1000000 2 [4,y],Jo.Fact.wn (4*y) (2000001),Jo.Fact.wn (r) (10000000),Jo.Fact.any] (by kernel_rfl) (by kernel_rfl) (by decide) rfl ?_ ?_
 ·refine Jo.jm rfl ?_ ?_
  ·rintro wj hJ K hK;simp only [Jo.z]at hK⊢;go_simp;refine (wFrom 16 _ (by decide) (by decide)).mono ?_;rintro ee wk ⟨s20,A20,n20,c20,rfl,p20,k20,B⟩;exact hK.out _ _ ⟨s20,A20,n20,c20,rfl,p20,k20⟩ B
  refine Jo.jm rfl ?_ ?_;rotate_left
  refine Jo.jm rfl ?_ ?_
  ·rintro wj hJ _ ⟨s20,A20,n20,c20,rfl,p20,k20⟩ _ rfl K hK;simp only [Jo.z]at hK⊢;go_simp;exact hK.out _ _ ⟨_,_,rfl,Wl.lit2 rfl p20.wr (h.below hJ) (by omega) (by omega)⟩ (bel1 _ _)
  refine Jo.jm rfl ?_ ?_
  ·rintro wj hJ _ ⟨A21,c21,rfl,h21⟩ K hK;simp only [Jo.z]at hK⊢;go_simp;refine (wMul h21 (by decide) H1.out).mono ?_;rintro ee wk ⟨s22,A22,n22,c22,rfl,p22,k22,B⟩;exact hK.out _ _ ⟨s22,A22,n22,c22,rfl,p22,k22⟩ B
  refine Jo.jm rfl ?_ ?_
  ·rintro wj hJ K hK;simp only [Jo.z]at hK⊢;go_simp;refine (wFrom 4 _ (by decide) (by decide)).mono ?_;rintro ee wk ⟨s23,A23,n23,c23,rfl,p23,k23,B⟩;exact hK.out _ _ ⟨s23,A23,n23,c23,rfl,p23,k23⟩ B
  refine Jo.jm rfl ?_ ?_;rotate_left
  refine Jo.jm rfl ?_ ?_
  ·rintro wj hJ _ ⟨s23,A23,n23,c23,rfl,p23,k23⟩ _ rfl K hK;simp only [Jo.z]at hK⊢;go_simp;exact hK.out _ _ ⟨_,_,rfl,Wl.lit2 rfl p23.wr (k.below hJ) (by omega) (by omega)⟩ (bel1 _ _)
  refine Jo.jm rfl ?_ ?_
  ·rintro wj hJ _ ⟨A24,c24,rfl,h24⟩ K hK;simp only [Jo.z]at hK⊢;go_simp;refine (wMul h24 (by decide) H2.out).mono ?_;rintro ee wk ⟨s25,A25,n25,c25,rfl,p25,k25,B⟩;exact hK.out _ _ ⟨s25,A25,n25,c25,rfl,p25,k25⟩ B
  refine Jo.jm rfl ?_ ?_
  ·rintro wj hJ _ ⟨s22,A22,n22,c22,rfl,p22,k22⟩ _ ⟨s25,A25,n25,c25,rfl,p25,k25⟩ K hK;simp only [Jo.z]at hK⊢;go_simp;refine (wSub p22.wr p25.wr (by omega) (by omega) HR.out).mono ?_;rintro ee wk ⟨s26,A26,n26,c26,rfl,p26,k26,B⟩;exact hK.out _ _ ⟨s26,A26,n26,c26,rfl,p26,by omega⟩ B
  exact Jo.Steps.nil
  all_goals (rintro wj hJ;(repeat rintro _ rfl);intro K hK;simp only [Jo.z]at hK⊢;have xX2:=(X2.below hJ).cell;have xX3:=(X3.below hJ).cell;go_simp;exact hK.out _ _ rfl (br _ _))
 rintro w2 hJ _ ⟨s20,A20,n20,c20,rfl,p20,k20⟩ _ rfl _ ⟨_,_,rfl,_⟩ _ ⟨s22,A22,n22,c22,rfl,p22,k22⟩ _ ⟨s23,A23,n23,c23,rfl,p23,k23⟩ _ rfl _ ⟨_,_,rfl,_⟩ _ ⟨s25,A25,n25,c25,rfl,p25,k25⟩ _ ⟨s26,A26,n26,c26,rfl,p26,k26⟩ -;simp only [Jo.z];replace X2:=X2.below hJ;replace X3:=X3.below hJ;replace XR:=XR.below hJ;replace h:=h.below hJ;replace k:=k.below hJ
 replace HB:=Hqb HB hJ;clear h k;have xXR:=XR.cell;have zXR0:=XR.frozen
 refine Jo.jnext (i:=9) (o:=⟨none,_,_,_,_,_⟩) (by kernel_rfl) rfl (fun K hK=>?_)
 go_simp;refine hK.out _ _ ?_;clear hK K xXR zXR0;have SX:=StN.mk2 XR (.bool s26) (.slice A26 n26 c26);replace p26:=p26.stn SX (by simp [no32]);refine Jo.jdone (by kernel_rfl) ?_;go_wp2;exact bodyPost_ret (v:= .agg #[.bool s26,.slice A26 n26 c26]) (by simp [results,Tryz.results186,go_sem,SX.box.cell]) rfl ⟨s26,A26,n26,c26,rfl,p26,k26,(SX.below HB.out (by omega))⟩
theorem cBounds{w:World}:Calls Tryz.prog 143 #[] w (W2 w 7 PLo PHi):=by
 obtain⟨b1,b2⟩:=bounds_are;obtain⟨a,b,h5⟩:∃a b,invP 5=(a,b):=⟨_,_,rfl⟩;obtain⟨c,d,h239⟩:∃a b,invP 239=(a,b):=⟨_,_,rfl⟩;rw [h5,h239]at b1 b2;have H5:=Lib.hid h5;have H239:=Lib.hid h239
 have HB1:Hid (16*a-4*d=PLo):=Lib.hid (by rw [←b1];omega)
 have HB2:Hid (16*b-4*c=PHi):=Lib.hid (by rw [←b2];omega)
 clear h5 h239 b1 b2
 go_enter Tryz.func143,Tryz.ntmps143
 go_upto_region 1 with (fail)
 generalize hW1:(w.alloc _).alloc _=w1 at *;obtain⟨XR,XS,HB⟩:=Bo.en2 hW1;clear hW1
 go_wp2_with fail
 refine (cInv H5.out).mono ?_;rintro ee w2 ⟨s2,A2,n2,c2,s3,A3,n3,c3,rfl,p2,p3,k2,k3,B⟩;replace XR:=XR.below B;replace XS:=XS.below B;replace HB:=Hqb HB B;clear B;have hsz2:=HB.out.size
 go_upto_region 2 with (fail)
 have e4X3:(World.alloc w2 (.cells #[.bool s2,.slice A2 n2 c2] 27)).heap.size=w2.heap.size+1:=by simp
 have lX2:=Nat.le_refl (World.heap w2).size;have nX2XR:=XR.lt;have nX2XS:=XS.lt;have BX:=bel1 w2 (.cells #[.bool s2,.slice A2 n2 c2] 27);replace XR:=XR.below BX;replace XS:=XS.below BX;replace p2:=p2.below BX;replace p3:=p3.below BX;replace HB:=Lib.hid (bt HB.out BX)
 have X2:=Bo.new w2 #[.bool s2,.slice A2 n2 c2] 27;generalize hWn:World.alloc w2 (.cells #[.bool s2,.slice A2 n2 c2] 27)=w3 at *;clear hWn;have lX3:=Nat.le_refl (World.heap w3).size;have nX3XR:=XR.lt;have nX3XS:=XS.lt;have nX3X2:=X2.lt;generalize hWn:w3.alloc _=w4 at *;obtain⟨X3,BW⟩:=Bo.nw hWn;clear hWn;replace XR:=XR.below BW;replace XS:=XS.below BW;replace X2:=X2.below BW
 replace p2:=p2.below BW;replace p3:=p3.below BW;replace HB:=Hqb HB BW;clear BW;rw [e4X3]at X3;clear lX2 lX3 e4X3
 go_wp2_with fail
 refine (cInv H239.out).mono ?_;rintro ee w5 ⟨s4,A4,n4,c4,s5,A5,n5,c5,rfl,p4,p5,k4,k5,B⟩;replace XR:=XR.below B;replace XS:=XS.below B;replace X2:=X2.below B;replace X3:=X3.below B;replace p2:=p2.below B;replace p3:=p3.below B;replace HB:=Hqb HB B;clear B;have hsz4:=HB.out.size
 go_upto_region 3 with (fail)
 have e4X5:(World.alloc w5 (.cells #[.bool s4,.slice A4 n4 c4] 27)).heap.size=w5.heap.size+1:=by simp
 have lX4:=Nat.le_refl (World.heap w5).size;have nX4XR:=XR.lt;have nX4XS:=XS.lt;have nX4X2:=X2.lt;have nX4X3:=X3.lt;have BX:=bel1 w5 (.cells #[.bool s4,.slice A4 n4 c4] 27);replace XR:=XR.below BX;replace XS:=XS.below BX;replace X2:=X2.below BX;replace X3:=X3.below BX
 replace p2:=p2.below BX;replace p3:=p3.below BX;replace p4:=p4.below BX;replace p5:=p5.below BX;replace HB:=Lib.hid (bt HB.out BX);have X4:=Bo.new w5 #[.bool s4,.slice A4 n4 c4] 27
 generalize hWn:World.alloc w5 (.cells #[.bool s4,.slice A4 n4 c4] 27)=w6 at *;clear hWn;have lX5:=Nat.le_refl (World.heap w6).size;have nX5XR:=XR.lt;have nX5XS:=XS.lt;have nX5X2:=X2.lt;have nX5X3:=X3.lt;have nX5X4:=X4.lt;generalize hWn:w6.alloc _=w7 at *;obtain⟨X5,BW⟩:=Bo.nw hWn;clear hWn;replace XR:=XR.below BW;replace XS:=XS.below BW;replace X2:=X2.below BW
 replace X3:=X3.below BW;replace X4:=X4.below BW;replace p2:=p2.below BW;replace p3:=p3.below BW;replace p4:=p4.below BW;replace p5:=p5.below BW;replace HB:=Hqb HB BW;clear BW;rw [e4X5]at X5;clear lX4 lX5 e4X5;have ltXR:=XR.lt;have ltXS:=XS.lt;have ltX2:=X2.lt;have ltX3:=X3.lt;have ltX4:=X4.lt;have ltX5:=X5.lt;refine Jo.rk [0,1,2,3,4,5] [some 14,some 15,some 16,some 17,some 18,some 19,none,none] [[],[],[0,1],[],[],[3,4],[],[]] 8 2 [Jo.Fact.eq (.agg #[.bool s2,.slice A2 n2 c2]),Jo.Fact.eq (.agg #[.bool s5,.slice A5 n5 c5]),Jo.Fact.wn (PLo) (7),Jo.Fact.eq (.agg #[.bool s3,.slice A3 n3 c3]),Jo.Fact.eq (.agg #[.bool s4,.slice A4 n4 c4]),Jo.Fact.wn (PHi) (7),Jo.Fact.any,Jo.Fact.any] (by kernel_rfl) (by kernel_rfl) (by decide) rfl ?_ ?_
 ·iterate 2 (refine Jo.jm rfl ?_ ?_;rotate_left)
  refine Jo.jm rfl ?_ ?_
  ·rintro wj hJ _ rfl _ rfl K hK;simp only [Jo.z]at hK⊢;go_simp;refine (cFour (p2.below hJ).wr (p5.below hJ).wr k2 k5 HB1.out).mono ?_;rintro ee wk ⟨s22,A22,n22,c22,rfl,p22,k22,B⟩;exact hK.out _ _ ⟨s22,A22,n22,c22,rfl,p22,p22.fits (by decide)⟩ B
  iterate 2 (refine Jo.jm rfl ?_ ?_;rotate_left)
  refine Jo.jm rfl ?_ ?_
  ·rintro wj hJ _ rfl _ rfl K hK;simp only [Jo.z]at hK⊢;go_simp;refine (cFour (p3.below hJ).wr (p4.below hJ).wr k3 k4 HB2.out).mono ?_;rintro ee wk ⟨s25,A25,n25,c25,rfl,p25,k25,B⟩;exact hK.out _ _ ⟨s25,A25,n25,c25,rfl,p25,p25.fits (by decide)⟩ B
  exact Jo.Steps.nil
  all_goals (rintro wj hJ;(repeat rintro _ rfl);intro K hK;simp only [Jo.z]at hK⊢;have xX2:=(X2.below hJ).cell;have xX5:=(X5.below hJ).cell;have xX3:=(X3.below hJ).cell;have xX4:=(X4.below hJ).cell;go_simp;exact hK.out _ _ rfl (br _ _))
 rintro w8 hJ _ rfl _ rfl _ ⟨s22,A22,n22,c22,rfl,p22,k22⟩ _ rfl _ rfl _ ⟨s25,A25,n25,c25,rfl,p25,k25⟩ -;simp only [Jo.z];replace XR:=XR.below hJ;replace XS:=XS.below hJ;replace X2:=X2.below hJ;replace X3:=X3.below hJ;replace X4:=X4.below hJ;replace X5:=X5.below hJ;replace p2:=p2.below hJ;replace p3:=p3.below hJ;replace p4:=p4.below hJ;replace p5:=p5.below hJ
 replace HB:=Hqb HB hJ;clear p2 p3 p4 p5;have xXR:=XR.cell;have zXR0:=XR.frozen
 refine Jo.jnext (i:=6) (o:=⟨none,_,_,_,_,_⟩) (by kernel_rfl) rfl (fun K hK=>?_)
 go_simp;refine hK.out _ _ ?_;clear hK K xXR zXR0;generalize hS:(w8.setCell _ _).setCell _ _=w9 at *;have SX:=StN.of2 XR hS;replace XS:=XS.stn SX (by omega);replace X2:=X2.stn SX (by omega);replace X3:=X3.stn SX (by omega);replace X4:=X4.stn SX (by omega);replace X5:=X5.stn SX (by omega);replace p22:=p22.stn SX (by simp [no32]);replace p25:=p25.stn SX (by simp [no32])
 replace HB:=Hqs HB SX (by omega);replace XR:=SX.box;clear SX hS;have xXS:=XS.cell;have zXS0:=XS.frozen
 refine Jo.jnext (i:=7) (o:=⟨none,_,_,_,_,_⟩) (by kernel_rfl) rfl (fun K hK=>?_)
 go_simp;refine hK.out _ _ ?_;clear hK K xXS zXS0;generalize hS:(w9.setCell _ _).setCell _ _=wA at *;have SX:=StN.of2 XS hS;replace XR:=XR.stn SX (by omega);replace X2:=X2.stn SX (by omega);replace X3:=X3.stn SX (by omega);replace X4:=X4.stn SX (by omega);replace X5:=X5.stn SX (by omega);replace p22:=p22.stn SX (by simp [no32]);replace p25:=p25.stn SX (by simp [no32])
 replace HB:=Hqs HB SX (by omega);replace XS:=SX.box;clear SX hS;refine Jo.jdone (by kernel_rfl) ?_;go_wp2;exact bodyPost_ret (v:= .tuple #[.agg #[.bool s22,.slice A22 n22 c22],.agg #[.bool s25,.slice A25 n25 c25]]) (by simp [results,Tryz.results143,go_sem,XR.cell,XS.cell]) rfl ⟨s22,A22,n22,c22,s25,A25,n25,c25,rfl,p22,p25,k22,k25,HB.out⟩
theorem cPart{w:World}{A:Option Addr}{n c:Nat}{s:Bool}{x:Int}{B:Option Addr}{m d:Nat}{t:Bool}{y:Int}{r u:Int}{z:Sp}(hT:Tab w)(h:Wr w s A n c x)(k:Wr w t B m d y)(hn:n≤20)(hm:m≤20)(hr:Rq false x SC r)(hu:Rq true y SC u)(hz:mkI r u=z):Calls Tryz.prog 101 #[.agg #[.bool s,.slice A n c],.agg #[.bool t,.slice B m d]] w (PV w z):=by
 have HR:=Lib.hid hr;have HU:=Lib.hid hu;have HZ:=Lib.hid hz;clear hr hu hz
 go_enter Tryz.func101,Tryz.ntmps101
 go_upto_region 1 with (fail)
 generalize hW1:((w.alloc _).alloc _).alloc _=w1 at *;obtain⟨X2,X3,XR,HB⟩:=Bo.en3 hW1;replace hT:=hT.below HB.out;replace h:=h.below HB.out;replace k:=k.below HB.out;clear hW1;have ltX2:=X2.lt;have ltX3:=X3.lt;have ltXR:=XR.lt;refine Jo.rk [0,1,2,3,4,5,6] [some 5,some 6,some 7,some 8,some 9,some 10,some 11,none] [[],[],[0,1],[],[],[3,4],[2,5],[]] 8 1 [Jo.Fact.eq (.agg #[.bool s,.slice A n c]),Jo.Fact.wn (SC) (8),Jo.Fact.num r,Jo.Fact.eq (.agg #[.bool t,.slice B m d]),Jo.Fact.wn (SC) (8),Jo.Fact.num u,Jo.Fact.iv z,Jo.Fact.any] (by kernel_rfl) (by kernel_rfl) (by decide) rfl ?_ ?_
 ·refine Jo.jm rfl ?_ ?_;rotate_left
  refine Jo.jm rfl ?_ ?_
  ·rintro wj hJ K hK;simp only [Jo.z]at hK⊢;go_simp;refine (cScale).mono ?_;rintro ee wk ⟨s20,A20,n20,c20,rfl,p20,k20,B⟩;exact hK.out _ _ ⟨s20,A20,n20,c20,rfl,p20,k20⟩ B
  refine Jo.jm rfl ?_ ?_
  ·rintro wj hJ _ rfl _ ⟨s20,A20,n20,c20,rfl,p20,k20⟩ K hK;simp only [Jo.z]at hK⊢;go_simp;refine (kRatio (hT.below hJ) (h.below hJ) p20.wr hn (by omega) HR.out).mono ?_;rintro ee wk ⟨K21,s21,M21,E21,rfl,q21,B⟩;exact hK.out _ _ ⟨K21,s21,M21,E21,rfl,q21⟩ B
  refine Jo.jm rfl ?_ ?_;rotate_left
  refine Jo.jm rfl ?_ ?_
  ·rintro wj hJ K hK;simp only [Jo.z]at hK⊢;go_simp;refine (cScale).mono ?_;rintro ee wk ⟨s22,A22,n22,c22,rfl,p22,k22,B⟩;exact hK.out _ _ ⟨s22,A22,n22,c22,rfl,p22,k22⟩ B
  refine Jo.jm rfl ?_ ?_
  ·rintro wj hJ _ rfl _ ⟨s22,A22,n22,c22,rfl,p22,k22⟩ K hK;simp only [Jo.z]at hK⊢;go_simp;refine (kRatio (hT.below hJ) (k.below hJ) p22.wr hm (by omega) HU.out).mono ?_;rintro ee wk ⟨K23,s23,M23,E23,rfl,q23,B⟩;exact hK.out _ _ ⟨K23,s23,M23,E23,rfl,q23⟩ B
  refine Jo.jm rfl ?_ ?_
  ·rintro wj hJ _ ⟨K21,s21,M21,E21,rfl,q21⟩ _ ⟨K23,s23,M23,E23,rfl,q23⟩ K hK;simp only [Jo.z]at hK⊢;go_simp;refine (kvMake q21.top q23.top q21.rk q23.rk HZ.out).mono ?_;rintro ee wk ⟨e24,K24,s24,M24,E24,K24b,s24b,M24b,E24b,rfl,v24,B⟩;exact hK.out _ _ ⟨e24,K24,s24,M24,E24,K24b,s24b,M24b,E24b,rfl,v24⟩ B
  exact Jo.Steps.nil
  all_goals (rintro wj hJ;(repeat rintro _ rfl);intro K hK;simp only [Jo.z]at hK⊢;have xX2:=(X2.below hJ).cell;have xX3:=(X3.below hJ).cell;go_simp;exact hK.out _ _ rfl (br _ _))
 rintro w2 hJ _ rfl _ ⟨s20,A20,n20,c20,rfl,p20,k20⟩ _ ⟨K21,s21,M21,E21,rfl,q21⟩ _ rfl _ ⟨s22,A22,n22,c22,rfl,p22,k22⟩ _ ⟨K23,s23,M23,E23,rfl,q23⟩ _ ⟨e24,K24,s24,M24,E24,K24b,s24b,M24b,E24b,rfl,v24⟩ -;simp only [Jo.z];replace X2:=X2.below hJ;replace X3:=X3.below hJ;replace XR:=XR.below hJ;replace hT:=hT.below hJ;replace h:=h.below hJ;replace k:=k.below hJ
 replace HB:=Hqb HB hJ;clear h k hT;have xXR:=XR.cell;have zXR0:=XR.frozen
 refine Jo.jnext (i:=7) (o:=⟨none,_,_,_,_,_⟩) (by kernel_rfl) rfl (fun K hK=>?_)
 go_simp;refine hK.out _ _ ?_;clear hK K xXR zXR0;have SX:=StN.mk9 XR (.bool e24) (.int .i64 K24) (.bool s24) (.int .u64 M24) (.int .i64 E24) (.int .i64 K24b) (.bool s24b) (.int .u64 M24b) (.int .i64 E24b);refine Jo.jdone (by kernel_rfl) ?_;go_wp2;exact bodyPost_ret (by simp [results,Tryz.results101,go_sem,SX.box.cell]) rfl ⟨_,_,_,_,_,_,_,_,_,rfl,v24,(SX.below HB.out (by omega))⟩
theorem cFix{w:World}{D M E:Int}{s:Bool}{x z:Int}{t:Bool}(hT:Tab w)(h0:0≤M)(hM:LQ M)(hx:rk D s M E=x)(hz:fixI x=z)(ht:fixB x=t):Calls Tryz.prog 144 #[VQ D s M E] w (WB w 140000 z t):=by
 delta VQ
 obtain⟨m,hm⟩:∃m,mxp [x,-x]=m:=⟨_,rfl⟩;obtain⟨σ,hσ⟩:∃σ,cmpI m (opl 1073741824)=σ:=⟨_,rfl⟩;have hc0:=fixB_max ((mxp_opp (hx▸(rk_bd hM).1)).symm.trans hm) hσ;rw [ht]at hc0;have HX:=Lib.hid hx;have HZ:=Lib.hid hz;have HTT:=Lib.hid ht;have HMX:=Lib.hid hm;have HC:=Lib.hid hσ;have HC0:=Lib.hid hc0;clear hx hz ht hm hσ hc0
 go_enter Tryz.func144,Tryz.ntmps144
 go_upto_region 1 with (fail)
 generalize hW1:(w.alloc _).alloc _=w1 at *;obtain⟨X1,XR,HB⟩:=Bo.en2 hW1;replace hT:=hT.below HB.out;clear hW1;have ltX1:=X1.lt;have ltXR:=XR.lt
 cases t
 ·obtain rfl:0=z:=by rw [←HZ.out,fixI_no HTT.out]
  clear HZ HTT;refine Jo.rk [0,1,2,3,4,5,6,7] [some 6,some 7,some 8,some 9,some 10,some 11,some 12,some 13] [[],[],[1],[0,2],[3],[],[4,5],[6]] 8 0 [Jo.q4 D s M E,Jo.q4 D s M E,Jo.Fact.num (-x),Jo.Fact.nl 2 [x,-x],Jo.Fact.num m,Jo.Fact.num (opl 1073741824),Jo.qi σ,Jo.qb true] (by kernel_rfl) (by kernel_rfl) (by decide) rfl ?_ ?_
  ·iterate 2 (refine Jo.jm rfl ?_ ?_;rotate_left)
   refine Jo.jm rfl ?_ ?_
   ·rintro wj hJ _ rfl K hK;simp only [Jo.z]at hK⊢;go_simp;refine (nNeg hM (by rw [HX.out])).mono ?_;rintro ee wk ⟨K20,s20,M20,E20,rfl,q20,B⟩;exact hK.out _ _ ⟨K20,s20,M20,E20,rfl,q20⟩ B
   refine Jo.jm rfl ?_ ?_
   ·rintro wj hJ _ rfl _ ⟨K20,s20,M20,E20,rfl,q20⟩ K hK;simp only [Jo.z]at hK⊢;go_simp;exact hK.out _ _ ⟨_,2,rfl,Nl.lit2 rfl hM q20.top HX.out q20.rk⟩ (bel1 _ _)
   refine Jo.jm rfl ?_ ?_
   ·rintro wj hJ _ ⟨A25,c25,rfl,h25⟩ K hK;simp only [Jo.z]at hK⊢;go_simp;refine (nMost h25 HMX.out).mono ?_;rintro ee wk ⟨K21,s21,M21,E21,rfl,q21,B⟩;exact hK.out _ _ ⟨K21,s21,M21,E21,rfl,q21⟩ B
   refine Jo.jm rfl ?_ ?_
   ·rintro wj hJ K hK;simp only [Jo.z]at hK⊢;go_simp;refine (nOf _ (by decide) (by decide) rfl).mono ?_;rintro ee wk ⟨K22,s22,M22,E22,rfl,q22,B⟩;exact hK.out _ _ ⟨K22,s22,M22,E22,rfl,q22⟩ B
   refine Jo.jm rfl ?_ ?_
   ·rintro wj hJ _ ⟨K21,s21,M21,E21,rfl,q21⟩ _ ⟨K22,s22,M22,E22,rfl,q22⟩ K hK;simp only [Jo.z]at hK⊢;go_simp;refine (nCmp (z:=σ) q21.top q22.top (by rw [q21.rk,q22.rk];exact HC.out)).mono ?_;rintro ee wk ⟨rfl,B⟩;exact hK.out _ _ rfl B
   refine Jo.jm rfl ?_ ?_
   ·rintro wj hJ _ rfl K hK;simp only [Jo.z]at hK⊢;have hc0:=HC0.out;go_simp
    exact hK.out _ _ (by first | rfl | (show Value.bool _=Value.bool _;rw [hc0];rfl) | simp_all) (br _ _)
   exact Jo.Steps.nil
   all_goals (rintro wj hJ;(repeat rintro _ rfl);intro K hK;simp only [Jo.z]at hK⊢;have xX1:=(X1.below hJ).cell;go_simp;exact hK.out _ _ rfl (br _ _))
  rintro w2 hJ _ rfl _ rfl _ ⟨K20,s20,M20,E20,rfl,_⟩ _ ⟨_,_,rfl,_⟩ _ ⟨K21,s21,M21,E21,rfl,_⟩ _ ⟨K22,s22,M22,E22,rfl,_⟩ _ rfl _ rfl -;simp only [Jo.z];replace X1:=X1.below hJ;replace XR:=XR.below hJ;replace hT:=hT.below hJ;replace HB:=Hqb HB hJ;refine Jo.jdone (by kernel_rfl) ?_;clear HC HC0 HMX;clear hT;have xXR:=XR.cell;have zXR0:=XR.frozen
  go_wp2;clear xXR zXR0;have SX:=StN.mk2 XR (.bool false) (.slice none 0 0);exact bodyPost_ret (v:= .tuple #[.agg #[.bool false,.slice none 0 0],.bool false]) (by simp [results,Tryz.results144,go_sem,SX.box.cell]) rfl ⟨_,_,_,_,rfl,⟨Nm.zero,rfl⟩,Nat.zero_le _,(SX.below HB.out (by omega))⟩
 ·obtain⟨N,G,hN,hG,nf,hv,n64,g1,g2⟩:=fix_raw hM HX.out HTT.out;obtain⟨bb,hb⟩:∃b,exb D s M E=b:=⟨_,rfl⟩;obtain⟨P,hP⟩:∃P,(mvs (mk N G) 192).1=P:=⟨_,rfl⟩;obtain⟨Q,hQ⟩:∃P,(mvs (mk N G) 192).2=P:=⟨_,rfl⟩;have hfl:=fix_code nf hv n64 g1 g2 HTT.out hP hQ;rw [HZ.out]at hfl;have HFL:=Lib.hid hfl;have HPP:=Lib.hid hP;have HQQ:=Lib.hid hQ;have HBB:=Lib.hid hb
  have HNN:=Lib.hid hN;have HGG:=Lib.hid hG;clear hfl hP hQ hb hN hG nf hv n64 g1 g2 HZ HTT;refine Jo.rk [0,1,2,3,4,5,6,7] [some 6,some 7,some 8,some 9,some 10,some 11,some 12,some 13] [[],[],[1],[0,2],[3],[],[4,5],[6]] 8 0 [Jo.q4 D s M E,Jo.q4 D s M E,Jo.Fact.num (-x),Jo.Fact.nl 2 [x,-x],Jo.Fact.num m,Jo.Fact.num (opl 1073741824),Jo.qi σ,Jo.qb false] (by kernel_rfl) (by kernel_rfl) (by decide) rfl ?_ ?_
  ·iterate 2 (refine Jo.jm rfl ?_ ?_;rotate_left)
   refine Jo.jm rfl ?_ ?_
   ·rintro wj hJ _ rfl K hK;simp only [Jo.z]at hK⊢;go_simp;refine (nNeg hM (by rw [HX.out])).mono ?_;rintro ee wk ⟨K20,s20,M20,E20,rfl,q20,B⟩;exact hK.out _ _ ⟨K20,s20,M20,E20,rfl,q20⟩ B
   refine Jo.jm rfl ?_ ?_
   ·rintro wj hJ _ rfl _ ⟨K20,s20,M20,E20,rfl,q20⟩ K hK;simp only [Jo.z]at hK⊢;go_simp;exact hK.out _ _ ⟨_,2,rfl,Nl.lit2 rfl hM q20.top HX.out q20.rk⟩ (bel1 _ _)
   refine Jo.jm rfl ?_ ?_
   ·rintro wj hJ _ ⟨A25,c25,rfl,h25⟩ K hK;simp only [Jo.z]at hK⊢;go_simp;refine (nMost h25 HMX.out).mono ?_;rintro ee wk ⟨K21,s21,M21,E21,rfl,q21,B⟩;exact hK.out _ _ ⟨K21,s21,M21,E21,rfl,q21⟩ B
   refine Jo.jm rfl ?_ ?_
   ·rintro wj hJ K hK;simp only [Jo.z]at hK⊢;go_simp;refine (nOf _ (by decide) (by decide) rfl).mono ?_;rintro ee wk ⟨K22,s22,M22,E22,rfl,q22,B⟩;exact hK.out _ _ ⟨K22,s22,M22,E22,rfl,q22⟩ B
   refine Jo.jm rfl ?_ ?_
   ·rintro wj hJ _ ⟨K21,s21,M21,E21,rfl,q21⟩ _ ⟨K22,s22,M22,E22,rfl,q22⟩ K hK;simp only [Jo.z]at hK⊢;go_simp;refine (nCmp (z:=σ) q21.top q22.top (by rw [q21.rk,q22.rk];exact HC.out)).mono ?_;rintro ee wk ⟨rfl,B⟩;exact hK.out _ _ rfl B
   refine Jo.jm rfl ?_ ?_
   ·rintro wj hJ _ rfl K hK;simp only [Jo.z]at hK⊢;have hc0:=HC0.out;go_simp
    exact hK.out _ _ (by first | rfl | (show Value.bool _=Value.bool _;rw [hc0];rfl) | simp_all) (br _ _)
   exact Jo.Steps.nil
   all_goals (rintro wj hJ;(repeat rintro _ rfl);intro K hK;simp only [Jo.z]at hK⊢;have xX1:=(X1.below hJ).cell;go_simp;exact hK.out _ _ rfl (br _ _))
  rintro w2 hJ _ rfl _ rfl _ ⟨K20,s20,M20,E20,rfl,_⟩ _ ⟨_,_,rfl,_⟩ _ ⟨K21,s21,M21,E21,rfl,_⟩ _ ⟨K22,s22,M22,E22,rfl,_⟩ _ rfl _ rfl -;simp only [Jo.z];replace X1:=X1.below hJ;replace XR:=XR.below hJ;replace hT:=hT.below hJ;replace HB:=Hqb HB hJ;refine Jo.jdone (by kernel_rfl) ?_;clear HC HC0 HMX;have xX1:=X1.cell
  go_wp2_with fail
  refine (nExact hT h0 hM HBB.out HNN.out HGG.out).mono ?_;rintro ee w3 ⟨s5,A5,n5,c5,rfl,p5,k5,B⟩;clear xX1;replace X1:=X1.below B;replace XR:=XR.below B;replace hT:=hT.below B;replace HB:=Hqb HB B;clear B
  go_upto_region 4 with (fail)
  have lX5:=Nat.le_refl (World.heap w3).size;have nX5X1:=X1.lt;have nX5XR:=XR.lt;generalize hWn:w3.alloc _=w4 at *;obtain⟨X5,BW⟩:=Bo.nw hWn;clear hWn;replace X1:=X1.below BW;replace XR:=XR.below BW;replace hT:=hT.below BW;replace p5:=p5.below BW;replace HB:=Hqb HB BW;clear BW;clear lX5 HBB HNN HGG HX;have xX5:=X5.cell
  go_wp2_with fail
  refine (dMove hT p5.wr (by omega) (by decide) (by decide) HPP.out HQQ.out).mono ?_;rintro ee w5 ⟨s6,A6,n6,c6,rfl,p6,k6,B⟩;clear xX5;replace X1:=X1.below B;replace XR:=XR.below B;replace X5:=X5.below B;replace hT:=hT.below B;replace p5:=p5.below B;replace HB:=Hqb HB B;clear B;clear p5
  go_wp2_with fail
  refine (dFloor hT p6.wr (by omega) HFL.out).mono ?_;rintro ee w6 ⟨s20,A20,n20,c20,rfl,p20,k20,B⟩;replace X1:=X1.below B;replace XR:=XR.below B;replace X5:=X5.below B;replace hT:=hT.below B;replace p6:=p6.below B;replace HB:=Hqb HB B;clear B;clear p6 hT;have xXR:=XR.cell;have zXR0:=XR.frozen;go_wp2;clear xXR zXR0;have SX:=StN.mk2 XR (.bool s20) (.slice A20 n20 c20)
  replace p20:=p20.stn SX (by simp [no32]);exact bodyPost_ret (v:= .tuple #[.agg #[.bool s20,.slice A20 n20 c20],.bool true]) (by simp [results,Tryz.results144,go_sem,SX.box.cell]) rfl ⟨_,_,_,_,rfl,p20,by omega,(SX.below HB.out (by omega))⟩
end Go.Proofs.YtaadmpiphnfllaaGreatDoor
