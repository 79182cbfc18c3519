/-
 Contracts that the proof rests on.
-/
import Derived.Test.YtaadmpiphnfllaaGreatDoorYAbi
namespace Go.Proofs.YtaadmpiphnfllaaGreatDoor
set_option maxHeartbeats 16000000
open Go.RowKit
set_option linter.unusedVariables false
set_option linter.unusedSimpArgs false
set_option maxRecDepth 100000
theorem tsine_core{w:World}{A:Option Addr}{n c:Nat}{s:Bool}{x:Int}{B:Option Addr}{m d:Nat}{t:Bool}{y:Int}{A':Option Addr}{n' c':Nat}{s':Bool}{B':Option Addr}{m' d':Nat}{t':Bool}{q a b r u v e l g:Int}{o:Bool}(h:Wn w s A n c x)(k:Wn w t B m d y)(h':Wn w s' A' n' c' PLo)(k':Wn w t' B' m' d' PHi)(hn':n'≤7)(hm':m'≤7)(hn:n≤1000)(hm:m≤1000)(hq:(2*x+PLo).fdiv (2*PLo)=q)(ha:(if q < 0 then q*PHi else q*PLo)=a)(hb:(if q < 0 then q*PLo else q*PHi)=b)(hr:x-b=r)(hu:y-a=u)(hv:serI r=v)(he:u-r+200=e)(ho:decide (q%2=1)=o)
  (hl0:o=false→bndI (v-e) (-SC) SC=l) (hg0:o=false→bndI (v+e) (-SC) SC=g) (hl1:o=true→bndI (-(v+e)) (-SC) SC=l) (hg1:o=true→bndI (-(v-e)) (-SC) SC=g):Calls Tryz.prog 100 #[.agg #[.bool s,.slice A n c,.bool t,.slice B m d],.agg #[.bool s',.slice A' n' c',.bool t',.slice B' m' d']] w (PSp w 7 l g):=by
 have HP1:=Lib.hid (prd_two (z:=2) (x:=x));have HP2:=Lib.hid (prd_two (z:=2) (x:=PLo));have HQ:=Lib.hid hq;have HA:=Lib.hid ha;have HBB:=Lib.hid hb;have HR:=Lib.hid hr;have HU:=Lib.hid hu;have HV:=Lib.hid hv;have HE:=Lib.hid he;have HO:=Lib.hid ho;have HL0:=Lib.hid hl0;have HG0:=Lib.hid hg0;have HL1:=Lib.hid hl1;have HG1:=Lib.hid hg1;clear hq ha hb hr hu hv he ho hl0 hg0 hl1 hg1
 go_enter Tryz.func100,Tryz.ntmps100
 go_upto_region 1 with (fail)
 have X2:=(Bo.newAt w (g:=w.heap.size) (by simp) #[.bool s,.slice A n c,.bool t,.slice B m d] 59).below (bel2 _ (.cells #[.bool s',.slice A' n' c',.bool t',.slice B' m' d'] 59) (.cells #[.bool false,.slice none 0 0,.bool false,.slice none 0 0] 59));have X3:=(Bo.newAt (w.alloc (.cells #[.bool s,.slice A n c,.bool t,.slice B m d] 59)) (g:=w.heap.size+1) (by simp) #[.bool s',.slice A' n' c',.bool t',.slice B' m' d'] 59).below (bel1 _ (.cells #[.bool false,.slice none 0 0,.bool false,.slice none 0 0] 59))
 have XR:=(Bo.newAt ((w.alloc (.cells #[.bool s,.slice A n c,.bool t,.slice B m d] 59)).alloc (.cells #[.bool s',.slice A' n' c',.bool t',.slice B' m' d'] 59)) (g:=w.heap.size+1+1) (by simp) #[.bool false,.slice none 0 0,.bool false,.slice none 0 0] 59);have HB:=Lib.hid (bel3 w (.cells #[.bool s,.slice A n c,.bool t,.slice B m d] 59) (.cells #[.bool s',.slice A' n' c',.bool t',.slice B' m' d'] 59) (.cells #[.bool false,.slice none 0 0,.bool false,.slice none 0 0] 59))
 replace h:=h.below HB.out;replace k:=k.below HB.out
 replace h':=h'.below HB.out
 replace k':=k'.below HB.out
 generalize hW1:(((w.alloc (.cells #[.bool s,.slice A n c,.bool t,.slice B m d] 59)).alloc (.cells #[.bool s',.slice A' n' c',.bool t',.slice B' m' d'] 59)).alloc (.cells #[.bool false,.slice none 0 0,.bool false,.slice none 0 0] 59))=w1 at *;clear hW1
 go_wp2_with fail
 refine (wFrom 2 _ (by decide) (by decide)).mono ?_;rintro ee w2 ⟨s30,A30,n30,c30,rfl,p30,k30,B⟩;replace X2:=X2.below B;replace X3:=X3.below B;replace XR:=XR.below B;replace h:=h.below B;replace k:=k.below B
 replace h':=h'.below B
 replace k':=k'.below B
 replace HB:=Hqb HB B;clear B
 go_upto_region 2 with (fail)
 have lX5:=Nat.le_refl (World.heap w2).size;have nX5X2:=X2.lt;have nX5X3:=X3.lt;have nX5XR:=XR.lt;generalize hWn:w2.alloc _=w3 at *;obtain⟨X5,BW⟩:=Bo.nw hWn;clear hWn;replace X2:=X2.below BW;replace X3:=X3.below BW;replace XR:=XR.below BW;replace h:=h.below BW;replace k:=k.below BW
 replace h':=h'.below BW
 replace k':=k'.below BW
 replace p30:=p30.below BW;replace HB:=Hqb HB BW;clear BW;clear lX5;have ltX2:=X2.lt;have ltX3:=X3.lt;have ltXR:=XR.lt;have ltX5:=X5.lt;have hszA:=HB.out.size;refine Jo.rk [0,1,2,3,4,5,6,7,8,9,10,11,12,13,14] [some 12,some 13,some 14,some 15,some 16,some 17,some 18,some 19,some 20,some 21,some 22,some 23,some 24,some 25,some 6,none] [[],[],[1],[0,2],[3],[],[5],[4,6],[],[],[9],[8,10],[11],[7,12],[],[]] 16 1 [Jo.Fact.eq (.agg #[.bool s30,.slice A30 n30 c30]),Jo.qp w.heap.size 0,Jo.Fact.eq (.agg #[.bool s,.slice A n c]),Jo.Fact.wl 1000 2 [2,x],Jo.Fact.wn (2*x) (2001),Jo.qp (w.heap.size+1) 0,Jo.Fact.eq (.agg #[.bool s',.slice A' n' c']),Jo.Fact.wn (2*x+PLo) (2009),Jo.Fact.eq (.agg #[.bool s30,.slice A30 n30 c30]),Jo.qp (w.heap.size+1) 0,Jo.Fact.eq (.agg #[.bool s',.slice A' n' c']),Jo.Fact.wl 7 2 [2,PLo],Jo.Fact.wn (2*PLo) (15),Jo.Fact.wn (q) (2028),Jo.Fact.bo w3.heap.size #[.bool false,.slice none 0 0] 27,Jo.Fact.any] (by kernel_rfl) (by kernel_rfl) (by decide) rfl ?_ ?_
 ·iterate 3 (refine Jo.jm rfl ?_ ?_;rotate_left)
  refine Jo.jm rfl ?_ ?_
  ·rintro wj hJ _ rfl _ rfl K hK;simp only [Jo.z]at hK⊢;go_simp;exact hK.out _ _ ⟨_,_,rfl,Wl.lit2 rfl (p30.below hJ).wr (h.below hJ).wr (by omega) (by omega)⟩ (bel1 _ _)
  refine Jo.jm rfl ?_ ?_
  ·rintro wj hJ _ ⟨A20,c20,rfl,h20⟩ K hK;simp only [Jo.z]at hK⊢;go_simp;refine (wMul h20 (by decide) HP1.out).mono ?_;rintro ee wk ⟨s21,A21,n21,c21,rfl,p21,k21,B⟩;exact hK.out _ _ ⟨s21,A21,n21,c21,rfl,p21,k21⟩ B
  iterate 2 (refine Jo.jm rfl ?_ ?_;rotate_left)
  refine Jo.jm rfl ?_ ?_
  ·rintro wj hJ _ ⟨s21,A21,n21,c21,rfl,p21,k21⟩ _ rfl K hK;simp only [Jo.z]at hK⊢;go_simp;refine (wAdd p21.wr (h'.below hJ).wr (by omega) (by omega) rfl).mono ?_;rintro ee wk ⟨s22,A22,n22,c22,rfl,p22,k22,B⟩;exact hK.out _ _ ⟨s22,A22,n22,c22,rfl,p22,by omega⟩ B
  iterate 3 (refine Jo.jm rfl ?_ ?_;rotate_left)
  refine Jo.jm rfl ?_ ?_
  ·rintro wj hJ _ rfl _ rfl K hK;simp only [Jo.z]at hK⊢;go_simp;exact hK.out _ _ ⟨_,_,rfl,Wl.lit2 rfl (p30.below hJ).wr (h'.below hJ).wr (by omega) (by omega)⟩ (bel1 _ _)
  refine Jo.jm rfl ?_ ?_
  ·rintro wj hJ _ ⟨A23,c23,rfl,h23⟩ K hK;simp only [Jo.z]at hK⊢;go_simp;refine (wMul h23 (by decide) HP2.out).mono ?_;rintro ee wk ⟨s24,A24,n24,c24,rfl,p24,k24,B⟩;exact hK.out _ _ ⟨s24,A24,n24,c24,rfl,p24,k24⟩ B
  refine Jo.jm rfl ?_ ?_
  ·rintro wj hJ _ ⟨s22,A22,n22,c22,rfl,p22,k22⟩ _ ⟨s24,A24,n24,c24,rfl,p24,k24⟩ K hK;simp only [Jo.z]at hK⊢;go_simp;refine (tDown p22.wr p24.wr (by omega) (by omega) (by decide) HQ.out).mono ?_;rintro ee wk ⟨s25,A25,n25,c25,rfl,p25,k25,B⟩;exact hK.out _ _ ⟨s25,A25,n25,c25,rfl,p25,by omega⟩ B
  refine Jo.jm rfl ?_ ?_
  ·rintro wj hJ K hK;simp only [Jo.z]at hK⊢;go_simp;exact hK.out _ _ ⟨_,rfl,hJ.size,Bo.new _ _ _⟩ (bel1 _ _)
  exact Jo.Steps.nil
  all_goals (rintro wj hJ;(repeat rintro _ rfl);intro K hK;simp only [Jo.z]at hK⊢;have xX5:=(X5.below hJ).cell;have xX2:=(X2.below hJ).cell;have xX3:=(X3.below hJ).cell;go_simp;exact hK.out _ _ rfl (br _ _))
 rintro w4 hJ _ rfl _ _ _ rfl _ ⟨_,_,rfl,_⟩ _ ⟨s21,A21,n21,c21,rfl,p21,k21⟩ _ _ _ rfl _ ⟨s22,A22,n22,c22,rfl,p22,k22⟩ _ rfl _ _ _ rfl _ ⟨_,_,rfl,_⟩ _ ⟨s24,A24,n24,c24,rfl,p24,k24⟩ _ ⟨s25,A25,n25,c25,rfl,p25,k25⟩ _ ⟨g6,rfl,hg6,X6⟩ -;simp only [Jo.z];replace X2:=X2.below hJ;replace X3:=X3.below hJ;replace XR:=XR.below hJ;replace X5:=X5.below hJ;replace h:=h.below hJ
 replace k:=k.below hJ
 replace h':=h'.below hJ
 replace k':=k'.below hJ
 replace p30:=p30.below hJ;replace HB:=Hqb HB hJ;clear p21 p22 p24 p30 X5;have xX6:=X6.cell;have zX60:=X6.frozen
 refine Jo.jnext (i:=15) (o:=⟨none,_,_,_,_,_⟩) (by kernel_rfl) rfl (fun K hK=>?_)
 go_simp;refine hK.out _ _ ?_;clear hK K xX6 zX60;generalize hS:(w4.setCell _ _).setCell _ _=w5 at *;have SX:=StN.of2 X6 hS;replace X2:=X2.stn SX (by omega);replace X3:=X3.stn SX (by omega);replace XR:=XR.stn SX (by omega);replace h:=h.stn SX (by simp [no32]);replace k:=k.stn SX (by simp [no32])
 replace h':=h'.stn SX (by simp [no32])
 replace k':=k'.stn SX (by simp [no32])
 replace p25:=p25.stn SX (by simp [no32]);replace HB:=Hqs HB SX (by omega);replace X6:=SX.box;clear SX hS;refine Jo.jdone (by kernel_rfl) ?_
 go_upto_region 3 with (fail)
 have ltX2:=X2.lt;have ltX3:=X3.lt;have ltXR:=XR.lt;have ltX6:=X6.lt;have hszB:=HB.out.size;refine Jo.rk [0,1,2,3,4,5] [some 26,some 27,some 28,some 29,some 30,some 7,none] [[],[],[],[1,2],[0,3],[],[]] 7 1 [Jo.Fact.eq (.agg #[.bool s,.slice A n c,.bool t,.slice B m d]),Jo.Fact.eq (.agg #[.bool s',.slice A' n' c',.bool t',.slice B' m' d']),Jo.Fact.eq (.agg #[.bool s25,.slice A25 n25 c25]),Jo.Fact.sp (a) (b) (4057),Jo.Fact.sp (r) (u) (5058),Jo.Fact.bo w5.heap.size #[.bool false,.slice none 0 0,.bool false,.slice none 0 0] 59,Jo.Fact.any] (by kernel_rfl) (by kernel_rfl) (by decide) rfl ?_ ?_
 ·iterate 3 (refine Jo.jm rfl ?_ ?_;rotate_left)
  refine Jo.jm rfl ?_ ?_
  ·rintro wj hJ _ rfl _ rfl K hK;simp only [Jo.z]at hK⊢;go_simp;refine (tTimes (L:=2028) (Z:=4057) (h'.below hJ) (k'.below hJ) (p25.below hJ) (by omega) (by omega) (by omega) (by omega) (by omega) HA.out HBB.out).mono ?_;rintro ee wk ⟨s31,A31,n31,c31,s32,A32,n32,c32,rfl,p31,p32,k31,k32,B⟩;exact hK.out _ _ ⟨s31,A31,n31,c31,s32,A32,n32,c32,rfl,p31,p32,k31,k32⟩ B
  refine Jo.jm rfl ?_ ?_
  ·rintro wj hJ _ rfl _ ⟨s31,A31,n31,c31,s32,A32,n32,c32,rfl,p31,p32,k31,k32⟩ K hK;simp only [Jo.z]at hK⊢;go_simp;refine (tMinus (Z:=5058) (h.below hJ) (k.below hJ) p31 p32 (by omega) (by omega) (by omega) (by omega) (by omega) (by omega) HR.out HU.out).mono ?_;rintro ee wk ⟨s33,A33,n33,c33,s34,A34,n34,c34,rfl,p33,p34,k33,k34,B⟩;exact hK.out _ _ ⟨s33,A33,n33,c33,s34,A34,n34,c34,rfl,p33,p34,k33,k34⟩ B
  refine Jo.jm rfl ?_ ?_
  ·rintro wj hJ K hK;simp only [Jo.z]at hK⊢;go_simp;exact hK.out _ _ ⟨_,rfl,hJ.size,Bo.new _ _ _⟩ (bel1 _ _)
  exact Jo.Steps.nil
  all_goals (rintro wj hJ;(repeat rintro _ rfl);intro K hK;simp only [Jo.z]at hK⊢;have xX2:=(X2.below hJ).cell;have xX3:=(X3.below hJ).cell;have xX6:=(X6.below hJ).cell;go_simp;exact hK.out _ _ rfl (br _ _))
 rintro w6 hJ _ rfl _ rfl _ rfl _ ⟨s31,A31,n31,c31,s32,A32,n32,c32,rfl,p31,p32,k31,k32⟩ _ ⟨s33,A33,n33,c33,s34,A34,n34,c34,rfl,p33,p34,k33,k34⟩ _ ⟨g7,rfl,hg7,X7⟩ -;simp only [Jo.z];replace X2:=X2.below hJ;replace X3:=X3.below hJ;replace XR:=XR.below hJ;replace X6:=X6.below hJ;replace h:=h.below hJ;replace k:=k.below hJ
 replace h':=h'.below hJ
 replace k':=k'.below hJ
 replace p25:=p25.below hJ;replace HB:=Hqb HB hJ;clear p31 p32 h k h' k' X2 X3;have xX7:=X7.cell;have zX70:=X7.frozen
 refine Jo.jnext (i:=6) (o:=⟨none,_,_,_,_,_⟩) (by kernel_rfl) rfl (fun K hK=>?_)
 go_simp;refine hK.out _ _ ?_;clear hK K xX7 zX70;generalize hS:(((w6.setCell _ _).setCell _ _).setCell _ _).setCell _ _=w7 at *;have SX:=StN.of4 X7 hS;replace XR:=XR.stn SX (by omega);replace X6:=X6.stn SX (by omega);replace p25:=p25.stn SX (by simp [no32]);replace p33:=p33.stn SX (by simp [no32]);replace p34:=p34.stn SX (by simp [no32]);replace HB:=Hqs HB SX (by omega)
 replace X7:=SX.box;clear SX hS;refine Jo.jdone (by kernel_rfl) ?_
 go_upto_region 4 with (fail)
 have xX7:=X7.cell
 go_wp2_with fail
 refine (tSer p33.wr (by omega) HV.out).mono ?_;rintro ee w8 ⟨s40,A40,n40,c40,rfl,p40,k40,B⟩;clear xX7;replace XR:=XR.below B;replace X6:=X6.below B;replace X7:=X7.below B;replace p25:=p25.below B;replace p33:=p33.below B;replace p34:=p34.below B;replace HB:=Hqb HB B;clear B
 go_upto_region 5 with (fail)
 have lX8:=Nat.le_refl (World.heap w8).size;have nX8XR:=XR.lt;have nX8X6:=X6.lt;have nX8X7:=X7.lt;generalize hWn:w8.alloc _=w9 at *;obtain⟨X8,BW⟩:=Bo.nw hWn;clear hWn;replace XR:=XR.below BW;replace X6:=X6.below BW;replace X7:=X7.below BW;replace p25:=p25.below BW;replace p33:=p33.below BW;replace p34:=p34.below BW;replace p40:=p40.below BW;replace HB:=Hqb HB BW
 clear BW;clear lX8;have xX7:=X7.cell
 go_wp2_with fail
 refine (wSub p34.wr p33.wr (by omega) (by omega) rfl).mono ?_;rintro ee wA ⟨s41,A41,n41,c41,rfl,p41,k41,B⟩;clear xX7;replace XR:=XR.below B;replace X6:=X6.below B;replace X7:=X7.below B;replace X8:=X8.below B;replace p25:=p25.below B;replace p33:=p33.below B;replace p34:=p34.below B;replace p40:=p40.below B;replace HB:=Hqb HB B;clear B
 clear p33 p34
 go_wp2_with fail
 refine (wFrom 200 _ (by decide) (by decide)).mono ?_;rintro ee wB ⟨s42,A42,n42,c42,rfl,p42,k42,B⟩;replace XR:=XR.below B;replace X6:=X6.below B;replace X7:=X7.below B;replace X8:=X8.below B;replace p25:=p25.below B;replace p40:=p40.below B;replace p41:=p41.below B;replace HB:=Hqb HB B;clear B
 go_wp2_with fail
 refine (wAdd p41.wr p42.wr (by omega) (by omega) HE.out).mono ?_;rintro ee wC ⟨s43,A43,n43,c43,rfl,p43,k43,B⟩;replace XR:=XR.below B;replace X6:=X6.below B;replace X7:=X7.below B;replace X8:=X8.below B;replace p25:=p25.below B;replace p40:=p40.below B;replace p41:=p41.below B;replace p42:=p42.below B;replace HB:=Hqb HB B;clear B;clear p41 p42
 go_upto_region 6 with (fail)
 have lX9:=Nat.le_refl (World.heap wC).size;have nX9XR:=XR.lt;have nX9X6:=X6.lt;have nX9X7:=X7.lt;have nX9X8:=X8.lt;generalize hWn:wC.alloc _=wD at *;obtain⟨X9,BW⟩:=Bo.nw hWn;clear hWn;replace XR:=XR.below BW;replace X6:=X6.below BW;replace X7:=X7.below BW;replace X8:=X8.below BW;replace p25:=p25.below BW;replace p40:=p40.below BW;replace p43:=p43.below BW
 replace HB:=Hqb HB BW;clear BW;clear lX9;have ltXR:=XR.lt;have ltX6:=X6.lt;have ltX7:=X7.lt;have ltX8:=X8.lt;have ltX9:=X9.lt;have hszC:=HB.out.size;refine Jo.rk [0,1,2,3,4,5,6,7] [some 41,some 42,some 43,some 44,some 45,some 46,some 47,some 10,none] [[],[],[0,1],[],[],[3,4],[2,5],[],[]] 9 1 [Jo.Fact.eq (.agg #[.bool s40,.slice A40 n40 c40]),Jo.Fact.eq (.agg #[.bool s43,.slice A43 n43 c43]),Jo.Fact.wn (v-e) (320000),Jo.Fact.eq (.agg #[.bool s40,.slice A40 n40 c40]),Jo.Fact.eq (.agg #[.bool s43,.slice A43 n43 c43]),Jo.Fact.wn (v+e) (320000),Jo.Fact.sp (v-e) (v+e) (320000),Jo.Fact.bo wD.heap.size #[.bool false,.slice none 0 0,.bool false,.slice none 0 0] 59,Jo.Fact.any] (by kernel_rfl) (by kernel_rfl) (by decide) rfl ?_ ?_
 ·iterate 2 (refine Jo.jm rfl ?_ ?_;rotate_left)
  refine Jo.jm rfl ?_ ?_
  ·rintro wj hJ _ rfl _ rfl K hK;simp only [Jo.z]at hK⊢;go_simp;refine (wSub (p40.below hJ).wr (p43.below hJ).wr (by omega) (by omega) rfl).mono ?_;rintro ee wk ⟨s44,A44,n44,c44,rfl,p44,k44,B⟩;exact hK.out _ _ ⟨s44,A44,n44,c44,rfl,p44,by omega⟩ B
  iterate 2 (refine Jo.jm rfl ?_ ?_;rotate_left)
  refine Jo.jm rfl ?_ ?_
  ·rintro wj hJ _ rfl _ rfl K hK;simp only [Jo.z]at hK⊢;go_simp;refine (wAdd (p40.below hJ).wr (p43.below hJ).wr (by omega) (by omega) rfl).mono ?_;rintro ee wk ⟨s45,A45,n45,c45,rfl,p45,k45,B⟩;exact hK.out _ _ ⟨s45,A45,n45,c45,rfl,p45,by omega⟩ B
  refine Jo.jm rfl ?_ ?_
  ·rintro wj hJ _ ⟨s44,A44,n44,c44,rfl,p44,k44⟩ _ ⟨s45,A45,n45,c45,rfl,p45,k45⟩ K hK;simp only [Jo.z]at hK⊢;go_simp;exact hK.out _ _ ⟨_,_,_,_,_,_,_,_,rfl,p44,p45,by omega,by omega⟩ (br _ _)
  refine Jo.jm rfl ?_ ?_
  ·rintro wj hJ K hK;simp only [Jo.z]at hK⊢;go_simp;exact hK.out _ _ ⟨_,rfl,hJ.size,Bo.new _ _ _⟩ (bel1 _ _)
  exact Jo.Steps.nil
  all_goals (rintro wj hJ;(repeat rintro _ rfl);intro K hK;simp only [Jo.z]at hK⊢;have xX8:=(X8.below hJ).cell;have xX9:=(X9.below hJ).cell;go_simp;exact hK.out _ _ rfl (br _ _))
 rintro wE hJ _ rfl _ rfl _ ⟨s44,A44,n44,c44,rfl,p44,k44⟩ _ rfl _ rfl _ ⟨s45,A45,n45,c45,rfl,p45,k45⟩ _ ⟨s46,A46,n46,c46,s47,A47,n47,c47,rfl,p46,p47,k46,k47⟩ _ ⟨g10,rfl,hg10,X10⟩ -;simp only [Jo.z];replace XR:=XR.below hJ;replace X6:=X6.below hJ;replace X7:=X7.below hJ;replace X8:=X8.below hJ;replace X9:=X9.below hJ;replace p25:=p25.below hJ;replace p40:=p40.below hJ
 replace p43:=p43.below hJ;replace HB:=Hqb HB hJ;clear p40 p43 p44 p45 X7 X8 X9;have xX10:=X10.cell;have zX100:=X10.frozen
 refine Jo.jnext (i:=8) (o:=⟨none,_,_,_,_,_⟩) (by kernel_rfl) rfl (fun K hK=>?_)
 go_simp;refine hK.out _ _ ?_;clear hK K xX10 zX100;generalize hS:(((wE.setCell _ _).setCell _ _).setCell _ _).setCell _ _=wF at *;have SX:=StN.of4 X10 hS;replace XR:=XR.stn SX (by omega);replace X6:=X6.stn SX (by omega);replace p25:=p25.stn SX (by simp [no32]);replace p46:=p46.stn SX (by simp [no32]);replace p47:=p47.stn SX (by simp [no32]);replace HB:=Hqs HB SX (by omega)
 replace X10:=SX.box;clear SX hS;refine Jo.jdone (by kernel_rfl) ?_
 go_upto_region 7 with (fail)
 have xX6:=X6.cell
 go_wp2_with fail
 refine (tOdd p25.wr (by omega) HO.out).mono ?_;rintro ee wG ⟨rfl,B⟩;clear xX6;replace XR:=XR.below B;replace X6:=X6.below B;replace X10:=X10.below B;replace p25:=p25.below B;replace p46:=p46.below B;replace p47:=p47.below B;replace HB:=Hqb HB B;clear B;clear p25 X6
 cases o
 ·have xX10:=X10.cell
  go_wp2_with fail
  refine (tCut p46 p47 (HL0.out (by first | rfl | trivial)) (HG0.out (by first | rfl | trivial))).mono ?_
  rintro ee wH ⟨s50,A50,n50,c50,s51,A51,n51,c51,rfl,p50,p51,k50,k51,B⟩;clear xX10;replace XR:=XR.below B;replace X10:=X10.below B;replace p46:=p46.below B;replace p47:=p47.below B;replace HB:=Hqb HB B;clear B;clear p46 p47;have xXR:=XR.cell;have zXR0:=XR.frozen;have xX10:=X10.cell
  go_wp2;clear xXR zXR0 xX10;have SX:=StN.mk4 XR (.bool s50) (.slice A50 n50 c50) (.bool s51) (.slice A51 n51 c51);replace p50:=p50.stn SX (by simp [no32]);replace p51:=p51.stn SX (by simp [no32]);exact bodyPost_ret (v:= .agg #[.bool s50,.slice A50 n50 c50,.bool s51,.slice A51 n51 c51]) (by simp [results,Tryz.results100,go_sem,SX.box.cell]) rfl ⟨s50,A50,n50,c50,s51,A51,n51,c51,rfl,p50,p51,k50,k51,(SX.below HB.out (by omega))⟩
 ·go_upto_region 8 with (fail)
  have xX10:=X10.cell
  go_wp2_with fail
  refine (tOpp (Z:=320000) p46 p47 (by omega) (by omega) rfl rfl).mono ?_;rintro ee wH ⟨s48,A48,n48,c48,s49,A49,n49,c49,rfl,p48,p49,k48,k49,B⟩;clear xX10;replace XR:=XR.below B;replace X10:=X10.below B;replace p46:=p46.below B;replace p47:=p47.below B;replace HB:=Hqb HB B;clear B;clear p46 p47;have xX10:=X10.cell
  have zX100:=X10.frozen
  go_upto_region 9 with (fail)
  clear xX10 zX100;generalize hS:(((wH.setCell _ _).setCell _ _).setCell _ _).setCell _ _=wI at *;have SX:=StN.of4 X10 hS;replace XR:=XR.stn SX (by omega);replace p48:=p48.stn SX (by simp [no32]);replace p49:=p49.stn SX (by simp [no32]);replace HB:=Hqs HB SX (by omega);replace X10:=SX.box;clear SX hS;have xX10:=X10.cell
  go_wp2_with fail
  refine (tCut p48 p49 (HL1.out (by first | rfl | trivial)) (HG1.out (by first | rfl | trivial))).mono ?_
  rintro ee wJ ⟨s50,A50,n50,c50,s51,A51,n51,c51,rfl,p50,p51,k50,k51,B⟩;clear xX10;replace XR:=XR.below B;replace X10:=X10.below B;replace p48:=p48.below B;replace p49:=p49.below B;replace HB:=Hqb HB B;clear B;clear p48 p49;have xXR:=XR.cell;have zXR0:=XR.frozen;have xX10:=X10.cell
  go_wp2;clear xXR zXR0 xX10;have SX:=StN.mk4 XR (.bool s50) (.slice A50 n50 c50) (.bool s51) (.slice A51 n51 c51);replace p50:=p50.stn SX (by simp [no32]);replace p51:=p51.stn SX (by simp [no32]);exact bodyPost_ret (v:= .agg #[.bool s50,.slice A50 n50 c50,.bool s51,.slice A51 n51 c51]) (by simp [results,Tryz.results100,go_sem,SX.box.cell]) rfl ⟨s50,A50,n50,c50,s51,A51,n51,c51,rfl,p50,p51,k50,k51,(SX.below HB.out (by omega))⟩
theorem tSine{w:World}{A:Option Addr}{n c:Nat}{s:Bool}{x:Int}{B:Option Addr}{m d:Nat}{t:Bool}{y:Int}{A':Option Addr}{n' c':Nat}{s':Bool}{B':Option Addr}{m' d':Nat}{t':Bool}{l g:Int}(h:Wn w s A n c x)(k:Wn w t B m d y)(h':Wn w s' A' n' c' PLo)(k':Wn w t' B' m' d' PHi)(hn':n'≤7)(hm':m'≤7)(hn:n≤1000)(hm:m≤1000)(hl:bndI (btL x y) (-SC) SC=l)(hg:bndI (btH x y) (-SC) SC=g):Calls Tryz.prog 100 #[.agg #[.bool s,.slice A n c,.bool t,.slice B m d],.agg #[.bool s',.slice A' n' c',.bool t',.slice B' m' d']] w (PSp w 7 l g):=by
 have hq:(2*x+PLo).fdiv (2*PLo)=qI x:=Int.fdiv_eq_ediv_of_nonneg _ (by decide)
 have hr:x-(if qI x < 0 then qI x*PLo else qI x*PHi)=rI x:=by
  unfold rI
  split <;> rfl
 have hu:y-(if qI x < 0 then qI x*PHi else qI x*PLo)=tI x y:=by
  unfold tI
  split <;> rfl
 unfold btL at hl
 unfold btH at hg
 refine tsine_core h k h' k' hn' hm' hn hm hq rfl rfl hr hu rfl rfl rfl (fun c=>?_) (fun c=>?_) (fun c=>?_) (fun c=>?_)
 ·rw [if_pos (by have:=of_decide_eq_false c;omega)]at hl;exact hl
 ·rw [if_pos (by have:=of_decide_eq_false c;omega)]at hg;exact hg
 ·rw [if_neg (by have:=of_decide_eq_true c;omega)]at hl;exact hl
 ·rw [if_neg (by have:=of_decide_eq_true c;omega)]at hg;exact hg
theorem StN.mk6{w:World}{g:Nat}{T:TypeId}{a0 a1 a2 a3 a4 a5:Value}(X:Bo w g #[a0,a1,a2,a3,a4,a5] T)(v0 v1 v2 v3 v4 v5:Value):
  StN w ((((((w.setCell ⟨g,0,none⟩ v0).setCell ⟨g,1,none⟩ v1).setCell ⟨g,2,none⟩ v2).setCell ⟨g,3,none⟩ v3).setCell ⟨g,4,none⟩ v4).setCell ⟨g,5,none⟩ v5) g #[a0,a1,a2,a3,a4,a5] #[v0,v1,v2,v3,v4,v5] T:=by
 have t0:StN w (w.setCell ⟨g,0,none⟩ v0) g #[a0,a1,a2,a3,a4,a5] #[v0,a1,a2,a3,a4,a5] T:=StN.at4 X 0 v0
 have s0:=t0
 have t1:StN (w.setCell ⟨g,0,none⟩ v0) ((w.setCell ⟨g,0,none⟩ v0).setCell ⟨g,1,none⟩ v1) g #[v0,a1,a2,a3,a4,a5] #[v0,v1,a2,a3,a4,a5] T:=StN.at4 s0.box 1 v1
 have s1:=s0.trans t1
 have t2:StN ((w.setCell ⟨g,0,none⟩ v0).setCell ⟨g,1,none⟩ v1) (((w.setCell ⟨g,0,none⟩ v0).setCell ⟨g,1,none⟩ v1).setCell ⟨g,2,none⟩ v2) g #[v0,v1,a2,a3,a4,a5] #[v0,v1,v2,a3,a4,a5] T:=StN.at4 s1.box 2 v2
 have s2:=s1.trans t2
 have t3:StN (((w.setCell ⟨g,0,none⟩ v0).setCell ⟨g,1,none⟩ v1).setCell ⟨g,2,none⟩ v2) ((((w.setCell ⟨g,0,none⟩ v0).setCell ⟨g,1,none⟩ v1).setCell ⟨g,2,none⟩ v2).setCell ⟨g,3,none⟩ v3) g #[v0,v1,v2,a3,a4,a5] #[v0,v1,v2,v3,a4,a5] T:=StN.at4 s2.box 3 v3
 have s3:=s2.trans t3
 have t4:StN ((((w.setCell ⟨g,0,none⟩ v0).setCell ⟨g,1,none⟩ v1).setCell ⟨g,2,none⟩ v2).setCell ⟨g,3,none⟩ v3) (((((w.setCell ⟨g,0,none⟩ v0).setCell ⟨g,1,none⟩ v1).setCell ⟨g,2,none⟩ v2).setCell ⟨g,3,none⟩ v3).setCell ⟨g,4,none⟩ v4) g #[v0,v1,v2,v3,a4,a5] #[v0,v1,v2,v3,v4,a5] T:=StN.at4 s3.box 4 v4
 have s4:=s3.trans t4
 have t5:StN (((((w.setCell ⟨g,0,none⟩ v0).setCell ⟨g,1,none⟩ v1).setCell ⟨g,2,none⟩ v2).setCell ⟨g,3,none⟩ v3).setCell ⟨g,4,none⟩ v4) ((((((w.setCell ⟨g,0,none⟩ v0).setCell ⟨g,1,none⟩ v1).setCell ⟨g,2,none⟩ v2).setCell ⟨g,3,none⟩ v3).setCell ⟨g,4,none⟩ v4).setCell ⟨g,5,none⟩ v5) g #[v0,v1,v2,v3,v4,a5] #[v0,v1,v2,v3,v4,v5] T:=StN.at4 s4.box 5 v5
 have s5:=s4.trans t5;exact s5
theorem StN.mk10{w:World}{g:Nat}{T:TypeId}{a0 a1 a2 a3 a4 a5 a6 a7 a8 a9:Value}(X:Bo w g #[a0,a1,a2,a3,a4,a5,a6,a7,a8,a9] T)(v0 v1 v2 v3 v4 v5 v6 v7 v8 v9:Value):
  StN w ((((((((((w.setCell ⟨g,0,none⟩ v0).setCell ⟨g,1,none⟩ v1).setCell ⟨g,2,none⟩ v2).setCell ⟨g,3,none⟩ v3).setCell ⟨g,4,none⟩ v4).setCell ⟨g,5,none⟩ v5).setCell ⟨g,6,none⟩ v6).setCell ⟨g,7,none⟩ v7).setCell ⟨g,8,none⟩ v8).setCell ⟨g,9,none⟩ v9) g #[a0,a1,a2,a3,a4,a5,a6,a7,a8,a9] #[v0,v1,v2,v3,v4,v5,v6,v7,v8,v9] T:=by
 have t0:StN w (w.setCell ⟨g,0,none⟩ v0) g #[a0,a1,a2,a3,a4,a5,a6,a7,a8,a9] #[v0,a1,a2,a3,a4,a5,a6,a7,a8,a9] T:=StN.at4 X 0 v0
 have s0:=t0
 have t1:StN (w.setCell ⟨g,0,none⟩ v0) ((w.setCell ⟨g,0,none⟩ v0).setCell ⟨g,1,none⟩ v1) g #[v0,a1,a2,a3,a4,a5,a6,a7,a8,a9] #[v0,v1,a2,a3,a4,a5,a6,a7,a8,a9] T:=StN.at4 s0.box 1 v1
 have s1:=s0.trans t1
 have t2:StN ((w.setCell ⟨g,0,none⟩ v0).setCell ⟨g,1,none⟩ v1) (((w.setCell ⟨g,0,none⟩ v0).setCell ⟨g,1,none⟩ v1).setCell ⟨g,2,none⟩ v2) g #[v0,v1,a2,a3,a4,a5,a6,a7,a8,a9] #[v0,v1,v2,a3,a4,a5,a6,a7,a8,a9] T:=StN.at4 s1.box 2 v2
 have s2:=s1.trans t2
 have t3:StN (((w.setCell ⟨g,0,none⟩ v0).setCell ⟨g,1,none⟩ v1).setCell ⟨g,2,none⟩ v2) ((((w.setCell ⟨g,0,none⟩ v0).setCell ⟨g,1,none⟩ v1).setCell ⟨g,2,none⟩ v2).setCell ⟨g,3,none⟩ v3) g #[v0,v1,v2,a3,a4,a5,a6,a7,a8,a9] #[v0,v1,v2,v3,a4,a5,a6,a7,a8,a9] T:=StN.at4 s2.box 3 v3
 have s3:=s2.trans t3
 have t4:StN ((((w.setCell ⟨g,0,none⟩ v0).setCell ⟨g,1,none⟩ v1).setCell ⟨g,2,none⟩ v2).setCell ⟨g,3,none⟩ v3) (((((w.setCell ⟨g,0,none⟩ v0).setCell ⟨g,1,none⟩ v1).setCell ⟨g,2,none⟩ v2).setCell ⟨g,3,none⟩ v3).setCell ⟨g,4,none⟩ v4) g #[v0,v1,v2,v3,a4,a5,a6,a7,a8,a9] #[v0,v1,v2,v3,v4,a5,a6,a7,a8,a9] T:=StN.at4 s3.box 4 v4
 have s4:=s3.trans t4
 have t5:StN (((((w.setCell ⟨g,0,none⟩ v0).setCell ⟨g,1,none⟩ v1).setCell ⟨g,2,none⟩ v2).setCell ⟨g,3,none⟩ v3).setCell ⟨g,4,none⟩ v4) ((((((w.setCell ⟨g,0,none⟩ v0).setCell ⟨g,1,none⟩ v1).setCell ⟨g,2,none⟩ v2).setCell ⟨g,3,none⟩ v3).setCell ⟨g,4,none⟩ v4).setCell ⟨g,5,none⟩ v5) g #[v0,v1,v2,v3,v4,a5,a6,a7,a8,a9] #[v0,v1,v2,v3,v4,v5,a6,a7,a8,a9] T:=StN.at4 s4.box 5 v5
 have s5:=s4.trans t5
 have t6:StN ((((((w.setCell ⟨g,0,none⟩ v0).setCell ⟨g,1,none⟩ v1).setCell ⟨g,2,none⟩ v2).setCell ⟨g,3,none⟩ v3).setCell ⟨g,4,none⟩ v4).setCell ⟨g,5,none⟩ v5) (((((((w.setCell ⟨g,0,none⟩ v0).setCell ⟨g,1,none⟩ v1).setCell ⟨g,2,none⟩ v2).setCell ⟨g,3,none⟩ v3).setCell ⟨g,4,none⟩ v4).setCell ⟨g,5,none⟩ v5).setCell ⟨g,6,none⟩ v6) g #[v0,v1,v2,v3,v4,v5,a6,a7,a8,a9] #[v0,v1,v2,v3,v4,v5,v6,a7,a8,a9] T:=StN.at4 s5.box 6 v6
 have s6:=s5.trans t6
 have t7:StN (((((((w.setCell ⟨g,0,none⟩ v0).setCell ⟨g,1,none⟩ v1).setCell ⟨g,2,none⟩ v2).setCell ⟨g,3,none⟩ v3).setCell ⟨g,4,none⟩ v4).setCell ⟨g,5,none⟩ v5).setCell ⟨g,6,none⟩ v6) ((((((((w.setCell ⟨g,0,none⟩ v0).setCell ⟨g,1,none⟩ v1).setCell ⟨g,2,none⟩ v2).setCell ⟨g,3,none⟩ v3).setCell ⟨g,4,none⟩ v4).setCell ⟨g,5,none⟩ v5).setCell ⟨g,6,none⟩ v6).setCell ⟨g,7,none⟩ v7) g #[v0,v1,v2,v3,v4,v5,v6,a7,a8,a9] #[v0,v1,v2,v3,v4,v5,v6,v7,a8,a9] T:=StN.at4 s6.box 7 v7
 have s7:=s6.trans t7
 have t8:StN ((((((((w.setCell ⟨g,0,none⟩ v0).setCell ⟨g,1,none⟩ v1).setCell ⟨g,2,none⟩ v2).setCell ⟨g,3,none⟩ v3).setCell ⟨g,4,none⟩ v4).setCell ⟨g,5,none⟩ v5).setCell ⟨g,6,none⟩ v6).setCell ⟨g,7,none⟩ v7) (((((((((w.setCell ⟨g,0,none⟩ v0).setCell ⟨g,1,none⟩ v1).setCell ⟨g,2,none⟩ v2).setCell ⟨g,3,none⟩ v3).setCell ⟨g,4,none⟩ v4).setCell ⟨g,5,none⟩ v5).setCell ⟨g,6,none⟩ v6).setCell ⟨g,7,none⟩ v7).setCell ⟨g,8,none⟩ v8) g #[v0,v1,v2,v3,v4,v5,v6,v7,a8,a9] #[v0,v1,v2,v3,v4,v5,v6,v7,v8,a9] T:=StN.at4 s7.box 8 v8
 have s8:=s7.trans t8
 have t9:StN (((((((((w.setCell ⟨g,0,none⟩ v0).setCell ⟨g,1,none⟩ v1).setCell ⟨g,2,none⟩ v2).setCell ⟨g,3,none⟩ v3).setCell ⟨g,4,none⟩ v4).setCell ⟨g,5,none⟩ v5).setCell ⟨g,6,none⟩ v6).setCell ⟨g,7,none⟩ v7).setCell ⟨g,8,none⟩ v8) ((((((((((w.setCell ⟨g,0,none⟩ v0).setCell ⟨g,1,none⟩ v1).setCell ⟨g,2,none⟩ v2).setCell ⟨g,3,none⟩ v3).setCell ⟨g,4,none⟩ v4).setCell ⟨g,5,none⟩ v5).setCell ⟨g,6,none⟩ v6).setCell ⟨g,7,none⟩ v7).setCell ⟨g,8,none⟩ v8).setCell ⟨g,9,none⟩ v9) g #[v0,v1,v2,v3,v4,v5,v6,v7,v8,a9] #[v0,v1,v2,v3,v4,v5,v6,v7,v8,v9] T:=StN.at4 s8.box 9 v9
 have s9:=s8.trans t9;exact s9
theorem cmp_ltE{x y c:Int}(h:cmpI x y=c):decide (c < 0)=decide (x < y):=by
 rw [←h]
 by_cases e:x < y
 ·rw [decide_eq_true e]
  exact decide_eq_true (by rcases cmpI_tri x y with⟨a,b⟩ | ⟨a,b⟩ | ⟨a,b⟩ <;> rw [b] <;> omega)
 ·rw [decide_eq_false e]
  exact decide_eq_false (by rcases cmpI_tri x y with⟨a,b⟩ | ⟨a,b⟩ | ⟨a,b⟩ <;> rw [b] <;> omega)
theorem kvWidth{w:World}{e:Bool}{D M E D' M' E':Int}{s s':Bool}{x:Sp}{r:Int}(hT:Tb w)(hM:LQ M)(hM':LQ M')(hx:rkI e D s M E D' s' M' E'=x)(hr:widI x=r):Calls Tryz.prog 25 #[VI e D s M E D' s' M' E'] w (PN w r):=by
 delta VI
 have HX:=Lib.hid hx;clear hx
 go_enter Tryz.func25,Tryz.ntmps25
 go_upto_region 1 with (fail)
 generalize hW1:(w.alloc _).alloc _=w1 at *;obtain⟨X1,XR,HB⟩:=Bo.en2 hW1;replace hT:=hT.below HB.out;clear hW1;have xX1:=X1.cell
 go_wp2_with fail
 refine (kvOrE hM hM' HX.out).mono ?_;rintro ee w2 ⟨e1,K1,s1,M1,E1,K1b,s1b,M1b,E1b,rfl,v1,B⟩;clear xX1;replace X1:=X1.below B;replace XR:=XR.below B;replace hT:=hT.below B;replace HB:=Hqb HB B;clear B;have xX1:=X1.cell;have zX10:=X1.frozen
 go_upto_region 2 with (fail)
 clear xX1 zX10;generalize hS:((((((((w2.setCell _ _).setCell _ _).setCell _ _).setCell _ _).setCell _ _).setCell _ _).setCell _ _).setCell _ _).setCell _ _=w3 at *;have SX:=StN.of9 X1 hS;replace XR:=XR.stn SX (by omega);replace hT:=hT.stn SX (by simp [no8]);replace HB:=Hqs HB SX (by omega);replace X1:=SX.box;clear SX hS
 clear HX hM hM'
 rcases x with _ | ⟨xa,xb⟩
 ·obtain⟨rfl,y1,y1b⟩:=v1
  obtain rfl:0=r:=hr
  have xX1:=X1.cell
  go_wp2_with fail
  refine (aSub hT y1b.top y1.top y1b.rk (y:=0) (by rw [y1.rk];rfl) (r:=0) (addp_zero true (by omega) (by omega))).mono ?_;rintro ee w4 ⟨K2,s2,M2,E2,rfl,q2,B⟩;clear xX1;replace X1:=X1.below B;replace XR:=XR.below B;replace hT:=hT.below B;replace HB:=Hqb HB B;clear B;have xXR:=XR.cell;have zXR0:=XR.frozen
  go_wp2;clear xXR zXR0;have SX:=StN.mk4 XR (.int .i64 K2) (.bool s2) (.int .u64 M2) (.int .i64 E2);exact bodyPost_ret (by simp [results,Tryz.results25,go_sem,SX.box.cell]) rfl ⟨_,_,_,_,rfl,q2,(SX.below HB.out (by omega))⟩
 ·obtain⟨rfl,a1,b1,o1,o1l,o1h⟩:=v1
  have HR:=Lib.hid (show addp true xb (-xa)=r from hr)
  clear hr o1 o1l o1h;have xX1:=X1.cell
  go_wp2_with fail
  refine (aSub hT b1.top a1.top b1.rk (by rw [a1.rk]) HR.out).mono ?_;rintro ee w4 ⟨K2,s2,M2,E2,rfl,q2,B⟩;clear xX1;replace X1:=X1.below B;replace XR:=XR.below B;replace hT:=hT.below B;replace HB:=Hqb HB B;clear B;have xXR:=XR.cell;have zXR0:=XR.frozen;go_wp2;clear xXR zXR0;have SX:=StN.mk4 XR (.int .i64 K2) (.bool s2) (.int .u64 M2) (.int .i64 E2)
  exact bodyPost_ret (by simp [results,Tryz.results25,go_sem,SX.box.cell]) rfl ⟨_,_,_,_,rfl,q2,(SX.below HB.out (by omega))⟩
theorem kvInflate{w:World}{e:Bool}{D M E D' M' E':Int}{s s':Bool}{G P Q:Int}{g:Bool}{x z:Sp}{y:Int}(hT:Tb w)(hM:LQ M)(hM':LQ M')(hP:LQ P)(hx:rkI e D s M E D' s' M' E'=x)(hy:rk G g P Q=y)(hr:infI x y=z):Calls Tryz.prog 77 #[VI e D s M E D' s' M' E',VQ G g P Q] w (PV w z):=by
 delta VI VQ
 have HX:=Lib.hid hx;have HY:=Lib.hid hy;clear hx hy
 go_enter Tryz.func77,Tryz.ntmps77
 go_upto_region 1 with (fail)
 generalize hW1:((w.alloc _).alloc _).alloc _=w1 at *;obtain⟨X2,X3,XR,HB⟩:=Bo.en3 hW1;replace hT:=hT.below HB.out;clear hW1;have xX2:=X2.cell
 go_wp2_with fail
 refine (kvOrE hM hM' HX.out).mono ?_;rintro ee w2 ⟨e1,K1,s1,M1,E1,K1b,s1b,M1b,E1b,rfl,v1,B⟩;clear xX2;replace X2:=X2.below B;replace X3:=X3.below B;replace XR:=XR.below B;replace hT:=hT.below B;replace HB:=Hqb HB B;clear B;have xX2:=X2.cell;have zX20:=X2.frozen
 go_upto_region 2 with (fail)
 clear xX2 zX20;generalize hS:((((((((w2.setCell _ _).setCell _ _).setCell _ _).setCell _ _).setCell _ _).setCell _ _).setCell _ _).setCell _ _).setCell _ _=w3 at *;have SX:=StN.of9 X2 hS;replace X3:=X3.stn SX (by omega);replace XR:=XR.stn SX (by omega);replace hT:=hT.stn SX (by simp [no8]);replace HB:=Hqs HB SX (by omega)
 replace X2:=SX.box;clear SX hS;clear HX hM hM'
 rcases x with _ | ⟨xa,xb⟩
 ·obtain⟨rfl,y1,y1b⟩:=v1
  obtain rfl:none=z:=hr
  clear HY hP
  obtain⟨_,rfl,rfl,rfl,rfl,rfl,rfl,rfl,rfl⟩:=(show Ci true K1 s1 M1 E1 K1b s1b M1b E1b none from ⟨rfl,y1,y1b⟩).uniq Ci.none
  clear y1 y1b;refine Jo.rk [0,1,2,3,4,5,6,7] [some 7,some 8,some 9,some 10,some 11,some 12,some 13,some 14] [[],[],[0,1],[2],[3],[3,4],[3,5],[3,6]] 8 0 [Jo.q9 true 0 false 0 0 0 false 0 0,Jo.q9 true 0 false 0 0 0 false 0 0,Jo.qb true,Jo.qb true,Jo.qu,Jo.qu,Jo.qu,Jo.qb true] (by kernel_rfl) (by kernel_rfl) (by decide) rfl ?_ ?_
  ·refine Jo.jm rfl ?_ ?_;rotate_left
   refine Jo.jm rfl ?_ ?_
   ·rintro wj hJ K hK;simp only [Jo.z]at hK⊢;go_simp;refine (kvNoneE).mono ?_;rintro ee wk ⟨rfl,B⟩;exact hK.out _ _ rfl B
   refine Jo.jm rfl ?_ ?_
   ·rintro wj hJ _ rfl _ rfl K hK;simp only [Jo.z]at hK⊢;go_simp
    repeat' split
    all_goals exact hK.out _ _ (congrArg Value.bool (by first | rfl | (exfalso;simp_all) | simp_all)) (br _ _)
   iterate 5 (refine Jo.jm rfl ?_ ?_;rotate_left)
   exact Jo.Steps.nil
   all_goals (rintro wj hJ;(repeat rintro _ rfl);intro K hK;simp only [Jo.z]at hK⊢;have xX2:=(X2.below hJ).cell;go_simp;exact hK.out _ _ rfl (br _ _))
  rintro w4 hJ _ rfl _ rfl _ rfl _ rfl _ rfl _ rfl _ rfl _ rfl -;simp only [Jo.z];replace X2:=X2.below hJ;replace X3:=X3.below hJ;replace XR:=XR.below hJ;replace hT:=hT.below hJ;replace HB:=Hqb HB hJ;refine Jo.jdone (by kernel_rfl) ?_;have xXR:=XR.cell;have zXR0:=XR.frozen;have xX2:=X2.cell
  go_wp2;clear xXR zXR0 xX2;have SX:=StN.mk9 XR (.bool true) (.int .i64 0) (.bool false) (.int .u64 0) (.int .i64 0) (.int .i64 0) (.bool false) (.int .u64 0) (.int .i64 0);exact bodyPost_ret (by simp [results,Tryz.results77,go_sem,SX.box.cell]) rfl ⟨_,_,_,_,_,_,_,_,_,rfl,Ci.none,(SX.below HB.out (by omega))⟩
 ·obtain⟨rfl,a1,b1,o1,o1l,o1h⟩:=v1;obtain⟨σ,hσ⟩:∃σ,cmpI y 0=σ:=⟨_,rfl⟩;have ht:=cmp_ltE hσ
  have HS:Hid (cmpI (rk G g P Q) 0=σ):=Lib.hid (by rw [HY.out];exact hσ)
  clear hσ
  have hr2:(if y < 0 then some (xa,xb)else mkI (addp false xa (-y)) (addp true xb y))=z:=hr
  clear hr
  by_cases hl:y < 0
  ·rw [decide_eq_true hl]at ht;have HC0:=Lib.hid ht;rw [if_pos hl]at hr2
   obtain rfl:some (xa,xb)=z:=hr2
   clear hl ht;refine Jo.rk [0,1,2,3,4,5,6,7] [some 7,some 8,some 9,some 10,some 11,some 12,some 13,some 14] [[],[],[0,1],[2],[3],[3,4],[3,5],[3,6]] 8 0 [Jo.q9 false K1 s1 M1 E1 K1b s1b M1b E1b,Jo.q9 true 0 false 0 0 0 false 0 0,Jo.qb false,Jo.qb false,Jo.q4 G g P Q,Jo.qi σ,Jo.qb true,Jo.qb true] (by kernel_rfl) (by kernel_rfl) (by decide) rfl ?_ ?_
   ·refine Jo.jm rfl ?_ ?_;rotate_left
    refine Jo.jm rfl ?_ ?_
    ·rintro wj hJ K hK;simp only [Jo.z]at hK⊢;go_simp;refine (kvNoneE).mono ?_;rintro ee wk ⟨rfl,B⟩;exact hK.out _ _ rfl B
    refine Jo.jm rfl ?_ ?_
    ·rintro wj hJ _ rfl _ rfl K hK;simp only [Jo.z]at hK⊢;go_simp
     repeat' split
     all_goals exact hK.out _ _ (congrArg Value.bool (by first | rfl | (exfalso;simp_all))) (br _ _)
    iterate 2 (refine Jo.jm rfl ?_ ?_;rotate_left)
    refine Jo.jm rfl ?_ ?_
    ·rintro wj hJ _ rfl _ rfl K hK;simp only [Jo.z]at hK⊢;go_simp;refine (nSign hP HS.out).mono ?_;rintro ee wk ⟨rfl,B⟩;exact hK.out _ _ rfl B
    refine Jo.jm rfl ?_ ?_
    ·rintro wj hJ _ rfl _ rfl K hK;simp only [Jo.z]at hK⊢;have hc0:=HC0.out;go_simp
     exact hK.out _ _ (by first | rfl | (show Value.bool _=Value.bool _;rw [hc0]) | simp_all) (br _ _)
    refine Jo.jm rfl ?_ ?_;rotate_left
    exact Jo.Steps.nil
    all_goals (rintro wj hJ;(repeat rintro _ rfl);intro K hK;simp only [Jo.z]at hK⊢;have xX2:=(X2.below hJ).cell;have xX3:=(X3.below hJ).cell;go_simp;exact hK.out _ _ rfl (br _ _))
   rintro w4 hJ _ rfl _ rfl _ rfl _ rfl _ rfl _ rfl _ rfl _ rfl -;simp only [Jo.z];replace X2:=X2.below hJ;replace X3:=X3.below hJ;replace XR:=XR.below hJ;replace hT:=hT.below hJ;replace HB:=Hqb HB hJ;refine Jo.jdone (by kernel_rfl) ?_;have xXR:=XR.cell;have zXR0:=XR.frozen;have xX2:=X2.cell
   go_wp2;clear xXR zXR0 xX2;have SX:=StN.mk9 XR (.bool false) (.int .i64 K1) (.bool s1) (.int .u64 M1) (.int .i64 E1) (.int .i64 K1b) (.bool s1b) (.int .u64 M1b) (.int .i64 E1b);exact bodyPost_ret (v:= .agg #[.bool false,.int .i64 K1,.bool s1,.int .u64 M1,.int .i64 E1,.int .i64 K1b,.bool s1b,.int .u64 M1b,.int .i64 E1b]) (by simp [results,Tryz.results77,go_sem,SX.box.cell]) rfl ⟨_,_,_,_,_,_,_,_,_,rfl,⟨rfl,a1,b1,o1,o1l,o1h⟩,(SX.below HB.out (by omega))⟩
  ·rw [decide_eq_false hl]at ht;have HC0:=Lib.hid ht;rw [if_neg hl]at hr2;obtain⟨u,hu⟩:∃u,addp false xa (-y)=u:=⟨_,rfl⟩;obtain⟨l,hl2⟩:∃l,addp true xb y=l:=⟨_,rfl⟩;rw [hu,hl2]at hr2;have HU:=Lib.hid hu;have HL:=Lib.hid hl2;have HR:=Lib.hid hr2;clear hl ht hu hl2 hr2 o1 o1l o1h;refine Jo.rk [0,1,2,3,4,5,6,7] [some 7,some 8,some 9,some 10,some 11,some 12,some 13,some 14] [[],[],[0,1],[2],[3],[3,4],[3,5],[3,6]] 8 0 [Jo.q9 false K1 s1 M1 E1 K1b s1b M1b E1b,Jo.q9 true 0 false 0 0 0 false 0 0,Jo.qb false,Jo.qb false,Jo.q4 G g P Q,Jo.qi σ,Jo.qb false,Jo.qb false] (by kernel_rfl) (by kernel_rfl) (by decide) rfl ?_ ?_
   ·refine Jo.jm rfl ?_ ?_;rotate_left
    refine Jo.jm rfl ?_ ?_
    ·rintro wj hJ K hK;simp only [Jo.z]at hK⊢;go_simp;refine (kvNoneE).mono ?_;rintro ee wk ⟨rfl,B⟩;exact hK.out _ _ rfl B
    refine Jo.jm rfl ?_ ?_
    ·rintro wj hJ _ rfl _ rfl K hK;simp only [Jo.z]at hK⊢;go_simp
     repeat' split
     all_goals exact hK.out _ _ (congrArg Value.bool (by first | rfl | (exfalso;simp_all))) (br _ _)
    iterate 2 (refine Jo.jm rfl ?_ ?_;rotate_left)
    refine Jo.jm rfl ?_ ?_
    ·rintro wj hJ _ rfl _ rfl K hK;simp only [Jo.z]at hK⊢;go_simp;refine (nSign hP HS.out).mono ?_;rintro ee wk ⟨rfl,B⟩;exact hK.out _ _ rfl B
    refine Jo.jm rfl ?_ ?_
    ·rintro wj hJ _ rfl _ rfl K hK;simp only [Jo.z]at hK⊢;have hc0:=HC0.out;go_simp
     exact hK.out _ _ (by first | rfl | (show Value.bool _=Value.bool _;rw [hc0]) | simp_all) (br _ _)
    refine Jo.jm rfl ?_ ?_;rotate_left
    exact Jo.Steps.nil
    all_goals (rintro wj hJ;(repeat rintro _ rfl);intro K hK;simp only [Jo.z]at hK⊢;have xX2:=(X2.below hJ).cell;have xX3:=(X3.below hJ).cell;go_simp;exact hK.out _ _ rfl (br _ _))
   rintro w4 hJ _ rfl _ rfl _ rfl _ rfl _ rfl _ rfl _ rfl _ rfl -;simp only [Jo.z];replace X2:=X2.below hJ;replace X3:=X3.below hJ;replace XR:=XR.below hJ;replace hT:=hT.below hJ;replace HB:=Hqb HB hJ;refine Jo.jdone (by kernel_rfl) ?_;go_wp2;refine Jo.rk [0,1,2,3,4,5,6,7,8] [some 16,some 17,some 18,some 19,some 20,some 21,some 22,some 23,some 24,none] [[],[0],[],[1,2],[],[4],[],[5,6],[3,7],[]] 10 1 [Jo.qp w.heap.size 1,Jo.q4 K1 s1 M1 E1,Jo.q4 G g P Q,Jo.Fact.num u,Jo.qp w.heap.size 5,Jo.q4 K1b s1b M1b E1b,Jo.q4 G g P Q,Jo.Fact.num l,Jo.Fact.iv z,Jo.Fact.any] (by kernel_rfl) (by kernel_rfl) (by decide) rfl ?_ ?_
   ·iterate 3 (refine Jo.jm rfl ?_ ?_;rotate_left)
    refine Jo.jm rfl ?_ ?_
    ·rintro wj hJ _ rfl _ rfl K hK;simp only [Jo.z]at hK⊢;go_simp;refine (aSub (hT.below hJ) a1.top hP a1.rk (by rw [HY.out]) HU.out).mono ?_;rintro ee wk ⟨K2,s2,M2,E2,rfl,q2,B⟩;exact hK.out _ _ ⟨K2,s2,M2,E2,rfl,q2⟩ B
    iterate 3 (refine Jo.jm rfl ?_ ?_;rotate_left)
    refine Jo.jm rfl ?_ ?_
    ·rintro wj hJ _ rfl _ rfl K hK;simp only [Jo.z]at hK⊢;go_simp;refine (aAdd (hT.below hJ) b1.top hP b1.rk HY.out HL.out).mono ?_;rintro ee wk ⟨K3,s3,M3,E3,rfl,q3,B⟩;exact hK.out _ _ ⟨K3,s3,M3,E3,rfl,q3⟩ B
    refine Jo.jm rfl ?_ ?_
    ·rintro wj hJ _ ⟨K2,s2,M2,E2,rfl,q2⟩ _ ⟨K3,s3,M3,E3,rfl,q3⟩ K hK;simp only [Jo.z]at hK⊢;go_simp;refine (kvMake q2.top q3.top q2.rk q3.rk HR.out).mono ?_;rintro ee wk ⟨e4,K4,s4,M4,E4,K4b,s4b,M4b,E4b,rfl,v4,B⟩;exact hK.out _ _ ⟨e4,K4,s4,M4,E4,K4b,s4b,M4b,E4b,rfl,v4⟩ B
    exact Jo.Steps.nil
    all_goals (rintro wj hJ;(repeat rintro _ rfl);intro K hK;simp only [Jo.z]at hK⊢;have xX2:=(X2.below hJ).cell;have xX3:=(X3.below hJ).cell;go_simp;exact hK.out _ _ rfl (br _ _))
   rintro w8 hJ _ _ _ rfl _ rfl _ ⟨K2,s2,M2,E2,rfl,q2⟩ _ _ _ rfl _ rfl _ ⟨K3,s3,M3,E3,rfl,q3⟩ _ ⟨e4,K4,s4,M4,E4,K4b,s4b,M4b,E4b,rfl,v4⟩ -;simp only [Jo.z];replace X2:=X2.below hJ;replace X3:=X3.below hJ;replace XR:=XR.below hJ;replace hT:=hT.below hJ;replace HB:=Hqb HB hJ;have xXR:=XR.cell;have zXR0:=XR.frozen
   refine Jo.jnext (i:=9) (o:=⟨none,_,_,_,_,_⟩) (by kernel_rfl) rfl (fun K hK=>?_)
   go_simp;refine hK.out _ _ ?_;clear hK K xXR zXR0;have SX:=StN.mk9 XR (.bool e4) (.int .i64 K4) (.bool s4) (.int .u64 M4) (.int .i64 E4) (.int .i64 K4b) (.bool s4b) (.int .u64 M4b) (.int .i64 E4b);refine Jo.jdone (by kernel_rfl) ?_;go_wp2;exact bodyPost_ret (by simp [results,Tryz.results77,go_sem,SX.box.cell]) rfl ⟨_,_,_,_,_,_,_,_,_,rfl,v4,(SX.below HB.out (by omega))⟩
def FzI (x:Sp)(h:Nat):Prop:=∀a b,x=some (a,b)→Fz a h∧Fz b h
theorem FzI.mono{x:Sp}{h k:Nat}(f:FzI x h)(hk:h≤k):FzI x k:=fun a b e=>⟨(f a b e).1.mono hk,(f a b e).2.mono hk⟩
theorem FzI.mk{a b:Int}{h:Nat}(f:Fz a h)(g:Fz b h):FzI (mkI a b) h:=fun c d e=>by
 unfold mkI at e
 split at e
 ·cases e
  exact⟨f,g⟩
 ·cases e
theorem FzI.add{x y:Sp}{h:Nat}(hh:h≤90000)(f:FzI x h)(g:FzI y h):FzI (addI x y) (h+66):=by
 rcases x with _ | ⟨a,b⟩
 ·exact fun _ _ e=>by cases e
 rcases y with _ | ⟨c,d⟩
 ·exact fun _ _ e=>by cases e
 exact FzI.mk (addp_fz false hh (f a b rfl).1 (g c d rfl).1) (addp_fz true hh (f a b rfl).2 (g c d rfl).2)
def gone:List Sp→Bool
 | []=>false
 | none::_=>true
 | some _::l=>gone l
theorem gone_at:∀{l:List Sp} {k:Nat},k < l.length→l.getD k none=none→gone l=true
 | none::_,_,_,_=>rfl
 | some _::l,0,_,e=>by cases e
 | some _::l,k+1,h,e=>gone_at (l:=l) (k:=k) (Nat.lt_of_succ_lt_succ h) e
theorem gone_no:∀{l:List Sp},(∀k,k < l.length→l.getD k none≠none)→gone l=false
 | [],_=>rfl
 | none::l,h=>absurd rfl (h 0 (Nat.succ_pos _))
 | some _::l,h=>gone_no (l:=l) fun k hk=>h (k+1) (Nat.succ_lt_succ hk)
theorem gone_get:∀{l:List Sp} {k:Nat},gone l=false→k < l.length→∃a b,l.getD k none=some (a,b)
 | none::_,_,h,_=>by cases h
 | some (a,b)::l,0,_,_=>⟨a,b,rfl⟩
 | some _::l,k+1,h,hk=>gone_get (l:=l) (k:=k) h (Nat.lt_of_succ_lt_succ hk)
theorem gone_fold:∀l:List Sp,l.foldl addI none=none
 | []=>rfl
 | x::l=>gone_fold l
theorem gone_fold2:∀{l:List Sp} (x:Sp),gone l=true→l.foldl addI x=none
 | none::l,x,_=>by
  show l.foldl addI (addI x none)=none
  rw [add_none,gone_fold]
 | some _::l,x,h=>gone_fold2 (l:=l) _ h
theorem add_gone:∀{l:List Sp},gone l=true→addL l=none
 | none::l,_=>gone_fold l
 | some p::l,h=>gone_fold2 (l:=l) (some p) h
theorem addp_lt{x y:Int}(x1: -19342822337206103650074625≤x)(x2:x < 19342822337206103650074625)(y1: -19342822337206103650074625≤y)(y2:y < 19342822337206103650074625):addp false x y < 19342822337206103650074625:=by
 cases hx:infp x
 ·cases hy:infp y
  ·obtain⟨a,b⟩:=infp_false x1 (by omega) hx;obtain⟨c,d⟩:=infp_false y1 (by omega) hy;have h:=(addp_spec false a b c d).1.2.1
   omega
  ·rw [addp_ft false hx hy];exact y2
 ·have e:=infp_true hx
  cases hy:infp y
  ·rw [addp_tf false hx hy];exact x2
  ·have e2:=infp_true hy;rw [addp_same false hx (by omega)];exact x2
theorem addp_gt{x y:Int}(x1: -19342822337206103650074625 < x)(x2:x≤19342822337206103650074625)(y1: -19342822337206103650074625 < y)(y2:y≤19342822337206103650074625): -19342822337206103650074625 < addp true x y:=by
 have h:=addp_lt (x:= -x) (y:= -y) (by omega) (by omega) (by omega) (by omega);have e:=addp_neg (x:=x) (y:=y) true;rw [Bool.not_true]at e
 omega
theorem addI_some{a b c d:Int}(h:SpOk (some (a,b)))(k:SpOk (some (c,d))):addI (some (a,b)) (some (c,d))=some (addp false a c,addp true b d)∧SpOk (some (addp false a c,addp true b d)):=by
 obtain⟨h1,h2,h3,h4,h5⟩:=h;obtain⟨k1,k2,k3,k4,k5⟩:=k;have l1:=addp_lt h1 h4 k1 k4;have l2:=addp_gt h5 h3 k5 k3
 have l3:addp false a c≤addp true b d:=by
  refine Int.le_trans (addp_le2 false ⟨by omega,by omega⟩ ⟨by omega,by omega⟩ ⟨by omega,by omega⟩ ⟨by omega,by omega⟩ h2 k2) ?_;exact addp_le (by omega) (by omega) (by omega) (by omega)
 have b1:=addp_bd (x:=a) (y:=c) false (by omega) (by omega) (by omega) (by omega);have b2:=addp_bd (x:=b) (y:=d) true (by omega) (by omega) (by omega) (by omega)
 have o:SpOk (some (addp false a c,addp true b d)):=⟨b1.1,l3,b2.2,l1,l2⟩
 exact⟨o.mk,o⟩
theorem add_fold:∀{l:List Sp} {a b:Int},gone l=false→(∀y ∈ l,SpOk y)→SpOk (some (a,b))→l.foldl addI (some (a,b))=some ((lowL l).foldl (addp false) a,(highL l).foldl (addp true) b)∧SpOk (some ((lowL l).foldl (addp false) a,(highL l).foldl (addp true) b))
 | [],a,b,_,_,h=>⟨rfl,h⟩
 | none::l,_,_,h,_,_=>by cases h
 | some (c,d)::l,a,b,h,hl,hab=>by
  obtain⟨e,o⟩:=addI_some hab (hl (some (c,d)) (List.mem_cons_self ..))
  have:=add_fold (l:=l) h (fun y hy=>hl y (List.mem_cons_of_mem _ hy)) o
  rw [←e]at this;exact this
theorem add_ends:∀{l:List Sp},gone l=false→(∀y ∈ l,SpOk y)→mkI ((lowL l).foldl (addp false) 0) ((highL l).foldl (addp true) 0)=addL l
 | [],_,_=>by decide
 | none::l,h,_=>by cases h
 | some (c,d)::l,h,hl=>by
  have k:=hl (some (c,d)) (List.mem_cons_self ..);have i:=k.in1
  obtain⟨e,o⟩:=add_fold (l:=l) h (fun y hy=>hl y (List.mem_cons_of_mem _ hy)) k
  show mkI ((lowL l).foldl (addp false) (addp false 0 c)) ((highL l).foldl (addp true) (addp true 0 d))=l.foldl addI (some (c,d))
  rw [addp_comm (x:=0) (y:=c),addp_comm (x:=0) (y:=d),addp_zero false i.1.1 i.1.2,addp_zero true i.2.1 i.2.2,e,o.mk]
section
variable {q:Bool→Int→Int→Int} {r:Bool→Int→Int} {x y z:Sp}
end
section
variable {q:Bool→Int→Int→Int} {r:Bool→Int→Int} {x y z:Sp} {m n:Int}
end
theorem opl_inj{a b:Int}(h1: -9223372036854775807≤a)(h2:a≤9223372036854775807)(k1: -9223372036854775807≤b)(k2:b≤9223372036854775807)(h:opl a=opl b):a=b:=by
 have c:=opl_cmp (a:=a) (b:=b) (by omega) (by omega) (by omega) (by omega);rw [h]at c
 rcases cmpI_tri a b with⟨p,e⟩ | ⟨p,e⟩ | ⟨p,e⟩
 ·rw [e]at c
  rcases cmpI_tri (opl b) (opl b)with ⟨p,e⟩ | ⟨p,e⟩ | ⟨p,e⟩ <;> omega
 ·exact p
 ·rw [e]at c
  rcases cmpI_tri (opl b) (opl b)with ⟨p,e⟩ | ⟨p,e⟩ | ⟨p,e⟩ <;> omega
theorem opl_lt{a b:Int}(h1: -9223372036854775807≤a)(h:a < b)(h2:b≤9223372036854775807):opl a < opl b:=by
 have l:=opl_le (a:=a) (b:=b) (by omega) (by omega) h2
 have n:opl a≠opl b:=fun e=>by
  have:=opl_inj h1 (by omega) (by omega) h2 e
  omega
 omega
end Go.Proofs.YtaadmpiphnfllaaGreatDoor
namespace Go.Proofs.YtaadmpiphnfllaaGreatDoor
open Go Go.RowKit
set_option linter.unusedVariables false
theorem small_opl{m:Int}(h1: -1000≤m)(h2:m≤1000):fixB (opl m)=true∧fixI (opl m)=m*SC:=by
 have a:=opl_lt (a:=m) (b:=1073741824) (by omega) (by omega) (by decide);have b:=opl_lt (a:= -1073741824) (b:=m) (by decide) (by omega) (by omega)
 have e:opl (-1073741824)= -opl 1073741824:=rfl
 have f:fixB (opl m)=true:=decide_eq_true ⟨by omega,by omega⟩
 refine⟨f,?_⟩;rw [fixI_yes f,opl_vr (by omega) (by omega),Int.mul_assoc,Int.mul_comm (2^KK) SC,←Int.mul_assoc];exact Int.mul_ediv_cancel _ (Int.ne_of_gt (p2pos KK))
theorem p60_lt:p60 < opl 1:=by decide
theorem aw_sin{Z:Sp}(h:Sv false 0 Z):hasI Z 0=true∧widI Z < opl 1:=by
 have f:fixB 0=true:=(small_opl (m:=0) (by decide) (by decide)).1
 obtain⟨b,g⟩:=sv_box f h;refine⟨?_,Int.lt_of_le_of_lt b.tight p60_lt⟩
 have z:zq false 0=0:=by
  have e:=zp_neg 0
  show zp 0=0
  rw [show (-0:Int)=0 from rfl]at e
  grind
 have g':=g
 rw [z]at g'
 have gn: -(17/10)≤ang (ofX false (fixI 0)) (-0)∧ang (ofX false (fixI 0)) (-0)≤17/10:=by
  rw [show (-0:Rat)=0 from by decide]
  exact g'
 obtain⟨k1,k2⟩:=negU g' gn
 rw [show (-0:Rat)=0 from by decide]at k1 k2
 have e:sinU (ofX false (fixI 0)) 0=su false 0:=by
  unfold su
  rw [z]
 rw [e]at k1 k2;obtain⟨e1,e2,e3,e4,e5,e6,e7,e8⟩:=eps_c;have t1:=tiny_lo k1;have t2:=tiny_hi k2;generalize (1/2^240:Rat)=t at *;generalize (1/2^200:Rat)=d at *;generalize (1/2^190:Rat)=q at *
 have q99:q*SR≤99:=by grind
 obtain⟨p1,p2⟩:=b.has (v:=0) (by decide) (by decide) (dist (e:=q) (by grind) q99) (dist (e:=q) (by grind) q99);exact has_R (by decide) (by decide) (v:=0) (by rw [Rat.zero_mul];rfl) b.fin.ok p1 p2
theorem ofl_one:SC≤ofL true (-1*SC)*1152921504606846976∧SC≤ofL true (1*SC)*1152921504606846976:=by decide +kernel
theorem above_p60{l r:Int}(hr:Rq false l SC r)(h:SC≤l*1152921504606846976):p60≤r:=by
 have p:=p60_bd;refine place_le hr (by omega) (by omega) ?_;have e:=p60_vr;rw [←e];have v0:=vr_pos p.1;have m:=Int.mul_le_mul_of_nonneg_left h (Int.le_of_lt v0)
 rw [show l*(vr p60*2^60)=vr p60*(l*1152921504606846976) by rw [Int.mul_comm,Int.mul_assoc,Int.mul_comm (2^60),show (2:Int)^60=1152921504606846976 by decide]]
 exact m
theorem aw_cos{Z:Sp}(h:AllV true (some (opl (-1),opl 1)) Z):hasI Z (opl 1)=true∧hasI Z 0=false:=by
 obtain⟨o1,o2⟩:=one_bd;obtain⟨fa,ea⟩:=small_opl (m:= -1) (by decide) (by decide);obtain⟨fb,eb⟩:=small_opl (m:=1) (by decide) (by decide)
 have w:widI (some (opl (-1),opl 1))=opl 2:=by
  show addp true (opl 1) (-opl (-1))=opl 2
  rw [show -opl (-1)=opl 1 from by rw [one_neg,Int.neg_neg]]
  exact opl_add true (by decide) (by decide) (by decide) (by decide)
 have w7:opl 2 < opl 7:=opl_lt (by decide) (by decide) (by decide)
 rcases h with⟨k,_⟩ | ⟨_,_,hw,za,zb,ha,hb,hZ⟩
 ·exfalso
  rcases k with k | k | k
  ·rw [fa]at k;cases k
  ·rw [fb]at k;cases k
  ·rw [w]at k;omega
 ·rw [hZ];clear hZ;have ba:=(sv_box fa ha).1.us;have bb:=(sv_box fb hb).1.us
  have la:∃r u,za=some (r,u)∧p60≤r:=by
   rcases ha with⟨c,_⟩ | ⟨_,r,u,hr,hu,hz⟩
   ·rw [fa]at c;cases c
   ·rw [ea]at hr;obtain⟨r',u',e,_⟩:=ba;refine⟨r',u',e,?_⟩;rw [e]at hz
    have:=above_p60 hr ofl_one.1
    unfold mkI at hz
    split at hz
    ·injection hz with hz
     injection hz with e1 e2
     omega
    ·cases hz
  have lb:∃r u,zb=some (r,u)∧p60≤r:=by
   rcases hb with⟨c,_⟩ | ⟨_,r,u,hr,hu,hz⟩
   ·rw [fb]at c;cases c
   ·rw [eb]at hr;obtain⟨r',u',e,_⟩:=bb;refine⟨r',u',e,?_⟩;rw [e]at hz
    have:=above_p60 hr ofl_one.2
    unfold mkI at hz
    split at hz
    ·injection hz with hz
     injection hz with e1 e2
     omega
    ·cases hz
  obtain⟨r1,u1,rfl,l1⟩:=la;obtain⟨r2,u2,rfl,l2⟩:=lb;obtain⟨_,_,e1,a1,a2,a3⟩:=ba;obtain⟨_,_,e2,b1,b2,b3⟩:=bb
  injection e1 with e1
  injection e1 with e1 e1'
  injection e2 with e2
  injection e2 with e2 e2'
  subst e1;subst e1';subst e2;subst e2';rw [hullI_some ⟨by omega,a2,by omega,by omega,by omega⟩ ⟨by omega,b2,by omega,by omega,by omega⟩]
  obtain⟨e,f,eq,hlo,hhi⟩:=loop_is (cos:=true) (x:=fixI (opl (-1))*2) (y:=fixI (opl 1)*2+2) (j:=(fixI (opl (-1))*2).fdiv (PLo*2)) (r:=min r1 r2) (u:=max u1 u2) (by omega) (by omega) (by omega) 13;rw [eq];have p60p:=p60_bd
  have he:0 < e:=by
   rcases hlo with⟨h,_⟩ | ⟨_,t,t1,t2,t3⟩
   ·omega
   ·exfalso
    generalize (fixI (opl (-1))*2).fdiv (PLo*2)-4+(t:Int)=i at *;rw [ea,eb]at t2
    unfold MT meetsB at t2
    simp only [if_true]at t2
    by_cases c:2*i < 0
    ·rw [if_pos c]at t2;simp only [Bool.and_eq_true,decide_eq_true_eq]at t2
     unfold SC PLo PHi at *
     omega
    ·rw [if_neg c]at t2;simp only [Bool.and_eq_true,decide_eq_true_eq]at t2
     unfold SC PLo PHi at *
     omega
  have hf:f=opl 1:=by
   rcases hhi with⟨_,no⟩ | ⟨h,_⟩
   ·exfalso
    have m:MT true (fixI (opl (-1))*2) (fixI (opl 1)*2+2) 0:=by
     rw [ea,eb]
     show meetsB (if true=true then 2*0 else 2*0+1) (-1*SC*2) (1*SC*2+2)=true
     decide
    obtain⟨t,t1,t2⟩:=search fa fb hw m;rw [t2]at m;exact no t t1 m (by rw [←t2];rfl)
   ·exact h
  subst hf
  have be:e≤opl 1:=by
   rcases hlo with⟨h,_⟩ | ⟨h,_⟩ <;> omega
  refine⟨has_in (by omega) (by omega) be (Int.le_refl _),?_⟩
  show (!infp 0 && decide (e≤0) && decide (0≤opl 1))=false
  rw [decide_eq_false (show ¬e≤0 by omega)]
  rfl
theorem aw_wide:AllV false (some (opl 0,opl 7)) unitI:=by
 refine .inl ⟨.inr (.inr ?_),rfl⟩
 show opl 7≤addp true (opl 7) (-opl 0)
 rw [show -opl 0=opl 0 from rfl,opl_add true (by decide) (by decide) (by decide) (by decide)]
 exact Int.le_refl _
theorem aw_seven:mkI (opl 0) (opl 7)=some (opl 0,opl 7):=by
 have:=opl_pos (n:=7) (by decide) (by decide)
 have e:opl 0=0:=rfl
 exact mkI_some (by omega) (by omega) (by omega)
end Go.Proofs.YtaadmpiphnfllaaGreatDoor
