/-
 Contracts that the proof rests on.
-/
import Derived.Test.YtaadmpiphnfllaaGreatDoorYAbn
namespace Go.Proofs.YtaadmpiphnfllaaGreatDoor
set_option maxHeartbeats 8000000
open Go.RowKit
set_option linter.unusedVariables false
set_option linter.unusedSimpArgs false
set_option maxRecDepth 100000
theorem p60_fq:Fq 1 false 9223372036854775808 (-123) p60:=Fq.fin (by decide) (by decide) (by decide) (by decide) (by decide)
theorem tSmall{w:World}:Calls Tryz.prog 26 #[] w (PN w p60):=by
 go_enter Tryz.func26,Tryz.ntmps26
 go_upto_region 1 with (fail)
 generalize hW1:w.alloc _=w1 at *;obtain⟨XR,HB⟩:=Bo.en1 hW1;clear hW1;have xXR:=XR.cell;have zXR0:=XR.frozen;go_wp2;clear xXR zXR0;have SX:=StN.mk4 XR (.int .i64 1) (.bool false) (.int .u64 9223372036854775808) (.int .i64 (-123));exact bodyPost_ret (by simp [results,Tryz.results26,go_sem,SX.box.cell]) rfl ⟨_,_,_,_,rfl,p60_fq,(SX.below HB.out (by omega))⟩
theorem tNearly{w:World}{e e2:Bool}{D M E D' M' E' G P Q G' P' Q':Int}{s s' g g':Bool}{x y:Sp}(hT2:Tb w)(hM:LQ M)(hM':LQ M')(hP:LQ P)(hP':LQ P')(hx:rkI e D s M E D' s' M' E'=x)(hy:rkI e2 G g P Q G' g' P' Q'=y)(hr:witI x (infI y p60)=true):Calls Tryz.prog 33 #[VI e D s M E D' s' M' E',VI e2 G g P Q G' g' P' Q'] w (PB w true):=by
 delta VI
 have HX:=Lib.hid hx;have HY:=Lib.hid hy;have HR:=Lib.hid hr;clear hx hy hr
 go_enter Tryz.func33,Tryz.ntmps33
 go_upto_region 1 with (fail)
 generalize hW1:(w.alloc _).alloc _=w1 at *;obtain⟨X2,X3,HB⟩:=Bo.en2 hW1;replace hT2:=hT2.below HB.out;clear hW1;have ltX2:=X2.lt;have ltX3:=X3.lt;refine Jo.rk [0,1,2,3,4,5] [some 5,some 6,some 7,some 8,some 9,some 4] [[],[],[],[1,2],[0,3],[4]] 6 0 [Jo.q9 e D s M E D' s' M' E',Jo.q9 e2 G g P Q G' g' P' Q',Jo.Fact.num p60,Jo.Fact.iv (infI y p60),Jo.qb true,Jo.qb true] (by kernel_rfl) (by kernel_rfl) (by decide) rfl ?_ ?_
 ·iterate 2 (refine Jo.jm rfl ?_ ?_;rotate_left)
  refine Jo.jm rfl ?_ ?_
  ·rintro wj hJ K hK;simp only [Jo.z]at hK⊢;go_simp;refine (tSmall).mono ?_;rintro ee wk ⟨K20,s20,M20,E20,rfl,q20,B⟩;exact hK.out _ _ ⟨K20,s20,M20,E20,rfl,q20⟩ B
  refine Jo.jm rfl ?_ ?_
  ·rintro wj hJ _ rfl _ ⟨K20,s20,M20,E20,rfl,q20⟩ K hK;simp only [Jo.z]at hK⊢;go_simp;refine (kvInflate (hT2.below hJ) hP hP' q20.top HY.out q20.rk rfl).mono ?_;rintro ee wk ⟨e21,K21,s21,M21,E21,K21b,s21b,M21b,E21b,rfl,v21,B⟩;exact hK.out _ _ ⟨e21,K21,s21,M21,E21,K21b,s21b,M21b,E21b,rfl,v21⟩ B
  refine Jo.jm rfl ?_ ?_
  ·rintro wj hJ _ rfl _ ⟨e21,K21,s21,M21,E21,K21b,s21b,M21b,E21b,rfl,v21⟩ K hK;simp only [Jo.z]at hK⊢;go_simp;refine (kvWithin hM hM' v21.top.1 v21.top.2 HX.out v21.rk HR.out).mono ?_;rintro ee wk ⟨rfl,B⟩;exact hK.out _ _ rfl B
  refine Jo.jm rfl ?_ ?_;rotate_left
  exact Jo.Steps.nil
  all_goals (rintro wj hJ;(repeat rintro _ rfl);intro K hK;simp only [Jo.z]at hK⊢;have xX2:=(X2.below hJ).cell;have xX3:=(X3.below hJ).cell;go_simp;exact hK.out _ _ rfl (br _ _))
 rintro w2 hJ _ rfl _ rfl _ ⟨K20,s20,M20,E20,rfl,_⟩ _ ⟨e21,K21,s21,M21,E21,K21b,s21b,M21b,E21b,rfl,v21⟩ _ rfl _ rfl -;simp only [Jo.z];replace X2:=X2.below hJ;replace X3:=X3.below hJ;replace hT2:=hT2.below hJ;replace HB:=Hqb HB hJ;refine Jo.jdone (by kernel_rfl) ?_;go_wp2
 go_ret
 exact⟨rfl,HB.out⟩
theorem awake12{w:World}(hT:Tab w)(hT2:Tb w):Calls Tryz.prog 9 #[] w (PB w true):=by
 obtain⟨Zs,hs⟩:=sv_ex false 0;obtain⟨Zc,hc⟩:=all_ex true (some (opl (-1),opl 1));obtain⟨s1,s2⟩:=aw_sin hs;obtain⟨c1,c2⟩:=aw_cos hc;have hw:=aw_wide;obtain⟨σ,hσ⟩:∃σ,cmpI (widI Zs) (opl 1)=σ:=⟨_,rfl⟩
 have e0:decide (σ < 0)=true:=decide_eq_true (by rw [←hσ,cmpI_lt s2];decide)
 have m1:mkI (opl (-1)) (opl 1)=some (opl (-1),opl 1):=unitI_some
 have m7:mkI (opl 0) (opl 7)=some (opl 0,opl 7):=aw_seven
 have HS:=Lib.hid hs;have HC:=Lib.hid hc;have HS1:=Lib.hid s1;have HC1:=Lib.hid c1;have HC2:=Lib.hid c2;have HW:=Lib.hid hw;have HSG:=Lib.hid hσ;have HE0:=Lib.hid e0;have HMA:=Lib.hid m1;have HMB:=Lib.hid m7;clear s2 hs hc s1 c1 c2 hw hσ e0 m1 m7
 go_enter Tryz.func9,Tryz.ntmps9
 have HB:=Lib.hid (Below.refl w.heap.size w)
 go_wp2_with fail
 refine (nOf (n:=0) (r:=0) _ (by decide) (by decide) rfl).mono ?_;rintro ee w1 ⟨K1,s1,M1,E1,rfl,q1,B⟩;replace hT:=hT.below B;replace hT2:=hT2.below B;replace HB:=Hqb HB B;clear B
 go_wp2_with fail
 refine (tSin hT (fq_mn q1) q1.top q1.rk HS.out).mono ?_;rintro ee w2 ⟨e2,K2,s2,M2,E2,K2b,s2b,M2b,E2b,rfl,v2,B⟩;replace hT:=hT.below B;replace hT2:=hT2.below B;replace HB:=Hqb HB B;clear B
 go_upto_region 2 with (fail)
 have lX1:=Nat.le_refl (World.heap w2).size;generalize hWn:w2.alloc _=w3 at *;obtain⟨X1,BW⟩:=Bo.nw hWn;clear hWn;replace hT:=hT.below BW;replace hT2:=hT2.below BW;replace HB:=Hqb HB BW;clear BW;clear lX1 q1
 go_wp2_with fail
 refine (kvOf (a:= -1) (b:=1) (by decide) (by decide) (by decide) (by decide) rfl rfl HMA.out).mono ?_;rintro ee w4 ⟨e3,K3,s3,M3,E3,K3b,s3b,M3b,E3b,rfl,v3,B⟩;replace X1:=X1.below B;replace hT:=hT.below B;replace hT2:=hT2.below B;replace HB:=Hqb HB B;clear B
 go_wp2_with fail
 refine (tCosOf hT hT2 v3.top.1 v3.top.2 v3.rk HC.out).mono ?_;rintro ee w5 ⟨e4,K4,s4,M4,E4,K4b,s4b,M4b,E4b,rfl,v4,B⟩;replace X1:=X1.below B;replace hT:=hT.below B;replace hT2:=hT2.below B;replace HB:=Hqb HB B;clear B
 go_upto_region 3 with (fail)
 have lX2:=Nat.le_refl (World.heap w5).size;have nX2X1:=X1.lt;generalize hWn:w5.alloc _=w6 at *;obtain⟨X2,BW⟩:=Bo.nw hWn;clear hWn;replace X1:=X1.below BW;replace hT:=hT.below BW;replace hT2:=hT2.below BW;replace HB:=Hqb HB BW;clear BW;clear lX2 v3
 go_wp2_with fail
 refine (kvOf (a:=0) (b:=7) (by decide) (by decide) (by decide) (by decide) rfl rfl HMB.out).mono ?_;rintro ee w7 ⟨e5,K5,s5,M5,E5,K5b,s5b,M5b,E5b,rfl,v5,B⟩;replace X1:=X1.below B;replace X2:=X2.below B;replace hT:=hT.below B;replace hT2:=hT2.below B;replace HB:=Hqb HB B;clear B
 go_wp2_with fail
 refine (tSinOf hT hT2 v5.top.1 v5.top.2 v5.rk HW.out).mono ?_;rintro ee w8 ⟨e6,K6,s6,M6,E6,K6b,s6b,M6b,E6b,rfl,v6,B⟩;replace X1:=X1.below B;replace X2:=X2.below B;replace hT:=hT.below B;replace hT2:=hT2.below B;replace HB:=Hqb HB B;clear B
 go_upto_region 4 with (fail)
 have lX3:=Nat.le_refl (World.heap w8).size;have nX3X1:=X1.lt;have nX3X2:=X2.lt;generalize hWn:w8.alloc _=w9 at *;obtain⟨X3,BW⟩:=Bo.nw hWn;clear hWn;replace X1:=X1.below BW;replace X2:=X2.below BW;replace hT:=hT.below BW;replace hT2:=hT2.below BW;replace HB:=Hqb HB BW;clear BW;clear lX3 v5;have ltX1:=X1.lt;have ltX2:=X2.lt;have ltX3:=X3.lt
 refine Jo.rk [0,1,2,3,4,5,6,7,8,9,10,11,12,13,14,15,16,17,18,19,20,21,22,23,24,25,26] [some 10,some 11,some 12,some 13,some 14,some 15,some 16,some 17,some 18,some 19,some 20,some 21,some 22,some 23,some 24,some 25,some 26,some 27,some 28,some 29,some 30,some 31,some 32,some 33,some 34,some 35,some 0] [[],[],[0,1],[2],[3],[3,4],[3],[3,5,6],[3,7],[3,8],[9],[10],[10],[10,11,12],[10,13],[14],[15],[15],[15,16,17],[15,18],[15,19],[20],[21],[21],[21,22,23],[21,24],[25]] 27 0 [Jo.q9 e2 K2 s2 M2 E2 K2b s2b M2b E2b,Jo.Fact.num 0,Jo.qb true,Jo.qb true,Jo.q9 e2 K2 s2 M2 E2 K2b s2b M2b E2b,Jo.Fact.num (widI Zs),Jo.Fact.num (opl 1),Jo.qi σ,Jo.qb true,Jo.qb true,Jo.qb true,Jo.q9 e4 K4 s4 M4 E4 K4b s4b M4b E4b,Jo.Fact.num (opl 1),Jo.qb true,Jo.qb true,Jo.qb true,Jo.q9 e4 K4 s4 M4 E4 K4b s4b M4b E4b,Jo.Fact.num 0,Jo.qb false,Jo.qb true,Jo.qb true,Jo.qb true,Jo.q9 e6 K6 s6 M6 E6 K6b s6b M6b E6b,Jo.Fact.iv unitI,Jo.qb true,Jo.qb true,Jo.qb true] (by kernel_rfl) (by kernel_rfl) (by decide) rfl ?_ ?_
 ·refine Jo.jm rfl ?_ ?_;rotate_left
  refine Jo.jm rfl ?_ ?_
  ·rintro wj hJ K hK;simp only [Jo.z]at hK⊢;go_simp;refine (nOf (n:=0) (r:=0) _ (by decide) (by decide) rfl).mono ?_;rintro ee wk ⟨K20,s20,M20,E20,rfl,q20,B⟩;exact hK.out _ _ ⟨K20,s20,M20,E20,rfl,q20⟩ B
  refine Jo.jm rfl ?_ ?_
  ·rintro wj hJ _ rfl _ ⟨K20,s20,M20,E20,rfl,q20⟩ K hK;simp only [Jo.z]at hK⊢;go_simp;refine (kvHas v2.top.1 v2.top.2 q20.top v2.rk q20.rk HS1.out).mono ?_;rintro ee wk ⟨rfl,B⟩;exact hK.out _ _ rfl B
  iterate 2 (refine Jo.jm rfl ?_ ?_;rotate_left)
  refine Jo.jm rfl ?_ ?_
  ·rintro wj hJ _ rfl _ rfl K hK;simp only [Jo.z]at hK⊢;go_simp;refine (kvWidth (hT2.below hJ) v2.top.1 v2.top.2 v2.rk rfl).mono ?_;rintro ee wk ⟨K21,s21,M21,E21,rfl,q21,B⟩;exact hK.out _ _ ⟨K21,s21,M21,E21,rfl,q21⟩ B
  refine Jo.jm rfl ?_ ?_
  ·rintro wj hJ _ rfl K hK;simp only [Jo.z]at hK⊢;go_simp;refine (nOf (n:=1) (r:=(opl 1)) _ (by decide) (by decide) rfl).mono ?_;rintro ee wk ⟨K22,s22,M22,E22,rfl,q22,B⟩;exact hK.out _ _ ⟨K22,s22,M22,E22,rfl,q22⟩ B
  refine Jo.jm rfl ?_ ?_
  ·rintro wj hJ _ rfl _ ⟨K21,s21,M21,E21,rfl,q21⟩ _ ⟨K22,s22,M22,E22,rfl,q22⟩ K hK;simp only [Jo.z]at hK⊢;go_simp;refine (nCmp (z:=σ) q21.top q22.top (by rw [q21.rk,q22.rk];exact HSG.out)).mono ?_;rintro ee wk ⟨rfl,B⟩;exact hK.out _ _ rfl B
  refine Jo.jm rfl ?_ ?_
  ·rintro wj hJ _ rfl _ rfl K hK;simp only [Jo.z]at hK⊢;have ht:=HE0.out;go_simp
   exact hK.out _ _ (by first | rfl | (show Value.bool _=Value.bool _;first | (rw [ht];done) | (simp only [ht];done) | simp_all)) (br _ _)
  iterate 3 (refine Jo.jm rfl ?_ ?_;rotate_left)
  refine Jo.jm rfl ?_ ?_
  ·rintro wj hJ _ rfl K hK;simp only [Jo.z]at hK⊢;go_simp;refine (nOf (n:=1) (r:=(opl 1)) _ (by decide) (by decide) rfl).mono ?_;rintro ee wk ⟨K23,s23,M23,E23,rfl,q23,B⟩;exact hK.out _ _ ⟨K23,s23,M23,E23,rfl,q23⟩ B
  refine Jo.jm rfl ?_ ?_
  ·rintro wj hJ _ rfl _ rfl _ ⟨K23,s23,M23,E23,rfl,q23⟩ K hK;simp only [Jo.z]at hK⊢;go_simp;refine (kvHas v4.top.1 v4.top.2 q23.top v4.rk q23.rk HC1.out).mono ?_;rintro ee wk ⟨rfl,B⟩;exact hK.out _ _ rfl B
  iterate 3 (refine Jo.jm rfl ?_ ?_;rotate_left)
  refine Jo.jm rfl ?_ ?_
  ·rintro wj hJ _ rfl K hK;simp only [Jo.z]at hK⊢;go_simp;refine (nOf (n:=0) (r:=0) _ (by decide) (by decide) rfl).mono ?_;rintro ee wk ⟨K24,s24,M24,E24,rfl,q24,B⟩;exact hK.out _ _ ⟨K24,s24,M24,E24,rfl,q24⟩ B
  refine Jo.jm rfl ?_ ?_
  ·rintro wj hJ _ rfl _ rfl _ ⟨K24,s24,M24,E24,rfl,q24⟩ K hK;simp only [Jo.z]at hK⊢;go_simp;refine (kvHas v4.top.1 v4.top.2 q24.top v4.rk q24.rk HC2.out).mono ?_;rintro ee wk ⟨rfl,B⟩;exact hK.out _ _ rfl B
  iterate 4 (refine Jo.jm rfl ?_ ?_;rotate_left)
  refine Jo.jm rfl ?_ ?_
  ·rintro wj hJ _ rfl K hK;simp only [Jo.z]at hK⊢;go_simp;refine (kvOf (a:= -1) (b:=1) (x:=unitI) (by decide) (by decide) (by decide) (by decide) rfl rfl rfl).mono ?_;rintro ee wk ⟨e25,K25,s25,M25,E25,K25b,s25b,M25b,E25b,rfl,v25,B⟩;exact hK.out _ _ ⟨e25,K25,s25,M25,E25,K25b,s25b,M25b,E25b,rfl,v25⟩ B
  refine Jo.jm rfl ?_ ?_
  ·rintro wj hJ _ rfl _ rfl _ ⟨e25,K25,s25,M25,E25,K25b,s25b,M25b,E25b,rfl,v25⟩ K hK;simp only [Jo.z]at hK⊢;obtain⟨rfl,rfl,rfl,rfl,rfl,rfl,rfl,rfl,rfl⟩:=v6.uniq v25;go_simp
   exact hK.out _ _ (by first | rfl | (show Value.bool _=Value.bool _;simp)) (br _ _)
  iterate 2 (refine Jo.jm rfl ?_ ?_;rotate_left)
  exact Jo.Steps.nil
  all_goals (rintro wj hJ;(repeat rintro _ rfl);intro K hK;simp only [Jo.z]at hK⊢;have xX1:=(X1.below hJ).cell;have xX2:=(X2.below hJ).cell;have xX3:=(X3.below hJ).cell;go_simp;exact hK.out _ _ rfl (br _ _))
 rintro wA hJ _ rfl _ ⟨K20,s20,M20,E20,rfl,_⟩ _ rfl _ rfl _ rfl _ ⟨K21,s21,M21,E21,rfl,_⟩ _ ⟨K22,s22,M22,E22,rfl,_⟩ _ rfl _ rfl _ rfl _ rfl _ rfl _ ⟨K23,s23,M23,E23,rfl,_⟩ _ rfl _ rfl _ rfl _ rfl _ ⟨K24,s24,M24,E24,rfl,_⟩ _ rfl _ rfl _ rfl _ rfl _ rfl _ ⟨e25,K25,s25,M25,E25,K25b,s25b,M25b,E25b,rfl,v25⟩ _ rfl _ rfl _ rfl -;simp only [Jo.z];replace X1:=X1.below hJ
 replace X2:=X2.below hJ;replace X3:=X3.below hJ;replace hT:=hT.below hJ;replace hT2:=hT2.below hJ;replace HB:=Hqb HB hJ;refine Jo.jdone (by kernel_rfl) ?_;go_wp2
 go_ret
 exact⟨rfl,HB.out⟩
end Go.Proofs.YtaadmpiphnfllaaGreatDoor
