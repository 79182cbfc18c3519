/-
  The walk of TrigTight: for all arguments the call answers true, and nothing that was there has turned.
-/
import Derived.Test.YtaadmpiphnfllaaGreatDoorYAbo
namespace Go.Proofs.YtaadmpiphnfllaaGreatDoor
set_option maxHeartbeats 16000000
open Go.RowKit
set_option linter.unusedVariables false
set_option linter.unusedSimpArgs false
set_option maxRecDepth 100000
set_option maxRecDepth 100000 in
theorem trigTight_inf (D0:Int)(s0:Bool)(M0 E0:Int)(w:World)(hT:Tab w)(hT2:Tb w)(w0:0≤M0)(u0:LQ M0)(x rs us rc uc:Int)(hx:rk D0 s0 M0 E0=x)(hs:Sv false x (some (rs,us)))(hc:Sv true x (some (rc,uc)))(gs:witI (some (rs,us)) unitI=true)(gc:witI (some (rc,uc)) unitI=true)(hd:D0=2):
  Calls Tryz.prog 5 #[VQ D0 s0 M0 E0] w (PB w true):=by
 delta VQ
 have td:(D0==2)=true:=by rw [hd];rfl
 have HX:=Lib.hid hx;have HS:=Lib.hid hs;have HC:=Lib.hid hc;have GS:=Lib.hid gs;have GC:=Lib.hid gc;have TD:=Lib.hid td;clear hx hs hc gs gc td;clear hd
 go_enter Tryz.func5,Tryz.ntmps5
 go_upto_region 1 with (fail)
 generalize hW1:w.alloc _=w1 at *;obtain⟨X0,HB⟩:=Bo.en1 hW1;replace hT:=hT.below HB.out;replace hT2:=hT2.below HB.out;clear hW1
 go_wp2_with fail
 refine (awake12 hT hT2).mono ?_;rintro ee w2 ⟨rfl,B⟩;replace X0:=X0.below B;replace hT:=hT.below B;replace hT2:=hT2.below B;replace HB:=Hqb HB B;clear B;have xX0:=X0.cell
 go_wp2_with fail
 refine (tSin hT w0 u0 HX.out HS.out).mono ?_;rintro ee w3 ⟨e11,K11,s11,M11,E11,K11b,s11b,M11b,E11b,rfl,v11,B⟩;clear xX0;replace X0:=X0.below B;replace hT:=hT.below B;replace hT2:=hT2.below B;replace HB:=Hqb HB B;clear B;have hsz11:=HB.out.size
 go_upto_region 3 with (fail)
 have lX4:=Nat.le_refl (World.heap w3).size;have nX4X0:=X0.lt;generalize hWn:w3.alloc _=w4 at *;obtain⟨X4,BW⟩:=Bo.nw hWn;clear hWn;replace X0:=X0.below BW;replace hT:=hT.below BW;replace hT2:=hT2.below BW;replace HB:=Hqb HB BW;clear BW;clear lX4
 obtain rfl:e11=false:=v11.1
 have xX0:=X0.cell
 go_wp2_with fail
 refine (tCos hT w0 u0 HX.out HC.out).mono ?_;rintro ee w5 ⟨e12,K12,s12,M12,E12,K12b,s12b,M12b,E12b,rfl,v12,B⟩;clear xX0;replace X0:=X0.below B;replace X4:=X4.below B;replace hT:=hT.below B;replace hT2:=hT2.below B;replace HB:=Hqb HB B;clear B;have hsz12:=HB.out.size
 go_upto_region 4 with (fail)
 have lX5:=Nat.le_refl (World.heap w5).size;have nX5X0:=X0.lt;have nX5X4:=X4.lt;generalize hWn:w5.alloc _=w6 at *;obtain⟨X5,BW⟩:=Bo.nw hWn;clear hWn;replace X0:=X0.below BW;replace X4:=X4.below BW;replace hT:=hT.below BW;replace hT2:=hT2.below BW;replace HB:=Hqb HB BW;clear BW;clear lX5
 obtain rfl:e12=false:=v12.1
 go_wp2_with fail
 refine (kvOf (a:= -1) (b:=1) (x:=unitI) (by decide) (by decide) (by decide) (by decide) rfl rfl rfl).mono ?_;rintro ee w7 ⟨e13,K13,s13,M13,E13,K13b,s13b,M13b,E13b,rfl,v13,B⟩;replace X0:=X0.below B;replace X4:=X4.below B;replace X5:=X5.below B;replace hT:=hT.below B;replace hT2:=hT2.below B;replace HB:=Hqb HB B;clear B;have hsz13:=HB.out.size
 go_upto_region 5 with (fail)
 have lX6:=Nat.le_refl (World.heap w7).size;have nX6X0:=X0.lt;have nX6X4:=X4.lt;have nX6X5:=X5.lt;generalize hWn:w7.alloc _=w8 at *;obtain⟨X6,BW⟩:=Bo.nw hWn;clear hWn;replace X0:=X0.below BW;replace X4:=X4.below BW;replace X5:=X5.below BW;replace hT:=hT.below BW;replace hT2:=hT2.below BW;replace HB:=Hqb HB BW;clear BW;clear lX6;have xX4:=X4.cell
 have xX5:=X5.cell;have xX6:=X6.cell
 go_wp2_with fail
 refine (kvWithin v11.top.1 v11.top.2 v13.top.1 v13.top.2 v11.rk v13.rk GS.out).mono ?_;rintro ee w9 ⟨rfl,B⟩;clear xX4 xX5 xX6;replace X0:=X0.below B;replace X4:=X4.below B;replace X5:=X5.below B;replace X6:=X6.below B;replace hT:=hT.below B;replace hT2:=hT2.below B
 replace HB:=Hqb HB B;clear B;have xX5:=X5.cell;have xX6:=X6.cell
 go_wp2_with fail
 refine (kvWithin v12.top.1 v12.top.2 v13.top.1 v13.top.2 v12.rk v13.rk GC.out).mono ?_;rintro ee w9b ⟨rfl,B⟩;clear xX5 xX6;replace X0:=X0.below B;replace X4:=X4.below B;replace X5:=X5.below B;replace X6:=X6.below B;replace hT:=hT.below B;replace hT2:=hT2.below B;replace HB:=Hqb HB B
 clear B
 go_upto_region 7 with (fail)
 have ltX0:=X0.lt;have ltX4:=X4.lt;have ltX5:=X5.lt;have ltX6:=X6.lt;refine Jo.rk [0,1,2,3,4,5,6,7,8,9,10,11,12,13,14] [some 35,some 36,some 37,some 38,some 39,some 40,some 41,some 42,some 43,some 44,some 45,some 46,some 47,some 48,some 49] [[],[0],[1],[2],[3],[3],[3,4,5],[3,6],[3,7],[8],[9],[9],[9,10,11],[9,12],[9,13]] 15 0 [Jo.qp w.heap.size 0,Jo.qi D0,Jo.qb true,Jo.qb true,Jo.qu,Jo.qu,Jo.qu,Jo.qu,Jo.qb true,Jo.qb true,Jo.qu,Jo.qu,Jo.qu,Jo.qu,Jo.qb true] (by kernel_rfl) (by kernel_rfl) (by decide) rfl ?_ ?_
 ·refine Jo.jm rfl ?_ ?_;rotate_left
  refine Jo.jm rfl ?_ ?_
  ·rintro wj hJ _ rfl K hK;simp only [Jo.z]at hK⊢;have xX00:=(X0.below hJ).a 0 (.int .i64 D0) rfl;go_simp;exact hK.out _ _ rfl (br _ _)
  refine Jo.jm rfl ?_ ?_
  ·rintro wj hJ _ rfl K hK;simp only [Jo.z]at hK⊢;have ht:=TD.out;go_simp
   exact hK.out _ _ (by first | rfl | (show Value.bool _=Value.bool _;first | (rw [ht];done) | (simp only [ht];done) | simp_all)) (br _ _)
  iterate 12 (refine Jo.jm rfl ?_ ?_;rotate_left)
  exact Jo.Steps.nil
  all_goals (rintro wj hJ;(repeat rintro _ rfl);intro K hK;simp only [Jo.z]at hK⊢;go_simp;exact hK.out _ _ rfl (br _ _))
 rintro wA hJ _ _ _ rfl _ rfl _ rfl _ rfl _ rfl _ rfl _ rfl _ rfl _ rfl _ rfl _ rfl _ rfl _ rfl _ rfl -;simp only [Jo.z];replace X0:=X0.below hJ;replace X4:=X4.below hJ;replace X5:=X5.below hJ;replace X6:=X6.below hJ;replace hT:=hT.below hJ;replace hT2:=hT2.below hJ;replace HB:=Hqb HB hJ;refine Jo.jdone (by kernel_rfl) ?_;go_wp2
 go_ret
 exact⟨rfl,HB.out⟩
set_option maxRecDepth 100000 in
theorem trigTight_hi (D0:Int)(s0:Bool)(M0 E0:Int)(w:World)(hT:Tab w)(hT2:Tb w)(w0:0≤M0)(u0:LQ M0)(x rs us rc uc:Int)(hx:rk D0 s0 M0 E0=x)(hs:Sv false x (some (rs,us)))(hc:Sv true x (some (rc,uc)))(gs:witI (some (rs,us)) unitI=true)(gc:witI (some (rc,uc)) unitI=true)(hd:D0≠2)(hx1:opl 1073741824≤x):
  Calls Tryz.prog 5 #[VQ D0 s0 M0 E0] w (PB w true):=by
 delta VQ
 have td:(D0==2)=false:=by simpa using hd
 obtain⟨σ,hσ⟩:∃σ,cmpI x (opl 1073741824)=σ:=⟨_,rfl⟩
 have t1:decide (0≤σ)=true:=by
  rw [←hσ,cmp_ge12 rfl];exact decide_eq_true hx1
 have HX:=Lib.hid hx;have HS:=Lib.hid hs;have HC:=Lib.hid hc;have GS:=Lib.hid gs;have GC:=Lib.hid gc;have HSG:=Lib.hid hσ;have T1:=Lib.hid t1;have TD:=Lib.hid td;clear hx hs hc gs gc hσ t1 td;clear hd
 go_enter Tryz.func5,Tryz.ntmps5
 go_upto_region 1 with (fail)
 generalize hW1:w.alloc _=w1 at *;obtain⟨X0,HB⟩:=Bo.en1 hW1;replace hT:=hT.below HB.out;replace hT2:=hT2.below HB.out;clear hW1
 go_wp2_with fail
 refine (awake12 hT hT2).mono ?_;rintro ee w2 ⟨rfl,B⟩;replace X0:=X0.below B;replace hT:=hT.below B;replace hT2:=hT2.below B;replace HB:=Hqb HB B;clear B;have xX0:=X0.cell
 go_wp2_with fail
 refine (tSin hT w0 u0 HX.out HS.out).mono ?_;rintro ee w3 ⟨e11,K11,s11,M11,E11,K11b,s11b,M11b,E11b,rfl,v11,B⟩;clear xX0;replace X0:=X0.below B;replace hT:=hT.below B;replace hT2:=hT2.below B;replace HB:=Hqb HB B;clear B;have hsz11:=HB.out.size
 go_upto_region 3 with (fail)
 have lX4:=Nat.le_refl (World.heap w3).size;have nX4X0:=X0.lt;generalize hWn:w3.alloc _=w4 at *;obtain⟨X4,BW⟩:=Bo.nw hWn;clear hWn;replace X0:=X0.below BW;replace hT:=hT.below BW;replace hT2:=hT2.below BW;replace HB:=Hqb HB BW;clear BW;clear lX4
 obtain rfl:e11=false:=v11.1
 have xX0:=X0.cell
 go_wp2_with fail
 refine (tCos hT w0 u0 HX.out HC.out).mono ?_;rintro ee w5 ⟨e12,K12,s12,M12,E12,K12b,s12b,M12b,E12b,rfl,v12,B⟩;clear xX0;replace X0:=X0.below B;replace X4:=X4.below B;replace hT:=hT.below B;replace hT2:=hT2.below B;replace HB:=Hqb HB B;clear B;have hsz12:=HB.out.size
 go_upto_region 4 with (fail)
 have lX5:=Nat.le_refl (World.heap w5).size;have nX5X0:=X0.lt;have nX5X4:=X4.lt;generalize hWn:w5.alloc _=w6 at *;obtain⟨X5,BW⟩:=Bo.nw hWn;clear hWn;replace X0:=X0.below BW;replace X4:=X4.below BW;replace hT:=hT.below BW;replace hT2:=hT2.below BW;replace HB:=Hqb HB BW;clear BW;clear lX5
 obtain rfl:e12=false:=v12.1
 go_wp2_with fail
 refine (kvOf (a:= -1) (b:=1) (x:=unitI) (by decide) (by decide) (by decide) (by decide) rfl rfl rfl).mono ?_;rintro ee w7 ⟨e13,K13,s13,M13,E13,K13b,s13b,M13b,E13b,rfl,v13,B⟩;replace X0:=X0.below B;replace X4:=X4.below B;replace X5:=X5.below B;replace hT:=hT.below B;replace hT2:=hT2.below B;replace HB:=Hqb HB B;clear B;have hsz13:=HB.out.size
 go_upto_region 5 with (fail)
 have lX6:=Nat.le_refl (World.heap w7).size;have nX6X0:=X0.lt;have nX6X4:=X4.lt;have nX6X5:=X5.lt;generalize hWn:w7.alloc _=w8 at *;obtain⟨X6,BW⟩:=Bo.nw hWn;clear hWn;replace X0:=X0.below BW;replace X4:=X4.below BW;replace X5:=X5.below BW;replace hT:=hT.below BW;replace hT2:=hT2.below BW;replace HB:=Hqb HB BW;clear BW;clear lX6;have xX4:=X4.cell
 have xX5:=X5.cell;have xX6:=X6.cell
 go_wp2_with fail
 refine (kvWithin v11.top.1 v11.top.2 v13.top.1 v13.top.2 v11.rk v13.rk GS.out).mono ?_;rintro ee w9 ⟨rfl,B⟩;clear xX4 xX5 xX6;replace X0:=X0.below B;replace X4:=X4.below B;replace X5:=X5.below B;replace X6:=X6.below B;replace hT:=hT.below B;replace hT2:=hT2.below B
 replace HB:=Hqb HB B;clear B;have xX5:=X5.cell;have xX6:=X6.cell
 go_wp2_with fail
 refine (kvWithin v12.top.1 v12.top.2 v13.top.1 v13.top.2 v12.rk v13.rk GC.out).mono ?_;rintro ee w9b ⟨rfl,B⟩;clear xX5 xX6;replace X0:=X0.below B;replace X4:=X4.below B;replace X5:=X5.below B;replace X6:=X6.below B;replace hT:=hT.below B;replace hT2:=hT2.below B;replace HB:=Hqb HB B
 clear B
 go_upto_region 7 with (fail)
 have ltX0:=X0.lt;have ltX4:=X4.lt;have ltX5:=X5.lt;have ltX6:=X6.lt;refine Jo.rk [0,1,2,3,4,5,6,7,8,9,10,11,12,13,14] [some 35,some 36,some 37,some 38,some 39,some 40,some 41,some 42,some 43,some 44,some 45,some 46,some 47,some 48,some 49] [[],[0],[1],[2],[3],[3],[3,4,5],[3,6],[3,7],[8],[9],[9],[9,10,11],[9,12],[9,13]] 15 0 [Jo.qp w.heap.size 0,Jo.qi D0,Jo.qb false,Jo.qb false,Jo.q4 D0 s0 M0 E0,Jo.Fact.num (opl 1073741824),Jo.qi σ,Jo.qb true,Jo.qb true,Jo.qb true,Jo.qu,Jo.qu,Jo.qu,Jo.qu,Jo.qb true] (by kernel_rfl) (by kernel_rfl) (by decide) rfl ?_ ?_
 ·refine Jo.jm rfl ?_ ?_;rotate_left
  refine Jo.jm rfl ?_ ?_
  ·rintro wj hJ _ rfl K hK;simp only [Jo.z]at hK⊢;have xX00:=(X0.below hJ).a 0 (.int .i64 D0) rfl;go_simp;exact hK.out _ _ rfl (br _ _)
  refine Jo.jm rfl ?_ ?_
  ·rintro wj hJ _ rfl K hK;simp only [Jo.z]at hK⊢;have ht:=TD.out;go_simp
   exact hK.out _ _ (by first | rfl | (show Value.bool _=Value.bool _;first | (rw [ht];done) | (simp only [ht];done) | simp_all)) (br _ _)
  iterate 2 (refine Jo.jm rfl ?_ ?_;rotate_left)
  refine Jo.jm rfl ?_ ?_
  ·rintro wj hJ _ rfl K hK;simp only [Jo.z]at hK⊢;go_simp;refine (nOf (n:=1073741824) (r:=opl 1073741824) _ (by decide) (by decide) rfl).mono ?_;rintro ee wk ⟨K30,s30,M30,E30,rfl,q30,B⟩;exact hK.out _ _ ⟨K30,s30,M30,E30,rfl,q30⟩ B
  refine Jo.jm rfl ?_ ?_
  ·rintro wj hJ _ rfl _ rfl _ ⟨K30,s30,M30,E30,rfl,q30⟩ K hK;simp only [Jo.z]at hK⊢;go_simp;refine (nCmp (z:=σ) u0 q30.top (by rw [HX.out,q30.rk];exact HSG.out)).mono ?_;rintro ee wk ⟨rfl,B⟩;exact hK.out _ _ rfl B
  refine Jo.jm rfl ?_ ?_
  ·rintro wj hJ _ rfl _ rfl K hK;simp only [Jo.z]at hK⊢;have ht:=T1.out;go_simp
   exact hK.out _ _ (by first | rfl | (show Value.bool _=Value.bool _;first | (rw [ht];done) | (simp only [ht];done) | simp_all)) (br _ _)
  iterate 7 (refine Jo.jm rfl ?_ ?_;rotate_left)
  exact Jo.Steps.nil
  all_goals (rintro wj hJ;(repeat rintro _ rfl);intro K hK;simp only [Jo.z]at hK⊢;have xX0:=(X0.below hJ).cell;go_simp;exact hK.out _ _ rfl (br _ _))
 rintro wA hJ _ _ _ rfl _ rfl _ rfl _ rfl _ ⟨K30,s30,M30,E30,rfl,_⟩ _ rfl _ rfl _ rfl _ rfl _ rfl _ rfl _ rfl _ rfl _ rfl -;simp only [Jo.z];replace X0:=X0.below hJ;replace X4:=X4.below hJ;replace X5:=X5.below hJ;replace X6:=X6.below hJ;replace hT:=hT.below hJ;replace hT2:=hT2.below hJ;replace HB:=Hqb HB hJ;refine Jo.jdone (by kernel_rfl) ?_;go_wp2
 go_ret
 exact⟨rfl,HB.out⟩
set_option maxRecDepth 100000 in
theorem trigTight_lo (D0:Int)(s0:Bool)(M0 E0:Int)(w:World)(hT:Tab w)(hT2:Tb w)(w0:0≤M0)(u0:LQ M0)(x rs us rc uc:Int)(hx:rk D0 s0 M0 E0=x)(hs:Sv false x (some (rs,us)))(hc:Sv true x (some (rc,uc)))(gs:witI (some (rs,us)) unitI=true)(gc:witI (some (rc,uc)) unitI=true)(hd:D0≠2)(hx1:¬opl 1073741824≤x)(hx2:x≤opl (-1073741824)):
  Calls Tryz.prog 5 #[VQ D0 s0 M0 E0] w (PB w true):=by
 delta VQ
 have td:(D0==2)=false:=by simpa using hd
 obtain⟨σ,hσ⟩:∃σ,cmpI x (opl 1073741824)=σ:=⟨_,rfl⟩
 have t1:decide (0≤σ)=false:=by
  rw [←hσ,cmp_ge12 rfl];exact decide_eq_false hx1
 obtain⟨τ,hτ⟩:∃σ,cmpI x (opl (-1073741824))=σ:=⟨_,rfl⟩
 have t2:decide (τ≤0)=true:=by
  rw [←hτ,cmp_le12 rfl];exact decide_eq_true hx2
 have HX:=Lib.hid hx;have HS:=Lib.hid hs;have HC:=Lib.hid hc;have GS:=Lib.hid gs;have GC:=Lib.hid gc;have HSG:=Lib.hid hσ;have T1:=Lib.hid t1;have HTU:=Lib.hid hτ;have T2:=Lib.hid t2;have TD:=Lib.hid td;clear hx hs hc gs gc hσ t1 hτ t2 td;clear hd
 go_enter Tryz.func5,Tryz.ntmps5
 go_upto_region 1 with (fail)
 generalize hW1:w.alloc _=w1 at *;obtain⟨X0,HB⟩:=Bo.en1 hW1;replace hT:=hT.below HB.out;replace hT2:=hT2.below HB.out;clear hW1
 go_wp2_with fail
 refine (awake12 hT hT2).mono ?_;rintro ee w2 ⟨rfl,B⟩;replace X0:=X0.below B;replace hT:=hT.below B;replace hT2:=hT2.below B;replace HB:=Hqb HB B;clear B;have xX0:=X0.cell
 go_wp2_with fail
 refine (tSin hT w0 u0 HX.out HS.out).mono ?_;rintro ee w3 ⟨e11,K11,s11,M11,E11,K11b,s11b,M11b,E11b,rfl,v11,B⟩;clear xX0;replace X0:=X0.below B;replace hT:=hT.below B;replace hT2:=hT2.below B;replace HB:=Hqb HB B;clear B;have hsz11:=HB.out.size
 go_upto_region 3 with (fail)
 have lX4:=Nat.le_refl (World.heap w3).size;have nX4X0:=X0.lt;generalize hWn:w3.alloc _=w4 at *;obtain⟨X4,BW⟩:=Bo.nw hWn;clear hWn;replace X0:=X0.below BW;replace hT:=hT.below BW;replace hT2:=hT2.below BW;replace HB:=Hqb HB BW;clear BW;clear lX4
 obtain rfl:e11=false:=v11.1
 have xX0:=X0.cell
 go_wp2_with fail
 refine (tCos hT w0 u0 HX.out HC.out).mono ?_;rintro ee w5 ⟨e12,K12,s12,M12,E12,K12b,s12b,M12b,E12b,rfl,v12,B⟩;clear xX0;replace X0:=X0.below B;replace X4:=X4.below B;replace hT:=hT.below B;replace hT2:=hT2.below B;replace HB:=Hqb HB B;clear B;have hsz12:=HB.out.size
 go_upto_region 4 with (fail)
 have lX5:=Nat.le_refl (World.heap w5).size;have nX5X0:=X0.lt;have nX5X4:=X4.lt;generalize hWn:w5.alloc _=w6 at *;obtain⟨X5,BW⟩:=Bo.nw hWn;clear hWn;replace X0:=X0.below BW;replace X4:=X4.below BW;replace hT:=hT.below BW;replace hT2:=hT2.below BW;replace HB:=Hqb HB BW;clear BW;clear lX5
 obtain rfl:e12=false:=v12.1
 go_wp2_with fail
 refine (kvOf (a:= -1) (b:=1) (x:=unitI) (by decide) (by decide) (by decide) (by decide) rfl rfl rfl).mono ?_;rintro ee w7 ⟨e13,K13,s13,M13,E13,K13b,s13b,M13b,E13b,rfl,v13,B⟩;replace X0:=X0.below B;replace X4:=X4.below B;replace X5:=X5.below B;replace hT:=hT.below B;replace hT2:=hT2.below B;replace HB:=Hqb HB B;clear B;have hsz13:=HB.out.size
 go_upto_region 5 with (fail)
 have lX6:=Nat.le_refl (World.heap w7).size;have nX6X0:=X0.lt;have nX6X4:=X4.lt;have nX6X5:=X5.lt;generalize hWn:w7.alloc _=w8 at *;obtain⟨X6,BW⟩:=Bo.nw hWn;clear hWn;replace X0:=X0.below BW;replace X4:=X4.below BW;replace X5:=X5.below BW;replace hT:=hT.below BW;replace hT2:=hT2.below BW;replace HB:=Hqb HB BW;clear BW;clear lX6;have xX4:=X4.cell
 have xX5:=X5.cell;have xX6:=X6.cell
 go_wp2_with fail
 refine (kvWithin v11.top.1 v11.top.2 v13.top.1 v13.top.2 v11.rk v13.rk GS.out).mono ?_;rintro ee w9 ⟨rfl,B⟩;clear xX4 xX5 xX6;replace X0:=X0.below B;replace X4:=X4.below B;replace X5:=X5.below B;replace X6:=X6.below B;replace hT:=hT.below B;replace hT2:=hT2.below B
 replace HB:=Hqb HB B;clear B;have xX5:=X5.cell;have xX6:=X6.cell
 go_wp2_with fail
 refine (kvWithin v12.top.1 v12.top.2 v13.top.1 v13.top.2 v12.rk v13.rk GC.out).mono ?_;rintro ee w9b ⟨rfl,B⟩;clear xX5 xX6;replace X0:=X0.below B;replace X4:=X4.below B;replace X5:=X5.below B;replace X6:=X6.below B;replace hT:=hT.below B;replace hT2:=hT2.below B;replace HB:=Hqb HB B
 clear B
 go_upto_region 7 with (fail)
 have ltX0:=X0.lt;have ltX4:=X4.lt;have ltX5:=X5.lt;have ltX6:=X6.lt;refine Jo.rk [0,1,2,3,4,5,6,7,8,9,10,11,12,13,14] [some 35,some 36,some 37,some 38,some 39,some 40,some 41,some 42,some 43,some 44,some 45,some 46,some 47,some 48,some 49] [[],[0],[1],[2],[3],[3],[3,4,5],[3,6],[3,7],[8],[9],[9],[9,10,11],[9,12],[9,13]] 15 0 [Jo.qp w.heap.size 0,Jo.qi D0,Jo.qb false,Jo.qb false,Jo.q4 D0 s0 M0 E0,Jo.Fact.num (opl 1073741824),Jo.qi σ,Jo.qb false,Jo.qb false,Jo.qb false,Jo.q4 D0 s0 M0 E0,Jo.Fact.num (opl (-1073741824)),Jo.qi τ,Jo.qb true,Jo.qb true] (by kernel_rfl) (by kernel_rfl) (by decide) rfl ?_ ?_
 ·refine Jo.jm rfl ?_ ?_;rotate_left
  refine Jo.jm rfl ?_ ?_
  ·rintro wj hJ _ rfl K hK;simp only [Jo.z]at hK⊢;have xX00:=(X0.below hJ).a 0 (.int .i64 D0) rfl;go_simp;exact hK.out _ _ rfl (br _ _)
  refine Jo.jm rfl ?_ ?_
  ·rintro wj hJ _ rfl K hK;simp only [Jo.z]at hK⊢;have ht:=TD.out;go_simp
   exact hK.out _ _ (by first | rfl | (show Value.bool _=Value.bool _;first | (rw [ht];done) | (simp only [ht];done) | simp_all)) (br _ _)
  iterate 2 (refine Jo.jm rfl ?_ ?_;rotate_left)
  refine Jo.jm rfl ?_ ?_
  ·rintro wj hJ _ rfl K hK;simp only [Jo.z]at hK⊢;go_simp;refine (nOf (n:=1073741824) (r:=opl 1073741824) _ (by decide) (by decide) rfl).mono ?_;rintro ee wk ⟨K30,s30,M30,E30,rfl,q30,B⟩;exact hK.out _ _ ⟨K30,s30,M30,E30,rfl,q30⟩ B
  refine Jo.jm rfl ?_ ?_
  ·rintro wj hJ _ rfl _ rfl _ ⟨K30,s30,M30,E30,rfl,q30⟩ K hK;simp only [Jo.z]at hK⊢;go_simp;refine (nCmp (z:=σ) u0 q30.top (by rw [HX.out,q30.rk];exact HSG.out)).mono ?_;rintro ee wk ⟨rfl,B⟩;exact hK.out _ _ rfl B
  refine Jo.jm rfl ?_ ?_
  ·rintro wj hJ _ rfl _ rfl K hK;simp only [Jo.z]at hK⊢;have ht:=T1.out;go_simp
   exact hK.out _ _ (by first | rfl | (show Value.bool _=Value.bool _;first | (rw [ht];done) | (simp only [ht];done) | simp_all)) (br _ _)
  iterate 3 (refine Jo.jm rfl ?_ ?_;rotate_left)
  refine Jo.jm rfl ?_ ?_
  ·rintro wj hJ _ rfl K hK;simp only [Jo.z]at hK⊢;go_simp;refine (nOf (n:= -1073741824) (r:=opl (-1073741824)) _ (by decide) (by decide) rfl).mono ?_;rintro ee wk ⟨K31,s31,M31,E31,rfl,q31,B⟩;exact hK.out _ _ ⟨K31,s31,M31,E31,rfl,q31⟩ B
  refine Jo.jm rfl ?_ ?_
  ·rintro wj hJ _ rfl _ rfl _ ⟨K31,s31,M31,E31,rfl,q31⟩ K hK;simp only [Jo.z]at hK⊢;go_simp;refine (nCmp (z:=τ) u0 q31.top (by rw [HX.out,q31.rk];exact HTU.out)).mono ?_;rintro ee wk ⟨rfl,B⟩;exact hK.out _ _ rfl B
  refine Jo.jm rfl ?_ ?_
  ·rintro wj hJ _ rfl _ rfl K hK;simp only [Jo.z]at hK⊢;have ht:=T2.out;go_simp
   exact hK.out _ _ (by first | rfl | (show Value.bool _=Value.bool _;first | (rw [ht];done) | (simp only [ht];done) | simp_all)) (br _ _)
  refine Jo.jm rfl ?_ ?_;rotate_left
  exact Jo.Steps.nil
  all_goals (rintro wj hJ;(repeat rintro _ rfl);intro K hK;simp only [Jo.z]at hK⊢;have xX0:=(X0.below hJ).cell;go_simp;exact hK.out _ _ rfl (br _ _))
 rintro wA hJ _ _ _ rfl _ rfl _ rfl _ rfl _ ⟨K30,s30,M30,E30,rfl,_⟩ _ rfl _ rfl _ rfl _ rfl _ rfl _ ⟨K31,s31,M31,E31,rfl,_⟩ _ rfl _ rfl _ rfl -;simp only [Jo.z];replace X0:=X0.below hJ;replace X4:=X4.below hJ;replace X5:=X5.below hJ;replace X6:=X6.below hJ;replace hT:=hT.below hJ;replace hT2:=hT2.below hJ;replace HB:=Hqb HB hJ;refine Jo.jdone (by kernel_rfl) ?_
 go_wp2
 go_ret
 exact⟨rfl,HB.out⟩
set_option maxRecDepth 100000 in
theorem trigTight_in (D0:Int)(s0:Bool)(M0 E0:Int)(w:World)(hT:Tab w)(hT2:Tb w)(w0:0≤M0)(u0:LQ M0)(x rs us rc uc:Int)(hx:rk D0 s0 M0 E0=x)(hs:Sv false x (some (rs,us)))(hc:Sv true x (some (rc,uc)))(gs:witI (some (rs,us)) unitI=true)(gc:witI (some (rc,uc)) unitI=true)(hd:D0≠2)(hx1:¬opl 1073741824≤x)(hx2:¬x≤opl (-1073741824))(ws:widI (some (rs,us))≤p60)(wc:widI (some (rc,uc))≤p60):
  Calls Tryz.prog 5 #[VQ D0 s0 M0 E0] w (PB w true):=by
 delta VQ
 have td:(D0==2)=false:=by simpa using hd
 obtain⟨σ,hσ⟩:∃σ,cmpI x (opl 1073741824)=σ:=⟨_,rfl⟩
 have t1:decide (0≤σ)=false:=by
  rw [←hσ,cmp_ge12 rfl];exact decide_eq_false hx1
 obtain⟨τ,hτ⟩:∃σ,cmpI x (opl (-1073741824))=σ:=⟨_,rfl⟩
 have t2:decide (τ≤0)=false:=by
  rw [←hτ,cmp_le12 rfl];exact decide_eq_false hx2
 obtain⟨ks,hks⟩:∃σ,cmpI (widI (some (rs,us))) p60=σ:=⟨_,rfl⟩
 have gs2:decide (ks≤0)=true:=by
  rw [←hks,cmp_le12 rfl];exact decide_eq_true ws
 obtain⟨kc,hkc⟩:∃σ,cmpI (widI (some (rc,uc))) p60=σ:=⟨_,rfl⟩
 have gc2:decide (kc≤0)=true:=by
  rw [←hkc,cmp_le12 rfl];exact decide_eq_true wc
 have HX:=Lib.hid hx;have HS:=Lib.hid hs;have HC:=Lib.hid hc;have GS:=Lib.hid gs;have GC:=Lib.hid gc;have HSG:=Lib.hid hσ;have T1:=Lib.hid t1;have HTU:=Lib.hid hτ;have T2:=Lib.hid t2;have HKs:=Lib.hid hks;have Gs2:=Lib.hid gs2;have HKc:=Lib.hid hkc;have Gc2:=Lib.hid gc2;have TD:=Lib.hid td;clear hx hs hc gs gc hσ t1 hτ t2 hks gs2 hkc gc2 td;clear hd
 go_enter Tryz.func5,Tryz.ntmps5
 go_upto_region 1 with (fail)
 generalize hW1:w.alloc _=w1 at *;obtain⟨X0,HB⟩:=Bo.en1 hW1;replace hT:=hT.below HB.out;replace hT2:=hT2.below HB.out;clear hW1
 go_wp2_with fail
 refine (awake12 hT hT2).mono ?_;rintro ee w2 ⟨rfl,B⟩;replace X0:=X0.below B;replace hT:=hT.below B;replace hT2:=hT2.below B;replace HB:=Hqb HB B;clear B;have xX0:=X0.cell
 go_wp2_with fail
 refine (tSin hT w0 u0 HX.out HS.out).mono ?_;rintro ee w3 ⟨e11,K11,s11,M11,E11,K11b,s11b,M11b,E11b,rfl,v11,B⟩;clear xX0;replace X0:=X0.below B;replace hT:=hT.below B;replace hT2:=hT2.below B;replace HB:=Hqb HB B;clear B;have hsz11:=HB.out.size
 go_upto_region 3 with (fail)
 have lX4:=Nat.le_refl (World.heap w3).size;have nX4X0:=X0.lt;generalize hWn:w3.alloc _=w4 at *;obtain⟨X4,BW⟩:=Bo.nw hWn;clear hWn;replace X0:=X0.below BW;replace hT:=hT.below BW;replace hT2:=hT2.below BW;replace HB:=Hqb HB BW;clear BW;clear lX4
 obtain rfl:e11=false:=v11.1
 have xX0:=X0.cell
 go_wp2_with fail
 refine (tCos hT w0 u0 HX.out HC.out).mono ?_;rintro ee w5 ⟨e12,K12,s12,M12,E12,K12b,s12b,M12b,E12b,rfl,v12,B⟩;clear xX0;replace X0:=X0.below B;replace X4:=X4.below B;replace hT:=hT.below B;replace hT2:=hT2.below B;replace HB:=Hqb HB B;clear B;have hsz12:=HB.out.size
 go_upto_region 4 with (fail)
 have lX5:=Nat.le_refl (World.heap w5).size;have nX5X0:=X0.lt;have nX5X4:=X4.lt;generalize hWn:w5.alloc _=w6 at *;obtain⟨X5,BW⟩:=Bo.nw hWn;clear hWn;replace X0:=X0.below BW;replace X4:=X4.below BW;replace hT:=hT.below BW;replace hT2:=hT2.below BW;replace HB:=Hqb HB BW;clear BW;clear lX5
 obtain rfl:e12=false:=v12.1
 go_wp2_with fail
 refine (kvOf (a:= -1) (b:=1) (x:=unitI) (by decide) (by decide) (by decide) (by decide) rfl rfl rfl).mono ?_;rintro ee w7 ⟨e13,K13,s13,M13,E13,K13b,s13b,M13b,E13b,rfl,v13,B⟩;replace X0:=X0.below B;replace X4:=X4.below B;replace X5:=X5.below B;replace hT:=hT.below B;replace hT2:=hT2.below B;replace HB:=Hqb HB B;clear B;have hsz13:=HB.out.size
 go_upto_region 5 with (fail)
 have lX6:=Nat.le_refl (World.heap w7).size;have nX6X0:=X0.lt;have nX6X4:=X4.lt;have nX6X5:=X5.lt;generalize hWn:w7.alloc _=w8 at *;obtain⟨X6,BW⟩:=Bo.nw hWn;clear hWn;replace X0:=X0.below BW;replace X4:=X4.below BW;replace X5:=X5.below BW;replace hT:=hT.below BW;replace hT2:=hT2.below BW;replace HB:=Hqb HB BW;clear BW;clear lX6;have xX4:=X4.cell
 have xX5:=X5.cell;have xX6:=X6.cell
 go_wp2_with fail
 refine (kvWithin v11.top.1 v11.top.2 v13.top.1 v13.top.2 v11.rk v13.rk GS.out).mono ?_;rintro ee w9 ⟨rfl,B⟩;clear xX4 xX5 xX6;replace X0:=X0.below B;replace X4:=X4.below B;replace X5:=X5.below B;replace X6:=X6.below B;replace hT:=hT.below B;replace hT2:=hT2.below B
 replace HB:=Hqb HB B;clear B;have xX5:=X5.cell;have xX6:=X6.cell
 go_wp2_with fail
 refine (kvWithin v12.top.1 v12.top.2 v13.top.1 v13.top.2 v12.rk v13.rk GC.out).mono ?_;rintro ee w9b ⟨rfl,B⟩;clear xX5 xX6;replace X0:=X0.below B;replace X4:=X4.below B;replace X5:=X5.below B;replace X6:=X6.below B;replace hT:=hT.below B;replace hT2:=hT2.below B;replace HB:=Hqb HB B
 clear B
 go_upto_region 7 with (fail)
 have ltX0:=X0.lt;have ltX4:=X4.lt;have ltX5:=X5.lt;have ltX6:=X6.lt;refine Jo.rk [0,1,2,3,4,5,6,7,8,9,10,11,12,13,14] [some 35,some 36,some 37,some 38,some 39,some 40,some 41,some 42,some 43,some 44,some 45,some 46,some 47,some 48,some 49] [[],[0],[1],[2],[3],[3],[3,4,5],[3,6],[3,7],[8],[9],[9],[9,10,11],[9,12],[9,13]] 15 0 [Jo.qp w.heap.size 0,Jo.qi D0,Jo.qb false,Jo.qb false,Jo.q4 D0 s0 M0 E0,Jo.Fact.num (opl 1073741824),Jo.qi σ,Jo.qb false,Jo.qb false,Jo.qb false,Jo.q4 D0 s0 M0 E0,Jo.Fact.num (opl (-1073741824)),Jo.qi τ,Jo.qb false,Jo.qb false] (by kernel_rfl) (by kernel_rfl) (by decide) rfl ?_ ?_
 ·refine Jo.jm rfl ?_ ?_;rotate_left
  refine Jo.jm rfl ?_ ?_
  ·rintro wj hJ _ rfl K hK;simp only [Jo.z]at hK⊢;have xX00:=(X0.below hJ).a 0 (.int .i64 D0) rfl;go_simp;exact hK.out _ _ rfl (br _ _)
  refine Jo.jm rfl ?_ ?_
  ·rintro wj hJ _ rfl K hK;simp only [Jo.z]at hK⊢;have ht:=TD.out;go_simp
   exact hK.out _ _ (by first | rfl | (show Value.bool _=Value.bool _;first | (rw [ht];done) | (simp only [ht];done) | simp_all)) (br _ _)
  iterate 2 (refine Jo.jm rfl ?_ ?_;rotate_left)
  refine Jo.jm rfl ?_ ?_
  ·rintro wj hJ _ rfl K hK;simp only [Jo.z]at hK⊢;go_simp;refine (nOf (n:=1073741824) (r:=opl 1073741824) _ (by decide) (by decide) rfl).mono ?_;rintro ee wk ⟨K30,s30,M30,E30,rfl,q30,B⟩;exact hK.out _ _ ⟨K30,s30,M30,E30,rfl,q30⟩ B
  refine Jo.jm rfl ?_ ?_
  ·rintro wj hJ _ rfl _ rfl _ ⟨K30,s30,M30,E30,rfl,q30⟩ K hK;simp only [Jo.z]at hK⊢;go_simp;refine (nCmp (z:=σ) u0 q30.top (by rw [HX.out,q30.rk];exact HSG.out)).mono ?_;rintro ee wk ⟨rfl,B⟩;exact hK.out _ _ rfl B
  refine Jo.jm rfl ?_ ?_
  ·rintro wj hJ _ rfl _ rfl K hK;simp only [Jo.z]at hK⊢;have ht:=T1.out;go_simp
   exact hK.out _ _ (by first | rfl | (show Value.bool _=Value.bool _;first | (rw [ht];done) | (simp only [ht];done) | simp_all)) (br _ _)
  iterate 3 (refine Jo.jm rfl ?_ ?_;rotate_left)
  refine Jo.jm rfl ?_ ?_
  ·rintro wj hJ _ rfl K hK;simp only [Jo.z]at hK⊢;go_simp;refine (nOf (n:= -1073741824) (r:=opl (-1073741824)) _ (by decide) (by decide) rfl).mono ?_;rintro ee wk ⟨K31,s31,M31,E31,rfl,q31,B⟩;exact hK.out _ _ ⟨K31,s31,M31,E31,rfl,q31⟩ B
  refine Jo.jm rfl ?_ ?_
  ·rintro wj hJ _ rfl _ rfl _ ⟨K31,s31,M31,E31,rfl,q31⟩ K hK;simp only [Jo.z]at hK⊢;go_simp;refine (nCmp (z:=τ) u0 q31.top (by rw [HX.out,q31.rk];exact HTU.out)).mono ?_;rintro ee wk ⟨rfl,B⟩;exact hK.out _ _ rfl B
  refine Jo.jm rfl ?_ ?_
  ·rintro wj hJ _ rfl _ rfl K hK;simp only [Jo.z]at hK⊢;have ht:=T2.out;go_simp
   exact hK.out _ _ (by first | rfl | (show Value.bool _=Value.bool _;first | (rw [ht];done) | (simp only [ht];done) | simp_all)) (br _ _)
  refine Jo.jm rfl ?_ ?_;rotate_left
  exact Jo.Steps.nil
  all_goals (rintro wj hJ;(repeat rintro _ rfl);intro K hK;simp only [Jo.z]at hK⊢;have xX0:=(X0.below hJ).cell;go_simp;exact hK.out _ _ rfl (br _ _))
 rintro wA hJ _ _ _ rfl _ rfl _ rfl _ rfl _ ⟨K30,s30,M30,E30,rfl,_⟩ _ rfl _ rfl _ rfl _ rfl _ rfl _ ⟨K31,s31,M31,E31,rfl,_⟩ _ rfl _ rfl _ rfl -;simp only [Jo.z];replace X0:=X0.below hJ;replace X4:=X4.below hJ;replace X5:=X5.below hJ;replace X6:=X6.below hJ;replace hT:=hT.below hJ;replace hT2:=hT2.below hJ;replace HB:=Hqb HB hJ;refine Jo.jdone (by kernel_rfl) ?_
 go_upto_region 9 with (fail)
 have xX4:=X4.cell;have xX5:=X5.cell
 go_wp2_with fail
 refine (kvWidth hT2 v11.top.1 v11.top.2 v11.rk rfl).mono ?_;rintro ee wB ⟨K40,s40,M40,E40,rfl,q40,B⟩;clear xX4 xX5;replace X0:=X0.below B;replace X4:=X4.below B;replace X5:=X5.below B;replace X6:=X6.below B;replace hT:=hT.below B;replace hT2:=hT2.below B;replace HB:=Hqb HB B
 clear B
 go_wp2_with fail
 refine (tSmall).mono ?_;rintro ee wC ⟨K41,s41,M41,E41,rfl,q41,B⟩;replace X0:=X0.below B;replace X4:=X4.below B;replace X5:=X5.below B;replace X6:=X6.below B;replace hT:=hT.below B;replace hT2:=hT2.below B;replace HB:=Hqb HB B;clear B
 go_wp2_with fail
 refine (nCmp (z:=ks) q40.top q41.top (by rw [q40.rk,q41.rk];exact HKs.out)).mono ?_;rintro ee wD ⟨rfl,B⟩;replace X0:=X0.below B;replace X4:=X4.below B;replace X5:=X5.below B;replace X6:=X6.below B;replace hT:=hT.below B;replace hT2:=hT2.below B;replace HB:=Hqb HB B;clear B;have g1:=Gs2.out;have xX5:=X5.cell
 go_wp2_with fail
 refine (kvWidth hT2 v12.top.1 v12.top.2 v12.rk rfl).mono ?_;rintro ee wE ⟨K42,s42,M42,E42,rfl,q42,B⟩;clear xX5;replace X0:=X0.below B;replace X4:=X4.below B;replace X5:=X5.below B;replace X6:=X6.below B;replace hT:=hT.below B;replace hT2:=hT2.below B;replace HB:=Hqb HB B;clear B
 go_wp2_with fail
 refine (tSmall).mono ?_;rintro ee wF ⟨K43,s43,M43,E43,rfl,q43,B⟩;replace X0:=X0.below B;replace X4:=X4.below B;replace X5:=X5.below B;replace X6:=X6.below B;replace hT:=hT.below B;replace hT2:=hT2.below B;replace HB:=Hqb HB B;clear B
 go_wp2_with fail
 refine (nCmp (z:=kc) q42.top q43.top (by rw [q42.rk,q43.rk];exact HKc.out)).mono ?_;rintro ee wG ⟨rfl,B⟩;replace X0:=X0.below B;replace X4:=X4.below B;replace X5:=X5.below B;replace X6:=X6.below B;replace hT:=hT.below B;replace hT2:=hT2.below B;replace HB:=Hqb HB B;clear B;have g2:=Gc2.out;go_wp2
 go_ret
 exact⟨rfl,HB.out⟩
theorem trigTight_walk (D0:Int)(s0:Bool)(M0 E0:Int)(w:World)(hT:Tab w)(hT2:Tb w)(w0:0≤M0)(u0:LQ M0):
  Calls Tryz.prog 5 #[VQ D0 s0 M0 E0] w fun e w'=>e= .returned (.bool true)∧Below w.heap.size w w':=by
 delta VQ
 obtain⟨x,hx⟩:∃x,rk D0 s0 M0 E0=x:=⟨_,rfl⟩;obtain⟨Zs,hs⟩:=sv_ex false x;obtain⟨Zc,hc⟩:=sv_ex true x;have gs:=us_wit (sv_us hs);have gc:=us_wit (sv_us hc);obtain⟨rs,us,rfl⟩:=us_some (sv_us hs);obtain⟨rc,uc,rfl⟩:=us_some (sv_us hc)
 by_cases hd:D0=2
 ·exact trigTight_inf D0 s0 M0 E0 w hT hT2 w0 u0 x rs us rc uc hx hs hc gs gc hd
 ·by_cases hx1:opl 1073741824≤x
  ·exact trigTight_hi D0 s0 M0 E0 w hT hT2 w0 u0 x rs us rc uc hx hs hc gs gc hd hx1
  ·by_cases hx2:x≤opl (-1073741824)
   ·exact trigTight_lo D0 s0 M0 E0 w hT hT2 w0 u0 x rs us rc uc hx hs hc gs gc hd hx1 hx2
   ·have hf:fixB x=true:=decide_eq_true (by
     have e:opl (-1073741824)= -opl 1073741824:=rfl
     omega)
    exact trigTight_in D0 s0 M0 E0 w hT hT2 w0 u0 x rs us rc uc hx hs hc gs gc hd hx1 hx2 (sv_tight hf hs) (sv_tight hf hc)
end Go.Proofs.YtaadmpiphnfllaaGreatDoor
