/-
  The walk of TrigDoubles: for all arguments the call answers true, and nothing that was there has turned.
-/
import Derived.Test.YtaadmpiphnfllaaGreatDoorYAbk
import Derived.Test.YtaadmpiphnfllaaGreatDoorYAbo
namespace Go.Proofs.YtaadmpiphnfllaaGreatDoor
set_option maxHeartbeats 16000000
open Go.RowKit
set_option linter.unusedVariables false
set_option linter.unusedSimpArgs false
set_option maxRecDepth 100000
theorem cmp_gt12{x y c:Int}(h:cmpI x y=c):decide (0 < c)=decide (y < x):=by
 rw [←h]
 rcases cmpI_tri x y with⟨a,b⟩ | ⟨a,b⟩ | ⟨a,b⟩ <;> rw [b]
 ·rw [decide_eq_false (show ¬y < x by omega)];rfl
 ·rw [decide_eq_false (show ¬y < x by omega)];rfl
 ·rw [decide_eq_true (show y < x by omega)];rfl
theorem cmp_ls12{x y c:Int}(h:cmpI x y=c):decide (c < 0)=decide (x < y):=by
 rw [←h]
 rcases cmpI_tri x y with⟨a,b⟩ | ⟨a,b⟩ | ⟨a,b⟩ <;> rw [b]
 ·rw [decide_eq_true (show x < y by omega)];rfl
 ·rw [decide_eq_false (show ¬x < y by omega)];rfl
 ·rw [decide_eq_false (show ¬x < y by omega)];rfl
theorem okM (X Y:Sp)(hX:UnitS X)(hY:UnitS Y):SpOk (mulI (some (opl 2,opl 2)) (mulI X Y)):=by
 obtain⟨a,b⟩:=opl_pos (n:=2) (by decide) (by decide);have f:=mul_unit hX hY
 rcases h:mulI X Y with _ | ⟨c,d⟩
 ·exact trivial
 ·rw [h]at f;obtain⟨f1,f2,f3⟩:=f
  have T:FinI (some (opl 2,opl 2)):=⟨Int.le_refl _,by omega,by omega⟩
  have two:((vr (opl 2):Int):Rat)=2*BR:=by
   rw [opl_vr (by decide) (by decide),Rat.intCast_mul]
   rfl
  obtain⟨v,hv⟩:∃v:Rat,v*BR=((vr c:Int):Rat):=⟨((vr c:Int):Rat) /BR,Rat.div_mul_cancel (Rat.ne_of_gt br_pos)⟩
  exact (mul_R (v:=2) (w:=v) (x:=some (opl 2,opl 2)) (y:=some (c,d)) T (show FinI (some (c,d))from ⟨f1,f2,f3⟩) (Or.inr (by rw [two];exact Rat.le_refl)) (Or.inr (by rw [two];exact Rat.le_refl)) (Or.inr (by rw [hv];exact Rat.le_refl)) (Or.inr (by rw [hv];exact Rat.intCast_le_intCast.2 (vr_le f1)))).2.2
set_option maxRecDepth 100000 in
theorem trigDoubles_no (D0:Int)(s0:Bool)(M0 E0:Int)(w:World)(hT:Tab w)(hT2:Tb w)(w0:0≤M0)(u0:LQ M0)(x:Int)(hx:rk D0 s0 M0 E0=x)(hm:decide (MayQ D0 s0 M0 E0)=false):
  Calls Tryz.prog 8 #[VQ D0 s0 M0 E0] w (PB w true):=by
 delta VQ
 have HX:=Lib.hid hx;have HM:=Lib.hid hm;clear hx hm
 go_enter Tryz.func8,Tryz.ntmps8
 go_upto_region 1 with (fail)
 generalize hW1:w.alloc _=w1 at *;obtain⟨X0,HB⟩:=Bo.en1 hW1;replace hT:=hT.below HB.out;replace hT2:=hT2.below HB.out;clear hW1
 go_wp2_with fail
 refine (awake12 hT hT2).mono ?_;rintro ee w2 ⟨rfl,B⟩;replace X0:=X0.below B;replace hT:=hT.below B;replace hT2:=hT2.below B;replace HB:=Hqb HB B;clear B
 go_upto_region 2 with (fail)
 have ltX0:=X0.lt;refine Jo.rk [0,1,2,3,4,5,6,7,8,9,10,11,12,13,14,15,16,17,18,19] [some 9,some 10,some 11,some 12,some 13,some 14,some 15,some 16,some 17,some 18,some 19,some 20,some 21,some 22,some 23,some 24,some 25,some 26,some 27,some 28] [[],[0],[1],[2],[3],[3,4],[3,5],[3,6],[7],[8],[8],[8,9,10],[8,11],[8,12],[13],[14],[14],[14,15,16],[14,17],[14,18]] 20 0 [Jo.q4 D0 s0 M0 E0,Jo.qb false,Jo.qb true,Jo.qb true,Jo.qu,Jo.qu,Jo.qu,Jo.qb true,Jo.qb true,Jo.qu,Jo.qu,Jo.qu,Jo.qu,Jo.qb true,Jo.qb true,Jo.qu,Jo.qu,Jo.qu,Jo.qu,Jo.qb true] (by kernel_rfl) (by kernel_rfl) (by decide) rfl ?_ ?_
 ·refine Jo.jm rfl ?_ ?_;rotate_left
  refine Jo.jm rfl ?_ ?_
  ·rintro wj hJ _ rfl K hK;simp only [Jo.z]at hK⊢;go_simp;refine (nMay HM.out).mono ?_;rintro ee wk ⟨rfl,B⟩;exact hK.out _ _ rfl B
  iterate 18 (refine Jo.jm rfl ?_ ?_;rotate_left)
  exact Jo.Steps.nil
  all_goals (rintro wj hJ;(repeat rintro _ rfl);intro K hK;simp only [Jo.z]at hK⊢;have xX0:=(X0.below hJ).cell;go_simp;exact hK.out _ _ rfl (br _ _))
 rintro w3 hJ _ rfl _ rfl _ rfl _ rfl _ rfl _ rfl _ rfl _ rfl _ rfl _ rfl _ rfl _ rfl _ rfl _ rfl _ rfl _ rfl _ rfl _ rfl _ rfl _ rfl -;simp only [Jo.z];replace X0:=X0.below hJ;replace hT:=hT.below hJ;replace hT2:=hT2.below hJ;replace HB:=Hqb HB hJ;refine Jo.jdone (by kernel_rfl) ?_;go_wp2
 go_ret
 exact⟨rfl,HB.out⟩
set_option maxRecDepth 100000 in
theorem trigDoubles_inf (D0:Int)(s0:Bool)(M0 E0:Int)(w:World)(hT:Tab w)(hT2:Tb w)(w0:0≤M0)(u0:LQ M0)(x:Int)(hx:rk D0 s0 M0 E0=x)(hm:decide (MayQ D0 s0 M0 E0)=true)(hd:D0=2):
  Calls Tryz.prog 8 #[VQ D0 s0 M0 E0] w (PB w true):=by
 delta VQ
 have td:((D0:Int)==2)=true:=by rw [hd];rfl
 have HX:=Lib.hid hx;have HM:=Lib.hid hm;have TD:=Lib.hid td;clear hx hm td;clear hd
 go_enter Tryz.func8,Tryz.ntmps8
 go_upto_region 1 with (fail)
 generalize hW1:w.alloc _=w1 at *;obtain⟨X0,HB⟩:=Bo.en1 hW1;replace hT:=hT.below HB.out;replace hT2:=hT2.below HB.out;clear hW1
 go_wp2_with fail
 refine (awake12 hT hT2).mono ?_;rintro ee w2 ⟨rfl,B⟩;replace X0:=X0.below B;replace hT:=hT.below B;replace hT2:=hT2.below B;replace HB:=Hqb HB B;clear B
 go_upto_region 2 with (fail)
 have ltX0:=X0.lt;refine Jo.rk [0,1,2,3,4,5,6,7,8,9,10,11,12,13,14,15,16,17,18,19] [some 9,some 10,some 11,some 12,some 13,some 14,some 15,some 16,some 17,some 18,some 19,some 20,some 21,some 22,some 23,some 24,some 25,some 26,some 27,some 28] [[],[0],[1],[2],[3],[3,4],[3,5],[3,6],[7],[8],[8],[8,9,10],[8,11],[8,12],[13],[14],[14],[14,15,16],[14,17],[14,18]] 20 0 [Jo.q4 D0 s0 M0 E0,Jo.qb true,Jo.qb false,Jo.qb false,Jo.qp w.heap.size 0,Jo.qi D0,Jo.qb true,Jo.qb true,Jo.qb true,Jo.qu,Jo.qu,Jo.qu,Jo.qu,Jo.qb true,Jo.qb true,Jo.qu,Jo.qu,Jo.qu,Jo.qu,Jo.qb true] (by kernel_rfl) (by kernel_rfl) (by decide) rfl ?_ ?_
 ·refine Jo.jm rfl ?_ ?_;rotate_left
  refine Jo.jm rfl ?_ ?_
  ·rintro wj hJ _ rfl K hK;simp only [Jo.z]at hK⊢;go_simp;refine (nMay HM.out).mono ?_;rintro ee wk ⟨rfl,B⟩;exact hK.out _ _ rfl B
  iterate 3 (refine Jo.jm rfl ?_ ?_;rotate_left)
  refine Jo.jm rfl ?_ ?_
  ·rintro wj hJ _ rfl _ rfl K hK;simp only [Jo.z]at hK⊢;have xX00:=(X0.below hJ).a 0 (.int .i64 D0) rfl;go_simp;exact hK.out _ _ rfl (br _ _)
  refine Jo.jm rfl ?_ ?_
  ·rintro wj hJ _ rfl _ rfl K hK;simp only [Jo.z]at hK⊢;have ht:=TD.out;go_simp
   exact hK.out _ _ (by first | rfl | (show Value.bool _=Value.bool _;first | (rw [ht];done) | (simp only [ht];done) | simp_all)) (br _ _)
  iterate 13 (refine Jo.jm rfl ?_ ?_;rotate_left)
  exact Jo.Steps.nil
  all_goals (rintro wj hJ;(repeat rintro _ rfl);intro K hK;simp only [Jo.z]at hK⊢;have xX0:=(X0.below hJ).cell;go_simp;exact hK.out _ _ rfl (br _ _))
 rintro w3 hJ _ rfl _ rfl _ rfl _ rfl _ _ _ rfl _ rfl _ rfl _ rfl _ rfl _ rfl _ rfl _ rfl _ rfl _ rfl _ rfl _ rfl _ rfl _ rfl _ rfl -;simp only [Jo.z];replace X0:=X0.below hJ;replace hT:=hT.below hJ;replace hT2:=hT2.below hJ;replace HB:=Hqb HB hJ;refine Jo.jdone (by kernel_rfl) ?_;go_wp2
 go_ret
 exact⟨rfl,HB.out⟩
set_option maxRecDepth 100000 in
theorem trigDoubles_hi (D0:Int)(s0:Bool)(M0 E0:Int)(w:World)(hT:Tab w)(hT2:Tb w)(w0:0≤M0)(u0:LQ M0)(x:Int)(hx:rk D0 s0 M0 E0=x)(hm:decide (MayQ D0 s0 M0 E0)=true)(hd:D0≠2)(hx1:opl 1048576 < x):
  Calls Tryz.prog 8 #[VQ D0 s0 M0 E0] w (PB w true):=by
 delta VQ
 have td:((D0:Int)==2)=false:=by simpa using hd
 obtain⟨σ,hσ⟩:∃σ,cmpI x (opl 1048576)=σ:=⟨_,rfl⟩
 have t1:decide (0 < σ)=true:=by
  rw [←hσ,cmp_gt12 rfl];exact decide_eq_true hx1
 have HX:=Lib.hid hx;have HM:=Lib.hid hm;have TD:=Lib.hid td;have HSG:=Lib.hid hσ;have T1:=Lib.hid t1;clear hx hm td hσ t1;clear hd
 go_enter Tryz.func8,Tryz.ntmps8
 go_upto_region 1 with (fail)
 generalize hW1:w.alloc _=w1 at *;obtain⟨X0,HB⟩:=Bo.en1 hW1;replace hT:=hT.below HB.out;replace hT2:=hT2.below HB.out;clear hW1
 go_wp2_with fail
 refine (awake12 hT hT2).mono ?_;rintro ee w2 ⟨rfl,B⟩;replace X0:=X0.below B;replace hT:=hT.below B;replace hT2:=hT2.below B;replace HB:=Hqb HB B;clear B
 go_upto_region 2 with (fail)
 have ltX0:=X0.lt;refine Jo.rk [0,1,2,3,4,5,6,7,8,9,10,11,12,13,14,15,16,17,18,19] [some 9,some 10,some 11,some 12,some 13,some 14,some 15,some 16,some 17,some 18,some 19,some 20,some 21,some 22,some 23,some 24,some 25,some 26,some 27,some 28] [[],[0],[1],[2],[3],[3,4],[3,5],[3,6],[7],[8],[8],[8,9,10],[8,11],[8,12],[13],[14],[14],[14,15,16],[14,17],[14,18]] 20 0 [Jo.q4 D0 s0 M0 E0,Jo.qb true,Jo.qb false,Jo.qb false,Jo.qp w.heap.size 0,Jo.qi D0,Jo.qb false,Jo.qb false,Jo.qb false,Jo.q4 D0 s0 M0 E0,Jo.Fact.num (opl 1048576),Jo.qi σ,Jo.qb true,Jo.qb true,Jo.qb true,Jo.qu,Jo.qu,Jo.qu,Jo.qu,Jo.qb true] (by kernel_rfl) (by kernel_rfl) (by decide) rfl ?_ ?_
 ·refine Jo.jm rfl ?_ ?_;rotate_left
  refine Jo.jm rfl ?_ ?_
  ·rintro wj hJ _ rfl K hK;simp only [Jo.z]at hK⊢;go_simp;refine (nMay HM.out).mono ?_;rintro ee wk ⟨rfl,B⟩;exact hK.out _ _ rfl B
  iterate 3 (refine Jo.jm rfl ?_ ?_;rotate_left)
  refine Jo.jm rfl ?_ ?_
  ·rintro wj hJ _ rfl _ rfl K hK;simp only [Jo.z]at hK⊢;have xX00:=(X0.below hJ).a 0 (.int .i64 D0) rfl;go_simp;exact hK.out _ _ rfl (br _ _)
  refine Jo.jm rfl ?_ ?_
  ·rintro wj hJ _ rfl _ rfl K hK;simp only [Jo.z]at hK⊢;have ht:=TD.out;go_simp
   exact hK.out _ _ (by first | rfl | (show Value.bool _=Value.bool _;first | (rw [ht];done) | (simp only [ht];done) | simp_all)) (br _ _)
  iterate 3 (refine Jo.jm rfl ?_ ?_;rotate_left)
  refine Jo.jm rfl ?_ ?_
  ·rintro wj hJ _ rfl K hK;simp only [Jo.z]at hK⊢;go_simp;refine (nOf (n:=1048576) (r:=opl 1048576) _ (by decide) (by decide) rfl).mono ?_;rintro ee wk ⟨K30,s30,M30,E30,rfl,q30,B⟩;exact hK.out _ _ ⟨K30,s30,M30,E30,rfl,q30⟩ B
  refine Jo.jm rfl ?_ ?_
  ·rintro wj hJ _ rfl _ rfl _ ⟨K30,s30,M30,E30,rfl,q30⟩ K hK;simp only [Jo.z]at hK⊢;go_simp;refine (nCmp (z:=σ) u0 q30.top (by rw [HX.out,q30.rk];exact HSG.out)).mono ?_;rintro ee wk ⟨rfl,B⟩;exact hK.out _ _ rfl B
  refine Jo.jm rfl ?_ ?_
  ·rintro wj hJ _ rfl _ rfl K hK;simp only [Jo.z]at hK⊢;have ht:=T1.out;go_simp
   exact hK.out _ _ (by first | rfl | (show Value.bool _=Value.bool _;first | (rw [ht];done) | (simp only [ht];done) | simp_all)) (br _ _)
  iterate 7 (refine Jo.jm rfl ?_ ?_;rotate_left)
  exact Jo.Steps.nil
  all_goals (rintro wj hJ;(repeat rintro _ rfl);intro K hK;simp only [Jo.z]at hK⊢;have xX0:=(X0.below hJ).cell;go_simp;exact hK.out _ _ rfl (br _ _))
 rintro w3 hJ _ rfl _ rfl _ rfl _ rfl _ _ _ rfl _ rfl _ rfl _ rfl _ rfl _ ⟨K30,s30,M30,E30,rfl,_⟩ _ rfl _ rfl _ rfl _ rfl _ rfl _ rfl _ rfl _ rfl _ rfl -;simp only [Jo.z];replace X0:=X0.below hJ;replace hT:=hT.below hJ;replace hT2:=hT2.below hJ;replace HB:=Hqb HB hJ;refine Jo.jdone (by kernel_rfl) ?_;go_wp2
 go_ret
 exact⟨rfl,HB.out⟩
set_option maxRecDepth 100000 in
theorem trigDoubles_lo (D0:Int)(s0:Bool)(M0 E0:Int)(w:World)(hT:Tab w)(hT2:Tb w)(w0:0≤M0)(u0:LQ M0)(x:Int)(hx:rk D0 s0 M0 E0=x)(hm:decide (MayQ D0 s0 M0 E0)=true)(hd:D0≠2)(hx1:¬opl 1048576 < x)(hx2:x < opl (-1048576)):
  Calls Tryz.prog 8 #[VQ D0 s0 M0 E0] w (PB w true):=by
 delta VQ
 have td:((D0:Int)==2)=false:=by simpa using hd
 obtain⟨σ,hσ⟩:∃σ,cmpI x (opl 1048576)=σ:=⟨_,rfl⟩
 have t1:decide (0 < σ)=false:=by
  rw [←hσ,cmp_gt12 rfl];exact decide_eq_false hx1
 obtain⟨τ,hτ⟩:∃σ,cmpI x (opl (-1048576))=σ:=⟨_,rfl⟩
 have t2:decide (τ < 0)=true:=by
  rw [←hτ,cmp_ls12 rfl];exact decide_eq_true hx2
 have HX:=Lib.hid hx;have HM:=Lib.hid hm;have TD:=Lib.hid td;have HSG:=Lib.hid hσ;have T1:=Lib.hid t1;have HTU:=Lib.hid hτ;have T2:=Lib.hid t2;clear hx hm td hσ t1 hτ t2;clear hd
 go_enter Tryz.func8,Tryz.ntmps8
 go_upto_region 1 with (fail)
 generalize hW1:w.alloc _=w1 at *;obtain⟨X0,HB⟩:=Bo.en1 hW1;replace hT:=hT.below HB.out;replace hT2:=hT2.below HB.out;clear hW1
 go_wp2_with fail
 refine (awake12 hT hT2).mono ?_;rintro ee w2 ⟨rfl,B⟩;replace X0:=X0.below B;replace hT:=hT.below B;replace hT2:=hT2.below B;replace HB:=Hqb HB B;clear B
 go_upto_region 2 with (fail)
 have ltX0:=X0.lt;refine Jo.rk [0,1,2,3,4,5,6,7,8,9,10,11,12,13,14,15,16,17,18,19] [some 9,some 10,some 11,some 12,some 13,some 14,some 15,some 16,some 17,some 18,some 19,some 20,some 21,some 22,some 23,some 24,some 25,some 26,some 27,some 28] [[],[0],[1],[2],[3],[3,4],[3,5],[3,6],[7],[8],[8],[8,9,10],[8,11],[8,12],[13],[14],[14],[14,15,16],[14,17],[14,18]] 20 0 [Jo.q4 D0 s0 M0 E0,Jo.qb true,Jo.qb false,Jo.qb false,Jo.qp w.heap.size 0,Jo.qi D0,Jo.qb false,Jo.qb false,Jo.qb false,Jo.q4 D0 s0 M0 E0,Jo.Fact.num (opl 1048576),Jo.qi σ,Jo.qb false,Jo.qb false,Jo.qb false,Jo.q4 D0 s0 M0 E0,Jo.Fact.num (opl (-1048576)),Jo.qi τ,Jo.qb true,Jo.qb true] (by kernel_rfl) (by kernel_rfl) (by decide) rfl ?_ ?_
 ·refine Jo.jm rfl ?_ ?_;rotate_left
  refine Jo.jm rfl ?_ ?_
  ·rintro wj hJ _ rfl K hK;simp only [Jo.z]at hK⊢;go_simp;refine (nMay HM.out).mono ?_;rintro ee wk ⟨rfl,B⟩;exact hK.out _ _ rfl B
  iterate 3 (refine Jo.jm rfl ?_ ?_;rotate_left)
  refine Jo.jm rfl ?_ ?_
  ·rintro wj hJ _ rfl _ rfl K hK;simp only [Jo.z]at hK⊢;have xX00:=(X0.below hJ).a 0 (.int .i64 D0) rfl;go_simp;exact hK.out _ _ rfl (br _ _)
  refine Jo.jm rfl ?_ ?_
  ·rintro wj hJ _ rfl _ rfl K hK;simp only [Jo.z]at hK⊢;have ht:=TD.out;go_simp
   exact hK.out _ _ (by first | rfl | (show Value.bool _=Value.bool _;first | (rw [ht];done) | (simp only [ht];done) | simp_all)) (br _ _)
  iterate 3 (refine Jo.jm rfl ?_ ?_;rotate_left)
  refine Jo.jm rfl ?_ ?_
  ·rintro wj hJ _ rfl K hK;simp only [Jo.z]at hK⊢;go_simp;refine (nOf (n:=1048576) (r:=opl 1048576) _ (by decide) (by decide) rfl).mono ?_;rintro ee wk ⟨K30,s30,M30,E30,rfl,q30,B⟩;exact hK.out _ _ ⟨K30,s30,M30,E30,rfl,q30⟩ B
  refine Jo.jm rfl ?_ ?_
  ·rintro wj hJ _ rfl _ rfl _ ⟨K30,s30,M30,E30,rfl,q30⟩ K hK;simp only [Jo.z]at hK⊢;go_simp;refine (nCmp (z:=σ) u0 q30.top (by rw [HX.out,q30.rk];exact HSG.out)).mono ?_;rintro ee wk ⟨rfl,B⟩;exact hK.out _ _ rfl B
  refine Jo.jm rfl ?_ ?_
  ·rintro wj hJ _ rfl _ rfl K hK;simp only [Jo.z]at hK⊢;have ht:=T1.out;go_simp
   exact hK.out _ _ (by first | rfl | (show Value.bool _=Value.bool _;first | (rw [ht];done) | (simp only [ht];done) | simp_all)) (br _ _)
  iterate 3 (refine Jo.jm rfl ?_ ?_;rotate_left)
  refine Jo.jm rfl ?_ ?_
  ·rintro wj hJ _ rfl K hK;simp only [Jo.z]at hK⊢;go_simp;refine (nOf (n:= -1048576) (r:=opl (-1048576)) _ (by decide) (by decide) rfl).mono ?_;rintro ee wk ⟨K31,s31,M31,E31,rfl,q31,B⟩;exact hK.out _ _ ⟨K31,s31,M31,E31,rfl,q31⟩ B
  refine Jo.jm rfl ?_ ?_
  ·rintro wj hJ _ rfl _ rfl _ ⟨K31,s31,M31,E31,rfl,q31⟩ K hK;simp only [Jo.z]at hK⊢;go_simp;refine (nCmp (z:=τ) u0 q31.top (by rw [HX.out,q31.rk];exact HTU.out)).mono ?_;rintro ee wk ⟨rfl,B⟩;exact hK.out _ _ rfl B
  refine Jo.jm rfl ?_ ?_
  ·rintro wj hJ _ rfl _ rfl K hK;simp only [Jo.z]at hK⊢;have ht:=T2.out;go_simp
   exact hK.out _ _ (by first | rfl | (show Value.bool _=Value.bool _;first | (rw [ht];done) | (simp only [ht];done) | simp_all)) (br _ _)
  refine Jo.jm rfl ?_ ?_;rotate_left
  exact Jo.Steps.nil
  all_goals (rintro wj hJ;(repeat rintro _ rfl);intro K hK;simp only [Jo.z]at hK⊢;have xX0:=(X0.below hJ).cell;go_simp;exact hK.out _ _ rfl (br _ _))
 rintro w3 hJ _ rfl _ rfl _ rfl _ rfl _ _ _ rfl _ rfl _ rfl _ rfl _ rfl _ ⟨K30,s30,M30,E30,rfl,_⟩ _ rfl _ rfl _ rfl _ rfl _ rfl _ ⟨K31,s31,M31,E31,rfl,_⟩ _ rfl _ rfl _ rfl -;simp only [Jo.z];replace X0:=X0.below hJ;replace hT:=hT.below hJ;replace hT2:=hT2.below hJ;replace HB:=Hqb HB hJ;refine Jo.jdone (by kernel_rfl) ?_;go_wp2
 go_ret
 exact⟨rfl,HB.out⟩
set_option maxRecDepth 100000 in
theorem trigDoubles_zero (D0:Int)(s0:Bool)(M0 E0:Int)(w:World)(hT:Tab w)(hT2:Tb w)(w0:0≤M0)(u0:LQ M0)(x:Int)(hx:rk D0 s0 M0 E0=x)(hm:decide (MayQ D0 s0 M0 E0)=true)(hx1:¬opl 1048576 < x)(hx2:¬x < opl (-1048576))(y a b:Int)(Zs Zc Zd:Sp)(hs:Sv false x Zs)(hc:Sv true x Zc)(hd:Sv false y Zd)(h1:meetL [mulI (some (opl 2,opl 2)) (mulI Zs Zc),Zd]=some (a,b))(h0:D0=0)(hy:rk D0 s0 M0 E0=y):
  Calls Tryz.prog 8 #[VQ D0 s0 M0 E0] w (PB w true):=by
 delta VQ
 subst h0
 have td:((0:Int)==2)=false:=by decide
 obtain⟨σ,hσ⟩:∃σ,cmpI x (opl 1048576)=σ:=⟨_,rfl⟩
 have t1:decide (0 < σ)=false:=by
  rw [←hσ,cmp_gt12 rfl];exact decide_eq_false hx1
 obtain⟨τ,hτ⟩:∃σ,cmpI x (opl (-1048576))=σ:=⟨_,rfl⟩
 have t2:decide (τ < 0)=false:=by
  rw [←hτ,cmp_ls12 rfl];exact decide_eq_false hx2
 have HX:=Lib.hid hx;have HM:=Lib.hid hm;have TD:=Lib.hid td;have HSG:=Lib.hid hσ;have T1:=Lib.hid t1;have HTU:=Lib.hid hτ;have T2:=Lib.hid t2;have HS:=Lib.hid hs;have HC:=Lib.hid hc;have HD:=Lib.hid hd;have H1:=Lib.hid h1;have HY:=Lib.hid hy;clear hx hm td hσ t1 hτ t2 hs hc hd h1 hy
 go_enter Tryz.func8,Tryz.ntmps8
 go_upto_region 1 with (fail)
 generalize hW1:w.alloc _=w1 at *;obtain⟨X0,HB⟩:=Bo.en1 hW1;replace hT:=hT.below HB.out;replace hT2:=hT2.below HB.out;clear hW1
 go_wp2_with fail
 refine (awake12 hT hT2).mono ?_;rintro ee w2 ⟨rfl,B⟩;replace X0:=X0.below B;replace hT:=hT.below B;replace hT2:=hT2.below B;replace HB:=Hqb HB B;clear B
 go_upto_region 2 with (fail)
 have ltX0:=X0.lt;refine Jo.rk [0,1,2,3,4,5,6,7,8,9,10,11,12,13,14,15,16,17,18,19] [some 9,some 10,some 11,some 12,some 13,some 14,some 15,some 16,some 17,some 18,some 19,some 20,some 21,some 22,some 23,some 24,some 25,some 26,some 27,some 28] [[],[0],[1],[2],[3],[3,4],[3,5],[3,6],[7],[8],[8],[8,9,10],[8,11],[8,12],[13],[14],[14],[14,15,16],[14,17],[14,18]] 20 0 [Jo.q4 0 s0 M0 E0,Jo.qb true,Jo.qb false,Jo.qb false,Jo.qp w.heap.size 0,Jo.qi 0,Jo.qb false,Jo.qb false,Jo.qb false,Jo.q4 0 s0 M0 E0,Jo.Fact.num (opl 1048576),Jo.qi σ,Jo.qb false,Jo.qb false,Jo.qb false,Jo.q4 0 s0 M0 E0,Jo.Fact.num (opl (-1048576)),Jo.qi τ,Jo.qb false,Jo.qb false] (by kernel_rfl) (by kernel_rfl) (by decide) rfl ?_ ?_
 ·refine Jo.jm rfl ?_ ?_;rotate_left
  refine Jo.jm rfl ?_ ?_
  ·rintro wj hJ _ rfl K hK;simp only [Jo.z]at hK⊢;go_simp;refine (nMay HM.out).mono ?_;rintro ee wk ⟨rfl,B⟩;exact hK.out _ _ rfl B
  iterate 3 (refine Jo.jm rfl ?_ ?_;rotate_left)
  refine Jo.jm rfl ?_ ?_
  ·rintro wj hJ _ rfl _ rfl K hK;simp only [Jo.z]at hK⊢;have xX00:=(X0.below hJ).a 0 (.int .i64 0) rfl;go_simp;exact hK.out _ _ rfl (br _ _)
  refine Jo.jm rfl ?_ ?_
  ·rintro wj hJ _ rfl _ rfl K hK;simp only [Jo.z]at hK⊢;have ht:=TD.out;go_simp
   exact hK.out _ _ (by first | rfl | (show Value.bool _=Value.bool _;first | (rw [ht];done) | (simp only [ht];done) | simp_all)) (br _ _)
  iterate 3 (refine Jo.jm rfl ?_ ?_;rotate_left)
  refine Jo.jm rfl ?_ ?_
  ·rintro wj hJ _ rfl K hK;simp only [Jo.z]at hK⊢;go_simp;refine (nOf (n:=1048576) (r:=opl 1048576) _ (by decide) (by decide) rfl).mono ?_;rintro ee wk ⟨K30,s30,M30,E30,rfl,q30,B⟩;exact hK.out _ _ ⟨K30,s30,M30,E30,rfl,q30⟩ B
  refine Jo.jm rfl ?_ ?_
  ·rintro wj hJ _ rfl _ rfl _ ⟨K30,s30,M30,E30,rfl,q30⟩ K hK;simp only [Jo.z]at hK⊢;go_simp;refine (nCmp (z:=σ) u0 q30.top (by rw [HX.out,q30.rk];exact HSG.out)).mono ?_;rintro ee wk ⟨rfl,B⟩;exact hK.out _ _ rfl B
  refine Jo.jm rfl ?_ ?_
  ·rintro wj hJ _ rfl _ rfl K hK;simp only [Jo.z]at hK⊢;have ht:=T1.out;go_simp
   exact hK.out _ _ (by first | rfl | (show Value.bool _=Value.bool _;first | (rw [ht];done) | (simp only [ht];done) | simp_all)) (br _ _)
  iterate 3 (refine Jo.jm rfl ?_ ?_;rotate_left)
  refine Jo.jm rfl ?_ ?_
  ·rintro wj hJ _ rfl K hK;simp only [Jo.z]at hK⊢;go_simp;refine (nOf (n:= -1048576) (r:=opl (-1048576)) _ (by decide) (by decide) rfl).mono ?_;rintro ee wk ⟨K31,s31,M31,E31,rfl,q31,B⟩;exact hK.out _ _ ⟨K31,s31,M31,E31,rfl,q31⟩ B
  refine Jo.jm rfl ?_ ?_
  ·rintro wj hJ _ rfl _ rfl _ ⟨K31,s31,M31,E31,rfl,q31⟩ K hK;simp only [Jo.z]at hK⊢;go_simp;refine (nCmp (z:=τ) u0 q31.top (by rw [HX.out,q31.rk];exact HTU.out)).mono ?_;rintro ee wk ⟨rfl,B⟩;exact hK.out _ _ rfl B
  refine Jo.jm rfl ?_ ?_
  ·rintro wj hJ _ rfl _ rfl K hK;simp only [Jo.z]at hK⊢;have ht:=T2.out;go_simp
   exact hK.out _ _ (by first | rfl | (show Value.bool _=Value.bool _;first | (rw [ht];done) | (simp only [ht];done) | simp_all)) (br _ _)
  refine Jo.jm rfl ?_ ?_;rotate_left
  exact Jo.Steps.nil
  all_goals (rintro wj hJ;(repeat rintro _ rfl);intro K hK;simp only [Jo.z]at hK⊢;have xX0:=(X0.below hJ).cell;go_simp;exact hK.out _ _ rfl (br _ _))
 rintro w3 hJ _ rfl _ rfl _ rfl _ rfl _ _ _ rfl _ rfl _ rfl _ rfl _ rfl _ ⟨K30,s30,M30,E30,rfl,_⟩ _ rfl _ rfl _ rfl _ rfl _ rfl _ ⟨K31,s31,M31,E31,rfl,_⟩ _ rfl _ rfl _ rfl -;simp only [Jo.z];replace X0:=X0.below hJ;replace hT:=hT.below hJ;replace hT2:=hT2.below hJ;replace HB:=Hqb HB hJ;refine Jo.jdone (by kernel_rfl) ?_;have xX0:=X0.cell
 go_upto_region 5 with (fail)
 clear xX0;have lX4:=Nat.le_refl (World.heap w3).size;have nX4X0:=X0.lt;generalize hWn:w3.alloc _=w4 at *;obtain⟨X4,BW⟩:=Bo.nw hWn;clear hWn;replace X0:=X0.below BW;replace hT:=hT.below BW;replace hT2:=hT2.below BW;replace HB:=Hqb HB BW;clear BW;clear lX4;have xX0:=X0.cell
 go_upto_region 7 with (fail)
 clear xX0
 go_wp2_with fail
 refine (nOf (n:=2) (r:=opl 2) _ (by decide) (by decide) rfl).mono ?_;rintro ee w6 ⟨K10,s10,M10,E10,rfl,q10,B⟩;replace X0:=X0.below B;replace X4:=X4.below B;replace hT:=hT.below B;replace hT2:=hT2.below B;replace HB:=Hqb HB B;clear B
 go_wp2_with fail
 refine (kvPoint q10.top q10.rk two_pt).mono ?_;rintro ee w7 ⟨e11,K11,s11,M11,E11,K11b,s11b,M11b,E11b,rfl,v11,B⟩;replace X0:=X0.below B;replace X4:=X4.below B;replace hT:=hT.below B;replace hT2:=hT2.below B;replace HB:=Hqb HB B;clear B
 go_upto_region 8 with (fail)
 have lX5:=Nat.le_refl (World.heap w7).size;have nX5X0:=X0.lt;have nX5X4:=X4.lt;generalize hWn:w7.alloc _=w8 at *;obtain⟨X5,BW⟩:=Bo.nw hWn;clear hWn;replace X0:=X0.below BW;replace X4:=X4.below BW;replace hT:=hT.below BW;replace hT2:=hT2.below BW;replace HB:=Hqb HB BW;clear BW;clear lX5;have ltX0:=X0.lt;have ltX4:=X4.lt;have ltX5:=X5.lt;refine Jo.rk [0,1,2,3,4,5,6,7] [some 40,some 41,some 42,some 43,some 44,some 45,some 46,some 6,none] [[],[],[1],[],[3],[2,4],[0,5],[],[]] 9 1 [Jo.q9 e11 K11 s11 M11 E11 K11b s11b M11b E11b,Jo.q4 0 s0 M0 E0,Jo.Fact.iv Zs,Jo.q4 0 s0 M0 E0,Jo.Fact.iv Zc,Jo.Fact.iv (mulI Zs Zc),Jo.Fact.iv (mulI (some (opl 2,opl 2)) (mulI Zs Zc)),Jo.Fact.bo w8.heap.size #[.bool false,.int .i64 0,.bool false,.int .u64 0,.int .i64 0,.int .i64 0,.bool false,.int .u64 0,.int .i64 0] 32,Jo.Fact.any] (by kernel_rfl) (by kernel_rfl) (by decide) rfl ?_ ?_
 ·iterate 2 (refine Jo.jm rfl ?_ ?_;rotate_left)
  refine Jo.jm rfl ?_ ?_
  ·rintro wj hJ _ rfl K hK;simp only [Jo.z]at hK⊢;go_simp;refine (tSin (hT.below hJ) w0 u0 HX.out HS.out).mono ?_;rintro ee wk ⟨e30,K30,s30,M30,E30,K30b,s30b,M30b,E30b,rfl,v30,B⟩;exact hK.out _ _ ⟨e30,K30,s30,M30,E30,K30b,s30b,M30b,E30b,rfl,v30⟩ B
  refine Jo.jm rfl ?_ ?_;rotate_left
  refine Jo.jm rfl ?_ ?_
  ·rintro wj hJ _ rfl K hK;simp only [Jo.z]at hK⊢;go_simp;refine (tCos (hT.below hJ) w0 u0 HX.out HC.out).mono ?_;rintro ee wk ⟨e31,K31,s31,M31,E31,K31b,s31b,M31b,E31b,rfl,v31,B⟩;exact hK.out _ _ ⟨e31,K31,s31,M31,E31,K31b,s31b,M31b,E31b,rfl,v31⟩ B
  refine Jo.jm rfl ?_ ?_
  ·rintro wj hJ _ ⟨e30,K30,s30,M30,E30,K30b,s30b,M30b,E30b,rfl,v30⟩ _ ⟨e31,K31,s31,M31,E31,K31b,s31b,M31b,E31b,rfl,v31⟩ K hK;simp only [Jo.z]at hK⊢;go_simp;refine (fkMul v30.top.1 v30.top.2 v31.top.1 v31.top.2 v30.rk v31.rk rfl).mono ?_;rintro ee wk ⟨e32,K32,s32,M32,E32,K32b,s32b,M32b,E32b,rfl,v32,B⟩;exact hK.out _ _ ⟨e32,K32,s32,M32,E32,K32b,s32b,M32b,E32b,rfl,v32⟩ B
  refine Jo.jm rfl ?_ ?_
  ·rintro wj hJ _ rfl _ ⟨e32,K32,s32,M32,E32,K32b,s32b,M32b,E32b,rfl,v32⟩ K hK;simp only [Jo.z]at hK⊢;go_simp;refine (fkMul v11.top.1 v11.top.2 v32.top.1 v32.top.2 v11.rk v32.rk rfl).mono ?_;rintro ee wk ⟨e33,K33,s33,M33,E33,K33b,s33b,M33b,E33b,rfl,v33,B⟩;exact hK.out _ _ ⟨e33,K33,s33,M33,E33,K33b,s33b,M33b,E33b,rfl,v33⟩ B
  refine Jo.jm rfl ?_ ?_
  ·rintro wj hJ K hK;simp only [Jo.z]at hK⊢;go_simp;exact hK.out _ _ ⟨_,rfl,hJ.size,Bo.new _ _ _⟩ (bel1 _ _)
  exact Jo.Steps.nil
  all_goals (rintro wj hJ;(repeat rintro _ rfl);intro K hK;simp only [Jo.z]at hK⊢;have xX5:=(X5.below hJ).cell;have xX0:=(X0.below hJ).cell;go_simp;exact hK.out _ _ rfl (br _ _))
 rintro w9 hJ _ rfl _ rfl _ ⟨e30,K30,s30,M30,E30,K30b,s30b,M30b,E30b,rfl,v30⟩ _ rfl _ ⟨e31,K31,s31,M31,E31,K31b,s31b,M31b,E31b,rfl,v31⟩ _ ⟨e32,K32,s32,M32,E32,K32b,s32b,M32b,E32b,rfl,v32⟩ _ ⟨e33,K33,s33,M33,E33,K33b,s33b,M33b,E33b,rfl,v33⟩ _ ⟨g40,rfl,hg40,X40⟩ -;simp only [Jo.z];replace X0:=X0.below hJ;replace X4:=X4.below hJ;replace X5:=X5.below hJ
 replace hT:=hT.below hJ;replace hT2:=hT2.below hJ;replace HB:=Hqb HB hJ;have xX40:=X40.cell;have zX400:=X40.frozen
 refine Jo.jnext (i:=8) (o:=⟨none,_,_,_,_,_⟩) (by kernel_rfl) rfl (fun K hK=>?_)
 go_simp;refine hK.out _ _ ?_;clear hK K xX40 zX400;generalize hS:((((((((w9.setCell _ _).setCell _ _).setCell _ _).setCell _ _).setCell _ _).setCell _ _).setCell _ _).setCell _ _).setCell _ _=wA at *;have SX:=StN.of9 X40 hS;replace X0:=X0.stn SX (by omega);replace X4:=X4.stn SX (by omega);replace X5:=X5.stn SX (by omega);replace hT:=hT.stn SX (by simp [no8])
 replace hT2:=hT2.stn SX (by simp [no8]);replace HB:=Hqs HB SX (by omega);replace X40:=SX.box;clear SX hS;refine Jo.jdone (by kernel_rfl) ?_;clear v30 v31 v32 v11
 go_upto_region 9 with (fail)
 have ltX0:=X0.lt;have ltX4:=X4.lt;have ltX5:=X5.lt;have ltX40:=X40.lt;refine Jo.rk [0,1,2,3,4,5] [some 47,some 48,some 49,some 50,some 51,some 7,none] [[],[],[1],[0,2],[3],[],[]] 7 1 [Jo.q9 e33 K33 s33 M33 E33 K33b s33b M33b E33b,Jo.q4 0 s0 M0 E0,Jo.Fact.iv Zd,Jo.Fact.il8 2 [(mulI (some (opl 2,opl 2)) (mulI Zs Zc)),Zd],Jo.Fact.iv (some (a,b)),Jo.Fact.bo wA.heap.size #[.bool false,.int .i64 0,.bool false,.int .u64 0,.int .i64 0,.int .i64 0,.bool false,.int .u64 0,.int .i64 0] 32,Jo.Fact.any] (by kernel_rfl) (by kernel_rfl) (by decide) rfl ?_ ?_
 ·iterate 2 (refine Jo.jm rfl ?_ ?_;rotate_left)
  refine Jo.jm rfl ?_ ?_
  ·rintro wj hJ _ rfl K hK;simp only [Jo.z]at hK⊢;go_simp;refine (tSin (hT.below hJ) w0 u0 HY.out HD.out).mono ?_;rintro ee wk ⟨e50,K50,s50,M50,E50,K50b,s50b,M50b,E50b,rfl,v50,B⟩;exact hK.out _ _ ⟨e50,K50,s50,M50,E50,K50b,s50b,M50b,E50b,rfl,v50⟩ B
  refine Jo.jm rfl ?_ ?_
  ·rintro wj hJ _ rfl _ ⟨e50,K50,s50,M50,E50,K50b,s50b,M50b,E50b,rfl,v50⟩ K hK;simp only [Jo.z]at hK⊢;go_simp;exact hK.out _ _ ⟨_,2,rfl,Il8.lit2 rfl v33.rw v50.rw⟩ (bel1 _ _)
  refine Jo.jm rfl ?_ ?_
  ·rintro wj hJ _ ⟨A55,c55,rfl,h55⟩ K hK;simp only [Jo.z]at hK⊢;go_simp;refine (kvMeet h55 H1.out).mono ?_;rintro ee wk ⟨e51,K51,s51,M51,E51,K51b,s51b,M51b,E51b,rfl,v51,B⟩;exact hK.out _ _ ⟨e51,K51,s51,M51,E51,K51b,s51b,M51b,E51b,rfl,v51⟩ B
  refine Jo.jm rfl ?_ ?_
  ·rintro wj hJ K hK;simp only [Jo.z]at hK⊢;go_simp;exact hK.out _ _ ⟨_,rfl,hJ.size,Bo.new _ _ _⟩ (bel1 _ _)
  exact Jo.Steps.nil
  all_goals (rintro wj hJ;(repeat rintro _ rfl);intro K hK;simp only [Jo.z]at hK⊢;have xX40:=(X40.below hJ).cell;have xX4:=(X4.below hJ).cell;go_simp;exact hK.out _ _ rfl (br _ _))
 rintro wB hJ _ rfl _ rfl _ ⟨e50,K50,s50,M50,E50,K50b,s50b,M50b,E50b,rfl,v50⟩ _ ⟨_,_,rfl,_⟩ _ ⟨e51,K51,s51,M51,E51,K51b,s51b,M51b,E51b,rfl,v51⟩ _ ⟨g60,rfl,hg60,X60⟩ -;simp only [Jo.z];replace X0:=X0.below hJ;replace X4:=X4.below hJ;replace X5:=X5.below hJ;replace X40:=X40.below hJ;replace hT:=hT.below hJ;replace hT2:=hT2.below hJ;replace HB:=Hqb HB hJ
 have xX60:=X60.cell;have zX600:=X60.frozen
 refine Jo.jnext (i:=6) (o:=⟨none,_,_,_,_,_⟩) (by kernel_rfl) rfl (fun K hK=>?_)
 go_simp;refine hK.out _ _ ?_;clear hK K xX60 zX600;generalize hS:((((((((wB.setCell _ _).setCell _ _).setCell _ _).setCell _ _).setCell _ _).setCell _ _).setCell _ _).setCell _ _).setCell _ _=wC at *;have SX:=StN.of9 X60 hS;replace X0:=X0.stn SX (by omega);replace X4:=X4.stn SX (by omega);replace X5:=X5.stn SX (by omega);replace X40:=X40.stn SX (by omega)
 replace hT:=hT.stn SX (by simp [no8]);replace hT2:=hT2.stn SX (by simp [no8]);replace HB:=Hqs HB SX (by omega);replace X60:=SX.box;clear SX hS;refine Jo.jdone (by kernel_rfl) ?_
 obtain rfl:e51=false:=v51.1
 have xX60:=X60.cell;go_wp2
 go_ret
 exact⟨rfl,HB.out⟩
set_option maxRecDepth 100000 in
theorem trigDoubles_one (D0:Int)(s0:Bool)(M0 E0:Int)(w:World)(hT:Tab w)(hT2:Tb w)(w0:0≤M0)(u0:LQ M0)(x:Int)(hx:rk D0 s0 M0 E0=x)(hm:decide (MayQ D0 s0 M0 E0)=true)(hx1:¬opl 1048576 < x)(hx2:¬x < opl (-1048576))(y a b:Int)(Zs Zc Zd:Sp)(hs:Sv false x Zs)(hc:Sv true x Zc)(hd:Sv false y Zd)(h1:meetL [mulI (some (opl 2,opl 2)) (mulI Zs Zc),Zd]=some (a,b))(h0:D0=1)(hE1: -9223372036854775808≤E0)(hE2:E0 < 9223372036854775807)(hy:rk D0 s0 M0 (E0+1)=y):
  Calls Tryz.prog 8 #[VQ D0 s0 M0 E0] w (PB w true):=by
 delta VQ
 subst h0
 have td:((1:Int)==2)=false:=by decide
 obtain⟨σ,hσ⟩:∃σ,cmpI x (opl 1048576)=σ:=⟨_,rfl⟩
 have t1:decide (0 < σ)=false:=by
  rw [←hσ,cmp_gt12 rfl];exact decide_eq_false hx1
 obtain⟨τ,hτ⟩:∃σ,cmpI x (opl (-1048576))=σ:=⟨_,rfl⟩
 have t2:decide (τ < 0)=false:=by
  rw [←hτ,cmp_ls12 rfl];exact decide_eq_false hx2
 have hw1:IntKind.i64.wrap (E0+1)=E0+1:=IntWalk.i64_in _ (by omega)
 have hw2:wrap64 (E0+1)=E0+1:=IntWalk.wrap64_in _ (by omega)
 have HX:=Lib.hid hx;have HM:=Lib.hid hm;have TD:=Lib.hid td;have HSG:=Lib.hid hσ;have T1:=Lib.hid t1;have HTU:=Lib.hid hτ;have T2:=Lib.hid t2;have HS:=Lib.hid hs;have HC:=Lib.hid hc;have HD:=Lib.hid hd;have H1:=Lib.hid h1;have HY:=Lib.hid hy;have HW1:=Lib.hid hw1;have HW2:=Lib.hid hw2;clear hx hm td hσ t1 hτ t2 hs hc hd h1 hy hw1 hw2
 go_enter Tryz.func8,Tryz.ntmps8
 go_upto_region 1 with (fail)
 generalize hW1:w.alloc _=w1 at *;obtain⟨X0,HB⟩:=Bo.en1 hW1;replace hT:=hT.below HB.out;replace hT2:=hT2.below HB.out;clear hW1
 go_wp2_with fail
 refine (awake12 hT hT2).mono ?_;rintro ee w2 ⟨rfl,B⟩;replace X0:=X0.below B;replace hT:=hT.below B;replace hT2:=hT2.below B;replace HB:=Hqb HB B;clear B
 go_upto_region 2 with (fail)
 have ltX0:=X0.lt;refine Jo.rk [0,1,2,3,4,5,6,7,8,9,10,11,12,13,14,15,16,17,18,19] [some 9,some 10,some 11,some 12,some 13,some 14,some 15,some 16,some 17,some 18,some 19,some 20,some 21,some 22,some 23,some 24,some 25,some 26,some 27,some 28] [[],[0],[1],[2],[3],[3,4],[3,5],[3,6],[7],[8],[8],[8,9,10],[8,11],[8,12],[13],[14],[14],[14,15,16],[14,17],[14,18]] 20 0 [Jo.q4 1 s0 M0 E0,Jo.qb true,Jo.qb false,Jo.qb false,Jo.qp w.heap.size 0,Jo.qi 1,Jo.qb false,Jo.qb false,Jo.qb false,Jo.q4 1 s0 M0 E0,Jo.Fact.num (opl 1048576),Jo.qi σ,Jo.qb false,Jo.qb false,Jo.qb false,Jo.q4 1 s0 M0 E0,Jo.Fact.num (opl (-1048576)),Jo.qi τ,Jo.qb false,Jo.qb false] (by kernel_rfl) (by kernel_rfl) (by decide) rfl ?_ ?_
 ·refine Jo.jm rfl ?_ ?_;rotate_left
  refine Jo.jm rfl ?_ ?_
  ·rintro wj hJ _ rfl K hK;simp only [Jo.z]at hK⊢;go_simp;refine (nMay HM.out).mono ?_;rintro ee wk ⟨rfl,B⟩;exact hK.out _ _ rfl B
  iterate 3 (refine Jo.jm rfl ?_ ?_;rotate_left)
  refine Jo.jm rfl ?_ ?_
  ·rintro wj hJ _ rfl _ rfl K hK;simp only [Jo.z]at hK⊢;have xX00:=(X0.below hJ).a 0 (.int .i64 1) rfl;go_simp;exact hK.out _ _ rfl (br _ _)
  refine Jo.jm rfl ?_ ?_
  ·rintro wj hJ _ rfl _ rfl K hK;simp only [Jo.z]at hK⊢;have ht:=TD.out;go_simp
   exact hK.out _ _ (by first | rfl | (show Value.bool _=Value.bool _;first | (rw [ht];done) | (simp only [ht];done) | simp_all)) (br _ _)
  iterate 3 (refine Jo.jm rfl ?_ ?_;rotate_left)
  refine Jo.jm rfl ?_ ?_
  ·rintro wj hJ _ rfl K hK;simp only [Jo.z]at hK⊢;go_simp;refine (nOf (n:=1048576) (r:=opl 1048576) _ (by decide) (by decide) rfl).mono ?_;rintro ee wk ⟨K30,s30,M30,E30,rfl,q30,B⟩;exact hK.out _ _ ⟨K30,s30,M30,E30,rfl,q30⟩ B
  refine Jo.jm rfl ?_ ?_
  ·rintro wj hJ _ rfl _ rfl _ ⟨K30,s30,M30,E30,rfl,q30⟩ K hK;simp only [Jo.z]at hK⊢;go_simp;refine (nCmp (z:=σ) u0 q30.top (by rw [HX.out,q30.rk];exact HSG.out)).mono ?_;rintro ee wk ⟨rfl,B⟩;exact hK.out _ _ rfl B
  refine Jo.jm rfl ?_ ?_
  ·rintro wj hJ _ rfl _ rfl K hK;simp only [Jo.z]at hK⊢;have ht:=T1.out;go_simp
   exact hK.out _ _ (by first | rfl | (show Value.bool _=Value.bool _;first | (rw [ht];done) | (simp only [ht];done) | simp_all)) (br _ _)
  iterate 3 (refine Jo.jm rfl ?_ ?_;rotate_left)
  refine Jo.jm rfl ?_ ?_
  ·rintro wj hJ _ rfl K hK;simp only [Jo.z]at hK⊢;go_simp;refine (nOf (n:= -1048576) (r:=opl (-1048576)) _ (by decide) (by decide) rfl).mono ?_;rintro ee wk ⟨K31,s31,M31,E31,rfl,q31,B⟩;exact hK.out _ _ ⟨K31,s31,M31,E31,rfl,q31⟩ B
  refine Jo.jm rfl ?_ ?_
  ·rintro wj hJ _ rfl _ rfl _ ⟨K31,s31,M31,E31,rfl,q31⟩ K hK;simp only [Jo.z]at hK⊢;go_simp;refine (nCmp (z:=τ) u0 q31.top (by rw [HX.out,q31.rk];exact HTU.out)).mono ?_;rintro ee wk ⟨rfl,B⟩;exact hK.out _ _ rfl B
  refine Jo.jm rfl ?_ ?_
  ·rintro wj hJ _ rfl _ rfl K hK;simp only [Jo.z]at hK⊢;have ht:=T2.out;go_simp
   exact hK.out _ _ (by first | rfl | (show Value.bool _=Value.bool _;first | (rw [ht];done) | (simp only [ht];done) | simp_all)) (br _ _)
  refine Jo.jm rfl ?_ ?_;rotate_left
  exact Jo.Steps.nil
  all_goals (rintro wj hJ;(repeat rintro _ rfl);intro K hK;simp only [Jo.z]at hK⊢;have xX0:=(X0.below hJ).cell;go_simp;exact hK.out _ _ rfl (br _ _))
 rintro w3 hJ _ rfl _ rfl _ rfl _ rfl _ _ _ rfl _ rfl _ rfl _ rfl _ rfl _ ⟨K30,s30,M30,E30,rfl,_⟩ _ rfl _ rfl _ rfl _ rfl _ rfl _ ⟨K31,s31,M31,E31,rfl,_⟩ _ rfl _ rfl _ rfl -;simp only [Jo.z];replace X0:=X0.below hJ;replace hT:=hT.below hJ;replace hT2:=hT2.below hJ;replace HB:=Hqb HB hJ;refine Jo.jdone (by kernel_rfl) ?_;have xX0:=X0.cell
 go_upto_region 5 with (fail)
 clear xX0;have lX4:=Nat.le_refl (World.heap w3).size;have nX4X0:=X0.lt;generalize hWn:w3.alloc _=w4 at *;obtain⟨X4,BW⟩:=Bo.nw hWn;clear hWn;replace X0:=X0.below BW;replace hT:=hT.below BW;replace hT2:=hT2.below BW;replace HB:=Hqb HB BW;clear BW;clear lX4;have hw1:=HW1.out;have hw2:=HW2.out;have xX0:=X0.cell
 have xX4:=X4.cell;have zX40:=X4.frozen
 go_upto_region 7 with (fail)
 clear hw1 hw2;clear xX0 xX4 zX40
 have SX:StN w4 (World.setCell w4 ⟨w3.heap.size,3,none⟩ (.int .i64 (E0+1))) _ _ #[.int .i64 1,.bool s0,.int .u64 M0,.int .i64 (E0+1)] _:=StN.at4 X4 3 (.int .i64 (E0+1))
 replace X0:=X0.stn SX (by omega);replace hT:=hT.stn SX (by simp [no8]);replace hT2:=hT2.stn SX (by simp [no8]);replace HB:=Hqs HB SX (by omega);replace X4:=SX.box;clear SX;generalize World.setCell w4 ⟨w3.heap.size,3,none⟩ (.int .i64 (E0+1))=w5 at *
 go_wp2_with fail
 refine (nOf (n:=2) (r:=opl 2) _ (by decide) (by decide) rfl).mono ?_;rintro ee w6 ⟨K10,s10,M10,E10,rfl,q10,B⟩;replace X0:=X0.below B;replace X4:=X4.below B;replace hT:=hT.below B;replace hT2:=hT2.below B;replace HB:=Hqb HB B;clear B
 go_wp2_with fail
 refine (kvPoint q10.top q10.rk two_pt).mono ?_;rintro ee w7 ⟨e11,K11,s11,M11,E11,K11b,s11b,M11b,E11b,rfl,v11,B⟩;replace X0:=X0.below B;replace X4:=X4.below B;replace hT:=hT.below B;replace hT2:=hT2.below B;replace HB:=Hqb HB B;clear B
 go_upto_region 8 with (fail)
 have lX5:=Nat.le_refl (World.heap w7).size;have nX5X0:=X0.lt;have nX5X4:=X4.lt;generalize hWn:w7.alloc _=w8 at *;obtain⟨X5,BW⟩:=Bo.nw hWn;clear hWn;replace X0:=X0.below BW;replace X4:=X4.below BW;replace hT:=hT.below BW;replace hT2:=hT2.below BW;replace HB:=Hqb HB BW;clear BW;clear lX5;have ltX0:=X0.lt;have ltX4:=X4.lt;have ltX5:=X5.lt;refine Jo.rk [0,1,2,3,4,5,6,7] [some 40,some 41,some 42,some 43,some 44,some 45,some 46,some 6,none] [[],[],[1],[],[3],[2,4],[0,5],[],[]] 9 1 [Jo.q9 e11 K11 s11 M11 E11 K11b s11b M11b E11b,Jo.q4 1 s0 M0 E0,Jo.Fact.iv Zs,Jo.q4 1 s0 M0 E0,Jo.Fact.iv Zc,Jo.Fact.iv (mulI Zs Zc),Jo.Fact.iv (mulI (some (opl 2,opl 2)) (mulI Zs Zc)),Jo.Fact.bo w8.heap.size #[.bool false,.int .i64 0,.bool false,.int .u64 0,.int .i64 0,.int .i64 0,.bool false,.int .u64 0,.int .i64 0] 32,Jo.Fact.any] (by kernel_rfl) (by kernel_rfl) (by decide) rfl ?_ ?_
 ·iterate 2 (refine Jo.jm rfl ?_ ?_;rotate_left)
  refine Jo.jm rfl ?_ ?_
  ·rintro wj hJ _ rfl K hK;simp only [Jo.z]at hK⊢;go_simp;refine (tSin (hT.below hJ) w0 u0 HX.out HS.out).mono ?_;rintro ee wk ⟨e30,K30,s30,M30,E30,K30b,s30b,M30b,E30b,rfl,v30,B⟩;exact hK.out _ _ ⟨e30,K30,s30,M30,E30,K30b,s30b,M30b,E30b,rfl,v30⟩ B
  refine Jo.jm rfl ?_ ?_;rotate_left
  refine Jo.jm rfl ?_ ?_
  ·rintro wj hJ _ rfl K hK;simp only [Jo.z]at hK⊢;go_simp;refine (tCos (hT.below hJ) w0 u0 HX.out HC.out).mono ?_;rintro ee wk ⟨e31,K31,s31,M31,E31,K31b,s31b,M31b,E31b,rfl,v31,B⟩;exact hK.out _ _ ⟨e31,K31,s31,M31,E31,K31b,s31b,M31b,E31b,rfl,v31⟩ B
  refine Jo.jm rfl ?_ ?_
  ·rintro wj hJ _ ⟨e30,K30,s30,M30,E30,K30b,s30b,M30b,E30b,rfl,v30⟩ _ ⟨e31,K31,s31,M31,E31,K31b,s31b,M31b,E31b,rfl,v31⟩ K hK;simp only [Jo.z]at hK⊢;go_simp;refine (fkMul v30.top.1 v30.top.2 v31.top.1 v31.top.2 v30.rk v31.rk rfl).mono ?_;rintro ee wk ⟨e32,K32,s32,M32,E32,K32b,s32b,M32b,E32b,rfl,v32,B⟩;exact hK.out _ _ ⟨e32,K32,s32,M32,E32,K32b,s32b,M32b,E32b,rfl,v32⟩ B
  refine Jo.jm rfl ?_ ?_
  ·rintro wj hJ _ rfl _ ⟨e32,K32,s32,M32,E32,K32b,s32b,M32b,E32b,rfl,v32⟩ K hK;simp only [Jo.z]at hK⊢;go_simp;refine (fkMul v11.top.1 v11.top.2 v32.top.1 v32.top.2 v11.rk v32.rk rfl).mono ?_;rintro ee wk ⟨e33,K33,s33,M33,E33,K33b,s33b,M33b,E33b,rfl,v33,B⟩;exact hK.out _ _ ⟨e33,K33,s33,M33,E33,K33b,s33b,M33b,E33b,rfl,v33⟩ B
  refine Jo.jm rfl ?_ ?_
  ·rintro wj hJ K hK;simp only [Jo.z]at hK⊢;go_simp;exact hK.out _ _ ⟨_,rfl,hJ.size,Bo.new _ _ _⟩ (bel1 _ _)
  exact Jo.Steps.nil
  all_goals (rintro wj hJ;(repeat rintro _ rfl);intro K hK;simp only [Jo.z]at hK⊢;have xX5:=(X5.below hJ).cell;have xX0:=(X0.below hJ).cell;go_simp;exact hK.out _ _ rfl (br _ _))
 rintro w9 hJ _ rfl _ rfl _ ⟨e30,K30,s30,M30,E30,K30b,s30b,M30b,E30b,rfl,v30⟩ _ rfl _ ⟨e31,K31,s31,M31,E31,K31b,s31b,M31b,E31b,rfl,v31⟩ _ ⟨e32,K32,s32,M32,E32,K32b,s32b,M32b,E32b,rfl,v32⟩ _ ⟨e33,K33,s33,M33,E33,K33b,s33b,M33b,E33b,rfl,v33⟩ _ ⟨g40,rfl,hg40,X40⟩ -;simp only [Jo.z];replace X0:=X0.below hJ;replace X4:=X4.below hJ;replace X5:=X5.below hJ
 replace hT:=hT.below hJ;replace hT2:=hT2.below hJ;replace HB:=Hqb HB hJ;have xX40:=X40.cell;have zX400:=X40.frozen
 refine Jo.jnext (i:=8) (o:=⟨none,_,_,_,_,_⟩) (by kernel_rfl) rfl (fun K hK=>?_)
 go_simp;refine hK.out _ _ ?_;clear hK K xX40 zX400;generalize hS:((((((((w9.setCell _ _).setCell _ _).setCell _ _).setCell _ _).setCell _ _).setCell _ _).setCell _ _).setCell _ _).setCell _ _=wA at *;have SX:=StN.of9 X40 hS;replace X0:=X0.stn SX (by omega);replace X4:=X4.stn SX (by omega);replace X5:=X5.stn SX (by omega);replace hT:=hT.stn SX (by simp [no8])
 replace hT2:=hT2.stn SX (by simp [no8]);replace HB:=Hqs HB SX (by omega);replace X40:=SX.box;clear SX hS;refine Jo.jdone (by kernel_rfl) ?_;clear v30 v31 v32 v11
 go_upto_region 9 with (fail)
 have ltX0:=X0.lt;have ltX4:=X4.lt;have ltX5:=X5.lt;have ltX40:=X40.lt;refine Jo.rk [0,1,2,3,4,5] [some 47,some 48,some 49,some 50,some 51,some 7,none] [[],[],[1],[0,2],[3],[],[]] 7 1 [Jo.q9 e33 K33 s33 M33 E33 K33b s33b M33b E33b,Jo.Fact.eq (.agg #[.int .i64 1,.bool s0,.int .u64 M0,.int .i64 (E0+1)]),Jo.Fact.iv Zd,Jo.Fact.il8 2 [(mulI (some (opl 2,opl 2)) (mulI Zs Zc)),Zd],Jo.Fact.iv (some (a,b)),Jo.Fact.bo wA.heap.size #[.bool false,.int .i64 0,.bool false,.int .u64 0,.int .i64 0,.int .i64 0,.bool false,.int .u64 0,.int .i64 0] 32,Jo.Fact.any] (by kernel_rfl) (by kernel_rfl) (by decide) rfl ?_ ?_
 ·iterate 2 (refine Jo.jm rfl ?_ ?_;rotate_left)
  refine Jo.jm rfl ?_ ?_
  ·rintro wj hJ _ rfl K hK;simp only [Jo.z]at hK⊢;go_simp;refine (tSin (hT.below hJ) w0 u0 HY.out HD.out).mono ?_;rintro ee wk ⟨e50,K50,s50,M50,E50,K50b,s50b,M50b,E50b,rfl,v50,B⟩;exact hK.out _ _ ⟨e50,K50,s50,M50,E50,K50b,s50b,M50b,E50b,rfl,v50⟩ B
  refine Jo.jm rfl ?_ ?_
  ·rintro wj hJ _ rfl _ ⟨e50,K50,s50,M50,E50,K50b,s50b,M50b,E50b,rfl,v50⟩ K hK;simp only [Jo.z]at hK⊢;go_simp;exact hK.out _ _ ⟨_,2,rfl,Il8.lit2 rfl v33.rw v50.rw⟩ (bel1 _ _)
  refine Jo.jm rfl ?_ ?_
  ·rintro wj hJ _ ⟨A55,c55,rfl,h55⟩ K hK;simp only [Jo.z]at hK⊢;go_simp;refine (kvMeet h55 H1.out).mono ?_;rintro ee wk ⟨e51,K51,s51,M51,E51,K51b,s51b,M51b,E51b,rfl,v51,B⟩;exact hK.out _ _ ⟨e51,K51,s51,M51,E51,K51b,s51b,M51b,E51b,rfl,v51⟩ B
  refine Jo.jm rfl ?_ ?_
  ·rintro wj hJ K hK;simp only [Jo.z]at hK⊢;go_simp;exact hK.out _ _ ⟨_,rfl,hJ.size,Bo.new _ _ _⟩ (bel1 _ _)
  exact Jo.Steps.nil
  all_goals (rintro wj hJ;(repeat rintro _ rfl);intro K hK;simp only [Jo.z]at hK⊢;have xX40:=(X40.below hJ).cell;have xX4:=(X4.below hJ).cell;go_simp;exact hK.out _ _ rfl (br _ _))
 rintro wB hJ _ rfl _ rfl _ ⟨e50,K50,s50,M50,E50,K50b,s50b,M50b,E50b,rfl,v50⟩ _ ⟨_,_,rfl,_⟩ _ ⟨e51,K51,s51,M51,E51,K51b,s51b,M51b,E51b,rfl,v51⟩ _ ⟨g60,rfl,hg60,X60⟩ -;simp only [Jo.z];replace X0:=X0.below hJ;replace X4:=X4.below hJ;replace X5:=X5.below hJ;replace X40:=X40.below hJ;replace hT:=hT.below hJ;replace hT2:=hT2.below hJ;replace HB:=Hqb HB hJ
 have xX60:=X60.cell;have zX600:=X60.frozen
 refine Jo.jnext (i:=6) (o:=⟨none,_,_,_,_,_⟩) (by kernel_rfl) rfl (fun K hK=>?_)
 go_simp;refine hK.out _ _ ?_;clear hK K xX60 zX600;generalize hS:((((((((wB.setCell _ _).setCell _ _).setCell _ _).setCell _ _).setCell _ _).setCell _ _).setCell _ _).setCell _ _).setCell _ _=wC at *;have SX:=StN.of9 X60 hS;replace X0:=X0.stn SX (by omega);replace X4:=X4.stn SX (by omega);replace X5:=X5.stn SX (by omega);replace X40:=X40.stn SX (by omega)
 replace hT:=hT.stn SX (by simp [no8]);replace hT2:=hT2.stn SX (by simp [no8]);replace HB:=Hqs HB SX (by omega);replace X60:=SX.box;clear SX hS;refine Jo.jdone (by kernel_rfl) ?_
 obtain rfl:e51=false:=v51.1
 have xX60:=X60.cell;go_wp2
 go_ret
 exact⟨rfl,HB.out⟩
theorem trigDoubles_walk (D0:Int)(s0:Bool)(M0 E0:Int)(w:World)(hT:Tab w)(hT2:Tb w)(w0:0≤M0)(u0:LQ M0):
  Calls Tryz.prog 8 #[VQ D0 s0 M0 E0] w fun e w'=>e= .returned (.bool true)∧Below w.heap.size w w':=by
 delta VQ
 obtain⟨x,hx⟩:∃x,rk D0 s0 M0 E0=x:=⟨_,rfl⟩
 cases hm:decide (MayQ D0 s0 M0 E0)
 ·exact trigDoubles_no D0 s0 M0 E0 w hT hT2 w0 u0 x hx hm
 ·have q:=rk_fq u0 (of_decide_eq_true hm);rw [hx]at q
  by_cases hd:D0=2
  ·exact trigDoubles_inf D0 s0 M0 E0 w hT hT2 w0 u0 x hx hm hd
  ·by_cases hx1:opl 1048576 < x
   ·exact trigDoubles_hi D0 s0 M0 E0 w hT hT2 w0 u0 x hx hm hd hx1
   ·by_cases hx2:x < opl (-1048576)
    ·exact trigDoubles_lo D0 s0 M0 E0 w hT hT2 w0 u0 x hx hm hd hx1 hx2
    ·obtain⟨Zs,hs⟩:=sv_ex false x;obtain⟨Zc,hc⟩:=sv_ex true x
     rcases fq_kind q with⟨h0,rfl⟩ | h0 | h0
     ·have hf:fixB 0=true:=(small_opl (m:=0) (by decide) (by decide)).1
      obtain⟨Zd,hz⟩:=sv_ex false 0;obtain⟨a,b,h1⟩:=double_ok (x:=0) (y:=0) (by decide) hf hf hs hc hz rfl (mul_unit (sv_us hs) (sv_us hc));exact trigDoubles_zero D0 s0 M0 E0 w hT hT2 w0 u0 0 hx hm hx1 hx2 0 a b Zs Zc Zd hs hc hz (by rw [meetL2 (okM _ _ (sv_us hs) (sv_us hc))];exact h1) h0 hx
     ·subst h0;obtain⟨y,qy,vy,fx,fy,e1,e2⟩:=twice_place q hx1 hx2;obtain⟨Zd,hz⟩:=sv_ex false y;obtain⟨a,b,h1⟩:=double_ok vy fx fy hs hc hz rfl (mul_unit (sv_us hs) (sv_us hc));exact trigDoubles_one 1 s0 M0 E0 w hT hT2 w0 u0 x hx hm hx1 hx2 y a b Zs Zc Zd hs hc hz (by rw [meetL2 (okM _ _ (sv_us hs) (sv_us hc))];exact h1) rfl e1 e2 qy.rk
     ·exact absurd h0 hd
end Go.Proofs.YtaadmpiphnfllaaGreatDoor
