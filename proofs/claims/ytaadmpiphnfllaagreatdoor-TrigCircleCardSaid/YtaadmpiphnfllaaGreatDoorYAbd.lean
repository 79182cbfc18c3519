/-
 Contracts that the proof rests on.
-/
import Derived.Test.YtaadmpiphnfllaaGreatDoorYAbc
namespace Go.Proofs.YtaadmpiphnfllaaGreatDoor
set_option maxHeartbeats 4000000
open Go.RowKit
set_option linter.unusedVariables false
set_option linter.unusedSimpArgs false
set_option maxRecDepth 100000
theorem nInfE{w:World}(s:Bool):Calls Tryz.prog 121 #[.bool s] w (fun e w'=>e= .returned (.agg #[.int .i64 2,.bool s,.int .u64 0,.int .i64 0])∧Below w.heap.size w w'):=by
 refine (nInf (s:=s) rfl).mono ?_;rintro ee w2 ⟨K,s1,M,E,rfl,q,B⟩;obtain⟨rfl,rfl,rfl,rfl⟩:=q.uniq (fq_inf2 s);exact⟨rfl,B⟩
theorem cmp_gtE{x y c:Int}(h:cmpI x y=c):decide (0 < c)=decide (y < x):=by
 rw [←h]
 by_cases e:y < x
 ·rw [decide_eq_true e]
  exact decide_eq_true (by rcases cmpI_tri x y with⟨a,b⟩ | ⟨a,b⟩ | ⟨a,b⟩ <;> rw [b] <;> omega)
 ·rw [decide_eq_false e]
  exact decide_eq_false (by rcases cmpI_tri x y with⟨a,b⟩ | ⟨a,b⟩ | ⟨a,b⟩ <;> rw [b] <;> omega)
theorem cmp_geE{x y c:Int}(h:cmpI x y=c):decide (0≤c)=decide (y≤x):=by
 rw [←h]
 by_cases e:y≤x
 ·rw [decide_eq_true e]
  exact decide_eq_true (by rcases cmpI_tri x y with⟨a,b⟩ | ⟨a,b⟩ | ⟨a,b⟩ <;> rw [b] <;> omega)
 ·rw [decide_eq_false e]
  exact decide_eq_false (by rcases cmpI_tri x y with⟨a,b⟩ | ⟨a,b⟩ | ⟨a,b⟩ <;> rw [b] <;> omega)
theorem kvNone{w:World}:Calls Tryz.prog 63 #[] w (PV w none):=by
 go_enter Tryz.func63,Tryz.ntmps63
 go_upto_region 1 with (fail)
 generalize hW1:w.alloc _=w1 at *;obtain⟨XR,HB⟩:=Bo.en1 hW1;clear hW1;have xXR:=XR.cell;have zXR0:=XR.frozen;go_wp2;clear xXR zXR0;have SX:=StN.mk9 XR (.bool true) (.int .i64 0) (.bool false) (.int .u64 0) (.int .i64 0) (.int .i64 0) (.bool false) (.int .u64 0) (.int .i64 0);exact bodyPost_ret (by simp [results,Tryz.results63,go_sem,SX.box.cell]) rfl ⟨_,_,_,_,_,_,_,_,_,rfl,Ci.none,(SX.below HB.out (by omega))⟩
theorem kvNoneE{w:World}:Calls Tryz.prog 63 #[] w (fun e w'=>e= .returned (.agg #[.bool true,.int .i64 0,.bool false,.int .u64 0,.int .i64 0,.int .i64 0,.bool false,.int .u64 0,.int .i64 0])∧Below w.heap.size w w'):=by
 refine kvNone.mono ?_;rintro ee w2 ⟨e1,K1,s1,M1,E1,K1b,s1b,M1b,E1b,rfl,v1,B⟩;obtain⟨rfl,rfl,rfl,rfl,rfl,rfl,rfl,rfl,rfl⟩:=v1.uniq Ci.none;exact⟨rfl,B⟩
theorem kvOrN{w:World}{D M E:Int}{s:Bool}{r:Int}(hM:LQ M)(hr:rk D s M E=r):Calls Tryz.prog 120 #[VQ D s M E] w (PN w r):=by
 delta VQ
 by_cases hm:MayQ D s M E
 ·have HQ:=rk_fq hM hm;rw [hr]at HQ
  have HC:=Lib.hid (show decide (MayQ D s M E)=true from decide_eq_true hm)
  clear hm hr hM
  go_enter Tryz.func120,Tryz.ntmps120
  go_upto_region 1 with (fail)
  generalize hW1:(w.alloc _).alloc _=w1 at *;obtain⟨X1,XR,HB⟩:=Bo.en2 hW1;clear hW1;have xX1:=X1.cell
  go_wp2_with fail
  refine (nMay HC.out).mono ?_;rintro ee w2 ⟨rfl,B⟩;clear xX1;replace X1:=X1.below B;replace XR:=XR.below B;replace HB:=Hqb HB B;clear B;have xXR:=XR.cell;have zXR0:=XR.frozen;have xX1:=X1.cell;go_wp2;clear xXR zXR0 xX1;have SX:=StN.mk4 XR (.int .i64 D) (.bool s) (.int .u64 M) (.int .i64 E)
  exact bodyPost_ret (by simp [results,Tryz.results120,go_sem,SX.box.cell]) rfl ⟨D,s,M,E,rfl,HQ,(SX.below HB.out (by omega))⟩
 ·rw [rk_not hm]at hr;subst hr
  have HC:=Lib.hid (show decide (MayQ D s M E)=false from decide_eq_false hm)
  clear hm hM
  go_enter Tryz.func120,Tryz.ntmps120
  go_upto_region 1 with (fail)
  generalize hW1:(w.alloc _).alloc _=w1 at *;obtain⟨X1,XR,HB⟩:=Bo.en2 hW1;clear hW1;have xX1:=X1.cell
  go_wp2_with fail
  refine (nMay HC.out).mono ?_;rintro ee w2 ⟨rfl,B⟩;clear xX1;replace X1:=X1.below B;replace XR:=XR.below B;replace HB:=Hqb HB B;clear B;have xXR:=XR.cell;have zXR0:=XR.frozen;have xX1:=X1.cell;go_wp2;clear xXR zXR0 xX1;have SX:=StN.mk4 XR (.int .i64 0) (.bool false) (.int .u64 0) (.int .i64 0)
  exact bodyPost_ret (by simp [results,Tryz.results120,go_sem,SX.box.cell]) rfl ⟨_,_,_,_,rfl,Fq.nought,(SX.below HB.out (by omega))⟩
theorem kvMake{w:World}{D D' M M' E E':Int}{s s':Bool}{a b:Int}{x:Sp}(hM:LQ M)(hM':LQ M')(ha:rk D s M E=a)(hb:rk D' s' M' E'=b)(hx:mkI a b=x):Calls Tryz.prog 61 #[VQ D s M E,VQ D' s' M' E'] w (PV w x):=by
 delta VQ
 have HA:=Lib.hid ha;have HBB:=Lib.hid hb;clear ha hb
 go_enter Tryz.func61,Tryz.ntmps61
 go_upto_region 1 with (fail)
 generalize hW1:((w.alloc _).alloc _).alloc _=w1 at *;obtain⟨X2,X3,XR,HB⟩:=Bo.en3 hW1;clear hW1;refine Jo.rk [0,1,2,3] [some 5,some 6,some 7,some 8,none,none] [[],[0],[],[2],[],[]] 6 2 [Jo.q4 D s M E,Jo.Fact.num a,Jo.q4 D' s' M' E',Jo.Fact.num b,Jo.Fact.any,Jo.Fact.any] (by kernel_rfl) (by kernel_rfl) (by decide) rfl ?_ ?_
 ·refine Jo.jm rfl ?_ ?_;rotate_left
  refine Jo.jm rfl ?_ ?_
  ·rintro wj hJ _ rfl K hK;simp only [Jo.z]at hK⊢;go_simp;refine (kvOrN hM HA.out).mono ?_;rintro ee wk ⟨K1,s1,M1,E1,rfl,q1,B⟩;exact hK.out _ _ ⟨K1,s1,M1,E1,rfl,q1⟩ B
  refine Jo.jm rfl ?_ ?_;rotate_left
  refine Jo.jm rfl ?_ ?_
  ·rintro wj hJ _ rfl K hK;simp only [Jo.z]at hK⊢;go_simp;refine (kvOrN hM' HBB.out).mono ?_;rintro ee wk ⟨K2,s2,M2,E2,rfl,q2,B⟩;exact hK.out _ _ ⟨K2,s2,M2,E2,rfl,q2⟩ B
  exact Jo.Steps.nil
  all_goals (rintro wj hJ;(repeat rintro _ rfl);intro K hK;simp only [Jo.z]at hK⊢;have xX2:=(X2.below hJ).cell;have xX3:=(X3.below hJ).cell;go_simp;exact hK.out _ _ rfl (br _ _))
 rintro w2 hJ _ rfl _ ⟨K1,s1,M1,E1,rfl,q1⟩ _ rfl _ ⟨K2,s2,M2,E2,rfl,q2⟩ -;simp only [Jo.z];replace X2:=X2.below hJ;replace X3:=X3.below hJ;replace XR:=XR.below hJ;replace HB:=Hqb HB hJ;have xX2:=X2.cell;have zX20:=X2.frozen
 refine Jo.jnext (i:=4) (o:=⟨none,_,_,_,_,_⟩) (by kernel_rfl) rfl (fun K hK=>?_)
 go_simp;refine hK.out _ _ ?_;clear hK K xX2 zX20;generalize hS:(((w2.setCell _ _).setCell _ _).setCell _ _).setCell _ _=w3 at *;have SX:=StN.of4 X2 hS;replace X3:=X3.stn SX (by omega);replace XR:=XR.stn SX (by omega);replace HB:=Hqs HB SX (by omega);replace X2:=SX.box;clear SX hS;have xX3:=X3.cell;have zX30:=X3.frozen
 refine Jo.jnext (i:=5) (o:=⟨none,_,_,_,_,_⟩) (by kernel_rfl) rfl (fun K hK=>?_)
 go_simp;refine hK.out _ _ ?_;clear hK K xX3 zX30;generalize hS:(((w3.setCell _ _).setCell _ _).setCell _ _).setCell _ _=w4 at *;have SX:=StN.of4 X3 hS;replace X2:=X2.stn SX (by omega);replace XR:=XR.stn SX (by omega);replace HB:=Hqs HB SX (by omega);replace X3:=SX.box;clear SX hS;refine Jo.jdone (by kernel_rfl) ?_;clear HA HBB hM hM';obtain⟨c,hc⟩:∃c,cmpI a b=c:=⟨_,rfl⟩
 have hg:=cmp_gtE hc
 have HC:Hid (cmpI (rk K1 s1 M1 E1) (rk K2 s2 M2 E2)=c):=Lib.hid (by rw [q1.rk,q2.rk];exact hc)
 clear hc
 by_cases hgt:b < a
 ·rw [mkI_none (by omega)]at hx
  obtain rfl:none=x:=hx
  rw [decide_eq_true hgt]at hg;have HC0:=Lib.hid hg;clear hg hgt;go_wp2;refine Jo.rk [0,1,2,3,4,5,6,7,8,9,10,11,12,13] [some 9,some 10,some 11,some 12,some 13,some 14,some 15,some 16,some 17,some 18,some 19,some 20,some 21,some 22] [[],[],[0,1],[2],[3],[4],[4],[4,5,6],[4,7],[8],[9],[9],[9,10,11],[9,12]] 14 0 [Jo.q4 K1 s1 M1 E1,Jo.q4 K2 s2 M2 E2,Jo.qi c,Jo.qb true,Jo.qb true,Jo.qu,Jo.qu,Jo.qu,Jo.qb true,Jo.qb true,Jo.qu,Jo.qu,Jo.qu,Jo.qb true] (by kernel_rfl) (by kernel_rfl) (by decide) rfl ?_ ?_
  ·iterate 2 (refine Jo.jm rfl ?_ ?_;rotate_left)
   refine Jo.jm rfl ?_ ?_
   ·rintro wj hJ _ rfl _ rfl K hK;simp only [Jo.z]at hK⊢;go_simp;refine (nCmp q1.top q2.top HC.out).mono ?_;rintro ee wk ⟨rfl,B⟩;exact hK.out _ _ rfl B
   refine Jo.jm rfl ?_ ?_
   ·rintro wj hJ _ rfl K hK;simp only [Jo.z]at hK⊢;have hc0:=HC0.out;go_simp
    exact hK.out _ _ (by first | rfl | (show Value.bool _=Value.bool _;rw [hc0]) | simp_all) (br _ _)
   iterate 10 (refine Jo.jm rfl ?_ ?_;rotate_left)
   exact Jo.Steps.nil
   all_goals (rintro wj hJ;(repeat rintro _ rfl);intro K hK;simp only [Jo.z]at hK⊢;have xX2:=(X2.below hJ).cell;have xX3:=(X3.below hJ).cell;go_simp;exact hK.out _ _ rfl (br _ _))
  rintro w8 hJ _ rfl _ rfl _ rfl _ rfl _ rfl _ rfl _ rfl _ rfl _ rfl _ rfl _ rfl _ rfl _ rfl _ rfl -;simp only [Jo.z];replace X2:=X2.below hJ;replace X3:=X3.below hJ;replace XR:=XR.below hJ;replace HB:=Hqb HB hJ;refine Jo.jdone (by kernel_rfl) ?_
  go_wp2_with fail
  refine (kvNoneE).mono ?_;rintro ee w9 ⟨rfl,B⟩;replace X2:=X2.below B;replace X3:=X3.below B;replace XR:=XR.below B;replace HB:=Hqb HB B;clear B;have xXR:=XR.cell;have zXR0:=XR.frozen;go_wp2;clear xXR zXR0;have SX:=StN.mk9 XR (.bool true) (.int .i64 0) (.bool false) (.int .u64 0) (.int .i64 0) (.int .i64 0) (.bool false) (.int .u64 0) (.int .i64 0)
  exact bodyPost_ret (by simp [results,Tryz.results61,go_sem,SX.box.cell]) rfl ⟨_,_,_,_,_,_,_,_,_,rfl,Ci.none,(SX.below HB.out (by omega))⟩
 ·rw [decide_eq_false hgt]at hg;have HC0:=Lib.hid hg;clear hg
  by_cases ht:a=19342822337206103650074625
  ·subst ht;rw [mkI_none (by omega)]at hx
   obtain rfl:none=x:=hx
   obtain⟨rfl,rfl,rfl,rfl⟩:=q1.uniq (show Fq 2 false 0 0 19342822337206103650074625 from fq_inf2 false)
   clear hgt;go_wp2;refine Jo.rk [0,1,2,3,4,5,6,7,8,9,10,11,12,13] [some 9,some 10,some 11,some 12,some 13,some 14,some 15,some 16,some 17,some 18,some 19,some 20,some 21,some 22] [[],[],[0,1],[2],[3],[4],[4],[4,5,6],[4,7],[8],[9],[9],[9,10,11],[9,12]] 14 0 [Jo.q4 2 false 0 0,Jo.q4 K2 s2 M2 E2,Jo.qi c,Jo.qb false,Jo.qb false,Jo.q4 2 false 0 0,Jo.q4 2 false 0 0,Jo.qb true,Jo.qb true,Jo.qb true,Jo.qu,Jo.qu,Jo.qu,Jo.qb true] (by kernel_rfl) (by kernel_rfl) (by decide) rfl ?_ ?_
   ·iterate 2 (refine Jo.jm rfl ?_ ?_;rotate_left)
    refine Jo.jm rfl ?_ ?_
    ·rintro wj hJ _ rfl _ rfl K hK;simp only [Jo.z]at hK⊢;go_simp;refine (nCmp q1.top q2.top HC.out).mono ?_;rintro ee wk ⟨rfl,B⟩;exact hK.out _ _ rfl B
    refine Jo.jm rfl ?_ ?_
    ·rintro wj hJ _ rfl K hK;simp only [Jo.z]at hK⊢;have hc0:=HC0.out;go_simp
     exact hK.out _ _ (by first | rfl | (show Value.bool _=Value.bool _;rw [hc0]) | simp_all) (br _ _)
    iterate 2 (refine Jo.jm rfl ?_ ?_;rotate_left)
    refine Jo.jm rfl ?_ ?_
    ·rintro wj hJ _ rfl K hK;simp only [Jo.z]at hK⊢;go_simp;refine (nInfE false).mono ?_;rintro ee wk ⟨rfl,B⟩;exact hK.out _ _ rfl B
    refine Jo.jm rfl ?_ ?_
    ·rintro wj hJ _ rfl _ rfl _ rfl K hK;simp only [Jo.z]at hK⊢;go_simp
     repeat' split
     all_goals exact hK.out _ _ (congrArg Value.bool (by first | rfl | (exfalso;simp_all) | simp_all)) (br _ _)
    iterate 6 (refine Jo.jm rfl ?_ ?_;rotate_left)
    exact Jo.Steps.nil
    all_goals (rintro wj hJ;(repeat rintro _ rfl);intro K hK;simp only [Jo.z]at hK⊢;have xX2:=(X2.below hJ).cell;have xX3:=(X3.below hJ).cell;go_simp;exact hK.out _ _ rfl (br _ _))
   rintro w8 hJ _ rfl _ rfl _ rfl _ rfl _ rfl _ rfl _ rfl _ rfl _ rfl _ rfl _ rfl _ rfl _ rfl _ rfl -;simp only [Jo.z];replace X2:=X2.below hJ;replace X3:=X3.below hJ;replace XR:=XR.below hJ;replace HB:=Hqb HB hJ;refine Jo.jdone (by kernel_rfl) ?_
   go_wp2_with fail
   refine (kvNoneE).mono ?_;rintro ee w9 ⟨rfl,B⟩;replace X2:=X2.below B;replace X3:=X3.below B;replace XR:=XR.below B;replace HB:=Hqb HB B;clear B;have xXR:=XR.cell;have zXR0:=XR.frozen;go_wp2;clear xXR zXR0;have SX:=StN.mk9 XR (.bool true) (.int .i64 0) (.bool false) (.int .u64 0) (.int .i64 0) (.int .i64 0) (.bool false) (.int .u64 0) (.int .i64 0)
   exact bodyPost_ret (by simp [results,Tryz.results61,go_sem,SX.box.cell]) rfl ⟨_,_,_,_,_,_,_,_,_,rfl,Ci.none,(SX.below HB.out (by omega))⟩
  ·have HN1:Hid (¬(K1=2∧s1=false∧M1=0∧E1=0)):=Lib.hid (by
    rintro ⟨rfl,rfl,rfl,rfl⟩;exact ht (by rw [←q1.rk];exact (fq_inf2 false).rk))
   by_cases hb:b= -19342822337206103650074625
   ·subst hb;rw [mkI_none (by omega)]at hx
    obtain rfl:none=x:=hx
    obtain⟨rfl,rfl,rfl,rfl⟩:=q2.uniq (show Fq 2 true 0 0 (-19342822337206103650074625)from fq_inf2 true)
    clear hgt ht;go_wp2;refine Jo.rk [0,1,2,3,4,5,6,7,8,9,10,11,12,13] [some 9,some 10,some 11,some 12,some 13,some 14,some 15,some 16,some 17,some 18,some 19,some 20,some 21,some 22] [[],[],[0,1],[2],[3],[4],[4],[4,5,6],[4,7],[8],[9],[9],[9,10,11],[9,12]] 14 0 [Jo.q4 K1 s1 M1 E1,Jo.q4 2 true 0 0,Jo.qi c,Jo.qb false,Jo.qb false,Jo.q4 K1 s1 M1 E1,Jo.q4 2 false 0 0,Jo.qb false,Jo.qb false,Jo.qb false,Jo.q4 2 true 0 0,Jo.q4 2 true 0 0,Jo.qb true,Jo.qb true] (by kernel_rfl) (by kernel_rfl) (by decide) rfl ?_ ?_
    ·iterate 2 (refine Jo.jm rfl ?_ ?_;rotate_left)
     refine Jo.jm rfl ?_ ?_
     ·rintro wj hJ _ rfl _ rfl K hK;simp only [Jo.z]at hK⊢;go_simp;refine (nCmp q1.top q2.top HC.out).mono ?_;rintro ee wk ⟨rfl,B⟩;exact hK.out _ _ rfl B
     refine Jo.jm rfl ?_ ?_
     ·rintro wj hJ _ rfl K hK;simp only [Jo.z]at hK⊢;have hc0:=HC0.out;go_simp
      exact hK.out _ _ (by first | rfl | (show Value.bool _=Value.bool _;rw [hc0]) | simp_all) (br _ _)
     iterate 2 (refine Jo.jm rfl ?_ ?_;rotate_left)
     refine Jo.jm rfl ?_ ?_
     ·rintro wj hJ _ rfl K hK;simp only [Jo.z]at hK⊢;go_simp;refine (nInfE false).mono ?_;rintro ee wk ⟨rfl,B⟩;exact hK.out _ _ rfl B
     refine Jo.jm rfl ?_ ?_
     ·rintro wj hJ _ rfl _ rfl _ rfl K hK;simp only [Jo.z]at hK⊢;have hne:=HN1.out;go_simp
      repeat' split
      all_goals exact hK.out _ _ (congrArg Value.bool (by first | rfl | (exfalso;simp_all))) (br _ _)
     iterate 3 (refine Jo.jm rfl ?_ ?_;rotate_left)
     refine Jo.jm rfl ?_ ?_
     ·rintro wj hJ _ rfl K hK;simp only [Jo.z]at hK⊢;go_simp;refine (nInfE true).mono ?_;rintro ee wk ⟨rfl,B⟩;exact hK.out _ _ rfl B
     refine Jo.jm rfl ?_ ?_
     ·rintro wj hJ _ rfl _ rfl _ rfl K hK;simp only [Jo.z]at hK⊢;go_simp
      repeat' split
      all_goals exact hK.out _ _ (congrArg Value.bool (by first | rfl | (exfalso;simp_all) | simp_all)) (br _ _)
     refine Jo.jm rfl ?_ ?_;rotate_left
     exact Jo.Steps.nil
     all_goals (rintro wj hJ;(repeat rintro _ rfl);intro K hK;simp only [Jo.z]at hK⊢;have xX2:=(X2.below hJ).cell;have xX3:=(X3.below hJ).cell;go_simp;exact hK.out _ _ rfl (br _ _))
    rintro w8 hJ _ rfl _ rfl _ rfl _ rfl _ rfl _ rfl _ rfl _ rfl _ rfl _ rfl _ rfl _ rfl _ rfl _ rfl -;simp only [Jo.z];replace X2:=X2.below hJ;replace X3:=X3.below hJ;replace XR:=XR.below hJ;replace HB:=Hqb HB hJ;refine Jo.jdone (by kernel_rfl) ?_
    go_wp2_with fail
    refine (kvNoneE).mono ?_;rintro ee w9 ⟨rfl,B⟩;replace X2:=X2.below B;replace X3:=X3.below B;replace XR:=XR.below B;replace HB:=Hqb HB B;clear B;have xXR:=XR.cell;have zXR0:=XR.frozen;go_wp2;clear xXR zXR0;have SX:=StN.mk9 XR (.bool true) (.int .i64 0) (.bool false) (.int .u64 0) (.int .i64 0) (.int .i64 0) (.bool false) (.int .u64 0) (.int .i64 0)
    exact bodyPost_ret (by simp [results,Tryz.results61,go_sem,SX.box.cell]) rfl ⟨_,_,_,_,_,_,_,_,_,rfl,Ci.none,(SX.below HB.out (by omega))⟩
   ·have HN2:Hid (¬(K2=2∧s2=true∧M2=0∧E2=0)):=Lib.hid (by
     rintro ⟨rfl,rfl,rfl,rfl⟩;exact hb (by rw [←q2.rk];exact (fq_inf2 true).rk))
    have g1:=q1.bd;have g2:=q2.bd
    have g3:a≤b:=by omega
    have g4:a < 19342822337206103650074625:=by omega
    have g5: -19342822337206103650074625 < b:=by omega
    rw [mkI_some g3 g4 g5]at hx
    obtain rfl:some (a,b)=x:=hx
    have HV:Ci false K1 s1 M1 E1 K2 s2 M2 E2 (some (a,b)):=⟨rfl,q1,q2,g3,g4,g5⟩
    clear hgt ht hb g1 g2 g3 g4 g5;go_wp2;refine Jo.rk [0,1,2,3,4,5,6,7,8,9,10,11,12,13] [some 9,some 10,some 11,some 12,some 13,some 14,some 15,some 16,some 17,some 18,some 19,some 20,some 21,some 22] [[],[],[0,1],[2],[3],[4],[4],[4,5,6],[4,7],[8],[9],[9],[9,10,11],[9,12]] 14 0 [Jo.q4 K1 s1 M1 E1,Jo.q4 K2 s2 M2 E2,Jo.qi c,Jo.qb false,Jo.qb false,Jo.q4 K1 s1 M1 E1,Jo.q4 2 false 0 0,Jo.qb false,Jo.qb false,Jo.qb false,Jo.q4 K2 s2 M2 E2,Jo.q4 2 true 0 0,Jo.qb false,Jo.qb false] (by kernel_rfl) (by kernel_rfl) (by decide) rfl ?_ ?_
    ·iterate 2 (refine Jo.jm rfl ?_ ?_;rotate_left)
     refine Jo.jm rfl ?_ ?_
     ·rintro wj hJ _ rfl _ rfl K hK;simp only [Jo.z]at hK⊢;go_simp;refine (nCmp q1.top q2.top HC.out).mono ?_;rintro ee wk ⟨rfl,B⟩;exact hK.out _ _ rfl B
     refine Jo.jm rfl ?_ ?_
     ·rintro wj hJ _ rfl K hK;simp only [Jo.z]at hK⊢;have hc0:=HC0.out;go_simp
      exact hK.out _ _ (by first | rfl | (show Value.bool _=Value.bool _;rw [hc0]) | simp_all) (br _ _)
     iterate 2 (refine Jo.jm rfl ?_ ?_;rotate_left)
     refine Jo.jm rfl ?_ ?_
     ·rintro wj hJ _ rfl K hK;simp only [Jo.z]at hK⊢;go_simp;refine (nInfE false).mono ?_;rintro ee wk ⟨rfl,B⟩;exact hK.out _ _ rfl B
     refine Jo.jm rfl ?_ ?_
     ·rintro wj hJ _ rfl _ rfl _ rfl K hK;simp only [Jo.z]at hK⊢;have hne:=HN1.out;go_simp
      repeat' split
      all_goals exact hK.out _ _ (congrArg Value.bool (by first | rfl | (exfalso;simp_all))) (br _ _)
     iterate 3 (refine Jo.jm rfl ?_ ?_;rotate_left)
     refine Jo.jm rfl ?_ ?_
     ·rintro wj hJ _ rfl K hK;simp only [Jo.z]at hK⊢;go_simp;refine (nInfE true).mono ?_;rintro ee wk ⟨rfl,B⟩;exact hK.out _ _ rfl B
     refine Jo.jm rfl ?_ ?_
     ·rintro wj hJ _ rfl _ rfl _ rfl K hK;simp only [Jo.z]at hK⊢;have hne:=HN2.out;go_simp
      repeat' split
      all_goals exact hK.out _ _ (congrArg Value.bool (by first | rfl | (exfalso;simp_all))) (br _ _)
     refine Jo.jm rfl ?_ ?_;rotate_left
     exact Jo.Steps.nil
     all_goals (rintro wj hJ;(repeat rintro _ rfl);intro K hK;simp only [Jo.z]at hK⊢;have xX2:=(X2.below hJ).cell;have xX3:=(X3.below hJ).cell;go_simp;exact hK.out _ _ rfl (br _ _))
    rintro w8 hJ _ rfl _ rfl _ rfl _ rfl _ rfl _ rfl _ rfl _ rfl _ rfl _ rfl _ rfl _ rfl _ rfl _ rfl -;simp only [Jo.z];replace X2:=X2.below hJ;replace X3:=X3.below hJ;replace XR:=XR.below hJ;replace HB:=Hqb HB hJ;refine Jo.jdone (by kernel_rfl) ?_;have xXR:=XR.cell;have zXR0:=XR.frozen;have xX2:=X2.cell
    have xX3:=X3.cell;go_wp2;clear xXR zXR0 xX2 xX3;have SX:=StN.mk9 XR (.bool false) (.int .i64 K1) (.bool s1) (.int .u64 M1) (.int .i64 E1) (.int .i64 K2) (.bool s2) (.int .u64 M2) (.int .i64 E2);exact bodyPost_ret (by simp [results,Tryz.results61,go_sem,SX.box.cell]) rfl ⟨_,_,_,_,_,_,_,_,_,rfl,HV,(SX.below HB.out (by omega))⟩
theorem kvPoint{w:World}{D M E:Int}{s:Bool}{a:Int}{x:Sp}(hM:LQ M)(ha:rk D s M E=a)(hx:mkI a a=x):Calls Tryz.prog 35 #[VQ D s M E] w (PV w x):=by
 delta VQ
 have HA:=Lib.hid ha;have HX:=Lib.hid hx;clear ha hx
 go_enter Tryz.func35,Tryz.ntmps35
 go_upto_region 1 with (fail)
 generalize hW1:(w.alloc _).alloc _=w1 at *;obtain⟨X1,XR,HB⟩:=Bo.en2 hW1;clear hW1;have xX1:=X1.cell
 go_wp2_with fail
 refine (kvMake hM hM HA.out HA.out HX.out).mono ?_;rintro ee w2 ⟨e2,K2,s2,M2,E2,K2b,s2b,M2b,E2b,rfl,v2,B⟩;clear xX1;replace X1:=X1.below B;replace XR:=XR.below B;replace HB:=Hqb HB B;clear B;have xXR:=XR.cell;have zXR0:=XR.frozen;go_wp2;clear xXR zXR0
 have SX:=StN.mk9 XR (.bool e2) (.int .i64 K2) (.bool s2) (.int .u64 M2) (.int .i64 E2) (.int .i64 K2b) (.bool s2b) (.int .u64 M2b) (.int .i64 E2b);exact bodyPost_ret (by simp [results,Tryz.results35,go_sem,SX.box.cell]) rfl ⟨_,_,_,_,_,_,_,_,_,rfl,v2,(SX.below HB.out (by omega))⟩
theorem may_make{e:Bool}{D M E D' M' E':Int}{s s':Bool}{e4:Bool}{K4 M4 E4 K4b M4b E4b:Int}{s4 s4b:Bool}(hM:LQ M)(hM':LQ M')(v:Ci e4 K4 s4 M4 E4 K4b s4b M4b E4b (mkI (rk D s M E) (rk D' s' M' E')))(h1:¬(e=true∧D=0∧s=false∧M=0∧E=0∧D'=0∧s'=false∧M'=0∧E'=0)):(e=e4∧D=K4∧s=s4∧M=M4∧E=E4∧D'=K4b∧s'=s4b∧M'=M4b∧E'=E4b)↔mayI e D s M E D' s' M' E'=true:=by
 constructor
 ·rintro ⟨rfl,rfl,rfl,rfl,rfl,rfl,rfl,rfl,rfl⟩;exact v.may
 ·intro h
  have c:=mayI_ci hM hM' h
  cases e
  ·have h2:decide (rkI false D s M E D' s' M' E'≠none)=true:=h
   rw [rkI_f]at c;rw [decide_eq_true_iff,rkI_f]at h2
   by_cases hq:MayQ D s M E∧MayQ D' s' M' E'
   ·rw [if_pos hq]at c;exact c.uniq v
   ·rw [if_neg hq]at h2;exact absurd rfl h2
  ·rw [rkI_t]at c;exact absurd (c.uniq Ci.none) h1
theorem kvMay{w:World}{e:Bool}{D M E D' M' E':Int}{s s':Bool}{r:Bool}(hM:LQ M)(hM':LQ M')(hr:mayI e D s M E D' s' M' E'=r):Calls Tryz.prog 122 #[VI e D s M E D' s' M' E'] w (PB w r):=by
 delta VI
 by_cases h1:e=true∧D=0∧s=false∧M=0∧E=0∧D'=0∧s'=false∧M'=0∧E'=0
 ·obtain⟨rfl,rfl,rfl,rfl,rfl,rfl,rfl,rfl,rfl⟩:=h1
  obtain rfl:true=r:=Ci.none.may.symm.trans hr
  clear hr
  go_enter Tryz.func122,Tryz.ntmps122
  go_upto_region 1 with (fail)
  generalize hW1:w.alloc _=w1 at *;obtain⟨X1,HB⟩:=Bo.en1 hW1;clear hW1;refine Jo.rk [0,1,2,3,4,5,6,7,8,9,10,11,12] [some 3,some 4,some 5,some 6,some 7,some 8,some 9,some 10,some 11,some 12,some 13,some 14,some 2] [[],[],[0,1],[2],[3],[3],[3,5],[3],[3,7],[3,6,8],[3,4,9],[3,10],[11]] 13 0 [Jo.q9 true 0 false 0 0 0 false 0 0,Jo.q9 true 0 false 0 0 0 false 0 0,Jo.qb true,Jo.qb true,Jo.qu,Jo.qu,Jo.qu,Jo.qu,Jo.qu,Jo.qu,Jo.qu,Jo.qb true,Jo.qb true] (by kernel_rfl) (by kernel_rfl) (by decide) rfl ?_ ?_
  ·refine Jo.jm rfl ?_ ?_;rotate_left
   refine Jo.jm rfl ?_ ?_
   ·rintro wj hJ K hK;simp only [Jo.z]at hK⊢;go_simp;refine (kvNoneE).mono ?_;rintro ee wk ⟨rfl,B⟩;exact hK.out _ _ rfl B
   refine Jo.jm rfl ?_ ?_
   ·rintro wj hJ _ rfl _ rfl K hK;simp only [Jo.z]at hK⊢;go_simp
    repeat' split
    all_goals exact hK.out _ _ (congrArg Value.bool (by first | rfl | (exfalso;simp_all) | simp_all)) (br _ _)
   iterate 10 (refine Jo.jm rfl ?_ ?_;rotate_left)
   exact Jo.Steps.nil
   all_goals (rintro wj hJ;(repeat rintro _ rfl);intro K hK;simp only [Jo.z]at hK⊢;have xX1:=(X1.below hJ).cell;go_simp;exact hK.out _ _ rfl (br _ _))
  rintro w8 hJ _ rfl _ rfl _ rfl _ rfl _ rfl _ rfl _ rfl _ rfl _ rfl _ rfl _ rfl _ rfl _ rfl -;simp only [Jo.z];replace X1:=X1.below hJ;replace HB:=Hqb HB hJ;refine Jo.jdone (by kernel_rfl) ?_;go_wp2
  go_ret
  exact⟨rfl,HB.out⟩
 ·have HN1:=Lib.hid h1
  have HY:Hid (∀{e4 K4 s4 M4 E4 K4b s4b M4b E4b},Ci e4 K4 s4 M4 E4 K4b s4b M4b E4b (mkI (rk D s M E) (rk D' s' M' E'))→((e=e4∧D=K4∧s=s4∧M=M4∧E=E4∧D'=K4b∧s'=s4b∧M'=M4b∧E'=E4b)↔r=true)):=Lib.hid (fun v=>by rw [←hr];exact may_make hM hM' v h1)
  clear hr h1
  cases r
  ·go_enter Tryz.func122,Tryz.ntmps122
   go_upto_region 1 with (fail)
   generalize hW1:w.alloc _=w1 at *;obtain⟨X1,HB⟩:=Bo.en1 hW1;clear hW1;refine Jo.rk [0,1,2,3,4,5,6,7,8,9,10,11,12] [some 3,some 4,some 5,some 6,some 7,some 8,some 9,some 10,some 11,some 12,some 13,some 14,some 2] [[],[],[0,1],[2],[3],[3],[3,5],[3],[3,7],[3,6,8],[3,4,9],[3,10],[11]] 13 0 [Jo.q9 e D s M E D' s' M' E',Jo.q9 true 0 false 0 0 0 false 0 0,Jo.qb false,Jo.qb false,Jo.q9 e D s M E D' s' M' E',Jo.qp w.heap.size 1,Jo.q4 D s M E,Jo.qp w.heap.size 5,Jo.q4 D' s' M' E',Jo.Fact.iv (mkI (rk D s M E) (rk D' s' M' E')),Jo.qb false,Jo.qb false,Jo.qb false] (by kernel_rfl) (by kernel_rfl) (by decide) rfl ?_ ?_
   ·refine Jo.jm rfl ?_ ?_;rotate_left
    refine Jo.jm rfl ?_ ?_
    ·rintro wj hJ K hK;simp only [Jo.z]at hK⊢;go_simp;refine (kvNoneE).mono ?_;rintro ee wk ⟨rfl,B⟩;exact hK.out _ _ rfl B
    refine Jo.jm rfl ?_ ?_
    ·rintro wj hJ _ rfl _ rfl K hK;simp only [Jo.z]at hK⊢;have hne:=HN1.out;go_simp
     repeat' split
     all_goals exact hK.out _ _ (congrArg Value.bool (by first | rfl | (exfalso;simp_all))) (br _ _)
    iterate 6 (refine Jo.jm rfl ?_ ?_;rotate_left)
    refine Jo.jm rfl ?_ ?_
    ·rintro wj hJ _ rfl _ rfl _ rfl K hK;simp only [Jo.z]at hK⊢;go_simp;refine (kvMake hM hM' rfl rfl rfl).mono ?_;rintro ee wk ⟨e9,K9,s9,M9,E9,K9b,s9b,M9b,E9b,rfl,v9,B⟩;exact hK.out _ _ ⟨e9,K9,s9,M9,E9,K9b,s9b,M9b,E9b,rfl,v9⟩ B
    refine Jo.jm rfl ?_ ?_
    ·rintro wj hJ _ rfl _ rfl _ ⟨e9,K9,s9,M9,E9,K9b,s9b,M9b,E9b,rfl,v9⟩ K hK;simp only [Jo.z]at hK⊢
     have hne:=fun c=>ff ((HY.out v9).1 c)
     go_simp
     repeat' split
     all_goals exact hK.out _ _ (congrArg Value.bool (by first | rfl | (exfalso;simp_all))) (br _ _)
    iterate 2 (refine Jo.jm rfl ?_ ?_;rotate_left)
    exact Jo.Steps.nil
    all_goals (rintro wj hJ;(repeat rintro _ rfl);intro K hK;simp only [Jo.z]at hK⊢;have xX1:=(X1.below hJ).cell;go_simp;exact hK.out _ _ rfl (br _ _))
   rintro w8 hJ _ rfl _ rfl _ rfl _ rfl _ rfl _ _ _ rfl _ _ _ rfl _ ⟨e9,K9,s9,M9,E9,K9b,s9b,M9b,E9b,rfl,v9⟩ _ rfl _ rfl _ rfl -;simp only [Jo.z];replace X1:=X1.below hJ;replace HB:=Hqb HB hJ;refine Jo.jdone (by kernel_rfl) ?_;go_wp2
   go_ret
   exact⟨rfl,HB.out⟩
  ·go_enter Tryz.func122,Tryz.ntmps122
   go_upto_region 1 with (fail)
   generalize hW1:w.alloc _=w1 at *;obtain⟨X1,HB⟩:=Bo.en1 hW1;clear hW1;refine Jo.rk [0,1,2,3,4,5,6,7,8,9,10,11,12] [some 3,some 4,some 5,some 6,some 7,some 8,some 9,some 10,some 11,some 12,some 13,some 14,some 2] [[],[],[0,1],[2],[3],[3],[3,5],[3],[3,7],[3,6,8],[3,4,9],[3,10],[11]] 13 0 [Jo.q9 e D s M E D' s' M' E',Jo.q9 true 0 false 0 0 0 false 0 0,Jo.qb false,Jo.qb false,Jo.q9 e D s M E D' s' M' E',Jo.qp w.heap.size 1,Jo.q4 D s M E,Jo.qp w.heap.size 5,Jo.q4 D' s' M' E',Jo.Fact.iv (mkI (rk D s M E) (rk D' s' M' E')),Jo.qb true,Jo.qb true,Jo.qb true] (by kernel_rfl) (by kernel_rfl) (by decide) rfl ?_ ?_
   ·refine Jo.jm rfl ?_ ?_;rotate_left
    refine Jo.jm rfl ?_ ?_
    ·rintro wj hJ K hK;simp only [Jo.z]at hK⊢;go_simp;refine (kvNoneE).mono ?_;rintro ee wk ⟨rfl,B⟩;exact hK.out _ _ rfl B
    refine Jo.jm rfl ?_ ?_
    ·rintro wj hJ _ rfl _ rfl K hK;simp only [Jo.z]at hK⊢;have hne:=HN1.out;go_simp
     repeat' split
     all_goals exact hK.out _ _ (congrArg Value.bool (by first | rfl | (exfalso;simp_all))) (br _ _)
    iterate 6 (refine Jo.jm rfl ?_ ?_;rotate_left)
    refine Jo.jm rfl ?_ ?_
    ·rintro wj hJ _ rfl _ rfl _ rfl K hK;simp only [Jo.z]at hK⊢;go_simp;refine (kvMake hM hM' rfl rfl rfl).mono ?_;rintro ee wk ⟨e9,K9,s9,M9,E9,K9b,s9b,M9b,E9b,rfl,v9,B⟩;exact hK.out _ _ ⟨e9,K9,s9,M9,E9,K9b,s9b,M9b,E9b,rfl,v9⟩ B
    refine Jo.jm rfl ?_ ?_
    ·rintro wj hJ _ rfl _ rfl _ ⟨e9,K9,s9,M9,E9,K9b,s9b,M9b,E9b,rfl,v9⟩ K hK;simp only [Jo.z]at hK⊢;obtain⟨rfl,rfl,rfl,rfl,rfl,rfl,rfl,rfl,rfl⟩:=(HY.out v9).2 rfl;go_simp
     repeat' split
     all_goals exact hK.out _ _ (congrArg Value.bool (by first | rfl | (exfalso;simp_all) | simp_all)) (br _ _)
    iterate 2 (refine Jo.jm rfl ?_ ?_;rotate_left)
    exact Jo.Steps.nil
    all_goals (rintro wj hJ;(repeat rintro _ rfl);intro K hK;simp only [Jo.z]at hK⊢;have xX1:=(X1.below hJ).cell;go_simp;exact hK.out _ _ rfl (br _ _))
   rintro w8 hJ _ rfl _ rfl _ rfl _ rfl _ rfl _ _ _ rfl _ _ _ rfl _ ⟨e9,K9,s9,M9,E9,K9b,s9b,M9b,E9b,rfl,v9⟩ _ rfl _ rfl _ rfl -;simp only [Jo.z];replace X1:=X1.below hJ;replace HB:=Hqb HB hJ;refine Jo.jdone (by kernel_rfl) ?_;go_wp2
   go_ret
   exact⟨rfl,HB.out⟩
theorem kvOrE{w:World}{e:Bool}{D M E D' M' E':Int}{s s':Bool}{x:Sp}(hM:LQ M)(hM':LQ M')(hr:rkI e D s M E D' s' M' E'=x):Calls Tryz.prog 62 #[VI e D s M E D' s' M' E'] w (PV w x):=by
 delta VI
 cases hm:mayI e D s M E D' s' M' E'
 ·obtain rfl:none=x:=(mayI_no hm).symm.trans hr
  have HM:=Lib.hid hm;clear hm hr
  go_enter Tryz.func62,Tryz.ntmps62
  go_upto_region 1 with (fail)
  generalize hW1:(w.alloc _).alloc _=w1 at *;obtain⟨X1,XR,HB⟩:=Bo.en2 hW1;clear hW1;have xX1:=X1.cell
  go_wp2_with fail
  refine (kvMay hM hM' HM.out).mono ?_;rintro ee w2 ⟨rfl,B⟩;clear xX1;replace X1:=X1.below B;replace XR:=XR.below B;replace HB:=Hqb HB B;clear B;clear HM hM hM'
  go_wp2_with fail
  refine (kvNoneE).mono ?_;rintro ee w3 ⟨rfl,B⟩;replace X1:=X1.below B;replace XR:=XR.below B;replace HB:=Hqb HB B;clear B;have xXR:=XR.cell;have zXR0:=XR.frozen;go_wp2;clear xXR zXR0;have SX:=StN.mk9 XR (.bool true) (.int .i64 0) (.bool false) (.int .u64 0) (.int .i64 0) (.int .i64 0) (.bool false) (.int .u64 0) (.int .i64 0)
  exact bodyPost_ret (by simp [results,Tryz.results62,go_sem,SX.box.cell]) rfl ⟨_,_,_,_,_,_,_,_,_,rfl,Ci.none,(SX.below HB.out (by omega))⟩
 ·have hv:=mayI_ci hM hM' hm;rw [hr]at hv;have HM:=Lib.hid hm;clear hm hr
  go_enter Tryz.func62,Tryz.ntmps62
  go_upto_region 1 with (fail)
  generalize hW1:(w.alloc _).alloc _=w1 at *;obtain⟨X1,XR,HB⟩:=Bo.en2 hW1;clear hW1;have xX1:=X1.cell
  go_wp2_with fail
  refine (kvMay hM hM' HM.out).mono ?_;rintro ee w2 ⟨rfl,B⟩;clear xX1;replace X1:=X1.below B;replace XR:=XR.below B;replace HB:=Hqb HB B;clear B;clear HM hM hM';have xXR:=XR.cell;have zXR0:=XR.frozen;have xX1:=X1.cell;go_wp2
  clear xXR zXR0 xX1;have SX:=StN.mk9 XR (.bool e) (.int .i64 D) (.bool s) (.int .u64 M) (.int .i64 E) (.int .i64 D') (.bool s') (.int .u64 M') (.int .i64 E');exact bodyPost_ret (by simp [results,Tryz.results62,go_sem,SX.box.cell]) rfl ⟨_,_,_,_,_,_,_,_,_,rfl,hv,(SX.below HB.out (by omega))⟩
theorem kvWithin{w:World}{e:Bool}{D M E D' M' E':Int}{s s':Bool}{e2:Bool}{G P Q G' P' Q':Int}{g g':Bool}{x y:Sp}{r:Bool}(hM:LQ M)(hM':LQ M')(hP:LQ P)(hP':LQ P')(hx:rkI e D s M E D' s' M' E'=x)(hy:rkI e2 G g P Q G' g' P' Q'=y)(hr:witI x y=r):Calls Tryz.prog 22 #[VI e D s M E D' s' M' E',VI e2 G g P Q G' g' P' Q'] w (PB w r):=by
 delta VI
 have HX:=Lib.hid hx;have HY:=Lib.hid hy;clear hx hy
 go_enter Tryz.func22,Tryz.ntmps22
 go_upto_region 1 with (fail)
 generalize hW1:(w.alloc _).alloc _=w1 at *;obtain⟨X2,X3,HB⟩:=Bo.en2 hW1;clear hW1;refine Jo.rk [0,1,2,3] [some 5,some 6,some 7,some 8,none,none] [[],[0],[],[2],[],[]] 6 2 [Jo.q9 e D s M E D' s' M' E',Jo.Fact.iv x,Jo.q9 e2 G g P Q G' g' P' Q',Jo.Fact.iv y,Jo.Fact.any,Jo.Fact.any] (by kernel_rfl) (by kernel_rfl) (by decide) rfl ?_ ?_
 ·refine Jo.jm rfl ?_ ?_;rotate_left
  refine Jo.jm rfl ?_ ?_
  ·rintro wj hJ _ rfl K hK;simp only [Jo.z]at hK⊢;go_simp;refine (kvOrE hM hM' HX.out).mono ?_;rintro ee wk ⟨e1,K1,s1,M1,E1,K1b,s1b,M1b,E1b,rfl,v1,B⟩;exact hK.out _ _ ⟨e1,K1,s1,M1,E1,K1b,s1b,M1b,E1b,rfl,v1⟩ B
  refine Jo.jm rfl ?_ ?_;rotate_left
  refine Jo.jm rfl ?_ ?_
  ·rintro wj hJ _ rfl K hK;simp only [Jo.z]at hK⊢;go_simp;refine (kvOrE hP hP' HY.out).mono ?_;rintro ee wk ⟨e6,K6,s6,M6,E6,K6b,s6b,M6b,E6b,rfl,v6,B⟩;exact hK.out _ _ ⟨e6,K6,s6,M6,E6,K6b,s6b,M6b,E6b,rfl,v6⟩ B
  exact Jo.Steps.nil
  all_goals (rintro wj hJ;(repeat rintro _ rfl);intro K hK;simp only [Jo.z]at hK⊢;have xX2:=(X2.below hJ).cell;have xX3:=(X3.below hJ).cell;go_simp;exact hK.out _ _ rfl (br _ _))
 rintro w2 hJ _ rfl _ ⟨e1,K1,s1,M1,E1,K1b,s1b,M1b,E1b,rfl,v1⟩ _ rfl _ ⟨e6,K6,s6,M6,E6,K6b,s6b,M6b,E6b,rfl,v6⟩ -;simp only [Jo.z];replace X2:=X2.below hJ;replace X3:=X3.below hJ;replace HB:=Hqb HB hJ;have xX2:=X2.cell;have zX20:=X2.frozen
 refine Jo.jnext (i:=4) (o:=⟨none,_,_,_,_,_⟩) (by kernel_rfl) rfl (fun K hK=>?_)
 go_simp;refine hK.out _ _ ?_;clear hK K xX2 zX20;generalize hS:((((((((w2.setCell _ _).setCell _ _).setCell _ _).setCell _ _).setCell _ _).setCell _ _).setCell _ _).setCell _ _).setCell _ _=w3 at *;have SX:=StN.of9 X2 hS;replace X3:=X3.stn SX (by omega);replace HB:=Hqs HB SX (by omega);replace X2:=SX.box;clear SX hS;have xX3:=X3.cell
 have zX30:=X3.frozen
 refine Jo.jnext (i:=5) (o:=⟨none,_,_,_,_,_⟩) (by kernel_rfl) rfl (fun K hK=>?_)
 go_simp;refine hK.out _ _ ?_;clear hK K xX3 zX30;generalize hS:((((((((w3.setCell _ _).setCell _ _).setCell _ _).setCell _ _).setCell _ _).setCell _ _).setCell _ _).setCell _ _).setCell _ _=w4 at *;have SX:=StN.of9 X3 hS;replace X2:=X2.stn SX (by omega);replace HB:=Hqs HB SX (by omega);replace X3:=SX.box;clear SX hS;refine Jo.jdone (by kernel_rfl) ?_
 clear HX HY hM hM' hP hP'
 rcases x with _ | ⟨xa,xb⟩
 ·obtain⟨rfl,y1,y1b⟩:=v1
  obtain rfl:true=r:=hr
  obtain⟨_,rfl,rfl,rfl,rfl,rfl,rfl,rfl,rfl⟩:=(show Ci true K1 s1 M1 E1 K1b s1b M1b E1b none from ⟨rfl,y1,y1b⟩).uniq Ci.none
  clear y1 y1b;go_wp2;refine Jo.rk [0,1,2,3] [some 10,some 11,some 12,some 9] [[],[],[0,1],[2]] 4 0 [Jo.q9 true 0 false 0 0 0 false 0 0,Jo.q9 true 0 false 0 0 0 false 0 0,Jo.qb true,Jo.qb true] (by kernel_rfl) (by kernel_rfl) (by decide) rfl ?_ ?_
  ·refine Jo.jm rfl ?_ ?_;rotate_left
   refine Jo.jm rfl ?_ ?_
   ·rintro wj hJ K hK;simp only [Jo.z]at hK⊢;go_simp;refine (kvNoneE).mono ?_;rintro ee wk ⟨rfl,B⟩;exact hK.out _ _ rfl B
   refine Jo.jm rfl ?_ ?_
   ·rintro wj hJ _ rfl _ rfl K hK;simp only [Jo.z]at hK⊢;go_simp
    repeat' split
    all_goals exact hK.out _ _ (congrArg Value.bool (by first | rfl | (exfalso;simp_all) | simp_all)) (br _ _)
   refine Jo.jm rfl ?_ ?_;rotate_left
   exact Jo.Steps.nil
   all_goals (rintro wj hJ;(repeat rintro _ rfl);intro K hK;simp only [Jo.z]at hK⊢;have xX2:=(X2.below hJ).cell;go_simp;exact hK.out _ _ rfl (br _ _))
  rintro w5 hJ _ rfl _ rfl _ rfl _ rfl -;simp only [Jo.z];replace X2:=X2.below hJ;replace X3:=X3.below hJ;replace HB:=Hqb HB hJ;refine Jo.jdone (by kernel_rfl) ?_;go_wp2
  go_ret
  exact⟨rfl,HB.out⟩
 ·obtain⟨rfl,a1,b1,o1,o1l,o1h⟩:=v1;go_wp2;refine Jo.rk [0,1,2,3] [some 10,some 11,some 12,some 9] [[],[],[0,1],[2]] 4 0 [Jo.q9 false K1 s1 M1 E1 K1b s1b M1b E1b,Jo.q9 true 0 false 0 0 0 false 0 0,Jo.qb false,Jo.qb false] (by kernel_rfl) (by kernel_rfl) (by decide) rfl ?_ ?_
  ·refine Jo.jm rfl ?_ ?_;rotate_left
   refine Jo.jm rfl ?_ ?_
   ·rintro wj hJ K hK;simp only [Jo.z]at hK⊢;go_simp;refine (kvNoneE).mono ?_;rintro ee wk ⟨rfl,B⟩;exact hK.out _ _ rfl B
   refine Jo.jm rfl ?_ ?_
   ·rintro wj hJ _ rfl _ rfl K hK;simp only [Jo.z]at hK⊢;go_simp
    repeat' split
    all_goals exact hK.out _ _ (congrArg Value.bool (by first | rfl | (exfalso;simp_all))) (br _ _)
   refine Jo.jm rfl ?_ ?_;rotate_left
   exact Jo.Steps.nil
   all_goals (rintro wj hJ;(repeat rintro _ rfl);intro K hK;simp only [Jo.z]at hK⊢;have xX2:=(X2.below hJ).cell;go_simp;exact hK.out _ _ rfl (br _ _))
  rintro w5 hJ _ rfl _ rfl _ rfl _ rfl -;simp only [Jo.z];replace X2:=X2.below hJ;replace X3:=X3.below hJ;replace HB:=Hqb HB hJ;refine Jo.jdone (by kernel_rfl) ?_
  rcases y with _ | ⟨ya,yb⟩
  ·obtain⟨rfl,y6,y6b⟩:=v6
   obtain rfl:false=r:=hr
   obtain⟨_,rfl,rfl,rfl,rfl,rfl,rfl,rfl,rfl⟩:=(show Ci true K6 s6 M6 E6 K6b s6b M6b E6b none from ⟨rfl,y6,y6b⟩).uniq Ci.none
   clear y6 y6b;go_wp2;refine Jo.rk [0,1,2,3] [some 14,some 15,some 16,some 13] [[],[],[0,1],[2]] 4 0 [Jo.q9 true 0 false 0 0 0 false 0 0,Jo.q9 true 0 false 0 0 0 false 0 0,Jo.qb true,Jo.qb true] (by kernel_rfl) (by kernel_rfl) (by decide) rfl ?_ ?_
   ·refine Jo.jm rfl ?_ ?_;rotate_left
    refine Jo.jm rfl ?_ ?_
    ·rintro wj hJ K hK;simp only [Jo.z]at hK⊢;go_simp;refine (kvNoneE).mono ?_;rintro ee wk ⟨rfl,B⟩;exact hK.out _ _ rfl B
    refine Jo.jm rfl ?_ ?_
    ·rintro wj hJ _ rfl _ rfl K hK;simp only [Jo.z]at hK⊢;go_simp
     repeat' split
     all_goals exact hK.out _ _ (congrArg Value.bool (by first | rfl | (exfalso;simp_all) | simp_all)) (br _ _)
    refine Jo.jm rfl ?_ ?_;rotate_left
    exact Jo.Steps.nil
    all_goals (rintro wj hJ;(repeat rintro _ rfl);intro K hK;simp only [Jo.z]at hK⊢;have xX3:=(X3.below hJ).cell;go_simp;exact hK.out _ _ rfl (br _ _))
   rintro w6 hJ _ rfl _ rfl _ rfl _ rfl -;simp only [Jo.z];replace X2:=X2.below hJ;replace X3:=X3.below hJ;replace HB:=Hqb HB hJ;refine Jo.jdone (by kernel_rfl) ?_;go_wp2
   go_ret
   exact⟨rfl,HB.out⟩
  ·obtain⟨rfl,a6,b6,o6,o6l,o6h⟩:=v6;go_wp2;refine Jo.rk [0,1,2,3] [some 14,some 15,some 16,some 13] [[],[],[0,1],[2]] 4 0 [Jo.q9 false K6 s6 M6 E6 K6b s6b M6b E6b,Jo.q9 true 0 false 0 0 0 false 0 0,Jo.qb false,Jo.qb false] (by kernel_rfl) (by kernel_rfl) (by decide) rfl ?_ ?_
   ·refine Jo.jm rfl ?_ ?_;rotate_left
    refine Jo.jm rfl ?_ ?_
    ·rintro wj hJ K hK;simp only [Jo.z]at hK⊢;go_simp;refine (kvNoneE).mono ?_;rintro ee wk ⟨rfl,B⟩;exact hK.out _ _ rfl B
    refine Jo.jm rfl ?_ ?_
    ·rintro wj hJ _ rfl _ rfl K hK;simp only [Jo.z]at hK⊢;go_simp
     repeat' split
     all_goals exact hK.out _ _ (congrArg Value.bool (by first | rfl | (exfalso;simp_all))) (br _ _)
    refine Jo.jm rfl ?_ ?_;rotate_left
    exact Jo.Steps.nil
    all_goals (rintro wj hJ;(repeat rintro _ rfl);intro K hK;simp only [Jo.z]at hK⊢;have xX3:=(X3.below hJ).cell;go_simp;exact hK.out _ _ rfl (br _ _))
   rintro w6 hJ _ rfl _ rfl _ rfl _ rfl -;simp only [Jo.z];replace X2:=X2.below hJ;replace X3:=X3.below hJ;replace HB:=Hqb HB hJ;refine Jo.jdone (by kernel_rfl) ?_
   have hr2:(decide (ya≤xa) && decide (xb≤yb))=r:=hr
   clear hr
   cases hk1:decide (ya≤xa)
   ·rw [hk1]at hr2
    obtain rfl:false=r:=hr2
    obtain⟨c1,hc1⟩:∃c,cmpI xa ya=c:=⟨_,rfl⟩;have ht1:=cmp_geE hc1;rw [hk1]at ht1
    have HC1:Hid (cmpI (rk K1 s1 M1 E1) (rk K6 s6 M6 E6)=c1):=Lib.hid (by rw [a1.rk,a6.rk];exact hc1)
    clear hc1 hk1;have xX2:=X2.cell;have xX3:=X3.cell
    go_wp2_with fail
    refine (nCmp a1.top a6.top HC1.out).mono ?_;rintro ee w7 ⟨rfl,B⟩;clear xX2 xX3;replace X2:=X2.below B;replace X3:=X3.below B;replace HB:=Hqb HB B;clear B;go_wp2
    go_ret
    exact⟨rfl,HB.out⟩
   ·rw [hk1]at hr2;obtain⟨z,hk3⟩:∃z,decide (xb≤yb)=z:=⟨_,rfl⟩;rw [hk3]at hr2
    obtain rfl:z=r:=hr2
    obtain⟨c1,hc1⟩:∃c,cmpI xa ya=c:=⟨_,rfl⟩;have ht1:=cmp_geE hc1;rw [hk1]at ht1
    have HC1:Hid (cmpI (rk K1 s1 M1 E1) (rk K6 s6 M6 E6)=c1):=Lib.hid (by rw [a1.rk,a6.rk];exact hc1)
    clear hc1 hk1;have xX2:=X2.cell;have xX3:=X3.cell
    go_wp2_with fail
    refine (nCmp a1.top a6.top HC1.out).mono ?_;rintro ee w7 ⟨rfl,B⟩;clear xX2 xX3;replace X2:=X2.below B;replace X3:=X3.below B;replace HB:=Hqb HB B;clear B;obtain⟨c3,hc3⟩:∃c,cmpI xb yb=c:=⟨_,rfl⟩;have ht3:=cmp_le hc3;rw [hk3]at ht3
    have HC3:Hid (cmpI (rk K1b s1b M1b E1b) (rk K6b s6b M6b E6b)=c3):=Lib.hid (by rw [b1.rk,b6.rk];exact hc3)
    clear hc3 hk3;have xX2:=X2.cell;have xX3:=X3.cell
    go_wp2_with fail
    refine (nCmp b1.top b6.top HC3.out).mono ?_;rintro ee w8 ⟨rfl,B⟩;clear xX2 xX3;replace X2:=X2.below B;replace X3:=X3.below B;replace HB:=Hqb HB B;clear B;go_wp2
    go_ret
    exact⟨by first | rfl | (show Ending.returned (.bool _)=_;rw [ht3]),HB.out⟩
theorem has_pt{x:Sp}{n:Int}(h1: -19342822337206103650074625 < n)(h2:n < 19342822337206103650074625):hasI x n=witI (some (n,n)) x:=by
 have hi:infp n=false:=by
  rcases h:infp n
  ·rfl
  ·have:=TP_eq
   rcases infp_true h with e | e <;> omega
 rcases x with _ | ⟨a,b⟩
 ·rfl
 ·show (!infp n && decide (a≤n) && decide (n≤b))=(decide (a≤n) && decide (n≤b))
  rw [hi]
  rfl
theorem has_inf{x:Sp}{n:Int}(h:¬(-19342822337206103650074625 < n∧n < 19342822337206103650074625))(b1: -19342822337206103650074625≤n)(b2:n≤19342822337206103650074625):hasI x n=false:=by
 have hi:infp n=true:=by
  rcases (by omega:n= -19342822337206103650074625∨n=19342822337206103650074625)with rfl | rfl <;> rfl
 rcases x with _ | ⟨a,b⟩
 ·rfl
 ·show (!infp n && decide (a≤n) && decide (n≤b))=false
  rw [hi]
  rfl
theorem rk_bdn{D:Int}{s:Bool}{M E n:Int}(hM:LQ M)(h:rk D s M E=n): -19342822337206103650074625≤n∧n≤19342822337206103650074625:=by
 by_cases hm:MayQ D s M E
 ·have:=(rk_fq hM hm).bd
  rw [h]at this;exact this
 ·rw [rk_not hm]at h
  omega
theorem kvHas{w:World}{e:Bool}{D M E D' M' E':Int}{s s':Bool}{G P Q:Int}{g:Bool}{x:Sp}{n:Int}{r:Bool}(hM:LQ M)(hM':LQ M')(hP:LQ P)(hx:rkI e D s M E D' s' M' E'=x)(hn:rk G g P Q=n)(hr:hasI x n=r):Calls Tryz.prog 32 #[VI e D s M E D' s' M' E',VQ G g P Q] w (PB w r):=by
 delta VI VQ
 have hbd:=rk_bdn hP hn;have HX:=Lib.hid hx;have HN:=Lib.hid hn;clear hx hn
 by_cases hin: -19342822337206103650074625 < n∧n < 19342822337206103650074625
 ·have HR:=Lib.hid ((has_pt hin.1 hin.2).symm.trans hr);have HI:=Lib.hid (mkI_some (a:=n) (b:=n) (by omega) hin.2 hin.1);clear hr hbd
  go_enter Tryz.func32,Tryz.ntmps32
  go_upto_region 1 with (fail)
  generalize hW1:(w.alloc _).alloc _=w1 at *;obtain⟨X2,X3,HB⟩:=Bo.en2 hW1;clear hW1;have xX3:=X3.cell
  go_wp2_with fail
  refine (kvPoint hP HN.out HI.out).mono ?_;rintro ee w2 ⟨e1,K1,s1,M1,E1,K1b,s1b,M1b,E1b,rfl,v1,B⟩;clear xX3;replace X2:=X2.below B;replace X3:=X3.below B;replace HB:=Hqb HB B;clear B
  go_upto_region 2 with (fail)
  have lX5:=Nat.le_refl (World.heap w2).size;have nX5X2:=X2.lt;have nX5X3:=X3.lt;generalize hWn:w2.alloc _=w3 at *;obtain⟨X5,BW⟩:=Bo.nw hWn;clear hWn;replace X2:=X2.below BW;replace X3:=X3.below BW;replace HB:=Hqb HB BW;clear BW;clear lX5;have e1f:=v1.1;subst e1f;refine Jo.rk [0,1,2,3,4,5,6,7,8] [some 8,some 9,some 10,some 11,some 12,some 13,some 14,some 15,some 4] [[],[],[0,1],[2],[3],[3],[3,4,5],[3,6],[7]] 9 0 [Jo.q9 false K1 s1 M1 E1 K1b s1b M1b E1b,Jo.q9 true 0 false 0 0 0 false 0 0,Jo.qb true,Jo.qb true,Jo.q9 false K1 s1 M1 E1 K1b s1b M1b E1b,Jo.q9 e D s M E D' s' M' E',Jo.qb r,Jo.qb r,Jo.qb r] (by kernel_rfl) (by kernel_rfl) (by decide) rfl ?_ ?_
  ·refine Jo.jm rfl ?_ ?_;rotate_left
   refine Jo.jm rfl ?_ ?_
   ·rintro wj hJ K hK;simp only [Jo.z]at hK⊢;go_simp;refine (kvNoneE).mono ?_;rintro ee wk ⟨rfl,B⟩;exact hK.out _ _ rfl B
   refine Jo.jm rfl ?_ ?_
   ·rintro wj hJ _ rfl _ rfl K hK;simp only [Jo.z]at hK⊢;go_simp
    repeat' split
    all_goals exact hK.out _ _ (congrArg Value.bool (by first | rfl | (exfalso;simp_all) | simp_all)) (br _ _)
   iterate 3 (refine Jo.jm rfl ?_ ?_;rotate_left)
   refine Jo.jm rfl ?_ ?_
   ·rintro wj hJ _ rfl _ rfl _ rfl K hK;simp only [Jo.z]at hK⊢;go_simp;refine (kvWithin v1.top.1 v1.top.2 hM hM' v1.rk HX.out HR.out).mono ?_;rintro ee wk ⟨rfl,B⟩;exact hK.out _ _ rfl B
   iterate 2 (refine Jo.jm rfl ?_ ?_;rotate_left)
   exact Jo.Steps.nil
   all_goals (rintro wj hJ;(repeat rintro _ rfl);intro K hK;simp only [Jo.z]at hK⊢;have xX5:=(X5.below hJ).cell;have xX2:=(X2.below hJ).cell;go_simp;exact hK.out _ _ rfl (br _ _))
  rintro w8 hJ _ rfl _ rfl _ rfl _ rfl _ rfl _ rfl _ rfl _ rfl _ rfl -;simp only [Jo.z];replace X2:=X2.below hJ;replace X3:=X3.below hJ;replace X5:=X5.below hJ;replace HB:=Hqb HB hJ;refine Jo.jdone (by kernel_rfl) ?_;go_wp2
  go_ret
  exact⟨rfl,HB.out⟩
 ·have hf:=has_inf (x:=x) hin hbd.1 hbd.2
  obtain rfl:false=r:=hf.symm.trans hr
  have HI:Hid (mkI n n=none):=Lib.hid (mkI_none (by omega))
  clear hr hbd hf
  go_enter Tryz.func32,Tryz.ntmps32
  go_upto_region 1 with (fail)
  generalize hW1:(w.alloc _).alloc _=w1 at *;obtain⟨X2,X3,HB⟩:=Bo.en2 hW1;clear hW1;have xX3:=X3.cell
  go_wp2_with fail
  refine (kvPoint hP HN.out HI.out).mono ?_;rintro ee w2 ⟨e1,K1,s1,M1,E1,K1b,s1b,M1b,E1b,rfl,v1,B⟩;clear xX3;replace X2:=X2.below B;replace X3:=X3.below B;replace HB:=Hqb HB B;clear B
  go_upto_region 2 with (fail)
  have lX5:=Nat.le_refl (World.heap w2).size;have nX5X2:=X2.lt;have nX5X3:=X3.lt;generalize hWn:w2.alloc _=w3 at *;obtain⟨X5,BW⟩:=Bo.nw hWn;clear hWn;replace X2:=X2.below BW;replace X3:=X3.below BW;replace HB:=Hqb HB BW;clear BW;clear lX5;obtain⟨rfl,rfl,rfl,rfl,rfl,rfl,rfl,rfl,rfl⟩:=v1.uniq Ci.none;refine Jo.rk [0,1,2,3,4,5,6,7,8] [some 8,some 9,some 10,some 11,some 12,some 13,some 14,some 15,some 4] [[],[],[0,1],[2],[3],[3],[3,4,5],[3,6],[7]] 9 0 [Jo.q9 true 0 false 0 0 0 false 0 0,Jo.q9 true 0 false 0 0 0 false 0 0,Jo.qb false,Jo.qb false,Jo.qu,Jo.qu,Jo.qu,Jo.qb false,Jo.qb false] (by kernel_rfl) (by kernel_rfl) (by decide) rfl ?_ ?_
  ·refine Jo.jm rfl ?_ ?_;rotate_left
   refine Jo.jm rfl ?_ ?_
   ·rintro wj hJ K hK;simp only [Jo.z]at hK⊢;go_simp;refine (kvNoneE).mono ?_;rintro ee wk ⟨rfl,B⟩;exact hK.out _ _ rfl B
   refine Jo.jm rfl ?_ ?_
   ·rintro wj hJ _ rfl _ rfl K hK;simp only [Jo.z]at hK⊢;go_simp
    repeat' split
    all_goals exact hK.out _ _ (congrArg Value.bool (by first | rfl | (exfalso;simp_all) | simp_all)) (br _ _)
   iterate 6 (refine Jo.jm rfl ?_ ?_;rotate_left)
   exact Jo.Steps.nil
   all_goals (rintro wj hJ;(repeat rintro _ rfl);intro K hK;simp only [Jo.z]at hK⊢;have xX5:=(X5.below hJ).cell;go_simp;exact hK.out _ _ rfl (br _ _))
  rintro w8 hJ _ rfl _ rfl _ rfl _ rfl _ rfl _ rfl _ rfl _ rfl _ rfl -;simp only [Jo.z];replace X2:=X2.below hJ;replace X3:=X3.below hJ;replace X5:=X5.below hJ;replace HB:=Hqb HB hJ;refine Jo.jdone (by kernel_rfl) ?_;go_wp2
  go_ret
  exact⟨rfl,HB.out⟩
end Go.Proofs.YtaadmpiphnfllaaGreatDoor
