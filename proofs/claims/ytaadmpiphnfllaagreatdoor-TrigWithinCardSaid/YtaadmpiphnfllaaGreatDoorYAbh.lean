/-
 Contracts that the proof rests on.
-/
import Derived.Test.YtaadmpiphnfllaaGreatDoorYAau
import Derived.Test.YtaadmpiphnfllaaGreatDoorYAbg
namespace Go.Proofs.YtaadmpiphnfllaaGreatDoor
set_option maxHeartbeats 16000000
open Go.RowKit
set_option linter.unusedVariables false
set_option linter.unusedSimpArgs false
set_option maxRecDepth 100000
theorem tDown{w:World}{A:Option Addr}{n c:Nat}{s:Bool}{x:Int}{B:Option Addr}{m d:Nat}{t:Bool}{y:Int}{q:Int}(h:Wr w s A n c x)(k:Wr w t B m d y)(hn:n≤268435456)(hm:m≤268435456)(h0:y≠0)(hq:x.fdiv y=q):Calls Tryz.prog 44 #[.agg #[.bool s,.slice A n c],.agg #[.bool t,.slice B m d]] w (W1 w (n+m+4) q):=by
 go_enter Tryz.func44,Tryz.ntmps44
 go_upto_region 1 with (fail)
 generalize hW1:((w.alloc _).alloc _).alloc _=w1 at *;obtain⟨X2,X3,XR,HB⟩:=Bo.en3 hW1;replace h:=h.below HB.out;replace k:=k.below HB.out;clear hW1;have xX2:=X2.cell;have xX3:=X3.cell
 go_wp2_with fail
 refine (wDiv h k (by omega) (by omega) h0 hq rfl).mono ?_;rintro ee w2 ⟨s8,A8,n8,c8,s9,A9,n9,c9,rfl,p8,p9,k8,k9,B⟩;clear xX2 xX3;replace X2:=X2.below B;replace X3:=X3.below B;replace XR:=XR.below B;replace h:=h.below B;replace k:=k.below B;replace HB:=Hqb HB B;clear B;clear h k;clear X2 X3
 go_upto_region 2 with (fail)
 have e4X6:(World.alloc w2 (.cells #[.bool s8,.slice A8 n8 c8] 27)).heap.size=w2.heap.size+1:=by simp
 have lX5:=Nat.le_refl (World.heap w2).size;have nX5XR:=XR.lt;have BX:=bel1 w2 (.cells #[.bool s8,.slice A8 n8 c8] 27);replace XR:=XR.below BX;replace p8:=p8.below BX;replace p9:=p9.below BX;replace HB:=Lib.hid (bt HB.out BX);have X5:=Bo.new w2 #[.bool s8,.slice A8 n8 c8] 27
 generalize hWn:World.alloc w2 (.cells #[.bool s8,.slice A8 n8 c8] 27)=w3 at *;clear hWn;have lX6:=Nat.le_refl (World.heap w3).size;have nX6XR:=XR.lt;have nX6X5:=X5.lt;generalize hWn:w3.alloc _=w4 at *;obtain⟨X6,BW⟩:=Bo.nw hWn;clear hWn;replace XR:=XR.below BW;replace X5:=X5.below BW;replace p8:=p8.below BW;replace p9:=p9.below BW;replace HB:=Hqb HB BW
 clear BW;rw [e4X6]at X6;clear lX5 lX6 e4X6;clear p9;have xXR:=XR.cell;have zXR0:=XR.frozen;have xX5:=X5.cell;go_wp2;clear xXR zXR0 xX5;have SX:=StN.mk2 XR (.bool s8) (.slice A8 n8 c8);replace p8:=p8.stn SX (by simp [no32]);exact bodyPost_ret (v:= .agg #[.bool s8,.slice A8 n8 c8]) (by simp [results,Tryz.results44,go_sem,SX.box.cell]) rfl ⟨s8,A8,n8,c8,rfl,p8,by omega,(SX.below HB.out (by omega))⟩
def Jo.TFact.w2t (x y:Int):Jo.TFact #[.bool false,.slice none 0 0] 27:=⟨fun v w=>∃s1 A1 n1 c1 s2 A2 n2 c2,v= .tuple #[.agg #[.bool s1,.slice A1 n1 c1],.agg #[.bool s2,.slice A2 n2 c2],.bool true]∧Wn w s1 A1 n1 c1 x∧Wn w s2 A2 n2 c2 y∧n1≤1000000000∧n2≤1000000000,fun v w w' h b=>by
 obtain⟨s1,A1,n1,c1,s2,A2,n2,c2,e,p,q,k,l⟩:=h
 exact⟨s1,A1,n1,c1,s2,A2,n2,c2,e,p.below b,q.below b,k,l⟩,fun v w w' g cs h S=>by
 obtain⟨s1,A1,n1,c1,s2,A2,n2,c2,e,p,q,k,l⟩:=h;exact⟨s1,A1,n1,c1,s2,A2,n2,c2,e,p.stn S (by simp [no32]),q.stn S (by simp [no32]),k,l⟩⟩
def Jo.TFact.wn (x:Int)(K:Nat):Jo.TFact #[.bool false,.slice none 0 0] 27:=⟨fun v w=>∃s1 A1 n1 c1,v= .agg #[.bool s1,.slice A1 n1 c1]∧Wn w s1 A1 n1 c1 x∧n1≤K,fun v w w' h b=>by
 obtain⟨s1,A1,n1,c1,e,p,k⟩:=h
 exact⟨s1,A1,n1,c1,e,p.below b,k⟩,fun v w w' g cs h S=>by
 obtain⟨s1,A1,n1,c1,e,p,k⟩:=h;exact⟨s1,A1,n1,c1,e,p.stn S (by simp [no32]),k⟩⟩
theorem odd_cmp{x:Int}{b:Bool}(h:decide (x%2=1)=b):(cmpI (x.fmod 2) 0 !=0)=b:=by
 rw [←h,Int.fmod_eq_emod_of_nonneg _ (by decide)]
 rcases Int.emod_two_eq x with e | e <;> rw [e] <;> rfl
theorem tOdd{w:World}{A:Option Addr}{n c:Nat}{s:Bool}{x:Int}{b:Bool}(h:Wr w s A n c x)(hn:n≤1000000)(hb:decide (x%2=1)=b):Calls Tryz.prog 147 #[.agg #[.bool s,.slice A n c]] w (PB w b):=by
 obtain⟨r,hr⟩:∃r,x.fmod 2=r:=⟨_,rfl⟩;obtain⟨σ,hσ⟩:∃σ,cmpI r 0=σ:=⟨_,rfl⟩;have hc:=odd_cmp hb;rw [hr,hσ]at hc;have HR:=Lib.hid hr;have HS:=Lib.hid hσ;have HC:=Lib.hid hc;clear hr hσ hc
 go_enter Tryz.func147,Tryz.ntmps147
 go_upto_region 1 with (fail)
 generalize hW1:w.alloc _=w1 at *;obtain⟨X1,HB⟩:=Bo.en1 hW1;replace h:=h.below HB.out;clear hW1;have ltX1:=X1.lt;have hszp:=HB.out.size
 refine Jo.region_quad (old:= #[.bool false,.slice none 0 0]) (R:=27) (T:=[0,1,2,3,4,5,6,7,8,9,10]) (ds:=[some 7,some 8,some 9,some 6,some 10,some 11,some 12,some 3,some 4,none,none,some 5]) (ls:=[[],[],[0,1],[2],[3],[3],[3],[],[],[4,7,8],[5,7,8],[]]) (k:=12) (L:=[(some 7,0),(some 8,1),(some 9,2),(some 6,3),(some 10,4),(some 11,5),(some 12,6),(some 3,7),(some 4,8),(none,9),(none,10)]) (fuel:=1) (w1:=w1) (p:=7) (q:=8) (s:=9) (e:=4) (s2:=10) (e2:=5)
  (F:=[Jo.TFact.eq (.agg #[.bool s,.slice A n c]),Jo.TFact.wn (2) (2),Jo.TFact.w2t (x.fdiv 2) r,Jo.TFact.w2t (x.fdiv 2) r,Jo.TFact.wn (x.fdiv 2) (1000000000),Jo.TFact.wn (r) (1000000000),Jo.TFact.eq (.bool true),Jo.TFact.any,Jo.TFact.any,Jo.TFact.any,Jo.TFact.any,Jo.TFact.any])
  (by decide) (by decide) (by decide) (by decide) (by kernel_rfl) (by kernel_rfl) (by decide) rfl rfl ?_ (fun vs w2 hJ hd hpq=>?_)
 ·refine Jo.xcons (i:=0) (o:=⟨some 7,_,_,_,_,_⟩) (di:=some 7) (L:=[]) (f:=Jo.TFact.eq (.agg #[.bool s,.slice A n c])) (by decide) (by decide) (by decide) (by decide) rfl rfl rfl rfl (fun vs wj hJ hd K hK=>?_) ?_
  ·clear hd;simp only [Jo.putl,Jo.ze,Act.put,Jo.za,Jo.zb,Jo.zc]at hK⊢
   have xX10:World.cell? wj ⟨w.heap.size,0,none⟩=some (.bool s):=(X1.below hJ).cell 0
   have xX11:World.cell? wj ⟨w.heap.size,1,none⟩=some (.slice A n c):=(X1.below hJ).cell 1
   go_simp;exact hK.out _ _ rfl (br _ _)
  refine Jo.xcons (i:=1) (o:=⟨some 8,_,_,_,_,_⟩) (di:=some 8) (L:=[]) (f:=Jo.TFact.wn (2) (2)) (by decide) (by decide) (by decide) (by decide) rfl rfl rfl rfl (fun vs wj hJ hd K hK=>?_) ?_
  ·clear hd;simp only [Jo.putl,Jo.ze,Act.put,Jo.za,Jo.zb,Jo.zc]at hK⊢;go_simp;refine (wFrom 2 _ (by decide) (by decide)).mono ?_;rintro ee wk ⟨s20,A20,n20,c20,rfl,p20,k20,B⟩;exact hK.out _ _ ⟨s20,A20,n20,c20,rfl,p20,k20⟩ B
  refine Jo.xcons (i:=2) (o:=⟨some 9,_,_,_,_,_⟩) (di:=some 9) (L:=[(some 7,0),(some 8,1)]) (f:=Jo.TFact.w2t (x.fdiv 2) r) (by decide) (by decide) (by decide) (by decide) rfl rfl rfl rfl (fun vs wj hJ hd K hK=>?_) ?_
  ·have d0:(Jo.TFact.eq (.agg #[.bool s,.slice A n c]):Jo.TFact #[.bool false,.slice none 0 0] 27).P (vs 0) wj:=hd 0 (by decide)
   have d1:(Jo.TFact.wn (2) (2):Jo.TFact #[.bool false,.slice none 0 0] 27).P (vs 1) wj:=hd 1 (by decide)
   simp only [Jo.putl,Jo.zd,Jo.ze,Act.put,Jo.za,Jo.zb,Jo.zc]at hK⊢;clear hd;generalize vs 0=u0 at hK d0⊢;generalize vs 1=u1 at hK d1⊢
   replace d0:u0=_:=d0
   subst d0;obtain⟨s20,A20,n20,c20,rfl,p20,k20⟩:=d1;go_simp;refine (wDiv (h.below hJ) p20.wr (by omega) (by omega) (by decide) rfl HR.out).mono ?_;rintro ee wk ⟨s8,A8,n8,c8,s9,A9,n9,c9,rfl,p8,p9,k8,k9,B⟩;exact hK.out _ _ ⟨s8,A8,n8,c8,s9,A9,n9,c9,rfl,p8,p9,by omega,by omega⟩ B
  refine Jo.xcons (i:=3) (o:=⟨some 6,_,_,_,_,_⟩) (di:=some 6) (L:=[(some 9,2)]) (f:=Jo.TFact.w2t (x.fdiv 2) r) (by decide) (by decide) (by decide) (by decide) rfl rfl rfl rfl (fun vs wj hJ hd K hK=>?_) ?_
  ·have d2:(Jo.TFact.w2t (x.fdiv 2) r:Jo.TFact #[.bool false,.slice none 0 0] 27).P (vs 2) wj:=hd 2 (by decide)
   clear hd;simp only [Jo.putl,Jo.zd,Jo.ze,Act.put,Jo.za,Jo.zb,Jo.zc]at hK⊢;generalize vs 2=u2 at hK d2⊢;obtain⟨s8,A8,n8,c8,s9,A9,n9,c9,rfl,p8,p9,k8,k9⟩:=d2;go_simp;exact hK.out _ _ ⟨s8,A8,n8,c8,s9,A9,n9,c9,rfl,p8,p9,by omega,by omega⟩ (br _ _)
  refine Jo.xcons (i:=4) (o:=⟨some 10,_,_,_,_,_⟩) (di:=some 10) (L:=[(some 6,3)]) (f:=Jo.TFact.wn (x.fdiv 2) (1000000000)) (by decide) (by decide) (by decide) (by decide) rfl rfl rfl rfl (fun vs wj hJ hd K hK=>?_) ?_
  ·have d3:(Jo.TFact.w2t (x.fdiv 2) r:Jo.TFact #[.bool false,.slice none 0 0] 27).P (vs 3) wj:=hd 3 (by decide)
   clear hd;simp only [Jo.putl,Jo.zd,Jo.ze,Act.put,Jo.za,Jo.zb,Jo.zc]at hK⊢;generalize vs 3=u3 at hK d3⊢;obtain⟨s8,A8,n8,c8,s9,A9,n9,c9,rfl,p8,p9,k8,k9⟩:=d3;go_simp;exact hK.out _ _ ⟨s8,A8,n8,c8,rfl,p8,k8⟩ (br _ _)
  refine Jo.xcons (i:=5) (o:=⟨some 11,_,_,_,_,_⟩) (di:=some 11) (L:=[(some 6,3)]) (f:=Jo.TFact.wn (r) (1000000000)) (by decide) (by decide) (by decide) (by decide) rfl rfl rfl rfl (fun vs wj hJ hd K hK=>?_) ?_
  ·have d3:(Jo.TFact.w2t (x.fdiv 2) r:Jo.TFact #[.bool false,.slice none 0 0] 27).P (vs 3) wj:=hd 3 (by decide)
   clear hd;simp only [Jo.putl,Jo.zd,Jo.ze,Act.put,Jo.za,Jo.zb,Jo.zc]at hK⊢;generalize vs 3=u3 at hK d3⊢;obtain⟨s8,A8,n8,c8,s9,A9,n9,c9,rfl,p8,p9,k8,k9⟩:=d3;go_simp;exact hK.out _ _ ⟨s9,A9,n9,c9,rfl,p9,k9⟩ (br _ _)
  refine Jo.xcons (i:=6) (o:=⟨some 12,_,_,_,_,_⟩) (di:=some 12) (L:=[(some 6,3)]) (f:=Jo.TFact.eq (.bool true)) (by decide) (by decide) (by decide) (by decide) rfl rfl rfl rfl (fun vs wj hJ hd K hK=>?_) ?_
  ·have d3:(Jo.TFact.w2t (x.fdiv 2) r:Jo.TFact #[.bool false,.slice none 0 0] 27).P (vs 3) wj:=hd 3 (by decide)
   clear hd;simp only [Jo.putl,Jo.zd,Jo.ze,Act.put,Jo.za,Jo.zb,Jo.zc]at hK⊢;generalize vs 3=u3 at hK d3⊢;obtain⟨s8,A8,n8,c8,s9,A9,n9,c9,rfl,p8,p9,k8,k9⟩:=d3;go_simp;exact hK.out _ _ rfl (br _ _)
  refine Jo.xnew (i:=7) (o:=⟨some 3,_,_,_,_,_⟩) (di:=some 3) (L:=[]) (by decide) (by decide) (by decide) (by decide) rfl rfl rfl rfl (fun vs wj K hK=>?_) ?_
  ·simp only [Jo.putl,Jo.ze,Act.put,Jo.za,Jo.zb,Jo.zc]at hK⊢;go_simp;exact hK.out
  refine Jo.xnew (i:=8) (o:=⟨some 4,_,_,_,_,_⟩) (di:=some 4) (L:=[]) (by decide) (by decide) (by decide) (by decide) rfl rfl rfl rfl (fun vs wj K hK=>?_) ?_
  ·simp only [Jo.putl,Jo.ze,Act.put,Jo.za,Jo.zb,Jo.zc]at hK⊢;go_simp;exact hK.out
  refine Jo.xsto (o:=⟨none,_,_,_,_,_⟩) (di:=none) (L:=[(some 10,4),(some 3,7),(some 4,8)]) (by decide) (by decide) (by decide) (by decide) rfl rfl rfl rfl (fun vs wj hJ hd g hg X K hK=>?_) ?_
  ·have d4:(Jo.TFact.wn (x.fdiv 2) (1000000000):Jo.TFact #[.bool false,.slice none 0 0] 27).P (vs 4) wj:=hd 4 (by decide)
   clear hd;simp only [Jo.putl,Jo.zd,Jo.ze,Act.put,Jo.za,Jo.zb,Jo.zc]at hK⊢;simp only [hg]at hK⊢;clear hg;generalize vs 4=u4 at hK d4⊢;generalize vs 8=u8 at hK⊢;obtain⟨s28,A28,n28,c28,rfl,p28,k28⟩:=d4;have xX:=X.cell;have zX:=X.frozen;go_simp;have SX:=StN.mk2 X (.bool s28) (.slice A28 n28 c28);exact hK.out undef _ _ rfl SX
  refine Jo.xsto2 (o:=⟨none,_,_,_,_,_⟩) (di:=none) (L:=[(some 11,5),(some 3,7),(some 4,8)]) (by decide) (by decide) (by decide) (by decide) rfl rfl rfl rfl (fun vs wj hJ hd g hg X K hK=>?_) ?_
  ·have d5:(Jo.TFact.wn (r) (1000000000):Jo.TFact #[.bool false,.slice none 0 0] 27).P (vs 5) wj:=hd 5 (by decide)
   clear hd;simp only [Jo.putl,Jo.zd,Jo.ze,Act.put,Jo.za,Jo.zb,Jo.zc]at hK⊢;simp only [hg]at hK⊢;clear hg;generalize vs 5=u5 at hK d5⊢;generalize vs 7=u7 at hK⊢;obtain⟨s29,A29,n29,c29,rfl,p29,k29⟩:=d5;have xX:=X.cell;have zX:=X.frozen;go_simp;have SX:=StN.mk2 X (.bool s29) (.slice A29 n29 c29);exact hK.out undef _ _ rfl SX
  exact Jo.StepsI.nil
 have d0:(Jo.TFact.eq (.agg #[.bool s,.slice A n c]):Jo.TFact #[.bool false,.slice none 0 0] 27).P (vs 0) w2:=hd 0 (by decide)
 have d1:(Jo.TFact.wn (2) (2):Jo.TFact #[.bool false,.slice none 0 0] 27).P (vs 1) w2:=hd 1 (by decide)
 have d2:(Jo.TFact.w2t (x.fdiv 2) r:Jo.TFact #[.bool false,.slice none 0 0] 27).P (vs 2) w2:=hd 2 (by decide)
 have d3:(Jo.TFact.w2t (x.fdiv 2) r:Jo.TFact #[.bool false,.slice none 0 0] 27).P (vs 3) w2:=hd 3 (by decide)
 have d4:(Jo.TFact.wn (x.fdiv 2) (1000000000):Jo.TFact #[.bool false,.slice none 0 0] 27).P (vs 4) w2:=hd 4 (by decide)
 have d5:(Jo.TFact.wn (r) (1000000000):Jo.TFact #[.bool false,.slice none 0 0] 27).P (vs 5) w2:=hd 5 (by decide)
 have d6:(Jo.TFact.eq (.bool true):Jo.TFact #[.bool false,.slice none 0 0] 27).P (vs 6) w2:=hd 6 (by decide)
 clear hd;obtain⟨g3,g4,csp,csq,ep,eq_,hg3,hg4,hneg3,ee,ff,X3,X4⟩:=hpq;simp only [Jo.putl,Jo.zd,Jo.ze,Act.put,Jo.za,Jo.zb,Jo.zc];simp only [ep,eq_];clear ep eq_;generalize vs 0=u0 at d0⊢;generalize vs 1=u1 at d1⊢;generalize vs 2=u2 at d2⊢;generalize vs 3=u3 at d3⊢;generalize vs 4=u4 at d4 ee⊢;generalize vs 5=u5 at d5 ff⊢;generalize vs 6=u6 at d6⊢
 generalize vs 9=u9 at⊢;generalize vs 10=u10 at⊢;clear vs
 replace d0:u0=_:=d0
 subst d0;obtain⟨s20,A20,n20,c20,rfl,p20,k20⟩:=d1
 obtain- :=d2
 obtain- :=d3
 obtain⟨s28,A28,n28,c28,rfl,p28,k28⟩:=d4;obtain⟨s29,A29,n29,c29,rfl,p29,k29⟩:=d5
 replace d6:u6=_:=d6
 subst d6
 injection ee with ee
 subst ee
 injection ff with ff
 subst ff;replace X1:=X1.below hJ;replace h:=h.below hJ;replace HB:=Hqb HB hJ;clear h p28;clear X1
 refine Jo.jnext (i:=11) (o:=⟨some 5,_,_,_,_,_⟩) (by kernel_rfl) rfl (fun K hK=>?_)
 go_simp;refine hK.out _ _ ?_;clear hK K;refine Jo.jdone (by kernel_rfl) ?_
 go_upto_region 2 with (fail)
 have xX4:=X4.cell
 go_wp2_with fail
 refine (wSign p29.wr HS.out).mono ?_;rintro ee w5 ⟨rfl,B⟩;clear xX4;replace X3:=X3.below B;replace X4:=X4.below B;replace p29:=p29.below B;replace HB:=Hqb HB B;clear B;have hc:=HC.out;go_wp2
 go_ret
 exact⟨by first | rfl | (show Ending.returned (Value.bool _)=_;rw [hc]),HB.out⟩
theorem ti_up{x:Int}(hx: -(4*SC)≤x∧x≤4*SC):∀j:Nat,-(4*SC*16^j)≤ti x j∧ti x j≤4*SC*16^j
 | 0=>by
  show -(4*SC*1)≤x∧x≤4*SC*1
  omega
 | j+1=>by
  obtain⟨a,b⟩:=ti_up hx j
  have e:(4*SC*16^(j+1):Int)=4*SC*16^j*16:=by rw [Int.pow_succ,←Int.mul_assoc]
  have step:∀t T:Int,-T≤t∧t≤T→0≤T→ -(T*4)≤t*x/SC∧t*x/SC≤T*4:=by
   intro t T h hT
   have m:(t*x).natAbs≤T.natAbs*(4*SC).natAbs:=by
    rw [Int.natAbs_mul];exact Nat.mul_le_mul (by omega) (by omega)
   rw [←Int.natAbs_mul]at m
   have k:0≤T*(4*SC):=Int.mul_nonneg hT (by decide)
   have k2:T*(4*SC)=T*4*SC:=(Int.mul_assoc _ _ _).symm
   have m1: -(T*4)*SC≤t*x:=by rw [Int.neg_mul,←k2];omega
   have m2:t*x≤T*4*SC:=by rw [←k2];omega
   exact⟨Int.le_ediv_of_mul_le (by decide) m1,Int.ediv_le_of_le_mul (by decide) m2⟩
  have p0:(0:Int)≤4*SC*16^j:=Int.mul_nonneg (by decide) (Int.le_of_lt (Int.pow_pos (by decide)))
  have s1:=step _ _ ⟨a,b⟩ p0;have s2:=step _ _ s1 (by omega)
  have f:∀u d:Int,(u/d).natAbs≤u.natAbs:=fun u d=>Int.natAbs_ediv_le_natAbs u d
  rw [e];have g:=f (ti x j*x/SC*x/SC) (2*((j:Int)+1)*(2*((j:Int)+1)+1))
  show -(4*SC*16^j*16)≤ -(ti x j*x/SC*x/SC/ (2*((j:Int)+1)*(2*((j:Int)+1)+1)))∧ -(ti x j*x/SC*x/SC/ (2*((j:Int)+1)*(2*((j:Int)+1)+1)))≤4*SC*16^j*16
  generalize 4*SC*16^j=T at *;generalize ti x j*x/SC*x/SC/ (2*((j:Int)+1)*(2*((j:Int)+1)+1))=q at *;generalize ti x j*x/SC*x/SC=u at *
  omega
theorem ti_fits{x:Int}(hx: -(4*SC)≤x∧x≤4*SC){j:Nat}(hj:j≤40):(ti x j).natAbs < 4294967296^12:=by
 obtain⟨a,b⟩:=ti_up hx j
 have m:(16:Int)^j≤16^40:=by
  have q:=Nat.pow_le_pow_right (n:=16) (by decide) hj
  exact_mod_cast q
 have n:4*SC*16^j≤4*SC*16^40:=Int.mul_le_mul_of_nonneg_left m (by decide)
 have e:(4*SC*16^40:Int) < 4294967296^12:=by decide
 have e2:((4294967296:Nat)^12:Nat)=(4294967296^12:Int).toNat:=by decide
 rw [e2];generalize (4294967296^12:Int)=Z at *;generalize 4*SC*16^j=T at *;generalize (4*SC*16^40:Int)=U at *
 omega
def TInv (w:World)(x:Int)(g3 g5 g6:Nat)(s3:Bool)(A3:Option Addr)(n3 c3:Nat)(s9:Bool)(A9:Option Addr)(n9 c9:Nat)(j:Nat)(wr:World):Prop:=∃(s5:Bool) (A5:Option Addr) (n5 c5:Nat) (s6:Bool) (A6:Option Addr) (n6 c6:Nat),Bo wr w.heap.size #[.bool s3,.slice A3 n3 c3] 27∧Bo wr (w.heap.size+1) #[.bool false,.slice none 0 0] 27∧Bo wr g3 #[.bool s9,.slice A9 n9 c9] 27∧Bo wr g5 #[.bool s5,.slice A5 n5 c5] 27∧Bo wr g6 #[.bool s6,.slice A6 n6 c6] 27∧Wn wr s3 A3 n3 c3 x∧Wn wr s9 A9 n9 c9 SC∧Wn wr s6 A6 n6 c6 (ti x j)∧Wn wr s5 A5 n5 c5 (si x j)∧n5≤7+13*j∧j≤40∧Below w.heap.size w wr
theorem tser_hi{w:World}{A:Option Addr}{n c a:Nat}{s:Bool}{x:Int}(h:Rd w A n c a)(hx:sg s a=x)(hn:n≤100000)(hf:(4*SC) < x):Calls Tryz.prog 11 #[.agg #[.bool s,.slice A n c]] w (W1 w 300000 0):=by
 obtain⟨σ,hσ⟩:∃σ,cmpI x (4*SC)=σ:=⟨_,rfl⟩;obtain⟨τ,hτ⟩:∃σ,cmpI x (-(4*SC))=σ:=⟨_,rfl⟩;have e0:=(cmp_lt12 hσ).2;have e1:=(cmp_lt12 hτ).1;have HS:=Lib.hid hσ;have HT:=Lib.hid hτ;clear hσ hτ;rw [decide_eq_true hf]at e0
 have HC0:=Lib.hid e0;have HC1:=Lib.hid e1;clear e0 e1
 go_enter Tryz.func11,Tryz.ntmps11
 go_upto_region 1 with (fail)
 generalize hW1:(w.alloc _).alloc _=w1 at *;obtain⟨X1,XR,HB⟩:=Bo.en2 hW1;replace h:=h.below HB.out;clear hW1
 go_wp2_with fail
 refine (cScale).mono ?_;rintro ee w2 ⟨s9,A9,n9,c9,rfl,p9,k9,B⟩;replace X1:=X1.below B;replace XR:=XR.below B;replace h:=h.below B;replace HB:=Hqb HB B;clear B
 go_upto_region 2 with (fail)
 have lX3:=Nat.le_refl (World.heap w2).size;have nX3X1:=X1.lt;have nX3XR:=XR.lt;generalize hWn:w2.alloc _=w3 at *;obtain⟨X3,BW⟩:=Bo.nw hWn;clear hWn;replace X1:=X1.below BW;replace XR:=XR.below BW;replace h:=h.below BW;replace p9:=p9.below BW;replace HB:=Hqb HB BW;clear BW;clear lX3;have ltX1:=X1.lt;have ltXR:=XR.lt;have ltX3:=X3.lt;have hszA:=HB.out.size
 refine Jo.rk [0,1,2,3,4] [some 11,some 12,some 13,some 14,some 4,none] [[],[],[0,1],[2],[],[]] 6 1 [Jo.Fact.wn (4) (2),Jo.Fact.eq (.agg #[.bool s9,.slice A9 n9 c9]),Jo.Fact.wl 8 2 [4,SC],Jo.Fact.wn ((4*SC)) (17),Jo.Fact.bo w3.heap.size #[.bool false,.slice none 0 0] 27,Jo.Fact.any] (by kernel_rfl) (by kernel_rfl) (by decide) rfl ?_ ?_
 ·refine Jo.jm rfl ?_ ?_
  ·rintro wj hJ K hK;simp only [Jo.z]at hK⊢;go_simp;refine (wFrom 4 _ (by decide) (by decide)).mono ?_;rintro ee wk ⟨s20,A20,n20,c20,rfl,p20,k20,B⟩;exact hK.out _ _ ⟨s20,A20,n20,c20,rfl,p20,k20⟩ B
  refine Jo.jm rfl ?_ ?_
  ·rintro wj hJ K hK;simp only [Jo.z]at hK⊢;have xX3:=(X3.below hJ).cell;go_simp;exact hK.out _ _ rfl (br _ _)
  refine Jo.jm rfl ?_ ?_
  ·rintro wj hJ _ ⟨s20,A20,n20,c20,rfl,p20,k20⟩ _ rfl K hK;simp only [Jo.z]at hK⊢;go_simp;exact hK.out _ _ ⟨_,_,rfl,Wl.lit2 rfl p20.wr (p9.below hJ).wr (by omega) (by omega)⟩ (bel1 _ _)
  refine Jo.jm rfl ?_ ?_
  ·rintro wj hJ _ ⟨A21,c21,rfl,h21⟩ K hK;simp only [Jo.z]at hK⊢;go_simp;refine (wMul (r:=4*SC) h21 (by decide) (by decide)).mono ?_;rintro ee wk ⟨s22,A22,n22,c22,rfl,p22,k22,B⟩;exact hK.out _ _ ⟨s22,A22,n22,c22,rfl,p22,k22⟩ B
  refine Jo.jm rfl ?_ ?_
  ·rintro wj hJ K hK;simp only [Jo.z]at hK⊢;go_simp;exact hK.out _ _ ⟨_,rfl,hJ.size,Bo.new _ _ _⟩ (bel1 _ _)
  exact Jo.Steps.nil
 rintro w4 hJ _ ⟨s20,A20,n20,c20,rfl,p20,k20⟩ _ rfl _ ⟨_,_,rfl,_⟩ _ ⟨s22,A22,n22,c22,rfl,p22,k22⟩ _ ⟨g4,rfl,hg4,X4⟩ -;simp only [Jo.z];replace X1:=X1.below hJ;replace XR:=XR.below hJ;replace X3:=X3.below hJ;replace h:=h.below hJ;replace p9:=p9.below hJ;replace HB:=Hqb HB hJ;clear p20;have xX4:=X4.cell;have zX40:=X4.frozen
 refine Jo.jnext (i:=5) (o:=⟨none,_,_,_,_,_⟩) (by kernel_rfl) rfl (fun K hK=>?_)
 go_simp;refine hK.out _ _ ?_;clear hK K xX4 zX40;generalize hS:(w4.setCell _ _).setCell _ _=w5 at *;have SX:=StN.of2 X4 hS;replace X1:=X1.stn SX (by omega);replace XR:=XR.stn SX (by omega);replace X3:=X3.stn SX (by omega);replace h:=h.stn SX (by simp [no32]);replace p9:=p9.stn SX (by simp [no32]);replace p22:=p22.stn SX (by simp [no32]);replace HB:=Hqs HB SX (by omega)
 replace X4:=SX.box;clear SX hS;refine Jo.jdone (by kernel_rfl) ?_
 go_upto_region 3 with (fail)
 refine Jo.rk [0,1,2,3,4,5,6,7,8,9,10] [some 15,some 16,some 17,some 18,some 19,some 20,some 21,some 22,some 23,some 24,some 25] [[],[],[0,1],[2],[3],[4],[4],[4,6],[4,5,7],[4,8],[4,9]] 11 0 [Jo.Fact.eq (.agg #[.bool s,.slice A n c]),Jo.Fact.eq (.agg #[.bool s22,.slice A22 n22 c22]),Jo.qi σ,Jo.qb true,Jo.qb true,Jo.qu,Jo.qu,Jo.qu,Jo.qu,Jo.qu,Jo.qb true] (by kernel_rfl) (by kernel_rfl) (by decide) rfl ?_ ?_
 ·iterate 2 (refine Jo.jm rfl ?_ ?_;rotate_left)
  refine Jo.jm rfl ?_ ?_
  ·rintro wj hJ _ rfl _ rfl K hK;simp only [Jo.z]at hK⊢;go_simp;refine (wCmp (r:=σ) ⟨_,h.below hJ,hx⟩ (p22.below hJ).wr HS.out).mono ?_;rintro ee wk ⟨rfl,B⟩;exact hK.out _ _ rfl B
  refine Jo.jm rfl ?_ ?_
  ·rintro wj hJ _ rfl K hK;simp only [Jo.z]at hK⊢;have hc0:=HC0.out;go_simp
   exact hK.out _ _ (by first | rfl | (show Value.bool _=Value.bool _;rw [hc0]) | simp_all) (br _ _)
  iterate 7 (refine Jo.jm rfl ?_ ?_;rotate_left)
  exact Jo.Steps.nil
  all_goals (rintro wj hJ;(repeat rintro _ rfl);intro K hK;simp only [Jo.z]at hK⊢;have xX1:=(X1.below hJ).cell;have xX4:=(X4.below hJ).cell;go_simp;exact hK.out _ _ rfl (br _ _))
 rintro w6 hJ _ rfl _ rfl _ rfl _ rfl _ rfl _ rfl _ rfl _ rfl _ rfl _ rfl _ rfl -;simp only [Jo.z];replace X1:=X1.below hJ;replace XR:=XR.below hJ;replace X3:=X3.below hJ;replace X4:=X4.below hJ;replace h:=h.below hJ;replace p9:=p9.below hJ;replace p22:=p22.below hJ;replace HB:=Hqb HB hJ;refine Jo.jdone (by kernel_rfl) ?_;clear p22 HS HC0 HT HC1;clear X4;clear h p9
 have xXR:=XR.cell;have zXR0:=XR.frozen;go_wp2;clear xXR zXR0;have SX:=StN.mk2 XR (.bool false) (.slice none 0 0);exact bodyPost_ret (v:= .agg #[.bool false,.slice none 0 0]) (by simp [results,Tryz.results11,go_sem,SX.box.cell]) rfl ⟨_,_,_,_,rfl,⟨Nm.zero,rfl⟩,Nat.zero_le _,(SX.below HB.out (by omega))⟩
theorem tser_lo{w:World}{A:Option Addr}{n c a:Nat}{s:Bool}{x:Int}(h:Rd w A n c a)(hx:sg s a=x)(hn:n≤100000)(hf0:¬(4*SC) < x)(hf:x < -(4*SC)):Calls Tryz.prog 11 #[.agg #[.bool s,.slice A n c]] w (W1 w 300000 0):=by
 obtain⟨σ,hσ⟩:∃σ,cmpI x (4*SC)=σ:=⟨_,rfl⟩;obtain⟨τ,hτ⟩:∃σ,cmpI x (-(4*SC))=σ:=⟨_,rfl⟩;have e0:=(cmp_lt12 hσ).2;have e1:=(cmp_lt12 hτ).1;have HS:=Lib.hid hσ;have HT:=Lib.hid hτ;clear hσ hτ;rw [decide_eq_false hf0]at e0;rw [decide_eq_true hf]at e1;have HC0:=Lib.hid e0;have HC1:=Lib.hid e1;clear e0 e1
 go_enter Tryz.func11,Tryz.ntmps11
 go_upto_region 1 with (fail)
 generalize hW1:(w.alloc _).alloc _=w1 at *;obtain⟨X1,XR,HB⟩:=Bo.en2 hW1;replace h:=h.below HB.out;clear hW1
 go_wp2_with fail
 refine (cScale).mono ?_;rintro ee w2 ⟨s9,A9,n9,c9,rfl,p9,k9,B⟩;replace X1:=X1.below B;replace XR:=XR.below B;replace h:=h.below B;replace HB:=Hqb HB B;clear B
 go_upto_region 2 with (fail)
 have lX3:=Nat.le_refl (World.heap w2).size;have nX3X1:=X1.lt;have nX3XR:=XR.lt;generalize hWn:w2.alloc _=w3 at *;obtain⟨X3,BW⟩:=Bo.nw hWn;clear hWn;replace X1:=X1.below BW;replace XR:=XR.below BW;replace h:=h.below BW;replace p9:=p9.below BW;replace HB:=Hqb HB BW;clear BW;clear lX3;have ltX1:=X1.lt;have ltXR:=XR.lt;have ltX3:=X3.lt;have hszA:=HB.out.size
 refine Jo.rk [0,1,2,3,4] [some 11,some 12,some 13,some 14,some 4,none] [[],[],[0,1],[2],[],[]] 6 1 [Jo.Fact.wn (4) (2),Jo.Fact.eq (.agg #[.bool s9,.slice A9 n9 c9]),Jo.Fact.wl 8 2 [4,SC],Jo.Fact.wn ((4*SC)) (17),Jo.Fact.bo w3.heap.size #[.bool false,.slice none 0 0] 27,Jo.Fact.any] (by kernel_rfl) (by kernel_rfl) (by decide) rfl ?_ ?_
 ·refine Jo.jm rfl ?_ ?_
  ·rintro wj hJ K hK;simp only [Jo.z]at hK⊢;go_simp;refine (wFrom 4 _ (by decide) (by decide)).mono ?_;rintro ee wk ⟨s20,A20,n20,c20,rfl,p20,k20,B⟩;exact hK.out _ _ ⟨s20,A20,n20,c20,rfl,p20,k20⟩ B
  refine Jo.jm rfl ?_ ?_
  ·rintro wj hJ K hK;simp only [Jo.z]at hK⊢;have xX3:=(X3.below hJ).cell;go_simp;exact hK.out _ _ rfl (br _ _)
  refine Jo.jm rfl ?_ ?_
  ·rintro wj hJ _ ⟨s20,A20,n20,c20,rfl,p20,k20⟩ _ rfl K hK;simp only [Jo.z]at hK⊢;go_simp;exact hK.out _ _ ⟨_,_,rfl,Wl.lit2 rfl p20.wr (p9.below hJ).wr (by omega) (by omega)⟩ (bel1 _ _)
  refine Jo.jm rfl ?_ ?_
  ·rintro wj hJ _ ⟨A21,c21,rfl,h21⟩ K hK;simp only [Jo.z]at hK⊢;go_simp;refine (wMul (r:=4*SC) h21 (by decide) (by decide)).mono ?_;rintro ee wk ⟨s22,A22,n22,c22,rfl,p22,k22,B⟩;exact hK.out _ _ ⟨s22,A22,n22,c22,rfl,p22,k22⟩ B
  refine Jo.jm rfl ?_ ?_
  ·rintro wj hJ K hK;simp only [Jo.z]at hK⊢;go_simp;exact hK.out _ _ ⟨_,rfl,hJ.size,Bo.new _ _ _⟩ (bel1 _ _)
  exact Jo.Steps.nil
 rintro w4 hJ _ ⟨s20,A20,n20,c20,rfl,p20,k20⟩ _ rfl _ ⟨_,_,rfl,_⟩ _ ⟨s22,A22,n22,c22,rfl,p22,k22⟩ _ ⟨g4,rfl,hg4,X4⟩ -;simp only [Jo.z];replace X1:=X1.below hJ;replace XR:=XR.below hJ;replace X3:=X3.below hJ;replace h:=h.below hJ;replace p9:=p9.below hJ;replace HB:=Hqb HB hJ;clear p20;have xX4:=X4.cell;have zX40:=X4.frozen
 refine Jo.jnext (i:=5) (o:=⟨none,_,_,_,_,_⟩) (by kernel_rfl) rfl (fun K hK=>?_)
 go_simp;refine hK.out _ _ ?_;clear hK K xX4 zX40;generalize hS:(w4.setCell _ _).setCell _ _=w5 at *;have SX:=StN.of2 X4 hS;replace X1:=X1.stn SX (by omega);replace XR:=XR.stn SX (by omega);replace X3:=X3.stn SX (by omega);replace h:=h.stn SX (by simp [no32]);replace p9:=p9.stn SX (by simp [no32]);replace p22:=p22.stn SX (by simp [no32]);replace HB:=Hqs HB SX (by omega)
 replace X4:=SX.box;clear SX hS;refine Jo.jdone (by kernel_rfl) ?_
 go_upto_region 3 with (fail)
 refine Jo.rk [0,1,2,3,4,5,6,7,8,9,10] [some 15,some 16,some 17,some 18,some 19,some 20,some 21,some 22,some 23,some 24,some 25] [[],[],[0,1],[2],[3],[4],[4],[4,6],[4,5,7],[4,8],[4,9]] 11 0 [Jo.Fact.eq (.agg #[.bool s,.slice A n c]),Jo.Fact.eq (.agg #[.bool s22,.slice A22 n22 c22]),Jo.qi σ,Jo.qb false,Jo.qb false,Jo.Fact.eq (.agg #[.bool s,.slice A n c]),Jo.Fact.eq (.agg #[.bool s22,.slice A22 n22 c22]),Jo.Fact.wn (-(4*SC)) (17),Jo.qi τ,Jo.qb true,Jo.qb true] (by kernel_rfl) (by kernel_rfl) (by decide) rfl ?_ ?_
 ·iterate 2 (refine Jo.jm rfl ?_ ?_;rotate_left)
  refine Jo.jm rfl ?_ ?_
  ·rintro wj hJ _ rfl _ rfl K hK;simp only [Jo.z]at hK⊢;go_simp;refine (wCmp (r:=σ) ⟨_,h.below hJ,hx⟩ (p22.below hJ).wr HS.out).mono ?_;rintro ee wk ⟨rfl,B⟩;exact hK.out _ _ rfl B
  refine Jo.jm rfl ?_ ?_
  ·rintro wj hJ _ rfl K hK;simp only [Jo.z]at hK⊢;have hc0:=HC0.out;go_simp
   exact hK.out _ _ (by first | rfl | (show Value.bool _=Value.bool _;rw [hc0]) | simp_all) (br _ _)
  iterate 3 (refine Jo.jm rfl ?_ ?_;rotate_left)
  refine Jo.jm rfl ?_ ?_
  ·rintro wj hJ _ rfl _ rfl K hK;simp only [Jo.z]at hK⊢;go_simp;refine (wNeg (p22.below hJ).wr rfl).mono ?_;rintro ee wk ⟨s30,A30,n30,c30,rfl,p30,k30,B⟩;exact hK.out _ _ ⟨s30,A30,n30,c30,rfl,p30,by omega⟩ B
  refine Jo.jm rfl ?_ ?_
  ·rintro wj hJ _ rfl _ rfl _ ⟨s30,A30,n30,c30,rfl,p30,k30⟩ K hK;simp only [Jo.z]at hK⊢;go_simp;refine (wCmp (r:=τ) ⟨_,h.below hJ,hx⟩ p30.wr HT.out).mono ?_;rintro ee wk ⟨rfl,B⟩;exact hK.out _ _ rfl B
  refine Jo.jm rfl ?_ ?_
  ·rintro wj hJ _ rfl _ rfl K hK;simp only [Jo.z]at hK⊢;have hc0:=HC1.out;go_simp
   exact hK.out _ _ (by first | rfl | (show Value.bool _=Value.bool _;rw [hc0]) | simp_all) (br _ _)
  refine Jo.jm rfl ?_ ?_;rotate_left
  exact Jo.Steps.nil
  all_goals (rintro wj hJ;(repeat rintro _ rfl);intro K hK;simp only [Jo.z]at hK⊢;have xX1:=(X1.below hJ).cell;have xX4:=(X4.below hJ).cell;go_simp;exact hK.out _ _ rfl (br _ _))
 rintro w6 hJ _ rfl _ rfl _ rfl _ rfl _ rfl _ rfl _ rfl _ ⟨s30,A30,n30,c30,rfl,p30,k30⟩ _ rfl _ rfl _ rfl -;simp only [Jo.z];replace X1:=X1.below hJ;replace XR:=XR.below hJ;replace X3:=X3.below hJ;replace X4:=X4.below hJ;replace h:=h.below hJ;replace p9:=p9.below hJ;replace p22:=p22.below hJ;replace HB:=Hqb HB hJ;refine Jo.jdone (by kernel_rfl) ?_;clear p22 HS HC0 HT HC1
 clear X4;clear h p9;have xXR:=XR.cell;have zXR0:=XR.frozen;go_wp2;clear xXR zXR0;have SX:=StN.mk2 XR (.bool false) (.slice none 0 0);exact bodyPost_ret (v:= .agg #[.bool false,.slice none 0 0]) (by simp [results,Tryz.results11,go_sem,SX.box.cell]) rfl ⟨_,_,_,_,rfl,⟨Nm.zero,rfl⟩,Nat.zero_le _,(SX.below HB.out (by omega))⟩
theorem tser_near{w:World}{A:Option Addr}{n c a:Nat}{s:Bool}{x:Int}(h:Rd w A n c a)(hx:sg s a=x)(hn:n≤100000)(hf0:¬(4*SC) < x)(hf:¬x < -(4*SC)):Calls Tryz.prog 11 #[.agg #[.bool s,.slice A n c]] w (W1 w 300000 (si x 40)):=by
 have hfit:x.natAbs < 4294967296^7:=by
  have e:(4294967296:Nat)^7=26959946667150639794667015087019630673637144422540572481103610249216:=by decide
  rw [e]
  unfold SC at hf hf0
  omega
 have HFT:=Lib.hid hfit
 have HXB:Hid (-(4*SC)≤x∧x≤4*SC):=Lib.hid ⟨by omega,by omega⟩
 clear hfit;obtain⟨σ,hσ⟩:∃σ,cmpI x (4*SC)=σ:=⟨_,rfl⟩;obtain⟨τ,hτ⟩:∃σ,cmpI x (-(4*SC))=σ:=⟨_,rfl⟩;have e0:=(cmp_lt12 hσ).2;have e1:=(cmp_lt12 hτ).1;have HS:=Lib.hid hσ;have HT:=Lib.hid hτ;clear hσ hτ;rw [decide_eq_false hf0]at e0;rw [decide_eq_false hf]at e1;have HC0:=Lib.hid e0;have HC1:=Lib.hid e1;clear e0 e1 hf hf0
 go_enter Tryz.func11,Tryz.ntmps11
 go_upto_region 1 with (fail)
 generalize hW1:(w.alloc _).alloc _=w1 at *;obtain⟨X1,XR,HB⟩:=Bo.en2 hW1;replace h:=h.below HB.out;clear hW1
 go_wp2_with fail
 refine (cScale).mono ?_;rintro ee w2 ⟨s9,A9,n9,c9,rfl,p9,k9,B⟩;replace X1:=X1.below B;replace XR:=XR.below B;replace h:=h.below B;replace HB:=Hqb HB B;clear B
 go_upto_region 2 with (fail)
 have lX3:=Nat.le_refl (World.heap w2).size;have nX3X1:=X1.lt;have nX3XR:=XR.lt;generalize hWn:w2.alloc _=w3 at *;obtain⟨X3,BW⟩:=Bo.nw hWn;clear hWn;replace X1:=X1.below BW;replace XR:=XR.below BW;replace h:=h.below BW;replace p9:=p9.below BW;replace HB:=Hqb HB BW;clear BW;clear lX3;have ltX1:=X1.lt;have ltXR:=XR.lt;have ltX3:=X3.lt;have hszA:=HB.out.size
 refine Jo.rk [0,1,2,3,4] [some 11,some 12,some 13,some 14,some 4,none] [[],[],[0,1],[2],[],[]] 6 1 [Jo.Fact.wn (4) (2),Jo.Fact.eq (.agg #[.bool s9,.slice A9 n9 c9]),Jo.Fact.wl 8 2 [4,SC],Jo.Fact.wn ((4*SC)) (17),Jo.Fact.bo w3.heap.size #[.bool false,.slice none 0 0] 27,Jo.Fact.any] (by kernel_rfl) (by kernel_rfl) (by decide) rfl ?_ ?_
 ·refine Jo.jm rfl ?_ ?_
  ·rintro wj hJ K hK;simp only [Jo.z]at hK⊢;go_simp;refine (wFrom 4 _ (by decide) (by decide)).mono ?_;rintro ee wk ⟨s20,A20,n20,c20,rfl,p20,k20,B⟩;exact hK.out _ _ ⟨s20,A20,n20,c20,rfl,p20,k20⟩ B
  refine Jo.jm rfl ?_ ?_
  ·rintro wj hJ K hK;simp only [Jo.z]at hK⊢;have xX3:=(X3.below hJ).cell;go_simp;exact hK.out _ _ rfl (br _ _)
  refine Jo.jm rfl ?_ ?_
  ·rintro wj hJ _ ⟨s20,A20,n20,c20,rfl,p20,k20⟩ _ rfl K hK;simp only [Jo.z]at hK⊢;go_simp;exact hK.out _ _ ⟨_,_,rfl,Wl.lit2 rfl p20.wr (p9.below hJ).wr (by omega) (by omega)⟩ (bel1 _ _)
  refine Jo.jm rfl ?_ ?_
  ·rintro wj hJ _ ⟨A21,c21,rfl,h21⟩ K hK;simp only [Jo.z]at hK⊢;go_simp;refine (wMul (r:=4*SC) h21 (by decide) (by decide)).mono ?_;rintro ee wk ⟨s22,A22,n22,c22,rfl,p22,k22,B⟩;exact hK.out _ _ ⟨s22,A22,n22,c22,rfl,p22,k22⟩ B
  refine Jo.jm rfl ?_ ?_
  ·rintro wj hJ K hK;simp only [Jo.z]at hK⊢;go_simp;exact hK.out _ _ ⟨_,rfl,hJ.size,Bo.new _ _ _⟩ (bel1 _ _)
  exact Jo.Steps.nil
 rintro w4 hJ _ ⟨s20,A20,n20,c20,rfl,p20,k20⟩ _ rfl _ ⟨_,_,rfl,_⟩ _ ⟨s22,A22,n22,c22,rfl,p22,k22⟩ _ ⟨g4,rfl,hg4,X4⟩ -;simp only [Jo.z];replace X1:=X1.below hJ;replace XR:=XR.below hJ;replace X3:=X3.below hJ;replace h:=h.below hJ;replace p9:=p9.below hJ;replace HB:=Hqb HB hJ;clear p20;have xX4:=X4.cell;have zX40:=X4.frozen
 refine Jo.jnext (i:=5) (o:=⟨none,_,_,_,_,_⟩) (by kernel_rfl) rfl (fun K hK=>?_)
 go_simp;refine hK.out _ _ ?_;clear hK K xX4 zX40;generalize hS:(w4.setCell _ _).setCell _ _=w5 at *;have SX:=StN.of2 X4 hS;replace X1:=X1.stn SX (by omega);replace XR:=XR.stn SX (by omega);replace X3:=X3.stn SX (by omega);replace h:=h.stn SX (by simp [no32]);replace p9:=p9.stn SX (by simp [no32]);replace p22:=p22.stn SX (by simp [no32]);replace HB:=Hqs HB SX (by omega)
 replace X4:=SX.box;clear SX hS;refine Jo.jdone (by kernel_rfl) ?_
 go_upto_region 3 with (fail)
 refine Jo.rk [0,1,2,3,4,5,6,7,8,9,10] [some 15,some 16,some 17,some 18,some 19,some 20,some 21,some 22,some 23,some 24,some 25] [[],[],[0,1],[2],[3],[4],[4],[4,6],[4,5,7],[4,8],[4,9]] 11 0 [Jo.Fact.eq (.agg #[.bool s,.slice A n c]),Jo.Fact.eq (.agg #[.bool s22,.slice A22 n22 c22]),Jo.qi σ,Jo.qb false,Jo.qb false,Jo.Fact.eq (.agg #[.bool s,.slice A n c]),Jo.Fact.eq (.agg #[.bool s22,.slice A22 n22 c22]),Jo.Fact.wn (-(4*SC)) (17),Jo.qi τ,Jo.qb false,Jo.qb false] (by kernel_rfl) (by kernel_rfl) (by decide) rfl ?_ ?_
 ·iterate 2 (refine Jo.jm rfl ?_ ?_;rotate_left)
  refine Jo.jm rfl ?_ ?_
  ·rintro wj hJ _ rfl _ rfl K hK;simp only [Jo.z]at hK⊢;go_simp;refine (wCmp (r:=σ) ⟨_,h.below hJ,hx⟩ (p22.below hJ).wr HS.out).mono ?_;rintro ee wk ⟨rfl,B⟩;exact hK.out _ _ rfl B
  refine Jo.jm rfl ?_ ?_
  ·rintro wj hJ _ rfl K hK;simp only [Jo.z]at hK⊢;have hc0:=HC0.out;go_simp
   exact hK.out _ _ (by first | rfl | (show Value.bool _=Value.bool _;rw [hc0]) | simp_all) (br _ _)
  iterate 3 (refine Jo.jm rfl ?_ ?_;rotate_left)
  refine Jo.jm rfl ?_ ?_
  ·rintro wj hJ _ rfl _ rfl K hK;simp only [Jo.z]at hK⊢;go_simp;refine (wNeg (p22.below hJ).wr rfl).mono ?_;rintro ee wk ⟨s30,A30,n30,c30,rfl,p30,k30,B⟩;exact hK.out _ _ ⟨s30,A30,n30,c30,rfl,p30,by omega⟩ B
  refine Jo.jm rfl ?_ ?_
  ·rintro wj hJ _ rfl _ rfl _ ⟨s30,A30,n30,c30,rfl,p30,k30⟩ K hK;simp only [Jo.z]at hK⊢;go_simp;refine (wCmp (r:=τ) ⟨_,h.below hJ,hx⟩ p30.wr HT.out).mono ?_;rintro ee wk ⟨rfl,B⟩;exact hK.out _ _ rfl B
  refine Jo.jm rfl ?_ ?_
  ·rintro wj hJ _ rfl _ rfl K hK;simp only [Jo.z]at hK⊢;have hc0:=HC1.out;go_simp
   exact hK.out _ _ (by first | rfl | (show Value.bool _=Value.bool _;rw [hc0]) | simp_all) (br _ _)
  refine Jo.jm rfl ?_ ?_;rotate_left
  exact Jo.Steps.nil
  all_goals (rintro wj hJ;(repeat rintro _ rfl);intro K hK;simp only [Jo.z]at hK⊢;have xX1:=(X1.below hJ).cell;have xX4:=(X4.below hJ).cell;go_simp;exact hK.out _ _ rfl (br _ _))
 rintro w6 hJ _ rfl _ rfl _ rfl _ rfl _ rfl _ rfl _ rfl _ ⟨s30,A30,n30,c30,rfl,p30,k30⟩ _ rfl _ rfl _ rfl -;simp only [Jo.z];replace X1:=X1.below hJ;replace XR:=XR.below hJ;replace X3:=X3.below hJ;replace X4:=X4.below hJ;replace h:=h.below hJ;replace p9:=p9.below hJ;replace p22:=p22.below hJ;replace HB:=Hqb HB hJ;refine Jo.jdone (by kernel_rfl) ?_;clear p22 HS HC0 HT HC1
 clear X4;have xX1:=X1.cell
 go_wp2_with fail
 refine (wMake s h).mono ?_;rintro ee w7 ⟨s3,A3,n3,c3,rfl,p3,k3,B⟩;clear xX1;replace X1:=X1.below B;replace XR:=XR.below B;replace X3:=X3.below B;replace h:=h.below B;replace p9:=p9.below B;replace HB:=Hqb HB B;clear B;clear h;replace p3:=hx▸p3;clear hx;have few:=p3.fits HFT.out;clear HFT;have xX1:=X1.cell;have zX10:=X1.frozen
 go_upto_region 6 with (fail)
 clear xX1 zX10;generalize hS:(w7.setCell _ _).setCell _ _=w8 at *;have SX:=StN.of2 X1 hS;replace XR:=XR.stn SX (by omega);replace X3:=X3.stn SX (by omega);replace p9:=p9.stn SX (by simp [no32]);replace p3:=p3.stn SX (by simp [no32]);replace HB:=Hqs HB SX (by omega);replace X1:=SX.box;clear SX hS;have ltX1:=X1.lt;have ltXR:=XR.lt;have ltX3:=X3.lt
 have hszp:=HB.out.size
 refine Jo.region_trip (old:= #[.bool false,.slice none 0 0]) (R:=27) (T:=[0,1,2,3,4]) (ds:=[some 32,some 33,some 5,some 6,none,none]) (ls:=[[],[],[],[],[0,2,3],[]]) (k:=6) (L:=[(some 32,0),(some 33,1),(some 5,2),(some 6,3),(none,4)]) (fuel:=1) (w1:=w8) (p:=2) (q:=3) (s:=4) (e:=0) (s2:=999) (e2:=999)
  (F:=[Jo.TFact.eq (.agg #[.bool s3,.slice A3 n3 c3]),Jo.TFact.eq (.agg #[.bool s3,.slice A3 n3 c3]),Jo.TFact.any,Jo.TFact.any,Jo.TFact.any,Jo.TFact.any])
  (by decide) (by decide) (by decide) (by decide) (by kernel_rfl) (by kernel_rfl) (by decide) rfl rfl ?_ (fun vs w9 hJ hd hpq=>?_)
 ·refine Jo.xcons (i:=0) (o:=⟨some 32,_,_,_,_,_⟩) (di:=some 32) (L:=[]) (f:=Jo.TFact.eq (.agg #[.bool s3,.slice A3 n3 c3])) (by decide) (by decide) (by decide) (by decide) rfl rfl rfl rfl (fun vs wj hJ hd K hK=>?_) ?_
  ·clear hd;simp only [Jo.putl,Jo.ze,Act.put,Jo.za,Jo.zb,Jo.zc]at hK⊢
   have xX10:World.cell? wj ⟨w.heap.size,0,none⟩=some (.bool s3):=(X1.below hJ).cell 0
   have xX11:World.cell? wj ⟨w.heap.size,1,none⟩=some (.slice A3 n3 c3):=(X1.below hJ).cell 1
   go_simp;exact hK.out _ _ rfl (br _ _)
  refine Jo.xcons (i:=1) (o:=⟨some 33,_,_,_,_,_⟩) (di:=some 33) (L:=[]) (f:=Jo.TFact.eq (.agg #[.bool s3,.slice A3 n3 c3])) (by decide) (by decide) (by decide) (by decide) rfl rfl rfl rfl (fun vs wj hJ hd K hK=>?_) ?_
  ·clear hd;simp only [Jo.putl,Jo.ze,Act.put,Jo.za,Jo.zb,Jo.zc]at hK⊢
   have xX10:World.cell? wj ⟨w.heap.size,0,none⟩=some (.bool s3):=(X1.below hJ).cell 0
   have xX11:World.cell? wj ⟨w.heap.size,1,none⟩=some (.slice A3 n3 c3):=(X1.below hJ).cell 1
   go_simp;exact hK.out _ _ rfl (br _ _)
  refine Jo.xnew (i:=2) (o:=⟨some 5,_,_,_,_,_⟩) (di:=some 5) (L:=[]) (by decide) (by decide) (by decide) (by decide) rfl rfl rfl rfl (fun vs wj K hK=>?_) ?_
  ·simp only [Jo.putl,Jo.ze,Act.put,Jo.za,Jo.zb,Jo.zc]at hK⊢;go_simp;exact hK.out
  refine Jo.xnew (i:=3) (o:=⟨some 6,_,_,_,_,_⟩) (di:=some 6) (L:=[]) (by decide) (by decide) (by decide) (by decide) rfl rfl rfl rfl (fun vs wj K hK=>?_) ?_
  ·simp only [Jo.putl,Jo.ze,Act.put,Jo.za,Jo.zb,Jo.zc]at hK⊢;go_simp;exact hK.out
  refine Jo.xsto (o:=⟨none,_,_,_,_,_⟩) (di:=none) (L:=[(some 32,0),(some 5,2),(some 6,3)]) (by decide) (by decide) (by decide) (by decide) rfl rfl rfl rfl (fun vs wj hJ hd g hg X K hK=>?_) ?_
  ·have d0:(Jo.TFact.eq (.agg #[.bool s3,.slice A3 n3 c3]):Jo.TFact #[.bool false,.slice none 0 0] 27).P (vs 0) wj:=hd 0 (by decide)
   clear hd;simp only [Jo.putl,Jo.zd,Jo.ze,Act.put,Jo.za,Jo.zb,Jo.zc]at hK⊢;simp only [hg]at hK⊢;clear hg;generalize vs 0=u0 at hK d0⊢;generalize vs 3=u3 at hK⊢
   replace d0:u0=_:=d0
   subst d0;have xX:=X.cell;have zX:=X.frozen;go_simp;have SX:=StN.mk2 X (.bool s3) (.slice A3 n3 c3);exact hK.out undef _ _ rfl SX
  exact Jo.StepsI.nil
 have d0:(Jo.TFact.eq (.agg #[.bool s3,.slice A3 n3 c3]):Jo.TFact #[.bool false,.slice none 0 0] 27).P (vs 0) w9:=hd 0 (by decide)
 have d1:(Jo.TFact.eq (.agg #[.bool s3,.slice A3 n3 c3]):Jo.TFact #[.bool false,.slice none 0 0] 27).P (vs 1) w9:=hd 1 (by decide)
 clear hd;obtain⟨g5,g6,csp,ep,eq_,hg5,hg6,hneg5,ee,X5,X6⟩:=hpq;simp only [Jo.putl,Jo.zd,Jo.ze,Act.put,Jo.za,Jo.zb,Jo.zc];simp only [ep,eq_];clear ep eq_;generalize vs 0=u0 at d0 ee⊢;generalize vs 1=u1 at d1⊢;generalize vs 4=u4 at⊢;clear vs
 replace d0:u0=_:=d0
 subst d0
 replace d1:u1=_:=d1
 subst d1
 injection ee with ee
 subst ee;replace X1:=X1.below hJ;replace XR:=XR.below hJ;replace X3:=X3.below hJ;replace p9:=p9.below hJ;replace p3:=p3.below hJ;replace HB:=Hqb HB hJ;have xX6:=X6.cell;have zX60:=X6.frozen
 refine Jo.jnext (i:=5) (o:=⟨none,_,_,_,_,_⟩) (by kernel_rfl) rfl (fun K hK=>?_)
 go_simp;refine hK.out _ _ ?_;clear hK K xX6 zX60;generalize hS:(w9.setCell _ _).setCell _ _=wB at *;have SX:=StN.of2 X6 hS;replace X1:=X1.stn SX (by omega);replace XR:=XR.stn SX (by omega);replace X3:=X3.stn SX (by omega);replace X5:=X5.stn SX (by omega);replace p9:=p9.stn SX (by simp [no32]);replace p3:=p3.stn SX (by simp [no32]);replace HB:=Hqs HB SX (by omega)
 replace X6:=SX.box;clear SX hS;refine Jo.jdone (by kernel_rfl) ?_
 go_upto_region 7 with (fail)
 generalize hg3:w2.heap.size=g3 at *
 have G1:w.heap.size+1 < g3∧g3 < g5∧g3 < g6∧g5≠g6:=⟨by omega,by omega,by omega,hneg5⟩
 have hI0:TInv w x g3 g5 g6 s3 A3 n3 c3 s9 A9 n9 c9 0 wB:=⟨_,_,_,_,_,_,_,_,X1,XR,X3,X5,X6,p3,p9,p3,p3,by omega,by decide,HB.out⟩
 have HI0:=Lib.hid hI0;clear hI0 XR X1 X3 X5 X6 p3 p9 HB;go_wp2
 go_loopw [7] (fun i wr=>∃j:Nat,i= .int .i64 ((j:Int)+1)∧TInv w x g3 g5 g6 s3 A3 n3 c3 s9 A9 n9 c9 j wr) (fun i _=>41-(intOf i).toNat)
 case atStart=>exact ⟨0,rfl,HI0.out⟩
 case round=>
  obtain⟨j,rfl,s5,A5,n5,c5,s6,A6,n6,c6,X1,XR,X3,X5,X6,p3,p9,p6,p5,k5,hj,hB⟩:=hrel;have HB:=Lib.hid hB;have few6:=p6.fits (ti_fits HXB.out hj);clear hB HI0
  by_cases hlt:j < 40
  ·have tlt:decide ((j:Int)+1≤40)=true:=decide_eq_true (by omega)
   have HW1:Hid (IntKind.i64.wrap (2*((j:Int)+1))=2*((j:Int)+1)):=Lib.hid (IntWalk.i64_in _ (by omega))
   have HW2:Hid (IntKind.i64.wrap (2*((j:Int)+1)+1)=2*((j:Int)+1)+1):=Lib.hid (IntWalk.i64_in _ (by omega))
   have HW3:Hid (wrap64 (2*((j:Int)+1)+1)=2*((j:Int)+1)+1):=Lib.hid (IntWalk.wrap64_in _ (by omega))
   have hb4:0≤2*((j:Int)+1)*(2*((j:Int)+1)+1)∧2*((j:Int)+1)*(2*((j:Int)+1)+1)≤80*81∧2*((j:Int)+1)*(2*((j:Int)+1)+1)≠0:=by
    have a:0 < 2*((j:Int)+1)*(2*((j:Int)+1)+1):=Int.mul_pos (by omega) (by omega)
    exact⟨Int.le_of_lt a,Int.mul_le_mul (by omega) (by omega) (by omega) (by omega),by omega⟩
   have HW4:Hid (IntKind.i64.wrap (2*((j:Int)+1)*(2*((j:Int)+1)+1))=2*((j:Int)+1)*(2*((j:Int)+1)+1)):=Lib.hid (IntWalk.i64_in _ (by omega))
   have HTI:=Lib.hid (ti_step x j);have HB4:=Lib.hid hb4;clear hb4
   have HSI:Hid (si x j+ti x (j+1)=si x (j+1)):=Lib.hid rfl
   have HFB:=Lib.hid (ti_fits HXB.out (show j+1≤40 by omega))
   generalize hv:ti x (j+1)=T at *;have HV:=Lib.hid hv;clear hv;obtain⟨v,hv⟩:∃v,ti x j*x/SC=v:=⟨_,rfl⟩;obtain⟨u,hu⟩:∃u,v*x/SC=u:=⟨_,rfl⟩
   have HP1:Hid (prd [ti x j,x]=ti x j*x):=Lib.hid (by show 1*ti x j*x=_;rw [Int.one_mul])
   have HP2:Hid (prd [v,x]=v*x):=Lib.hid (by show 1*v*x=_;rw [Int.one_mul])
   have HD1:Hid ((ti x j*x).fdiv SC=v):=Lib.hid (by rw [Int.fdiv_eq_ediv_of_nonneg _ (by decide)];exact hv)
   have HD2:Hid ((v*x).fdiv SC=u):=Lib.hid (by rw [Int.fdiv_eq_ediv_of_nonneg _ (by decide)];exact hu)
   have HTJ:Hid (u.fdiv (2*((j:Int)+1)*(2*((j:Int)+1)+1))= -T):=Lib.hid (by have q:=HTI.out;rw [hv,hu]at q;exact q)
   clear HTI hv hu
   go_upto_region 10 with (fail)
   clear tlt;have ltX1:=X1.lt;have ltXR:=XR.lt;have ltX3:=X3.lt;have ltX5:=X5.lt;have ltX6:=X6.lt;have hszB:=HB.out.size;refine Jo.rk [0,1,2,3,4,5,6] [some 38,some 39,some 40,some 41,some 42,some 43,some 8,none] [[],[],[0,1],[2],[],[3,4],[],[]] 8 1 [Jo.Fact.eq (.agg #[.bool s6,.slice A6 n6 c6]),Jo.Fact.eq (.agg #[.bool s3,.slice A3 n3 c3]),Jo.Fact.wl 12 2 [ti x j,x],Jo.Fact.wn (ti x j*x) (25),Jo.Fact.eq (.agg #[.bool s9,.slice A9 n9 c9]),Jo.Fact.wn (v) (40),Jo.Fact.bo wr.heap.size #[.bool false,.slice none 0 0] 27,Jo.Fact.any] (by kernel_rfl) (by kernel_rfl) (by decide) rfl ?_ ?_
   ·iterate 2 (refine Jo.jm rfl ?_ ?_;rotate_left)
    refine Jo.jm rfl ?_ ?_
    ·rintro wj hJ _ rfl _ rfl K hK;simp only [Jo.z]at hK⊢;go_simp;exact hK.out _ _ ⟨_,_,rfl,Wl.lit2 rfl (p6.below hJ).wr (p3.below hJ).wr (by omega) (by omega)⟩ (bel1 _ _)
    refine Jo.jm rfl ?_ ?_
    ·rintro wj hJ _ ⟨A20,c20,rfl,h20⟩ K hK;simp only [Jo.z]at hK⊢;go_simp;refine (wMul h20 (by decide) HP1.out).mono ?_;rintro ee wk ⟨s21,A21,n21,c21,rfl,p21,k21,B⟩;exact hK.out _ _ ⟨s21,A21,n21,c21,rfl,p21,k21⟩ B
    refine Jo.jm rfl ?_ ?_;rotate_left
    refine Jo.jm rfl ?_ ?_
    ·rintro wj hJ _ ⟨s21,A21,n21,c21,rfl,p21,k21⟩ _ rfl K hK;simp only [Jo.z]at hK⊢;go_simp;refine (tDown p21.wr (p9.below hJ).wr (by omega) (by omega) (by decide) HD1.out).mono ?_;rintro ee wk ⟨s22,A22,n22,c22,rfl,p22,k22,B⟩;exact hK.out _ _ ⟨s22,A22,n22,c22,rfl,p22,by omega⟩ B
    refine Jo.jm rfl ?_ ?_
    ·rintro wj hJ K hK;simp only [Jo.z]at hK⊢;go_simp;exact hK.out _ _ ⟨_,rfl,hJ.size,Bo.new _ _ _⟩ (bel1 _ _)
    exact Jo.Steps.nil
    all_goals (rintro wj hJ;(repeat rintro _ rfl);intro K hK;simp only [Jo.z]at hK⊢;have xX6:=(X6.below hJ).cell;have xX1:=(X1.below hJ).cell;have xX3:=(X3.below hJ).cell;go_simp;exact hK.out _ _ rfl (br _ _))
   rintro wb hJ _ rfl _ rfl _ ⟨_,_,rfl,_⟩ _ ⟨s21,A21,n21,c21,rfl,p21,k21⟩ _ rfl _ ⟨s22,A22,n22,c22,rfl,p22,k22⟩ _ ⟨g8,rfl,hg8,X8⟩ -;simp only [Jo.z];replace X1:=X1.below hJ;replace XR:=XR.below hJ;replace X3:=X3.below hJ;replace X5:=X5.below hJ;replace X6:=X6.below hJ;replace p3:=p3.below hJ;replace p5:=p5.below hJ;replace p6:=p6.below hJ;replace p9:=p9.below hJ
   replace HB:=Hqb HB hJ;clear p21;have xX8:=X8.cell;have zX80:=X8.frozen
   refine Jo.jnext (i:=7) (o:=⟨none,_,_,_,_,_⟩) (by kernel_rfl) rfl (fun K hK=>?_)
   go_simp;refine hK.out _ _ ?_;clear hK K xX8 zX80;generalize hS:(wb.setCell _ _).setCell _ _=wc at *;have SX:=StN.of2 X8 hS;replace X1:=X1.stn SX (by omega);replace XR:=XR.stn SX (by omega);replace X3:=X3.stn SX (by omega);replace X5:=X5.stn SX (by omega);replace X6:=X6.stn SX (by omega);replace p3:=p3.stn SX (by simp [no32]);replace p5:=p5.stn SX (by simp [no32])
   replace p6:=p6.stn SX (by simp [no32]);replace p9:=p9.stn SX (by simp [no32]);replace p22:=p22.stn SX (by simp [no32]);replace HB:=Hqs HB SX (by omega);replace X8:=SX.box;clear SX hS;refine Jo.jdone (by kernel_rfl) ?_
   go_upto_region 11 with (fail)
   have ltX1:=X1.lt;have ltXR:=XR.lt;have ltX3:=X3.lt;have ltX5:=X5.lt;have ltX6:=X6.lt;have ltX8:=X8.lt;have hszC:=HB.out.size;refine Jo.rk [0,1,2,3,4,5,6] [some 44,some 45,some 46,some 47,some 48,some 49,some 9,none] [[],[],[0,1],[2],[],[3,4],[],[]] 8 1 [Jo.Fact.eq (.agg #[.bool s22,.slice A22 n22 c22]),Jo.Fact.eq (.agg #[.bool s3,.slice A3 n3 c3]),Jo.Fact.wl 40 2 [v,x],Jo.Fact.wn (v*x) (81),Jo.Fact.eq (.agg #[.bool s9,.slice A9 n9 c9]),Jo.Fact.wn (u) (100),Jo.Fact.bo wc.heap.size #[.bool false,.slice none 0 0] 27,Jo.Fact.any] (by kernel_rfl) (by kernel_rfl) (by decide) rfl ?_ ?_
   ·iterate 2 (refine Jo.jm rfl ?_ ?_;rotate_left)
    refine Jo.jm rfl ?_ ?_
    ·rintro wj hJ _ rfl _ rfl K hK;simp only [Jo.z]at hK⊢;go_simp;exact hK.out _ _ ⟨_,_,rfl,Wl.lit2 rfl (p22.below hJ).wr (p3.below hJ).wr (by omega) (by omega)⟩ (bel1 _ _)
    refine Jo.jm rfl ?_ ?_
    ·rintro wj hJ _ ⟨A30,c30,rfl,h30⟩ K hK;simp only [Jo.z]at hK⊢;go_simp;refine (wMul h30 (by decide) HP2.out).mono ?_;rintro ee wk ⟨s31,A31,n31,c31,rfl,p31,k31,B⟩;exact hK.out _ _ ⟨s31,A31,n31,c31,rfl,p31,k31⟩ B
    refine Jo.jm rfl ?_ ?_;rotate_left
    refine Jo.jm rfl ?_ ?_
    ·rintro wj hJ _ ⟨s31,A31,n31,c31,rfl,p31,k31⟩ _ rfl K hK;simp only [Jo.z]at hK⊢;go_simp;refine (tDown p31.wr (p9.below hJ).wr (by omega) (by omega) (by decide) HD2.out).mono ?_;rintro ee wk ⟨s32,A32,n32,c32,rfl,p32,k32,B⟩;exact hK.out _ _ ⟨s32,A32,n32,c32,rfl,p32,by omega⟩ B
    refine Jo.jm rfl ?_ ?_
    ·rintro wj hJ K hK;simp only [Jo.z]at hK⊢;go_simp;exact hK.out _ _ ⟨_,rfl,hJ.size,Bo.new _ _ _⟩ (bel1 _ _)
    exact Jo.Steps.nil
    all_goals (rintro wj hJ;(repeat rintro _ rfl);intro K hK;simp only [Jo.z]at hK⊢;have xX8:=(X8.below hJ).cell;have xX1:=(X1.below hJ).cell;have xX3:=(X3.below hJ).cell;go_simp;exact hK.out _ _ rfl (br _ _))
   rintro wd hJ _ rfl _ rfl _ ⟨_,_,rfl,_⟩ _ ⟨s31,A31,n31,c31,rfl,p31,k31⟩ _ rfl _ ⟨s32,A32,n32,c32,rfl,p32,k32⟩ _ ⟨g9,rfl,hg9,X9⟩ -;simp only [Jo.z];replace X1:=X1.below hJ;replace XR:=XR.below hJ;replace X3:=X3.below hJ;replace X5:=X5.below hJ;replace X6:=X6.below hJ;replace X8:=X8.below hJ;replace p3:=p3.below hJ;replace p5:=p5.below hJ;replace p6:=p6.below hJ
   replace p9:=p9.below hJ;replace p22:=p22.below hJ;replace HB:=Hqb HB hJ;clear p31 p22 X8;have xX9:=X9.cell;have zX90:=X9.frozen
   refine Jo.jnext (i:=7) (o:=⟨none,_,_,_,_,_⟩) (by kernel_rfl) rfl (fun K hK=>?_)
   go_simp;refine hK.out _ _ ?_;clear hK K xX9 zX90;generalize hS:(wd.setCell _ _).setCell _ _=we at *;have SX:=StN.of2 X9 hS;replace X1:=X1.stn SX (by omega);replace XR:=XR.stn SX (by omega);replace X3:=X3.stn SX (by omega);replace X5:=X5.stn SX (by omega);replace X6:=X6.stn SX (by omega);replace p3:=p3.stn SX (by simp [no32]);replace p5:=p5.stn SX (by simp [no32])
   replace p6:=p6.stn SX (by simp [no32]);replace p9:=p9.stn SX (by simp [no32]);replace p32:=p32.stn SX (by simp [no32]);replace HB:=Hqs HB SX (by omega);replace X9:=SX.box;clear SX hS;refine Jo.jdone (by kernel_rfl) ?_
   go_upto_region 12 with (fail)
   have ltX1:=X1.lt;have ltXR:=XR.lt;have ltX3:=X3.lt;have ltX5:=X5.lt;have ltX6:=X6.lt;have ltX9:=X9.lt;have hszE:=HB.out.size;refine Jo.rk [0,1,2,3,4,5,6,7,8,9] [some 50,some 51,some 52,some 53,some 54,some 55,some 56,some 57,some 58,some 59,none] [[],[],[1],[],[3],[4],[2,5],[6],[0,7],[8],[]] 11 1 [Jo.Fact.eq (.agg #[.bool s32,.slice A32 n32 c32]),Jo.Fact.eq (.int .i64 ((j:Int)+1)),Jo.Fact.eq (.int .i64 (2*((j:Int)+1))),Jo.Fact.eq (.int .i64 ((j:Int)+1)),Jo.Fact.eq (.int .i64 (2*((j:Int)+1))),Jo.Fact.eq (.int .i64 (2*((j:Int)+1)+1)),Jo.Fact.eq (.int .i64 (2*((j:Int)+1)*(2*((j:Int)+1)+1))),Jo.Fact.wn (2*((j:Int)+1)*(2*((j:Int)+1)+1)) (2),Jo.Fact.wn (-T) (106),Jo.Fact.wn (T) (106),Jo.Fact.any] (by kernel_rfl) (by kernel_rfl) (by decide) rfl ?_ ?_
   ·iterate 2 (refine Jo.jm rfl ?_ ?_;rotate_left)
    refine Jo.jm rfl ?_ ?_
    ·rintro wj hJ _ rfl K hK;simp only [Jo.z]at hK⊢;have hw:=HW1.out;go_simp
     exact hK.out _ _ (by first | rfl | (show Value.int _ _=Value.int _ _;simp_all)) (br _ _)
    refine Jo.jm rfl ?_ ?_;rotate_left
    refine Jo.jm rfl ?_ ?_
    ·rintro wj hJ _ rfl K hK;simp only [Jo.z]at hK⊢;have hw:=HW1.out;go_simp
     exact hK.out _ _ (by first | rfl | (show Value.int _ _=Value.int _ _;simp_all)) (br _ _)
    refine Jo.jm rfl ?_ ?_
    ·rintro wj hJ _ rfl K hK;simp only [Jo.z]at hK⊢;have hw:=HW2.out;have hw3:=HW3.out;go_simp
     exact hK.out _ _ (by first | rfl | (show Value.int _ _=Value.int _ _;simp_all)) (br _ _)
    refine Jo.jm rfl ?_ ?_
    ·rintro wj hJ _ rfl _ rfl K hK;simp only [Jo.z]at hK⊢;have hw:=HW4.out;go_simp
     exact hK.out _ _ (by first | rfl | (show Value.int _ _=Value.int _ _;simp_all)) (br _ _)
    refine Jo.jm rfl ?_ ?_
    ·rintro wj hJ _ rfl K hK;simp only [Jo.z]at hK⊢;go_simp;refine (wFrom _ _ (Int.le_trans (by decide) HB4.out.1) (Int.le_trans HB4.out.2.1 (by decide))).mono ?_;rintro ee wk ⟨s40,A40,n40,c40,rfl,p40,k40,B⟩;exact hK.out _ _ ⟨s40,A40,n40,c40,rfl,p40,k40⟩ B
    refine Jo.jm rfl ?_ ?_
    ·rintro wj hJ _ rfl _ ⟨s40,A40,n40,c40,rfl,p40,k40⟩ K hK;simp only [Jo.z]at hK⊢;go_simp;refine (tDown (p32.below hJ).wr p40.wr (by omega) (by omega) HB4.out.2.2 HTJ.out).mono ?_;rintro ee wk ⟨s41,A41,n41,c41,rfl,p41,k41,B⟩;exact hK.out _ _ ⟨s41,A41,n41,c41,rfl,p41,by omega⟩ B
    refine Jo.jm rfl ?_ ?_
    ·rintro wj hJ _ ⟨s41,A41,n41,c41,rfl,p41,k41⟩ K hK;simp only [Jo.z]at hK⊢;go_simp;refine (wNeg p41.wr (Int.neg_neg T)).mono ?_;rintro ee wk ⟨s42,A42,n42,c42,rfl,p42,k42,B⟩;exact hK.out _ _ ⟨s42,A42,n42,c42,rfl,p42,by omega⟩ B
    exact Jo.Steps.nil
    all_goals (rintro wj hJ;(repeat rintro _ rfl);intro K hK;simp only [Jo.z]at hK⊢;have xX9:=(X9.below hJ).cell;go_simp;exact hK.out _ _ rfl (br _ _))
   rintro wf hJ _ rfl _ rfl _ rfl _ rfl _ rfl _ rfl _ rfl _ ⟨s40,A40,n40,c40,rfl,p40,k40⟩ _ ⟨s41,A41,n41,c41,rfl,p41,k41⟩ _ ⟨s42,A42,n42,c42,rfl,p42,k42⟩ -;simp only [Jo.z];replace X1:=X1.below hJ;replace XR:=XR.below hJ;replace X3:=X3.below hJ;replace X5:=X5.below hJ;replace X6:=X6.below hJ;replace X9:=X9.below hJ;replace p3:=p3.below hJ;replace p5:=p5.below hJ
   replace p6:=p6.below hJ;replace p9:=p9.below hJ;replace p32:=p32.below hJ;replace HB:=Hqb HB hJ;clear p32 p40 p41 p6 X9;have few42:=p42.fits HFB.out;have xX6:=X6.cell;have zX60:=X6.frozen
   refine Jo.jnext (i:=10) (o:=⟨none,_,_,_,_,_⟩) (by kernel_rfl) rfl (fun K hK=>?_)
   go_simp;refine hK.out _ _ ?_;clear hK K xX6 zX60;generalize hS:(wf.setCell _ _).setCell _ _=wg at *;have SX:=StN.of2 X6 hS;replace X1:=X1.stn SX (by omega);replace XR:=XR.stn SX (by omega);replace X3:=X3.stn SX (by omega);replace X5:=X5.stn SX (by omega);replace p3:=p3.stn SX (by simp [no32]);replace p5:=p5.stn SX (by simp [no32]);replace p9:=p9.stn SX (by simp [no32])
   replace p42:=p42.stn SX (by simp [no32]);replace HB:=Hqs HB SX (by omega);replace X6:=SX.box;clear SX hS;refine Jo.jdone (by kernel_rfl) ?_
   go_upto_region 13 with (fail)
   have xX5:=X5.cell;have xX6:=X6.cell
   go_wp2_with fail
   refine (wAdd p5.wr p42.wr (by omega) (by omega) HSI.out).mono ?_;rintro ee wh ⟨s43,A43,n43,c43,rfl,p43,k43,B⟩;clear xX5 xX6;replace X1:=X1.below B;replace XR:=XR.below B;replace X3:=X3.below B;replace X5:=X5.below B;replace X6:=X6.below B;replace p3:=p3.below B;replace p5:=p5.below B;replace p9:=p9.below B;replace p42:=p42.below B;replace HB:=Hqb HB B
   clear B;clear p5;have xX5:=X5.cell;have zX50:=X5.frozen
   go_upto_region 9 with (fail)
   clear xX5 zX50;generalize hS:(wh.setCell _ _).setCell _ _=wi at *;have SX:=StN.of2 X5 hS;replace X1:=X1.stn SX (by omega);replace XR:=XR.stn SX (by omega);replace X3:=X3.stn SX (by omega);replace X6:=X6.stn SX (by omega);replace p3:=p3.stn SX (by simp [no32]);replace p9:=p9.stn SX (by simp [no32]);replace p42:=p42.stn SX (by simp [no32]);replace p43:=p43.stn SX (by simp [no32])
   replace HB:=Hqs HB SX (by omega);replace X5:=SX.box;clear SX hS
   have HW5:Hid (IntKind.i64.wrap ((j:Int)+1+1)=(j:Int)+1+1):=Lib.hid (IntWalk.i64_in _ (by omega))
   have HW6:Hid (wrap64 ((j:Int)+1+1)=(j:Int)+1+1):=Lib.hid (IntWalk.wrap64_in _ (by omega))
   have hw5:=HW5.out;have hw6:=HW6.out;have hT:=HV.out;subst hT;go_wp2;clear hw5 hw6
   go_roundw
   case rel=>exact ⟨j+1,by go_num,_,_,_,_,_,_,_,_,X1,XR,X3,X5,X6,p3,p9,p42,p43,by omega,by omega,HB.out⟩
   case measure=>simp [intOf];omega
  ·obtain rfl:j=40:=by omega
   have tlt:decide (((40:Nat):Int)+1≤40)=false:=by decide
   clear p3 p6 p9;have xXR:=XR.cell;have zXR0:=XR.frozen;have xX5:=X5.cell;go_wp2;clear xXR zXR0 xX5;have SX:=StN.mk2 XR (.bool s5) (.slice A5 n5 c5);replace p5:=p5.stn SX (by simp [no32]);exact bodyPost_ret (v:= .agg #[.bool s5,.slice A5 n5 c5]) (by simp [results,Tryz.results11,go_sem,SX.box.cell]) rfl ⟨_,_,_,_,rfl,p5,by omega,(SX.below HB.out (by omega))⟩
theorem tSer{w:World}{A:Option Addr}{n c:Nat}{s:Bool}{x r:Int}(h:Wr w s A n c x)(hn:n≤100000)(hr:serI x=r):Calls Tryz.prog 11 #[.agg #[.bool s,.slice A n c]] w (W1 w 300000 r):=by
 obtain⟨a,h,hx⟩:=h
 unfold serI at hr
 by_cases h1:(4*SC) < x
 ·rw [if_pos (by omega)]at hr;subst hr;exact tser_hi h hx hn h1
 ·by_cases h2:x < -(4*SC)
  ·rw [if_pos (by omega)]at hr;subst hr;exact tser_lo h hx hn h1 h2
  ·rw [if_neg (by omega)]at hr;subst hr;exact tser_near h hx hn h1 h2
end Go.Proofs.YtaadmpiphnfllaaGreatDoor
