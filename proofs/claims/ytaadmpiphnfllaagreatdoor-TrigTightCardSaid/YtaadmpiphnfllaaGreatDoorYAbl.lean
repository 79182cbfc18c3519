/-
 Contracts that the proof rests on.
-/
import Derived.Laws.EntriesVeiled
import Derived.Test.YtaadmpiphnfllaaGreatDoorYAbj
namespace Go.Proofs.YtaadmpiphnfllaaGreatDoor
set_option maxHeartbeats 8000000
open Go.RowKit
set_option linter.unusedVariables false
set_option linter.unusedSimpArgs false
set_option maxRecDepth 100000
def Jo.TFact.wnS (x:Int)(K:Nat):Jo.TFact #[.bool false,.slice none 0 0,.bool false,.slice none 0 0] 59:=⟨fun v w=>∃s1 A1 n1 c1,v= .agg #[.bool s1,.slice A1 n1 c1]∧Wn w s1 A1 n1 c1 x∧n1≤K,fun v w w' h b=>by
 obtain⟨s1,A1,n1,c1,e,p,k⟩:=h
 exact⟨s1,A1,n1,c1,e,p.below b,k⟩,fun v w w' g cs h S=>by
 obtain⟨s1,A1,n1,c1,e,p,k⟩:=h;exact⟨s1,A1,n1,c1,e,p.stn S (by simp [no32]),k⟩⟩
def Jo.TFact.spS (x y:Int)(K:Nat):Jo.TFact #[.bool false,.slice none 0 0,.bool false,.slice none 0 0] 59:=⟨fun v w=>∃s1 A1 n1 c1 s2 A2 n2 c2,v= .agg #[.bool s1,.slice A1 n1 c1,.bool s2,.slice A2 n2 c2]∧Wn w s1 A1 n1 c1 x∧Wn w s2 A2 n2 c2 y∧n1≤K∧n2≤K,fun v w w' h b=>by
 obtain⟨s1,A1,n1,c1,s2,A2,n2,c2,e,p,q,k,l⟩:=h
 exact⟨s1,A1,n1,c1,s2,A2,n2,c2,e,p.below b,q.below b,k,l⟩,fun v w w' g cs h S=>by
 obtain⟨s1,A1,n1,c1,s2,A2,n2,c2,e,p,q,k,l⟩:=h;exact⟨s1,A1,n1,c1,s2,A2,n2,c2,e,p.stn S (by simp [no32]),q.stn S (by simp [no32]),k,l⟩⟩
theorem Wn.off{w w':World}{g:Nat}{old new:Array Value}{R:TypeId}{s:Bool}{A:Option Addr}{n c:Nat}{z:Int}(h:Wn w s A n c z)(X:Bo w g old R)(hn:old.all no32=true)(O:Jo.Off g new R w w'):Wn w' s A n c z:=⟨h.1.off X hn O,h.2⟩
def PSB (w:World)(K:Nat)(x y:Int)(b:Bool)(e:Ending)(w':World):Prop:=∃s1 A1 n1 c1 s2 A2 n2 c2,e= .returned (.tuple #[.agg #[.bool s1,.slice A1 n1 c1,.bool s2,.slice A2 n2 c2],.bool b])∧Wn w' s1 A1 n1 c1 x∧Wn w' s2 A2 n2 c2 y∧n1≤K∧n2≤K∧Below w.heap.size w w'
theorem tAround{w:World}{D D' M M' E E':Int}{s s':Bool}{a b ga gb:Int}{ta tb:Bool}(hT:Tab w)(h0:0≤M)(hM:LQ M)(h0':0≤M')(hM':LQ M')(ha:rk D s M E=a)(hb:rk D' s' M' E'=b)(hga:fixI a=ga)(hgb:fixI b=gb)(hta:fixB a=ta)(htb:fixB b=tb):Calls Tryz.prog 97 #[VQ D s M E,VQ D' s' M' E'] w (PSB w 140010 ga (gb+1) (ta && tb)):=by
 delta VQ
 have HA:=Lib.hid ha;have HBB:=Lib.hid hb;have HGA:=Lib.hid hga;have HGB:=Lib.hid hgb;have HTA:=Lib.hid hta;have HTB:=Lib.hid htb;clear ha hb hga hgb hta htb
 go_enter Tryz.func97,Tryz.ntmps97
 go_upto_region 1 with (fail)
 generalize hW1:((w.alloc _).alloc _).alloc _=w1 at *;obtain⟨X2,X3,XR,HB⟩:=Bo.en3 hW1;replace hT:=hT.below HB.out;clear hW1;have xX2:=X2.cell
 go_wp2_with fail
 refine (cFix hT h0 hM HA.out HGA.out HTA.out).mono ?_;rintro ee w2 ⟨s20,A20,n20,c20,rfl,p20,k20,B⟩;clear xX2;replace X2:=X2.below B;replace X3:=X3.below B;replace XR:=XR.below B;replace hT:=hT.below B;replace HB:=Hqb HB B;clear B
 go_upto_region 2 with (fail)
 have lX6:=Nat.le_refl (World.heap w2).size;have nX6X2:=X2.lt;have nX6X3:=X3.lt;have nX6XR:=XR.lt;generalize hWn:w2.alloc _=w3 at *;obtain⟨X6,BW⟩:=Bo.nw hWn;clear hWn;replace X2:=X2.below BW;replace X3:=X3.below BW;replace XR:=XR.below BW;replace hT:=hT.below BW;replace p20:=p20.below BW;replace HB:=Hqb HB BW;clear BW;clear lX6;have xX3:=X3.cell
 go_wp2_with fail
 refine (cFix hT h0' hM' HBB.out HGB.out HTB.out).mono ?_;rintro ee w4 ⟨s21,A21,n21,c21,rfl,p21,k21,B⟩;clear xX3;replace X2:=X2.below B;replace X3:=X3.below B;replace XR:=XR.below B;replace X6:=X6.below B;replace hT:=hT.below B;replace p20:=p20.below B;replace HB:=Hqb HB B;clear B;clear hT
 go_upto_region 3 with (fail)
 have lX8:=Nat.le_refl (World.heap w4).size;have nX8X2:=X2.lt;have nX8X3:=X3.lt;have nX8XR:=XR.lt;have nX8X6:=X6.lt;generalize hWn:w4.alloc _=w5 at *;obtain⟨X8,BW⟩:=Bo.nw hWn;clear hWn;replace X2:=X2.below BW;replace X3:=X3.below BW;replace XR:=XR.below BW;replace X6:=X6.below BW;replace p20:=p20.below BW;replace p21:=p21.below BW;replace HB:=Hqb HB BW
 clear BW;clear lX8;have ltX2:=X2.lt;have ltX3:=X3.lt;have ltXR:=XR.lt;have ltX6:=X6.lt;have ltX8:=X8.lt;have hszA:=HB.out.size
 cases ta
 ·have ltX2:=X2.lt;have ltX3:=X3.lt;have ltXR:=XR.lt;have ltX6:=X6.lt;have ltX8:=X8.lt;have hszp:=HB.out.size
  refine Jo.region_lone (old:= #[.bool false,.slice none 0 0,.bool false,.slice none 0 0]) (R:=59) (T:=[0,1,2,3,4,5,6,7,8,9]) (ds:=[some 20,some 21,some 22,some 23,some 24,some 25,some 26,some 27,some 28,none,some 5]) (ls:=[[],[],[],[1,2],[0,3],[],[5],[6],[6,7],[4],[]]) (k:=11) (L:=[(some 20,0),(some 21,1),(some 22,2),(some 23,3),(some 24,4),(some 25,5),(some 26,6),(some 27,7),(some 28,8),(none,9)]) (fuel:=1) (w1:=w5) (g:=w.heap.size+1+1) (s:=9) (e:=4)
   (F:=[Jo.TFact.eq (.agg #[.bool s20,.slice A20 n20 c20]),Jo.TFact.eq (.agg #[.bool s21,.slice A21 n21 c21]),Jo.TFact.wnS (1) (2),Jo.TFact.wnS (gb+1) (140010),Jo.TFact.spS ga (gb+1) 140010,Jo.TFact.eq (.bool false),Jo.TFact.eq (.bool false),Jo.TFact.eq undef,Jo.TFact.eq (.bool false),Jo.TFact.any,Jo.TFact.any])
   XR (by decide) (by kernel_rfl) (by kernel_rfl) (by decide) rfl rfl ?_ (fun vs w6 csp hJ hd ee Xn=>?_)
  ·refine Jo.ocons (i:=0) (o:=⟨some 20,_,_,_,_,_⟩) (di:=some 20) (L:=[]) (f:=Jo.TFact.eq (.agg #[.bool s20,.slice A20 n20 c20])) (by decide) rfl rfl rfl rfl (fun vs wj nw hJ hd K hK=>?_) ?_
   ·clear hd;simp only [Jo.putl,Jo.ze,Act.put,Jo.za,Jo.zb,Jo.zc]at hK⊢;replace X6:=X6.off (by omega) hJ;have xX6:=X6.cell;go_simp;exact hK.out _ _ rfl (br _ _)
   refine Jo.ocons (i:=1) (o:=⟨some 21,_,_,_,_,_⟩) (di:=some 21) (L:=[]) (f:=Jo.TFact.eq (.agg #[.bool s21,.slice A21 n21 c21])) (by decide) rfl rfl rfl rfl (fun vs wj nw hJ hd K hK=>?_) ?_
   ·clear hd;simp only [Jo.putl,Jo.ze,Act.put,Jo.za,Jo.zb,Jo.zc]at hK⊢;replace X8:=X8.off (by omega) hJ;have xX8:=X8.cell;go_simp;exact hK.out _ _ rfl (br _ _)
   refine Jo.ocons (i:=2) (o:=⟨some 22,_,_,_,_,_⟩) (di:=some 22) (L:=[]) (f:=Jo.TFact.wnS (1) (2)) (by decide) rfl rfl rfl rfl (fun vs wj nw hJ hd K hK=>?_) ?_
   ·clear hd;simp only [Jo.putl,Jo.ze,Act.put,Jo.za,Jo.zb,Jo.zc]at hK⊢;go_simp;refine (wFrom 1 _ (by decide) (by decide)).mono ?_;rintro ee wk ⟨s22,A22,n22,c22,rfl,p22,k22,B⟩;exact hK.out _ _ ⟨s22,A22,n22,c22,rfl,p22,k22⟩ B
   refine Jo.ocons (i:=3) (o:=⟨some 23,_,_,_,_,_⟩) (di:=some 23) (L:=[(some 21,1),(some 22,2)]) (f:=Jo.TFact.wnS (gb+1) (140010)) (by decide) rfl rfl rfl rfl (fun vs wj nw hJ hd K hK=>?_) ?_
   ·have d1:(Jo.TFact.eq (.agg #[.bool s21,.slice A21 n21 c21]):Jo.TFact #[.bool false,.slice none 0 0,.bool false,.slice none 0 0] 59).P (vs 1) wj:=hd 1 (by decide)
    have d2:(Jo.TFact.wnS (1) (2):Jo.TFact #[.bool false,.slice none 0 0,.bool false,.slice none 0 0] 59).P (vs 2) wj:=hd 2 (by decide)
    simp only [Jo.putl,Jo.zd,Jo.ze,Act.put,Jo.za,Jo.zb,Jo.zc]at hK⊢;clear hd;generalize vs 1=u1 at hK d1⊢;generalize vs 2=u2 at hK d2⊢
    replace d1:u1=_:=d1
    subst d1;obtain⟨s22,A22,n22,c22,rfl,p22,k22⟩:=d2;go_simp;refine (wAdd (p21.off XR (by simp [no32]) hJ).wr p22.wr (by omega) (by omega) rfl).mono ?_;rintro ee wk ⟨s23,A23,n23,c23,rfl,p23,k23,B⟩;exact hK.out _ _ ⟨s23,A23,n23,c23,rfl,p23,by omega⟩ B
   refine Jo.ocons (i:=4) (o:=⟨some 24,_,_,_,_,_⟩) (di:=some 24) (L:=[(some 20,0),(some 23,3)]) (f:=Jo.TFact.spS ga (gb+1) 140010) (by decide) rfl rfl rfl rfl (fun vs wj nw hJ hd K hK=>?_) ?_
   ·have d0:(Jo.TFact.eq (.agg #[.bool s20,.slice A20 n20 c20]):Jo.TFact #[.bool false,.slice none 0 0,.bool false,.slice none 0 0] 59).P (vs 0) wj:=hd 0 (by decide)
    have d3:(Jo.TFact.wnS (gb+1) (140010):Jo.TFact #[.bool false,.slice none 0 0,.bool false,.slice none 0 0] 59).P (vs 3) wj:=hd 3 (by decide)
    simp only [Jo.putl,Jo.zd,Jo.ze,Act.put,Jo.za,Jo.zb,Jo.zc]at hK⊢;clear hd;generalize vs 0=u0 at hK d0⊢;generalize vs 3=u3 at hK d3⊢
    replace d0:u0=_:=d0
    subst d0;obtain⟨s23,A23,n23,c23,rfl,p23,k23⟩:=d3;go_simp;exact hK.out _ _ ⟨_,_,_,_,_,_,_,_,rfl,p20.off XR (by simp [no32]) hJ,p23,by omega,by omega⟩ (br _ _)
   refine Jo.ocons (i:=5) (o:=⟨some 25,_,_,_,_,_⟩) (di:=some 25) (L:=[]) (f:=Jo.TFact.eq (.bool false)) (by decide) rfl rfl rfl rfl (fun vs wj nw hJ hd K hK=>?_) ?_
   ·clear hd;simp only [Jo.putl,Jo.ze,Act.put,Jo.za,Jo.zb,Jo.zc]at hK⊢;go_simp;exact hK.out _ _ rfl (br _ _)
   refine Jo.ocons (i:=6) (o:=⟨some 26,_,_,_,_,_⟩) (di:=some 26) (L:=[(some 25,5)]) (f:=Jo.TFact.eq (.bool false)) (by decide) rfl rfl rfl rfl (fun vs wj nw hJ hd K hK=>?_) ?_
   ·have d5:(Jo.TFact.eq (.bool false):Jo.TFact #[.bool false,.slice none 0 0,.bool false,.slice none 0 0] 59).P (vs 5) wj:=hd 5 (by decide)
    clear hd;simp only [Jo.putl,Jo.zd,Jo.ze,Act.put,Jo.za,Jo.zb,Jo.zc]at hK⊢;generalize vs 5=u5 at hK d5⊢
    replace d5:u5=_:=d5
    subst d5;go_simp;exact hK.out _ _ rfl (br _ _)
   refine Jo.ocons (i:=7) (o:=⟨some 27,_,_,_,_,_⟩) (di:=some 27) (L:=[(some 26,6)]) (f:=Jo.TFact.eq undef) (by decide) rfl rfl rfl rfl (fun vs wj nw hJ hd K hK=>?_) ?_
   ·have d6:(Jo.TFact.eq (.bool false):Jo.TFact #[.bool false,.slice none 0 0,.bool false,.slice none 0 0] 59).P (vs 6) wj:=hd 6 (by decide)
    clear hd;simp only [Jo.putl,Jo.zd,Jo.ze,Act.put,Jo.za,Jo.zb,Jo.zc]at hK⊢;generalize vs 6=u6 at hK d6⊢
    replace d6:u6=_:=d6
    subst d6;go_simp;exact hK.out _ _ rfl (br _ _)
   refine Jo.ocons (i:=8) (o:=⟨some 28,_,_,_,_,_⟩) (di:=some 28) (L:=[(some 26,6),(some 27,7)]) (f:=Jo.TFact.eq (.bool false)) (by decide) rfl rfl rfl rfl (fun vs wj nw hJ hd K hK=>?_) ?_
   ·have d6:(Jo.TFact.eq (.bool false):Jo.TFact #[.bool false,.slice none 0 0,.bool false,.slice none 0 0] 59).P (vs 6) wj:=hd 6 (by decide)
    have d7:(Jo.TFact.eq undef:Jo.TFact #[.bool false,.slice none 0 0,.bool false,.slice none 0 0] 59).P (vs 7) wj:=hd 7 (by decide)
    simp only [Jo.putl,Jo.zd,Jo.ze,Act.put,Jo.za,Jo.zb,Jo.zc]at hK⊢;clear hd;generalize vs 6=u6 at hK d6⊢;generalize vs 7=u7 at hK d7⊢
    replace d6:u6=_:=d6
    subst d6
    replace d7:u7=_:=d7
    subst d7;go_simp;exact hK.out _ _ rfl (br _ _)
   refine Jo.osto (o:=⟨none,_,_,_,_,_⟩) (di:=none) (L:=[(some 24,4)]) (by decide) rfl rfl rfl rfl (fun vs wj hd X K hK=>?_) ?_
   ·have d4:(Jo.TFact.spS ga (gb+1) 140010:Jo.TFact #[.bool false,.slice none 0 0,.bool false,.slice none 0 0] 59).P (vs 4) wj:=hd 4 (by decide)
    clear hd;simp only [Jo.putl,Jo.zd,Jo.ze,Act.put,Jo.za,Jo.zb,Jo.zc]at hK⊢;generalize vs 4=u4 at hK d4⊢;obtain⟨s24,A24,n24,c24,s25,A25,n25,c25,rfl,p24,p25,k24,k25⟩:=d4;have xX:=X.cell;have zX:=X.frozen;go_simp;have SX:=StN.mk4 X (.bool s24) (.slice A24 n24 c24) (.bool s25) (.slice A25 n25 c25);exact hK.out undef _ _ rfl SX
   exact Jo.StepsI.nil
  have d0:(Jo.TFact.eq (.agg #[.bool s20,.slice A20 n20 c20]):Jo.TFact #[.bool false,.slice none 0 0,.bool false,.slice none 0 0] 59).P (vs 0) w6:=hd 0 (by decide)
  have d1:(Jo.TFact.eq (.agg #[.bool s21,.slice A21 n21 c21]):Jo.TFact #[.bool false,.slice none 0 0,.bool false,.slice none 0 0] 59).P (vs 1) w6:=hd 1 (by decide)
  have d2:(Jo.TFact.wnS (1) (2):Jo.TFact #[.bool false,.slice none 0 0,.bool false,.slice none 0 0] 59).P (vs 2) w6:=hd 2 (by decide)
  have d3:(Jo.TFact.wnS (gb+1) (140010):Jo.TFact #[.bool false,.slice none 0 0,.bool false,.slice none 0 0] 59).P (vs 3) w6:=hd 3 (by decide)
  have d4:(Jo.TFact.spS ga (gb+1) 140010:Jo.TFact #[.bool false,.slice none 0 0,.bool false,.slice none 0 0] 59).P (vs 4) w6:=hd 4 (by decide)
  have d5:(Jo.TFact.eq (.bool false):Jo.TFact #[.bool false,.slice none 0 0,.bool false,.slice none 0 0] 59).P (vs 5) w6:=hd 5 (by decide)
  have d6:(Jo.TFact.eq (.bool false):Jo.TFact #[.bool false,.slice none 0 0,.bool false,.slice none 0 0] 59).P (vs 6) w6:=hd 6 (by decide)
  have d7:(Jo.TFact.eq undef:Jo.TFact #[.bool false,.slice none 0 0,.bool false,.slice none 0 0] 59).P (vs 7) w6:=hd 7 (by decide)
  have d8:(Jo.TFact.eq (.bool false):Jo.TFact #[.bool false,.slice none 0 0,.bool false,.slice none 0 0] 59).P (vs 8) w6:=hd 8 (by decide)
  simp only [Jo.putl,Jo.zd,Jo.ze,Act.put,Jo.za,Jo.zb,Jo.zc];clear hd;generalize vs 0=u0 at d0⊢;generalize vs 1=u1 at d1⊢;generalize vs 2=u2 at d2⊢;generalize vs 3=u3 at d3⊢;generalize vs 4=u4 at d4 ee⊢;generalize vs 5=u5 at d5⊢;generalize vs 6=u6 at d6⊢;generalize vs 7=u7 at d7⊢;generalize vs 8=u8 at d8⊢;generalize vs 9=u9 at⊢;clear vs
  replace d0:u0=_:=d0
  subst d0
  replace d1:u1=_:=d1
  subst d1;obtain⟨s22,A22,n22,c22,rfl,p22,k22⟩:=d2;obtain⟨s23,A23,n23,c23,rfl,p23,k23⟩:=d3;obtain⟨s24,A24,n24,c24,s25,A25,n25,c25,rfl,p24,p25,k24,k25⟩:=d4
  replace d5:u5=_:=d5
  subst d5
  replace d6:u6=_:=d6
  subst d6
  replace d7:u7=_:=d7
  subst d7
  replace d8:u8=_:=d8
  subst d8
  injection ee with ee
  subst ee;replace p20:=p20.off XR (by simp [no32]) hJ;replace p21:=p21.off XR (by simp [no32]) hJ;replace HB:=Lib.hid (hJ.below HB.out (by omega) XR.lt);replace X2:=X2.off (by omega) hJ;replace X3:=X3.off (by omega) hJ;replace X6:=X6.off (by omega) hJ;replace X8:=X8.off (by omega) hJ;clear XR hJ;have XR:=Xn;clear Xn;clear p20 p21 p22 p23
  refine Jo.jnext (i:=10) (o:=⟨some 5,_,_,_,_,_⟩) (by kernel_rfl) rfl (fun K hK=>?_)
  go_simp;refine hK.out _ _ ?_;clear hK K;refine Jo.jdone (by kernel_rfl) ?_;go_wp2;exact bodyPost_ret (v:= .tuple #[.agg #[.bool s24,.slice A24 n24 c24,.bool s25,.slice A25 n25 c25],.bool false]) (by simp [results,Tryz.results97,go_sem,XR.cell]) rfl ⟨s24,A24,n24,c24,s25,A25,n25,c25,rfl,p24,p25,k24,k25,HB.out⟩
 ·have ltX2:=X2.lt;have ltX3:=X3.lt;have ltXR:=XR.lt;have ltX6:=X6.lt;have ltX8:=X8.lt;have hszp:=HB.out.size
  refine Jo.region_lone (old:= #[.bool false,.slice none 0 0,.bool false,.slice none 0 0]) (R:=59) (T:=[0,1,2,3,4,5,6,7,8,9]) (ds:=[some 20,some 21,some 22,some 23,some 24,some 25,some 26,some 27,some 28,none,some 5]) (ls:=[[],[],[],[1,2],[0,3],[],[5],[6],[6,7],[4],[]]) (k:=11) (L:=[(some 20,0),(some 21,1),(some 22,2),(some 23,3),(some 24,4),(some 25,5),(some 26,6),(some 27,7),(some 28,8),(none,9)]) (fuel:=1) (w1:=w5) (g:=w.heap.size+1+1) (s:=9) (e:=4)
   (F:=[Jo.TFact.eq (.agg #[.bool s20,.slice A20 n20 c20]),Jo.TFact.eq (.agg #[.bool s21,.slice A21 n21 c21]),Jo.TFact.wnS (1) (2),Jo.TFact.wnS (gb+1) (140010),Jo.TFact.spS ga (gb+1) 140010,Jo.TFact.eq (.bool true),Jo.TFact.eq (.bool true),Jo.TFact.eq (.bool tb),Jo.TFact.eq (.bool tb),Jo.TFact.any,Jo.TFact.any])
   XR (by decide) (by kernel_rfl) (by kernel_rfl) (by decide) rfl rfl ?_ (fun vs w6 csp hJ hd ee Xn=>?_)
  ·refine Jo.ocons (i:=0) (o:=⟨some 20,_,_,_,_,_⟩) (di:=some 20) (L:=[]) (f:=Jo.TFact.eq (.agg #[.bool s20,.slice A20 n20 c20])) (by decide) rfl rfl rfl rfl (fun vs wj nw hJ hd K hK=>?_) ?_
   ·clear hd;simp only [Jo.putl,Jo.ze,Act.put,Jo.za,Jo.zb,Jo.zc]at hK⊢;replace X6:=X6.off (by omega) hJ;have xX6:=X6.cell;go_simp;exact hK.out _ _ rfl (br _ _)
   refine Jo.ocons (i:=1) (o:=⟨some 21,_,_,_,_,_⟩) (di:=some 21) (L:=[]) (f:=Jo.TFact.eq (.agg #[.bool s21,.slice A21 n21 c21])) (by decide) rfl rfl rfl rfl (fun vs wj nw hJ hd K hK=>?_) ?_
   ·clear hd;simp only [Jo.putl,Jo.ze,Act.put,Jo.za,Jo.zb,Jo.zc]at hK⊢;replace X8:=X8.off (by omega) hJ;have xX8:=X8.cell;go_simp;exact hK.out _ _ rfl (br _ _)
   refine Jo.ocons (i:=2) (o:=⟨some 22,_,_,_,_,_⟩) (di:=some 22) (L:=[]) (f:=Jo.TFact.wnS (1) (2)) (by decide) rfl rfl rfl rfl (fun vs wj nw hJ hd K hK=>?_) ?_
   ·clear hd;simp only [Jo.putl,Jo.ze,Act.put,Jo.za,Jo.zb,Jo.zc]at hK⊢;go_simp;refine (wFrom 1 _ (by decide) (by decide)).mono ?_;rintro ee wk ⟨s22,A22,n22,c22,rfl,p22,k22,B⟩;exact hK.out _ _ ⟨s22,A22,n22,c22,rfl,p22,k22⟩ B
   refine Jo.ocons (i:=3) (o:=⟨some 23,_,_,_,_,_⟩) (di:=some 23) (L:=[(some 21,1),(some 22,2)]) (f:=Jo.TFact.wnS (gb+1) (140010)) (by decide) rfl rfl rfl rfl (fun vs wj nw hJ hd K hK=>?_) ?_
   ·have d1:(Jo.TFact.eq (.agg #[.bool s21,.slice A21 n21 c21]):Jo.TFact #[.bool false,.slice none 0 0,.bool false,.slice none 0 0] 59).P (vs 1) wj:=hd 1 (by decide)
    have d2:(Jo.TFact.wnS (1) (2):Jo.TFact #[.bool false,.slice none 0 0,.bool false,.slice none 0 0] 59).P (vs 2) wj:=hd 2 (by decide)
    simp only [Jo.putl,Jo.zd,Jo.ze,Act.put,Jo.za,Jo.zb,Jo.zc]at hK⊢;clear hd;generalize vs 1=u1 at hK d1⊢;generalize vs 2=u2 at hK d2⊢
    replace d1:u1=_:=d1
    subst d1;obtain⟨s22,A22,n22,c22,rfl,p22,k22⟩:=d2;go_simp;refine (wAdd (p21.off XR (by simp [no32]) hJ).wr p22.wr (by omega) (by omega) rfl).mono ?_;rintro ee wk ⟨s23,A23,n23,c23,rfl,p23,k23,B⟩;exact hK.out _ _ ⟨s23,A23,n23,c23,rfl,p23,by omega⟩ B
   refine Jo.ocons (i:=4) (o:=⟨some 24,_,_,_,_,_⟩) (di:=some 24) (L:=[(some 20,0),(some 23,3)]) (f:=Jo.TFact.spS ga (gb+1) 140010) (by decide) rfl rfl rfl rfl (fun vs wj nw hJ hd K hK=>?_) ?_
   ·have d0:(Jo.TFact.eq (.agg #[.bool s20,.slice A20 n20 c20]):Jo.TFact #[.bool false,.slice none 0 0,.bool false,.slice none 0 0] 59).P (vs 0) wj:=hd 0 (by decide)
    have d3:(Jo.TFact.wnS (gb+1) (140010):Jo.TFact #[.bool false,.slice none 0 0,.bool false,.slice none 0 0] 59).P (vs 3) wj:=hd 3 (by decide)
    simp only [Jo.putl,Jo.zd,Jo.ze,Act.put,Jo.za,Jo.zb,Jo.zc]at hK⊢;clear hd;generalize vs 0=u0 at hK d0⊢;generalize vs 3=u3 at hK d3⊢
    replace d0:u0=_:=d0
    subst d0;obtain⟨s23,A23,n23,c23,rfl,p23,k23⟩:=d3;go_simp;exact hK.out _ _ ⟨_,_,_,_,_,_,_,_,rfl,p20.off XR (by simp [no32]) hJ,p23,by omega,by omega⟩ (br _ _)
   refine Jo.ocons (i:=5) (o:=⟨some 25,_,_,_,_,_⟩) (di:=some 25) (L:=[]) (f:=Jo.TFact.eq (.bool true)) (by decide) rfl rfl rfl rfl (fun vs wj nw hJ hd K hK=>?_) ?_
   ·clear hd;simp only [Jo.putl,Jo.ze,Act.put,Jo.za,Jo.zb,Jo.zc]at hK⊢;go_simp;exact hK.out _ _ rfl (br _ _)
   refine Jo.ocons (i:=6) (o:=⟨some 26,_,_,_,_,_⟩) (di:=some 26) (L:=[(some 25,5)]) (f:=Jo.TFact.eq (.bool true)) (by decide) rfl rfl rfl rfl (fun vs wj nw hJ hd K hK=>?_) ?_
   ·have d5:(Jo.TFact.eq (.bool true):Jo.TFact #[.bool false,.slice none 0 0,.bool false,.slice none 0 0] 59).P (vs 5) wj:=hd 5 (by decide)
    clear hd;simp only [Jo.putl,Jo.zd,Jo.ze,Act.put,Jo.za,Jo.zb,Jo.zc]at hK⊢;generalize vs 5=u5 at hK d5⊢
    replace d5:u5=_:=d5
    subst d5;go_simp;exact hK.out _ _ rfl (br _ _)
   refine Jo.ocons (i:=7) (o:=⟨some 27,_,_,_,_,_⟩) (di:=some 27) (L:=[(some 26,6)]) (f:=Jo.TFact.eq (.bool tb)) (by decide) rfl rfl rfl rfl (fun vs wj nw hJ hd K hK=>?_) ?_
   ·have d6:(Jo.TFact.eq (.bool true):Jo.TFact #[.bool false,.slice none 0 0,.bool false,.slice none 0 0] 59).P (vs 6) wj:=hd 6 (by decide)
    clear hd;simp only [Jo.putl,Jo.zd,Jo.ze,Act.put,Jo.za,Jo.zb,Jo.zc]at hK⊢;generalize vs 6=u6 at hK d6⊢
    replace d6:u6=_:=d6
    subst d6;go_simp;exact hK.out _ _ rfl (br _ _)
   refine Jo.ocons (i:=8) (o:=⟨some 28,_,_,_,_,_⟩) (di:=some 28) (L:=[(some 26,6),(some 27,7)]) (f:=Jo.TFact.eq (.bool tb)) (by decide) rfl rfl rfl rfl (fun vs wj nw hJ hd K hK=>?_) ?_
   ·have d6:(Jo.TFact.eq (.bool true):Jo.TFact #[.bool false,.slice none 0 0,.bool false,.slice none 0 0] 59).P (vs 6) wj:=hd 6 (by decide)
    have d7:(Jo.TFact.eq (.bool tb):Jo.TFact #[.bool false,.slice none 0 0,.bool false,.slice none 0 0] 59).P (vs 7) wj:=hd 7 (by decide)
    simp only [Jo.putl,Jo.zd,Jo.ze,Act.put,Jo.za,Jo.zb,Jo.zc]at hK⊢;clear hd;generalize vs 6=u6 at hK d6⊢;generalize vs 7=u7 at hK d7⊢
    replace d6:u6=_:=d6
    subst d6
    replace d7:u7=_:=d7
    subst d7;go_simp;exact hK.out _ _ rfl (br _ _)
   refine Jo.osto (o:=⟨none,_,_,_,_,_⟩) (di:=none) (L:=[(some 24,4)]) (by decide) rfl rfl rfl rfl (fun vs wj hd X K hK=>?_) ?_
   ·have d4:(Jo.TFact.spS ga (gb+1) 140010:Jo.TFact #[.bool false,.slice none 0 0,.bool false,.slice none 0 0] 59).P (vs 4) wj:=hd 4 (by decide)
    clear hd;simp only [Jo.putl,Jo.zd,Jo.ze,Act.put,Jo.za,Jo.zb,Jo.zc]at hK⊢;generalize vs 4=u4 at hK d4⊢;obtain⟨s24,A24,n24,c24,s25,A25,n25,c25,rfl,p24,p25,k24,k25⟩:=d4;have xX:=X.cell;have zX:=X.frozen;go_simp;have SX:=StN.mk4 X (.bool s24) (.slice A24 n24 c24) (.bool s25) (.slice A25 n25 c25);exact hK.out undef _ _ rfl SX
   exact Jo.StepsI.nil
  have d0:(Jo.TFact.eq (.agg #[.bool s20,.slice A20 n20 c20]):Jo.TFact #[.bool false,.slice none 0 0,.bool false,.slice none 0 0] 59).P (vs 0) w6:=hd 0 (by decide)
  have d1:(Jo.TFact.eq (.agg #[.bool s21,.slice A21 n21 c21]):Jo.TFact #[.bool false,.slice none 0 0,.bool false,.slice none 0 0] 59).P (vs 1) w6:=hd 1 (by decide)
  have d2:(Jo.TFact.wnS (1) (2):Jo.TFact #[.bool false,.slice none 0 0,.bool false,.slice none 0 0] 59).P (vs 2) w6:=hd 2 (by decide)
  have d3:(Jo.TFact.wnS (gb+1) (140010):Jo.TFact #[.bool false,.slice none 0 0,.bool false,.slice none 0 0] 59).P (vs 3) w6:=hd 3 (by decide)
  have d4:(Jo.TFact.spS ga (gb+1) 140010:Jo.TFact #[.bool false,.slice none 0 0,.bool false,.slice none 0 0] 59).P (vs 4) w6:=hd 4 (by decide)
  have d5:(Jo.TFact.eq (.bool true):Jo.TFact #[.bool false,.slice none 0 0,.bool false,.slice none 0 0] 59).P (vs 5) w6:=hd 5 (by decide)
  have d6:(Jo.TFact.eq (.bool true):Jo.TFact #[.bool false,.slice none 0 0,.bool false,.slice none 0 0] 59).P (vs 6) w6:=hd 6 (by decide)
  have d7:(Jo.TFact.eq (.bool tb):Jo.TFact #[.bool false,.slice none 0 0,.bool false,.slice none 0 0] 59).P (vs 7) w6:=hd 7 (by decide)
  have d8:(Jo.TFact.eq (.bool tb):Jo.TFact #[.bool false,.slice none 0 0,.bool false,.slice none 0 0] 59).P (vs 8) w6:=hd 8 (by decide)
  simp only [Jo.putl,Jo.zd,Jo.ze,Act.put,Jo.za,Jo.zb,Jo.zc];clear hd;generalize vs 0=u0 at d0⊢;generalize vs 1=u1 at d1⊢;generalize vs 2=u2 at d2⊢;generalize vs 3=u3 at d3⊢;generalize vs 4=u4 at d4 ee⊢;generalize vs 5=u5 at d5⊢;generalize vs 6=u6 at d6⊢;generalize vs 7=u7 at d7⊢;generalize vs 8=u8 at d8⊢;generalize vs 9=u9 at⊢;clear vs
  replace d0:u0=_:=d0
  subst d0
  replace d1:u1=_:=d1
  subst d1;obtain⟨s22,A22,n22,c22,rfl,p22,k22⟩:=d2;obtain⟨s23,A23,n23,c23,rfl,p23,k23⟩:=d3;obtain⟨s24,A24,n24,c24,s25,A25,n25,c25,rfl,p24,p25,k24,k25⟩:=d4
  replace d5:u5=_:=d5
  subst d5
  replace d6:u6=_:=d6
  subst d6
  replace d7:u7=_:=d7
  subst d7
  replace d8:u8=_:=d8
  subst d8
  injection ee with ee
  subst ee;replace p20:=p20.off XR (by simp [no32]) hJ;replace p21:=p21.off XR (by simp [no32]) hJ;replace HB:=Lib.hid (hJ.below HB.out (by omega) XR.lt);replace X2:=X2.off (by omega) hJ;replace X3:=X3.off (by omega) hJ;replace X6:=X6.off (by omega) hJ;replace X8:=X8.off (by omega) hJ;clear XR hJ;have XR:=Xn;clear Xn;clear p20 p21 p22 p23
  refine Jo.jnext (i:=10) (o:=⟨some 5,_,_,_,_,_⟩) (by kernel_rfl) rfl (fun K hK=>?_)
  go_simp;refine hK.out _ _ ?_;clear hK K;refine Jo.jdone (by kernel_rfl) ?_;go_wp2;exact bodyPost_ret (v:= .tuple #[.agg #[.bool s24,.slice A24 n24 c24,.bool s25,.slice A25 n25 c25],.bool tb]) (by simp [results,Tryz.results97,go_sem,XR.cell]) rfl ⟨s24,A24,n24,c24,s25,A25,n25,c25,rfl,p24,p25,k24,k25,HB.out⟩
theorem tBounds{w:World}:Calls Tryz.prog 96 #[] w (PSp w 7 PLo PHi):=by
 go_enter Tryz.func96,Tryz.ntmps96
 go_upto_region 1 with (fail)
 generalize hW1:w.alloc _=w1 at *;obtain⟨XR,HB⟩:=Bo.en1 hW1;clear hW1
 go_wp2_with fail
 refine (cBounds).mono ?_;rintro ee w2 ⟨s2,A2,n2,c2,s3,A3,n3,c3,rfl,p2,p3,k2,k3,B⟩;replace XR:=XR.below B;replace HB:=Hqb HB B;clear B
 go_upto_region 2 with (fail)
 have e4X2:(World.alloc w2 (.cells #[.bool s2,.slice A2 n2 c2] 27)).heap.size=w2.heap.size+1:=by simp
 have lX1:=Nat.le_refl (World.heap w2).size;have nX1XR:=XR.lt;have BX:=bel1 w2 (.cells #[.bool s2,.slice A2 n2 c2] 27);replace XR:=XR.below BX;replace p2:=p2.below BX;replace p3:=p3.below BX;replace HB:=Lib.hid (bt HB.out BX);have X1:=Bo.new w2 #[.bool s2,.slice A2 n2 c2] 27
 generalize hWn:World.alloc w2 (.cells #[.bool s2,.slice A2 n2 c2] 27)=w3 at *;clear hWn;have lX2:=Nat.le_refl (World.heap w3).size;have nX2XR:=XR.lt;have nX2X1:=X1.lt;generalize hWn:w3.alloc _=w4 at *;obtain⟨X2,BW⟩:=Bo.nw hWn;clear hWn;replace XR:=XR.below BW;replace X1:=X1.below BW;replace p2:=p2.below BW;replace p3:=p3.below BW;replace HB:=Hqb HB BW
 clear BW;rw [e4X2]at X2;clear lX1 lX2 e4X2;have xXR:=XR.cell;have zXR0:=XR.frozen;have xX1:=X1.cell;have xX2:=X2.cell;go_wp2;clear xXR zXR0 xX1 xX2;have SX:=StN.mk4 XR (.bool s2) (.slice A2 n2 c2) (.bool s3) (.slice A3 n3 c3);replace p2:=p2.stn SX (by simp [no32]);replace p3:=p3.stn SX (by simp [no32]);exact bodyPost_ret (v:= .agg #[.bool s2,.slice A2 n2 c2,.bool s3,.slice A3 n3 c3]) (by simp [results,Tryz.results96,go_sem,SX.box.cell]) rfl ⟨s2,A2,n2,c2,s3,A3,n3,c3,rfl,p2,p3,k2,k3,(SX.below HB.out (by omega))⟩
def aX (cos:Bool):Int:=if cos then PLo/2 else 0
def aY (cos:Bool):Int:=if cos then (PHi+1) /2 else 0
theorem ofX_eq (cos:Bool)(g:Int):g+aX cos=ofX cos g:=by
 unfold aX ofX
 cases cos
 ·show g+0=g
  omega
 ·rfl
theorem ofY_eq (cos:Bool)(g:Int):g+1+aY cos=ofY cos g:=by
 unfold aY ofY
 cases cos
 ·show g+1+0=g+1
  omega
 ·rfl
theorem tQuarter{w:World}{A':Option Addr}{n' c':Nat}{s':Bool}{B':Option Addr}{m' d':Nat}{t':Bool}(h':Wn w s' A' n' c' PLo)(k':Wn w t' B' m' d' PHi)(hn':n'≤7)(hm':m'≤7):Calls Tryz.prog 107 #[.agg #[.bool s',.slice A' n' c',.bool t',.slice B' m' d']] w (PSp w 20 (aX true) (aY true)):=by
 have H1:Hid (PLo.fdiv 2=aX true):=Lib.hid (by decide)
 have H2:Hid ((PHi+1).fdiv 2=aY true):=Lib.hid (by decide)
 go_enter Tryz.func107,Tryz.ntmps107
 go_upto_region 1 with (fail)
 have X1:=(Bo.newAt w (g:=w.heap.size) (by simp) #[.bool s',.slice A' n' c',.bool t',.slice B' m' d'] 59).below (bel1 _ (.cells #[.bool false,.slice none 0 0,.bool false,.slice none 0 0] 59));have XR:=(Bo.newAt (w.alloc (.cells #[.bool s',.slice A' n' c',.bool t',.slice B' m' d'] 59)) (g:=w.heap.size+1) (by simp) #[.bool false,.slice none 0 0,.bool false,.slice none 0 0] 59)
 have HB:=Lib.hid (bel2 w (.cells #[.bool s',.slice A' n' c',.bool t',.slice B' m' d'] 59) (.cells #[.bool false,.slice none 0 0,.bool false,.slice none 0 0] 59))
 replace h':=h'.below HB.out
 replace k':=k'.below HB.out
 generalize hW1:((w.alloc (.cells #[.bool s',.slice A' n' c',.bool t',.slice B' m' d'] 59)).alloc (.cells #[.bool false,.slice none 0 0,.bool false,.slice none 0 0] 59))=w1 at *;clear hW1
 go_wp2_with fail
 refine (wFrom 1 _ (by decide) (by decide)).mono ?_;rintro ee w2 ⟨s20,A20,n20,c20,rfl,p20,k20,B⟩;replace X1:=X1.below B;replace XR:=XR.below B
 replace h':=h'.below B
 replace k':=k'.below B
 replace HB:=Hqb HB B;clear B
 go_wp2_with fail
 refine (wFrom 2 _ (by decide) (by decide)).mono ?_;rintro ee w3 ⟨s21,A21,n21,c21,rfl,p21,k21,B⟩;replace X1:=X1.below B;replace XR:=XR.below B
 replace h':=h'.below B
 replace k':=k'.below B
 replace p20:=p20.below B;replace HB:=Hqb HB B;clear B
 go_upto_region 2 with (fail)
 have e4X4:(World.alloc w3 (.cells #[.bool s20,.slice A20 n20 c20] 27)).heap.size=w3.heap.size+1:=by simp
 have lX3:=Nat.le_refl (World.heap w3).size;have nX3X1:=X1.lt;have nX3XR:=XR.lt;have BX:=bel1 w3 (.cells #[.bool s20,.slice A20 n20 c20] 27);replace X1:=X1.below BX;replace XR:=XR.below BX
 replace h':=h'.below BX
 replace k':=k'.below BX
 replace p20:=p20.below BX;replace p21:=p21.below BX;replace HB:=Lib.hid (bt HB.out BX);have X3:=Bo.new w3 #[.bool s20,.slice A20 n20 c20] 27;generalize hWn:World.alloc w3 (.cells #[.bool s20,.slice A20 n20 c20] 27)=w4 at *;clear hWn
 have lX4:=Nat.le_refl (World.heap w4).size;have nX4X1:=X1.lt;have nX4XR:=XR.lt;have nX4X3:=X3.lt;generalize hWn:w4.alloc _=w5 at *;obtain⟨X4,BW⟩:=Bo.nw hWn;clear hWn;replace X1:=X1.below BW;replace XR:=XR.below BW;replace X3:=X3.below BW
 replace h':=h'.below BW
 replace k':=k'.below BW
 replace p20:=p20.below BW;replace p21:=p21.below BW;replace HB:=Hqb HB BW;clear BW;rw [e4X4]at X4;clear lX3 lX4 e4X4;have ltX1:=X1.lt;have ltXR:=XR.lt;have ltX3:=X3.lt;have ltX4:=X4.lt;refine Jo.rk [0,1,2,3,4,5,6,7,8,9,10] [some 7,some 8,some 9,some 10,some 11,some 12,some 13,some 14,some 15,some 16,some 17,none] [[],[0],[],[1,2],[],[4],[],[5,6],[],[7,8],[3,9],[]] 12 1 [Jo.qp w.heap.size 0,Jo.Fact.eq (.agg #[.bool s',.slice A' n' c']),Jo.Fact.eq (.agg #[.bool s21,.slice A21 n21 c21]),Jo.Fact.wn (aX true) (20),Jo.qp w.heap.size 2,Jo.Fact.eq (.agg #[.bool t',.slice B' m' d']),Jo.Fact.eq (.agg #[.bool s20,.slice A20 n20 c20]),Jo.Fact.wn (PHi+1) (10),Jo.Fact.eq (.agg #[.bool s21,.slice A21 n21 c21]),Jo.Fact.wn (aY true) (20),Jo.Fact.sp (aX true) (aY true) (20),Jo.Fact.any] (by kernel_rfl) (by kernel_rfl) (by decide) rfl ?_ ?_
 ·iterate 3 (refine Jo.jm rfl ?_ ?_;rotate_left)
  refine Jo.jm rfl ?_ ?_
  ·rintro wj hJ _ rfl _ rfl K hK;simp only [Jo.z]at hK⊢;go_simp;refine (tDown (h'.below hJ).wr (p21.below hJ).wr (by omega) (by omega) (by decide) H1.out).mono ?_;rintro ee wk ⟨s22,A22,n22,c22,rfl,p22,k22,B⟩;exact hK.out _ _ ⟨s22,A22,n22,c22,rfl,p22,by omega⟩ B
  refine Jo.jm rfl ?_ ?_;rotate_left
  refine Jo.jm rfl ?_ ?_
  ·rintro wj hJ _ rfl K hK;simp only [Jo.z]at hK⊢;have xX12:=(X1.below hJ).a 2 (.bool t') rfl;have xX13:=(X1.below hJ).a 3 (.slice B' m' d') rfl;go_simp;exact hK.out _ _ rfl (br _ _)
  refine Jo.jm rfl ?_ ?_;rotate_left
  refine Jo.jm rfl ?_ ?_
  ·rintro wj hJ _ rfl _ rfl K hK;simp only [Jo.z]at hK⊢;go_simp;refine (wAdd (k'.below hJ).wr (p20.below hJ).wr (by omega) (by omega) rfl).mono ?_;rintro ee wk ⟨s23,A23,n23,c23,rfl,p23,k23,B⟩;exact hK.out _ _ ⟨s23,A23,n23,c23,rfl,p23,by omega⟩ B
  refine Jo.jm rfl ?_ ?_;rotate_left
  refine Jo.jm rfl ?_ ?_
  ·rintro wj hJ _ ⟨s23,A23,n23,c23,rfl,p23,k23⟩ _ rfl K hK;simp only [Jo.z]at hK⊢;go_simp;refine (tDown p23.wr (p21.below hJ).wr (by omega) (by omega) (by decide) H2.out).mono ?_;rintro ee wk ⟨s24,A24,n24,c24,rfl,p24,k24,B⟩;exact hK.out _ _ ⟨s24,A24,n24,c24,rfl,p24,by omega⟩ B
  refine Jo.jm rfl ?_ ?_
  ·rintro wj hJ _ ⟨s22,A22,n22,c22,rfl,p22,k22⟩ _ ⟨s24,A24,n24,c24,rfl,p24,k24⟩ K hK;simp only [Jo.z]at hK⊢;go_simp;exact hK.out _ _ ⟨_,_,_,_,_,_,_,_,rfl,p22,p24,by omega,by omega⟩ (br _ _)
  exact Jo.Steps.nil
  all_goals (rintro wj hJ;(repeat rintro _ rfl);intro K hK;simp only [Jo.z]at hK⊢;have xX1:=(X1.below hJ).cell;have xX4:=(X4.below hJ).cell;have xX3:=(X3.below hJ).cell;go_simp;exact hK.out _ _ rfl (br _ _))
 rintro w6 hJ _ _ _ rfl _ rfl _ ⟨s22,A22,n22,c22,rfl,p22,k22⟩ _ _ _ rfl _ rfl _ ⟨s23,A23,n23,c23,rfl,p23,k23⟩ _ rfl _ ⟨s24,A24,n24,c24,rfl,p24,k24⟩ _ ⟨s25,A25,n25,c25,s26,A26,n26,c26,rfl,p25,p26,k25,k26⟩ -;simp only [Jo.z];replace X1:=X1.below hJ;replace XR:=XR.below hJ;replace X3:=X3.below hJ;replace X4:=X4.below hJ
 replace h':=h'.below hJ
 replace k':=k'.below hJ
 replace p20:=p20.below hJ;replace p21:=p21.below hJ;replace HB:=Hqb HB hJ;clear h' k' p20 p21 p22 p23 p24;have xXR:=XR.cell;have zXR0:=XR.frozen
 refine Jo.jnext (i:=11) (o:=⟨none,_,_,_,_,_⟩) (by kernel_rfl) rfl (fun K hK=>?_)
 go_simp;refine hK.out _ _ ?_;clear hK K xXR zXR0;have SX:=StN.mk4 XR (.bool s25) (.slice A25 n25 c25) (.bool s26) (.slice A26 n26 c26);replace p25:=p25.stn SX (by simp [no32]);replace p26:=p26.stn SX (by simp [no32]);refine Jo.jdone (by kernel_rfl) ?_;go_wp2;exact bodyPost_ret (v:= .agg #[.bool s25,.slice A25 n25 c25,.bool s26,.slice A26 n26 c26]) (by simp [results,Tryz.results107,go_sem,SX.box.cell]) rfl ⟨s25,A25,n25,c25,s26,A26,n26,c26,rfl,p25,p26,k25,k26,(SX.below HB.out (by omega))⟩
theorem tZero{w:World}{A':Option Addr}{n' c':Nat}{s':Bool}{B':Option Addr}{m' d':Nat}{t':Bool}:Calls Tryz.prog 95 #[.agg #[.bool s',.slice A' n' c',.bool t',.slice B' m' d']] w (PSp w 20 (aX false) (aY false)):=by
 go_enter Tryz.func95,Tryz.ntmps95
 go_upto_region 1 with (fail)
 generalize hW1:(w.alloc _).alloc _=w1 at *;obtain⟨X1,XR,HB⟩:=Bo.en2 hW1;clear hW1;have xXR:=XR.cell;have zXR0:=XR.frozen;go_wp2;clear xXR zXR0;have SX:=StN.mk4 XR (.bool false) (.slice none 0 0) (.bool false) (.slice none 0 0);exact bodyPost_ret (v:= .agg #[.bool false,.slice none 0 0,.bool false,.slice none 0 0]) (by simp [results,Tryz.results95,go_sem,SX.box.cell]) rfl ⟨_,_,_,_,_,_,_,_,rfl,⟨Nm.zero,rfl⟩,⟨Nm.zero,rfl⟩,Nat.zero_le _,Nat.zero_le _,(SX.below HB.out (by omega))⟩
def AhQ (fid:FuncId)(cos:Bool):Prop:=(∀(args:Array Value) (w:World),(callFunc fid args).run Tryz.prog w= .ok (.enter fid args) w)∧∀(w:World) (s':Bool) (A':Option Addr) (n' c':Nat) (t':Bool) (B':Option Addr) (m' d':Nat),Wn w s' A' n' c' PLo→Wn w t' B' m' d' PHi→n'≤7→m'≤7→Calls Tryz.prog fid #[.agg #[.bool s',.slice A' n' c',.bool t',.slice B' m' d']] w (PSp w 20 (aX cos) (aY cos))
theorem ahq_sin:AhQ 95 false:=⟨fun _ _=>by first | rfl | kernel_rfl | simp [callFunc,go_sem],fun _ _ _ _ _ _ _ _ _ _ _ _ _=>tZero⟩
theorem ahq_cos:AhQ 107 true:=⟨fun _ _=>by first | rfl | kernel_rfl | simp [callFunc,go_sem],fun _ _ _ _ _ _ _ _ _ h k hn hm=>tQuarter h k hn hm⟩
def PWv (w:World)(fid:FuncId)(o:Int)(e:Ending)(w':World):Prop:=∃s1 A1 n1 c1 s2 A2 n2 c2,e= .returned (.agg #[.func (.func fid) #[] #[],.int .i64 o,.bool s1,.slice A1 n1 c1,.bool s2,.slice A2 n2 c2])∧Wn w' s1 A1 n1 c1 PLo∧Wn w' s2 A2 n2 c2 PHi∧n1≤7∧n2≤7∧Below w.heap.size w w'
def Jo.Fact.wv (fid:FuncId)(o:Int):Jo.Fact:=⟨fun v w=>∃s1 A1 n1 c1 s2 A2 n2 c2,v= .agg #[.func (.func fid) #[] #[],.int .i64 o,.bool s1,.slice A1 n1 c1,.bool s2,.slice A2 n2 c2]∧Wn w s1 A1 n1 c1 PLo∧Wn w s2 A2 n2 c2 PHi∧n1≤7∧n2≤7,fun v w w' h b=>by
 obtain⟨s1,A1,n1,c1,s2,A2,n2,c2,e,p,q,k,l⟩:=h;exact⟨s1,A1,n1,c1,s2,A2,n2,c2,e,p.below b,q.below b,k,l⟩⟩
theorem tSineW{w:World}:Calls Tryz.prog 55 #[] w (PWv w 95 1):=by
 go_enter Tryz.func55,Tryz.ntmps55
 go_upto_region 1 with (fail)
 generalize hW1:w.alloc _=w1 at *;obtain⟨XR,HB⟩:=Bo.en1 hW1;clear hW1
 go_wp2_with fail
 refine (tBounds).mono ?_;rintro ee w2 ⟨s2,A2,n2,c2,s3,A3,n3,c3,rfl,p2,p3,k2,k3,B⟩;replace XR:=XR.below B;replace HB:=Hqb HB B;clear B;have xXR:=XR.cell;have zXR0:=XR.frozen;go_wp2;clear xXR zXR0;have SX:=StN.mk6 XR (.func (.func 95) #[] #[]) (.int .i64 1) (.bool s2) (.slice A2 n2 c2) (.bool s3) (.slice A3 n3 c3)
 replace p2:=p2.stn SX (by simp [no32]);replace p3:=p3.stn SX (by simp [no32]);exact bodyPost_ret (v:= .agg #[.func (.func 95) #[] #[],.int .i64 1,.bool s2,.slice A2 n2 c2,.bool s3,.slice A3 n3 c3]) (by simp [results,Tryz.results55,go_sem,SX.box.cell]) rfl ⟨s2,A2,n2,c2,s3,A3,n3,c3,rfl,p2,p3,k2,k3,(SX.below HB.out (by omega))⟩
theorem tCosW{w:World}:Calls Tryz.prog 58 #[] w (PWv w 107 0):=by
 go_enter Tryz.func58,Tryz.ntmps58
 go_upto_region 1 with (fail)
 generalize hW1:w.alloc _=w1 at *;obtain⟨XR,HB⟩:=Bo.en1 hW1;clear hW1
 go_wp2_with fail
 refine (tBounds).mono ?_;rintro ee w2 ⟨s2,A2,n2,c2,s3,A3,n3,c3,rfl,p2,p3,k2,k3,B⟩;replace XR:=XR.below B;replace HB:=Hqb HB B;clear B;have xXR:=XR.cell;have zXR0:=XR.frozen;go_wp2;clear xXR zXR0;have SX:=StN.mk6 XR (.func (.func 107) #[] #[]) (.int .i64 0) (.bool s2) (.slice A2 n2 c2) (.bool s3) (.slice A3 n3 c3)
 replace p2:=p2.stn SX (by simp [no32]);replace p3:=p3.stn SX (by simp [no32]);exact bodyPost_ret (v:= .agg #[.func (.func 107) #[] #[],.int .i64 0,.bool s2,.slice A2 n2 c2,.bool s3,.slice A3 n3 c3]) (by simp [results,Tryz.results58,go_sem,SX.box.cell]) rfl ⟨s2,A2,n2,c2,s3,A3,n3,c3,rfl,p2,p3,k2,k3,(SX.below HB.out (by omega))⟩
theorem tUnit{w:World}:Calls Tryz.prog 98 #[] w (PV w unitI):=by
 go_enter Tryz.func98,Tryz.ntmps98
 go_upto_region 1 with (fail)
 generalize hW1:w.alloc _=w1 at *;obtain⟨XR,HB⟩:=Bo.en1 hW1;clear hW1
 go_wp2_with fail
 refine (nOf (n:= -1) _ (by decide) (by decide) rfl).mono ?_;rintro ee w2 ⟨K1,s1,M1,E1,rfl,q1,B⟩;replace XR:=XR.below B;replace HB:=Hqb HB B;clear B
 go_wp2_with fail
 refine (nOf (n:=1) _ (by decide) (by decide) rfl).mono ?_;rintro ee w3 ⟨K2,s2,M2,E2,rfl,q2,B⟩;replace XR:=XR.below B;replace HB:=Hqb HB B;clear B
 go_wp2_with fail
 refine (kvMake q1.top q2.top q1.rk q2.rk rfl).mono ?_;rintro ee w4 ⟨e3,K3,s3,M3,E3,K3b,s3b,M3b,E3b,rfl,v3,B⟩;replace XR:=XR.below B;replace HB:=Hqb HB B;clear B;have xXR:=XR.cell;have zXR0:=XR.frozen;go_wp2;clear xXR zXR0;have SX:=StN.mk9 XR (.bool e3) (.int .i64 K3) (.bool s3) (.int .u64 M3) (.int .i64 E3) (.int .i64 K3b) (.bool s3b) (.int .u64 M3b) (.int .i64 E3b)
 exact bodyPost_ret (by simp [results,Tryz.results98,go_sem,SX.box.cell]) rfl ⟨_,_,_,_,_,_,_,_,_,rfl,v3,(SX.below HB.out (by omega))⟩
theorem tat_no{w:World}{fid:FuncId}{cos:Bool}{o:Int}{s1 s2:Bool}{A1 A2:Option Addr}{n1 c1 n2 c2:Nat}{D M E:Int}{s:Bool}{x gx:Int}(hT:Tab w)(hah:AhQ fid cos)(p1:Wn w s1 A1 n1 c1 PLo)(p2:Wn w s2 A2 n2 c2 PHi)(k1:n1≤7)(k2:n2≤7)(h0:0≤M)(hM:LQ M)(hx:rk D s M E=x)(hf:fixB x=false):Calls Tryz.prog 56 #[.agg #[.func (.func fid) #[] #[],.int .i64 o,.bool s1,.slice A1 n1 c1,.bool s2,.slice A2 n2 c2],VQ D s M E] w (PV w unitI):=by
 delta VQ
 obtain⟨g0,hg⟩:∃g,fixI x=g:=⟨_,rfl⟩;have HX:=Lib.hid hx;have HF:=Lib.hid hf;have HG:=Lib.hid hg;clear hx hf hg
 go_enter Tryz.func56,Tryz.ntmps56
 go_upto_region 1 with (fail)
 generalize hW1:((w.alloc _).alloc _).alloc _=w1 at *;obtain⟨X2,X3,XR,HB⟩:=Bo.en3 hW1;replace hT:=hT.below HB.out;replace p1:=p1.below HB.out;replace p2:=p2.below HB.out;clear hW1;have xX3:=X3.cell
 go_wp2_with fail
 refine (tAround hT h0 hM h0 hM HX.out HX.out HG.out HG.out HF.out HF.out).mono ?_;rintro ee w2 ⟨s20,A20,n20,c20,s21,A21,n21,c21,rfl,p20,p21,k20,k21,B⟩;clear xX3;replace X2:=X2.below B;replace X3:=X3.below B;replace XR:=XR.below B;replace hT:=hT.below B;replace p1:=p1.below B;replace p2:=p2.below B;replace HB:=Hqb HB B;clear B
 go_upto_region 2 with (fail)
 have lX5:=Nat.le_refl (World.heap w2).size;have nX5X2:=X2.lt;have nX5X3:=X3.lt;have nX5XR:=XR.lt;generalize hWn:w2.alloc _=w3 at *;obtain⟨X5,BW⟩:=Bo.nw hWn;clear hWn;replace X2:=X2.below BW;replace X3:=X3.below BW;replace XR:=XR.below BW;replace hT:=hT.below BW;replace p1:=p1.below BW;replace p2:=p2.below BW;replace p20:=p20.below BW;replace p21:=p21.below BW
 replace HB:=Hqb HB BW;clear BW;clear lX5;clear p20 p21 p1 p2 hT
 go_wp2_with fail
 refine (tUnit).mono ?_;rintro ee w4 ⟨e30,K30,s30,M30,E30,K30b,s30b,M30b,E30b,rfl,v30,B⟩;replace X2:=X2.below B;replace X3:=X3.below B;replace XR:=XR.below B;replace X5:=X5.below B;replace HB:=Hqb HB B;clear B;have xXR:=XR.cell;have zXR0:=XR.frozen;go_wp2;clear xXR zXR0
 have SX:=StN.mk9 XR (.bool e30) (.int .i64 K30) (.bool s30) (.int .u64 M30) (.int .i64 E30) (.int .i64 K30b) (.bool s30b) (.int .u64 M30b) (.int .i64 E30b);exact bodyPost_ret (by simp [results,Tryz.results56,go_sem,SX.box.cell]) rfl ⟨_,_,_,_,_,_,_,_,_,rfl,v30,(SX.below HB.out (by omega))⟩
theorem tat_in{w:World}{fid:FuncId}{cos:Bool}{o:Int}{s1 s2:Bool}{A1 A2:Option Addr}{n1 c1 n2 c2:Nat}{D M E:Int}{s:Bool}{x gx:Int}(hT:Tab w)(hah:AhQ fid cos)(p1:Wn w s1 A1 n1 c1 PLo)(p2:Wn w s2 A2 n2 c2 PHi)(k1:n1≤7)(k2:n2≤7)(h0:0≤M)(hM:LQ M)(hx:rk D s M E=x){l g r u:Int}{z:Sp}(hf:fixB x=true)(hg:fixI x=gx)(hl:ofL cos gx=l)(hh:ofH cos gx=g)(hr:Rq false l SC r)(hu:Rq true g SC u)(hz:mkI r u=z):Calls Tryz.prog 56 #[.agg #[.func (.func fid) #[] #[],.int .i64 o,.bool s1,.slice A1 n1 c1,.bool s2,.slice A2 n2 c2],VQ D s M E] w (PV w z):=by
 delta VQ
 have hfit:gx.natAbs < 4294967296^10:=by rw [←hg];exact fix_fits hf
 have hfit1:(gx+1).natAbs < 4294967296^11:=by
  have e:(4294967296:Nat)^11=4294967296^10*4294967296:=by decide
  have e2:0 < (4294967296:Nat)^10:=Nat.pow_pos (by decide)
  omega
 have HX:=Lib.hid hx;have HF:=Lib.hid hf;have HG:=Lib.hid hg;have HL:=Lib.hid hl;have HH:=Lib.hid hh;have HRR:=Lib.hid hr;have HUU:=Lib.hid hu;have HZ:=Lib.hid hz;have HF1:=Lib.hid hfit;have HF2:=Lib.hid hfit1;have HAH:=Lib.hid hah;clear hx hf hg hl hh hr hu hz hfit hfit1 hah;have HOX:=Lib.hid (ofX_eq cos gx);have HOY:=Lib.hid (ofY_eq cos gx)
 go_enter Tryz.func56,Tryz.ntmps56
 go_upto_region 1 with (fail)
 generalize hW1:((w.alloc _).alloc _).alloc _=w1 at *;obtain⟨X2,X3,XR,HB⟩:=Bo.en3 hW1;replace hT:=hT.below HB.out;replace p1:=p1.below HB.out;replace p2:=p2.below HB.out;clear hW1;have xX3:=X3.cell
 go_wp2_with fail
 refine (tAround hT h0 hM h0 hM HX.out HX.out HG.out HG.out HF.out HF.out).mono ?_;rintro ee w2 ⟨s20,A20,n20,c20,s21,A21,n21,c21,rfl,p20,p21,k20,k21,B⟩;clear xX3;replace X2:=X2.below B;replace X3:=X3.below B;replace XR:=XR.below B;replace hT:=hT.below B;replace p1:=p1.below B;replace p2:=p2.below B;replace HB:=Hqb HB B;clear B
 go_upto_region 2 with (fail)
 have lX5:=Nat.le_refl (World.heap w2).size;have nX5X2:=X2.lt;have nX5X3:=X3.lt;have nX5XR:=XR.lt;generalize hWn:w2.alloc _=w3 at *;obtain⟨X5,BW⟩:=Bo.nw hWn;clear hWn;replace X2:=X2.below BW;replace X3:=X3.below BW;replace XR:=XR.below BW;replace hT:=hT.below BW;replace p1:=p1.below BW;replace p2:=p2.below BW;replace p20:=p20.below BW;replace p21:=p21.below BW
 replace HB:=Hqb HB BW;clear BW;clear lX5;have few1:=p20.fits HF1.out;have few2:=p21.fits HF2.out
 go_upto_region 4 with (fail)
 have ltX2:=X2.lt;have ltX3:=X3.lt;have ltXR:=XR.lt;have ltX5:=X5.lt;have hszA:=HB.out.size;refine Jo.rk [0,1,2,3,4,5,6,7,8,9,10] [some 17,some 18,some 19,some 20,some 21,some 22,some 23,some 24,some 25,some 26,some 7,none] [[],[],[1],[],[3],[2,4],[0,5],[],[7],[6,8],[],[]] 12 1 [Jo.Fact.eq (.agg #[.bool s20,.slice A20 n20 c20,.bool s21,.slice A21 n21 c21]),Jo.qp w.heap.size 0,Jo.Fact.eq (.func (.func fid) #[] #[]),Jo.qp w.heap.size 2,Jo.Fact.eq (.agg #[.bool s1,.slice A1 n1 c1,.bool s2,.slice A2 n2 c2]),Jo.Fact.sp (aX cos) (aY cos) (20),Jo.Fact.sp (ofX cos gx) (ofY cos gx) (40),Jo.qp w.heap.size 2,Jo.Fact.eq (.agg #[.bool s1,.slice A1 n1 c1,.bool s2,.slice A2 n2 c2]),Jo.Fact.sp (l) (g) (7),Jo.Fact.bo w3.heap.size #[.bool false,.slice none 0 0,.bool false,.slice none 0 0] 59,Jo.Fact.any] (by kernel_rfl) (by kernel_rfl) (by decide) rfl ?_ ?_
 ·iterate 2 (refine Jo.jm rfl ?_ ?_;rotate_left)
  refine Jo.jm rfl ?_ ?_
  ·rintro wj hJ _ rfl K hK;simp only [Jo.z]at hK⊢;have xX20:=(X2.below hJ).a 0 (.func (.func fid) #[] #[]) rfl;go_simp;exact hK.out _ _ rfl (br _ _)
  refine Jo.jm rfl ?_ ?_;rotate_left
  refine Jo.jm rfl ?_ ?_
  ·rintro wj hJ _ rfl K hK;simp only [Jo.z]at hK⊢;have xX22:=(X2.below hJ).a 2 (.bool s1) rfl;have xX23:=(X2.below hJ).a 3 (.slice A1 n1 c1) rfl;have xX24:=(X2.below hJ).a 4 (.bool s2) rfl;have xX25:=(X2.below hJ).a 5 (.slice A2 n2 c2) rfl;go_simp;exact hK.out _ _ rfl (br _ _)
  refine Jo.jm rfl ?_ ?_
  ·rintro wj hJ _ rfl _ rfl K hK;simp only [Jo.z]at hK⊢;go_simp;rw [HAH.out.1];simp only [Oper.upon];refine (HAH.out.2 _ _ _ _ _ _ _ _ _ (p1.below hJ) (p2.below hJ) k1 k2).mono ?_;rintro ee wk ⟨s31,A31,n31,c31,s32,A32,n32,c32,rfl,p31,p32,k31,k32,B⟩;exact hK.out _ _ ⟨s31,A31,n31,c31,s32,A32,n32,c32,rfl,p31,p32,k31,k32⟩ B
  refine Jo.jm rfl ?_ ?_
  ·rintro wj hJ _ rfl _ ⟨s31,A31,n31,c31,s32,A32,n32,c32,rfl,p31,p32,k31,k32⟩ K hK;simp only [Jo.z]at hK⊢;go_simp;refine (tPlus (Z:=40) (p20.below hJ) (p21.below hJ) p31 p32 (by omega) (by omega) (by omega) (by omega) (by omega) (by omega) HOX.out HOY.out).mono ?_;rintro ee wk ⟨s33,A33,n33,c33,s34,A34,n34,c34,rfl,p33,p34,k33,k34,B⟩;exact hK.out _ _ ⟨s33,A33,n33,c33,s34,A34,n34,c34,rfl,p33,p34,k33,k34⟩ B
  refine Jo.jm rfl ?_ ?_;rotate_left
  refine Jo.jm rfl ?_ ?_
  ·rintro wj hJ _ rfl K hK;simp only [Jo.z]at hK⊢;have xX22:=(X2.below hJ).a 2 (.bool s1) rfl;have xX23:=(X2.below hJ).a 3 (.slice A1 n1 c1) rfl;have xX24:=(X2.below hJ).a 4 (.bool s2) rfl;have xX25:=(X2.below hJ).a 5 (.slice A2 n2 c2) rfl;go_simp;exact hK.out _ _ rfl (br _ _)
  refine Jo.jm rfl ?_ ?_
  ·rintro wj hJ _ ⟨s33,A33,n33,c33,s34,A34,n34,c34,rfl,p33,p34,k33,k34⟩ _ rfl K hK;simp only [Jo.z]at hK⊢;go_simp;refine (tSine p33 p34 (p1.below hJ) (p2.below hJ) k1 k2 (by omega) (by omega) HL.out HH.out).mono ?_;rintro ee wk ⟨s35,A35,n35,c35,s36,A36,n36,c36,rfl,p35,p36,k35,k36,B⟩;exact hK.out _ _ ⟨s35,A35,n35,c35,s36,A36,n36,c36,rfl,p35,p36,k35,k36⟩ B
  refine Jo.jm rfl ?_ ?_
  ·rintro wj hJ K hK;simp only [Jo.z]at hK⊢;go_simp;exact hK.out _ _ ⟨_,rfl,hJ.size,Bo.new _ _ _⟩ (bel1 _ _)
  exact Jo.Steps.nil
  all_goals (rintro wj hJ;(repeat rintro _ rfl);intro K hK;simp only [Jo.z]at hK⊢;have xX5:=(X5.below hJ).cell;go_simp;exact hK.out _ _ rfl (br _ _))
 rintro w4 hJ _ rfl _ _ _ rfl _ _ _ rfl _ ⟨s31,A31,n31,c31,s32,A32,n32,c32,rfl,p31,p32,k31,k32⟩ _ ⟨s33,A33,n33,c33,s34,A34,n34,c34,rfl,p33,p34,k33,k34⟩ _ _ _ rfl _ ⟨s35,A35,n35,c35,s36,A36,n36,c36,rfl,p35,p36,k35,k36⟩ _ ⟨g7,rfl,hg7,X7⟩ -;simp only [Jo.z];replace X2:=X2.below hJ;replace X3:=X3.below hJ;replace XR:=XR.below hJ;replace X5:=X5.below hJ
 replace hT:=hT.below hJ;replace p1:=p1.below hJ;replace p2:=p2.below hJ;replace p20:=p20.below hJ;replace p21:=p21.below hJ;replace HB:=Hqb HB hJ;clear p1 p2 p20 p21 p31 p32 p33 p34 X2 X3 X5;have xX7:=X7.cell;have zX70:=X7.frozen
 refine Jo.jnext (i:=11) (o:=⟨none,_,_,_,_,_⟩) (by kernel_rfl) rfl (fun K hK=>?_)
 go_simp;refine hK.out _ _ ?_;clear hK K xX7 zX70;generalize hS:(((w4.setCell _ _).setCell _ _).setCell _ _).setCell _ _=w5 at *;have SX:=StN.of4 X7 hS;replace XR:=XR.stn SX (by omega);replace hT:=hT.stn SX (by simp [no8]);replace p35:=p35.stn SX (by simp [no32]);replace p36:=p36.stn SX (by simp [no32]);replace HB:=Hqs HB SX (by omega);replace X7:=SX.box
 clear SX hS;refine Jo.jdone (by kernel_rfl) ?_
 go_upto_region 5 with (fail)
 have xX7:=X7.cell
 go_wp2_with fail
 refine (cPart hT p35.wr p36.wr (by omega) (by omega) HRR.out HUU.out HZ.out).mono ?_;rintro ee w6 ⟨e40,K40,s40,M40,E40,K40b,s40b,M40b,E40b,rfl,v40,B⟩;clear xX7;replace XR:=XR.below B;replace X7:=X7.below B;replace hT:=hT.below B;replace p35:=p35.below B;replace p36:=p36.below B;replace HB:=Hqb HB B;clear B;clear hT p35 p36 X7;have xXR:=XR.cell
 have zXR0:=XR.frozen;go_wp2;clear xXR zXR0;have SX:=StN.mk9 XR (.bool e40) (.int .i64 K40) (.bool s40) (.int .u64 M40) (.int .i64 E40) (.int .i64 K40b) (.bool s40b) (.int .u64 M40b) (.int .i64 E40b);exact bodyPost_ret (by simp [results,Tryz.results56,go_sem,SX.box.cell]) rfl ⟨_,_,_,_,_,_,_,_,_,rfl,v40,(SX.below HB.out (by omega))⟩
theorem tAt{w:World}{fid:FuncId}{cos:Bool}{o:Int}{s1 s2:Bool}{A1 A2:Option Addr}{n1 c1 n2 c2:Nat}{D M E:Int}{s:Bool}{x:Int}{z:Sp}(hT:Tab w)(hah:AhQ fid cos)(p1:Wn w s1 A1 n1 c1 PLo)(p2:Wn w s2 A2 n2 c2 PHi)(k1:n1≤7)(k2:n2≤7)(h0:0≤M)(hM:LQ M)(hx:rk D s M E=x)(hz:Sv cos x z):Calls Tryz.prog 56 #[.agg #[.func (.func fid) #[] #[],.int .i64 o,.bool s1,.slice A1 n1 c1,.bool s2,.slice A2 n2 c2],VQ D s M E] w (PV w z):=by
 delta VQ
 rcases hz with⟨hf,rfl⟩ | ⟨hf,r,u,hr,hu,hz⟩
 ·exact tat_no (gx:=0) hT hah p1 p2 k1 k2 h0 hM hx hf
 ·exact tat_in hT hah p1 p2 k1 k2 h0 hM hx hf rfl rfl rfl hr hu hz
theorem tSin{w:World}{D M E:Int}{s:Bool}{x:Int}{z:Sp}(hT:Tab w)(h0:0≤M)(hM:LQ M)(hx:rk D s M E=x)(hz:Sv false x z):Calls Tryz.prog 13 #[VQ D s M E] w (PV w z):=by
 delta VQ
 have HX:=Lib.hid hx;have HZ:=Lib.hid hz;clear hx hz
 go_enter Tryz.func13,Tryz.ntmps13
 go_upto_region 1 with (fail)
 generalize hW1:(w.alloc _).alloc _=w1 at *;obtain⟨X1,XR,HB⟩:=Bo.en2 hW1;replace hT:=hT.below HB.out;clear hW1;have ltX1:=X1.lt;have ltXR:=XR.lt;refine Jo.rk [0,1,2] [some 3,some 4,some 5,none] [[],[],[0,1],[]] 4 1 [Jo.Fact.wv (95) (1),Jo.q4 D s M E,Jo.Fact.iv z,Jo.Fact.any] (by kernel_rfl) (by kernel_rfl) (by decide) rfl ?_ ?_
 ·refine Jo.jm rfl ?_ ?_
  ·rintro wj hJ K hK;simp only [Jo.z]at hK⊢;go_simp;refine (tSineW).mono ?_;rintro ee wk ⟨s20,A20,n20,c20,s21,A21,n21,c21,rfl,p20,p21,k20,k21,B⟩;exact hK.out _ _ ⟨s20,A20,n20,c20,s21,A21,n21,c21,rfl,p20,p21,k20,k21⟩ B
  refine Jo.jm rfl ?_ ?_
  ·rintro wj hJ K hK;simp only [Jo.z]at hK⊢;have xX1:=(X1.below hJ).cell;go_simp;exact hK.out _ _ rfl (br _ _)
  refine Jo.jm rfl ?_ ?_
  ·rintro wj hJ _ ⟨s20,A20,n20,c20,s21,A21,n21,c21,rfl,p20,p21,k20,k21⟩ _ rfl K hK;simp only [Jo.z]at hK⊢;go_simp;refine (tAt (hT.below hJ) ahq_sin p20 p21 k20 k21 h0 hM HX.out HZ.out).mono ?_;rintro ee wk ⟨e30,K30,s30,M30,E30,K30b,s30b,M30b,E30b,rfl,v30,B⟩;exact hK.out _ _ ⟨e30,K30,s30,M30,E30,K30b,s30b,M30b,E30b,rfl,v30⟩ B
  exact Jo.Steps.nil
 rintro w2 hJ _ ⟨s20,A20,n20,c20,s21,A21,n21,c21,rfl,p20,p21,k20,k21⟩ _ rfl _ ⟨e30,K30,s30,M30,E30,K30b,s30b,M30b,E30b,rfl,v30⟩ -;simp only [Jo.z];replace X1:=X1.below hJ;replace XR:=XR.below hJ;replace hT:=hT.below hJ;replace HB:=Hqb HB hJ;clear hT p20 p21;have xXR:=XR.cell;have zXR0:=XR.frozen
 refine Jo.jnext (i:=3) (o:=⟨none,_,_,_,_,_⟩) (by kernel_rfl) rfl (fun K hK=>?_)
 go_simp;refine hK.out _ _ ?_;clear hK K xXR zXR0;have SX:=StN.mk9 XR (.bool e30) (.int .i64 K30) (.bool s30) (.int .u64 M30) (.int .i64 E30) (.int .i64 K30b) (.bool s30b) (.int .u64 M30b) (.int .i64 E30b);refine Jo.jdone (by kernel_rfl) ?_;go_wp2;exact bodyPost_ret (by simp [results,Tryz.results13,go_sem,SX.box.cell]) rfl ⟨_,_,_,_,_,_,_,_,_,rfl,v30,(SX.below HB.out (by omega))⟩
theorem tCos{w:World}{D M E:Int}{s:Bool}{x:Int}{z:Sp}(hT:Tab w)(h0:0≤M)(hM:LQ M)(hx:rk D s M E=x)(hz:Sv true x z):Calls Tryz.prog 15 #[VQ D s M E] w (PV w z):=by
 delta VQ
 have HX:=Lib.hid hx;have HZ:=Lib.hid hz;clear hx hz
 go_enter Tryz.func15,Tryz.ntmps15
 go_upto_region 1 with (fail)
 generalize hW1:(w.alloc _).alloc _=w1 at *;obtain⟨X1,XR,HB⟩:=Bo.en2 hW1;replace hT:=hT.below HB.out;clear hW1;have ltX1:=X1.lt;have ltXR:=XR.lt;refine Jo.rk [0,1,2] [some 3,some 4,some 5,none] [[],[],[0,1],[]] 4 1 [Jo.Fact.wv (107) (0),Jo.q4 D s M E,Jo.Fact.iv z,Jo.Fact.any] (by kernel_rfl) (by kernel_rfl) (by decide) rfl ?_ ?_
 ·refine Jo.jm rfl ?_ ?_
  ·rintro wj hJ K hK;simp only [Jo.z]at hK⊢;go_simp;refine (tCosW).mono ?_;rintro ee wk ⟨s20,A20,n20,c20,s21,A21,n21,c21,rfl,p20,p21,k20,k21,B⟩;exact hK.out _ _ ⟨s20,A20,n20,c20,s21,A21,n21,c21,rfl,p20,p21,k20,k21⟩ B
  refine Jo.jm rfl ?_ ?_
  ·rintro wj hJ K hK;simp only [Jo.z]at hK⊢;have xX1:=(X1.below hJ).cell;go_simp;exact hK.out _ _ rfl (br _ _)
  refine Jo.jm rfl ?_ ?_
  ·rintro wj hJ _ ⟨s20,A20,n20,c20,s21,A21,n21,c21,rfl,p20,p21,k20,k21⟩ _ rfl K hK;simp only [Jo.z]at hK⊢;go_simp;refine (tAt (hT.below hJ) ahq_cos p20 p21 k20 k21 h0 hM HX.out HZ.out).mono ?_;rintro ee wk ⟨e30,K30,s30,M30,E30,K30b,s30b,M30b,E30b,rfl,v30,B⟩;exact hK.out _ _ ⟨e30,K30,s30,M30,E30,K30b,s30b,M30b,E30b,rfl,v30⟩ B
  exact Jo.Steps.nil
 rintro w2 hJ _ ⟨s20,A20,n20,c20,s21,A21,n21,c21,rfl,p20,p21,k20,k21⟩ _ rfl _ ⟨e30,K30,s30,M30,E30,K30b,s30b,M30b,E30b,rfl,v30⟩ -;simp only [Jo.z];replace X1:=X1.below hJ;replace XR:=XR.below hJ;replace hT:=hT.below hJ;replace HB:=Hqb HB hJ;clear hT p20 p21;have xXR:=XR.cell;have zXR0:=XR.frozen
 refine Jo.jnext (i:=3) (o:=⟨none,_,_,_,_,_⟩) (by kernel_rfl) rfl (fun K hK=>?_)
 go_simp;refine hK.out _ _ ?_;clear hK K xXR zXR0;have SX:=StN.mk9 XR (.bool e30) (.int .i64 K30) (.bool s30) (.int .u64 M30) (.int .i64 E30) (.int .i64 K30b) (.bool s30b) (.int .u64 M30b) (.int .i64 E30b);refine Jo.jdone (by kernel_rfl) ?_;go_wp2;exact bodyPost_ret (by simp [results,Tryz.results15,go_sem,SX.box.cell]) rfl ⟨_,_,_,_,_,_,_,_,_,rfl,v30,(SX.below HB.out (by omega))⟩
end Go.Proofs.YtaadmpiphnfllaaGreatDoor
