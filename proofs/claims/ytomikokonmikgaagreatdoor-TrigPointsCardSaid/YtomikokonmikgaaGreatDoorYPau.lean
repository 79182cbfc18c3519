/-
 Contracts that the proof rests on.
-/
import Derived.Laws.EntriesVeiled
import Derived.Test.YtomikokonmikgaaGreatDoorYPat
namespace Go.Proofs.YtomikokonmikgaaGreatDoor
set_option maxHeartbeats 16000000
open Go.RowKit
set_option linter.unusedVariables false
set_option linter.unusedSimpArgs false
set_option maxRecDepth 100000
def Jo.TFact.wnS (x:Int)(K:Nat):Jo.TFact #[.bool false,.slice none 0 0,.bool false,.slice none 0 0] 67:=⟨fun v w=>∃s1 A1 n1 c1,v= .agg #[.bool s1,.slice A1 n1 c1]/\Wn w s1 A1 n1 c1 x/\n1<=K,fun v w w' h b=>by
 obtain⟨s1,A1,n1,c1,e,p,k⟩:=h
 exact⟨s1,A1,n1,c1,e,p.below b,k⟩,fun v w w' g cs h S=>by
 obtain⟨s1,A1,n1,c1,e,p,k⟩:=h;exact⟨s1,A1,n1,c1,e,p.stn S (by simp[no32]),k⟩⟩
def Jo.TFact.spS (x y:Int)(K:Nat):Jo.TFact #[.bool false,.slice none 0 0,.bool false,.slice none 0 0] 67:=⟨fun v w=>∃s1 A1 n1 c1 s2 A2 n2 c2,v= .agg #[.bool s1,.slice A1 n1 c1,.bool s2,.slice A2 n2 c2]/\Wn w s1 A1 n1 c1 x/\Wn w s2 A2 n2 c2 y/\n1<=K/\n2<=K,fun v w w' h b=>by
 obtain⟨s1,A1,n1,c1,s2,A2,n2,c2,e,p,q,k,l⟩:=h
 exact⟨s1,A1,n1,c1,s2,A2,n2,c2,e,p.below b,q.below b,k,l⟩,fun v w w' g cs h S=>by
 obtain⟨s1,A1,n1,c1,s2,A2,n2,c2,e,p,q,k,l⟩:=h;exact⟨s1,A1,n1,c1,s2,A2,n2,c2,e,p.stn S (by simp[no32]),q.stn S (by simp[no32]),k,l⟩⟩
def Jo.TFact.gd (a b:Bool):Jo.TFact #[.bool false,.slice none 0 0,.bool false,.slice none 0 0] 67:=⟨fun v _=>a=true->v= .bool b,fun _ _ _ h _=>h,fun _ _ _ _ _ h _=>h⟩
theorem Wn.off{w w':World}{g:Nat}{old new:Array Value}{R:TypeId}{s:Bool}{A:Option Addr}{n c:Nat}{z:Int}(h:Wn w s A n c z)(X:Bo w g old R)(hn:old.all no32=true)(O:Jo.Off g new R w w'):Wn w' s A n c z:=⟨h.1.off X hn O,h.2⟩
def PSB (w:World)(K:Nat)(x y:Int)(b:Bool)(e:Ending)(w':World):Prop:=∃s1 A1 n1 c1 s2 A2 n2 c2,e= .returned (.tuple #[.agg #[.bool s1,.slice A1 n1 c1,.bool s2,.slice A2 n2 c2],.bool b])/\Wn w' s1 A1 n1 c1 x/\Wn w' s2 A2 n2 c2 y/\n1<=K/\n2<=K/\Below w.heap.size w w'
theorem tAround{w:World}{D D' M M' E E':Int}{s s':Bool}{a b ga gb:Int}{ta tb:Bool}(hT:Tab w)(h0:0<=M)(hM:LQ M)(h0':0<=M')(hM':LQ M')(ha:rk D s M E=a)(hb:rk D' s' M' E'=b)(hga:fixI a=ga)(hgb:fixI b=gb)(hta:fixB a=ta)(htb:fixB b=tb):Calls Tryz.prog 137 #[VQ D s M E,VQ D' s' M' E'] w (PSB w 140010 ga (gb+1) (ta && tb)):=by
 delta VQ
 have HA:=ie ha;have HBB:=ie hb;have HGA:=ie hga;have HGB:=ie hgb;have HTA:=ie hta;have HTB:=ie htb;clear ha hb hga hgb hta htb
 go_enter Tryz.func137,Tryz.ntmps137
 go_upto_region 1 with (fail)
 generalize hW1:((w.alloc _).alloc _).alloc _=w1 at *;obtain⟨X2,X3,XR,HB⟩:=Bo.en3 hW1;replace hT:=hT.below HB.out;clear hW1;have xX2:=X2.cell
 go_wp2_with fail
 refine(cFix hT h0 hM HA.out HGA.out HTA.out).mono ?_;rintro ee w2 ⟨s20,A20,n20,c20,rfl,p20,k20,B⟩;clear xX2;replace X3:=X3.b B;replace XR:=XR.b B;replace hT:=hT.b B;replace HB:=Hqb HB B;clear B
 go_upto_region 2 with (fail)
 have nX6X3:=X3.lt;have nX6XR:=XR.lt;generalize hWn:w2.alloc _=w3 at *;obtain⟨X6,BW⟩:=Bo.nw hWn;clear hWn;replace X3:=X3.b BW;replace XR:=XR.b BW;replace hT:=hT.b BW;replace p20:=p20.b BW;replace HB:=Hqb HB BW;clear BW;have xX3:=X3.cell
 go_wp2_with fail
 refine(cFix hT h0' hM' HBB.out HGB.out HTB.out).mono ?_;rintro ee w4 ⟨s21,A21,n21,c21,rfl,p21,k21,B⟩;clear xX3;replace XR:=XR.b B;replace X6:=X6.b B;replace p20:=p20.b B;replace HB:=Hqb HB B;clear B;clear hT
 go_upto_region 3 with (fail)
 have nX8XR:=XR.lt;have nX8X6:=X6.lt;generalize hWn:w4.alloc _=w5 at *;obtain⟨X8,BW⟩:=Bo.nw hWn;clear hWn;replace XR:=XR.b BW;replace X6:=X6.b BW;replace p20:=p20.b BW;replace p21:=p21.b BW;replace HB:=Hqb HB BW;clear BW;have ltXR:=XR.lt;have ltX6:=X6.lt;have ltX8:=X8.lt;have hszA:=HB.out.size;have ltXR:=XR.lt;have ltX6:=X6.lt
 have ltX8:=X8.lt;have hszp:=HB.out.size
 refine Jo.region_lone (old:= #[.bool false,.slice none 0 0,.bool false,.slice none 0 0]) (R:=67) (T:=[0,1,2,3,4,5,6,7,8,9]) (ds:=[some 20,some 21,some 22,some 23,some 24,some 25,some 26,some 27,some 28,none,some 5]) (ls:=[[],[],[],[1,2],[0,3],[],[5],[6],[6,7],[4],[]]) (k:=11) (L:=[(some 20,0),(some 21,1),(some 22,2),(some 23,3),(some 24,4),(some 25,5),(some 26,6),(some 27,7),(some 28,8),(none,9)]) (fuel:=1) (w1:=w5) (g:=w.heap.size+1+1) (s:=9) (e:=4)
  (F:=[Jo.TFact.eq (.agg #[.bool s20,.slice A20 n20 c20]),Jo.TFact.eq (.agg #[.bool s21,.slice A21 n21 c21]),Jo.TFact.wnS (1) (2),Jo.TFact.wnS (gb+1) (140010),Jo.TFact.spS ga (gb+1) 140010,Jo.TFact.eq (.bool ta),Jo.TFact.eq (.bool ta),Jo.TFact.gd ta tb,Jo.TFact.eq (.bool (ta && tb)),Jo.TFact.any,Jo.TFact.any])
  XR (by decide) (by kernel_rfl) (by kernel_rfl) (by decide) rfl rfl ?_ (fun vs w6 csp hJ hd ee Xn=>?_)
 ·refine Jo.ocons (i:=0) (o:=⟨some 20,_,_,_,_,_⟩) (di:=some 20) (L:=[]) (f:=Jo.TFact.eq (.agg #[.bool s20,.slice A20 n20 c20])) (by decide) rfl rfl rfl rfl (fun vs wj nw hJ hd K hK=>?_) ?_
  ·clear hd;simp only[Jo.putl,Jo.ze,Act.put,Jo.za,Jo.zb,Jo.zc]at hK|-;replace X6:=X6.off (by omega) hJ;have xX6:=X6.cell;go_simp;exact hK.out _ _ rfl (br _ _)
  refine Jo.ocons (i:=1) (o:=⟨some 21,_,_,_,_,_⟩) (di:=some 21) (L:=[]) (f:=Jo.TFact.eq (.agg #[.bool s21,.slice A21 n21 c21])) (by decide) rfl rfl rfl rfl (fun vs wj nw hJ hd K hK=>?_) ?_
  ·clear hd;simp only[Jo.putl,Jo.ze,Act.put,Jo.za,Jo.zb,Jo.zc]at hK|-;replace X8:=X8.off (by omega) hJ;have xX8:=X8.cell;go_simp;exact hK.out _ _ rfl (br _ _)
  refine Jo.ocons (i:=2) (o:=⟨some 22,_,_,_,_,_⟩) (di:=some 22) (L:=[]) (f:=Jo.TFact.wnS (1) (2)) (by decide) rfl rfl rfl rfl (fun vs wj nw hJ hd K hK=>?_) ?_
  ·clear hd;simp only[Jo.putl,Jo.ze,Act.put,Jo.za,Jo.zb,Jo.zc]at hK|-;go_simp;exact Jo.w1 (wFrom 1 _ (by decide) (by decide)) hK.out
  refine Jo.ocons (i:=3) (o:=⟨some 23,_,_,_,_,_⟩) (di:=some 23) (L:=[(some 21,1),(some 22,2)]) (f:=Jo.TFact.wnS (gb+1) (140010)) (by decide) rfl rfl rfl rfl (fun vs wj nw hJ hd K hK=>?_) ?_
  ·have d1:(Jo.TFact.eq (.agg #[.bool s21,.slice A21 n21 c21]):Jo.TFact #[.bool false,.slice none 0 0,.bool false,.slice none 0 0] 67).P (vs 1) wj:=hd 1 (by decide)
   have d2:(Jo.TFact.wnS (1) (2):Jo.TFact #[.bool false,.slice none 0 0,.bool false,.slice none 0 0] 67).P (vs 2) wj:=hd 2 (by decide)
   simp only[Jo.putl,Jo.zd,Jo.ze,Act.put,Jo.za,Jo.zb,Jo.zc]at hK|-;clear hd;generalize vs 1=u1 at hK d1|-;generalize vs 2=u2 at hK d2|-
   replace d1:u1=_:=d1
   subst d1;obtain⟨s22,A22,n22,c22,rfl,p22,k22⟩:=d2;go_simp;exact Jo.w1 (wAdd (p21.off XR (by simp[no32]) hJ).wr p22.wr (by omega) (by omega) rfl) hK.out
  refine Jo.ocons (i:=4) (o:=⟨some 24,_,_,_,_,_⟩) (di:=some 24) (L:=[(some 20,0),(some 23,3)]) (f:=Jo.TFact.spS ga (gb+1) 140010) (by decide) rfl rfl rfl rfl (fun vs wj nw hJ hd K hK=>?_) ?_
  ·have d0:(Jo.TFact.eq (.agg #[.bool s20,.slice A20 n20 c20]):Jo.TFact #[.bool false,.slice none 0 0,.bool false,.slice none 0 0] 67).P (vs 0) wj:=hd 0 (by decide)
   have d3:(Jo.TFact.wnS (gb+1) (140010):Jo.TFact #[.bool false,.slice none 0 0,.bool false,.slice none 0 0] 67).P (vs 3) wj:=hd 3 (by decide)
   simp only[Jo.putl,Jo.zd,Jo.ze,Act.put,Jo.za,Jo.zb,Jo.zc]at hK|-;clear hd;generalize vs 0=u0 at hK d0|-;generalize vs 3=u3 at hK d3|-
   replace d0:u0=_:=d0
   subst d0;obtain⟨s23,A23,n23,c23,rfl,p23,k23⟩:=d3;go_simp;exact hK.out _ _ ⟨_,_,_,_,_,_,_,_,rfl,p20.off XR (by simp[no32]) hJ,p23,by omega,by omega⟩ (br _ _)
  refine Jo.ocons (i:=5) (o:=⟨some 25,_,_,_,_,_⟩) (di:=some 25) (L:=[]) (f:=Jo.TFact.eq (.bool ta)) (by decide) rfl rfl rfl rfl (fun vs wj nw hJ hd K hK=>?_) ?_
  ·clear hd;simp only[Jo.putl,Jo.ze,Act.put,Jo.za,Jo.zb,Jo.zc]at hK|-;go_simp;exact hK.out _ _ rfl (br _ _)
  refine Jo.ocons (i:=6) (o:=⟨some 26,_,_,_,_,_⟩) (di:=some 26) (L:=[(some 25,5)]) (f:=Jo.TFact.eq (.bool ta)) (by decide) rfl rfl rfl rfl (fun vs wj nw hJ hd K hK=>?_) ?_
  ·have d5:(Jo.TFact.eq (.bool ta):Jo.TFact #[.bool false,.slice none 0 0,.bool false,.slice none 0 0] 67).P (vs 5) wj:=hd 5 (by decide)
   clear hd;simp only[Jo.putl,Jo.zd,Jo.ze,Act.put,Jo.za,Jo.zb,Jo.zc]at hK|-;generalize vs 5=u5 at hK d5|-
   replace d5:u5=_:=d5
   subst d5;go_simp;exact hK.out _ _ rfl (br _ _)
  refine Jo.ocons (i:=7) (o:=⟨some 27,_,_,_,_,_⟩) (di:=some 27) (L:=[(some 26,6)]) (f:=Jo.TFact.gd ta tb) (by decide) rfl rfl rfl rfl (fun vs wj nw hJ hd K hK=>?_) ?_
  ·have d6:(Jo.TFact.eq (.bool ta):Jo.TFact #[.bool false,.slice none 0 0,.bool false,.slice none 0 0] 67).P (vs 6) wj:=hd 6 (by decide)
   clear hd;simp only[Jo.putl,Jo.zd,Jo.ze,Act.put,Jo.za,Jo.zb,Jo.zc]at hK|-;generalize vs 6=u6 at hK d6|-
   replace d6:u6=_:=d6
   subst d6;go_simp
   cases ta
   ·go_simp
    exact hK.out _ _ (fun h=>by cases h) (br _ _)
   ·go_simp
    exact hK.out _ _ (fun _=>rfl) (br _ _)
  refine Jo.ocons (i:=8) (o:=⟨some 28,_,_,_,_,_⟩) (di:=some 28) (L:=[(some 26,6),(some 27,7)]) (f:=Jo.TFact.eq (.bool (ta && tb))) (by decide) rfl rfl rfl rfl (fun vs wj nw hJ hd K hK=>?_) ?_
  ·have d6:(Jo.TFact.eq (.bool ta):Jo.TFact #[.bool false,.slice none 0 0,.bool false,.slice none 0 0] 67).P (vs 6) wj:=hd 6 (by decide)
   have d7:(Jo.TFact.gd ta tb:Jo.TFact #[.bool false,.slice none 0 0,.bool false,.slice none 0 0] 67).P (vs 7) wj:=hd 7 (by decide)
   simp only[Jo.putl,Jo.zd,Jo.ze,Act.put,Jo.za,Jo.zb,Jo.zc]at hK|-;clear hd;generalize vs 6=u6 at hK d6|-;generalize vs 7=u7 at hK d7|-
   replace d6:u6=_:=d6
   subst d6;go_simp
   cases ta
   ·go_simp;exact hK.out _ _ rfl (br _ _)
   ·obtain rfl:=d7 rfl
    go_simp;exact hK.out _ _ rfl (br _ _)
  refine Jo.osto (o:=⟨none,_,_,_,_,_⟩) (di:=none) (L:=[(some 24,4)]) (by decide) rfl rfl rfl rfl (fun vs wj hd X K hK=>?_) ?_
  ·have d4:(Jo.TFact.spS ga (gb+1) 140010:Jo.TFact #[.bool false,.slice none 0 0,.bool false,.slice none 0 0] 67).P (vs 4) wj:=hd 4 (by decide)
   clear hd;simp only[Jo.putl,Jo.zd,Jo.ze,Act.put,Jo.za,Jo.zb,Jo.zc]at hK|-;generalize vs 4=u4 at hK d4|-;obtain⟨s24,A24,n24,c24,s25,A25,n25,c25,rfl,p24,p25,k24,k25⟩:=d4;have xX:=X.cell;have zX:=X.frozen;go_simp;have SX:=StN.mk4 X (.bool s24) (.slice A24 n24 c24) (.bool s25) (.slice A25 n25 c25);exact hK.out undef _ _ rfl SX
  exact Jo.StepsI.nil
 have d0:(Jo.TFact.eq (.agg #[.bool s20,.slice A20 n20 c20]):Jo.TFact #[.bool false,.slice none 0 0,.bool false,.slice none 0 0] 67).P (vs 0) w6:=hd 0 (by decide)
 have d1:(Jo.TFact.eq (.agg #[.bool s21,.slice A21 n21 c21]):Jo.TFact #[.bool false,.slice none 0 0,.bool false,.slice none 0 0] 67).P (vs 1) w6:=hd 1 (by decide)
 have d2:(Jo.TFact.wnS (1) (2):Jo.TFact #[.bool false,.slice none 0 0,.bool false,.slice none 0 0] 67).P (vs 2) w6:=hd 2 (by decide)
 have d3:(Jo.TFact.wnS (gb+1) (140010):Jo.TFact #[.bool false,.slice none 0 0,.bool false,.slice none 0 0] 67).P (vs 3) w6:=hd 3 (by decide)
 have d4:(Jo.TFact.spS ga (gb+1) 140010:Jo.TFact #[.bool false,.slice none 0 0,.bool false,.slice none 0 0] 67).P (vs 4) w6:=hd 4 (by decide)
 have d5:(Jo.TFact.eq (.bool ta):Jo.TFact #[.bool false,.slice none 0 0,.bool false,.slice none 0 0] 67).P (vs 5) w6:=hd 5 (by decide)
 have d6:(Jo.TFact.eq (.bool ta):Jo.TFact #[.bool false,.slice none 0 0,.bool false,.slice none 0 0] 67).P (vs 6) w6:=hd 6 (by decide)
 have d7:(Jo.TFact.gd ta tb:Jo.TFact #[.bool false,.slice none 0 0,.bool false,.slice none 0 0] 67).P (vs 7) w6:=hd 7 (by decide)
 have d8:(Jo.TFact.eq (.bool (ta && tb)):Jo.TFact #[.bool false,.slice none 0 0,.bool false,.slice none 0 0] 67).P (vs 8) w6:=hd 8 (by decide)
 simp only[Jo.putl,Jo.zd,Jo.ze,Act.put,Jo.za,Jo.zb,Jo.zc];clear hd;generalize vs 0=u0 at d0|-;generalize vs 1=u1 at d1|-;generalize vs 2=u2 at d2|-;generalize vs 3=u3 at d3|-;generalize vs 4=u4 at d4 ee|-;generalize vs 5=u5 at d5|-;generalize vs 6=u6 at d6|-;generalize vs 7=u7 at d7|-;generalize vs 8=u8 at d8|-;generalize vs 9=u9 at|-;clear vs
 replace d0:u0=_:=d0
 subst d0
 replace d1:u1=_:=d1
 subst d1;obtain⟨s22,A22,n22,c22,rfl,p22,k22⟩:=d2;obtain⟨s23,A23,n23,c23,rfl,p23,k23⟩:=d3;obtain⟨s24,A24,n24,c24,s25,A25,n25,c25,rfl,p24,p25,k24,k25⟩:=d4
 replace d5:u5=_:=d5
 subst d5
 replace d6:u6=_:=d6
 subst d6
 replace d8:u8=_:=d8
 subst d8
 injection ee with ee
 subst ee;replace HB:=ie (hJ.below HB.out (by omega) XR.lt);clear XR hJ;have XR:=Xn;clear Xn;clear p20 p21 p22 p23
 refine jn 10 fun K hK=>?_
 go_simp;refine hK.out _ _ ?_;clear hK K;refine jd ?_;go_wp2;exact bq (v:= .tuple #[.agg #[.bool s24,.slice A24 n24 c24,.bool s25,.slice A25 n25 c25],.bool (ta && tb)]) (by simp[results,Tryz.results137,go_sem,XR.cell]) rfl ⟨s24,A24,n24,c24,s25,A25,n25,c25,rfl,p24,p25,k24,k25,HB.out⟩
theorem tBounds{w:World}:Calls Tryz.prog 136 #[] w (PSp w 7 PLo PHi):=by
 go_enter Tryz.func136,Tryz.ntmps136
 go_upto_region 1 with (fail)
 generalize hW1:w.alloc _=w1 at *;obtain⟨XR,HB⟩:=Bo.en1 hW1;clear hW1
 go_wp2_with fail
 refine(cBounds).mono ?_;rintro ee w2 ⟨s2,A2,n2,c2,s3,A3,n3,c3,rfl,p2,p3,k2,k3,B⟩;replace XR:=XR.b B;replace HB:=Hqb HB B;clear B
 go_upto_region 2 with (fail)
 have e4X2:(World.alloc w2 (.cells #[.bool s2,.slice A2 n2 c2] 27)).heap.size=w2.heap.size+1:=by simp
 have nX1XR:=XR.lt;have BX:=bel1 w2 (.cells #[.bool s2,.slice A2 n2 c2] 27);replace XR:=XR.b BX;replace p2:=p2.b BX;replace p3:=p3.b BX;replace HB:=ie (bt HB.out BX);have X1:=Bo.new w2 #[.bool s2,.slice A2 n2 c2] 27;generalize hWn:World.alloc w2 (.cells #[.bool s2,.slice A2 n2 c2] 27)=w3 at *
 clear hWn;have nX2XR:=XR.lt;have nX2X1:=X1.lt;generalize hWn:w3.alloc _=w4 at *;obtain⟨X2,BW⟩:=Bo.nw hWn;clear hWn;replace XR:=XR.b BW;replace X1:=X1.b BW;replace p2:=p2.b BW;replace p3:=p3.b BW;replace HB:=Hqb HB BW;clear BW;rw[e4X2]at X2;clear e4X2;have xXR:=XR.cell;have zXR0:=XR.frozen;have xX1:=X1.cell
 have xX2:=X2.cell;go_wp2;clear xXR zXR0 xX1 xX2;have SX:=StN.mk4 XR (.bool s2) (.slice A2 n2 c2) (.bool s3) (.slice A3 n3 c3);replace p2:=p2.s SX;replace p3:=p3.s SX;exact bq (v:= .agg #[.bool s2,.slice A2 n2 c2,.bool s3,.slice A3 n3 c3]) (by simp[results,Tryz.results136,go_sem,SX.box.cell]) rfl ⟨s2,A2,n2,c2,s3,A3,n3,c3,rfl,p2,p3,k2,k3,(SX.below HB.out (by omega))⟩
def aX (cos:Bool):Int:=if cos then PLo/2 else 0
def aY (cos:Bool):Int:=if cos then (PHi+1) /2 else 0
theorem ofX_eq (cos:Bool)(g:Int):g+aX cos=ofX cos g:=by
 unfold aX ofX
 cases cos
 ·show g+0=g
  omega
 ·rfl
theorem ofY_eq (cos:Bool)(g:Int):g+1+aY cos=ofY cos g:=by
 unfold aY ofY
 cases cos
 ·show g+1+0=g+1
  omega
 ·rfl
theorem tQuarter{w:World}{A':Option Addr}{n' c':Nat}{s':Bool}{B':Option Addr}{m' d':Nat}{t':Bool}(h':Wn w s' A' n' c' PLo)(k':Wn w t' B' m' d' PHi)(hn':n'<=7)(hm':m'<=7):Calls Tryz.prog 146 #[.agg #[.bool s',.slice A' n' c',.bool t',.slice B' m' d']] w (PSp w 20 (aX true) (aY true)):=by
 have H1:Hid (PLo.fdiv 2=aX true):=ie (by decide)
 have H2:Hid ((PHi+1).fdiv 2=aY true):=ie (by decide)
 go_enter Tryz.func146,Tryz.ntmps146
 go_upto_region 1 with (fail)
 generalize hW1:(w.alloc _).alloc _=w1 at *;obtain⟨X1,XR,HB⟩:=Bo.en2 hW1
 replace h':=h'.below HB.out
 replace k':=k'.below HB.out
 clear hW1
 go_wp2_with fail
 refine(wFrom 1 _ (by decide) (by decide)).mono ?_;rintro ee w2 ⟨s20,A20,n20,c20,rfl,p20,k20,B⟩;replace X1:=X1.b B;replace XR:=XR.b B
 replace h':=h'.b B
 replace k':=k'.b B
 replace HB:=Hqb HB B;clear B
 go_wp2_with fail
 refine(wFrom 2 _ (by decide) (by decide)).mono ?_;rintro ee w3 ⟨s21,A21,n21,c21,rfl,p21,k21,B⟩;replace X1:=X1.b B;replace XR:=XR.b B
 replace h':=h'.b B
 replace k':=k'.b B
 replace p20:=p20.b B;replace HB:=Hqb HB B;clear B
 go_upto_region 2 with (fail)
 have e4X4:(World.alloc w3 (.cells #[.bool s20,.slice A20 n20 c20] 27)).heap.size=w3.heap.size+1:=by simp
 have nX3X1:=X1.lt;have nX3XR:=XR.lt;have BX:=bel1 w3 (.cells #[.bool s20,.slice A20 n20 c20] 27);replace X1:=X1.b BX;replace XR:=XR.b BX
 replace h':=h'.b BX
 replace k':=k'.b BX
 replace p20:=p20.b BX;replace p21:=p21.b BX;replace HB:=ie (bt HB.out BX);have X3:=Bo.new w3 #[.bool s20,.slice A20 n20 c20] 27;generalize hWn:World.alloc w3 (.cells #[.bool s20,.slice A20 n20 c20] 27)=w4 at *;clear hWn
 have nX4X1:=X1.lt;have nX4XR:=XR.lt;have nX4X3:=X3.lt;generalize hWn:w4.alloc _=w5 at *;obtain⟨X4,BW⟩:=Bo.nw hWn;clear hWn;replace X1:=X1.b BW;replace XR:=XR.b BW;replace X3:=X3.b BW
 replace h':=h'.b BW
 replace k':=k'.b BW
 replace p20:=p20.b BW;replace p21:=p21.b BW;replace HB:=Hqb HB BW;clear BW;rw[e4X4]at X4;clear e4X4;have ltX1:=X1.lt;have ltXR:=XR.lt;have ltX3:=X3.lt;have ltX4:=X4.lt;refine jk [0,1,2,3,4,5,6,7,8,9,10] [some 7,some 8,some 9,some 10,some 11,some 12,some 13,some 14,some 15,some 16,some 17,none] [[],[0],[],[1,2],[],[4],[],[5,6],[],[7,8],[3,9],[]] 12 1 [Jo.qp w.heap.size 0,Jo.Fact.eq (.agg #[.bool s',.slice A' n' c']),Jo.Fact.eq (.agg #[.bool s21,.slice A21 n21 c21]),Jo.Fact.wn (aX true) (20),Jo.qp w.heap.size 2,Jo.Fact.eq (.agg #[.bool t',.slice B' m' d']),Jo.Fact.eq (.agg #[.bool s20,.slice A20 n20 c20]),Jo.Fact.wn (PHi+1) (10),Jo.Fact.eq (.agg #[.bool s21,.slice A21 n21 c21]),Jo.Fact.wn (aY true) (20),Jo.Fact.sp (aX true) (aY true) (20),Jo.Fact.any] ?_ ?_
 ·iterate 3 (refine jm ?_ ?_;rotate_left)
  refine jm ?_ ?_
  ·rintro wj hJ _ rfl _ rfl K hK;simp only[Jo.z]at hK|-;go_simp;exact Jo.w1 (tDown (h'.b hJ).wr (p21.b hJ).wr (by omega) (by omega) (by decide) H1.out) hK.out
  refine jm ?_ ?_;rotate_left
  refine jm ?_ ?_
  ·rintro wj hJ _ rfl K hK;simp only[Jo.z]at hK|-;have xX12:=(X1.b hJ).a 2 (.bool t') rfl;have xX13:=(X1.b hJ).a 3 (.slice B' m' d') rfl;go_simp;exact hK.out _ _ rfl (br _ _)
  refine jm ?_ ?_;rotate_left
  refine jm ?_ ?_
  ·rintro wj hJ _ rfl _ rfl K hK;simp only[Jo.z]at hK|-;go_simp;exact Jo.w1 (wAdd (k'.b hJ).wr (p20.b hJ).wr (by omega) (by omega) rfl) hK.out
  refine jm ?_ ?_;rotate_left
  refine jm ?_ ?_
  ·rintro wj hJ _ ⟨s23,A23,n23,c23,rfl,p23,k23⟩ _ rfl K hK;simp only[Jo.z]at hK|-;go_simp;exact Jo.w1 (tDown p23.wr (p21.b hJ).wr (by omega) (by omega) (by decide) H2.out) hK.out
  refine jm ?_ ?_
  ·rintro wj hJ _ ⟨s22,A22,n22,c22,rfl,p22,k22⟩ _ ⟨s24,A24,n24,c24,rfl,p24,k24⟩ K hK;simp only[Jo.z]at hK|-;go_simp;exact hK.out _ _ ⟨_,_,_,_,_,_,_,_,rfl,p22,p24,by omega,by omega⟩ (br _ _)
  exact jo
  all_goals (rintro wj hJ;(repeat rintro _ rfl);intro K hK;simp only[Jo.z]at hK|-;have xX1:=(X1.b hJ).cell;have xX4:=(X4.b hJ).cell;have xX3:=(X3.b hJ).cell;go_simp;exact hK.out _ _ rfl (br _ _))
 rintro w6 hJ _ _ _ rfl _ rfl _ ⟨s22,A22,n22,c22,rfl,p22,k22⟩ _ _ _ rfl _ rfl _ ⟨s23,A23,n23,c23,rfl,p23,k23⟩ _ rfl _ ⟨s24,A24,n24,c24,rfl,p24,k24⟩ _ ⟨s25,A25,n25,c25,s26,A26,n26,c26,rfl,p25,p26,k25,k26⟩ -;simp only[Jo.z];replace XR:=XR.b hJ;replace HB:=Hqb HB hJ;clear h' k' p20 p21 p22 p23 p24;have xXR:=XR.cell;have zXR0:=XR.frozen
 refine jn 11 fun K hK=>?_
 go_simp;refine hK.out _ _ ?_;clear hK K xXR zXR0;have SX:=StN.mk4 XR (.bool s25) (.slice A25 n25 c25) (.bool s26) (.slice A26 n26 c26);replace p25:=p25.s SX;replace p26:=p26.s SX;refine jd ?_;go_wp2;exact bq (v:= .agg #[.bool s25,.slice A25 n25 c25,.bool s26,.slice A26 n26 c26]) (by simp[results,Tryz.results146,go_sem,SX.box.cell]) rfl ⟨s25,A25,n25,c25,s26,A26,n26,c26,rfl,p25,p26,k25,k26,(SX.below HB.out (by omega))⟩
theorem tZero{w:World}{A':Option Addr}{n' c':Nat}{s':Bool}{B':Option Addr}{m' d':Nat}{t':Bool}:Calls Tryz.prog 135 #[.agg #[.bool s',.slice A' n' c',.bool t',.slice B' m' d']] w (PSp w 20 (aX false) (aY false)):=by
 go_enter Tryz.func135,Tryz.ntmps135
 go_upto_region 1 with (fail)
 generalize hW1:(w.alloc _).alloc _=w1 at *;obtain⟨X1,XR,HB⟩:=Bo.en2 hW1;clear hW1;have xXR:=XR.cell;have zXR0:=XR.frozen;go_wp2;clear xXR zXR0;have SX:=StN.mk4 XR (.bool false) (.slice none 0 0) (.bool false) (.slice none 0 0);exact bq (v:= .agg #[.bool false,.slice none 0 0,.bool false,.slice none 0 0]) (by simp[results,Tryz.results135,go_sem,SX.box.cell]) rfl ⟨_,_,_,_,_,_,_,_,rfl,⟨Nm.zero,rfl⟩,⟨Nm.zero,rfl⟩,Nat.zero_le _,Nat.zero_le _,(SX.below HB.out (by omega))⟩
def AhQ (fid:FuncId)(cos:Bool):Prop:=(∀(args:Array Value) (w:World),(callFunc fid args).run Tryz.prog w= .ok (.enter fid args) w)/\∀(w:World) (s':Bool) (A':Option Addr) (n' c':Nat) (t':Bool) (B':Option Addr) (m' d':Nat),Wn w s' A' n' c' PLo->Wn w t' B' m' d' PHi->n'<=7->m'<=7->Calls Tryz.prog fid #[.agg #[.bool s',.slice A' n' c',.bool t',.slice B' m' d']] w (PSp w 20 (aX cos) (aY cos))
theorem ahq_sin:AhQ 135 false:=⟨fun _ _=>by first | rfl | kernel_rfl | simp[callFunc,go_sem],fun _ _ _ _ _ _ _ _ _ _ _ _ _=>tZero⟩
theorem ahq_cos:AhQ 146 true:=⟨fun _ _=>by first | rfl | kernel_rfl | simp[callFunc,go_sem],fun _ _ _ _ _ _ _ _ _ h k hn hm=>tQuarter h k hn hm⟩
def PWv (w:World)(fid:FuncId)(o:Int)(e:Ending)(w':World):Prop:=∃s1 A1 n1 c1 s2 A2 n2 c2,e= .returned (.agg #[.func (.func fid) #[] #[],.int .i64 o,.bool s1,.slice A1 n1 c1,.bool s2,.slice A2 n2 c2])/\Wn w' s1 A1 n1 c1 PLo/\Wn w' s2 A2 n2 c2 PHi/\n1<=7/\n2<=7/\Below w.heap.size w w'
def Jo.Fact.wv (fid:FuncId)(o:Int):Jo.Fact:=⟨fun v w=>∃s1 A1 n1 c1 s2 A2 n2 c2,v= .agg #[.func (.func fid) #[] #[],.int .i64 o,.bool s1,.slice A1 n1 c1,.bool s2,.slice A2 n2 c2]/\Wn w s1 A1 n1 c1 PLo/\Wn w s2 A2 n2 c2 PHi/\n1<=7/\n2<=7,fun v w w' h b=>by
 obtain⟨s1,A1,n1,c1,s2,A2,n2,c2,e,p,q,k,l⟩:=h;exact⟨s1,A1,n1,c1,s2,A2,n2,c2,e,p.below b,q.below b,k,l⟩⟩
theorem tSineW{w:World}:Calls Tryz.prog 70 #[] w (PWv w 135 1):=by
 go_enter Tryz.func70,Tryz.ntmps70
 go_upto_region 1 with (fail)
 generalize hW1:w.alloc _=w1 at *;obtain⟨XR,HB⟩:=Bo.en1 hW1;clear hW1
 go_wp2_with fail
 refine(tBounds).mono ?_;rintro ee w2 ⟨s2,A2,n2,c2,s3,A3,n3,c3,rfl,p2,p3,k2,k3,B⟩;replace XR:=XR.b B;replace HB:=Hqb HB B;clear B;have xXR:=XR.cell;have zXR0:=XR.frozen;go_wp2;clear xXR zXR0;have SX:=StN.mk6 XR (.func (.func 135) #[] #[]) (.int .i64 1) (.bool s2) (.slice A2 n2 c2) (.bool s3) (.slice A3 n3 c3)
 replace p2:=p2.s SX;replace p3:=p3.s SX;exact bq (v:= .agg #[.func (.func 135) #[] #[],.int .i64 1,.bool s2,.slice A2 n2 c2,.bool s3,.slice A3 n3 c3]) (by simp[results,Tryz.results70,go_sem,SX.box.cell]) rfl ⟨s2,A2,n2,c2,s3,A3,n3,c3,rfl,p2,p3,k2,k3,(SX.below HB.out (by omega))⟩
theorem tCosW{w:World}:Calls Tryz.prog 73 #[] w (PWv w 146 0):=by
 go_enter Tryz.func73,Tryz.ntmps73
 go_upto_region 1 with (fail)
 generalize hW1:w.alloc _=w1 at *;obtain⟨XR,HB⟩:=Bo.en1 hW1;clear hW1
 go_wp2_with fail
 refine(tBounds).mono ?_;rintro ee w2 ⟨s2,A2,n2,c2,s3,A3,n3,c3,rfl,p2,p3,k2,k3,B⟩;replace XR:=XR.b B;replace HB:=Hqb HB B;clear B;have xXR:=XR.cell;have zXR0:=XR.frozen;go_wp2;clear xXR zXR0;have SX:=StN.mk6 XR (.func (.func 146) #[] #[]) (.int .i64 0) (.bool s2) (.slice A2 n2 c2) (.bool s3) (.slice A3 n3 c3)
 replace p2:=p2.s SX;replace p3:=p3.s SX;exact bq (v:= .agg #[.func (.func 146) #[] #[],.int .i64 0,.bool s2,.slice A2 n2 c2,.bool s3,.slice A3 n3 c3]) (by simp[results,Tryz.results73,go_sem,SX.box.cell]) rfl ⟨s2,A2,n2,c2,s3,A3,n3,c3,rfl,p2,p3,k2,k3,(SX.below HB.out (by omega))⟩
theorem tUnit{w:World}:Calls Tryz.prog 138 #[] w (PV w unitI):=by
 go_enter Tryz.func138,Tryz.ntmps138
 go_upto_region 1 with (fail)
 generalize hW1:w.alloc _=w1 at *;obtain⟨XR,HB⟩:=Bo.en1 hW1;clear hW1
 go_wp2_with fail
 refine(nOf (n:= -1) _ (by decide) (by decide) rfl).mono ?_;rintro ee w2 ⟨K1,s1,M1,E1,rfl,q1,B⟩;replace XR:=XR.b B;replace HB:=Hqb HB B;clear B
 go_wp2_with fail
 refine(nOf (n:=1) _ (by decide) (by decide) rfl).mono ?_;rintro ee w3 ⟨K2,s2,M2,E2,rfl,q2,B⟩;replace XR:=XR.b B;replace HB:=Hqb HB B;clear B
 go_wp2_with fail
 refine(kvMake q1.top q2.top q1.rk q2.rk rfl).mono ?_;rintro ee w4 ⟨e3,K3,s3,M3,E3,K3b,s3b,M3b,E3b,rfl,v3,B⟩;replace XR:=XR.b B;replace HB:=Hqb HB B;clear B;have xXR:=XR.cell;have zXR0:=XR.frozen;go_wp2;clear xXR zXR0;have SX:=StN.t9 XR e3 K3 s3 M3 E3 K3b s3b M3b E3b
 exact bq (by simp[results,Tryz.results138,go_sem,SX.box.cell]) rfl ⟨_,_,_,_,_,_,_,_,_,rfl,v3,(SX.below HB.out (by omega))⟩
theorem tat_no{w:World}{fid:FuncId}{cos:Bool}{o:Int}{s1 s2:Bool}{A1 A2:Option Addr}{n1 c1 n2 c2:Nat}{D M E:Int}{s:Bool}{x gx:Int}(hT:Tab w)(hah:AhQ fid cos)(p1:Wn w s1 A1 n1 c1 PLo)(p2:Wn w s2 A2 n2 c2 PHi)(k1:n1<=7)(k2:n2<=7)(h0:0<=M)(hM:LQ M)(hx:rk D s M E=x)(hf:fixB x=false):Calls Tryz.prog 71 #[.agg #[.func (.func fid) #[] #[],.int .i64 o,.bool s1,.slice A1 n1 c1,.bool s2,.slice A2 n2 c2],VQ D s M E] w (PV w unitI):=by
 delta VQ
 obtain⟨g0,hg⟩:∃g,fixI x=g:=⟨_,rfl⟩;have HX:=ie hx;have HF:=ie hf;have HG:=ie hg;clear hx hf hg
 go_enter Tryz.func71,Tryz.ntmps71
 go_upto_region 1 with (fail)
 generalize hW1:((w.alloc _).alloc _).alloc _=w1 at *;obtain⟨X2,X3,XR,HB⟩:=Bo.en3 hW1;replace hT:=hT.below HB.out;clear hW1;have xX3:=X3.cell
 go_wp2_with fail
 refine(tAround hT h0 hM h0 hM HX.out HX.out HG.out HG.out HF.out HF.out).mono ?_;rintro ee w2 ⟨s20,A20,n20,c20,s21,A21,n21,c21,rfl,p20,p21,k20,k21,B⟩;clear xX3;replace XR:=XR.b B;replace HB:=Hqb HB B;clear B
 go_upto_region 2 with (fail)
 have nX5XR:=XR.lt;generalize hWn:w2.alloc _=w3 at *;obtain⟨X5,BW⟩:=Bo.nw hWn;clear hWn;replace XR:=XR.b BW;replace HB:=Hqb HB BW;clear BW;clear p20 p21 p1 p2 hT
 go_wp2_with fail
 refine(tUnit).mono ?_;rintro ee w4 ⟨e30,K30,s30,M30,E30,K30b,s30b,M30b,E30b,rfl,v30,B⟩;replace XR:=XR.b B;replace HB:=Hqb HB B;clear B;have xXR:=XR.cell;have zXR0:=XR.frozen;go_wp2;clear xXR zXR0;have SX:=StN.t9 XR e30 K30 s30 M30 E30 K30b s30b M30b E30b
 exact bq (by simp[results,Tryz.results71,go_sem,SX.box.cell]) rfl ⟨_,_,_,_,_,_,_,_,_,rfl,v30,(SX.below HB.out (by omega))⟩
theorem tat_in{w:World}{fid:FuncId}{cos:Bool}{o:Int}{s1 s2:Bool}{A1 A2:Option Addr}{n1 c1 n2 c2:Nat}{D M E:Int}{s:Bool}{x gx:Int}(hT:Tab w)(hah:AhQ fid cos)(p1:Wn w s1 A1 n1 c1 PLo)(p2:Wn w s2 A2 n2 c2 PHi)(k1:n1<=7)(k2:n2<=7)(h0:0<=M)(hM:LQ M)(hx:rk D s M E=x){l g r u:Int}{z:Sp}(hf:fixB x=true)(hg:fixI x=gx)(hl:ofL cos gx=l)(hh:ofH cos gx=g)(hr:Rq false l SC r)(hu:Rq true g SC u)(hz:mkI r u=z):Calls Tryz.prog 71 #[.agg #[.func (.func fid) #[] #[],.int .i64 o,.bool s1,.slice A1 n1 c1,.bool s2,.slice A2 n2 c2],VQ D s M E] w (PV w z):=by
 delta VQ
 have hfit:gx.natAbs < 4294967296^10:=by rw[<-hg];exact fix_fits hf
 have hfit1:(gx+1).natAbs < 4294967296^11:=by
  have e:(4294967296:Nat)^11=4294967296^10*4294967296:=by decide
  have e2:0 < (4294967296:Nat)^10:=Nat.pow_pos (by decide)
  omega
 have HX:=ie hx;have HF:=ie hf;have HG:=ie hg;have HL:=ie hl;have HH:=ie hh;have HRR:=ie hr;have HUU:=ie hu;have HZ:=ie hz;have HF1:=ie hfit;have HF2:=ie hfit1;have HAH:=ie hah;clear hx hf hg hl hh hr hu hz hfit hfit1 hah;have HOX:=ie (ofX_eq cos gx);have HOY:=ie (ofY_eq cos gx)
 go_enter Tryz.func71,Tryz.ntmps71
 go_upto_region 1 with (fail)
 generalize hW1:((w.alloc _).alloc _).alloc _=w1 at *;obtain⟨X2,X3,XR,HB⟩:=Bo.en3 hW1;replace hT:=hT.below HB.out;replace p1:=p1.below HB.out;replace p2:=p2.below HB.out;clear hW1;have xX3:=X3.cell
 go_wp2_with fail
 refine(tAround hT h0 hM h0 hM HX.out HX.out HG.out HG.out HF.out HF.out).mono ?_;rintro ee w2 ⟨s20,A20,n20,c20,s21,A21,n21,c21,rfl,p20,p21,k20,k21,B⟩;clear xX3;replace X2:=X2.b B;replace XR:=XR.b B;replace hT:=hT.b B;replace p1:=p1.b B;replace p2:=p2.b B;replace HB:=Hqb HB B;clear B
 go_upto_region 2 with (fail)
 have nX5X2:=X2.lt;have nX5XR:=XR.lt;generalize hWn:w2.alloc _=w3 at *;obtain⟨X5,BW⟩:=Bo.nw hWn;clear hWn;replace X2:=X2.b BW;replace XR:=XR.b BW;replace hT:=hT.b BW;replace p1:=p1.b BW;replace p2:=p2.b BW;replace p20:=p20.b BW;replace p21:=p21.b BW;replace HB:=Hqb HB BW;clear BW;have few1:=p20.fits HF1.out;have few2:=p21.fits HF2.out
 go_upto_region 4 with (fail)
 have ltX2:=X2.lt;have ltXR:=XR.lt;have ltX5:=X5.lt;have hszA:=HB.out.size;refine jk [0,1,2,3,4,5,6,7,8,9,10] [some 17,some 18,some 19,some 20,some 21,some 22,some 23,some 24,some 25,some 26,some 7,none] [[],[],[1],[],[3],[2,4],[0,5],[],[7],[6,8],[],[]] 12 1 [Jo.Fact.eq (.agg #[.bool s20,.slice A20 n20 c20,.bool s21,.slice A21 n21 c21]),Jo.qp w.heap.size 0,Jo.Fact.eq (.func (.func fid) #[] #[]),Jo.qp w.heap.size 2,Jo.Fact.eq (.agg #[.bool s1,.slice A1 n1 c1,.bool s2,.slice A2 n2 c2]),Jo.Fact.sp (aX cos) (aY cos) (20),Jo.Fact.sp (ofX cos gx) (ofY cos gx) (40),Jo.qp w.heap.size 2,Jo.Fact.eq (.agg #[.bool s1,.slice A1 n1 c1,.bool s2,.slice A2 n2 c2]),Jo.Fact.sp (l) (g) (7),Jo.Fact.bo w3.heap.size #[.bool false,.slice none 0 0,.bool false,.slice none 0 0] 67,Jo.Fact.any] ?_ ?_
 ·iterate 2 (refine jm ?_ ?_;rotate_left)
  refine jm ?_ ?_
  ·rintro wj hJ _ rfl K hK;simp only[Jo.z]at hK|-;have xX20:=(X2.b hJ).a 0 (.func (.func fid) #[] #[]) rfl;go_simp;exact hK.out _ _ rfl (br _ _)
  refine jm ?_ ?_;rotate_left
  refine jm ?_ ?_
  ·rintro wj hJ _ rfl K hK;simp only[Jo.z]at hK|-;have xX22:=(X2.b hJ).a 2 (.bool s1) rfl;have xX23:=(X2.b hJ).a 3 (.slice A1 n1 c1) rfl;have xX24:=(X2.b hJ).a 4 (.bool s2) rfl;have xX25:=(X2.b hJ).a 5 (.slice A2 n2 c2) rfl;go_simp;exact hK.out _ _ rfl (br _ _)
  refine jm ?_ ?_
  ·rintro wj hJ _ rfl _ rfl K hK;simp only[Jo.z]at hK|-;go_simp;rw[HAH.out.1];simp only[Oper.upon];refine(HAH.out.2 _ _ _ _ _ _ _ _ _ (p1.b hJ) (p2.b hJ) k1 k2).mono ?_;rintro ee wk ⟨s31,A31,n31,c31,s32,A32,n32,c32,rfl,p31,p32,k31,k32,B⟩;exact hK.out _ _ ⟨s31,A31,n31,c31,s32,A32,n32,c32,rfl,p31,p32,k31,k32⟩ B
  refine jm ?_ ?_
  ·rintro wj hJ _ rfl _ ⟨s31,A31,n31,c31,s32,A32,n32,c32,rfl,p31,p32,k31,k32⟩ K hK;simp only[Jo.z]at hK|-;go_simp;refine(tPlus (Z:=40) (p20.b hJ) (p21.b hJ) p31 p32 (by omega) (by omega) (by omega) (by omega) (by omega) (by omega) HOX.out HOY.out).mono ?_;rintro ee wk ⟨s33,A33,n33,c33,s34,A34,n34,c34,rfl,p33,p34,k33,k34,B⟩;exact hK.out _ _ ⟨s33,A33,n33,c33,s34,A34,n34,c34,rfl,p33,p34,k33,k34⟩ B
  refine jm ?_ ?_;rotate_left
  refine jm ?_ ?_
  ·rintro wj hJ _ rfl K hK;simp only[Jo.z]at hK|-;have xX22:=(X2.b hJ).a 2 (.bool s1) rfl;have xX23:=(X2.b hJ).a 3 (.slice A1 n1 c1) rfl;have xX24:=(X2.b hJ).a 4 (.bool s2) rfl;have xX25:=(X2.b hJ).a 5 (.slice A2 n2 c2) rfl;go_simp;exact hK.out _ _ rfl (br _ _)
  refine jm ?_ ?_
  ·rintro wj hJ _ ⟨s33,A33,n33,c33,s34,A34,n34,c34,rfl,p33,p34,k33,k34⟩ _ rfl K hK;simp only[Jo.z]at hK|-;go_simp;refine(tSine p33 p34 (p1.b hJ) (p2.b hJ) k1 k2 (by omega) (by omega) HL.out HH.out).mono ?_;rintro ee wk ⟨s35,A35,n35,c35,s36,A36,n36,c36,rfl,p35,p36,k35,k36,B⟩;exact hK.out _ _ ⟨s35,A35,n35,c35,s36,A36,n36,c36,rfl,p35,p36,k35,k36⟩ B
  refine jm ?_ ?_
  ·rintro wj hJ K hK;simp only[Jo.z]at hK|-;go_simp;exact hK.out _ _ ⟨_,rfl,hJ.size,Bo.new _ _ _⟩ (bel1 _ _)
  exact jo
  all_goals (rintro wj hJ;(repeat rintro _ rfl);intro K hK;simp only[Jo.z]at hK|-;have xX5:=(X5.b hJ).cell;go_simp;exact hK.out _ _ rfl (br _ _))
 rintro w4 hJ _ rfl _ _ _ rfl _ _ _ rfl _ ⟨s31,A31,n31,c31,s32,A32,n32,c32,rfl,p31,p32,k31,k32⟩ _ ⟨s33,A33,n33,c33,s34,A34,n34,c34,rfl,p33,p34,k33,k34⟩ _ _ _ rfl _ ⟨s35,A35,n35,c35,s36,A36,n36,c36,rfl,p35,p36,k35,k36⟩ _ ⟨g7,rfl,hg7,X7⟩ -;simp only[Jo.z];replace XR:=XR.b hJ;replace hT:=hT.b hJ;replace HB:=Hqb HB hJ;clear p1 p2 p20 p21 p31 p32 p33 p34 X2 X3 X5
 have xX7:=X7.cell;have zX70:=X7.frozen
 refine jn 11 fun K hK=>?_
 go_simp;refine hK.out _ _ ?_;clear hK K xX7 zX70;generalize hS:(((w4.setCell _ _).setCell _ _).setCell _ _).setCell _ _=w5 at *;have SX:=StN.of4 X7 hS;replace XR:=XR.s SX;replace hT:=hT.s SX;replace p35:=p35.s SX;replace p36:=p36.s SX;replace HB:=Hqs HB SX (by omega);replace X7:=SX.box
 clear SX hS;refine jd ?_
 go_upto_region 5 with (fail)
 have xX7:=X7.cell
 go_wp2_with fail
 refine(cPart hT p35.wr p36.wr (by omega) (by omega) HRR.out HUU.out HZ.out).mono ?_;rintro ee w6 ⟨e40,K40,s40,M40,E40,K40b,s40b,M40b,E40b,rfl,v40,B⟩;clear xX7;replace XR:=XR.b B;replace HB:=Hqb HB B;clear B;clear hT p35 p36 X7;have xXR:=XR.cell;have zXR0:=XR.frozen;go_wp2;clear xXR zXR0
 have SX:=StN.t9 XR e40 K40 s40 M40 E40 K40b s40b M40b E40b;exact bq (by simp[results,Tryz.results71,go_sem,SX.box.cell]) rfl ⟨_,_,_,_,_,_,_,_,_,rfl,v40,(SX.below HB.out (by omega))⟩
theorem tAt{w:World}{fid:FuncId}{cos:Bool}{o:Int}{s1 s2:Bool}{A1 A2:Option Addr}{n1 c1 n2 c2:Nat}{D M E:Int}{s:Bool}{x:Int}{z:Sp}(hT:Tab w)(hah:AhQ fid cos)(p1:Wn w s1 A1 n1 c1 PLo)(p2:Wn w s2 A2 n2 c2 PHi)(k1:n1<=7)(k2:n2<=7)(h0:0<=M)(hM:LQ M)(hx:rk D s M E=x)(hz:Sv cos x z):Calls Tryz.prog 71 #[.agg #[.func (.func fid) #[] #[],.int .i64 o,.bool s1,.slice A1 n1 c1,.bool s2,.slice A2 n2 c2],VQ D s M E] w (PV w z):=by
 delta VQ
 rcases hz with⟨hf,rfl⟩ | ⟨hf,r,u,hr,hu,hz⟩
 ·exact tat_no (gx:=0) hT hah p1 p2 k1 k2 h0 hM hx hf
 ·exact tat_in hT hah p1 p2 k1 k2 h0 hM hx hf rfl rfl rfl hr hu hz
theorem tSin{w:World}{D M E:Int}{s:Bool}{x:Int}{z:Sp}(hT:Tab w)(h0:0<=M)(hM:LQ M)(hx:rk D s M E=x)(hz:Sv false x z):Calls Tryz.prog 15 #[VQ D s M E] w (PV w z):=by
 delta VQ
 have HX:=ie hx;have HZ:=ie hz;clear hx hz
 go_enter Tryz.func15,Tryz.ntmps15
 go_upto_region 1 with (fail)
 generalize hW1:(w.alloc _).alloc _=w1 at *;obtain⟨X1,XR,HB⟩:=Bo.en2 hW1;replace hT:=hT.below HB.out;clear hW1;have ltX1:=X1.lt;have ltXR:=XR.lt;refine jk [0,1,2] [some 3,some 4,some 5,none] [[],[],[0,1],[]] 4 1 [Jo.Fact.wv (135) (1),Jo.q4 D s M E,Jo.Fact.iv z,Jo.Fact.any] ?_ ?_
 ·refine jm ?_ ?_
  ·rintro wj hJ K hK;simp only[Jo.z]at hK|-;go_simp;refine(tSineW).mono ?_;rintro ee wk ⟨s20,A20,n20,c20,s21,A21,n21,c21,rfl,p20,p21,k20,k21,B⟩;exact hK.out _ _ ⟨s20,A20,n20,c20,s21,A21,n21,c21,rfl,p20,p21,k20,k21⟩ B
  refine jm ?_ ?_
  ·rintro wj hJ K hK;simp only[Jo.z]at hK|-;have xX1:=(X1.b hJ).cell;go_simp;exact hK.out _ _ rfl (br _ _)
  refine jm ?_ ?_
  ·rintro wj hJ _ ⟨s20,A20,n20,c20,s21,A21,n21,c21,rfl,p20,p21,k20,k21⟩ _ rfl K hK;simp only[Jo.z]at hK|-;go_simp;exact Jo.v1 (tAt (hT.b hJ) ahq_sin p20 p21 k20 k21 h0 hM HX.out HZ.out) hK.out
  exact jo
 rintro w2 hJ _ ⟨s20,A20,n20,c20,s21,A21,n21,c21,rfl,p20,p21,k20,k21⟩ _ rfl _ ⟨e30,K30,s30,M30,E30,K30b,s30b,M30b,E30b,rfl,v30⟩ -;simp only[Jo.z];replace XR:=XR.b hJ;replace HB:=Hqb HB hJ;clear hT p20 p21;have xXR:=XR.cell;have zXR0:=XR.frozen
 refine jn 3 fun K hK=>?_
 go_simp;refine hK.out _ _ ?_;clear hK K xXR zXR0;have SX:=StN.t9 XR e30 K30 s30 M30 E30 K30b s30b M30b E30b;refine jd ?_;go_wp2;exact bq (by simp[results,Tryz.results15,go_sem,SX.box.cell]) rfl ⟨_,_,_,_,_,_,_,_,_,rfl,v30,(SX.below HB.out (by omega))⟩
theorem tCos{w:World}{D M E:Int}{s:Bool}{x:Int}{z:Sp}(hT:Tab w)(h0:0<=M)(hM:LQ M)(hx:rk D s M E=x)(hz:Sv true x z):Calls Tryz.prog 17 #[VQ D s M E] w (PV w z):=by
 delta VQ
 have HX:=ie hx;have HZ:=ie hz;clear hx hz
 go_enter Tryz.func17,Tryz.ntmps17
 go_upto_region 1 with (fail)
 generalize hW1:(w.alloc _).alloc _=w1 at *;obtain⟨X1,XR,HB⟩:=Bo.en2 hW1;replace hT:=hT.below HB.out;clear hW1;have ltX1:=X1.lt;have ltXR:=XR.lt;refine jk [0,1,2] [some 3,some 4,some 5,none] [[],[],[0,1],[]] 4 1 [Jo.Fact.wv (146) (0),Jo.q4 D s M E,Jo.Fact.iv z,Jo.Fact.any] ?_ ?_
 ·refine jm ?_ ?_
  ·rintro wj hJ K hK;simp only[Jo.z]at hK|-;go_simp;refine(tCosW).mono ?_;rintro ee wk ⟨s20,A20,n20,c20,s21,A21,n21,c21,rfl,p20,p21,k20,k21,B⟩;exact hK.out _ _ ⟨s20,A20,n20,c20,s21,A21,n21,c21,rfl,p20,p21,k20,k21⟩ B
  refine jm ?_ ?_
  ·rintro wj hJ K hK;simp only[Jo.z]at hK|-;have xX1:=(X1.b hJ).cell;go_simp;exact hK.out _ _ rfl (br _ _)
  refine jm ?_ ?_
  ·rintro wj hJ _ ⟨s20,A20,n20,c20,s21,A21,n21,c21,rfl,p20,p21,k20,k21⟩ _ rfl K hK;simp only[Jo.z]at hK|-;go_simp;exact Jo.v1 (tAt (hT.b hJ) ahq_cos p20 p21 k20 k21 h0 hM HX.out HZ.out) hK.out
  exact jo
 rintro w2 hJ _ ⟨s20,A20,n20,c20,s21,A21,n21,c21,rfl,p20,p21,k20,k21⟩ _ rfl _ ⟨e30,K30,s30,M30,E30,K30b,s30b,M30b,E30b,rfl,v30⟩ -;simp only[Jo.z];replace XR:=XR.b hJ;replace HB:=Hqb HB hJ;clear hT p20 p21;have xXR:=XR.cell;have zXR0:=XR.frozen
 refine jn 3 fun K hK=>?_
 go_simp;refine hK.out _ _ ?_;clear hK K xXR zXR0;have SX:=StN.t9 XR e30 K30 s30 M30 E30 K30b s30b M30b E30b;refine jd ?_;go_wp2;exact bq (by simp[results,Tryz.results17,go_sem,SX.box.cell]) rfl ⟨_,_,_,_,_,_,_,_,_,rfl,v30,(SX.below HB.out (by omega))⟩
def odd1 (cos:Bool):Int:=if cos then 0 else 1
theorem crZ_eq (cos:Bool)(i:Int):2*i+odd1 cos=crZ cos i:=by
 unfold crZ odd1
 cases cos
 ·rfl
 ·show 2*i+0=2*i
  omega
theorem tCrest{w:World}{fid:FuncId}{o:Int}{s1 s2:Bool}{A1 A2:Option Addr}{n1 c1 n2 c2:Nat}{j z u v:Int}(p1:Wn w s1 A1 n1 c1 PLo)(p2:Wn w s2 A2 n2 c2 PHi)(k1:n1<=7)(k2:n2<=7)(j1: -4398046511104<=j)(j2:j<=4398046511104)(ho:0<=o/\o<=1)(hz:2*j+o=z)(hu:loZ z=u)(hv:hiZ z=v):Calls Tryz.prog 207 #[.agg #[.func (.func fid) #[] #[],.int .i64 o,.bool s1,.slice A1 n1 c1,.bool s2,.slice A2 n2 c2],.int .i64 j] w (PSp w 15 u v):=by
 have HW1:=iw (2*j)
 have HW2:Hid (IntKind.i64.wrap (2*j+o)=z):=ie (by rw[<-hz];exact IntWalk.i64_in _ (by omega))
 have HW3:Hid (wrap64 (2*j+o)=z):=ie (by rw[<-hz];exact IntWalk.wrap64_in _ (by omega))
 have HZ1:Hid (-9223372036854775808<=z/\z<=9223372036854775807):=ie ⟨by omega,by omega⟩
 have HU:Hid ((if z < 0 then z*PHi else z*PLo)=u):=ie hu
 have HV:Hid ((if z < 0 then z*PLo else z*PHi)=v):=ie hv
 clear hz hu hv j1 j2 ho
 go_enter Tryz.func207,Tryz.ntmps207
 go_upto_region 1 with (fail)
 generalize hW1:(w.alloc _).alloc _=w1 at *;obtain⟨X2,XR,HB⟩:=Bo.en2 hW1;replace p1:=p1.below HB.out;replace p2:=p2.below HB.out;clear hW1;have ltX2:=X2.lt;have ltXR:=XR.lt;refine jk [0,1,2,3,4,5,6,7,8] [some 5,some 6,some 7,some 8,some 9,some 10,some 11,some 12,some 13,none] [[],[0],[],[2],[],[4],[3,5],[6],[1,7],[]] 10 1 [Jo.qp w.heap.size 2,Jo.Fact.eq (.agg #[.bool s1,.slice A1 n1 c1,.bool s2,.slice A2 n2 c2]),Jo.qi j,Jo.Fact.eq (.int .i64 (2*j)),Jo.qp w.heap.size 1,Jo.qi o,Jo.Fact.eq (.int .i64 (z)),Jo.Fact.wn (z) (2),Jo.Fact.sp (u) (v) (15),Jo.Fact.any] ?_ ?_
 ·refine jm ?_ ?_;rotate_left
  refine jm ?_ ?_
  ·rintro wj hJ _ rfl K hK;simp only[Jo.z]at hK|-;have xX22:=(X2.b hJ).a 2 (.bool s1) rfl;have xX23:=(X2.b hJ).a 3 (.slice A1 n1 c1) rfl;have xX24:=(X2.b hJ).a 4 (.bool s2) rfl;have xX25:=(X2.b hJ).a 5 (.slice A2 n2 c2) rfl;go_simp;exact hK.out _ _ rfl (br _ _)
  refine jm ?_ ?_;rotate_left
  refine jm ?_ ?_
  ·rintro wj hJ _ rfl K hK;simp only[Jo.z]at hK|-;have hw:=HW1.out;go_simp
   exact hK.out _ _ (by first | rfl | (show Value.int _ _=Value.int _ _;simp_all)) (br _ _)
  refine jm ?_ ?_;rotate_left
  refine jm ?_ ?_
  ·rintro wj hJ _ rfl K hK;simp only[Jo.z]at hK|-;have xX21:=(X2.b hJ).a 1 (.int .i64 o) rfl;go_simp;exact hK.out _ _ rfl (br _ _)
  refine jm ?_ ?_
  ·rintro wj hJ _ rfl _ rfl K hK;simp only[Jo.z]at hK|-;have hw:=HW2.out;have hw3:=HW3.out;go_simp
   exact hK.out _ _ (by first | rfl | (show Value.int _ _=Value.int _ _;simp_all)) (br _ _)
  refine jm ?_ ?_
  ·rintro wj hJ _ rfl K hK;simp only[Jo.z]at hK|-;go_simp;exact Jo.w1 (wFrom z _ HZ1.out.1 HZ1.out.2) hK.out
  refine jm ?_ ?_
  ·rintro wj hJ _ rfl _ ⟨s20,A20,n20,c20,rfl,p20,k20⟩ K hK;simp only[Jo.z]at hK|-;go_simp;refine(tTimes (L:=7) (Z:=15) (p1.b hJ) (p2.b hJ) p20 k1 k2 (by omega) (by omega) (by omega) HU.out HV.out).mono ?_;rintro ee wk ⟨s21,A21,n21,c21,s22,A22,n22,c22,rfl,p21,p22,k21,k22,B⟩;exact hK.out _ _ ⟨s21,A21,n21,c21,s22,A22,n22,c22,rfl,p21,p22,k21,k22⟩ B
  exact jo
  all_goals (rintro wj hJ;(repeat rintro _ rfl);intro K hK;simp only[Jo.z]at hK|-;go_simp;exact hK.out _ _ rfl (br _ _))
 rintro w2 hJ _ _ _ rfl _ rfl _ rfl _ _ _ rfl _ rfl _ ⟨s20,A20,n20,c20,rfl,p20,k20⟩ _ ⟨s21,A21,n21,c21,s22,A22,n22,c22,rfl,p21,p22,k21,k22⟩ -;simp only[Jo.z];replace XR:=XR.b hJ;replace HB:=Hqb HB hJ;clear p1 p2 p20;have xXR:=XR.cell;have zXR0:=XR.frozen
 refine jn 9 fun K hK=>?_
 go_simp;refine hK.out _ _ ?_;clear hK K xXR zXR0;have SX:=StN.mk4 XR (.bool s21) (.slice A21 n21 c21) (.bool s22) (.slice A22 n22 c22);replace p21:=p21.s SX;replace p22:=p22.s SX;refine jd ?_;go_wp2;exact bq (v:= .agg #[.bool s21,.slice A21 n21 c21,.bool s22,.slice A22 n22 c22]) (by simp[results,Tryz.results207,go_sem,SX.box.cell]) rfl ⟨s21,A21,n21,c21,s22,A22,n22,c22,rfl,p21,p22,k21,k22,(SX.below HB.out (by omega))⟩
theorem tFirst{w:World}{fid:FuncId}{o:Int}{s1 s2:Bool}{A1 A2:Option Addr}{n1 c1 n2 c2:Nat}{s3 s4:Bool}{A3 A4:Option Addr}{n3 c3 n4 c4:Nat}{x y:Int}{j:Int}(p1:Wn w s1 A1 n1 c1 PLo)(p2:Wn w s2 A2 n2 c2 PHi)(k1:n1<=7)(k2:n2<=7)(p3:Wn w s3 A3 n3 c3 x)(p4:Wn w s4 A4 n4 c4 y)(k3:n3<=1000)(k4:n4<=1000)(hj:x.fdiv (2*PLo)=j)(hf:fits j=true):Calls Tryz.prog 206 #[.agg #[.func (.func fid) #[] #[],.int .i64 o,.bool s1,.slice A1 n1 c1,.bool s2,.slice A2 n2 c2,.bool s3,.slice A3 n3 c3,.bool s4,.slice A4 n4 c4]] w (PI w j):=by
 have HP:=ie (prd_two (z:=2) (x:=PLo));have HJ:=ie hj;have HFJ:=ie hf;clear hj hf
 go_enter Tryz.func206,Tryz.ntmps206
 go_upto_region 1 with (fail)
 generalize hW1:w.alloc _=w1 at *;obtain⟨X1,HB⟩:=Bo.en1 hW1;replace p1:=p1.below HB.out;replace p3:=p3.below HB.out;clear hW1;refine jk [0,1,2,3,4,5,6,7,8,9,10,11,12,13,14,15,16] [some 6,some 7,some 8,some 9,some 10,some 11,some 12,some 13,some 14,some 15,some 16,some 17,some 5,some 18,some 19,some 3,some 4] [[],[0],[1],[],[],[4],[5],[6],[3,7],[8],[2,9],[10],[11],[12],[12],[13],[14]] 17 0 [Jo.qp w.heap.size 6,Jo.qp w.heap.size 6,Jo.Fact.eq (.agg #[.bool s3,.slice A3 n3 c3]),Jo.Fact.wn (2) (2),Jo.qp w.heap.size 0,Jo.qp w.heap.size 2,Jo.qp w.heap.size 2,Jo.Fact.eq (.agg #[.bool s1,.slice A1 n1 c1]),Jo.Fact.wl 7 2 [2,PLo],Jo.Fact.wn (2*PLo) (15),Jo.Fact.wn (j) (1020),Jo.Fact.eq (.tuple #[.int .i64 j,.bool true]),Jo.Fact.eq (.tuple #[.int .i64 j,.bool true]),Jo.qi j,Jo.qb true,Jo.qi j,Jo.qb true] ?_ ?_
 ·iterate 2 (refine jm ?_ ?_;rotate_left)
  refine jm ?_ ?_
  ·rintro wj hJ _ rfl K hK;simp only[Jo.z]at hK|-;have xX16:=(X1.b hJ).a 6 (.bool s3) rfl;have xX17:=(X1.b hJ).a 7 (.slice A3 n3 c3) rfl;go_simp;exact hK.out _ _ rfl (br _ _)
  refine jm ?_ ?_
  ·rintro wj hJ K hK;simp only[Jo.z]at hK|-;go_simp;exact Jo.w1 (wFrom 2 _ (by decide) (by decide)) hK.out
  iterate 3 (refine jm ?_ ?_;rotate_left)
  refine jm ?_ ?_
  ·rintro wj hJ _ rfl K hK;simp only[Jo.z]at hK|-;have xX12:=(X1.b hJ).a 2 (.bool s1) rfl;have xX13:=(X1.b hJ).a 3 (.slice A1 n1 c1) rfl;go_simp;exact hK.out _ _ rfl (br _ _)
  refine jm ?_ ?_
  ·rintro wj hJ _ ⟨s20,A20,n20,c20,rfl,p20,k20⟩ _ rfl K hK;simp only[Jo.z]at hK|-;go_simp;exact hK.out _ _ ⟨_,_,rfl,Wl.lit2 rfl p20.wr (p1.b hJ).wr (by omega) (by omega)⟩ (bel1 _ _)
  refine jm ?_ ?_
  ·rintro wj hJ _ ⟨A21,c21,rfl,h21⟩ K hK;simp only[Jo.z]at hK|-;go_simp;exact Jo.w1 (wMul h21 (by decide) HP.out) hK.out
  refine jm ?_ ?_
  ·rintro wj hJ _ rfl _ ⟨s22,A22,n22,c22,rfl,p22,k22⟩ K hK;simp only[Jo.z]at hK|-;go_simp;exact Jo.w1 (tDown (p3.b hJ).wr p22.wr (by omega) (by omega) (by decide) HJ.out) hK.out
  refine jm ?_ ?_
  ·rintro wj hJ _ ⟨s23,A23,n23,c23,rfl,p23,k23⟩ K hK;simp only[Jo.z]at hK|-;go_simp;refine(wInt (r:=j) p23.wr HFJ.out rfl).mono ?_;rintro ee wk ⟨rfl,B⟩;exact hK.out _ _ rfl B
  refine jm ?_ ?_
  ·rintro wj hJ _ rfl K hK;simp only[Jo.z]at hK|-;go_simp
   exact hK.out _ _ (by first | rfl | simp_all) (br _ _)
  refine jm ?_ ?_
  ·rintro wj hJ _ rfl K hK;simp only[Jo.z]at hK|-;go_simp
   exact hK.out _ _ (by first | rfl | simp_all) (br _ _)
  refine jm ?_ ?_
  ·rintro wj hJ _ rfl K hK;simp only[Jo.z]at hK|-;go_simp
   exact hK.out _ _ (by first | rfl | simp_all) (br _ _)
  refine jm ?_ ?_
  ·rintro wj hJ _ rfl K hK;simp only[Jo.z]at hK|-;go_simp
   exact hK.out _ _ (by first | rfl | simp_all) (br _ _)
  refine jm ?_ ?_
  ·rintro wj hJ _ rfl K hK;simp only[Jo.z]at hK|-;go_simp
   exact hK.out _ _ (by first | rfl | simp_all) (br _ _)
  exact jo
  all_goals (rintro wj hJ;(repeat rintro _ rfl);intro K hK;simp only[Jo.z]at hK|-;go_simp;exact hK.out _ _ rfl (br _ _))
 rintro w2 hJ _ _ _ _ _ rfl _ ⟨s20,A20,n20,c20,rfl,p20,k20⟩ _ _ _ _ _ _ _ rfl _ ⟨_,_,rfl,_⟩ _ ⟨s22,A22,n22,c22,rfl,p22,k22⟩ _ ⟨s23,A23,n23,c23,rfl,p23,k23⟩ _ rfl _ rfl _ rfl _ rfl _ rfl _ rfl -;simp only[Jo.z];replace HB:=Hqb HB hJ;refine jd ?_;clear p1 p3 p20 p22 p23;go_wp2
 go_ret
 exact⟨rfl,HB.out⟩
def PCr (w:World)(cos:Bool)(x y j:Int)(e:Ending)(w':World):Prop:=∃k A n c,e= .returned (.slice A n c)/\Ia w' w.heap.size A n c (crL cos x y j k)/\n<=6/\y < loZ (crZ cos (j+(k:Nat)))/\Below w.heap.size w w'
def CrInv (w:World)(cos:Bool)(x y j:Int)(cs:Array Value)(A:Option Addr)(n c k:Nat)(wr:World):Prop:=Ia wr w.heap.size A n c (crL cos x y j k)/\n<=k/\k<=6/\Bo wr w.heap.size cs 113/\Below w.heap.size w wr
theorem tMeetsR{w:World}{A:Option Addr}{n c:Nat}{s:Bool}{x:Int}{B:Option Addr}{m d:Nat}{t:Bool}{y:Int}{A':Option Addr}{n' c':Nat}{s':Bool}{x':Int}{B':Option Addr}{m' d':Nat}{t':Bool}{y':Int}{r:Bool}(h:Wn w s A n c x)(k:Wn w t B m d y)(h':Wn w s' A' n' c' x')(k':Wn w t' B' m' d' y')(hr:(decide (x<=y') && decide (x'<=y))=r):Calls Tryz.prog 208 #[.agg #[.bool s,.slice A n c,.bool t,.slice B m d],.agg #[.bool s',.slice A' n' c',.bool t',.slice B' m' d']] w (PB w r):=hr▸tMeets h k h' k' rfl rfl
theorem meets_zr{cos:Bool}{x y i z:Int}{r:Bool}(hz:crZ cos i=z)(hr:meetsB (crZ cos i) x y=r):(decide (loZ z<=y) && decide (x<=hiZ z))=r:=by rw[<-hr,meets_z,hz]
theorem cr_no{cos:Bool}{x y j i:Int}{k:Nat}(hi:i=j+k)(h:meetsB (crZ cos i) x y=false):crL cos x y j (k+1)=crL cos x y j k:=by
 show crL cos x y j k ++_=_
 rw[<-hi,h];exact List.append_nil _
theorem cr_yes{cos:Bool}{x y j i:Int}{k:Nat}(hi:i=j+k)(h:meetsB (crZ cos i) x y=true):crL cos x y j (k+1)=crL cos x y j k ++[ptI i]:=by
 show crL cos x y j k ++_=_
 rw[<-hi,h]
 rfl
theorem cr_go{cos:Bool}{y j:Int}{k:Nat}(hst:y < loZ (crZ cos (j+6)))(hk:k<=6)(h:¬y < loZ (crZ cos (j+k))):k+1<=6:=by
 rcases Nat.lt_or_ge k 6 with c | c
 ·omega
 ·obtain rfl:k=6:=by omega
  exact absurd hst h
theorem tCrests{w:World}{fid:FuncId}{o:Int}{s1 s2:Bool}{A1 A2:Option Addr}{n1 c1 n2 c2:Nat}{cos:Bool}{s3 s4:Bool}{A3 A4:Option Addr}{n3 c3 n4 c4:Nat}{x y:Int}{j:Int}(p1:Wn w s1 A1 n1 c1 PLo)(p2:Wn w s2 A2 n2 c2 PHi)(k1:n1<=7)(k2:n2<=7)(p3:Wn w s3 A3 n3 c3 x)(p4:Wn w s4 A4 n4 c4 y)(k3:n3<=1000)(k4:n4<=1000)(ho:odd1 cos=o)(hj:x.fdiv (2*PLo)=j)(j1: -1099511627776<=j)(j2:j<=1099511627776)(hst:y < loZ (crZ cos (j+6))):Calls Tryz.prog 149 #[.agg #[.func (.func fid) #[] #[],.int .i64 o,.bool s1,.slice A1 n1 c1,.bool s2,.slice A2 n2 c2,.bool s3,.slice A3 n3 c3,.bool s4,.slice A4 n4 c4]] w (PCr w cos x y j):=by
 have HFJ:Hid (fits j=true):=ie (by unfold fits;simp;omega)
 have HO2:Hid (0<=o/\o<=1):=ie (by rw[<-ho];unfold odd1;cases cos <;> decide)
 have HO:=ie ho;have HJ:=ie hj;have HST:=ie hst;clear ho hj hst
 go_enter Tryz.func149,Tryz.ntmps149
 go_upto_region 1 with (fail)
 have X1:=Bo.newAt w (g:=w.heap.size) rfl #[.func (.func fid) #[] #[],.int .i64 o,.bool s1,.slice A1 n1 c1,.bool s2,.slice A2 n2 c2,.bool s3,.slice A3 n3 c3,.bool s4,.slice A4 n4 c4] 113
 have HB:Hid (Below w.heap.size w (World.alloc w (.cells #[.func (.func fid) #[] #[],.int .i64 o,.bool s1,.slice A1 n1 c1,.bool s2,.slice A2 n2 c2,.bool s3,.slice A3 n3 c3,.bool s4,.slice A4 n4 c4] 113))):=ie (bel1 w (.cells #[.func (.func fid) #[] #[],.int .i64 o,.bool s1,.slice A1 n1 c1,.bool s2,.slice A2 n2 c2,.bool s3,.slice A3 n3 c3,.bool s4,.slice A4 n4 c4] 113))
 generalize hW1:World.alloc w (.cells #[.func (.func fid) #[] #[],.int .i64 o,.bool s1,.slice A1 n1 c1,.bool s2,.slice A2 n2 c2,.bool s3,.slice A3 n3 c3,.bool s4,.slice A4 n4 c4] 113)=w1 at *;clear hW1
 go_upto_region 2 with (fail)
 have xX1:=X1.cell;have q1:=p1.below HB.out;have q2:=p2.below HB.out;have q3:=p3.below HB.out;have q4:=p4.below HB.out
 go_wp2_with fail
 refine(tFirst q1 q2 k1 k2 q3 q4 k3 k4 HJ.out HFJ.out).mono ?_;rintro ee w2 ⟨rfl,B⟩;clear xX1;replace X1:=X1.b B;replace HB:=Hqb HB B;clear B;clear q1 q2 q3 q4 HFJ
 have hI0:CrInv w cos x y j #[.func (.func fid) #[] #[],.int .i64 o,.bool s1,.slice A1 n1 c1,.bool s2,.slice A2 n2 c2,.bool s3,.slice A3 n3 c3,.bool s4,.slice A4 n4 c4] none 0 0 0 w2:=⟨Ia.nil _ _,Nat.le_refl _,by decide,X1,HB.out⟩
 have HI0:=ie hI0;clear hI0 X1 HB;go_wp2
 go_loopw [3,4] (fun va v wr=>∃(k:Nat) (i:Int) (A:Option Addr) (n c:Nat),va= .slice A n c/\v= .int .i64 i/\i=j+k/\CrInv w cos x y j #[.func (.func fid) #[] #[],.int .i64 o,.bool s1,.slice A1 n1 c1,.bool s2,.slice A2 n2 c2,.bool s3,.slice A3 n3 c3,.bool s4,.slice A4 n4 c4] A n c k wr) (fun _ v _=>((j+7)-intOf v).toNat)
 case atStart=>exact ⟨0,j,_,_,_,rfl,rfl,by omega,HI0.out⟩
 case round=>
  obtain⟨k,i,A,n,c,rfl,rfl,hi,N,hnk,hk,X1,hB⟩:=hrel;have HB:=ie hB;have HIJ:=ie hi
  have i1: -4398046511104<=i:=by omega
  have i2:i<=4398046511104:=by omega
  clear hB HI0 hi;obtain⟨z,hz⟩:∃z,crZ cos i=z:=⟨_,rfl⟩;obtain⟨u,hu⟩:∃z',loZ z=z':=⟨_,rfl⟩;obtain⟨v,hv⟩:∃z',hiZ z=z':=⟨_,rfl⟩;obtain⟨r,hr⟩:∃r,meetsB (crZ cos i) x y=r:=⟨_,rfl⟩;obtain⟨σ,hσ⟩:∃σ,cmpI u y=σ:=⟨_,rfl⟩;have e1:=(cmp_lt12 hσ).2;have hm:=meets_zr hz hr;rw[hu,hv]at hm
  have hz2:2*i+o=z:=by rw[<-hz,<-crZ_eq,HO.out]
  have HZ:=ie hz;have HZ2:=ie hz2;have HU:=ie hu;have HV:=ie hv;have HR:=ie hr;have HM:=ie hm;have HS:=ie hσ;have HW8:=iw (i+1);have HW9:=jw (i+1);clear hz hz2 hu hv hr hm hσ
  go_upto_region 4 with (fail)
  have q1:=p1.below HB.out;have q2:=p2.below HB.out;have xX1:=X1.cell
  go_wp2_with fail
  refine(tCrest q1 q2 k1 k2 i1 i2 HO2.out HZ2.out HU.out HV.out).mono ?_;rintro ee w3 ⟨s20,A20,n20,c20,s21,A21,n21,c21,rfl,p20,p21,k20,k21,B⟩;clear xX1;replace X1:=X1.b B;replace N:=N.b B;replace HB:=Hqb HB B;clear B;clear q1 q2;have hsz3:=HB.out.size
  go_upto_region 5 with (fail)
  have nX5X1:=X1.lt;generalize hWn:w3.alloc _=w4 at *;obtain⟨X5,BW⟩:=Bo.nw hWn;clear hWn;replace X1:=X1.b BW;replace N:=N.b BW;replace p20:=p20.b BW;replace p21:=p21.b BW;replace HB:=Hqb HB BW;clear BW;have q4:=p4.below HB.out;have xX5:=X5.cell;have xX1:=X1.cell
  go_wp2_with fail
  refine(wCmp p20.wr q4.wr HS.out).mono ?_;rintro ee w5 ⟨rfl,B⟩;clear xX5 xX1;replace X1:=X1.b B;replace X5:=X5.b B;replace N:=N.b B;replace p20:=p20.b B;replace p21:=p21.b B;replace HB:=Hqb HB B;clear B;clear q4
  by_cases hcq:y < u
  ·rw[dt hcq]at e1
   have hst2:y < loZ (crZ cos (j+(k:Nat))):=by rw[<-HIJ.out,HZ.out,HU.out];exact hcq
   go_wp2
   go_ret
   exact⟨k,_,_,_,rfl,N,by omega,hst2,HB.out⟩
  ·rw[df hcq]at e1
   have hk1:k+1<=6:=cr_go HST.out hk (by rw[<-HIJ.out,HZ.out,HU.out];exact hcq)
   go_upto_region 7 with (fail)
   clear e1;have q3:=p3.below HB.out;have q4:=p4.below HB.out;have xX5:=X5.cell;have xX1:=X1.cell
   go_wp2_with fail
   refine(tMeetsR p20 p21 q3 q4 HM.out).mono ?_;rintro ee w6 ⟨rfl,B⟩;clear xX5 xX1;replace X1:=X1.b B;replace N:=N.b B;replace HB:=Hqb HB B;clear B;clear q3 q4 p20 p21 HM HS
   cases r
   ·have hw8:=HW8.out;have hw9:=HW9.out;go_wp2;clear hw8 hw9
    go_roundw
    case rel=>exact ⟨k+1,i+1,_,_,_,rfl,rfl,(by have:=HIJ.out;omega),by rw[cr_no HIJ.out HR.out];exact N,by omega,hk1,X1,HB.out⟩
    case measure=>
     have:=HIJ.out
     simp[intOf]
     omega
   ·by_cases hpar:i%2=0
    ·have hpt:ptI i=mkI (opl 1) (opl 1):=by unfold ptI;rw[if_pos hpar]
     have HPT:=ie hpt.symm;clear hpt
     have han:bits .and .i64 i 1=0:=by rw[and_one];omega
     go_upto_region 8 with (fail)
     go_wp2_with fail
     refine(nOf (n:=1) (r:=opl 1) _ (by decide) (by decide) rfl).mono ?_;rintro ee w7 ⟨K30,s30,M30,E30,rfl,q30,B⟩;replace X1:=X1.b B;replace N:=N.b B;replace HB:=Hqb HB B;clear B;clear han
     go_wp2_with fail
     refine(kvPoint q30.top q30.rk HPT.out).mono ?_;rintro ee w8 ⟨e31,K31,s31,M31,E31,K31b,s31b,M31b,E31b,rfl,v31,B⟩;replace X1:=X1.b B;replace N:=N.b B;replace HB:=Hqb HB B;clear B
     go_wp2_with (at_builtin;refine wpList_ia rfl _ _ rfl rfl rfl (N.below (bel1 _ _)) (Ia.lit (Bo.new _ _ _) v31) (by decide) (by omega) (Nat.le_trans HB.out.size (bel1 _ _).size) ?_)
     intro A5 d5 w9 N' G1 at1
     have hB2:=bt HB.out (bel1 _ (.cells #[.bool e31,.int .i64 K31,.bool s31,.int .u64 M31,.int .i64 E31,.int .i64 K31b,.bool s31b,.int .u64 M31b,.int .i64 E31b] 32));have Nb:=N.below (bel1 _ (.cells #[.bool e31,.int .i64 K31,.bool s31,.int .u64 M31,.int .i64 E31,.int .i64 K31b,.bool s31b,.int .u64 M31b,.int .i64 E31b] 32));replace X1:=(X1.below (bel1 _ (.cells #[.bool e31,.int .i64 K31,.bool s31,.int .u64 M31,.int .i64 E31,.int .i64 K31b,.bool s31b,.int .u64 M31b,.int .i64 E31b] 32))).grownI Nb (by decide) G1
     replace HB:=ie (hB2.grown G1 hB2.size (fun k hk=>(Nb.own_lt k hk).1))
     clear N Nb G1 hB2 at1 X5;have hw8:=HW8.out;have hw9:=HW9.out;go_wp2;clear hw8 hw9
     go_roundw
     case rel=>exact ⟨k+1,i+1,_,_,_,rfl,rfl,(by have:=HIJ.out;omega),by rw[cr_yes HIJ.out HR.out];exact N',by omega,hk1,X1,HB.out⟩
     case measure=>
      have:=HIJ.out
      simp[intOf]
      omega
    ·have hpt:ptI i=mkI (opl (-1)) (opl (-1)):=by unfold ptI;rw[if_neg hpar]
     have HPT:=ie hpt.symm;clear hpt
     have han:bits .and .i64 i 1=1:=by rw[and_one];omega
     go_upto_region 8 with (fail)
     go_wp2_with fail
     refine(nOf (n:=(-1)) (r:=opl (-1)) _ (by decide) (by decide) rfl).mono ?_;rintro ee w7 ⟨K30,s30,M30,E30,rfl,q30,B⟩;replace X1:=X1.b B;replace N:=N.b B;replace HB:=Hqb HB B;clear B;clear han
     go_wp2_with fail
     refine(kvPoint q30.top q30.rk HPT.out).mono ?_;rintro ee w8 ⟨e31,K31,s31,M31,E31,K31b,s31b,M31b,E31b,rfl,v31,B⟩;replace X1:=X1.b B;replace N:=N.b B;replace HB:=Hqb HB B;clear B
     go_wp2_with (at_builtin;refine wpList_ia rfl _ _ rfl rfl rfl (N.below (bel1 _ _)) (Ia.lit (Bo.new _ _ _) v31) (by decide) (by omega) (Nat.le_trans HB.out.size (bel1 _ _).size) ?_)
     intro A5 d5 w9 N' G1 at1
     have hB2:=bt HB.out (bel1 _ (.cells #[.bool e31,.int .i64 K31,.bool s31,.int .u64 M31,.int .i64 E31,.int .i64 K31b,.bool s31b,.int .u64 M31b,.int .i64 E31b] 32));have Nb:=N.below (bel1 _ (.cells #[.bool e31,.int .i64 K31,.bool s31,.int .u64 M31,.int .i64 E31,.int .i64 K31b,.bool s31b,.int .u64 M31b,.int .i64 E31b] 32));replace X1:=(X1.below (bel1 _ (.cells #[.bool e31,.int .i64 K31,.bool s31,.int .u64 M31,.int .i64 E31,.int .i64 K31b,.bool s31b,.int .u64 M31b,.int .i64 E31b] 32))).grownI Nb (by decide) G1
     replace HB:=ie (hB2.grown G1 hB2.size (fun k hk=>(Nb.own_lt k hk).1))
     clear N Nb G1 hB2 at1 X5;have hw8:=HW8.out;have hw9:=HW9.out;go_wp2;clear hw8 hw9
     go_roundw
     case rel=>exact ⟨k+1,i+1,_,_,_,rfl,rfl,(by have:=HIJ.out;omega),by rw[cr_yes HIJ.out HR.out];exact N',by omega,hk1,X1,HB.out⟩
     case measure=>
      have:=HIJ.out
      simp[intOf]
      omega
def Nq (w:World)(A:Option Addr)(n c:Nat)(l:List Int):Prop:=
 l.length=n/\n<=c/\n<=1000/\(0 < n->∃b o,A=some ⟨b,o,none⟩/\∀k,k < n->∃D s M E,w.cell? ⟨b,o+k*4,none⟩=some (.int .i64 D)/\w.cell? ⟨b,o+k*4+1,none⟩=some (.bool s)/\w.cell? ⟨b,o+k*4+2,none⟩=some (.int .u64 M)/\w.cell? ⟨b,o+k*4+3,none⟩=some (.int .i64 E)/\Fq D s M E (l.getD k 0))
theorem Nq.below{w w':World}{A:Option Addr}{n c:Nat}{l:List Int}(h:Nq w A n c l)(hb:Below w.heap.size w w'):Nq w' A n c l:=by
 obtain⟨h1,h2,h3,h4⟩:=h
 refine⟨h1,h2,h3,fun hn=>?_⟩
 obtain⟨b,o,e,hc⟩:=h4 hn
 refine⟨b,o,e,fun k hk=>?_⟩
 obtain⟨K,s,M,E,c0,c1,c2,c3,q⟩:=hc k hk
 have t:∀{i:Nat} {v:Value},w.cell? ⟨b,i,none⟩=some v->w'.cell? ⟨b,i,none⟩=some v:=fun c=>(hb.cell (p:=⟨b,_,none⟩) (block_lt_of_cell c)).trans c
 exact⟨K,s,M,E,t c0,t c1,t c2,t c3,q⟩
abbrev Nq.b:= @Nq.below
theorem Nq.of2{w:World}{g:Nat}{K1 K2 M1 M2 E1 E2 r1 r2:Int}{s1 s2:Bool}(X:Bo w g #[.int .i64 K1,.bool s1,.int .u64 M1,.int .i64 E1,.int .i64 K2,.bool s2,.int .u64 M2,.int .i64 E2] 24)
  (q1:Fq K1 s1 M1 E1 r1) (q2:Fq K2 s2 M2 E2 r2):Nq w (some ⟨g,0,none⟩) 2 2 [r1,r2]:=by
 refine⟨rfl,Nat.le_refl _,by decide,fun _=>⟨_,0,rfl,fun k hk=>?_⟩⟩
 rcases (by omega:k=0\/k=1)with rfl | rfl
 ·exact⟨K1,s1,M1,E1,X.at rfl,X.at rfl,X.at rfl,X.at rfl,q1⟩
 ·exact⟨K2,s2,M2,E2,X.at rfl,X.at rfl,X.at rfl,X.at rfl,q2⟩
def Jo.Fact.nq (n:Nat)(l:List Int):Jo.Fact:=⟨fun v w=>∃A c,v= .slice A n c/\Nq w A n c l,fun v w w' h b=>by
 obtain⟨A,c,e,h⟩:=h;exact⟨A,c,e,h.below b⟩⟩
def Jo.Fact.ia (base n:Nat)(l:List Sp):Jo.Fact:=⟨fun v w=>∃A c,v= .slice A n c/\Ia w base A n c l,fun v w w' h b=>by
 obtain⟨A,c,e,h⟩:=h;exact⟨A,c,e,h.below b⟩⟩
def Jo.Fact.crs (base:Nat)(cos:Bool)(x y j:Int):Jo.Fact:=⟨fun v w=>∃k A n c,v= .slice A n c/\Ia w base A n c (crL cos x y j k)/\n<=6/\y < loZ (crZ cos (j+(k:Nat))),fun v w w' h b=>by
 obtain⟨k,A,n,c,e,h,p,q⟩:=h;exact⟨k,A,n,c,e,h.below b,p,q⟩⟩
def Jo.Fact.arc (a0 a1 a2 a3 a4 a5:Value)(x y:Int)(K:Nat):Jo.Fact:=⟨fun v w=>∃s1 A1 n1 c1 s2 A2 n2 c2,v= .agg #[a0,a1,a2,a3,a4,a5,.bool s1,.slice A1 n1 c1,.bool s2,.slice A2 n2 c2]/\Wn w s1 A1 n1 c1 x/\Wn w s2 A2 n2 c2 y/\n1<=K/\n2<=K,fun v w w' h b=>by
 obtain⟨s1,A1,n1,c1,s2,A2,n2,c2,e,p,q,k,l⟩:=h;exact⟨s1,A1,n1,c1,s2,A2,n2,c2,e,p.below b,q.below b,k,l⟩⟩
theorem Fq.nn{K:Int}{s:Bool}{M E r:Int}(h:Fq K s M E r):0<=M:=by
 rcases h.1 with⟨_,_,rfl,_⟩ | h | ⟨_,rfl,_⟩
 ·exact Int.le_refl _
 ·have:=h
  omega
 ·exact Int.le_refl _
theorem Bo.grownLt{w w':World}{g base:Nat}{a:Array Value}{T:TypeId}{A:Option Addr}(X:Bo w g a T)(hb:∀k,ownA A=some k->base<=k)(hg:g < base)(G:w.grownBy w' (ownA A)):Bo w' g a T:=
 X.keep (G.block g X.lt (fun e=>by have:=hb g (by first | exact e | exact e.symm);omega))
theorem take1{l:List Sp}{k:Nat}{z:Sp}(h:k < l.length)(hz:l.getD k none=z):l.take (k+1)=l.take k ++[z]:=by
 rw[List.take_succ_eq_append_getElem h,<-hz]
 simp[List.getD_eq_getElem?_getD,h]
theorem tEach{w:World}{fid:FuncId}{cos:Bool}{o:Int}{s1 s2:Bool}{A1 A2:Option Addr}{n1 c1 n2 c2:Nat}{A:Option Addr}{n c:Nat}{l:List Int}{zs:List Sp}(hT:Tab w)(hah:AhQ fid cos)(p1:Wn w s1 A1 n1 c1 PLo)(p2:Wn w s2 A2 n2 c2 PHi)(k1:n1<=7)(k2:n2<=7)(h:Nq w A n c l)(hz:zs.length=n)(hS:∀k,k < n->Sv cos (l.getD k 0) (zs.getD k none)):Calls Tryz.prog 150 #[.func (.func 71) #[.agg #[.func (.func fid) #[] #[],.int .i64 o,.bool s1,.slice A1 n1 c1,.bool s2,.slice A2 n2 c2]] #[],.slice A n c] w (fun e w'=>∃A2 c2,e= .returned (.slice A2 n c2)/\Ia w' w.heap.size A2 n c2 zs/\Below w.heap.size w w'):=by
 have HLn:=ie hz;have hcap:=h.2.1;have hbig:=h.2.2.1;have hD0:=h;have HAH:=ie hah;have HSS:=ie hS;clear h hz hah hS
 go_enter Tryz.func150,Tryz.ntmps150
 go_wp2
 go_loopw [5,10] (fun va i wr=>∃k A1 c1,k<=n/\va= .slice A1 k c1/\i= .int .i64 ((k:Nat):Int)/\Ia wr w.heap.size A1 k c1 (zs.take k)/\Below w.heap.size w wr) (fun _ i _=>n-(intOf i).toNat)
 case atStart=>exact ⟨0,_,_,Nat.zero_le _,rfl,rfl,Ia.nil _ _,Below.refl _ _⟩
 case round=>
  obtain⟨k,A3,c3,hk,rfl,rfl,N,hB⟩:=hrel;have HB:=ie hB;clear hB
  by_cases hlt:k < n
  ·have tlt:decide ((k:Int) < (n:Int))=true:=by simp;omega
   have h:=hD0.below HB.out;obtain⟨b,bo,rfl,hcell⟩:=h.2.2.2 (by omega);obtain⟨D,s,M,E,x0,x1,x2,x3,q⟩:=hcell k hlt;have hv:=HSS.out k hlt;clear hcell h hD0
   have i1:(k:Int) < n:=by omega
   have i2:(0:Int)<=k:=by omega
   obtain⟨z,hz⟩:∃z,zs.getD k none=z:=⟨_,rfl⟩;have htk:=take1 (by rw[HLn.out];exact hlt) hz;rw[hz]at hv;generalize l.getD k 0=x at *;generalize zs.take k=la at *;have HTK:=ie htk;have HV:=ie hv;clear htk hv hz HSS;have hsz:=HB.out.size
   go_upto_region 5 with (fail)
   clear x0 x1 x2 x3;generalize hWn:wr.alloc _=w3 at *;obtain⟨X5,BW⟩:=Bo.nw hWn;clear hWn;replace N:=N.b BW;replace HB:=Hqb HB BW;clear BW;have q1:=p1.below HB.out;have q2:=p2.below HB.out;have qT:=hT.below HB.out;have xX5:=X5.cell
   go_wp2_with fail
   refine(tAt qT HAH.out q1 q2 k1 k2 q.nn q.top q.rk HV.out).mono ?_;rintro ee w4 ⟨e31,K31,s31,M31,E31,K31b,s31b,M31b,E31b,rfl,v31,B⟩;clear xX5;replace N:=N.b B;replace HB:=Hqb HB B;clear B;clear q1 q2 qT
   go_wp2_with (at_builtin;refine wpList_ia rfl _ _ rfl rfl rfl (N.below (bel1 _ _)) (Ia.lit (Bo.new _ _ _) v31) (by decide) (by omega) (Nat.le_trans HB.out.size (bel1 _ _).size) ?_)
   intro A5 d5 w9 N' G1 at1
   have hB2:=bt HB.out (bel1 _ (.cells #[.bool e31,.int .i64 K31,.bool s31,.int .u64 M31,.int .i64 E31,.int .i64 K31b,.bool s31b,.int .u64 M31b,.int .i64 E31b] 32));have Nb:=N.below (bel1 _ (.cells #[.bool e31,.int .i64 K31,.bool s31,.int .u64 M31,.int .i64 E31,.int .i64 K31b,.bool s31b,.int .u64 M31b,.int .i64 E31b] 32))
   replace HB:=ie (hB2.grown G1 hB2.size (fun k hk=>(Nb.own_lt k hk).1))
   clear N Nb G1 hB2 at1 X5;go_wp2
   go_roundw
   case rel=>exact ⟨k+1,_,_,by omega,rfl,by go_num,by rw[HTK.out];exact N',HB.out⟩
   case measure=>simp [intOf];omega
  ·obtain rfl:k=n:=by omega
   have tlt:decide ((k:Int) < (k:Int))=false:=by simp
   have e1:zs.take k=zs:=List.take_of_length_le (by rw[HLn.out];omega)
   rw[e1]at N;go_wp2
   go_ret
   exact⟨_,_,rfl,N,HB.out⟩
theorem tAroundB{w:World}{D D' M M' E E':Int}{s s':Bool}{a b ga gb:Int}{nb:Bool}(hT:Tab w)(h0:0<=M)(hM:M < 18446744073709551616)(h0':0<=M')(hM':M' < 18446744073709551616)(ha:rk D s M E=a)(hb:rk D' s' M' E'=b)(hga:fixI a=ga)(hgb:fixI b=gb)(hn:(fixB a && fixB b)=nb):Calls Tryz.prog 137 #[.agg #[.int .i64 D,.bool s,.int .u64 M,.int .i64 E],.agg #[.int .i64 D',.bool s',.int .u64 M',.int .i64 E']] w (PSB w 140010 ga (gb+1) nb):=hn▸tAround hT h0 hM h0' hM' ha hb hga hgb rfl rfl
theorem meetOne{x:Sp}(hx:SpOk x):meetL [x]=x:=meet_all hx
theorem cmp_ge13{x y c:Int}(h:cmpI x y=c):decide (0<=c)=decide (y<=x):=by
 rw[<-h]
 by_cases e:y<=x
 ·rw[dt e]
  exact dt (by rcases cmpI_tri x y with⟨a,b⟩ | ⟨a,b⟩ | ⟨a,b⟩ <;> rw[b] <;> omega)
 ·rw[df e]
  exact df (by rcases cmpI_tri x y with⟨a,b⟩ | ⟨a,b⟩ | ⟨a,b⟩ <;> rw[b] <;> omega)
theorem tover_none{w:World}{fid:FuncId}{cos:Bool}{o:Int}{s1 s2:Bool}{A1 A2:Option Addr}{n1 c1 n2 c2:Nat}{e:Bool}{D M E D' M' E':Int}{s s':Bool}(hT:Tab w)(hT2:Tb w)(hah:AhQ fid cos)(p1:Wn w s1 A1 n1 c1 PLo)(p2:Wn w s2 A2 n2 c2 PHi)(k1:n1<=7)(k2:n2<=7)(hM:LQ M)(hM':LQ M')(hx:rkI e D s M E D' s' M' E'=none):Calls Tryz.prog 74 #[.agg #[.func (.func fid) #[] #[],.int .i64 o,.bool s1,.slice A1 n1 c1,.bool s2,.slice A2 n2 c2],VI e D s M E D' s' M' E'] w (PV w none):=by
 delta VI
 have hml:meetL [none]=none:=meetOne (by rw[<-hx];exact rkI_ok hM hM')
 have HX:=ie hx;have HML:=ie hml;have HAH:=ie hah;clear hx hml hah
 go_enter Tryz.func74,Tryz.ntmps74
 go_upto_region 1 with (fail)
 generalize hW1:((w.alloc _).alloc _).alloc _=w1 at *;obtain⟨X2,X3,XR,HB⟩:=Bo.en3 hW1;clear hW1;have xX3:=X3.cell
 go_wp2_with fail
 refine(kvMeet (Il8.lit1 rfl ⟨hM,hM',HX.out⟩) HML.out).mono ?_;rintro ee w2 ⟨e10,K10,s10,M10,E10,K10b,s10b,M10b,E10b,rfl,v10,B⟩;replace B:=bt (bel1 _ (.cells #[.bool e,.int .i64 D,.bool s,.int .u64 M,.int .i64 E,.int .i64 D',.bool s',.int .u64 M',.int .i64 E'] 32)) B;clear xX3;replace X3:=X3.b B;replace XR:=XR.b B;replace HB:=Hqb HB B
 clear B;have xX3:=X3.cell;have zX30:=X3.frozen
 go_upto_region 2 with (fail)
 clear xX3 zX30;generalize hS:((((((((w2.setCell _ _).setCell _ _).setCell _ _).setCell _ _).setCell _ _).setCell _ _).setCell _ _).setCell _ _).setCell _ _=w3 at *;have SX:=StN.of9 X3 hS;replace XR:=XR.s SX;replace HB:=Hqs HB SX (by omega);replace X3:=SX.box;clear SX hS;obtain⟨rfl,rfl,rfl,rfl,rfl,rfl,rfl,rfl,rfl⟩:=v10.uniq Ci.none
 clear v10;refine jk [0,1,2] [some 11,some 12,some 13] [[],[],[0,1]] 3 0 [Jo.q9 true 0 false 0 0 0 false 0 0,Jo.q9 true 0 false 0 0 0 false 0 0,Jo.qb true] ?_ ?_
 ·refine jm ?_ ?_
  ·rintro wj hJ K hK;simp only[Jo.z]at hK|-;have xX3:=(X3.b hJ).cell;go_simp;exact hK.out _ _ rfl (br _ _)
  refine jm ?_ ?_
  ·rintro wj hJ K hK;simp only[Jo.z]at hK|-;go_simp;refine(kvNoneE).mono ?_;rintro ee wk ⟨rfl,B⟩;exact hK.out _ _ rfl B
  refine jm ?_ ?_
  ·rintro wj hJ _ rfl _ rfl K hK;simp only[Jo.z]at hK|-;go_simp
   repeat' split
   all_goals exact hK.out _ _ (congrArg Value.bool (by first | rfl | (exfalso;simp_all) | simp_all)) (br _ _)
  exact jo
 rintro w4 hJ _ rfl _ rfl _ rfl -;simp only[Jo.z];replace X3:=X3.b hJ;replace XR:=XR.b hJ;replace HB:=Hqb HB hJ;refine jd ?_;clear hT hT2 p1 p2;have xXR:=XR.cell;have zXR0:=XR.frozen;have xX3:=X3.cell;go_wp2;clear xXR zXR0 xX3
 have SX:=StN.t9 XR true 0 false 0 0 0 false 0 0;exact bq (by simp[results,Tryz.results74,go_sem,SX.box.cell]) rfl ⟨_,_,_,_,_,_,_,_,_,rfl,Ci.none,(SX.below HB.out (by omega))⟩
theorem tover_far{w:World}{fid:FuncId}{cos:Bool}{o:Int}{s1 s2:Bool}{A1 A2:Option Addr}{n1 c1 n2 c2:Nat}{e:Bool}{D M E D' M' E':Int}{s s':Bool}(hT:Tab w)(hT2:Tb w)(hah:AhQ fid cos)(p1:Wn w s1 A1 n1 c1 PLo)(p2:Wn w s2 A2 n2 c2 PHi)(k1:n1<=7)(k2:n2<=7)(hM:LQ M)(hM':LQ M'){a b:Int}(hn:(fixB a && fixB b)=false)(hx:rkI e D s M E D' s' M' E'=(some (a,b))):Calls Tryz.prog 74 #[.agg #[.func (.func fid) #[] #[],.int .i64 o,.bool s1,.slice A1 n1 c1,.bool s2,.slice A2 n2 c2],VI e D s M E D' s' M' E'] w (PV w unitI):=by
 delta VI
 have hml:meetL [(some (a,b))]=(some (a,b)):=meetOne (by rw[<-hx];exact rkI_ok hM hM')
 have HX:=ie hx;have HML:=ie hml;have HAH:=ie hah;clear hx hml hah;obtain⟨ga,hga⟩:∃g,fixI a=g:=⟨_,rfl⟩;obtain⟨gb,hgb⟩:∃g,fixI b=g:=⟨_,rfl⟩;have HGA:=ie hga;have HGB:=ie hgb;have HN:=ie hn;clear hga hgb hn
 go_enter Tryz.func74,Tryz.ntmps74
 go_upto_region 1 with (fail)
 generalize hW1:((w.alloc _).alloc _).alloc _=w1 at *;obtain⟨X2,X3,XR,HB⟩:=Bo.en3 hW1;replace hT:=hT.below HB.out;clear hW1;have xX3:=X3.cell
 go_wp2_with fail
 refine(kvMeet (Il8.lit1 rfl ⟨hM,hM',HX.out⟩) HML.out).mono ?_;rintro ee w2 ⟨e10,K10,s10,M10,E10,K10b,s10b,M10b,E10b,rfl,v10,B⟩;replace B:=bt (bel1 _ (.cells #[.bool e,.int .i64 D,.bool s,.int .u64 M,.int .i64 E,.int .i64 D',.bool s',.int .u64 M',.int .i64 E'] 32)) B;clear xX3;replace X3:=X3.b B;replace XR:=XR.b B;replace hT:=hT.b B
 replace HB:=Hqb HB B;clear B;have xX3:=X3.cell;have zX30:=X3.frozen
 go_upto_region 2 with (fail)
 clear xX3 zX30;generalize hS:((((((((w2.setCell _ _).setCell _ _).setCell _ _).setCell _ _).setCell _ _).setCell _ _).setCell _ _).setCell _ _).setCell _ _=w3 at *;have SX:=StN.of9 X3 hS;replace XR:=XR.s SX;replace hT:=hT.s SX;replace HB:=Hqs HB SX (by omega);replace X3:=SX.box;clear SX hS
 obtain rfl:e10=false:=v10.1
 refine jk [0,1,2] [some 11,some 12,some 13] [[],[],[0,1]] 3 0 [Jo.q9 false K10 s10 M10 E10 K10b s10b M10b E10b,Jo.q9 true 0 false 0 0 0 false 0 0,Jo.qb false] ?_ ?_
 ·refine jm ?_ ?_
  ·rintro wj hJ K hK;simp only[Jo.z]at hK|-;have xX3:=(X3.b hJ).cell;go_simp;exact hK.out _ _ rfl (br _ _)
  refine jm ?_ ?_
  ·rintro wj hJ K hK;simp only[Jo.z]at hK|-;go_simp;refine(kvNoneE).mono ?_;rintro ee wk ⟨rfl,B⟩;exact hK.out _ _ rfl B
  refine jm ?_ ?_
  ·rintro wj hJ _ rfl _ rfl K hK;simp only[Jo.z]at hK|-;go_simp
   repeat' split
   all_goals exact hK.out _ _ (congrArg Value.bool (by first | rfl | (exfalso;simp_all))) (br _ _)
  exact jo
 rintro w4 hJ _ rfl _ rfl _ rfl -;simp only[Jo.z];replace X3:=X3.b hJ;replace XR:=XR.b hJ;replace hT:=hT.b hJ;replace HB:=Hqb HB hJ;refine jd ?_;obtain⟨_,qa,qb,oab,oa,ob⟩:=v10
 have v10:Ci false K10 s10 M10 E10 K10b s10b M10b E10b (some (a,b)):=⟨rfl,qa,qb,oab,oa,ob⟩
 go_upto_region 4 with (fail)
 have xX3:=X3.cell
 go_wp2_with fail
 refine(tAroundB hT qa.nn qa.top qb.nn qb.top qa.rk qb.rk HGA.out HGB.out HN.out).mono ?_;rintro ee w5 ⟨s20,A20,n20,c20,s21,A21,n21,c21,rfl,p20,p21,k20,k21,B⟩;clear xX3;replace XR:=XR.b B;replace HB:=Hqb HB B;clear B
 go_upto_region 5 with (fail)
 have nX5XR:=XR.lt;generalize hWn:w5.alloc _=w6 at *;obtain⟨X5,BW⟩:=Bo.nw hWn;clear hWn;replace XR:=XR.b BW;replace HB:=Hqb HB BW;clear BW;clear p20 p21 p1 p2 hT hT2
 go_wp2_with fail
 refine(tUnit).mono ?_;rintro ee w7 ⟨e40,K40,s40,M40,E40,K40b,s40b,M40b,E40b,rfl,v40,B⟩;replace XR:=XR.b B;replace HB:=Hqb HB B;clear B;have xXR:=XR.cell;have zXR0:=XR.frozen;go_wp2;clear xXR zXR0;have SX:=StN.t9 XR e40 K40 s40 M40 E40 K40b s40b M40b E40b
 exact bq (by simp[results,Tryz.results74,go_sem,SX.box.cell]) rfl ⟨_,_,_,_,_,_,_,_,_,rfl,v40,(SX.below HB.out (by omega))⟩
theorem tover_wide{w:World}{fid:FuncId}{cos:Bool}{o:Int}{s1 s2:Bool}{A1 A2:Option Addr}{n1 c1 n2 c2:Nat}{e:Bool}{D M E D' M' E':Int}{s s':Bool}(hT:Tab w)(hT2:Tb w)(hah:AhQ fid cos)(p1:Wn w s1 A1 n1 c1 PLo)(p2:Wn w s2 A2 n2 c2 PHi)(k1:n1<=7)(k2:n2<=7)(hM:LQ M)(hM':LQ M'){a b:Int}(hn:(fixB a && fixB b)=true)(hw:decide (opl 7<=widI (some (a,b)))=true)(hx:rkI e D s M E D' s' M' E'=(some (a,b))):Calls Tryz.prog 74 #[.agg #[.func (.func fid) #[] #[],.int .i64 o,.bool s1,.slice A1 n1 c1,.bool s2,.slice A2 n2 c2],VI e D s M E D' s' M' E'] w (PV w unitI):=by
 delta VI
 have hml:meetL [(some (a,b))]=(some (a,b)):=meetOne (by rw[<-hx];exact rkI_ok hM hM')
 have HX:=ie hx;have HML:=ie hml;have HAH:=ie hah;clear hx hml hah;obtain⟨ga,hga⟩:∃g,fixI a=g:=⟨_,rfl⟩;obtain⟨gb,hgb⟩:∃g,fixI b=g:=⟨_,rfl⟩;have HGA:=ie hga;have HGB:=ie hgb;clear hga hgb;obtain⟨wd,hwd⟩:∃u,widI (some (a,b))=u:=⟨_,rfl⟩;obtain⟨σ,hσ⟩:∃σ,cmpI wd (opl 7)=σ:=⟨_,rfl⟩;have e1:=cmp_ge13 hσ;rw[hwd]at hw
 rw[hw]at e1;have HWD:=ie hwd;have HS:=ie hσ;have HE1:=ie e1;have HN:=ie hn;clear hwd hσ e1 hn;clear hw
 go_enter Tryz.func74,Tryz.ntmps74
 go_upto_region 1 with (fail)
 generalize hW1:((w.alloc _).alloc _).alloc _=w1 at *;obtain⟨X2,X3,XR,HB⟩:=Bo.en3 hW1;replace hT:=hT.below HB.out;replace hT2:=hT2.below HB.out;clear hW1;have xX3:=X3.cell
 go_wp2_with fail
 refine(kvMeet (Il8.lit1 rfl ⟨hM,hM',HX.out⟩) HML.out).mono ?_;rintro ee w2 ⟨e10,K10,s10,M10,E10,K10b,s10b,M10b,E10b,rfl,v10,B⟩;replace B:=bt (bel1 _ (.cells #[.bool e,.int .i64 D,.bool s,.int .u64 M,.int .i64 E,.int .i64 D',.bool s',.int .u64 M',.int .i64 E'] 32)) B;clear xX3;replace X3:=X3.b B;replace XR:=XR.b B;replace hT:=hT.b B
 replace hT2:=hT2.b B;replace HB:=Hqb HB B;clear B;have xX3:=X3.cell;have zX30:=X3.frozen
 go_upto_region 2 with (fail)
 clear xX3 zX30;generalize hS:((((((((w2.setCell _ _).setCell _ _).setCell _ _).setCell _ _).setCell _ _).setCell _ _).setCell _ _).setCell _ _).setCell _ _=w3 at *;have SX:=StN.of9 X3 hS;replace XR:=XR.s SX;replace hT:=hT.s SX;replace hT2:=hT2.s SX;replace HB:=Hqs HB SX (by omega)
 replace X3:=SX.box;clear SX hS
 obtain rfl:e10=false:=v10.1
 refine jk [0,1,2] [some 11,some 12,some 13] [[],[],[0,1]] 3 0 [Jo.q9 false K10 s10 M10 E10 K10b s10b M10b E10b,Jo.q9 true 0 false 0 0 0 false 0 0,Jo.qb false] ?_ ?_
 ·refine jm ?_ ?_
  ·rintro wj hJ K hK;simp only[Jo.z]at hK|-;have xX3:=(X3.b hJ).cell;go_simp;exact hK.out _ _ rfl (br _ _)
  refine jm ?_ ?_
  ·rintro wj hJ K hK;simp only[Jo.z]at hK|-;go_simp;refine(kvNoneE).mono ?_;rintro ee wk ⟨rfl,B⟩;exact hK.out _ _ rfl B
  refine jm ?_ ?_
  ·rintro wj hJ _ rfl _ rfl K hK;simp only[Jo.z]at hK|-;go_simp
   repeat' split
   all_goals exact hK.out _ _ (congrArg Value.bool (by first | rfl | (exfalso;simp_all))) (br _ _)
  exact jo
 rintro w4 hJ _ rfl _ rfl _ rfl -;simp only[Jo.z];replace X3:=X3.b hJ;replace XR:=XR.b hJ;replace hT:=hT.b hJ;replace hT2:=hT2.b hJ;replace HB:=Hqb HB hJ;refine jd ?_;obtain⟨_,qa,qb,oab,oa,ob⟩:=v10
 have v10:Ci false K10 s10 M10 E10 K10b s10b M10b E10b (some (a,b)):=⟨rfl,qa,qb,oab,oa,ob⟩
 go_upto_region 4 with (fail)
 have xX3:=X3.cell
 go_wp2_with fail
 refine(tAroundB hT qa.nn qa.top qb.nn qb.top qa.rk qb.rk HGA.out HGB.out HN.out).mono ?_;rintro ee w5 ⟨s20,A20,n20,c20,s21,A21,n21,c21,rfl,p20,p21,k20,k21,B⟩;clear xX3;replace X3:=X3.b B;replace XR:=XR.b B;replace hT2:=hT2.b B;replace HB:=Hqb HB B;clear B
 go_upto_region 5 with (fail)
 have nX5X3:=X3.lt;have nX5XR:=XR.lt;generalize hWn:w5.alloc _=w6 at *;obtain⟨X5,BW⟩:=Bo.nw hWn;clear hWn;replace X3:=X3.b BW;replace XR:=XR.b BW;replace hT2:=hT2.b BW;replace HB:=Hqb HB BW;clear BW;have e1:=HE1.out;have xX3:=X3.cell
 go_wp2_with fail
 refine(kvWidth hT2 v10.top.1 v10.top.2 v10.rk HWD.out).mono ?_;rintro ee w7 ⟨K30,s30,M30,E30,rfl,q30,B⟩;clear xX3;replace XR:=XR.b B;replace HB:=Hqb HB B;clear B
 go_wp2_with fail
 refine(nOf (n:=7) (r:=opl 7) _ (by decide) (by decide) rfl).mono ?_;rintro ee w8 ⟨K31,s31,M31,E31,rfl,q31,B⟩;replace XR:=XR.b B;replace HB:=Hqb HB B;clear B
 go_wp2_with fail
 refine(nCmp (z:=σ) q30.top q31.top (by rw[q30.rk,q31.rk];exact HS.out)).mono ?_;rintro ee w9 ⟨rfl,B⟩;replace XR:=XR.b B;replace HB:=Hqb HB B;clear B;clear p20 p21 p1 p2 hT hT2
 go_wp2_with fail
 refine(tUnit).mono ?_;rintro ee wA ⟨e40,K40,s40,M40,E40,K40b,s40b,M40b,E40b,rfl,v40,B⟩;replace XR:=XR.b B;replace HB:=Hqb HB B;clear B;have xXR:=XR.cell;have zXR0:=XR.frozen;go_wp2;clear xXR zXR0;have SX:=StN.t9 XR e40 K40 s40 M40 E40 K40b s40b M40b E40b
 exact bq (by simp[results,Tryz.results74,go_sem,SX.box.cell]) rfl ⟨_,_,_,_,_,_,_,_,_,rfl,v40,(SX.below HB.out (by omega))⟩
theorem tover_in{w:World}{fid:FuncId}{cos:Bool}{o:Int}{s1 s2:Bool}{A1 A2:Option Addr}{n1 c1 n2 c2:Nat}{e:Bool}{D M E D' M' E':Int}{s s':Bool}(hT:Tab w)(hT2:Tb w)(hah:AhQ fid cos)(p1:Wn w s1 A1 n1 c1 PLo)(p2:Wn w s2 A2 n2 c2 PHi)(k1:n1<=7)(k2:n2<=7)(hM:LQ M)(hM':LQ M'){a b ga gb x y j:Int}{za zb Z:Sp}(hn:(fixB a && fixB b)=true)(hw:decide (opl 7<=widI (some (a,b)))=false)(hga:fixI a=ga)(hgb:fixI b=gb)(fa:ga.natAbs < 4294967296^10)(fb:(gb+1).natAbs < 4294967296^11)(ho:odd1 cos=o)(hx1:2*ga=x)(hy1:2*(gb+1)=y)(hj:x.fdiv (2*PLo)=j)(j1: -1099511627776<=j)(j2:j<=1099511627776)(hst:y < loZ (crZ cos (j+6)))(hza:Sv cos a za)(hzb:Sv cos b zb)(hall:∀k:Nat,y < loZ (crZ cos (j+k))->hullL (crL cos x y j k ++[za,zb])=Z)(hx:rkI e D s M E D' s' M' E'=(some (a,b))):Calls Tryz.prog 74 #[.agg #[.func (.func fid) #[] #[],.int .i64 o,.bool s1,.slice A1 n1 c1,.bool s2,.slice A2 n2 c2],VI e D s M E D' s' M' E'] w (PV w Z):=by
 delta VI
 have hml:meetL [(some (a,b))]=(some (a,b)):=meetOne (by rw[<-hx];exact rkI_ok hM hM')
 have HX:=ie hx;have HML:=ie hml;have HAH:=ie hah;clear hx hml hah;obtain⟨wd,hwd⟩:∃u,widI (some (a,b))=u:=⟨_,rfl⟩;obtain⟨σ,hσ⟩:∃σ,cmpI wd (opl 7)=σ:=⟨_,rfl⟩;have e1:=cmp_ge13 hσ;rw[hwd]at hw;rw[hw]at e1;have HWD:=ie hwd;have HS:=ie hσ;have HE1:=ie e1;have HN:=ie hn;clear hwd hσ e1 hn;clear hw;have HGA:=ie hga
 have HGB:=ie hgb;have HFA:=ie fa;have HFB:=ie fb;have HO:=ie ho;have HX1:=ie hx1;have HY1:=ie hy1;have HJ:=ie hj;have HST:=ie hst;have HZA:=ie hza;have HZB:=ie hzb;have HALL:=ie hall;clear hga hgb fa fb ho hx1 hy1 hj hst hza hzb hall
 have HSV:Hid (∀k,k < 2->Sv cos ([a,b].getD k 0) ([za,zb].getD k none)):=ie (fun k hk=>by
  rcases (by omega:k=0\/k=1)with rfl | rfl
  ·exact HZA.out
  ·exact HZB.out)
 go_enter Tryz.func74,Tryz.ntmps74
 go_upto_region 1 with (fail)
 generalize hW1:((w.alloc _).alloc _).alloc _=w1 at *;obtain⟨X2,X3,XR,HB⟩:=Bo.en3 hW1;replace hT:=hT.below HB.out;replace hT2:=hT2.below HB.out;replace p1:=p1.below HB.out;replace p2:=p2.below HB.out;clear hW1;have xX3:=X3.cell
 go_wp2_with fail
 refine(kvMeet (Il8.lit1 rfl ⟨hM,hM',HX.out⟩) HML.out).mono ?_;rintro ee w2 ⟨e10,K10,s10,M10,E10,K10b,s10b,M10b,E10b,rfl,v10,B⟩;replace B:=bt (bel1 _ (.cells #[.bool e,.int .i64 D,.bool s,.int .u64 M,.int .i64 E,.int .i64 D',.bool s',.int .u64 M',.int .i64 E'] 32)) B;clear xX3;replace X2:=X2.b B;replace X3:=X3.b B;replace XR:=XR.b B
 replace hT:=hT.b B;replace hT2:=hT2.b B;replace p1:=p1.b B;replace p2:=p2.b B;replace HB:=Hqb HB B;clear B;have xX3:=X3.cell;have zX30:=X3.frozen
 go_upto_region 2 with (fail)
 clear xX3 zX30;generalize hS:((((((((w2.setCell _ _).setCell _ _).setCell _ _).setCell _ _).setCell _ _).setCell _ _).setCell _ _).setCell _ _).setCell _ _=w3 at *;have SX:=StN.of9 X3 hS;replace X2:=X2.s SX;replace XR:=XR.s SX;replace hT:=hT.s SX;replace hT2:=hT2.s SX;replace p1:=p1.s SX
 replace p2:=p2.s SX;replace HB:=Hqs HB SX (by omega);replace X3:=SX.box;clear SX hS
 obtain rfl:e10=false:=v10.1
 refine jk [0,1,2] [some 11,some 12,some 13] [[],[],[0,1]] 3 0 [Jo.q9 false K10 s10 M10 E10 K10b s10b M10b E10b,Jo.q9 true 0 false 0 0 0 false 0 0,Jo.qb false] ?_ ?_
 ·refine jm ?_ ?_
  ·rintro wj hJ K hK;simp only[Jo.z]at hK|-;have xX3:=(X3.b hJ).cell;go_simp;exact hK.out _ _ rfl (br _ _)
  refine jm ?_ ?_
  ·rintro wj hJ K hK;simp only[Jo.z]at hK|-;go_simp;refine(kvNoneE).mono ?_;rintro ee wk ⟨rfl,B⟩;exact hK.out _ _ rfl B
  refine jm ?_ ?_
  ·rintro wj hJ _ rfl _ rfl K hK;simp only[Jo.z]at hK|-;go_simp
   repeat' split
   all_goals exact hK.out _ _ (congrArg Value.bool (by first | rfl | (exfalso;simp_all))) (br _ _)
  exact jo
 rintro w4 hJ _ rfl _ rfl _ rfl -;simp only[Jo.z];replace X2:=X2.b hJ;replace X3:=X3.b hJ;replace XR:=XR.b hJ;replace hT:=hT.b hJ;replace hT2:=hT2.b hJ;replace p1:=p1.b hJ;replace p2:=p2.b hJ;replace HB:=Hqb HB hJ;refine jd ?_;obtain⟨_,qa,qb,oab,oa,ob⟩:=v10
 have v10:Ci false K10 s10 M10 E10 K10b s10b M10b E10b (some (a,b)):=⟨rfl,qa,qb,oab,oa,ob⟩
 go_upto_region 4 with (fail)
 have xX3:=X3.cell
 go_wp2_with fail
 refine(tAroundB hT qa.nn qa.top qb.nn qb.top qa.rk qb.rk HGA.out HGB.out HN.out).mono ?_;rintro ee w5 ⟨s20,A20,n20,c20,s21,A21,n21,c21,rfl,p20,p21,k20,k21,B⟩;clear xX3;replace X2:=X2.b B;replace X3:=X3.b B;replace XR:=XR.b B;replace hT:=hT.b B;replace hT2:=hT2.b B;replace p1:=p1.b B;replace p2:=p2.b B
 replace HB:=Hqb HB B;clear B
 go_upto_region 5 with (fail)
 have nX5X2:=X2.lt;have nX5X3:=X3.lt;have nX5XR:=XR.lt;generalize hWn:w5.alloc _=w6 at *;obtain⟨X5,BW⟩:=Bo.nw hWn;clear hWn;replace X2:=X2.b BW;replace X3:=X3.b BW;replace XR:=XR.b BW;replace hT:=hT.b BW;replace hT2:=hT2.b BW;replace p1:=p1.b BW;replace p2:=p2.b BW;replace p20:=p20.b BW;replace p21:=p21.b BW;replace HB:=Hqb HB BW
 clear BW;have e1:=HE1.out;have xX3:=X3.cell
 go_wp2_with fail
 refine(kvWidth hT2 v10.top.1 v10.top.2 v10.rk HWD.out).mono ?_;rintro ee w7 ⟨K30,s30,M30,E30,rfl,q30,B⟩;clear xX3;replace X2:=X2.b B;replace X3:=X3.b B;replace XR:=XR.b B;replace X5:=X5.b B;replace hT:=hT.b B;replace p1:=p1.b B;replace p2:=p2.b B;replace p20:=p20.b B;replace p21:=p21.b B
 replace HB:=Hqb HB B;clear B
 go_wp2_with fail
 refine(nOf (n:=7) (r:=opl 7) _ (by decide) (by decide) rfl).mono ?_;rintro ee w8 ⟨K31,s31,M31,E31,rfl,q31,B⟩;replace X2:=X2.b B;replace X3:=X3.b B;replace XR:=XR.b B;replace X5:=X5.b B;replace hT:=hT.b B;replace p1:=p1.b B;replace p2:=p2.b B;replace p20:=p20.b B;replace p21:=p21.b B;replace HB:=Hqb HB B;clear B
 go_wp2_with fail
 refine(nCmp (z:=σ) q30.top q31.top (by rw[q30.rk,q31.rk];exact HS.out)).mono ?_;rintro ee w9 ⟨rfl,B⟩;replace X2:=X2.b B;replace X3:=X3.b B;replace XR:=XR.b B;replace X5:=X5.b B;replace hT:=hT.b B;replace p1:=p1.b B;replace p2:=p2.b B;replace p20:=p20.b B;replace p21:=p21.b B;replace HB:=Hqb HB B;clear B;have few1:=p20.fits HFA.out
 have few2:=p21.fits HFB.out;clear hT2 q30 q31
 go_upto_region 7 with (fail)
 clear e1;have ltX2:=X2.lt;have ltX3:=X3.lt;have ltXR:=XR.lt;have ltX5:=X5.lt;have hszA:=HB.out.size;refine jk [0,1,2,3,4,5] [some 33,some 34,some 35,some 36,some 37,some 7,none] [[],[],[],[1,2],[0,3],[],[]] 7 1 [Jo.Fact.eq (.agg #[.func (.func fid) #[] #[],.int .i64 o,.bool s1,.slice A1 n1 c1,.bool s2,.slice A2 n2 c2]),Jo.Fact.eq (.agg #[.bool s20,.slice A20 n20 c20,.bool s21,.slice A21 n21 c21]),Jo.Fact.wn (2) (2),Jo.Fact.sp (x) (y) (30),Jo.Fact.arc (.func (.func fid) #[] #[]) (.int .i64 o) (.bool s1) (.slice A1 n1 c1) (.bool s2) (.slice A2 n2 c2) x y 30,Jo.Fact.bo w9.heap.size #[.nilFunc,.int .i64 0,.bool false,.slice none 0 0,.bool false,.slice none 0 0,.bool false,.slice none 0 0,.bool false,.slice none 0 0] 113,Jo.Fact.any] ?_ ?_
 ·iterate 2 (refine jm ?_ ?_;rotate_left)
  refine jm ?_ ?_
  ·rintro wj hJ K hK;simp only[Jo.z]at hK|-;go_simp;exact Jo.w1 (wFrom 2 _ (by decide) (by decide)) hK.out
  refine jm ?_ ?_
  ·rintro wj hJ _ rfl _ ⟨s40,A40,n40,c40,rfl,p40,k40⟩ K hK;simp only[Jo.z]at hK|-;go_simp;refine(tTimes (L:=11) (Z:=30) (p20.b hJ) (p21.b hJ) p40 (by omega) (by omega) (by omega) (by omega) (by omega) HX1.out HY1.out).mono ?_;rintro ee wk ⟨s41,A41,n41,c41,s42,A42,n42,c42,rfl,p41,p42,k41,k42,B⟩;exact hK.out _ _ ⟨s41,A41,n41,c41,s42,A42,n42,c42,rfl,p41,p42,k41,k42⟩ B
  refine jm ?_ ?_
  ·rintro wj hJ _ rfl _ ⟨s41,A41,n41,c41,s42,A42,n42,c42,rfl,p41,p42,k41,k42⟩ K hK;simp only[Jo.z]at hK|-;go_simp;exact hK.out _ _ ⟨_,_,_,_,_,_,_,_,rfl,p41,p42,k41,k42⟩ (br _ _)
  refine jm ?_ ?_
  ·rintro wj hJ K hK;simp only[Jo.z]at hK|-;go_simp;exact hK.out _ _ ⟨_,rfl,hJ.size,Bo.new _ _ _⟩ (bel1 _ _)
  exact jo
  all_goals (rintro wj hJ;(repeat rintro _ rfl);intro K hK;simp only[Jo.z]at hK|-;have xX2:=(X2.b hJ).cell;have xX5:=(X5.b hJ).cell;go_simp;exact hK.out _ _ rfl (br _ _))
 rintro wA hJ _ rfl _ rfl _ ⟨s40,A40,n40,c40,rfl,p40,k40⟩ _ ⟨s41,A41,n41,c41,s42,A42,n42,c42,rfl,p41,p42,k41,k42⟩ _ ⟨s45,A45,n45,c45,s46,A46,n46,c46,rfl,p45,p46,k45,k46⟩ _ ⟨g7,rfl,hg7,X7⟩ -;simp only[Jo.z];replace X3:=X3.b hJ;replace XR:=XR.b hJ;replace hT:=hT.b hJ;replace p1:=p1.b hJ;replace p2:=p2.b hJ;replace HB:=Hqb HB hJ
 clear p40 p41 p42 p20 p21 X5 X2;have xX7:=X7.cell;have zX70:=X7.frozen
 refine jn 6 fun K hK=>?_
 go_simp;refine hK.out _ _ ?_;clear hK K xX7 zX70;generalize hS:(((((((((wA.setCell _ _).setCell _ _).setCell _ _).setCell _ _).setCell _ _).setCell _ _).setCell _ _).setCell _ _).setCell _ _).setCell _ _=wB at *;have SX:=StN.of10 X7 hS;replace X3:=X3.s SX;replace XR:=XR.s SX;replace hT:=hT.s SX
 replace p1:=p1.s SX;replace p2:=p2.s SX;replace p45:=p45.s SX;replace p46:=p46.s SX;replace HB:=Hqs HB SX (by omega);replace X7:=SX.box;clear SX hS;refine jd ?_
 go_upto_region 8 with (fail)
 have ltX3:=X3.lt;have ltXR:=XR.lt;have ltX7:=X7.lt;have hszB:=HB.out.size;refine jk [0,1,2,3,4,5,6,7,8,9,10] [some 38,some 39,some 40,some 41,some 42,some 43,some 44,some 45,some 46,some 47,some 48,some 49,some 50,none] [[],[0],[],[2],[3],[],[5],[],[7],[6,8],[4,9],[],[],[]] 14 3 [Jo.Fact.eq (.agg #[.func (.func fid) #[] #[],.int .i64 o,.bool s1,.slice A1 n1 c1,.bool s2,.slice A2 n2 c2,.bool s45,.slice A45 n45 c45,.bool s46,.slice A46 n46 c46]),Jo.Fact.crs wB.heap.size cos x y j,Jo.qp g7 0,Jo.Fact.eq (.agg #[.func (.func fid) #[] #[],.int .i64 o,.bool s1,.slice A1 n1 c1,.bool s2,.slice A2 n2 c2]),Jo.Fact.eq (.func (.func 71) #[.agg #[.func (.func fid) #[] #[],.int .i64 o,.bool s1,.slice A1 n1 c1,.bool s2,.slice A2 n2 c2]] #[]),Jo.qp (w.heap.size+1) 1,Jo.q4 K10 s10 M10 E10,Jo.qp (w.heap.size+1) 5,Jo.q4 K10b s10b M10b E10b,Jo.Fact.nq 2 [a,b],Jo.Fact.ia wB.heap.size 2 [za,zb],Jo.Fact.any,Jo.Fact.any,Jo.Fact.any] ?_ ?_
 ·refine jm ?_ ?_;rotate_left
  refine jm ?_ ?_
  ·rintro wj hJ _ rfl K hK;simp only[Jo.z]at hK|-;go_simp;refine(tCrests (cos:=cos) (p1.b hJ) (p2.b hJ) k1 k2 (p45.b hJ) (p46.b hJ) (by omega) (by omega) HO.out HJ.out j1 j2 HST.out).mono ?_;rintro ee wk ⟨k50,A50,n50,c50,rfl,N50,hn50,hk50,B⟩;exact hK.out _ _ ⟨k50,A50,n50,c50,rfl,N50.lower hJ.size,hn50,hk50⟩ B
  iterate 7 (refine jm ?_ ?_;rotate_left)
  refine jm ?_ ?_
  ·rintro wj hJ _ rfl _ rfl K hK;simp only[Jo.z]at hK|-;go_simp;exact hK.out _ _ ⟨_,2,rfl,Nq.of2 (Bo.new _ _ _) qa qb⟩ (bel1 _ _)
  refine jm ?_ ?_
  ·rintro wj hJ _ rfl _ ⟨A51,c51,rfl,h51⟩ K hK;simp only[Jo.z]at hK|-;go_simp;refine(tEach (cos:=cos) (hT.b hJ) HAH.out (p1.b hJ) (p2.b hJ) k1 k2 h51 rfl HSV.out).mono ?_;rintro ee wk ⟨A52,c52,rfl,N52,B⟩;exact hK.out _ _ ⟨A52,c52,rfl,N52.lower hJ.size⟩ B
  exact jo
  all_goals (rintro wj hJ;(repeat rintro _ rfl);intro K hK;simp only[Jo.z]at hK|-;have xX7:=(X7.b hJ).cell;have xX3:=(X3.b hJ).cell;go_simp;exact hK.out _ _ rfl (br _ _))
 rintro wC hJ _ rfl _ ⟨k50,A50,n50,c50,rfl,N50,hn50,hk50⟩ _ _ _ rfl _ rfl _ _ _ rfl _ _ _ rfl _ ⟨_,_,rfl,_⟩ _ ⟨A52,c52,rfl,N52⟩ -;simp only[Jo.z];replace XR:=XR.b hJ;replace HB:=Hqb HB hJ
 refine jn 11 fun K hK=>?_
 refine step_ia rfl _ _ rfl rfl rfl N50 N52 (by decide) (by omega) hJ.size ?_
 intro A53 c53 wD N53 G1 at1
 refine hK.out _ _ ?_;clear hK K;simp only[Act.put,List.setIfInBounds_toArray,List.set_cons_zero,List.set_cons_succ]
 replace XR:=XR.grownLt (fun k hk=>(N50.own_lt k hk).1) (by omega) G1
 replace HB:=ie (HB.out.grown G1 HB.out.size (fun k hk=>Nat.le_trans hszB (N50.own_lt k hk).1))
 clear N50 N52 G1 at1 hT p1 p2 p45 p46 X7 X3
 refine jn 12 fun K hK=>?_
 go_simp;refine(kvHull (N53.il (by omega)) (HALL.out k50 hk50)).mono ?_;rintro ee wE ⟨e60,K60,s60,M60,E60,K60b,s60b,M60b,E60b,rfl,v60,B⟩;refine hK.out _ _ ?_;clear hK K N53;replace XR:=XR.b B;replace HB:=Hqb HB B;clear B;have xXR:=XR.cell;have zXR0:=XR.frozen
 refine jn 13 fun K hK=>?_
 go_simp;refine hK.out _ _ ?_;clear hK K xXR zXR0;have SX:=StN.t9 XR e60 K60 s60 M60 E60 K60b s60b M60b E60b;refine jd ?_;go_wp2;exact bq (by simp[results,Tryz.results74,go_sem,SX.box.cell]) rfl ⟨_,_,_,_,_,_,_,_,_,rfl,v60,(SX.below HB.out (by omega))⟩
theorem tOver{w:World}{fid:FuncId}{cos:Bool}{o:Int}{s1 s2:Bool}{A1 A2:Option Addr}{n1 c1 n2 c2:Nat}{e:Bool}{D M E D' M' E':Int}{s s':Bool}{X Z:Sp}(hT:Tab w)(hT2:Tb w)(hah:AhQ fid cos)(ho:odd1 cos=o)(p1:Wn w s1 A1 n1 c1 PLo)(p2:Wn w s2 A2 n2 c2 PHi)(k1:n1<=7)(k2:n2<=7)(hM:LQ M)(hM':LQ M')(hx:rkI e D s M E D' s' M' E'=X)(hz:AllV cos X Z):Calls Tryz.prog 74 #[.agg #[.func (.func fid) #[] #[],.int .i64 o,.bool s1,.slice A1 n1 c1,.bool s2,.slice A2 n2 c2],VI e D s M E D' s' M' E'] w (PV w Z):=by
 delta VI
 rcases X with _ | ⟨a,b⟩
 ·obtain rfl:Z=none:=hz
  exact tover_none hT hT2 hah p1 p2 k1 k2 hM hM' hx
 ·rcases hz with⟨h,rfl⟩ | ⟨fa,fb,hw,za,zb,ha,hb,rfl⟩
  ·rcases hn:(fixB a && fixB b)with _ | _
   ·exact tover_far hT hT2 hah p1 p2 k1 k2 hM hM' hn hx
   ·have h7:opl 7<=widI (some (a,b)):=by
     rw[Bool.and_eq_true]at hn
     rcases h with h | h | h
     ·rw[hn.1]at h;cases h
     ·rw[hn.2]at h;cases h
     ·exact h
    exact tover_wide hT hT2 hah p1 p2 k1 k2 hM hM' hn (dt h7) hx
  ·have hn:(fixB a && fixB b)=true:=by rw[fa,fb];rfl
   obtain⟨j1,j2⟩:=search_bd fa
   have hX: -4294967296*SC<=fixI a*2/\fixI a*2<=4294967296*SC:=by
    obtain⟨ba,bb⟩:=fix_bd fa;generalize fixI a=A at *
    unfold SC at *
    omega
   have hwd:=wid_far fa fb hw;have hst:=cr_stop (cos:=cos) (y:=fixI b*2+2) hX rfl (by omega)
   have hfb:(fixI b+1).natAbs < 4294967296^11:=by
    have:=fix_fits fb
    have e:(4294967296:Nat)^11=4294967296^10*4294967296:=by decide
    have e2:0 < (4294967296:Nat)^10:=Nat.pow_pos (by decide)
    omega
   have e1:2*fixI a=fixI a*2:=Int.mul_comm _ _
   have e2:2*(fixI b+1)=fixI b*2+2:=by omega
   have e3:(fixI a*2).fdiv (2*PLo)=(fixI a*2).fdiv (PLo*2):=by rw[Int.mul_comm 2 PLo]
   exact tover_in hT hT2 hah p1 p2 k1 k2 hM hM' hn (df hw) rfl rfl (fix_fits fa) hfb ho e1 e2 e3 j1 j2 hst ha hb (fun k hk=>cr_all fa fb hw ha hb rfl hk) hx
theorem tSinOf{w:World}{e:Bool}{D M E D' M' E':Int}{s s':Bool}{X Z:Sp}(hT:Tab w)(hT2:Tb w)(hM:LQ M)(hM':LQ M')(hx:rkI e D s M E D' s' M' E'=X)(hz:AllV false X Z):Calls Tryz.prog 19 #[VI e D s M E D' s' M' E'] w (PV w Z):=by
 delta VI
 have HX:=ie hx;have HZ:=ie hz;clear hx hz
 go_enter Tryz.func19,Tryz.ntmps19
 go_upto_region 1 with (fail)
 generalize hW1:(w.alloc _).alloc _=w1 at *;obtain⟨X1,XR,HB⟩:=Bo.en2 hW1;replace hT:=hT.below HB.out;replace hT2:=hT2.below HB.out;clear hW1;have ltX1:=X1.lt;have ltXR:=XR.lt;refine jk [0,1,2] [some 3,some 4,some 5,none] [[],[],[0,1],[]] 4 1 [Jo.Fact.wv (135) (1),Jo.q9 e D s M E D' s' M' E',Jo.Fact.iv Z,Jo.Fact.any] ?_ ?_
 ·refine jm ?_ ?_
  ·rintro wj hJ K hK;simp only[Jo.z]at hK|-;go_simp;refine(tSineW).mono ?_;rintro ee wk ⟨s20,A20,n20,c20,s21,A21,n21,c21,rfl,p20,p21,k20,k21,B⟩;exact hK.out _ _ ⟨s20,A20,n20,c20,s21,A21,n21,c21,rfl,p20,p21,k20,k21⟩ B
  refine jm ?_ ?_
  ·rintro wj hJ K hK;simp only[Jo.z]at hK|-;have xX1:=(X1.b hJ).cell;go_simp;exact hK.out _ _ rfl (br _ _)
  refine jm ?_ ?_
  ·rintro wj hJ _ ⟨s20,A20,n20,c20,s21,A21,n21,c21,rfl,p20,p21,k20,k21⟩ _ rfl K hK;simp only[Jo.z]at hK|-;go_simp;exact Jo.v1 (tOver (hT.b hJ) (hT2.b hJ) ahq_sin rfl p20 p21 k20 k21 hM hM' HX.out HZ.out) hK.out
  exact jo
 rintro w2 hJ _ ⟨s20,A20,n20,c20,s21,A21,n21,c21,rfl,p20,p21,k20,k21⟩ _ rfl _ ⟨e30,K30,s30,M30,E30,K30b,s30b,M30b,E30b,rfl,v30⟩ -;simp only[Jo.z];replace XR:=XR.b hJ;replace HB:=Hqb HB hJ;clear hT hT2 p20 p21;have xXR:=XR.cell;have zXR0:=XR.frozen
 refine jn 3 fun K hK=>?_
 go_simp;refine hK.out _ _ ?_;clear hK K xXR zXR0;have SX:=StN.t9 XR e30 K30 s30 M30 E30 K30b s30b M30b E30b;refine jd ?_;go_wp2;exact bq (by simp[results,Tryz.results19,go_sem,SX.box.cell]) rfl ⟨_,_,_,_,_,_,_,_,_,rfl,v30,(SX.below HB.out (by omega))⟩
theorem tCosOf{w:World}{e:Bool}{D M E D' M' E':Int}{s s':Bool}{X Z:Sp}(hT:Tab w)(hT2:Tb w)(hM:LQ M)(hM':LQ M')(hx:rkI e D s M E D' s' M' E'=X)(hz:AllV true X Z):Calls Tryz.prog 21 #[VI e D s M E D' s' M' E'] w (PV w Z):=by
 delta VI
 have HX:=ie hx;have HZ:=ie hz;clear hx hz
 go_enter Tryz.func21,Tryz.ntmps21
 go_upto_region 1 with (fail)
 generalize hW1:(w.alloc _).alloc _=w1 at *;obtain⟨X1,XR,HB⟩:=Bo.en2 hW1;replace hT:=hT.below HB.out;replace hT2:=hT2.below HB.out;clear hW1;have ltX1:=X1.lt;have ltXR:=XR.lt;refine jk [0,1,2] [some 3,some 4,some 5,none] [[],[],[0,1],[]] 4 1 [Jo.Fact.wv (146) (0),Jo.q9 e D s M E D' s' M' E',Jo.Fact.iv Z,Jo.Fact.any] ?_ ?_
 ·refine jm ?_ ?_
  ·rintro wj hJ K hK;simp only[Jo.z]at hK|-;go_simp;refine(tCosW).mono ?_;rintro ee wk ⟨s20,A20,n20,c20,s21,A21,n21,c21,rfl,p20,p21,k20,k21,B⟩;exact hK.out _ _ ⟨s20,A20,n20,c20,s21,A21,n21,c21,rfl,p20,p21,k20,k21⟩ B
  refine jm ?_ ?_
  ·rintro wj hJ K hK;simp only[Jo.z]at hK|-;have xX1:=(X1.b hJ).cell;go_simp;exact hK.out _ _ rfl (br _ _)
  refine jm ?_ ?_
  ·rintro wj hJ _ ⟨s20,A20,n20,c20,s21,A21,n21,c21,rfl,p20,p21,k20,k21⟩ _ rfl K hK;simp only[Jo.z]at hK|-;go_simp;exact Jo.v1 (tOver (hT.b hJ) (hT2.b hJ) ahq_cos rfl p20 p21 k20 k21 hM hM' HX.out HZ.out) hK.out
  exact jo
 rintro w2 hJ _ ⟨s20,A20,n20,c20,s21,A21,n21,c21,rfl,p20,p21,k20,k21⟩ _ rfl _ ⟨e30,K30,s30,M30,E30,K30b,s30b,M30b,E30b,rfl,v30⟩ -;simp only[Jo.z];replace XR:=XR.b hJ;replace HB:=Hqb HB hJ;clear hT hT2 p20 p21;have xXR:=XR.cell;have zXR0:=XR.frozen
 refine jn 3 fun K hK=>?_
 go_simp;refine hK.out _ _ ?_;clear hK K xXR zXR0;have SX:=StN.t9 XR e30 K30 s30 M30 E30 K30b s30b M30b E30b;refine jd ?_;go_wp2;exact bq (by simp[results,Tryz.results21,go_sem,SX.box.cell]) rfl ⟨_,_,_,_,_,_,_,_,_,rfl,v30,(SX.below HB.out (by omega))⟩
theorem awake12{w:World}(hT:Tab w)(hT2:Tb w):Calls Tryz.prog 11 #[] w (PB w true):=by
 obtain⟨Zs,hs⟩:=sv_ex false 0;obtain⟨Zc,hc⟩:=all_ex true (some (opl (-1),opl 1));obtain⟨s1,s2⟩:=aw_sin hs;obtain⟨c1,c2⟩:=aw_cos hc;have hw:=aw_wide;obtain⟨σ,hσ⟩:∃σ,cmpI (widI Zs) (opl 1)=σ:=⟨_,rfl⟩
 have e0:decide (σ < 0)=true:=dt (by rw[<-hσ,cmpI_lt s2];decide)
 have m1:mkI (opl (-1)) (opl 1)=some (opl (-1),opl 1):=unitI_some
 have m7:mkI (opl 0) (opl 7)=some (opl 0,opl 7):=aw_seven
 have HS:=ie hs;have HC:=ie hc;have HS1:=ie s1;have HC1:=ie c1;have HC2:=ie c2;have HW:=ie hw;have HSG:=ie hσ;have HE0:=ie e0;have HMA:=ie m1;have HMB:=ie m7;clear s2 hs hc s1 c1 c2 hw hσ e0 m1 m7
 go_enter Tryz.func11,Tryz.ntmps11
 have HB:=ie (Below.refl w.heap.size w)
 go_wp2_with fail
 refine(nOf (n:=0) (r:=0) _ (by decide) (by decide) rfl).mono ?_;rintro ee w1 ⟨K1,s1,M1,E1,rfl,q1,B⟩;replace hT:=hT.b B;replace hT2:=hT2.b B;replace HB:=Hqb HB B;clear B
 go_wp2_with fail
 refine(tSin hT (fq_mn q1) q1.top q1.rk HS.out).mono ?_;rintro ee w2 ⟨e2,K2,s2,M2,E2,K2b,s2b,M2b,E2b,rfl,v2,B⟩;replace hT:=hT.b B;replace hT2:=hT2.b B;replace HB:=Hqb HB B;clear B
 go_upto_region 2 with (fail)
 generalize hWn:w2.alloc _=w3 at *;obtain⟨X1,BW⟩:=Bo.nw hWn;clear hWn;replace hT:=hT.b BW;replace hT2:=hT2.b BW;replace HB:=Hqb HB BW;clear BW;clear q1
 go_wp2_with fail
 refine(kvOf (a:= -1) (b:=1) (by decide) (by decide) (by decide) (by decide) rfl rfl HMA.out).mono ?_;rintro ee w4 ⟨e3,K3,s3,M3,E3,K3b,s3b,M3b,E3b,rfl,v3,B⟩;replace X1:=X1.b B;replace hT:=hT.b B;replace hT2:=hT2.b B;replace HB:=Hqb HB B;clear B
 go_wp2_with fail
 refine(tCosOf hT hT2 v3.top.1 v3.top.2 v3.rk HC.out).mono ?_;rintro ee w5 ⟨e4,K4,s4,M4,E4,K4b,s4b,M4b,E4b,rfl,v4,B⟩;replace X1:=X1.b B;replace hT:=hT.b B;replace hT2:=hT2.b B;replace HB:=Hqb HB B;clear B
 go_upto_region 3 with (fail)
 have nX2X1:=X1.lt;generalize hWn:w5.alloc _=w6 at *;obtain⟨X2,BW⟩:=Bo.nw hWn;clear hWn;replace X1:=X1.b BW;replace hT:=hT.b BW;replace hT2:=hT2.b BW;replace HB:=Hqb HB BW;clear BW;clear v3
 go_wp2_with fail
 refine(kvOf (a:=0) (b:=7) (by decide) (by decide) (by decide) (by decide) rfl rfl HMB.out).mono ?_;rintro ee w7 ⟨e5,K5,s5,M5,E5,K5b,s5b,M5b,E5b,rfl,v5,B⟩;replace X1:=X1.b B;replace X2:=X2.b B;replace hT:=hT.b B;replace hT2:=hT2.b B;replace HB:=Hqb HB B;clear B
 go_wp2_with fail
 refine(tSinOf hT hT2 v5.top.1 v5.top.2 v5.rk HW.out).mono ?_;rintro ee w8 ⟨e6,K6,s6,M6,E6,K6b,s6b,M6b,E6b,rfl,v6,B⟩;replace X1:=X1.b B;replace X2:=X2.b B;replace hT2:=hT2.b B;replace HB:=Hqb HB B;clear B
 go_upto_region 4 with (fail)
 have nX3X1:=X1.lt;have nX3X2:=X2.lt;generalize hWn:w8.alloc _=w9 at *;obtain⟨X3,BW⟩:=Bo.nw hWn;clear hWn;replace X1:=X1.b BW;replace X2:=X2.b BW;replace hT2:=hT2.b BW;replace HB:=Hqb HB BW;clear BW;clear v5;have ltX1:=X1.lt;have ltX2:=X2.lt;have ltX3:=X3.lt;refine jk [0,1,2,3,4,5,6,7,8,9,10,11,12,13,14,15,16,17,18,19,20,21,22,23,24,25,26] [some 10,some 11,some 12,some 13,some 14,some 15,some 16,some 17,some 18,some 19,some 20,some 21,some 22,some 23,some 24,some 25,some 26,some 27,some 28,some 29,some 30,some 31,some 32,some 33,some 34,some 35,some 0] [[],[],[0,1],[2],[3],[3,4],[3],[3,5,6],[3,7],[3,8],[9],[10],[10],[10,11,12],[10,13],[14],[15],[15],[15,16,17],[15,18],[15,19],[20],[21],[21],[21,22,23],[21,24],[25]] 27 0 [Jo.q9 e2 K2 s2 M2 E2 K2b s2b M2b E2b,Jo.Fact.num 0,Jo.qb true,Jo.qb true,Jo.q9 e2 K2 s2 M2 E2 K2b s2b M2b E2b,Jo.Fact.num (widI Zs),Jo.Fact.num (opl 1),Jo.qi σ,Jo.qb true,Jo.qb true,Jo.qb true,Jo.q9 e4 K4 s4 M4 E4 K4b s4b M4b E4b,Jo.Fact.num (opl 1),Jo.qb true,Jo.qb true,Jo.qb true,Jo.q9 e4 K4 s4 M4 E4 K4b s4b M4b E4b,Jo.Fact.num 0,Jo.qb false,Jo.qb true,Jo.qb true,Jo.qb true,Jo.q9 e6 K6 s6 M6 E6 K6b s6b M6b E6b,Jo.Fact.iv unitI,Jo.qb true,Jo.qb true,Jo.qb true] ?_ ?_
 ·refine jm ?_ ?_;rotate_left
  refine jm ?_ ?_
  ·rintro wj hJ K hK;simp only[Jo.z]at hK|-;go_simp;exact Jo.n1 (nOf (n:=0) (r:=0) _ (by decide) (by decide) rfl) hK.out
  refine jm ?_ ?_
  ·rintro wj hJ _ rfl _ ⟨K20,s20,M20,E20,rfl,q20⟩ K hK;simp only[Jo.z]at hK|-;go_simp;refine(kvHas v2.top.1 v2.top.2 q20.top v2.rk q20.rk HS1.out).mono ?_;rintro ee wk ⟨rfl,B⟩;exact hK.out _ _ rfl B
  iterate 2 (refine jm ?_ ?_;rotate_left)
  refine jm ?_ ?_
  ·rintro wj hJ _ rfl _ rfl K hK;simp only[Jo.z]at hK|-;go_simp;exact Jo.n1 (kvWidth (hT2.b hJ) v2.top.1 v2.top.2 v2.rk rfl) hK.out
  refine jm ?_ ?_
  ·rintro wj hJ _ rfl K hK;simp only[Jo.z]at hK|-;go_simp;exact Jo.n1 (nOf (n:=1) (r:=(opl 1)) _ (by decide) (by decide) rfl) hK.out
  refine jm ?_ ?_
  ·rintro wj hJ _ rfl _ ⟨K21,s21,M21,E21,rfl,q21⟩ _ ⟨K22,s22,M22,E22,rfl,q22⟩ K hK;simp only[Jo.z]at hK|-;go_simp;refine(nCmp (z:=σ) q21.top q22.top (by rw[q21.rk,q22.rk];exact HSG.out)).mono ?_;rintro ee wk ⟨rfl,B⟩;exact hK.out _ _ rfl B
  refine jm ?_ ?_
  ·rintro wj hJ _ rfl _ rfl K hK;simp only[Jo.z]at hK|-;have ht:=HE0.out;go_simp
   exact hK.out _ _ (by first | rfl | (show Value.bool _=Value.bool _;first | (rw[ht];done) | (simp only[ht];done) | simp_all)) (br _ _)
  iterate 3 (refine jm ?_ ?_;rotate_left)
  refine jm ?_ ?_
  ·rintro wj hJ _ rfl K hK;simp only[Jo.z]at hK|-;go_simp;exact Jo.n1 (nOf (n:=1) (r:=(opl 1)) _ (by decide) (by decide) rfl) hK.out
  refine jm ?_ ?_
  ·rintro wj hJ _ rfl _ rfl _ ⟨K23,s23,M23,E23,rfl,q23⟩ K hK;simp only[Jo.z]at hK|-;go_simp;refine(kvHas v4.top.1 v4.top.2 q23.top v4.rk q23.rk HC1.out).mono ?_;rintro ee wk ⟨rfl,B⟩;exact hK.out _ _ rfl B
  iterate 3 (refine jm ?_ ?_;rotate_left)
  refine jm ?_ ?_
  ·rintro wj hJ _ rfl K hK;simp only[Jo.z]at hK|-;go_simp;exact Jo.n1 (nOf (n:=0) (r:=0) _ (by decide) (by decide) rfl) hK.out
  refine jm ?_ ?_
  ·rintro wj hJ _ rfl _ rfl _ ⟨K24,s24,M24,E24,rfl,q24⟩ K hK;simp only[Jo.z]at hK|-;go_simp;refine(kvHas v4.top.1 v4.top.2 q24.top v4.rk q24.rk HC2.out).mono ?_;rintro ee wk ⟨rfl,B⟩;exact hK.out _ _ rfl B
  iterate 4 (refine jm ?_ ?_;rotate_left)
  refine jm ?_ ?_
  ·rintro wj hJ _ rfl K hK;simp only[Jo.z]at hK|-;go_simp;exact Jo.v1 (kvOf (a:= -1) (b:=1) (x:=unitI) (by decide) (by decide) (by decide) (by decide) rfl rfl rfl) hK.out
  refine jm ?_ ?_
  ·rintro wj hJ _ rfl _ rfl _ ⟨e25,K25,s25,M25,E25,K25b,s25b,M25b,E25b,rfl,v25⟩ K hK;simp only[Jo.z]at hK|-;obtain⟨rfl,rfl,rfl,rfl,rfl,rfl,rfl,rfl,rfl⟩:=v6.uniq v25;go_simp
   exact hK.out _ _ (by first | rfl | (show Value.bool _=Value.bool _;simp)) (br _ _)
  iterate 2 (refine jm ?_ ?_;rotate_left)
  exact jo
  all_goals (rintro wj hJ;(repeat rintro _ rfl);intro K hK;simp only[Jo.z]at hK|-;have xX1:=(X1.b hJ).cell;have xX2:=(X2.b hJ).cell;have xX3:=(X3.b hJ).cell;go_simp;exact hK.out _ _ rfl (br _ _))
 rintro wA hJ _ rfl _ ⟨K20,s20,M20,E20,rfl,_⟩ _ rfl _ rfl _ rfl _ ⟨K21,s21,M21,E21,rfl,_⟩ _ ⟨K22,s22,M22,E22,rfl,_⟩ _ rfl _ rfl _ rfl _ rfl _ rfl _ ⟨K23,s23,M23,E23,rfl,_⟩ _ rfl _ rfl _ rfl _ rfl _ ⟨K24,s24,M24,E24,rfl,_⟩ _ rfl _ rfl _ rfl _ rfl _ rfl _ ⟨e25,K25,s25,M25,E25,K25b,s25b,M25b,E25b,rfl,v25⟩ _ rfl _ rfl _ rfl -;simp only[Jo.z];replace HB:=Hqb HB hJ
 refine jd ?_;go_wp2
 go_ret
 exact⟨rfl,HB.out⟩
