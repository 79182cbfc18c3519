/-
 Contracts that the proof rests on.
-/
import Derived.Laws.EntriesVeiled
import Derived.Test.YteigedaefgmojaaGreatDoorYQaz
namespace Go.Proofs.YteigedaefgmojaaGreatDoor
open Go.Proofs.Tryz
set_option maxHeartbeats 16000000
open Go.RowKit
set_option linter.unusedVariables false
set_option linter.unusedSimpArgs false
set_option maxRecDepth 100000
def Jo.TFact.wnS (x:Int)(K:Nat):Jo.TFact #[.bool false,.slice none 0 0,.bool false,.slice none 0 0] 45:=⟨fun v w=>∃s1 A1 n1 c1,v= .agg #[.bool s1,.slice A1 n1 c1]/\Wn w s1 A1 n1 c1 x/\n1<=K,fun v w w' h b=>by
 obtain⟨s1,A1,n1,c1,e,p,k⟩:=h
 exact⟨s1,A1,n1,c1,e,p.below b,k⟩,fun v w w' g cs h S=>by
 obtain⟨s1,A1,n1,c1,e,p,k⟩:=h;exact⟨s1,A1,n1,c1,e,p.stn S (by simp[no32]),k⟩⟩
def Jo.TFact.spS (x y:Int)(K:Nat):Jo.TFact #[.bool false,.slice none 0 0,.bool false,.slice none 0 0] 45:=⟨fun v w=>∃s1 A1 n1 c1 s2 A2 n2 c2,v= .agg #[.bool s1,.slice A1 n1 c1,.bool s2,.slice A2 n2 c2]/\Wn w s1 A1 n1 c1 x/\Wn w s2 A2 n2 c2 y/\n1<=K/\n2<=K,fun v w w' h b=>by
 obtain⟨s1,A1,n1,c1,s2,A2,n2,c2,e,p,q,k,l⟩:=h
 exact⟨s1,A1,n1,c1,s2,A2,n2,c2,e,p.below b,q.below b,k,l⟩,fun v w w' g cs h S=>by
 obtain⟨s1,A1,n1,c1,s2,A2,n2,c2,e,p,q,k,l⟩:=h;exact⟨s1,A1,n1,c1,s2,A2,n2,c2,e,p.stn S (by simp[no32]),q.stn S (by simp[no32]),k,l⟩⟩
def Jo.TFact.gd (a b:Bool):Jo.TFact #[.bool false,.slice none 0 0,.bool false,.slice none 0 0] 45:=⟨fun v _=>a=true->v= .bool b,fun _ _ _ h _=>h,fun _ _ _ _ _ h _=>h⟩
theorem Wn.off{w w':World}{g:Nat}{old new:Array Value}{R:TypeId}{s:Bool}{A:Option Addr}{n c:Nat}{z:Int}(h:Wn w s A n c z)(X:Bo w g old R)(hn:old.all no32=true)(O:Jo.Off g new R w w'):Wn w' s A n c z:=⟨h.1.off X hn O,h.2⟩
def IM (w:World)(K:Nat)(x y:Int)(b:Bool)(e:Ending)(w':World):Prop:=∃s1 A1 n1 c1 s2 A2 n2 c2,e= .returned (.tuple #[.agg #[.bool s1,.slice A1 n1 c1,.bool s2,.slice A2 n2 c2],.bool b])/\Wn w' s1 A1 n1 c1 x/\Wn w' s2 A2 n2 c2 y/\n1<=K/\n2<=K/\Below w.heap.size w w'
theorem nN{w:World}{D D' M M' E E':Int}{s s':Bool}{a b ga gb:Int}{ta tb:Bool}(hT:dN w)(h0:0<=M)(hM:LQ M)(h0':0<=M')(hM':LQ M')(ha:rk D s M E=a)(hb:rk D' s' M' E'=b)(hga:ak a=ga)(hgb:ak b=gb)(hta:aD a=ta)(htb:aD b=tb):Calls prog 55 #[VQ D s M E,VQ D' s' M' E'] w (IM w 140010 ga (gb+1) (ta && tb)):=by
 delta VQ
 have HA:=ie ha;have hA:=ie hb;have hB:=ie hga;have hC:=ie hgb;have hD:=ie hta;have hE:=ie htb;clear ha hb hga hgb hta htb
 go_enter func55,ntmps55
 go_upto_region 1 with fail
 generalize bA:((w.alloc _).alloc _).alloc _=w1 at *;obtain⟨X2,W,c,j⟩:=Bo.en3 bA;replace hT:=hT.below j.out;clear bA;have hW:=X2.cell
 go_wp2_with fail
 refine(Gs hT h0 hM HA.out hB.out hD.out).mono ?_;rintro ee w2 ⟨Q,q,I,x,rfl,d,lA,B⟩;clear hW;refine dk ?_ W c hT j B;clear W c hT j B;intro W c hT j
 go_upto_region 2 with fail
 have hP:=W.lt;have hQ:=c.lt;generalize n:w2.alloc _=w3 at *;obtain⟨m,BW⟩:=Bo.nw n;clear n;refine dG ?_ W c hT d j BW;clear W c hT d j BW;intro W c hT d j;have hX:=W.cell
 go_wp2_with fail
 refine(Gs hT h0' hM' hA.out hC.out hE.out).mono ?_;rintro ee w4 ⟨S,r,J,y,rfl,p,lB,B⟩;clear hX;refine dk ?_ c m d j B;clear c m d j B;intro c m d j;clear hT
 go_upto_region 3 with fail
 have hS:=c.lt;have hR:=m.lt;generalize n:w4.alloc _=w5 at *;obtain⟨X8,BW⟩:=Bo.nw n;clear n;refine dG ?_ c m d p j BW;clear c m d p j BW;intro c m d p j;have bN:=c.lt;have bD:=m.lt;have bH:=X8.lt;have hY:=j.out.size;have bN:=c.lt;have bD:=m.lt
 have bH:=X8.lt;have hZ:=j.out.size
 refine Jo.region_lone (old:= #[.bool false,.slice none 0 0,.bool false,.slice none 0 0]) (R:=45) (T:=[0,1,2,3,4,5,6,7,8,9]) (ds:=[some 20,some 21,some 22,some 23,some 24,some 25,some 26,some 27,some 28,none,some 5]) (ls:=[[],[],[],[1,2],[0,3],[],[5],[6],[6,7],[4],[]]) (k:=11) (L:=[(some 20,0),(some 21,1),(some 22,2),(some 23,3),(some 24,4),(some 25,5),(some 26,6),(some 27,7),(some 28,8),(none,9)]) (fuel:=1) (w1:=w5) (g:=w.heap.size+1+1) (s:=9) (e:=4)
  (F:=[Jo.TFact.eq (.agg #[.bool Q,.slice q I x]),Jo.TFact.eq (.agg #[.bool S,.slice r J y]),Jo.TFact.wnS (1) (2),Jo.TFact.wnS (gb+1) (140010),Jo.TFact.spS ga (gb+1) 140010,Jo.TFact.eq (.bool ta),Jo.TFact.eq (.bool ta),Jo.TFact.gd ta tb,Jo.TFact.eq (.bool (ta && tb)),Jo.TFact.any,Jo.TFact.any])
  c (by decide) (by kernel_rfl) (by kernel_rfl) (by decide) rfl rfl ?_ (fun vs w6 csp hJ hd ee Xn=>?_)
 ·refine Jo.ocons (i:=0) (o:=⟨some 20,_,_,_,_,_⟩) (di:=some 20) (L:=[]) (f:=Jo.TFact.eq (.agg #[.bool Q,.slice q I x])) (by decide) rfl rfl rfl rfl (fun vs wj nw hJ hd K hK=>?_) ?_
  ·clear hd;simp only[Jo.putl,Jo.ze,Act.put,Jo.za,Jo.zb,Jo.zc]at hK|-;replace m:=m.off (by omega) hJ;have qT:=m.cell;go_simp;exact hK.out _ _ rfl (br _ _)
  refine Jo.ocons (i:=1) (o:=⟨some 21,_,_,_,_,_⟩) (di:=some 21) (L:=[]) (f:=Jo.TFact.eq (.agg #[.bool S,.slice r J y])) (by decide) rfl rfl rfl rfl (fun vs wj nw hJ hd K hK=>?_) ?_
  ·clear hd;simp only[Jo.putl,Jo.ze,Act.put,Jo.za,Jo.zb,Jo.zc]at hK|-;replace X8:=X8.off (by omega) hJ;have BX:=X8.cell;go_simp;exact hK.out _ _ rfl (br _ _)
  refine Jo.ocons (i:=2) (o:=⟨some 22,_,_,_,_,_⟩) (di:=some 22) (L:=[]) (f:=Jo.TFact.wnS (1) (2)) (by decide) rfl rfl rfl rfl (fun vs wj nw hJ hd K hK=>?_) ?_
  ·clear hd;simp only[Jo.putl,Jo.ze,Act.put,Jo.za,Jo.zb,Jo.zc]at hK|-;go_simp;exact Jo.w1 (dU 1 _ (by decide) (by decide)) hK.out
  refine Jo.ocons (i:=3) (o:=⟨some 23,_,_,_,_,_⟩) (di:=some 23) (L:=[(some 21,1),(some 22,2)]) (f:=Jo.TFact.wnS (gb+1) (140010)) (by decide) rfl rfl rfl rfl (fun vs wj nw hJ hd K hK=>?_) ?_
  ·have G:(Jo.TFact.eq (.agg #[.bool S,.slice r J y]):Jo.TFact #[.bool false,.slice none 0 0,.bool false,.slice none 0 0] 45).P (vs 1) wj:=hd 1 (by decide)
   have d2:(Jo.TFact.wnS (1) (2):Jo.TFact #[.bool false,.slice none 0 0,.bool false,.slice none 0 0] 45).P (vs 2) wj:=hd 2 (by decide)
   simp only[Jo.putl,Jo.zd,Jo.ze,Act.put,Jo.za,Jo.zb,Jo.zc]at hK|-;clear hd;generalize vs 1=u1 at hK G|-;generalize vs 2=u2 at hK d2|-
   replace G:u1=_:=G
   subst G;obtain⟨hU,gP,hL,hF,rfl,Y,hH⟩:=d2;go_simp;exact Jo.w1 (lR (p.off c (by simp[no32]) hJ).wr Y.wr (by omega) (by omega) rfl) hK.out
  refine Jo.ocons (i:=4) (o:=⟨some 24,_,_,_,_,_⟩) (di:=some 24) (L:=[(some 20,0),(some 23,3)]) (f:=Jo.TFact.spS ga (gb+1) 140010) (by decide) rfl rfl rfl rfl (fun vs wj nw hJ hd K hK=>?_) ?_
  ·have C:(Jo.TFact.eq (.agg #[.bool Q,.slice q I x]):Jo.TFact #[.bool false,.slice none 0 0,.bool false,.slice none 0 0] 45).P (vs 0) wj:=hd 0 (by decide)
   have d3:(Jo.TFact.wnS (gb+1) (140010):Jo.TFact #[.bool false,.slice none 0 0,.bool false,.slice none 0 0] 45).P (vs 3) wj:=hd 3 (by decide)
   simp only[Jo.putl,Jo.zd,Jo.ze,Act.put,Jo.za,Jo.zb,Jo.zc]at hK|-;clear hd;generalize vs 0=u0 at hK C|-;generalize vs 3=u3 at hK d3|-
   replace C:u0=_:=C
   subst C;obtain⟨hV,gS,hN,hG,rfl,Z,hI⟩:=d3;go_simp;exact hK.out _ _ ⟨_,_,_,_,_,_,_,_,rfl,d.off c (by simp[no32]) hJ,Z,by omega,by omega⟩ (br _ _)
  refine Jo.ocons (i:=5) (o:=⟨some 25,_,_,_,_,_⟩) (di:=some 25) (L:=[]) (f:=Jo.TFact.eq (.bool ta)) (by decide) rfl rfl rfl rfl (fun vs wj nw hJ hd K hK=>?_) ?_
  ·clear hd;simp only[Jo.putl,Jo.ze,Act.put,Jo.za,Jo.zb,Jo.zc]at hK|-;go_simp;exact hK.out _ _ rfl (br _ _)
  refine Jo.ocons (i:=6) (o:=⟨some 26,_,_,_,_,_⟩) (di:=some 26) (L:=[(some 25,5)]) (f:=Jo.TFact.eq (.bool ta)) (by decide) rfl rfl rfl rfl (fun vs wj nw hJ hd K hK=>?_) ?_
  ·have H:(Jo.TFact.eq (.bool ta):Jo.TFact #[.bool false,.slice none 0 0,.bool false,.slice none 0 0] 45).P (vs 5) wj:=hd 5 (by decide)
   clear hd;simp only[Jo.putl,Jo.zd,Jo.ze,Act.put,Jo.za,Jo.zb,Jo.zc]at hK|-;generalize vs 5=u5 at hK H|-
   replace H:u5=_:=H
   subst H;go_simp;exact hK.out _ _ rfl (br _ _)
  refine Jo.ocons (i:=7) (o:=⟨some 27,_,_,_,_,_⟩) (di:=some 27) (L:=[(some 26,6)]) (f:=Jo.TFact.gd ta tb) (by decide) rfl rfl rfl rfl (fun vs wj nw hJ hd K hK=>?_) ?_
  ·have l:(Jo.TFact.eq (.bool ta):Jo.TFact #[.bool false,.slice none 0 0,.bool false,.slice none 0 0] 45).P (vs 6) wj:=hd 6 (by decide)
   clear hd;simp only[Jo.putl,Jo.zd,Jo.ze,Act.put,Jo.za,Jo.zb,Jo.zc]at hK|-;generalize vs 6=u6 at hK l|-
   replace l:u6=_:=l
   subst l;go_simp
   cases ta
   ·go_simp
    exact hK.out _ _ (fun h=>by cases h) (br _ _)
   ·go_simp
    exact hK.out _ _ (fun _=>rfl) (br _ _)
  refine Jo.ocons (i:=8) (o:=⟨some 28,_,_,_,_,_⟩) (di:=some 28) (L:=[(some 26,6),(some 27,7)]) (f:=Jo.TFact.eq (.bool (ta && tb))) (by decide) rfl rfl rfl rfl (fun vs wj nw hJ hd K hK=>?_) ?_
  ·have l:(Jo.TFact.eq (.bool ta):Jo.TFact #[.bool false,.slice none 0 0,.bool false,.slice none 0 0] 45).P (vs 6) wj:=hd 6 (by decide)
   have d7:(Jo.TFact.gd ta tb:Jo.TFact #[.bool false,.slice none 0 0,.bool false,.slice none 0 0] 45).P (vs 7) wj:=hd 7 (by decide)
   simp only[Jo.putl,Jo.zd,Jo.ze,Act.put,Jo.za,Jo.zb,Jo.zc]at hK|-;clear hd;generalize vs 6=u6 at hK l|-;generalize vs 7=u7 at hK d7|-
   replace l:u6=_:=l
   subst l;go_simp
   cases ta
   ·go_simp;exact hK.out _ _ rfl (br _ _)
   ·obtain rfl:=d7 rfl
    go_simp;exact hK.out _ _ rfl (br _ _)
  refine Jo.osto (o:=⟨none,_,_,_,_,_⟩) (di:=none) (L:=[(some 24,4)]) (by decide) rfl rfl rfl rfl (fun vs wj hd X K hK=>?_) ?_
  ·have d4:(Jo.TFact.spS ga (gb+1) 140010:Jo.TFact #[.bool false,.slice none 0 0,.bool false,.slice none 0 0] 45).P (vs 4) wj:=hd 4 (by decide)
   clear hd;simp only[Jo.putl,Jo.zd,Jo.ze,Act.put,Jo.za,Jo.zb,Jo.zc]at hK|-;generalize vs 4=u4 at hK d4|-;obtain⟨U,t,N,z,V,u,O,A,rfl,gB,gO,bB,bC⟩:=d4;have xX:=X.cell;have zX:=X.frozen;go_simp;have SX:=ae.mk4 X (.bool U) (.slice t N z) (.bool V) (.slice u O A);exact hK.out undef _ _ rfl SX
  exact Jo.StepsI.nil
 have C:(Jo.TFact.eq (.agg #[.bool Q,.slice q I x]):Jo.TFact #[.bool false,.slice none 0 0,.bool false,.slice none 0 0] 45).P (vs 0) w6:=hd 0 (by decide)
 have G:(Jo.TFact.eq (.agg #[.bool S,.slice r J y]):Jo.TFact #[.bool false,.slice none 0 0,.bool false,.slice none 0 0] 45).P (vs 1) w6:=hd 1 (by decide)
 have d2:(Jo.TFact.wnS (1) (2):Jo.TFact #[.bool false,.slice none 0 0,.bool false,.slice none 0 0] 45).P (vs 2) w6:=hd 2 (by decide)
 have d3:(Jo.TFact.wnS (gb+1) (140010):Jo.TFact #[.bool false,.slice none 0 0,.bool false,.slice none 0 0] 45).P (vs 3) w6:=hd 3 (by decide)
 have d4:(Jo.TFact.spS ga (gb+1) 140010:Jo.TFact #[.bool false,.slice none 0 0,.bool false,.slice none 0 0] 45).P (vs 4) w6:=hd 4 (by decide)
 have H:(Jo.TFact.eq (.bool ta):Jo.TFact #[.bool false,.slice none 0 0,.bool false,.slice none 0 0] 45).P (vs 5) w6:=hd 5 (by decide)
 have l:(Jo.TFact.eq (.bool ta):Jo.TFact #[.bool false,.slice none 0 0,.bool false,.slice none 0 0] 45).P (vs 6) w6:=hd 6 (by decide)
 have d7:(Jo.TFact.gd ta tb:Jo.TFact #[.bool false,.slice none 0 0,.bool false,.slice none 0 0] 45).P (vs 7) w6:=hd 7 (by decide)
 have d8:(Jo.TFact.eq (.bool (ta && tb)):Jo.TFact #[.bool false,.slice none 0 0,.bool false,.slice none 0 0] 45).P (vs 8) w6:=hd 8 (by decide)
 simp only[Jo.putl,Jo.zd,Jo.ze,Act.put,Jo.za,Jo.zb,Jo.zc];clear hd;generalize vs 0=u0 at C|-;generalize vs 1=u1 at G|-;generalize vs 2=u2 at d2|-;generalize vs 3=u3 at d3|-;generalize vs 4=u4 at d4 ee|-;generalize vs 5=u5 at H|-;generalize vs 6=u6 at l|-;generalize vs 7=u7 at d7|-;generalize vs 8=u8 at d8|-;generalize vs 9=u9 at|-;clear vs
 replace C:u0=_:=C
 subst C
 replace G:u1=_:=G
 subst G;obtain⟨hU,gP,hL,hF,rfl,Y,hH⟩:=d2;obtain⟨hV,gS,hN,hG,rfl,Z,hI⟩:=d3;obtain⟨U,t,N,z,V,u,O,A,rfl,gB,gO,bB,bC⟩:=d4
 replace H:u5=_:=H
 subst H
 replace l:u6=_:=l
 subst l
 replace d8:u8=_:=d8
 subst d8
 injection ee with ee
 subst ee;replace j:=ie (hJ.below j.out (by omega) c.lt);clear c hJ;have c:=Xn;clear Xn;clear d p Y Z
 refine jn 10 fun K hK=>?_
 go_simp;refine hK.out _ _ ?_;clear hK K;refine jd ?_;go_wp2;exact bq (v:= .tuple #[.agg #[.bool U,.slice t N z,.bool V,.slice u O A],.bool (ta && tb)]) (by simp[results,results55,go_sem,c.cell]) rfl ⟨U,t,N,z,V,u,O,A,rfl,gB,gO,bB,bC,j.out⟩
theorem sf{w:World}:Calls prog 63 #[] w (vR w 7 aH bW):=by
 go_enter func63,ntmps63
 go_upto_region 1 with fail
 generalize h:w.alloc _=w1 at *;obtain⟨a,d⟩:=Bo.en1 h;clear h
 go_wp2_with fail
 refine(Bt).mono ?_;rintro A i ⟨s2,A2,n2,c2,s3,A3,n3,c3,rfl,p2,f,x,y,B⟩;replace a:=a.b B;replace d:=aj d B;clear B
 go_upto_region 2 with fail
 have e:(World.alloc i (.cells #[.bool s2,.slice A2 n2 c2] 43)).heap.size=i.heap.size+1:=by simp
 have m:=a.lt;have k:=ab i (.cells #[.bool s2,.slice A2 n2 c2] 43);replace a:=a.b k;replace p2:=p2.b k;replace f:=f.b k;replace d:=ie (bt d.out k);have g:=Bo.new i #[.bool s2,.slice A2 n2 c2] 43;generalize c:World.alloc i (.cells #[.bool s2,.slice A2 n2 c2] 43)=z at *
 clear c;have o:=a.lt;have n:=g.lt;generalize c:z.alloc _=C at *;obtain⟨u,t⟩:=Bo.nw c;clear c;refine dG ?_ a g p2 f d t;clear a g p2 f d t;intro a g p2 f d;rw[e]at u;clear e;have r:=a.cell;have j:=a.frozen;have p:=g.cell
 have q:=u.cell;go_wp2;clear r j p q;have l:=ae.mk4 a (.bool s2) (.slice A2 n2 c2) (.bool s3) (.slice A3 n3 c3);replace p2:=p2.s l;replace f:=f.s l;exact bq (v:= .agg #[.bool s2,.slice A2 n2 c2,.bool s3,.slice A3 n3 c3]) (by simp[results,results63,go_sem,l.box.cell]) rfl ⟨s2,A2,n2,c2,s3,A3,n3,c3,rfl,p2,f,x,y,(l.below d.out (by omega))⟩
def aX (cos:Bool):Int:=if cos then aH/2 else 0
def aY (cos:Bool):Int:=if cos then (bW+1) /2 else 0
theorem Fc (cos:Bool)(g:Int):g+aX cos=mA cos g:=by
 unfold aX mA
 cases cos
 ·show g+0=g
  omega
 ·rfl
theorem Fd (cos:Bool)(g:Int):g+1+aY cos=Be cos g:=by
 unfold aY Be
 cases cos
 ·show g+1+0=g+1
  omega
 ·rfl
theorem Av{w:World}{A':Option Addr}{n' c':Nat}{s':Bool}{B':Option Addr}{m' d':Nat}{t':Bool}(h':Wn w s' A' n' c' aH)(k':Wn w t' B' m' d' bW)(hn':n'<=7)(hm':m'<=7):Calls prog 78 #[.agg #[.bool s',.slice A' n' c',.bool t',.slice B' m' d']] w (vR w 20 (aX true) (aY true)):=by
 have H1:Hid (aH.fdiv 2=aX true):=ie (by decide)
 have H2:Hid ((bW+1).fdiv 2=aY true):=ie (by decide)
 go_enter func78,ntmps78
 go_upto_region 1 with fail
 generalize M:(w.alloc _).alloc _=w1 at *;obtain⟨f,d,h⟩:=Bo.en2 M
 replace h':=h'.below h.out
 replace k':=k'.below h.out
 clear M
 go_wp2_with fail
 refine(dU 1 _ (by decide) (by decide)).mono ?_;rintro ee w2 ⟨m,j,l,k,rfl,c,hQ,B⟩;refine dG ?_ f d h' k' h B;clear f d h' k' h B;intro f d h' k' h
 go_wp2_with fail
 refine(dU 2 _ (by decide) (by decide)).mono ?_;rintro ee P ⟨O,J,N,L,rfl,g,hR,B⟩;refine jD ?_ f d h' k' c h B;clear f d h' k' c h B;intro f d h' k' c h
 go_upto_region 2 with fail
 have o:(World.alloc P (.cells #[.bool m,.slice j l k] 43)).heap.size=P.heap.size+1:=by simp
 have gP:=f.lt;have gS:=d.lt;have r:=ab P (.cells #[.bool m,.slice j l k] 43);replace f:=f.b r;replace d:=d.b r
 replace h':=h'.b r
 replace k':=k'.b r
 replace c:=c.b r;replace g:=g.b r;replace h:=ie (bt h.out r);have I:=Bo.new P #[.bool m,.slice j l k] 43;generalize n:World.alloc P (.cells #[.bool m,.slice j l k] 43)=w4 at *;clear n
 have hA:=f.lt;have hC:=d.lt;have hB:=I.lt;generalize n:w4.alloc _=w5 at *;obtain⟨W,BW⟩:=Bo.nw n;clear n;refine lN ?_ f d I h' k' c g h BW;clear f d I h' k' c g h BW;intro f d I h' k' c g h;rw[o]at W;clear o;have hH:=f.lt;have hM:=d.lt;have hI:=I.lt;have hL:=W.lt;refine aV [0,1,2,3,4,5,6,7,8,9,10] [8,9,10,11,12,13,14,15,16,17,18,0] [[],[0],[],[1,2],[],[4],[],[5,6],[],[7,8],[3,9],[]] 12 1 [Jo.qp w.heap.size 0,Jo.Fact.eq (.agg #[.bool s',.slice A' n' c']),Jo.Fact.eq (.agg #[.bool O,.slice J N L]),Jo.Fact.wn (aX true) (20),Jo.qp w.heap.size 2,Jo.Fact.eq (.agg #[.bool t',.slice B' m' d']),Jo.Fact.eq (.agg #[.bool m,.slice j l k]),Jo.Fact.wn (bW+1) (10),Jo.Fact.eq (.agg #[.bool O,.slice J N L]),Jo.Fact.wn (aY true) (20),Jo.Fact.sp (aX true) (aY true) (20),Jo.Fact.any] ?_ ?_
 ·iterate 3 (refine jm ?_ ?_;rotate_left)
  refine jm ?_ ?_
  ·rintro Q e _ rfl _ rfl K i;go_simp;exact Jo.w1 (lz (h'.b e).wr (g.b e).wr (by omega) (by omega) (by decide) H1.out) i.out
  refine jm ?_ ?_;rotate_left
  refine jm ?_ ?_
  ·rintro Q e _ rfl K i;have hN:=(f.b e).a 2 (.bool t') rfl;have hP:=(f.b e).a 3 (.slice B' m' d') rfl;go_simp;exact i.out _ _ rfl (br _ _)
  refine jm ?_ ?_;rotate_left
  refine jm ?_ ?_
  ·rintro Q e _ rfl _ rfl K i;go_simp;exact Jo.w1 (lR (k'.b e).wr (c.b e).wr (by omega) (by omega) rfl) i.out
  refine jm ?_ ?_;rotate_left
  refine jm ?_ ?_
  ·rintro Q e _ ⟨hE,U,gB,Y,rfl,C,bB⟩ _ rfl K i;go_simp;exact Jo.w1 (lz C.wr (g.b e).wr (by omega) (by omega) (by decide) H2.out) i.out
  refine jm ?_ ?_
  ·rintro Q e _ ⟨hD,T,bN,X,rfl,A,bA⟩ _ ⟨hF,V,gO,Z,rfl,D,bC⟩ K i;go_simp;exact i.out _ _ ⟨_,_,_,_,_,_,_,_,rfl,A,D,by omega,by omega⟩ (br _ _)
  exact jo
  all_goals (rintro Q e;(repeat rintro _ rfl);intro K i;have hS:=(f.b e).cell;have hU:=(W.b e).cell;have hT:=(I.b e).cell;go_simp;exact i.out _ _ rfl (br _ _))
 rintro w6 e _ _ _ rfl _ rfl _ ⟨hD,T,bN,X,rfl,A,bA⟩ _ _ _ rfl _ rfl _ ⟨hE,U,gB,Y,rfl,C,bB⟩ _ rfl _ ⟨hF,V,gO,Z,rfl,D,bC⟩ _ ⟨G,p,x,t,H,q,y,u,rfl,E,F,bD,bH⟩ -;simp only[Jo.z];replace d:=d.b e;replace h:=aj h e;clear h' k' c g A C D;have hG:=d.cell;have R:=d.frozen
 refine jn 11 fun K i=>?_
 go_simp;refine i.out _ _ ?_;clear i K hG R;have S:=ae.mk4 d (.bool G) (.slice p x t) (.bool H) (.slice q y u);replace E:=E.s S;replace F:=F.s S;refine jd ?_;go_wp2;exact bq (v:= .agg #[.bool G,.slice p x t,.bool H,.slice q y u]) (by simp[results,results78,go_sem,S.box.cell]) rfl ⟨G,p,x,t,H,q,y,u,rfl,E,F,bD,bH,(S.below h.out (by omega))⟩
theorem Hn{w:World}{A':Option Addr}{n' c':Nat}{s':Bool}{B':Option Addr}{m' d':Nat}{t':Bool}:Calls prog 62 #[.agg #[.bool s',.slice A' n' c',.bool t',.slice B' m' d']] w (vR w 20 (aX false) (aY false)):=by
 go_enter func62,ntmps62
 go_upto_region 1 with fail
 generalize a:(w.alloc _).alloc _=w1 at *;obtain⟨g,c,f⟩:=Bo.en2 a;clear a;have d:=c.cell;have b:=c.frozen;go_wp2;clear d b;have e:=ae.mk4 c (.bool false) (.slice none 0 0) (.bool false) (.slice none 0 0);exact bq (v:= .agg #[.bool false,.slice none 0 0,.bool false,.slice none 0 0]) (by simp[results,results62,go_sem,e.box.cell]) rfl ⟨_,_,_,_,_,_,_,_,rfl,⟨Nm.zero,rfl⟩,⟨Nm.zero,rfl⟩,Nat.zero_le _,Nat.zero_le _,(e.below f.out (by omega))⟩
def vS (fid:FuncId)(cos:Bool):Prop:=(∀(args:Array Value) (w:World),(callFunc fid args).run prog w= .ok (.enter fid args) w)/\∀(w:World) (s':Bool) (A':Option Addr) (n' c':Nat) (t':Bool) (B':Option Addr) (m' d':Nat),Wn w s' A' n' c' aH->Wn w t' B' m' d' bW->n'<=7->m'<=7->Calls prog fid #[.agg #[.bool s',.slice A' n' c',.bool t',.slice B' m' d']] w (vR w 20 (aX cos) (aY cos))
theorem rh:vS 62 false:=⟨fun _ _=>by first | rfl | kernel_rfl | simp[callFunc,go_sem],fun _ _ _ _ _ _ _ _ _ _ _ _ _=>Hn⟩
theorem Bm:vS 78 true:=⟨fun _ _=>by first | rfl | kernel_rfl | simp[callFunc,go_sem],fun _ _ _ _ _ _ _ _ _ h k hn hm=>Av h k hn hm⟩
def IN (w:World)(fid:FuncId)(o:Int)(e:Ending)(w':World):Prop:=∃s1 A1 n1 c1 s2 A2 n2 c2,e= .returned (.agg #[.func (.func fid) #[] #[],.int .i64 o,.bool s1,.slice A1 n1 c1,.bool s2,.slice A2 n2 c2])/\Wn w' s1 A1 n1 c1 aH/\Wn w' s2 A2 n2 c2 bW/\n1<=7/\n2<=7/\Below w.heap.size w w'
def Jo.Fact.wv (fid:FuncId)(o:Int):Jo.Fact:=⟨fun v w=>∃s1 A1 n1 c1 s2 A2 n2 c2,v= .agg #[.func (.func fid) #[] #[],.int .i64 o,.bool s1,.slice A1 n1 c1,.bool s2,.slice A2 n2 c2]/\Wn w s1 A1 n1 c1 aH/\Wn w s2 A2 n2 c2 bW/\n1<=7/\n2<=7,fun v w w' h b=>by
 obtain⟨s1,A1,n1,c1,s2,A2,n2,c2,e,p,q,k,l⟩:=h;exact⟨s1,A1,n1,c1,s2,A2,n2,c2,e,p.below b,q.below b,k,l⟩⟩
theorem Ax{w:World}:Calls prog 22 #[] w (IN w 62 1):=by
 go_enter func22,ntmps22
 go_upto_region 1 with fail
 generalize c:w.alloc _=w1 at *;obtain⟨a,f⟩:=Bo.en1 c;clear c
 go_wp2_with fail
 refine(sf).mono ?_;rintro k l ⟨s2,A2,n2,c2,s3,A3,n3,c3,rfl,p2,g,i,j,B⟩;replace a:=a.b B;replace f:=aj f B;clear B;have h:=a.cell;have d:=a.frozen;go_wp2;clear h d;have e:=ae.mk6 a (.func (.func 62) #[] #[]) (.int .i64 1) (.bool s2) (.slice A2 n2 c2) (.bool s3) (.slice A3 n3 c3)
 replace p2:=p2.s e;replace g:=g.s e;exact bq (v:= .agg #[.func (.func 62) #[] #[],.int .i64 1,.bool s2,.slice A2 n2 c2,.bool s3,.slice A3 n3 c3]) (by simp[results,results22,go_sem,e.box.cell]) rfl ⟨s2,A2,n2,c2,s3,A3,n3,c3,rfl,p2,g,i,j,(e.below f.out (by omega))⟩
theorem Hi{w:World}:Calls prog 24 #[] w (IN w 78 0):=by
 go_enter func24,ntmps24
 go_upto_region 1 with fail
 generalize c:w.alloc _=w1 at *;obtain⟨a,f⟩:=Bo.en1 c;clear c
 go_wp2_with fail
 refine(sf).mono ?_;rintro k l ⟨s2,A2,n2,c2,s3,A3,n3,c3,rfl,p2,g,i,j,B⟩;replace a:=a.b B;replace f:=aj f B;clear B;have h:=a.cell;have d:=a.frozen;go_wp2;clear h d;have e:=ae.mk6 a (.func (.func 78) #[] #[]) (.int .i64 0) (.bool s2) (.slice A2 n2 c2) (.bool s3) (.slice A3 n3 c3)
 replace p2:=p2.s e;replace g:=g.s e;exact bq (v:= .agg #[.func (.func 78) #[] #[],.int .i64 0,.bool s2,.slice A2 n2 c2,.bool s3,.slice A3 n3 c3]) (by simp[results,results24,go_sem,e.box.cell]) rfl ⟨s2,A2,n2,c2,s3,A3,n3,c3,rfl,p2,g,i,j,(e.below f.out (by omega))⟩
theorem Ay{w:World}:Calls prog 56 #[] w (PV w dY):=by
 go_enter func56,ntmps56
 go_upto_region 1 with fail
 generalize d:w.alloc _=w1 at *;obtain⟨a,c⟩:=Bo.en1 d;clear d
 go_wp2_with fail
 refine(qf (n:= -1) _ (by decide) (by decide) rfl).mono ?_;rintro l v ⟨t,s1,u,s,rfl,m,B⟩;replace a:=a.b B;replace c:=aj c B;clear B
 go_wp2_with fail
 refine(qf (n:=1) _ (by decide) (by decide) rfl).mono ?_;rintro l x ⟨K2,s2,M2,E2,rfl,o,B⟩;replace a:=a.b B;replace c:=aj c B;clear B
 go_wp2_with fail
 refine(gj m.top o.top m.rk o.rk rfl).mono ?_;rintro l y ⟨e3,p,s3,q,E3,g,i,h,f,rfl,r,B⟩;replace a:=a.b B;replace c:=aj c B;clear B;have j:=a.cell;have e:=a.frozen;go_wp2;clear j e;have k:=ae.t9 a e3 p s3 q E3 g i h f
 exact bq (by simp[results,results56,go_sem,k.box.cell]) rfl ⟨_,_,_,_,_,_,_,_,_,rfl,r,(k.below c.out (by omega))⟩
theorem FN{w:World}{fid:FuncId}{cos:Bool}{o:Int}{s1 s2:Bool}{A1 A2:Option Addr}{n1 c1 n2 c2:Nat}{D M E:Int}{s:Bool}{x gx:Int}(hT:dN w)(hah:vS fid cos)(p1:Wn w s1 A1 n1 c1 aH)(p2:Wn w s2 A2 n2 c2 bW)(k1:n1<=7)(k2:n2<=7)(h0:0<=M)(hM:LQ M)(hx:rk D s M E=x)(hf:aD x=false):Calls prog 47 #[.agg #[.func (.func fid) #[] #[],.int .i64 o,.bool s1,.slice A1 n1 c1,.bool s2,.slice A2 n2 c2],VQ D s M E] w (PV w dY):=by
 delta VQ
 obtain⟨Y,hg⟩:∃g,ak x=g:=⟨_,rfl⟩;have F:=ie hx;have A:=ie hf;have C:=ie hg;clear hx hf hg
 go_enter func47,ntmps47
 go_upto_region 1 with fail
 generalize h:((w.alloc _).alloc _).alloc _=w1 at *;obtain⟨W,J,a,c⟩:=Bo.en3 h;replace hT:=hT.below c.out;clear h;have y:=J.cell
 go_wp2_with fail
 refine(nN hT h0 hM h0 hM F.out F.out C.out C.out A.out A.out).mono ?_;rintro O V ⟨T,H,R,L,U,I,S,N,rfl,t,u,P,Q,B⟩;clear y;replace a:=a.b B;replace c:=aj c B;clear B
 go_upto_region 2 with fail
 have r:=a.lt;generalize i:V.alloc _=Z at *;obtain⟨X,l⟩:=Bo.nw i;clear i;replace a:=a.b l;replace c:=aj c l;clear l;clear t u p1 p2 hT
 go_wp2_with fail
 refine(Ay).mono ?_;rintro O w4 ⟨q,n,s30,p,m,e,j,f,d,rfl,v,B⟩;replace a:=a.b B;replace c:=aj c B;clear B;have z:=a.cell;have k:=a.frozen;go_wp2;clear z k;have G:=ae.t9 a q n s30 p m e j f d
 exact bq (by simp[results,results47,go_sem,G.box.cell]) rfl ⟨_,_,_,_,_,_,_,_,_,rfl,v,(G.below c.out (by omega))⟩
theorem FM{w:World}{fid:FuncId}{cos:Bool}{o:Int}{s1 s2:Bool}{A1 A2:Option Addr}{n1 c1 n2 c2:Nat}{D M E:Int}{s:Bool}{x gx:Int}(hT:dN w)(hah:vS fid cos)(p1:Wn w s1 A1 n1 c1 aH)(p2:Wn w s2 A2 n2 c2 bW)(k1:n1<=7)(k2:n2<=7)(h0:0<=M)(hM:LQ M)(hx:rk D s M E=x){l g r u:Int}{z:Sp}(hf:aD x=true)(hg:ak x=gx)(hl:Fb cos gx=l)(hh:GS cos gx=g)(hr:Rq false l SC r)(hu:Rq true g SC u)(hz:du r u=z):Calls prog 47 #[.agg #[.func (.func fid) #[] #[],.int .i64 o,.bool s1,.slice A1 n1 c1,.bool s2,.slice A2 n2 c2],VQ D s M E] w (PV w z):=by
 delta VQ
 have C:gx.natAbs < 4294967296^10:=by rw[<-hg];exact eN hf
 have p:(gx+1).natAbs < 4294967296^11:=by
  have e:(4294967296:Nat)^11=4294967296^10*4294967296:=by decide
  have e2:0 < (4294967296:Nat)^10:=Nat.pow_pos (by decide)
  omega
 have HX:=ie hx;have HF:=ie hf;have HG:=ie hg;have HL:=ie hl;have HH:=ie hh;have lA:=ie hr;have lB:=ie hu;have HZ:=ie hz;have hW:=ie C;have hX:=ie p;have bD:=ie hah;clear hx hf hg hl hh hr hu hz C p hah;have hY:=ie (Fc cos gx);have hZ:=ie (Fd cos gx)
 go_enter func47,ntmps47
 go_upto_region 1 with fail
 generalize gP:((w.alloc _).alloc _).alloc _=w1 at *;obtain⟨d,X3,i,h⟩:=Bo.en3 gP;replace hT:=hT.below h.out;replace p1:=p1.below h.out;replace p2:=p2.below h.out;clear gP;have HM:=X3.cell
 go_wp2_with fail
 refine(nN hT h0 hM h0 hM HX.out HX.out HG.out HG.out HF.out HF.out).mono ?_;rintro ee w2 ⟨HE,hR,ET,zX,HI,hU,HA,BX,rfl,j,k,HW,HY,B⟩;clear HM;refine jD ?_ d i hT p1 p2 h B;clear d i hT p1 p2 h B;intro d i hT p1 p2 h
 go_upto_region 2 with fail
 have HC:=d.lt;have HD:=i.lt;generalize gS:w2.alloc _=w3 at *;obtain⟨X5,BW⟩:=Bo.nw gS;clear gS;refine lN ?_ d i hT p1 p2 j k h BW;clear d i hT p1 p2 j k h BW;intro d i hT p1 p2 j k h;have HO:=j.fits hW.out;have HP:=k.fits hX.out
 go_upto_region 4 with fail
 have HR:=d.lt;have HT:=i.lt;have HS:=X5.lt;have HQ:=h.out.size;refine aV [0,1,2,3,4,5,6,7,8,9,10] [18,19,20,21,22,23,24,25,26,27,8,0] [[],[],[1],[],[3],[2,4],[0,5],[],[7],[6,8],[],[]] 12 1 [Jo.Fact.eq (.agg #[.bool HE,.slice hR ET zX,.bool HI,.slice hU HA BX]),Jo.qp w.heap.size 0,Jo.Fact.eq (.func (.func fid) #[] #[]),Jo.qp w.heap.size 2,Jo.Fact.eq (.agg #[.bool s1,.slice A1 n1 c1,.bool s2,.slice A2 n2 c2]),Jo.Fact.sp (aX cos) (aY cos) (20),Jo.Fact.sp (mA cos gx) (Be cos gx) (40),Jo.qp w.heap.size 2,Jo.Fact.eq (.agg #[.bool s1,.slice A1 n1 c1,.bool s2,.slice A2 n2 c2]),Jo.Fact.sp (l) (g) (7),Jo.Fact.bo w3.heap.size #[.bool false,.slice none 0 0,.bool false,.slice none 0 0] 45,Jo.Fact.any] ?_ ?_
 ·iterate 2 (refine jm ?_ ?_;rotate_left)
  refine jm ?_ ?_
  ·rintro X c _ rfl K f;have HU:=(d.b c).a 0 (.func (.func fid) #[] #[]) rfl;go_simp;exact f.out _ _ rfl (br _ _)
  refine jm ?_ ?_;rotate_left
  refine jm ?_ ?_
  ·rintro X c _ rfl K f;have hH:=(d.b c).a 2 (.bool s1) rfl;have hI:=(d.b c).a 3 (.slice A1 n1 c1) rfl;have hL:=(d.b c).a 4 (.bool s2) rfl;have hN:=(d.b c).a 5 (.slice A2 n2 c2) rfl;go_simp;exact f.out _ _ rfl (br _ _)
  refine jm ?_ ?_
  ·rintro X c _ rfl _ rfl K f;go_simp;rw[bD.out.1];simp only[Oper.upon];refine(bD.out.2 _ _ _ _ _ _ _ _ _ (p1.b c) (p2.b c) k1 k2).mono ?_;rintro ee wk ⟨U,F,R,I,s32,A32,n32,c32,rfl,q,t,N,O,B⟩;exact f.out _ _ ⟨U,F,R,I,s32,A32,n32,c32,rfl,q,t,N,O⟩ B
  refine jm ?_ ?_
  ·rintro X c _ rfl _ ⟨U,F,R,I,s32,A32,n32,c32,rfl,q,t,N,O⟩ K f;go_simp;refine(Hl (Z:=40) (j.b c) (k.b c) q t (by omega) (by omega) (by omega) (by omega) (by omega) (by omega) hY.out hZ.out).mono ?_;rintro ee wk ⟨V,G,S,J,W,H,T,L,rfl,v,y,P,Q,B⟩;exact f.out _ _ ⟨V,G,S,J,W,H,T,L,rfl,v,y,P,Q⟩ B
  refine jm ?_ ?_;rotate_left
  refine jm ?_ ?_
  ·rintro X c _ rfl K f;have hH:=(d.b c).a 2 (.bool s1) rfl;have hI:=(d.b c).a 3 (.slice A1 n1 c1) rfl;have hL:=(d.b c).a 4 (.bool s2) rfl;have hN:=(d.b c).a 5 (.slice A2 n2 c2) rfl;go_simp;exact f.out _ _ rfl (br _ _)
  refine jm ?_ ?_
  ·rintro X c _ ⟨V,G,S,J,W,H,T,L,rfl,v,y,P,Q⟩ _ rfl K f;go_simp;refine(Hm v y (p1.b c) (p2.b c) k1 k2 (by omega) (by omega) HL.out HH.out).mono ?_;rintro ee wk ⟨hE,bA,hC,gB,hF,bB,hD,gO,rfl,m,n,hA,hB,B⟩;exact f.out _ _ ⟨hE,bA,hC,gB,hF,bB,hD,gO,rfl,m,n,hA,hB⟩ B
  refine jm ?_ ?_
  ·rintro X c K f;go_simp;exact f.out _ _ ⟨_,rfl,c.size,Bo.new _ _ _⟩ (ab _ _)
  exact jo
  all_goals (rintro X c;(repeat rintro _ rfl);intro K f;have JA:=(X5.b c).cell;go_simp;exact f.out _ _ rfl (br _ _))
 rintro w4 c _ rfl _ _ _ rfl _ _ _ rfl _ ⟨U,F,R,I,s32,A32,n32,c32,rfl,q,t,N,O⟩ _ ⟨V,G,S,J,W,H,T,L,rfl,v,y,P,Q⟩ _ _ _ rfl _ ⟨hE,bA,hC,gB,hF,bB,hD,gO,rfl,m,n,hA,hB⟩ _ ⟨g7,rfl,HV,X7⟩ -;simp only[Jo.z];replace i:=i.b c;replace hT:=hT.b c;replace h:=aj h c;clear p1 p2 j k q t v y d X3 X5
 have Y:=X7.cell;have hP:=X7.frozen
 refine jn 11 fun K f=>?_
 go_simp;refine f.out _ _ ?_;clear f K Y hP;generalize hS:(((w4.setCell _ _).setCell _ _).setCell _ _).setCell _ _=w5 at *;have A:=ae.of4 X7 hS;replace i:=i.s A;replace hT:=hT.s A;replace m:=m.s A;replace n:=n.s A;replace h:=aP h A (by omega);replace X7:=A.box
 clear A hS;refine jd ?_
 go_upto_region 5 with fail
 have Y:=X7.cell
 go_wp2_with fail
 refine(Gu hT m.wr n.wr (by omega) (by omega) lA.out lB.out HZ.out).mono ?_;rintro ee w6 ⟨DS,qT,HJ,xX,hV,bH,hG,bN,bC,rfl,HK,B⟩;clear Y;replace i:=i.b B;replace h:=aj h B;clear B;clear hT m n X7;have HN:=i.cell;have hQ:=i.frozen;go_wp2;clear HN hQ
 have A:=ae.t9 i DS qT HJ xX hV bH hG bN bC;exact bq (by simp[results,results47,go_sem,A.box.cell]) rfl ⟨_,_,_,_,_,_,_,_,_,rfl,HK,(A.below h.out (by omega))⟩
theorem IT{w:World}{fid:FuncId}{cos:Bool}{o:Int}{s1 s2:Bool}{A1 A2:Option Addr}{n1 c1 n2 c2:Nat}{D M E:Int}{s:Bool}{x:Int}{z:Sp}(hT:dN w)(hah:vS fid cos)(p1:Wn w s1 A1 n1 c1 aH)(p2:Wn w s2 A2 n2 c2 bW)(k1:n1<=7)(k2:n2<=7)(h0:0<=M)(hM:LQ M)(hx:rk D s M E=x)(hz:Sv cos x z):Calls prog 47 #[.agg #[.func (.func fid) #[] #[],.int .i64 o,.bool s1,.slice A1 n1 c1,.bool s2,.slice A2 n2 c2],VQ D s M E] w (PV w z):=by
 delta VQ
 rcases hz with⟨hf,rfl⟩ | ⟨hf,r,u,a,b,hz⟩
 ·exact FN (gx:=0) hT hah p1 p2 k1 k2 h0 hM hx hf
 ·exact FM hT hah p1 p2 k1 k2 h0 hM hx hf rfl rfl rfl a b hz
theorem Iz{w:World}{D M E:Int}{s:Bool}{x:Int}{z:Sp}(hT:dN w)(h0:0<=M)(hM:LQ M)(hx:rk D s M E=x)(hz:Sv false x z):Calls prog 15 #[VQ D s M E] w (PV w z):=by
 delta VQ
 have R:=ie hx;have S:=ie hz;clear hx hz
 go_enter func15,ntmps15
 go_upto_region 1 with fail
 generalize u:(w.alloc _).alloc _=w1 at *;obtain⟨N,p,A⟩:=Bo.en2 u;replace hT:=hT.below A.out;clear u;have O:=N.lt;have P:=p.lt;refine aV [0,1,2] [4,5,6,0] [[],[],[0,1],[]] 4 1 [Jo.Fact.wv (62) (1),Jo.q4 D s M E,Jo.Fact.iv z,Jo.Fact.any] ?_ ?_
 ·refine jm ?_ ?_
  ·rintro Q k K f;go_simp;refine(Ax).mono ?_;rintro U W ⟨n,g,l,i,o,h,m,j,rfl,a,c,d,e,B⟩;exact f.out _ _ ⟨n,g,l,i,o,h,m,j,rfl,a,c,d,e⟩ B
  refine jm ?_ ?_
  ·rintro Q k K f;have T:=(N.b k).cell;go_simp;exact f.out _ _ rfl (br _ _)
  refine jm ?_ ?_
  ·rintro Q k _ ⟨n,g,l,i,o,h,m,j,rfl,a,c,d,e⟩ _ rfl K f;go_simp;exact Jo.v1 (IT (hT.b k) rh a c d e h0 hM R.out S.out) f.out
  exact jo
 rintro V k _ ⟨n,g,l,i,o,h,m,j,rfl,a,c,d,e⟩ _ rfl _ ⟨H,F,s30,G,C,r,v,t,q,rfl,I⟩ -;simp only[Jo.z];replace p:=p.b k;replace A:=aj A k;clear hT a c;have J:=p.cell;have y:=p.frozen
 refine jn 3 fun K f=>?_
 go_simp;refine f.out _ _ ?_;clear f K J y;have L:=ae.t9 p H F s30 G C r v t q;refine jd ?_;go_wp2;exact bq (by simp[results,results15,go_sem,L.box.cell]) rfl ⟨_,_,_,_,_,_,_,_,_,rfl,I,(L.below A.out (by omega))⟩
def tX (cos:Bool):Int:=if cos then 0 else 1
theorem Er (cos:Bool)(i:Int):2*i+tX cos=iI cos i:=by
 unfold iI tX
 cases cos
 ·rfl
 ·show 2*i+0=2*i
  omega
theorem FH{w:World}{fid:FuncId}{o:Int}{s1 s2:Bool}{A1 A2:Option Addr}{n1 c1 n2 c2:Nat}{j z u v:Int}(p1:Wn w s1 A1 n1 c1 aH)(p2:Wn w s2 A2 n2 c2 bW)(k1:n1<=7)(k2:n2<=7)(j1: -4398046511104<=j)(j2:j<=4398046511104)(ho:0<=o/\o<=1)(hz:2*j+o=z)(hu:mo z=u)(hv:GH z=v):Calls prog 125 #[.agg #[.func (.func fid) #[] #[],.int .i64 o,.bool s1,.slice A1 n1 c1,.bool s2,.slice A2 n2 c2],.int .i64 j] w (vR w 15 u v):=by
 have I:=iw (2*j)
 have J:Hid (IntKind.i64.wrap (2*j+o)=z):=ie (by rw[<-hz];exact IntWalk.i64_in _ (by omega))
 have M:Hid (wrap64 (2*j+o)=z):=ie (by rw[<-hz];exact IntWalk.wrap64_in _ (by omega))
 have D:Hid (-9223372036854775808<=z/\z<=9223372036854775807):=ie ⟨by omega,by omega⟩
 have HU:Hid ((if z < 0 then z*bW else z*aH)=u):=ie hu
 have HV:Hid ((if z < 0 then z*aH else z*bW)=v):=ie hv
 clear hz hu hv j1 j2 ho
 go_enter func125,ntmps125
 go_upto_region 1 with fail
 generalize E:(w.alloc _).alloc _=w1 at *;obtain⟨x,y,C⟩:=Bo.en2 E;replace p1:=p1.below C.out;replace p2:=p2.below C.out;clear E;have S:=x.lt;have T:=y.lt;refine aV [0,1,2,3,4,5,6,7,8] [6,7,8,9,10,11,12,13,14,0] [[],[0],[],[2],[],[4],[3,5],[6],[1,7],[]] 10 1 [Jo.qp w.heap.size 2,Jo.Fact.eq (.agg #[.bool s1,.slice A1 n1 c1,.bool s2,.slice A2 n2 c2]),Jo.qi j,Jo.Fact.eq (.int .i64 (2*j)),Jo.qp w.heap.size 1,Jo.qi o,Jo.Fact.eq (.int .i64 (z)),Jo.Fact.wn (z) (2),Jo.Fact.sp (u) (v) (15),Jo.Fact.any] ?_ ?_
 ·refine jm ?_ ?_;rotate_left
  refine jm ?_ ?_
  ·rintro A c _ rfl K d;have V:=(x.b c).a 2 (.bool s1) rfl;have W:=(x.b c).a 3 (.slice A1 n1 c1) rfl;have X:=(x.b c).a 4 (.bool s2) rfl;have Y:=(x.b c).a 5 (.slice A2 n2 c2) rfl;go_simp;exact d.out _ _ rfl (br _ _)
  refine jm ?_ ?_;rotate_left
  refine jm ?_ ?_
  ·rintro A c _ rfl K d;have hw:=I.out;go_simp
   exact d.out _ _ (by first | rfl | (show Value.int _ _=Value.int _ _;simp_all)) (br _ _)
  refine jm ?_ ?_;rotate_left
  refine jm ?_ ?_
  ·rintro A c _ rfl K d;have U:=(x.b c).a 1 (.int .i64 o) rfl;go_simp;exact d.out _ _ rfl (br _ _)
  refine jm ?_ ?_
  ·rintro A c _ rfl _ rfl K d;have hw:=J.out;have bA:=M.out;go_simp
   exact d.out _ _ (by first | rfl | (show Value.int _ _=Value.int _ _;simp_all)) (br _ _)
  refine jm ?_ ?_
  ·rintro A c _ rfl K d;go_simp;exact Jo.w1 (dU z _ D.out.1 D.out.2) d.out
  refine jm ?_ ?_
  ·rintro A c _ rfl _ ⟨Q,H,P,N,rfl,t,O⟩ K d;go_simp;refine(qQ (L:=7) (Z:=15) (p1.b c) (p2.b c) t k1 k2 (by omega) (by omega) (by omega) HU.out HV.out).mono ?_;rintro ee wk ⟨n,e,i,g,p,f,k,h,rfl,l,m,q,r,B⟩;exact d.out _ _ ⟨n,e,i,g,p,f,k,h,rfl,l,m,q,r⟩ B
  exact jo
  all_goals (rintro A c;(repeat rintro _ rfl);intro K d;go_simp;exact d.out _ _ rfl (br _ _))
 rintro w2 c _ _ _ rfl _ rfl _ rfl _ _ _ rfl _ rfl _ ⟨Q,H,P,N,rfl,t,O⟩ _ ⟨n,e,i,g,p,f,k,h,rfl,l,m,q,r⟩ -;simp only[Jo.z];replace y:=y.b c;replace C:=aj C c;clear p1 p2 t;have R:=y.cell;have F:=y.frozen
 refine jn 9 fun K d=>?_
 go_simp;refine d.out _ _ ?_;clear d K R F;have G:=ae.mk4 y (.bool n) (.slice e i g) (.bool p) (.slice f k h);replace l:=l.s G;replace m:=m.s G;refine jd ?_;go_wp2;exact bq (v:= .agg #[.bool n,.slice e i g,.bool p,.slice f k h]) (by simp[results,results125,go_sem,G.box.cell]) rfl ⟨n,e,i,g,p,f,k,h,rfl,l,m,q,r,(G.below C.out (by omega))⟩
theorem FI{w:World}{fid:FuncId}{o:Int}{s1 s2:Bool}{A1 A2:Option Addr}{n1 c1 n2 c2:Nat}{s3 s4:Bool}{A3 A4:Option Addr}{n3 c3 n4 c4:Nat}{x y:Int}{j:Int}(p1:Wn w s1 A1 n1 c1 aH)(p2:Wn w s2 A2 n2 c2 bW)(k1:n1<=7)(k2:n2<=7)(p3:Wn w s3 A3 n3 c3 x)(p4:Wn w s4 A4 n4 c4 y)(k3:n3<=1000)(k4:n4<=1000)(hj:x.fdiv (2*aH)=j)(hf:fits j=true):Calls prog 124 #[.agg #[.func (.func fid) #[] #[],.int .i64 o,.bool s1,.slice A1 n1 c1,.bool s2,.slice A2 n2 c2,.bool s3,.slice A3 n3 c3,.bool s4,.slice A4 n4 c4]] w (PI w j):=by
 have R:=ie (iZ (z:=2) (x:=aH));have Q:=ie hj;have q:=ie hf;clear hj hf
 go_enter func124,ntmps124
 go_upto_region 1 with fail
 generalize k:w.alloc _=w1 at *;obtain⟨l,i⟩:=Bo.en1 k;replace p1:=p1.below i.out;replace p3:=p3.below i.out;clear k;refine aV [0,1,2,3,4,5,6,7,8,9,10,11,12,13,14,15,16] [7,8,9,10,11,12,13,14,15,16,17,18,6,19,20,4,5] [[],[0],[1],[],[],[4],[5],[6],[3,7],[8],[2,9],[10],[11],[12],[12],[13],[14]] 17 0 [Jo.qp w.heap.size 6,Jo.qp w.heap.size 6,Jo.Fact.eq (.agg #[.bool s3,.slice A3 n3 c3]),Jo.Fact.wn (2) (2),Jo.qp w.heap.size 0,Jo.qp w.heap.size 2,Jo.qp w.heap.size 2,Jo.Fact.eq (.agg #[.bool s1,.slice A1 n1 c1]),Jo.Fact.wl 7 2 [2,aH],Jo.Fact.wn (2*aH) (15),Jo.Fact.wn (j) (1020),Jo.Fact.eq (.tuple #[.int .i64 j,.bool true]),Jo.Fact.eq (.tuple #[.int .i64 j,.bool true]),Jo.qi j,Jo.qb true,Jo.qi j,Jo.qb true] ?_ ?_
 ·iterate 2 (refine jm ?_ ?_;rotate_left)
  refine jm ?_ ?_
  ·rintro e d _ rfl K c;have N:=(l.b d).a 6 (.bool s3) rfl;have O:=(l.b d).a 7 (.slice A3 n3 c3) rfl;go_simp;exact c.out _ _ rfl (br _ _)
  refine jm ?_ ?_
  ·rintro e d K c;go_simp;exact Jo.w1 (dU 2 _ (by decide) (by decide)) c.out
  iterate 3 (refine jm ?_ ?_;rotate_left)
  refine jm ?_ ?_
  ·rintro e d _ rfl K c;have L:=(l.b d).a 2 (.bool s1) rfl;have M:=(l.b d).a 3 (.slice A1 n1 c1) rfl;go_simp;exact c.out _ _ rfl (br _ _)
  refine jm ?_ ?_
  ·rintro e d _ ⟨H,m,E,s,rfl,f,A⟩ _ rfl K c;go_simp;exact c.out _ _ ⟨_,_,rfl,Wl.lit2 rfl f.wr (p1.b d).wr (by omega) (by omega)⟩ (ab _ _)
  refine jm ?_ ?_
  ·rintro e d _ ⟨P,S,rfl,v⟩ K c;go_simp;exact Jo.w1 (jp v (by decide) R.out) c.out
  refine jm ?_ ?_
  ·rintro e d _ rfl _ ⟨I,n,F,t,rfl,g,C⟩ K c;go_simp;exact Jo.w1 (lz (p3.b d).wr g.wr (by omega) (by omega) (by decide) Q.out) c.out
  refine jm ?_ ?_
  ·rintro e d _ ⟨J,p,G,u,rfl,h,D⟩ K c;go_simp;refine(II (r:=j) h.wr q.out rfl).mono ?_;rintro T V ⟨rfl,B⟩;exact c.out _ _ rfl B
  refine jm ?_ ?_
  ·rintro e d _ rfl K c;go_simp
   exact c.out _ _ (by first | rfl | simp_all) (br _ _)
  refine jm ?_ ?_
  ·rintro e d _ rfl K c;go_simp
   exact c.out _ _ (by first | rfl | simp_all) (br _ _)
  refine jm ?_ ?_
  ·rintro e d _ rfl K c;go_simp
   exact c.out _ _ (by first | rfl | simp_all) (br _ _)
  refine jm ?_ ?_
  ·rintro e d _ rfl K c;go_simp
   exact c.out _ _ (by first | rfl | simp_all) (br _ _)
  refine jm ?_ ?_
  ·rintro e d _ rfl K c;go_simp
   exact c.out _ _ (by first | rfl | simp_all) (br _ _)
  exact jo
  all_goals (rintro e d;(repeat rintro _ rfl);intro K c;go_simp;exact c.out _ _ rfl (br _ _))
 rintro U d _ _ _ _ _ rfl _ ⟨H,m,E,s,rfl,f,A⟩ _ _ _ _ _ _ _ rfl _ ⟨_,_,rfl,_⟩ _ ⟨I,n,F,t,rfl,g,C⟩ _ ⟨J,p,G,u,rfl,h,D⟩ _ rfl _ rfl _ rfl _ rfl _ rfl _ rfl -;simp only[Jo.z];replace i:=aj i d;refine jd ?_;clear p1 p3 f g h;go_wp2
 go_ret
 exact⟨rfl,i.out⟩
def IV (w:World)(cos:Bool)(x y j:Int)(e:Ending)(w':World):Prop:=∃k A n c,e= .returned (.slice A n c)/\Ia w' w.heap.size A n c (ku cos x y j k)/\n<=6/\y < mo (iI cos (j+(k:Nat)))/\Below w.heap.size w w'
def Dw (w:World)(cos:Bool)(x y j:Int)(cs:Array Value)(A:Option Addr)(n c k:Nat)(wr:World):Prop:=Ia wr w.heap.size A n c (ku cos x y j k)/\n<=k/\k<=6/\Bo wr w.heap.size cs 67/\Below w.heap.size w wr
theorem Dk{w:World}{A:Option Addr}{n c:Nat}{s:Bool}{x:Int}{B:Option Addr}{m d:Nat}{t:Bool}{y:Int}{A':Option Addr}{n' c':Nat}{s':Bool}{x':Int}{B':Option Addr}{m' d':Nat}{t':Bool}{y':Int}{r:Bool}(h:Wn w s A n c x)(k:Wn w t B m d y)(h':Wn w s' A' n' c' x')(k':Wn w t' B' m' d' y')(hr:(decide (x<=y') && decide (x'<=y))=r):Calls prog 127 #[.agg #[.bool s,.slice A n c,.bool t,.slice B m d],.agg #[.bool s',.slice A' n' c',.bool t',.slice B' m' d']] w (PB w r):=hr▸FJ h k h' k' rfl rfl
theorem yx{cos:Bool}{x y i z:Int}{r:Bool}(hz:iI cos i=z)(hr:aW (iI cos i) x y=r):(decide (mo z<=y) && decide (x<=GH z))=r:=by rw[<-hr,rF,hz]
theorem Gx{cos:Bool}{x y j i:Int}{k:Nat}(hi:i=j+k)(h:aW (iI cos i) x y=false):ku cos x y j (k+1)=ku cos x y j k:=by
 show ku cos x y j k ++_=_
 rw[<-hi,h];exact List.append_nil _
theorem xk{cos:Bool}{x y j i:Int}{k:Nat}(hi:i=j+k)(h:aW (iI cos i) x y=true):ku cos x y j (k+1)=ku cos x y j k ++[jr i]:=by
 show ku cos x y j k ++_=_
 rw[<-hi,h]
 rfl
theorem Gw{cos:Bool}{y j:Int}{k:Nat}(hst:y < mo (iI cos (j+6)))(hk:k<=6)(h:¬y < mo (iI cos (j+k))):k+1<=6:=by
 rcases Nat.lt_or_ge k 6 with c | c
 ·omega
 ·obtain rfl:k=6:=by omega
  exact absurd hst h
theorem Dj{w:World}{fid:FuncId}{o:Int}{s1 s2:Bool}{A1 A2:Option Addr}{n1 c1 n2 c2:Nat}{cos:Bool}{s3 s4:Bool}{A3 A4:Option Addr}{n3 c3 n4 c4:Nat}{x y:Int}{j:Int}(p1:Wn w s1 A1 n1 c1 aH)(p2:Wn w s2 A2 n2 c2 bW)(k1:n1<=7)(k2:n2<=7)(p3:Wn w s3 A3 n3 c3 x)(p4:Wn w s4 A4 n4 c4 y)(k3:n3<=1000)(k4:n4<=1000)(ho:tX cos=o)(hj:x.fdiv (2*aH)=j)(j1: -1099511627776<=j)(j2:j<=1099511627776)(hst:y < mo (iI cos (j+6))):Calls prog 60 #[.agg #[.func (.func fid) #[] #[],.int .i64 o,.bool s1,.slice A1 n1 c1,.bool s2,.slice A2 n2 c2,.bool s3,.slice A3 n3 c3,.bool s4,.slice A4 n4 c4]] w (IV w cos x y j):=by
 have bB:Hid (fits j=true):=ie (by unfold fits;simp;omega)
 have gP:Hid (0<=o/\o<=1):=ie (by rw[<-ho];unfold tX;cases cos <;> decide)
 have HO:=ie ho;have HJ:=ie hj;have gS:=ie hst;clear ho hj hst
 go_enter func60,ntmps60
 go_upto_region 1 with fail
 have d:=Bo.newAt w (g:=w.heap.size) rfl #[.func (.func fid) #[] #[],.int .i64 o,.bool s1,.slice A1 n1 c1,.bool s2,.slice A2 n2 c2,.bool s3,.slice A3 n3 c3,.bool s4,.slice A4 n4 c4] 67
 have a:Hid (Below w.heap.size w (World.alloc w (.cells #[.func (.func fid) #[] #[],.int .i64 o,.bool s1,.slice A1 n1 c1,.bool s2,.slice A2 n2 c2,.bool s3,.slice A3 n3 c3,.bool s4,.slice A4 n4 c4] 67))):=ie (ab w (.cells #[.func (.func fid) #[] #[],.int .i64 o,.bool s1,.slice A1 n1 c1,.bool s2,.slice A2 n2 c2,.bool s3,.slice A3 n3 c3,.bool s4,.slice A4 n4 c4] 67))
 generalize hE:World.alloc w (.cells #[.func (.func fid) #[] #[],.int .i64 o,.bool s1,.slice A1 n1 c1,.bool s2,.slice A2 n2 c2,.bool s3,.slice A3 n3 c3,.bool s4,.slice A4 n4 c4] 67)=w1 at *;clear hE
 go_upto_region 2 with fail
 have G:=d.cell;have q1:=p1.below a.out;have q2:=p2.below a.out;have q3:=p3.below a.out;have P:=p4.below a.out
 go_wp2_with fail
 refine(FI q1 q2 k1 k2 q3 P k3 k4 HJ.out bB.out).mono ?_;rintro X w2 ⟨rfl,B⟩;clear G;replace d:=d.b B;replace a:=aj a B;clear B;clear q1 q2 q3 P bB
 have bD:Dw w cos x y j #[.func (.func fid) #[] #[],.int .i64 o,.bool s1,.slice A1 n1 c1,.bool s2,.slice A2 n2 c2,.bool s3,.slice A3 n3 c3,.bool s4,.slice A4 n4 c4] none 0 0 0 w2:=⟨Ia.nil _ _,Nat.le_refl _,by decide,d,a.out⟩
 have bC:=ie bD;clear bD d a;go_wp2
 go_loopw [3,4] (fun va v wr=>∃(k:Nat) (i:Int) (A:Option Addr) (n c:Nat),va= .slice A n c/\v= .int .i64 i/\i=j+k/\Dw w cos x y j #[.func (.func fid) #[] #[],.int .i64 o,.bool s1,.slice A1 n1 c1,.bool s2,.slice A2 n2 c2,.bool s3,.slice A3 n3 c3,.bool s4,.slice A4 n4 c4] A n c k wr) (fun _ v _=>((j+7)-intOf v).toNat)
 case atStart=>exact ⟨0,j,_,_,_,rfl,rfl,by omega,bC.out⟩
 case round=>
  obtain⟨k,i,A,n,c,rfl,rfl,hi,N,hL,hk,d,hB⟩:=hrel;have a:=ie hB;have f:=ie hi
  have i1: -4398046511104<=i:=by omega
  have i2:i<=4398046511104:=by omega
  clear hB bC hi;obtain⟨z,hz⟩:∃z,iI cos i=z:=⟨_,rfl⟩;obtain⟨u,hu⟩:∃z',mo z=z':=⟨_,rfl⟩;obtain⟨v,hv⟩:∃z',GH z=z':=⟨_,rfl⟩;obtain⟨r,hr⟩:∃r,aW (iI cos i) x y=r:=⟨_,rfl⟩;obtain⟨σ,hσ⟩:∃σ,ah u y=σ:=⟨_,rfl⟩;have e1:=(bL hσ).2;have hm:=yx hz hr;rw[hu,hv]at hm
  have gB:2*i+o=z:=by rw[<-hz,<-Er,HO.out]
  have HZ:=ie hz;have hA:=ie gB;have HU:=ie hu;have HV:=ie hv;have HR:=ie hr;have HM:=ie hm;have HS:=ie hσ;have S:=iw (i+1);have T:=jw (i+1);clear hz gB hu hv hr hm hσ
  go_upto_region 4 with fail
  have q1:=p1.below a.out;have q2:=p2.below a.out;have G:=d.cell
  go_wp2_with fail
  refine(FH q1 q2 k1 k2 i1 i2 gP.out hA.out HU.out HV.out).mono ?_;rintro X w3 ⟨hR,hH,hP,hJ,hS,hI,hQ,hK,rfl,p,q,hM,hN,B⟩;clear G;refine aE ?_ d N a B;clear d N a B;intro d N a;clear q1 q2;have hG:=a.out.size
  go_upto_region 5 with fail
  have hF:=d.lt;generalize bH:w3.alloc _=w4 at *;obtain⟨V,BW⟩:=Bo.nw bH;clear bH;refine dG ?_ d N p q a BW;clear d N p q a BW;intro d N p q a;have P:=p4.below a.out;have bA:=V.cell;have G:=d.cell
  go_wp2_with fail
  refine(lS p.wr P.wr HS.out).mono ?_;rintro X w5 ⟨rfl,B⟩;clear bA G;refine jD ?_ d V N p q a B;clear d V N p q a B;intro d V N p q a;clear P
  by_cases M:y < u
  ·rw[dt M]at e1
   have bN:y < mo (iI cos (j+(k:Nat))):=by rw[<-f.out,HZ.out,HU.out];exact M
   go_wp2
   go_ret
   exact⟨k,_,_,_,rfl,N,by omega,bN,a.out⟩
  ·rw[df M]at e1
   have hk1:k+1<=6:=Gw gS.out hk (by rw[<-f.out,HZ.out,HU.out];exact M)
   go_upto_region 7 with fail
   clear e1;have q3:=p3.below a.out;have P:=p4.below a.out;have bA:=V.cell;have G:=d.cell
   go_wp2_with fail
   refine(Dk p q q3 P HM.out).mono ?_;rintro X w6 ⟨rfl,B⟩;clear bA G;refine aE ?_ d N a B;clear d N a B;intro d N a;clear q3 P p q HM HS
   cases r
   ·have I:=S.out;have J:=T.out;go_wp2;clear I J
    go_roundw
    case rel=>exact ⟨k+1,i+1,_,_,_,rfl,rfl,(by have:=f.out;omega),by rw[Gx f.out HR.out];exact N,by omega,hk1,d,a.out⟩
    case measure=>
     have:=f.out
     simp[intOf]
     omega
   ·by_cases O:i%2=0
    ·have H:jr i=du (al 1) (al 1):=by unfold jr;rw[if_pos O]
     have R:=ie H.symm;clear H
     have Y:bits .and .i64 i 1=0:=by rw[ri];omega
     go_upto_region 8 with fail
     go_wp2_with fail
     refine(qf (n:=1) (r:=al 1) _ (by decide) (by decide) rfl).mono ?_;rintro X w7 ⟨hC,s30,hD,gO,rfl,L,B⟩;refine aE ?_ d N a B;clear d N a B;intro d N a;clear Y
     go_wp2_with fail
     refine(j7 L.top L.rk R.out).mono ?_;rintro X w8 ⟨D,t,F,C,s,h,m,l,e,rfl,Z,B⟩;refine aE ?_ d N a B;clear d N a B;intro d N a
     go_wp2_with (at_builtin;refine jJ rfl _ _ rfl rfl rfl (N.below (ab _ _)) (Ia.lit (Bo.new _ _ _) Z) (by decide) (by omega) (Nat.le_trans a.out.size (ab _ _).size) ?_)
     intro A5 d5 w9 N' Q W
     have E:=bt a.out (ab _ (.cells #[.bool D,.int .i64 t,.bool F,.int .u64 C,.int .i64 s,.int .i64 h,.bool m,.int .u64 l,.int .i64 e] 26));have U:=N.below (ab _ (.cells #[.bool D,.int .i64 t,.bool F,.int .u64 C,.int .i64 s,.int .i64 h,.bool m,.int .u64 l,.int .i64 e] 26));replace d:=(d.below (ab _ (.cells #[.bool D,.int .i64 t,.bool F,.int .u64 C,.int .i64 s,.int .i64 h,.bool m,.int .u64 l,.int .i64 e] 26))).grownI U (by decide) Q
     replace a:=ie (E.grown Q E.size (fun k hk=>(U.own_lt k hk).1))
     clear N U Q E W V;have I:=S.out;have J:=T.out;go_wp2;clear I J
     go_roundw
     case rel=>exact ⟨k+1,i+1,_,_,_,rfl,rfl,(by have:=f.out;omega),by rw[xk f.out HR.out];exact N',by omega,hk1,d,a.out⟩
     case measure=>
      have:=f.out
      simp[intOf]
      omega
    ·have H:jr i=du (al (-1)) (al (-1)):=by unfold jr;rw[if_neg O]
     have R:=ie H.symm;clear H
     have Y:bits .and .i64 i 1=1:=by rw[ri];omega
     go_upto_region 8 with fail
     go_wp2_with fail
     refine(qf (n:=(-1)) (r:=al (-1)) _ (by decide) (by decide) rfl).mono ?_;rintro X w7 ⟨hC,s30,hD,gO,rfl,L,B⟩;refine aE ?_ d N a B;clear d N a B;intro d N a;clear Y
     go_wp2_with fail
     refine(j7 L.top L.rk R.out).mono ?_;rintro X w8 ⟨D,t,F,C,s,h,m,l,e,rfl,Z,B⟩;refine aE ?_ d N a B;clear d N a B;intro d N a
     go_wp2_with (at_builtin;refine jJ rfl _ _ rfl rfl rfl (N.below (ab _ _)) (Ia.lit (Bo.new _ _ _) Z) (by decide) (by omega) (Nat.le_trans a.out.size (ab _ _).size) ?_)
     intro A5 d5 w9 N' Q W
     have E:=bt a.out (ab _ (.cells #[.bool D,.int .i64 t,.bool F,.int .u64 C,.int .i64 s,.int .i64 h,.bool m,.int .u64 l,.int .i64 e] 26));have U:=N.below (ab _ (.cells #[.bool D,.int .i64 t,.bool F,.int .u64 C,.int .i64 s,.int .i64 h,.bool m,.int .u64 l,.int .i64 e] 26));replace d:=(d.below (ab _ (.cells #[.bool D,.int .i64 t,.bool F,.int .u64 C,.int .i64 s,.int .i64 h,.bool m,.int .u64 l,.int .i64 e] 26))).grownI U (by decide) Q
     replace a:=ie (E.grown Q E.size (fun k hk=>(U.own_lt k hk).1))
     clear N U Q E W V;have I:=S.out;have J:=T.out;go_wp2;clear I J
     go_roundw
     case rel=>exact ⟨k+1,i+1,_,_,_,rfl,rfl,(by have:=f.out;omega),by rw[xk f.out HR.out];exact N',by omega,hk1,d,a.out⟩
     case measure=>
      have:=f.out
      simp[intOf]
      omega
def Nq (w:World)(A:Option Addr)(n c:Nat)(l:List Int):Prop:=
 l.length=n/\n<=c/\n<=1000/\(0 < n->∃b o,A=some ⟨b,o,none⟩/\∀k,k < n->∃D s M E,w.cell? ⟨b,o+k*4,none⟩=some (.int .i64 D)/\w.cell? ⟨b,o+k*4+1,none⟩=some (.bool s)/\w.cell? ⟨b,o+k*4+2,none⟩=some (.int .u64 M)/\w.cell? ⟨b,o+k*4+3,none⟩=some (.int .i64 E)/\Fq D s M E (l.getD k 0))
theorem Nq.below{w w':World}{A:Option Addr}{n c:Nat}{l:List Int}(h:Nq w A n c l)(hb:Below w.heap.size w w'):Nq w' A n c l:=by
 obtain⟨h1,h2,a,h4⟩:=h
 refine⟨h1,h2,a,fun hn=>?_⟩
 obtain⟨b,o,e,d⟩:=h4 hn
 refine⟨b,o,e,fun k hk=>?_⟩
 obtain⟨K,s,M,E,c0,c1,c2,c3,q⟩:=d k hk
 have t:∀{i:Nat} {v:Value},w.cell? ⟨b,i,none⟩=some v->w'.cell? ⟨b,i,none⟩=some v:=fun c=>(hb.cell (p:=⟨b,_,none⟩) (block_lt_of_cell c)).trans c
 exact⟨K,s,M,E,t c0,t c1,t c2,t c3,q⟩
abbrev Nq.b:= @Nq.below
instance {w w':World} {A:Option Addr} {n c:Nat} {l:List Int}:Mv (Nq w A n c l) w w' (Nq w' A n c l):=⟨fun h b=>h.below b⟩
theorem Nq.of2{w:World}{g:Nat}{K1 K2 M1 M2 E1 E2 r1 r2:Int}{s1 s2:Bool}(X:Bo w g #[.int .i64 K1,.bool s1,.int .u64 M1,.int .i64 E1,.int .i64 K2,.bool s2,.int .u64 M2,.int .i64 E2] 24)
  (q1:Fq K1 s1 M1 E1 r1) (q2:Fq K2 s2 M2 E2 r2):Nq w (some ⟨g,0,none⟩) 2 2 [r1,r2]:=by
 refine⟨rfl,Nat.le_refl _,by decide,fun _=>⟨_,0,rfl,fun k hk=>?_⟩⟩
 rcases (by omega:k=0\/k=1)with rfl | rfl
 ·exact⟨K1,s1,M1,E1,X.at rfl,X.at rfl,X.at rfl,X.at rfl,q1⟩
 ·exact⟨K2,s2,M2,E2,X.at rfl,X.at rfl,X.at rfl,X.at rfl,q2⟩
def Jo.Fact.nq (n:Nat)(l:List Int):Jo.Fact:=⟨fun v w=>∃A c,v= .slice A n c/\Nq w A n c l,fun v w w' h b=>by
 obtain⟨A,c,e,h⟩:=h;exact⟨A,c,e,h.below b⟩⟩
def Jo.Fact.ia (base n:Nat)(l:List Sp):Jo.Fact:=⟨fun v w=>∃A c,v= .slice A n c/\Ia w base A n c l,fun v w w' h b=>by
 obtain⟨A,c,e,h⟩:=h;exact⟨A,c,e,h.below b⟩⟩
def Jo.Fact.crs (base:Nat)(cos:Bool)(x y j:Int):Jo.Fact:=⟨fun v w=>∃k A n c,v= .slice A n c/\Ia w base A n c (ku cos x y j k)/\n<=6/\y < mo (iI cos (j+(k:Nat))),fun v w w' h b=>by
 obtain⟨k,A,n,c,e,h,p,q⟩:=h;exact⟨k,A,n,c,e,h.below b,p,q⟩⟩
def Jo.Fact.arc (a0 a1 a2 a3 a4 a5:Value)(x y:Int)(K:Nat):Jo.Fact:=⟨fun v w=>∃s1 A1 n1 c1 s2 A2 n2 c2,v= .agg #[a0,a1,a2,a3,a4,a5,.bool s1,.slice A1 n1 c1,.bool s2,.slice A2 n2 c2]/\Wn w s1 A1 n1 c1 x/\Wn w s2 A2 n2 c2 y/\n1<=K/\n2<=K,fun v w w' h b=>by
 obtain⟨s1,A1,n1,c1,s2,A2,n2,c2,e,p,q,k,l⟩:=h;exact⟨s1,A1,n1,c1,s2,A2,n2,c2,e,p.below b,q.below b,k,l⟩⟩
theorem Fq.nn{K:Int}{s:Bool}{M E r:Int}(h:Fq K s M E r):0<=M:=by
 rcases h.1 with⟨_,_,rfl,_⟩ | h | ⟨_,rfl,_⟩
 ·exact Int.le_refl _
 ·have:=h
  omega
 ·exact Int.le_refl _
theorem Bo.grownLt{w w':World}{g base:Nat}{a:Array Value}{T:TypeId}{A:Option Addr}(X:Bo w g a T)(hb:∀k,aZ A=some k->base<=k)(hg:g < base)(G:w.grownBy w' (aZ A)):Bo w' g a T:=
 X.keep (G.block g X.lt (fun e=>by have:=hb g (by first | exact e | exact e.symm);omega))
theorem Ho{l:List Sp}{k:Nat}{z:Sp}(h:k < l.length)(hz:l.getD k none=z):l.take (k+1)=l.take k ++[z]:=by
 rw[List.take_succ_eq_append_getElem h,<-hz]
 simp[List.getD_eq_getElem?_getD,h]
theorem Hk{w:World}{fid:FuncId}{cos:Bool}{o:Int}{s1 s2:Bool}{A1 A2:Option Addr}{n1 c1 n2 c2:Nat}{A:Option Addr}{n c:Nat}{l:List Int}{zs:List Sp}(hT:dN w)(hah:vS fid cos)(p1:Wn w s1 A1 n1 c1 aH)(p2:Wn w s2 A2 n2 c2 bW)(k1:n1<=7)(k2:n2<=7)(h:Nq w A n c l)(hz:zs.length=n)(hS:∀k,k < n->Sv cos (l.getD k 0) (zs.getD k none)):Calls prog 61 #[.func (.func 47) #[.agg #[.func (.func fid) #[] #[],.int .i64 o,.bool s1,.slice A1 n1 c1,.bool s2,.slice A2 n2 c2]] #[],.slice A n c] w (fun e w'=>∃A2 c2,e= .returned (.slice A2 n c2)/\Ia w' w.heap.size A2 n c2 zs/\Below w.heap.size w w'):=by
 have r:=ie hz;have Y:=h.2.1;have X:=h.2.2.1;have C:=h;have J:=ie hah;have t:=ie hS;clear h hz hah hS
 go_enter func61,ntmps61
 go_wp2
 go_loopw [5,10] (fun va i wr=>∃k A1 c1,k<=n/\va= .slice A1 k c1/\i= .int .i64 ((k:Nat):Int)/\Ia wr w.heap.size A1 k c1 (zs.take k)/\Below w.heap.size w wr) (fun _ i _=>n-(intOf i).toNat)
 case atStart=>exact ⟨0,_,_,Nat.zero_le _,rfl,rfl,Ia.nil _ _,Below.refl _ _⟩
 case round=>
  obtain⟨k,A3,c3,Z,rfl,rfl,N,W⟩:=hrel;have a:=ie W;clear W
  by_cases hlt:k < n
  ·have Q:decide ((k:Int) < (n:Int))=true:=by simp;omega
   have h:=C.below a.out;obtain⟨b,bo,rfl,hcell⟩:=h.2.2.2 (by omega);obtain⟨D,s,M,E,x0,x1,x2,x3,q⟩:=hcell k hlt;have P:=t.out k hlt;clear hcell h C
   have i1:(k:Int) < n:=by omega
   have i2:(0:Int)<=k:=by omega
   obtain⟨z,hz⟩:∃z,zs.getD k none=z:=⟨_,rfl⟩;have G:=Ho (by rw[r.out];exact hlt) hz;rw[hz]at P;generalize l.getD k 0=x at *;generalize zs.take k=la at *;have L:=ie G;have HV:=ie P;clear G P hz t;have bA:=a.out.size
   go_upto_region 5 with fail
   clear x0 x1 x2 x3;generalize F:wr.alloc _=w3 at *;obtain⟨V,I⟩:=Bo.nw F;clear F;replace N:=N.b I;replace a:=aj a I;clear I;have q1:=p1.below a.out;have q2:=p2.below a.out;have qT:=hT.below a.out;have S:=V.cell
   go_wp2_with fail
   refine(IT qT J.out q1 q2 k1 k2 q.nn q.top q.rk HV.out).mono ?_;rintro ee w4 ⟨y,u,H,v,p,f,j,g,d,rfl,R,B⟩;clear S;replace N:=N.b B;replace a:=aj a B;clear B;clear q1 q2 qT
   go_wp2_with (at_builtin;refine jJ rfl _ _ rfl rfl rfl (N.below (ab _ _)) (Ia.lit (Bo.new _ _ _) R) (by decide) (by omega) (Nat.le_trans a.out.size (ab _ _).size) ?_)
   intro A5 d5 w9 N' T O
   have m:=bt a.out (ab _ (.cells #[.bool y,.int .i64 u,.bool H,.int .u64 v,.int .i64 p,.int .i64 f,.bool j,.int .u64 g,.int .i64 d] 26));have U:=N.below (ab _ (.cells #[.bool y,.int .i64 u,.bool H,.int .u64 v,.int .i64 p,.int .i64 f,.bool j,.int .u64 g,.int .i64 d] 26))
   replace a:=ie (m.grown T m.size (fun k Z=>(U.own_lt k Z).1))
   clear N U T m O V;go_wp2
   go_roundw
   case rel=>exact ⟨k+1,_,_,by omega,rfl,by go_num,by rw[L.out];exact N',a.out⟩
   case measure=>simp [intOf];omega
  ·obtain rfl:k=n:=by omega
   have Q:decide ((k:Int) < (k:Int))=false:=by simp
   have e1:zs.take k=zs:=List.take_of_length_le (by rw[r.out];omega)
   rw[e1]at N;go_wp2
   go_ret
   exact⟨_,_,rfl,N,a.out⟩
theorem ly{w:World}{D D' M M' E E':Int}{s s':Bool}{a b ga gb:Int}{nb:Bool}(hT:dN w)(h0:0<=M)(hM:M < 18446744073709551616)(h0':0<=M')(hM':M' < 18446744073709551616)(ha:rk D s M E=a)(hb:rk D' s' M' E'=b)(hga:ak a=ga)(hgb:ak b=gb)(hn:(aD a && aD b)=nb):Calls prog 55 #[.agg #[.int .i64 D,.bool s,.int .u64 M,.int .i64 E],.agg #[.int .i64 D',.bool s',.int .u64 M',.int .i64 E']] w (IM w 140010 ga (gb+1) nb):=hn▸nN hT h0 hM h0' hM' ha hb hga hgb rfl rfl
theorem j8{x:Sp}(hx:dc x):iP [x]=x:=yw hx
theorem nZ{x y c:Int}(h:ah x y=c):decide (0<=c)=decide (y<=x):=by
 rw[<-h]
 by_cases e:y<=x
 ·rw[dt e]
  exact dt (by rcases ap x y with⟨a,b⟩ | ⟨a,b⟩ | ⟨a,b⟩ <;> rw[b] <;> omega)
 ·rw[df e]
  exact df (by rcases ap x y with⟨a,b⟩ | ⟨a,b⟩ | ⟨a,b⟩ <;> rw[b] <;> omega)
theorem qS{w:World}{fid:FuncId}{cos:Bool}{o:Int}{s1 s2:Bool}{A1 A2:Option Addr}{n1 c1 n2 c2:Nat}{e:Bool}{D M E D' M' E':Int}{s s':Bool}(hT:dN w)(hT2:Tb w)(hah:vS fid cos)(p1:Wn w s1 A1 n1 c1 aH)(p2:Wn w s2 A2 n2 c2 bW)(k1:n1<=7)(k2:n2<=7)(hM:LQ M)(hM':LQ M')(hx:fG e D s M E D' s' M' E'=none):Calls prog 21 #[.agg #[.func (.func fid) #[] #[],.int .i64 o,.bool s1,.slice A1 n1 c1,.bool s2,.slice A2 n2 c2],VI e D s M E D' s' M' E'] w (PV w none):=by
 delta VI
 have k:iP [none]=none:=j8 (by rw[<-hx];exact lj hM hM')
 have F:=ie hx;have p:=ie k;have C:=ie hah;clear hx k hah
 go_enter func21,ntmps21
 go_upto_region 1 with fail
 generalize j:((w.alloc _).alloc _).alloc _=w1 at *;obtain⟨O,c,d,f⟩:=Bo.en3 j;clear j;have a:=c.cell
 go_wp2_with fail
 refine(mZ (mL.lit1 rfl ⟨hM,hM',F.out⟩) p.out).mono ?_;rintro J N ⟨I,G,L,H,A,t,x,u,r,rfl,l,B⟩;replace B:=bt (ab _ (.cells #[.bool e,.int .i64 D,.bool s,.int .u64 M,.int .i64 E,.int .i64 D',.bool s',.int .u64 M',.int .i64 E'] 26)) B;clear a;refine aE ?_ c d f B;clear c d f B;intro c d f;have a:=c.cell;have m:=c.frozen
 go_upto_region 2 with fail
 clear a m;generalize v:((((((((N.setCell _ _).setCell _ _).setCell _ _).setCell _ _).setCell _ _).setCell _ _).setCell _ _).setCell _ _).setCell _ _=P at *;have g:=ae.of9 c v;replace d:=d.s g;replace f:=aP f g (by omega);replace c:=g.box;clear g v;obtain⟨rfl,rfl,rfl,rfl,rfl,rfl,rfl,rfl,rfl⟩:=l.uniq Ci.none
 clear l;refine aV [0,1,2] [12,13,14] [[],[],[0,1]] 3 0 [Jo.q9 true 0 false 0 0 0 false 0 0,Jo.q9 true 0 false 0 0 0 false 0 0,Jo.qb true] ?_ ?_
 ·refine jm ?_ ?_
  ·rintro y h K i;have a:=(c.b h).cell;go_simp;exact i.out _ _ rfl (br _ _)
  refine jm ?_ ?_
  ·rintro y h K i;go_simp;refine(bp).mono ?_;rintro J R ⟨rfl,B⟩;exact i.out _ _ rfl B
  refine jm ?_ ?_
  ·rintro y h _ rfl _ rfl K i;go_simp
   repeat' split
   all_goals exact i.out _ _ (congrArg Value.bool (by first | rfl | (exfalso;simp_all) | simp_all)) (br _ _)
  exact jo
 rintro Q h _ rfl _ rfl _ rfl -;simp only[Jo.z];replace c:=c.b h;replace d:=d.b h;replace f:=aj f h;refine jd ?_;clear hT hT2 p1 p2;have q:=d.cell;have n:=d.frozen;have a:=c.cell;go_wp2;clear q n a
 have g:=ae.t9 d true 0 false 0 0 0 false 0 0;exact bq (by simp[results,results21,go_sem,g.box.cell]) rfl ⟨_,_,_,_,_,_,_,_,_,rfl,Ci.none,(g.below f.out (by omega))⟩
theorem vC{w:World}{fid:FuncId}{cos:Bool}{o:Int}{s1 s2:Bool}{A1 A2:Option Addr}{n1 c1 n2 c2:Nat}{e:Bool}{D M E D' M' E':Int}{s s':Bool}(hT:dN w)(hT2:Tb w)(hah:vS fid cos)(p1:Wn w s1 A1 n1 c1 aH)(p2:Wn w s2 A2 n2 c2 bW)(k1:n1<=7)(k2:n2<=7)(hM:LQ M)(hM':LQ M'){a b:Int}(hn:(aD a && aD b)=false)(hx:fG e D s M E D' s' M' E'=(some (a,b))):Calls prog 21 #[.agg #[.func (.func fid) #[] #[],.int .i64 o,.bool s1,.slice A1 n1 c1,.bool s2,.slice A2 n2 c2],VI e D s M E D' s' M' E'] w (PV w dY):=by
 delta VI
 have H:iP [(some (a,b))]=(some (a,b)):=j8 (by rw[<-hx];exact lj hM hM')
 have HX:=ie hx;have U:=ie H;have gS:=ie hah;clear hx H hah;obtain⟨ga,F⟩:∃g,ak a=g:=⟨_,rfl⟩;obtain⟨gb,G⟩:∃g,ak b=g:=⟨_,rfl⟩;have S:=ie F;have T:=ie G;have HN:=ie hn;clear F G hn
 go_enter func21,ntmps21
 go_upto_region 1 with fail
 generalize A:((w.alloc _).alloc _).alloc _=w1 at *;obtain⟨X2,h,c,d⟩:=Bo.en3 A;replace hT:=hT.below d.out;clear A;have f:=h.cell
 go_wp2_with fail
 refine(mZ (mL.lit1 rfl ⟨hM,hM',HX.out⟩) U.out).mono ?_;rintro Z w2 ⟨X,t,I,v,q,j,n,k,i,rfl,p,B⟩;replace B:=bt (ab _ (.cells #[.bool e,.int .i64 D,.bool s,.int .u64 M,.int .i64 E,.int .i64 D',.bool s',.int .u64 M',.int .i64 E'] 26)) B;clear f;refine dk ?_ h c hT d B;clear h c hT d B;intro h c hT d;have f:=h.cell;have L:=h.frozen
 go_upto_region 2 with fail
 clear f L;generalize hS:((((((((w2.setCell _ _).setCell _ _).setCell _ _).setCell _ _).setCell _ _).setCell _ _).setCell _ _).setCell _ _).setCell _ _=w3 at *;have l:=ae.of9 h hS;replace c:=c.s l;replace hT:=hT.s l;replace d:=aP d l (by omega);replace h:=l.box;clear l hS
 obtain rfl:X=false:=p.1
 refine aV [0,1,2] [12,13,14] [[],[],[0,1]] 3 0 [Jo.q9 false t I v q j n k i,Jo.q9 true 0 false 0 0 0 false 0 0,Jo.qb false] ?_ ?_
 ·refine jm ?_ ?_
  ·rintro wj m K y;have f:=(h.b m).cell;go_simp;exact y.out _ _ rfl (br _ _)
  refine jm ?_ ?_
  ·rintro wj m K y;go_simp;refine(bp).mono ?_;rintro Z wk ⟨rfl,B⟩;exact y.out _ _ rfl B
  refine jm ?_ ?_
  ·rintro wj m _ rfl _ rfl K y;go_simp
   repeat' split
   all_goals exact y.out _ _ (congrArg Value.bool (by first | rfl | (exfalso;simp_all))) (br _ _)
  exact jo
 rintro w4 m _ rfl _ rfl _ rfl -;simp only[Jo.z];replace h:=h.b m;replace c:=c.b m;replace hT:=hT.b m;replace d:=aj d m;refine jd ?_;obtain⟨_,O,P,bB,oa,ob⟩:=p
 have p:Ci false t I v q j n k i (some (a,b)):=⟨rfl,O,P,bB,oa,ob⟩
 go_upto_region 4 with fail
 have f:=h.cell
 go_wp2_with fail
 refine(ly hT O.nn O.top P.nn P.top O.rk P.rk S.out T.out HN.out).mono ?_;rintro Z w5 ⟨hG,gO,hE,hA,hH,gP,hF,hB,rfl,bC,bD,hC,hD,B⟩;clear f;replace c:=c.b B;replace d:=aj d B;clear B
 go_upto_region 5 with fail
 have bA:=c.lt;generalize C:w5.alloc _=w6 at *;obtain⟨X5,Q⟩:=Bo.nw C;clear C;replace c:=c.b Q;replace d:=aj d Q;clear Q;clear bC bD p1 p2 hT hT2
 go_wp2_with fail
 refine(Ay).mono ?_;rintro Z w7 ⟨Y,V,bH,W,R,u,J,x,r,rfl,bN,B⟩;replace c:=c.b B;replace d:=aj d B;clear B;have gB:=c.cell;have N:=c.frozen;go_wp2;clear gB N;have l:=ae.t9 c Y V bH W R u J x r
 exact bq (by simp[results,results21,go_sem,l.box.cell]) rfl ⟨_,_,_,_,_,_,_,_,_,rfl,bN,(l.below d.out (by omega))⟩
theorem qU{w:World}{fid:FuncId}{cos:Bool}{o:Int}{s1 s2:Bool}{A1 A2:Option Addr}{n1 c1 n2 c2:Nat}{e:Bool}{D M E D' M' E':Int}{s s':Bool}(hT:dN w)(hT2:Tb w)(hah:vS fid cos)(p1:Wn w s1 A1 n1 c1 aH)(p2:Wn w s2 A2 n2 c2 bW)(k1:n1<=7)(k2:n2<=7)(hM:LQ M)(hM':LQ M'){a b:Int}(hn:(aD a && aD b)=true)(hw:decide (al 7<=eY (some (a,b)))=true)(hx:fG e D s M E D' s' M' E'=(some (a,b))):Calls prog 21 #[.agg #[.func (.func fid) #[] #[],.int .i64 o,.bool s1,.slice A1 n1 c1,.bool s2,.slice A2 n2 c2],VI e D s M E D' s' M' E'] w (PV w dY):=by
 delta VI
 have O:iP [(some (a,b))]=(some (a,b)):=j8 (by rw[<-hx];exact lj hM hM')
 have HX:=ie hx;have bB:=ie O;have hL:=ie hah;clear hx O hah;obtain⟨ga,L⟩:∃g,ak a=g:=⟨_,rfl⟩;obtain⟨gb,N⟩:∃g,ak b=g:=⟨_,rfl⟩;have Z:=ie L;have bA:=ie N;clear L N;obtain⟨wd,t⟩:∃u,eY (some (a,b))=u:=⟨_,rfl⟩;obtain⟨σ,hσ⟩:∃σ,ah wd (al 7)=σ:=⟨_,rfl⟩;have e1:=nZ hσ;rw[t]at hw
 rw[hw]at e1;have bC:=ie t;have HS:=ie hσ;have Y:=ie e1;have HN:=ie hn;clear t hσ e1 hn;clear hw
 go_enter func21,ntmps21
 go_upto_region 1 with fail
 generalize I:((w.alloc _).alloc _).alloc _=w1 at *;obtain⟨X2,f,c,d⟩:=Bo.en3 I;replace hT:=hT.below d.out;replace hT2:=hT2.below d.out;clear I;have h:=f.cell
 go_wp2_with fail
 refine(mZ (mL.lit1 rfl ⟨hM,hM',HX.out⟩) bB.out).mono ?_;rintro v w2 ⟨bN,A,R,F,x,m,q,p,l,rfl,i,B⟩;replace B:=bt (ab _ (.cells #[.bool e,.int .i64 D,.bool s,.int .u64 M,.int .i64 E,.int .i64 D',.bool s',.int .u64 M',.int .i64 E'] 26)) B;clear h;refine dG ?_ f c hT hT2 d B;clear f c hT hT2 d B;intro f c hT hT2 d;have h:=f.cell;have T:=f.frozen
 go_upto_region 2 with fail
 clear h T;generalize hS:((((((((w2.setCell _ _).setCell _ _).setCell _ _).setCell _ _).setCell _ _).setCell _ _).setCell _ _).setCell _ _).setCell _ _=w3 at *;have j:=ae.of9 f hS;replace c:=c.s j;replace hT:=hT.s j;replace hT2:=hT2.s j;replace d:=aP d j (by omega)
 replace f:=j.box;clear j hS
 obtain rfl:bN=false:=i.1
 refine aV [0,1,2] [12,13,14] [[],[],[0,1]] 3 0 [Jo.q9 false A R F x m q p l,Jo.q9 true 0 false 0 0 0 false 0 0,Jo.qb false] ?_ ?_
 ·refine jm ?_ ?_
  ·rintro wj k K H;have h:=(f.b k).cell;go_simp;exact H.out _ _ rfl (br _ _)
  refine jm ?_ ?_
  ·rintro wj k K H;go_simp;refine(bp).mono ?_;rintro v wk ⟨rfl,B⟩;exact H.out _ _ rfl B
  refine jm ?_ ?_
  ·rintro wj k _ rfl _ rfl K H;go_simp
   repeat' split
   all_goals exact H.out _ _ (congrArg Value.bool (by first | rfl | (exfalso;simp_all))) (br _ _)
  exact jo
 rintro w4 k _ rfl _ rfl _ rfl -;simp only[Jo.z];replace f:=f.b k;replace c:=c.b k;replace hT:=hT.b k;replace hT2:=hT2.b k;replace d:=aj d k;refine jd ?_;obtain⟨_,V,W,gS,oa,ob⟩:=i
 have i:Ci false A R F x m q p l (some (a,b)):=⟨rfl,V,W,gS,oa,ob⟩
 go_upto_region 4 with fail
 have h:=f.cell
 go_wp2_with fail
 refine(ly hT V.nn V.top W.nn W.top V.rk W.rk Z.out bA.out HN.out).mono ?_;rintro v w5 ⟨lA,hF,hY,hU,lB,hG,hZ,hV,rfl,hA,hB,hW,hX,B⟩;clear h;refine dk ?_ f c hT2 d B;clear f c hT2 d B;intro f c hT2 d
 go_upto_region 5 with fail
 have gO:=f.lt;have gP:=c.lt;generalize J:w5.alloc _=w6 at *;obtain⟨X5,BW⟩:=Bo.nw J;clear J;refine dk ?_ f c hT2 d BW;clear f c hT2 d BW;intro f c hT2 d;have e1:=Y.out;have h:=f.cell
 go_wp2_with fail
 refine(m8 hT2 i.top.1 i.top.2 i.rk bC.out).mono ?_;rintro v w7 ⟨hN,s30,hQ,hH,rfl,P,B⟩;clear h;replace c:=c.b B;replace d:=aj d B;clear B
 go_wp2_with fail
 refine(qf (n:=7) (r:=al 7) _ (by decide) (by decide) rfl).mono ?_;rintro v w8 ⟨hP,qT,hR,hI,rfl,Q,B⟩;replace c:=c.b B;replace d:=aj d B;clear B
 go_wp2_with fail
 refine(iR (z:=σ) P.top Q.top (by rw[P.rk,Q.rk];exact HS.out)).mono ?_;rintro v w9 ⟨rfl,B⟩;replace c:=c.b B;replace d:=aj d B;clear B;clear hA hB p1 p2 hT hT2
 go_wp2_with fail
 refine(Ay).mono ?_;rintro v wA ⟨gB,bD,hC,bH,X,C,S,G,y,rfl,hD,B⟩;replace c:=c.b B;replace d:=aj d B;clear B;have hE:=c.cell;have U:=c.frozen;go_wp2;clear hE U;have j:=ae.t9 c gB bD hC bH X C S G y
 exact bq (by simp[results,results21,go_sem,j.box.cell]) rfl ⟨_,_,_,_,_,_,_,_,_,rfl,hD,(j.below d.out (by omega))⟩
theorem AB{w:World}{fid:FuncId}{cos:Bool}{o:Int}{s1 s2:Bool}{A1 A2:Option Addr}{n1 c1 n2 c2:Nat}{e:Bool}{D M E D' M' E':Int}{s s':Bool}(hT:dN w)(hT2:Tb w)(hah:vS fid cos)(p1:Wn w s1 A1 n1 c1 aH)(p2:Wn w s2 A2 n2 c2 bW)(k1:n1<=7)(k2:n2<=7)(hM:LQ M)(hM':LQ M'){a b ga gb x y j:Int}{za zb Z:Sp}(hn:(aD a && aD b)=true)(hw:decide (al 7<=eY (some (a,b)))=false)(hga:ak a=ga)(hgb:ak b=gb)(fa:ga.natAbs < 4294967296^10)(fb:(gb+1).natAbs < 4294967296^11)(ho:tX cos=o)(hx1:2*ga=x)(hy1:2*(gb+1)=y)(hj:x.fdiv (2*aH)=j)(j1: -1099511627776<=j)(j2:j<=1099511627776)(hst:y < mo (iI cos (j+6)))(hza:Sv cos a za)(hzb:Sv cos b zb)(hall:∀k:Nat,y < mo (iI cos (j+k))->eu (ku cos x y j k ++[za,zb])=Z)(hx:fG e D s M E D' s' M' E'=(some (a,b))):Calls prog 21 #[.agg #[.func (.func fid) #[] #[],.int .i64 o,.bool s1,.slice A1 n1 c1,.bool s2,.slice A2 n2 c2],VI e D s M E D' s' M' E'] w (PV w Z):=by
 delta VI
 have hV:iP [(some (a,b))]=(some (a,b)):=j8 (by rw[<-hx];exact lj hM hM')
 have HX:=ie hx;have HL:=ie hV;have HE:=ie hah;clear hx hV hah;obtain⟨wd,bH⟩:∃u,eY (some (a,b))=u:=⟨_,rfl⟩;obtain⟨σ,hσ⟩:∃σ,ah wd (al 7)=σ:=⟨_,rfl⟩;have e1:=nZ hσ;rw[bH]at hw;rw[hw]at e1;have HQ:=ie bH;have HS:=ie hσ;have HF:=ie e1;have HN:=ie hn;clear bH hσ e1 hn;clear hw;have HI:=ie hga
 have HK:=ie hgb;have HG:=ie fa;have HH:=ie fb;have HO:=ie ho;have HR:=ie hx1;have HT:=ie hy1;have HJ:=ie hj;have HM:=ie hst;have HU:=ie hza;have HV:=ie hzb;have hH:=ie hall;clear hga hgb fa fb ho hx1 hy1 hj hst hza hzb hall
 have HP:Hid (∀k,k < 2->Sv cos ([a,b].getD k 0) ([za,zb].getD k none)):=ie (fun k hk=>by
  rcases (by omega:k=0\/k=1)with rfl | rfl
  ·exact HU.out
  ·exact HV.out)
 go_enter func21,ntmps21
 go_upto_region 1 with fail
 generalize hR:((w.alloc _).alloc _).alloc _=w1 at *;obtain⟨m,g,f,d⟩:=Bo.en3 hR;replace hT:=hT.below d.out;replace hT2:=hT2.below d.out;replace p1:=p1.below d.out;replace p2:=p2.below d.out;clear hR;have q:=g.cell
 go_wp2_with fail
 refine(mZ (mL.lit1 rfl ⟨hM,hM',HX.out⟩) HL.out).mono ?_;rintro Q w2 ⟨JF,bA,hB,bB,Y,F,N,G,C,rfl,v,B⟩;replace B:=bt (ab _ (.cells #[.bool e,.int .i64 D,.bool s,.int .u64 M,.int .i64 E,.int .i64 D',.bool s',.int .u64 M',.int .i64 E'] 26)) B;clear q;refine lN ?_ m g f hT hT2 p1 p2 d B;clear m g f hT hT2 p1 p2 d B;intro m g f hT hT2 p1 p2 d;have q:=g.cell;have qT:=g.frozen
 go_upto_region 2 with fail
 clear q qT;generalize hS:((((((((w2.setCell _ _).setCell _ _).setCell _ _).setCell _ _).setCell _ _).setCell _ _).setCell _ _).setCell _ _).setCell _ _=w3 at *;have p:=ae.of9 g hS;replace m:=m.s p;replace f:=f.s p;replace hT:=hT.s p;replace hT2:=hT2.s p;replace p1:=p1.s p
 replace p2:=p2.s p;replace d:=aP d p (by omega);replace g:=p.box;clear p hS
 obtain rfl:JF=false:=v.1
 refine aV [0,1,2] [12,13,14] [[],[],[0,1]] 3 0 [Jo.q9 false bA hB bB Y F N G C,Jo.q9 true 0 false 0 0 0 false 0 0,Jo.qb false] ?_ ?_
 ·refine jm ?_ ?_
  ·rintro O c K h;have q:=(g.b c).cell;go_simp;exact h.out _ _ rfl (br _ _)
  refine jm ?_ ?_
  ·rintro O c K h;go_simp;refine(bp).mono ?_;rintro Q wk ⟨rfl,B⟩;exact h.out _ _ rfl B
  refine jm ?_ ?_
  ·rintro O c _ rfl _ rfl K h;go_simp
   repeat' split
   all_goals exact h.out _ _ (congrArg Value.bool (by first | rfl | (exfalso;simp_all))) (br _ _)
  exact jo
 rintro w4 c _ rfl _ rfl _ rfl -;simp only[Jo.z];replace m:=m.b c;replace g:=g.b c;replace f:=f.b c;replace hT:=hT.b c;replace hT2:=hT2.b c;replace p1:=p1.b c;replace p2:=p2.b c;replace d:=aj d c;refine jd ?_;obtain⟨_,qa,qb,JR,oa,ob⟩:=v
 have v:Ci false bA hB bB Y F N G C (some (a,b)):=⟨rfl,qa,qb,JR,oa,ob⟩
 go_upto_region 4 with fail
 have q:=g.cell
 go_wp2_with fail
 refine(ly hT qa.nn qa.top qb.nn qb.top qa.rk qb.rk HI.out HK.out HN.out).mono ?_;rintro Q w5 ⟨JS,BX,JJ,JA,JT,DS,JK,JB,rfl,i,l,LS,LT,B⟩;clear q;refine lN ?_ m g f hT hT2 p1 p2 d B;clear m g f hT hT2 p1 p2 d B;intro m g f hT hT2 p1 p2 d
 go_upto_region 5 with fail
 have JO:=m.lt;have JP:=g.lt;have JQ:=f.lt;generalize hU:w5.alloc _=w6 at *;obtain⟨A,BW⟩:=Bo.nw hU;clear hU;refine jW ?_ m g f hT hT2 p1 p2 i l d BW;clear m g f hT hT2 p1 p2 i l d BW;intro m g f hT hT2 p1 p2 i l d;have e1:=HF.out;have q:=g.cell
 go_wp2_with fail
 refine(m8 hT2 v.top.1 v.top.2 v.rk HQ.out).mono ?_;rintro Q w7 ⟨LK,s30,LM,LI,rfl,gS,B⟩;clear q;refine jW ?_ m g f A hT p1 p2 i l d B;clear m g f A hT p1 p2 i l d B;intro m g f A hT p1 p2 i l d
 go_wp2_with fail
 refine(qf (n:=7) (r:=al 7) _ (by decide) (by decide) rfl).mono ?_;rintro Q w8 ⟨LL,LW,LN,LJ,rfl,hA,B⟩;refine jW ?_ m g f A hT p1 p2 i l d B;clear m g f A hT p1 p2 i l d B;intro m g f A hT p1 p2 i l d
 go_wp2_with fail
 refine(iR (z:=σ) gS.top hA.top (by rw[gS.rk,hA.rk];exact HS.out)).mono ?_;rintro Q w9 ⟨rfl,B⟩;refine jW ?_ m g f A hT p1 p2 i l d B;clear m g f A hT p1 p2 i l d B;intro m g f A hT p1 p2 i l d;have LA:=i.fits HG.out
 have LB:=l.fits HH.out;clear hT2 gS hA
 go_upto_region 7 with fail
 clear e1;have LD:=m.lt;have hX:=g.lt;have hY:=f.lt;have LE:=A.lt;have LC:=d.out.size;refine aV [0,1,2,3,4,5] [34,35,36,37,38,8,0] [[],[],[],[1,2],[0,3],[],[]] 7 1 [Jo.Fact.eq (.agg #[.func (.func fid) #[] #[],.int .i64 o,.bool s1,.slice A1 n1 c1,.bool s2,.slice A2 n2 c2]),Jo.Fact.eq (.agg #[.bool JS,.slice BX JJ JA,.bool JT,.slice DS JK JB]),Jo.Fact.wn (2) (2),Jo.Fact.sp (x) (y) (30),Jo.Fact.arc (.func (.func fid) #[] #[]) (.int .i64 o) (.bool s1) (.slice A1 n1 c1) (.bool s2) (.slice A2 n2 c2) x y 30,Jo.Fact.bo w9.heap.size #[.nilFunc,.int .i64 0,.bool false,.slice none 0 0,.bool false,.slice none 0 0,.bool false,.slice none 0 0,.bool false,.slice none 0 0] 67,Jo.Fact.any] ?_ ?_
 ·iterate 2 (refine jm ?_ ?_;rotate_left)
  refine jm ?_ ?_
  ·rintro O c K h;go_simp;exact Jo.w1 (dU 2 _ (by decide) (by decide)) h.out
  refine jm ?_ ?_
  ·rintro O c _ rfl _ ⟨JU,ET,JL,JC,rfl,gP,JI⟩ K h;go_simp;refine(qQ (L:=11) (Z:=30) (i.b c) (l.b c) gP (by omega) (by omega) (by omega) (by omega) (by omega) HR.out HT.out).mono ?_;rintro Q wk ⟨hC,W,gB,bC,hD,X,gO,bD,rfl,I,J,R,S,B⟩;exact h.out _ _ ⟨hC,W,gB,bC,hD,X,gO,bD,rfl,I,J,R,S⟩ B
  refine jm ?_ ?_
  ·rintro O c _ rfl _ ⟨hC,W,gB,bC,hD,X,gO,bD,rfl,I,J,R,S⟩ K h;go_simp;exact h.out _ _ ⟨_,_,_,_,_,_,_,_,rfl,I,J,R,S⟩ (br _ _)
  refine jm ?_ ?_
  ·rintro O c K h;go_simp;exact h.out _ _ ⟨_,rfl,c.size,Bo.new _ _ _⟩ (ab _ _)
  exact jo
  all_goals (rintro O c;(repeat rintro _ rfl);intro K h;have LX:=(m.b c).cell;have LY:=(A.b c).cell;go_simp;exact h.out _ _ rfl (br _ _))
 rintro wA c _ rfl _ rfl _ ⟨JU,ET,JL,JC,rfl,gP,JI⟩ _ ⟨hC,W,gB,bC,hD,X,gO,bD,rfl,I,J,R,S⟩ _ ⟨JV,HA,JM,JD,JW,HC,JN,JE,rfl,T,U,LU,LV⟩ _ ⟨g7,rfl,LR,X7⟩ -;simp only[Jo.z];replace g:=g.b c;replace f:=f.b c;replace hT:=hT.b c;replace p1:=p1.b c;replace p2:=p2.b c;replace d:=aj d c
 clear gP I J i l A m;have lB:=X7.cell;have xX:=X7.frozen
 refine jn 6 fun K h=>?_
 go_simp;refine h.out _ _ ?_;clear h K lB xX;generalize hS:(((((((((wA.setCell _ _).setCell _ _).setCell _ _).setCell _ _).setCell _ _).setCell _ _).setCell _ _).setCell _ _).setCell _ _).setCell _ _=wB at *;have p:=ae.of10 X7 hS;replace g:=g.s p;replace f:=f.s p;replace hT:=hT.s p
 replace p1:=p1.s p;replace p2:=p2.s p;replace T:=T.s p;replace U:=U.s p;replace d:=aP d p (by omega);replace X7:=p.box;clear p hS;refine jd ?_
 go_upto_region 8 with fail
 have hX:=g.lt;have hY:=f.lt;have LF:=X7.lt;have hW:=d.out.size;refine aV [0,1,2,3,4,5,6,7,8,9,10] [39,40,41,42,43,44,45,46,47,48,49,50,51,0] [[],[0],[],[2],[3],[],[5],[],[7],[6,8],[4,9],[],[],[]] 14 3 [Jo.Fact.eq (.agg #[.func (.func fid) #[] #[],.int .i64 o,.bool s1,.slice A1 n1 c1,.bool s2,.slice A2 n2 c2,.bool JV,.slice HA JM JD,.bool JW,.slice HC JN JE]),Jo.Fact.crs wB.heap.size cos x y j,Jo.qp g7 0,Jo.Fact.eq (.agg #[.func (.func fid) #[] #[],.int .i64 o,.bool s1,.slice A1 n1 c1,.bool s2,.slice A2 n2 c2]),Jo.Fact.eq (.func (.func 47) #[.agg #[.func (.func fid) #[] #[],.int .i64 o,.bool s1,.slice A1 n1 c1,.bool s2,.slice A2 n2 c2]] #[]),Jo.qp (w.heap.size+1) 1,Jo.q4 bA hB bB Y,Jo.qp (w.heap.size+1) 5,Jo.q4 F N G C,Jo.Fact.nq 2 [a,b],Jo.Fact.ia wB.heap.size 2 [za,zb],Jo.Fact.any,Jo.Fact.any,Jo.Fact.any] ?_ ?_
 ·refine jm ?_ ?_;rotate_left
  refine jm ?_ ?_
  ·rintro O c _ rfl K h;go_simp;refine(Dj (cos:=cos) (p1.b c) (p2.b c) k1 k2 (T.b c) (U.b c) (by omega) (by omega) HO.out HJ.out j1 j2 HM.out).mono ?_;rintro Q wk ⟨bN,hE,hZ,hP,rfl,t,V,H,B⟩;exact h.out _ _ ⟨bN,hE,hZ,hP,rfl,t.lower c.size,V,H⟩ B
  iterate 7 (refine jm ?_ ?_;rotate_left)
  refine jm ?_ ?_
  ·rintro O c _ rfl _ rfl K h;go_simp;exact h.out _ _ ⟨_,2,rfl,Nq.of2 (Bo.new _ _ _) qa qb⟩ (ab _ _)
  refine jm ?_ ?_
  ·rintro O c _ rfl _ ⟨LG,LO,rfl,JH⟩ K h;go_simp;refine(Hk (cos:=cos) (hT.b c) HE.out (p1.b c) (p2.b c) k1 k2 JH rfl HP.out).mono ?_;rintro Q wk ⟨hF,hQ,rfl,P,B⟩;exact h.out _ _ ⟨hF,hQ,rfl,P.lower c.size⟩ B
  exact jo
  all_goals (rintro O c;(repeat rintro _ rfl);intro K h;have lB:=(X7.b c).cell;have q:=(g.b c).cell;go_simp;exact h.out _ _ rfl (br _ _))
 rintro wC c _ rfl _ ⟨bN,hE,hZ,hP,rfl,t,V,H⟩ _ _ _ rfl _ rfl _ _ _ rfl _ _ _ rfl _ ⟨_,_,rfl,_⟩ _ ⟨hF,hQ,rfl,P⟩ -;simp only[Jo.z];replace f:=f.b c;replace d:=aj d c
 refine jn 11 fun K h=>?_
 refine Df rfl _ _ rfl rfl rfl t P (by decide) (by omega) c.size ?_
 intro LH LP wD hN G1 HZ
 refine h.out _ _ ?_;clear h K;simp only[Act.put,List.setIfInBounds_toArray,List.set_cons_zero,List.set_cons_succ]
 replace f:=f.grownLt (fun k hk=>(t.own_lt k hk).1) (by omega) G1
 replace d:=ie (d.out.grown G1 d.out.size (fun k hk=>Nat.le_trans hW (t.own_lt k hk).1))
 clear t P G1 HZ hT p1 p2 T U X7 g
 refine jn 12 fun K h=>?_
 go_simp;refine(EJ (hN.il (by omega)) (hH.out bN H)).mono ?_;rintro Q wE ⟨JG,HW,JX,HY,HD,hI,lA,hL,hG,rfl,JY,B⟩;refine h.out _ _ ?_;clear h K hN;replace f:=f.b B;replace d:=aj d B;clear B;have JZ:=f.cell;have zX:=f.frozen
 refine jn 13 fun K h=>?_
 go_simp;refine h.out _ _ ?_;clear h K JZ zX;have p:=ae.t9 f JG HW JX HY HD hI lA hL hG;refine jd ?_;go_wp2;exact bq (by simp[results,results21,go_sem,p.box.cell]) rfl ⟨_,_,_,_,_,_,_,_,_,rfl,JY,(p.below d.out (by omega))⟩
theorem DZ{w:World}{fid:FuncId}{cos:Bool}{o:Int}{s1 s2:Bool}{A1 A2:Option Addr}{n1 c1 n2 c2:Nat}{e:Bool}{D M E D' M' E':Int}{s s':Bool}{X Z:Sp}(hT:dN w)(hT2:Tb w)(hah:vS fid cos)(ho:tX cos=o)(p1:Wn w s1 A1 n1 c1 aH)(p2:Wn w s2 A2 n2 c2 bW)(k1:n1<=7)(k2:n2<=7)(hM:LQ M)(hM':LQ M')(hx:fG e D s M E D' s' M' E'=X)(hz:km cos X Z):Calls prog 21 #[.agg #[.func (.func fid) #[] #[],.int .i64 o,.bool s1,.slice A1 n1 c1,.bool s2,.slice A2 n2 c2],VI e D s M E D' s' M' E'] w (PV w Z):=by
 delta VI
 rcases X with _ | ⟨a,b⟩
 ·obtain rfl:Z=none:=hz
  exact qS hT hT2 hah p1 p2 k1 k2 hM hM' hx
 ·rcases hz with⟨h,rfl⟩ | ⟨fa,d,i,za,zb,j,hb,rfl⟩
  ·rcases c:(aD a && aD b)with _ | _
   ·exact vC hT hT2 hah p1 p2 k1 k2 hM hM' c hx
   ·have l:al 7<=eY (some (a,b)):=by
     rw[Bool.and_eq_true]at c
     rcases h with h | h | h
     ·rw[c.1]at h;cases h
     ·rw[c.2]at h;cases h
     ·exact h
    exact qU hT hT2 hah p1 p2 k1 k2 hM hM' c (dt l) hx
  ·have c:(aD a && aD b)=true:=by rw[fa,d];rfl
   obtain⟨p,q⟩:=mG fa
   have m: -4294967296*SC<=ak a*2/\ak a*2<=4294967296*SC:=by
    obtain⟨r,t⟩:=kx fa;generalize ak a=A at *
    unfold SC at *
    omega
   have n:=sD fa d i;have g:=BE (cos:=cos) (y:=ak b*2+2) m rfl (by omega)
   have f:(ak b+1).natAbs < 4294967296^11:=by
    have:=eN d
    have e:(4294967296:Nat)^11=4294967296^10*4294967296:=by decide
    have e2:0 < (4294967296:Nat)^10:=Nat.pow_pos (by decide)
    omega
   have e1:2*ak a=ak a*2:=Int.mul_comm _ _
   have e2:2*(ak b+1)=ak b*2+2:=by omega
   have e3:(ak a*2).fdiv (2*aH)=(ak a*2).fdiv (aH*2):=by rw[Int.mul_comm 2 aH]
   exact AB hT hT2 hah p1 p2 k1 k2 hM hM' c (df i) rfl rfl (eN fa) f ho e1 e2 e3 p q g j hb (fun k hk=>Es fa d i j hb rfl hk) hx
theorem Aw{w:World}{e:Bool}{D M E D' M' E':Int}{s s':Bool}{X Z:Sp}(hT:dN w)(hT2:Tb w)(hM:LQ M)(hM':LQ M')(hx:fG e D s M E D' s' M' E'=X)(hz:km false X Z):Calls prog 6 #[VI e D s M E D' s' M' E'] w (PV w Z):=by
 delta VI
 have R:=ie hx;have S:=ie hz;clear hx hz
 go_enter func6,ntmps6
 go_upto_region 1 with fail
 generalize x:(w.alloc _).alloc _=w1 at *;obtain⟨N,q,t⟩:=Bo.en2 x;replace hT:=hT.below t.out;replace hT2:=hT2.below t.out;clear x;have O:=N.lt;have P:=q.lt;refine aV [0,1,2] [4,5,6,0] [[],[],[0,1],[]] 4 1 [Jo.Fact.wv (62) (1),Jo.q9 e D s M E D' s' M' E',Jo.Fact.iv Z,Jo.Fact.any] ?_ ?_
 ·refine jm ?_ ?_
  ·rintro Q g K h;go_simp;refine(Ax).mono ?_;rintro U W ⟨o,i,m,k,p,j,n,l,rfl,a,c,d,f,B⟩;exact h.out _ _ ⟨o,i,m,k,p,j,n,l,rfl,a,c,d,f⟩ B
  refine jm ?_ ?_
  ·rintro Q g K h;have T:=(N.b g).cell;go_simp;exact h.out _ _ rfl (br _ _)
  refine jm ?_ ?_
  ·rintro Q g _ ⟨o,i,m,k,p,j,n,l,rfl,a,c,d,f⟩ _ rfl K h;go_simp;exact Jo.v1 (DZ (hT.b g) (hT2.b g) rh rfl a c d f hM hM' R.out S.out) h.out
  exact jo
 rintro V g _ ⟨o,i,m,k,p,j,n,l,rfl,a,c,d,f⟩ _ rfl _ ⟨H,F,s30,G,C,u,y,v,r,rfl,I⟩ -;simp only[Jo.z];replace q:=q.b g;replace t:=aj t g;clear hT hT2 a c;have J:=q.cell;have A:=q.frozen
 refine jn 3 fun K h=>?_
 go_simp;refine h.out _ _ ?_;clear h K J A;have L:=ae.t9 q H F s30 G C u y v r;refine jd ?_;go_wp2;exact bq (by simp[results,results6,go_sem,L.box.cell]) rfl ⟨_,_,_,_,_,_,_,_,_,rfl,I,(L.below t.out (by omega))⟩
theorem At{w:World}{e:Bool}{D M E D' M' E':Int}{s s':Bool}{X Z:Sp}(hT:dN w)(hT2:Tb w)(hM:LQ M)(hM':LQ M')(hx:fG e D s M E D' s' M' E'=X)(hz:km true X Z):Calls prog 8 #[VI e D s M E D' s' M' E'] w (PV w Z):=by
 delta VI
 have R:=ie hx;have S:=ie hz;clear hx hz
 go_enter func8,ntmps8
 go_upto_region 1 with fail
 generalize x:(w.alloc _).alloc _=w1 at *;obtain⟨N,q,t⟩:=Bo.en2 x;replace hT:=hT.below t.out;replace hT2:=hT2.below t.out;clear x;have O:=N.lt;have P:=q.lt;refine aV [0,1,2] [4,5,6,0] [[],[],[0,1],[]] 4 1 [Jo.Fact.wv (78) (0),Jo.q9 e D s M E D' s' M' E',Jo.Fact.iv Z,Jo.Fact.any] ?_ ?_
 ·refine jm ?_ ?_
  ·rintro Q g K h;go_simp;refine(Hi).mono ?_;rintro U W ⟨o,i,m,k,p,j,n,l,rfl,a,c,d,f,B⟩;exact h.out _ _ ⟨o,i,m,k,p,j,n,l,rfl,a,c,d,f⟩ B
  refine jm ?_ ?_
  ·rintro Q g K h;have T:=(N.b g).cell;go_simp;exact h.out _ _ rfl (br _ _)
  refine jm ?_ ?_
  ·rintro Q g _ ⟨o,i,m,k,p,j,n,l,rfl,a,c,d,f⟩ _ rfl K h;go_simp;exact Jo.v1 (DZ (hT.b g) (hT2.b g) Bm rfl a c d f hM hM' R.out S.out) h.out
  exact jo
 rintro V g _ ⟨o,i,m,k,p,j,n,l,rfl,a,c,d,f⟩ _ rfl _ ⟨H,F,s30,G,C,u,y,v,r,rfl,I⟩ -;simp only[Jo.z];replace q:=q.b g;replace t:=aj t g;clear hT hT2 a c;have J:=q.cell;have A:=q.frozen
 refine jn 3 fun K h=>?_
 go_simp;refine h.out _ _ ?_;clear h K J A;have L:=ae.t9 q H F s30 G C u y v r;refine jd ?_;go_wp2;exact bq (by simp[results,results8,go_sem,L.box.cell]) rfl ⟨_,_,_,_,_,_,_,_,_,rfl,I,(L.below t.out (by omega))⟩
