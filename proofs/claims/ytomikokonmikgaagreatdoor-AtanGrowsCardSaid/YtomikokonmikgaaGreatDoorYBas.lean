/-
 Contracts that the proof rests on.
-/
import Derived.Laws.EntriesVeiled
import Derived.Test.YtomikokonmikgaaGreatDoorYBar
namespace Go.Proofs.YtomikokonmikgaaGreatDoor
set_option maxHeartbeats 16000000
open Go.RowKit
set_option linter.unusedVariables false
set_option linter.unusedSimpArgs false
set_option maxRecDepth 100000
theorem Wn.off{w w':World}{g:Nat}{old new:Array Value}{R:TypeId}{s:Bool}{A:Option Addr}{n c:Nat}{z:Int}(h:Wn w s A n c z)(X:Bo w g old R)(hn:old.all no32=true)(O:Jo.Off g new R w w'):Wn w' s A n c z:=⟨h.1.off X hn O,h.2⟩
theorem atDown{w:World}{A:Option Addr}{n c:Nat}{s:Bool}{x:Int}{B:Option Addr}{m d:Nat}{t:Bool}{y:Int}{q:Int}(h:Wr w s A n c x)(k:Wr w t B m d y)(hn:n<=268435456)(hm:m<=268435456)(h0:y≠0)(hq:x.fdiv y=q):Calls Tryz.prog 76 #[.agg #[.bool s,.slice A n c],.agg #[.bool t,.slice B m d]] w (W1 w (n+m+4) q):=by
 go_enter Tryz.func76,Tryz.ntmps76
 go_upto_region 1 with (fail)
 generalize hW1:((w.alloc _).alloc _).alloc _=w1 at *;obtain⟨X2,X3,XR,HB⟩:=Bo.en3 hW1;replace h:=h.below HB.out;replace k:=k.below HB.out;clear hW1;have xX2:=X2.cell;have xX3:=X3.cell
 go_wp2_with fail
 refine(wDiv h k (by omega) (by omega) h0 hq rfl).mono ?_;rintro ee w2 ⟨s8,A8,n8,c8,s9,A9,n9,c9,rfl,p8,p9,k8,k9,B⟩;clear xX2 xX3;replace XR:=XR.b B;replace HB:=Hqb HB B;clear B;clear h k;clear X2 X3
 go_upto_region 2 with (fail)
 have e4X6:(World.alloc w2 (.cells #[.bool s8,.slice A8 n8 c8] 27)).heap.size=w2.heap.size+1:=by simp
 have nX5XR:=XR.lt;have BX:=bel1 w2 (.cells #[.bool s8,.slice A8 n8 c8] 27);replace XR:=XR.b BX;replace p8:=p8.b BX;replace HB:=ie (bt HB.out BX);have X5:=Bo.new w2 #[.bool s8,.slice A8 n8 c8] 27;generalize hWn:World.alloc w2 (.cells #[.bool s8,.slice A8 n8 c8] 27)=w3 at *;clear hWn
 have nX6XR:=XR.lt;have nX6X5:=X5.lt;generalize hWn:w3.alloc _=w4 at *;obtain⟨X6,BW⟩:=Bo.nw hWn;clear hWn;replace XR:=XR.b BW;replace X5:=X5.b BW;replace p8:=p8.b BW;replace HB:=Hqb HB BW;clear BW;rw[e4X6]at X6;clear e4X6;clear p9;have xXR:=XR.cell;have zXR0:=XR.frozen;have xX5:=X5.cell;go_wp2;clear xXR zXR0 xX5
 have SX:=StN.t2 XR s8 A8 n8 c8;replace p8:=p8.s SX;exact bq (v:= .agg #[.bool s8,.slice A8 n8 c8]) (by simp[results,Tryz.results76,go_sem,SX.box.cell]) rfl ⟨s8,A8,n8,c8,rfl,p8,by omega,(SX.below HB.out (by omega))⟩
theorem atShare{w:World}{z lo hi:Int}(h0:0 < z)(h1:z<=1000)(hlo:PLo/z=lo)(hhi:PHi/z+1=hi):Calls Tryz.prog 156 #[.int .i64 z] w (W2 w 60 lo hi):=by
 have HL:Hid (PLo.fdiv z=lo):=ie (by rw[Int.fdiv_eq_ediv_of_nonneg _ (by omega)];exact hlo)
 obtain⟨v,hv⟩:∃v,PHi.fdiv z=v:=⟨_,rfl⟩;have HV:=ie hv
 have HH:Hid (v+1=hi):=ie (by rw[<-hv,Int.fdiv_eq_ediv_of_nonneg _ (by omega)];exact hhi)
 have H0:Hid (z≠0):=ie (by omega)
 clear hlo hhi hv
 go_enter Tryz.func156,Tryz.ntmps156
 go_upto_region 1 with (fail)
 generalize hW1:(w.alloc _).alloc _=w1 at *;obtain⟨XR,XS,HB⟩:=Bo.en2 hW1;clear hW1
 go_wp2_with fail
 refine(cBounds).mono ?_;rintro ee w2 ⟨s2,A2,n2,c2,s3,A3,n3,c3,rfl,p2,p3,k2,k3,B⟩;replace XR:=XR.b B;replace XS:=XS.b B;replace HB:=Hqb HB B;clear B;have hsz2:=HB.out.size
 go_upto_region 2 with (fail)
 have e4X5:(World.alloc w2 (.cells #[.bool s2,.slice A2 n2 c2] 27)).heap.size=w2.heap.size+1:=by simp
 have nX4XR:=XR.lt;have nX4XS:=XS.lt;have BX:=bel1 w2 (.cells #[.bool s2,.slice A2 n2 c2] 27);replace XR:=XR.b BX;replace XS:=XS.b BX;replace p2:=p2.b BX;replace p3:=p3.b BX;replace HB:=ie (bt HB.out BX)
 have X4:=Bo.new w2 #[.bool s2,.slice A2 n2 c2] 27;generalize hWn:World.alloc w2 (.cells #[.bool s2,.slice A2 n2 c2] 27)=w3 at *;clear hWn;have nX5XR:=XR.lt;have nX5XS:=XS.lt;have nX5X4:=X4.lt;generalize hWn:w3.alloc _=w4 at *;obtain⟨X5,BW⟩:=Bo.nw hWn;clear hWn;replace XR:=XR.b BW;replace XS:=XS.b BW;replace X4:=X4.b BW;replace p2:=p2.b BW
 replace p3:=p3.b BW;replace HB:=Hqb HB BW;clear BW;rw[e4X5]at X5;clear e4X5
 go_wp2_with fail
 refine(wFrom z _ (by omega) (by omega)).mono ?_;rintro ee w5 ⟨s6,A6,n6,c6,rfl,p6,k6,B⟩;replace XR:=XR.b B;replace XS:=XS.b B;replace X4:=X4.b B;replace X5:=X5.b B;replace p2:=p2.b B;replace p3:=p3.b B;replace HB:=Hqb HB B;clear B;have hsz6:=HB.out.size
 go_upto_region 3 with (fail)
 have nX6XR:=XR.lt;have nX6XS:=XS.lt;have nX6X4:=X4.lt;have nX6X5:=X5.lt;generalize hWn:w5.alloc _=w6 at *;obtain⟨X6,BW⟩:=Bo.nw hWn;clear hWn;replace XR:=XR.b BW;replace XS:=XS.b BW;replace X4:=X4.b BW;replace X5:=X5.b BW;replace p2:=p2.b BW;replace p3:=p3.b BW;replace p6:=p6.b BW;replace HB:=Hqb HB BW;clear BW
 have ltXR:=XR.lt;have ltXS:=XS.lt;have ltX4:=X4.lt;have ltX5:=X5.lt;have ltX6:=X6.lt;refine jk [0,1,2,3,4,5,6,7] [some 13,some 14,some 15,some 16,some 17,some 18,some 19,some 20,none,none] [[],[],[0,1],[],[],[3,4],[],[5,6],[],[]] 10 2 [Jo.Fact.eq (.agg #[.bool s2,.slice A2 n2 c2]),Jo.Fact.eq (.agg #[.bool s6,.slice A6 n6 c6]),Jo.Fact.wn (lo) (60),Jo.Fact.eq (.agg #[.bool s3,.slice A3 n3 c3]),Jo.Fact.eq (.agg #[.bool s6,.slice A6 n6 c6]),Jo.Fact.wn (v) (50),Jo.Fact.wn (1) (2),Jo.Fact.wn (hi) (60),Jo.Fact.any,Jo.Fact.any] ?_ ?_
 ·iterate 2 (refine jm ?_ ?_;rotate_left)
  refine jm ?_ ?_
  ·rintro wj hJ _ rfl _ rfl K hK;simp only[Jo.z]at hK|-;go_simp;exact Jo.w1 (atDown (p2.b hJ).wr (p6.b hJ).wr (by omega) (by omega) H0.out HL.out) hK.out
  iterate 2 (refine jm ?_ ?_;rotate_left)
  refine jm ?_ ?_
  ·rintro wj hJ _ rfl _ rfl K hK;simp only[Jo.z]at hK|-;go_simp;exact Jo.w1 (atDown (p3.b hJ).wr (p6.b hJ).wr (by omega) (by omega) H0.out HV.out) hK.out
  refine jm ?_ ?_
  ·rintro wj hJ K hK;simp only[Jo.z]at hK|-;go_simp;exact Jo.w1 (wFrom 1 _ (by decide) (by decide)) hK.out
  refine jm ?_ ?_
  ·rintro wj hJ _ ⟨s23,A23,n23,c23,rfl,p23,k23⟩ _ ⟨s24,A24,n24,c24,rfl,p24,k24⟩ K hK;simp only[Jo.z]at hK|-;go_simp;exact Jo.w1 (wAdd p23.wr p24.wr (by omega) (by omega) HH.out) hK.out
  exact jo
  all_goals (rintro wj hJ;(repeat rintro _ rfl);intro K hK;simp only[Jo.z]at hK|-;have xX4:=(X4.b hJ).cell;have xX6:=(X6.b hJ).cell;have xX5:=(X5.b hJ).cell;go_simp;exact hK.out _ _ rfl (br _ _))
 rintro w8 hJ _ rfl _ rfl _ ⟨s22,A22,n22,c22,rfl,p22,k22⟩ _ rfl _ rfl _ ⟨s23,A23,n23,c23,rfl,p23,k23⟩ _ ⟨s24,A24,n24,c24,rfl,p24,k24⟩ _ ⟨s25,A25,n25,c25,rfl,p25,k25⟩ -;simp only[Jo.z];replace XR:=XR.b hJ;replace XS:=XS.b hJ;replace HB:=Hqb HB hJ;clear p2 p3 p6;have xXR:=XR.cell;have zXR0:=XR.frozen
 refine jn 8 fun K hK=>?_
 go_simp;refine hK.out _ _ ?_;clear hK K xXR zXR0;generalize hS:(w8.setCell _ _).setCell _ _=w9 at *;have SX:=StN.of2 XR hS;replace XS:=XS.s SX;replace p22:=p22.s SX;replace p25:=p25.s SX;replace HB:=Hqs HB SX (by omega);replace XR:=SX.box;clear SX hS;have xXS:=XS.cell;have zXS0:=XS.frozen
 refine jn 9 fun K hK=>?_
 go_simp;refine hK.out _ _ ?_;clear hK K xXS zXS0;generalize hS:(w9.setCell _ _).setCell _ _=wA at *;have SX:=StN.of2 XS hS;replace XR:=XR.s SX;replace p22:=p22.s SX;replace p25:=p25.s SX;replace HB:=Hqs HB SX (by omega);replace XS:=SX.box;clear SX hS;refine jd ?_;go_wp2;exact bq (v:= .tuple #[.agg #[.bool s22,.slice A22 n22 c22],.agg #[.bool s25,.slice A25 n25 c25]]) (by simp[results,Tryz.results156,go_sem,XR.cell,XS.cell]) rfl ⟨s22,A22,n22,c22,s25,A25,n25,c25,rfl,p22,p25,k22,k25,HB.out⟩
def W3t (w:World)(K:Nat)(x y z:Int)(e:Ending)(w':World):Prop:=∃s1 A1 n1 c1 s2 A2 n2 c2 s3 A3 n3 c3,e= .returned (.tuple #[.agg #[.bool s1,.slice A1 n1 c1],.agg #[.bool s2,.slice A2 n2 c2],.agg #[.bool s3,.slice A3 n3 c3]])/\Wn w' s1 A1 n1 c1 x/\Wn w' s2 A2 n2 c2 y/\Wn w' s3 A3 n3 c3 z/\n1<=K/\n2<=K/\n3<=K/\Below w.heap.size w w'
theorem Wl.st2{w w':World}{g:Nat}{cs:Array Value}{R:TypeId}{a b:Value}{A:Option Addr}{c K:Nat}{zs:List Int}(h:Wl w A 2 c K zs)(S:StN w w' g #[a,b] cs R)(hn:(#[a,b]:Array Value).all no32=true):Wl w' A 2 c K zs:=by
 obtain⟨h1,h2,h3,h4⟩:=h
 refine⟨h1,h2,h3,fun _=>?_⟩
 obtain⟨b0,o,e,hc⟩:=h4 (by decide)
 have hne:b0≠g:=by
  rintro rfl;obtain⟨s,B,m,d,c0,_⟩:=hc 1 (by decide);rw[S.1.cell]at c0
  have:(#[a,b]:Array Value)[o+1*2]?=none:=Array.getElem?_eq_none (by simp)
  rw[this]at c0
  cases c0
 refine⟨b0,o,e,fun k hk=>?_⟩
 obtain⟨s,B,m,d,c0,c1,hw,hm⟩:=hc k hk
 have t:∀{i:Nat} {v:Value},w.cell? ⟨b0,i,none⟩=some v->w'.cell? ⟨b0,i,none⟩=some v:=fun hv=>by
  unfold World.cell? at hv|-
  rw[S.2.2.1 b0 hne];exact hv
 exact⟨s,B,m,d,t c0,t c1,hw.stn S hn,hm⟩
def Jo.TFact.wl (K n:Nat)(zs:List Int):Jo.TFact #[.bool false,.slice none 0 0] 27:=⟨fun v w=>∃A c,v= .slice A 2 c/\Wl w A 2 c K zs,fun v w w' h b=>by
 obtain⟨A,c,e,h⟩:=h
 exact⟨A,c,e,h.below b⟩,fun v w w' g cs h S=>by
 obtain⟨A,c,e,h⟩:=h;exact⟨A,c,e,h.st2 S (by simp[no32])⟩⟩
theorem Bo.same2{w:World}{g:Nat}{T:TypeId}{a b:Value}(h:Bo w g #[a,b] T):(w.setCell ⟨g,0,none⟩ a).setCell ⟨g,1,none⟩ b=w:=by
 unfold Bo at h
 have e:∀(u:World) (i:Nat) (v:Value),u.heap[g]?=some (.cells #[a,b] T (0,0))->(#[a,b]:Array Value)[i]?=some v->u.setCell ⟨g,i,none⟩ v=u:=by
  intro u i v hu hv
  have hs:(#[a,b]:Array Value).setIfInBounds i v= #[a,b]:=by
   apply Array.ext_getElem?
   intro j
   rw[Array.getElem?_setIfInBounds]
   by_cases c:i=j
   ·subst c;rw[if_pos rfl,hv]
    simp
    obtain⟨hl,_⟩:=Array.getElem?_eq_some_iff.1 hv
    simpa using hl
   ·rw[if_neg c]
  unfold World.setCell
  have hh:u.heap.modify g (fun x=>match x with
   | .cells c elem frozen=> .cells (c.setIfInBounds i v) elem frozen
   | o=>o)=u.heap:=by
   apply Array.ext_getElem?
   intro j
   rw[Array.getElem?_modify]
   by_cases c:g=j
   ·subst c;rw[if_pos rfl,hu]
    simp[hs]
   ·rw[if_neg c]
  cases u
  simp only at hh|-
  congr 1
 rw[e w 0 a h rfl,e w 1 b h rfl]
theorem cmp_leA{x y c:Int}(h:cmpI x y=c):decide (c<=0)=decide (x<=y):=by
 rw[<-h]
 unfold cmpI
 by_cases c1:x < y
 ·rw[if_pos c1]
  simp
  omega
 ·rw[if_neg c1]
  by_cases c2:y < x
  ·rw[if_pos c2]
   simp
   omega
  ·rw[if_neg c2]
   simp
   omega
theorem atTurned_lo{w:World}{A:Option Addr}{n c:Nat}{s:Bool}{v:Int}(h:Wn w s A n c v)(hn:n<=20)(hc:2*v<=SC):Calls Tryz.prog 158 #[.agg #[.bool s,.slice A n c]] w (W3t w 60 v 0 0):=by
 obtain⟨σ,hσ⟩:∃σ,cmpI (2*v) SC=σ:=⟨_,rfl⟩;have e0:=cmp_leA hσ
 have HP:Hid (prd [2,v]=2*v):=ie (by show 1*2*v=_;rw[Int.one_mul])
 have HS:=ie hσ;clear hσ;rw[dt hc]at e0;have HC0:=ie e0;clear e0 hc
 go_enter Tryz.func158,Tryz.ntmps158
 go_upto_region 1 with (fail)
 generalize hW1:(((w.alloc _).alloc _).alloc _).alloc _=w1 at *;obtain⟨X1,XR,XS,XQ,HB⟩:=Bo.en4 hW1;replace h:=h.below HB.out;clear hW1
 go_wp2_with fail
 refine(cScale).mono ?_;rintro ee w2 ⟨s9,A9,n9,c9,rfl,p9,k9,B⟩;replace X1:=X1.b B;replace XR:=XR.b B;replace XS:=XS.b B;replace XQ:=XQ.b B;replace h:=h.b B;replace HB:=Hqb HB B;clear B;have hsz9:=HB.out.size
 go_upto_region 2 with (fail)
 have nX5X1:=X1.lt;have nX5XR:=XR.lt;have nX5XS:=XS.lt;have nX5XQ:=XQ.lt;generalize hWn:w2.alloc _=w3 at *;obtain⟨X5,BW⟩:=Bo.nw hWn;clear hWn;replace X1:=X1.b BW;replace XR:=XR.b BW;replace XS:=XS.b BW;replace XQ:=XQ.b BW;replace h:=h.b BW;replace p9:=p9.b BW;replace HB:=Hqb HB BW;clear BW;have ltX1:=X1.lt;have ltXR:=XR.lt
 have ltXS:=XS.lt;have ltXQ:=XQ.lt;have ltX5:=X5.lt;refine jk [0,1,2,3,4,5,6] [some 7,some 8,some 9,some 10,some 11,some 12,some 13] [[],[],[0,1],[2],[],[3,4],[5]] 7 0 [Jo.Fact.wn (2) (2),Jo.Fact.eq (.agg #[.bool s,.slice A n c]),Jo.Fact.wl 20 2 [2,v],Jo.Fact.wn (2*v) (41),Jo.Fact.eq (.agg #[.bool s9,.slice A9 n9 c9]),Jo.qi σ,Jo.qb true] ?_ ?_
 ·refine jm ?_ ?_
  ·rintro wj hJ K hK;simp only[Jo.z]at hK|-;go_simp;exact Jo.w1 (wFrom 2 _ (by decide) (by decide)) hK.out
  refine jm ?_ ?_;rotate_left
  refine jm ?_ ?_
  ·rintro wj hJ _ ⟨s20,A20,n20,c20,rfl,p20,k20⟩ _ rfl K hK;simp only[Jo.z]at hK|-;go_simp;exact hK.out _ _ ⟨_,_,rfl,Wl.lit2 rfl p20.wr (h.b hJ).wr (by omega) (by omega)⟩ (bel1 _ _)
  refine jm ?_ ?_
  ·rintro wj hJ _ ⟨A21,c21,rfl,h21⟩ K hK;simp only[Jo.z]at hK|-;go_simp;exact Jo.w1 (wMul h21 (by decide) HP.out) hK.out
  refine jm ?_ ?_;rotate_left
  refine jm ?_ ?_
  ·rintro wj hJ _ ⟨s22,A22,n22,c22,rfl,p22,k22⟩ _ rfl K hK;simp only[Jo.z]at hK|-;go_simp;refine(wCmp (r:=σ) p22.wr (p9.b hJ).wr HS.out).mono ?_;rintro ee wk ⟨rfl,B⟩;exact hK.out _ _ rfl B
  refine jm ?_ ?_
  ·rintro wj hJ _ rfl K hK;simp only[Jo.z]at hK|-;have hc0:=HC0.out;go_simp
   exact hK.out _ _ (by first | rfl | (show Value.bool _=Value.bool _;rw[hc0]) | simp_all) (br _ _)
  exact jo
  all_goals (rintro wj hJ;(repeat rintro _ rfl);intro K hK;simp only[Jo.z]at hK|-;have xX1:=(X1.b hJ).cell;have xX5:=(X5.b hJ).cell;go_simp;exact hK.out _ _ rfl (br _ _))
 rintro w4 hJ _ ⟨s20,A20,n20,c20,rfl,p20,k20⟩ _ rfl _ ⟨_,_,rfl,_⟩ _ ⟨s22,A22,n22,c22,rfl,p22,k22⟩ _ rfl _ rfl _ rfl -;simp only[Jo.z];replace X1:=X1.b hJ;replace XR:=XR.b hJ;replace XS:=XS.b hJ;replace XQ:=XQ.b hJ;replace h:=h.b hJ;replace HB:=Hqb HB hJ;refine jd ?_;clear p20 p22 HS HC0 HP;clear p9;have xX1:=X1.cell
 have xXR:=XR.cell;have zXR0:=XR.frozen;have xXS:=XS.cell;have zXS0:=XS.frozen;have xXQ:=XQ.cell;have zXQ0:=XQ.frozen;go_wp2;clear xX1 xXR zXR0 xXS zXS0 xXQ zXQ0;generalize hS:(w4.setCell _ _).setCell _ _=w5 at *;have SX:=StN.of2 XR hS;replace XS:=XS.s SX;replace XQ:=XQ.s SX;replace h:=h.s SX
 replace HB:=Hqs HB SX (by omega);replace XR:=SX.box;clear SX hS;generalize hS:(w5.setCell _ _).setCell _ _=w6 at *;have SX:=StN.of2 XS hS;replace XR:=XR.s SX;replace XQ:=XQ.s SX;replace h:=h.s SX;replace HB:=Hqs HB SX (by omega);replace XS:=SX.box;clear SX hS;generalize hS:(w6.setCell _ _).setCell _ _=w7 at *
 have SX:=StN.of2 XQ hS;replace XR:=XR.s SX;replace XS:=XS.s SX;replace h:=h.s SX;replace HB:=Hqs HB SX (by omega);replace XQ:=SX.box;clear SX hS;exact bq (v:= .tuple #[.agg #[.bool s,.slice A n c],.agg #[.bool false,.slice none 0 0],.agg #[.bool false,.slice none 0 0]]) (by simp[results,Tryz.results158,go_sem,XR.cell,XS.cell,XQ.cell]) rfl ⟨_,_,_,_,_,_,_,_,_,_,_,_,rfl,h,⟨Nm.zero,rfl⟩,⟨Nm.zero,rfl⟩,by omega,Nat.zero_le _,Nat.zero_le _,HB.out⟩
theorem atTurned_hi{w:World}{A:Option Addr}{n c:Nat}{s:Bool}{v:Int}{u lo hi:Int}(h:Wn w s A n c v)(hn:n<=20)(h0:0<=v)(hc:¬2*v<=SC)(hu:(v-SC)*SC/ (v+SC)=u)(hlo:PLo/4=lo)(hhi:PHi/4+1=hi):Calls Tryz.prog 158 #[.agg #[.bool s,.slice A n c]] w (W3t w 100 u lo hi):=by
 obtain⟨σ,hσ⟩:∃σ,cmpI (2*v) SC=σ:=⟨_,rfl⟩;have e0:=cmp_leA hσ
 have HP:Hid (prd [2,v]=2*v):=ie (by show 1*2*v=_;rw[Int.one_mul])
 have HS:=ie hσ;clear hσ;rw[df hc]at e0;have HC0:=ie e0
 have sp:(0:Int) < SC:=by decide
 have HNZ:Hid (v+SC≠0):=ie (by omega)
 have HU:Hid (((v-SC)*SC).fdiv (v+SC)=u):=ie (by rw[Int.fdiv_eq_ediv_of_nonneg _ (by omega)];exact hu)
 have HP2:Hid (prd [v-SC,SC]=(v-SC)*SC):=ie (by show 1*(v-SC)*SC=_;rw[Int.one_mul])
 have HLO:=ie hlo;have HHI:=ie hhi;clear e0 hc hu hlo hhi h0 sp
 go_enter Tryz.func158,Tryz.ntmps158
 go_upto_region 1 with (fail)
 generalize hW1:(((w.alloc _).alloc _).alloc _).alloc _=w1 at *;obtain⟨X1,XR,XS,XQ,HB⟩:=Bo.en4 hW1;replace h:=h.below HB.out;clear hW1
 go_wp2_with fail
 refine(cScale).mono ?_;rintro ee w2 ⟨s9,A9,n9,c9,rfl,p9,k9,B⟩;replace X1:=X1.b B;replace XR:=XR.b B;replace XS:=XS.b B;replace XQ:=XQ.b B;replace h:=h.b B;replace HB:=Hqb HB B;clear B;have hsz9:=HB.out.size
 go_upto_region 2 with (fail)
 have nX5X1:=X1.lt;have nX5XR:=XR.lt;have nX5XS:=XS.lt;have nX5XQ:=XQ.lt;generalize hWn:w2.alloc _=w3 at *;obtain⟨X5,BW⟩:=Bo.nw hWn;clear hWn;replace X1:=X1.b BW;replace XR:=XR.b BW;replace XS:=XS.b BW;replace XQ:=XQ.b BW;replace h:=h.b BW;replace p9:=p9.b BW;replace HB:=Hqb HB BW;clear BW;have ltX1:=X1.lt;have ltXR:=XR.lt
 have ltXS:=XS.lt;have ltXQ:=XQ.lt;have ltX5:=X5.lt;refine jk [0,1,2,3,4,5,6] [some 7,some 8,some 9,some 10,some 11,some 12,some 13] [[],[],[0,1],[2],[],[3,4],[5]] 7 0 [Jo.Fact.wn (2) (2),Jo.Fact.eq (.agg #[.bool s,.slice A n c]),Jo.Fact.wl 20 2 [2,v],Jo.Fact.wn (2*v) (41),Jo.Fact.eq (.agg #[.bool s9,.slice A9 n9 c9]),Jo.qi σ,Jo.qb false] ?_ ?_
 ·refine jm ?_ ?_
  ·rintro wj hJ K hK;simp only[Jo.z]at hK|-;go_simp;exact Jo.w1 (wFrom 2 _ (by decide) (by decide)) hK.out
  refine jm ?_ ?_;rotate_left
  refine jm ?_ ?_
  ·rintro wj hJ _ ⟨s20,A20,n20,c20,rfl,p20,k20⟩ _ rfl K hK;simp only[Jo.z]at hK|-;go_simp;exact hK.out _ _ ⟨_,_,rfl,Wl.lit2 rfl p20.wr (h.b hJ).wr (by omega) (by omega)⟩ (bel1 _ _)
  refine jm ?_ ?_
  ·rintro wj hJ _ ⟨A21,c21,rfl,h21⟩ K hK;simp only[Jo.z]at hK|-;go_simp;exact Jo.w1 (wMul h21 (by decide) HP.out) hK.out
  refine jm ?_ ?_;rotate_left
  refine jm ?_ ?_
  ·rintro wj hJ _ ⟨s22,A22,n22,c22,rfl,p22,k22⟩ _ rfl K hK;simp only[Jo.z]at hK|-;go_simp;refine(wCmp (r:=σ) p22.wr (p9.b hJ).wr HS.out).mono ?_;rintro ee wk ⟨rfl,B⟩;exact hK.out _ _ rfl B
  refine jm ?_ ?_
  ·rintro wj hJ _ rfl K hK;simp only[Jo.z]at hK|-;have hc0:=HC0.out;go_simp
   exact hK.out _ _ (by first | rfl | (show Value.bool _=Value.bool _;rw[hc0]) | simp_all) (br _ _)
  exact jo
  all_goals (rintro wj hJ;(repeat rintro _ rfl);intro K hK;simp only[Jo.z]at hK|-;have xX1:=(X1.b hJ).cell;have xX5:=(X5.b hJ).cell;go_simp;exact hK.out _ _ rfl (br _ _))
 rintro w4 hJ _ ⟨s20,A20,n20,c20,rfl,p20,k20⟩ _ rfl _ ⟨_,_,rfl,_⟩ _ ⟨s22,A22,n22,c22,rfl,p22,k22⟩ _ rfl _ rfl _ rfl -;simp only[Jo.z];replace X1:=X1.b hJ;replace XR:=XR.b hJ;replace XS:=XS.b hJ;replace XQ:=XQ.b hJ;replace X5:=X5.b hJ;replace h:=h.b hJ;replace p9:=p9.b hJ;replace HB:=Hqb HB hJ;refine jd ?_
 clear p20 p22 HS HC0 HP
 go_wp2_with fail
 refine(atShare (by decide) (by decide) HLO.out HHI.out).mono ?_;rintro ee w5 ⟨s30,A30,n30,c30,s31,A31,n31,c31,rfl,p30,p31,k30,k31,B⟩;replace X1:=X1.b B;replace XR:=XR.b B;replace XS:=XS.b B;replace XQ:=XQ.b B;replace X5:=X5.b B;replace h:=h.b B;replace p9:=p9.b B;replace HB:=Hqb HB B;clear B;clear HLO HHI;have xXS:=XS.cell
 have zXS0:=XS.frozen;have xXQ:=XQ.cell;have zXQ0:=XQ.frozen
 go_upto_region 5 with (fail)
 clear xXS zXS0 xXQ zXQ0;generalize hS:(w5.setCell _ _).setCell _ _=w6 at *;have SX:=StN.of2 XS hS;replace X1:=X1.s SX;replace XR:=XR.s SX;replace XQ:=XQ.s SX;replace X5:=X5.s SX;replace h:=h.s SX;replace p9:=p9.s SX;replace p30:=p30.s SX;replace p31:=p31.s SX
 replace HB:=Hqs HB SX (by omega);replace XS:=SX.box;clear SX hS;generalize hS:(w6.setCell _ _).setCell _ _=w7 at *;have SX:=StN.of2 XQ hS;replace X1:=X1.s SX;replace XR:=XR.s SX;replace XS:=XS.s SX;replace X5:=X5.s SX;replace h:=h.s SX;replace p9:=p9.s SX;replace p30:=p30.s SX
 replace p31:=p31.s SX;replace HB:=Hqs HB SX (by omega);replace XQ:=SX.box;clear SX hS;have ltX1:=X1.lt;have ltXR:=XR.lt;have ltXS:=XS.lt;have ltXQ:=XQ.lt;have ltX5:=X5.lt;have hszp:=HB.out.size
 refine Jo.region_lone (old:= #[.bool false,.slice none 0 0]) (R:=27) (T:=[0,1,2,3,4,5,6,7,8,9,10,11,12,13]) (ds:=[some 21,some 22,some 23,some 24,some 25,some 26,some 27,some 28,some 29,some 30,some 31,some 32,none,none,none]) (ls:=[[],[],[0,1],[],[2,3],[4],[],[],[6,7],[5,8],[],[],[9],[10],[]]) (k:=15) (L:=[(some 21,0),(some 22,1),(some 23,2),(some 24,3),(some 25,4),(some 26,5),(some 27,6),(some 28,7),(some 29,8),(some 30,9),(some 31,10),(some 32,11),(none,12),(none,13)]) (fuel:=1) (w1:=w7) (g:=w.heap.size+1) (s:=12) (e:=9)
  (F:=[Jo.TFact.eq (.agg #[.bool s,.slice A n c]),Jo.TFact.eq (.agg #[.bool s9,.slice A9 n9 c9]),Jo.TFact.wn (v-SC) (30),Jo.TFact.eq (.agg #[.bool s9,.slice A9 n9 c9]),Jo.TFact.wl 30 2 [v-SC,SC],Jo.TFact.wn ((v-SC)*SC) (61),Jo.TFact.eq (.agg #[.bool s,.slice A n c]),Jo.TFact.eq (.agg #[.bool s9,.slice A9 n9 c9]),Jo.TFact.wn (v+SC) (30),Jo.TFact.wn (u) (100),Jo.TFact.eq (.agg #[.bool s30,.slice A30 n30 c30]),Jo.TFact.eq (.agg #[.bool s31,.slice A31 n31 c31]),Jo.TFact.any,Jo.TFact.any,Jo.TFact.any])
  XR (by decide) (by kernel_rfl) (by kernel_rfl) (by decide) rfl rfl ?_ (fun vs w8 csp hJ hd ee Xn=>?_)
 ·refine Jo.ocons (i:=0) (o:=⟨some 21,_,_,_,_,_⟩) (di:=some 21) (L:=[]) (f:=Jo.TFact.eq (.agg #[.bool s,.slice A n c])) (by decide) rfl rfl rfl rfl (fun vs wj nw hJ hd K hK=>?_) ?_
  ·clear hd;simp only[Jo.putl,Jo.ze,Act.put,Jo.za,Jo.zb,Jo.zc]at hK|-;replace X1:=X1.off (by omega) hJ;have xX1:=X1.cell;go_simp;exact hK.out _ _ rfl (br _ _)
  refine Jo.ocons (i:=1) (o:=⟨some 22,_,_,_,_,_⟩) (di:=some 22) (L:=[]) (f:=Jo.TFact.eq (.agg #[.bool s9,.slice A9 n9 c9])) (by decide) rfl rfl rfl rfl (fun vs wj nw hJ hd K hK=>?_) ?_
  ·clear hd;simp only[Jo.putl,Jo.ze,Act.put,Jo.za,Jo.zb,Jo.zc]at hK|-;replace X5:=X5.off (by omega) hJ;have xX5:=X5.cell;go_simp;exact hK.out _ _ rfl (br _ _)
  refine Jo.ocons (i:=2) (o:=⟨some 23,_,_,_,_,_⟩) (di:=some 23) (L:=[(some 21,0),(some 22,1)]) (f:=Jo.TFact.wn (v-SC) (30)) (by decide) rfl rfl rfl rfl (fun vs wj nw hJ hd K hK=>?_) ?_
  ·have d0:(Jo.TFact.eq (.agg #[.bool s,.slice A n c]):Jo.TFact #[.bool false,.slice none 0 0] 27).P (vs 0) wj:=hd 0 (by decide)
   have d1:(Jo.TFact.eq (.agg #[.bool s9,.slice A9 n9 c9]):Jo.TFact #[.bool false,.slice none 0 0] 27).P (vs 1) wj:=hd 1 (by decide)
   simp only[Jo.putl,Jo.zd,Jo.ze,Act.put,Jo.za,Jo.zb,Jo.zc]at hK|-;clear hd;generalize vs 0=u0 at hK d0|-;generalize vs 1=u1 at hK d1|-
   replace d0:u0=_:=d0
   subst d0
   replace d1:u1=_:=d1
   subst d1;go_simp;exact Jo.w1 (wSub (h.off XR (by simp[no32]) hJ).wr (p9.off XR (by simp[no32]) hJ).wr (by omega) (by omega) rfl) hK.out
  refine Jo.ocons (i:=3) (o:=⟨some 24,_,_,_,_,_⟩) (di:=some 24) (L:=[]) (f:=Jo.TFact.eq (.agg #[.bool s9,.slice A9 n9 c9])) (by decide) rfl rfl rfl rfl (fun vs wj nw hJ hd K hK=>?_) ?_
  ·clear hd;simp only[Jo.putl,Jo.ze,Act.put,Jo.za,Jo.zb,Jo.zc]at hK|-;replace X5:=X5.off (by omega) hJ;have xX5:=X5.cell;go_simp;exact hK.out _ _ rfl (br _ _)
  refine Jo.ocons (i:=4) (o:=⟨some 25,_,_,_,_,_⟩) (di:=some 25) (L:=[(some 23,2),(some 24,3)]) (f:=Jo.TFact.wl 30 2 [v-SC,SC]) (by decide) rfl rfl rfl rfl (fun vs wj nw hJ hd K hK=>?_) ?_
  ·have d2:(Jo.TFact.wn (v-SC) (30):Jo.TFact #[.bool false,.slice none 0 0] 27).P (vs 2) wj:=hd 2 (by decide)
   have d3:(Jo.TFact.eq (.agg #[.bool s9,.slice A9 n9 c9]):Jo.TFact #[.bool false,.slice none 0 0] 27).P (vs 3) wj:=hd 3 (by decide)
   simp only[Jo.putl,Jo.zd,Jo.ze,Act.put,Jo.za,Jo.zb,Jo.zc]at hK|-;clear hd;generalize vs 2=u2 at hK d2|-;generalize vs 3=u3 at hK d3|-;obtain⟨s40,A40,n40,c40,rfl,p40,k40⟩:=d2
   replace d3:u3=_:=d3
   subst d3;go_simp;exact hK.out _ _ ⟨_,_,rfl,Wl.lit2 rfl p40.wr (p9.off XR (by simp[no32]) hJ).wr (by omega) (by omega)⟩ (bel1 _ _)
  refine Jo.ocons (i:=5) (o:=⟨some 26,_,_,_,_,_⟩) (di:=some 26) (L:=[(some 25,4)]) (f:=Jo.TFact.wn ((v-SC)*SC) (61)) (by decide) rfl rfl rfl rfl (fun vs wj nw hJ hd K hK=>?_) ?_
  ·have d4:(Jo.TFact.wl 30 2 [v-SC,SC]:Jo.TFact #[.bool false,.slice none 0 0] 27).P (vs 4) wj:=hd 4 (by decide)
   clear hd;simp only[Jo.putl,Jo.zd,Jo.ze,Act.put,Jo.za,Jo.zb,Jo.zc]at hK|-;generalize vs 4=u4 at hK d4|-;obtain⟨A41,c41,rfl,h41⟩:=d4;go_simp;exact Jo.w1 (wMul h41 (by decide) HP2.out) hK.out
  refine Jo.ocons (i:=6) (o:=⟨some 27,_,_,_,_,_⟩) (di:=some 27) (L:=[]) (f:=Jo.TFact.eq (.agg #[.bool s,.slice A n c])) (by decide) rfl rfl rfl rfl (fun vs wj nw hJ hd K hK=>?_) ?_
  ·clear hd;simp only[Jo.putl,Jo.ze,Act.put,Jo.za,Jo.zb,Jo.zc]at hK|-;replace X1:=X1.off (by omega) hJ;have xX1:=X1.cell;go_simp;exact hK.out _ _ rfl (br _ _)
  refine Jo.ocons (i:=7) (o:=⟨some 28,_,_,_,_,_⟩) (di:=some 28) (L:=[]) (f:=Jo.TFact.eq (.agg #[.bool s9,.slice A9 n9 c9])) (by decide) rfl rfl rfl rfl (fun vs wj nw hJ hd K hK=>?_) ?_
  ·clear hd;simp only[Jo.putl,Jo.ze,Act.put,Jo.za,Jo.zb,Jo.zc]at hK|-;replace X5:=X5.off (by omega) hJ;have xX5:=X5.cell;go_simp;exact hK.out _ _ rfl (br _ _)
  refine Jo.ocons (i:=8) (o:=⟨some 29,_,_,_,_,_⟩) (di:=some 29) (L:=[(some 27,6),(some 28,7)]) (f:=Jo.TFact.wn (v+SC) (30)) (by decide) rfl rfl rfl rfl (fun vs wj nw hJ hd K hK=>?_) ?_
  ·have d6:(Jo.TFact.eq (.agg #[.bool s,.slice A n c]):Jo.TFact #[.bool false,.slice none 0 0] 27).P (vs 6) wj:=hd 6 (by decide)
   have d7:(Jo.TFact.eq (.agg #[.bool s9,.slice A9 n9 c9]):Jo.TFact #[.bool false,.slice none 0 0] 27).P (vs 7) wj:=hd 7 (by decide)
   simp only[Jo.putl,Jo.zd,Jo.ze,Act.put,Jo.za,Jo.zb,Jo.zc]at hK|-;clear hd;generalize vs 6=u6 at hK d6|-;generalize vs 7=u7 at hK d7|-
   replace d6:u6=_:=d6
   subst d6
   replace d7:u7=_:=d7
   subst d7;go_simp;exact Jo.w1 (wAdd (h.off XR (by simp[no32]) hJ).wr (p9.off XR (by simp[no32]) hJ).wr (by omega) (by omega) rfl) hK.out
  refine Jo.ocons (i:=9) (o:=⟨some 30,_,_,_,_,_⟩) (di:=some 30) (L:=[(some 26,5),(some 29,8)]) (f:=Jo.TFact.wn (u) (100)) (by decide) rfl rfl rfl rfl (fun vs wj nw hJ hd K hK=>?_) ?_
  ·have d5:(Jo.TFact.wn ((v-SC)*SC) (61):Jo.TFact #[.bool false,.slice none 0 0] 27).P (vs 5) wj:=hd 5 (by decide)
   have d8:(Jo.TFact.wn (v+SC) (30):Jo.TFact #[.bool false,.slice none 0 0] 27).P (vs 8) wj:=hd 8 (by decide)
   simp only[Jo.putl,Jo.zd,Jo.ze,Act.put,Jo.za,Jo.zb,Jo.zc]at hK|-;clear hd;generalize vs 5=u5 at hK d5|-;generalize vs 8=u8 at hK d8|-;obtain⟨s42,A42,n42,c42,rfl,p42,k42⟩:=d5;obtain⟨s43,A43,n43,c43,rfl,p43,k43⟩:=d8;go_simp;exact Jo.w1 (atDown p42.wr p43.wr (by omega) (by omega) HNZ.out HU.out) hK.out
  refine Jo.ocons (i:=10) (o:=⟨some 31,_,_,_,_,_⟩) (di:=some 31) (L:=[]) (f:=Jo.TFact.eq (.agg #[.bool s30,.slice A30 n30 c30])) (by decide) rfl rfl rfl rfl (fun vs wj nw hJ hd K hK=>?_) ?_
  ·clear hd;simp only[Jo.putl,Jo.ze,Act.put,Jo.za,Jo.zb,Jo.zc]at hK|-;replace XS:=XS.off (by omega) hJ;have xXS:=XS.cell;go_simp;exact hK.out _ _ rfl (br _ _)
  refine Jo.ocons (i:=11) (o:=⟨some 32,_,_,_,_,_⟩) (di:=some 32) (L:=[]) (f:=Jo.TFact.eq (.agg #[.bool s31,.slice A31 n31 c31])) (by decide) rfl rfl rfl rfl (fun vs wj nw hJ hd K hK=>?_) ?_
  ·clear hd;simp only[Jo.putl,Jo.ze,Act.put,Jo.za,Jo.zb,Jo.zc]at hK|-;replace XQ:=XQ.off (by omega) hJ;have xXQ:=XQ.cell;go_simp;exact hK.out _ _ rfl (br _ _)
  refine Jo.osto (o:=⟨none,_,_,_,_,_⟩) (di:=none) (L:=[(some 30,9)]) (by decide) rfl rfl rfl rfl (fun vs wj hd X K hK=>?_) ?_
  ·have d9:(Jo.TFact.wn (u) (100):Jo.TFact #[.bool false,.slice none 0 0] 27).P (vs 9) wj:=hd 9 (by decide)
   clear hd;simp only[Jo.putl,Jo.zd,Jo.ze,Act.put,Jo.za,Jo.zb,Jo.zc]at hK|-;generalize vs 9=u9 at hK d9|-;obtain⟨s44,A44,n44,c44,rfl,p44,k44⟩:=d9;have xX:=X.cell;have zX:=X.frozen;go_simp;have SX:=StN.t2 X s44 A44 n44 c44;exact hK.out undef _ _ rfl SX
  refine Jo.ocons (i:=13) (o:=⟨none,_,_,_,_,_⟩) (di:=none) (L:=[(some 31,10)]) (f:=Jo.TFact.any) (by decide) rfl rfl rfl rfl (fun vs wj nw hJ hd K hK=>?_) ?_
  ·have d10:(Jo.TFact.eq (.agg #[.bool s30,.slice A30 n30 c30]):Jo.TFact #[.bool false,.slice none 0 0] 27).P (vs 10) wj:=hd 10 (by decide)
   clear hd;simp only[Jo.putl,Jo.zd,Jo.ze,Act.put,Jo.za,Jo.zb,Jo.zc]at hK|-;generalize vs 10=u10 at hK d10|-
   replace d10:u10=_:=d10
   subst d10;replace XS:=XS.off (by omega) hJ;have xXS:=XS.cell;have zXS:=XS.frozen;go_simp;rw[XS.same2];exact hK.out undef _ trivial (br _ _)
  exact Jo.StepsI.nil
 have d0:(Jo.TFact.eq (.agg #[.bool s,.slice A n c]):Jo.TFact #[.bool false,.slice none 0 0] 27).P (vs 0) w8:=hd 0 (by decide)
 have d1:(Jo.TFact.eq (.agg #[.bool s9,.slice A9 n9 c9]):Jo.TFact #[.bool false,.slice none 0 0] 27).P (vs 1) w8:=hd 1 (by decide)
 have d2:(Jo.TFact.wn (v-SC) (30):Jo.TFact #[.bool false,.slice none 0 0] 27).P (vs 2) w8:=hd 2 (by decide)
 have d3:(Jo.TFact.eq (.agg #[.bool s9,.slice A9 n9 c9]):Jo.TFact #[.bool false,.slice none 0 0] 27).P (vs 3) w8:=hd 3 (by decide)
 have d4:(Jo.TFact.wl 30 2 [v-SC,SC]:Jo.TFact #[.bool false,.slice none 0 0] 27).P (vs 4) w8:=hd 4 (by decide)
 have d5:(Jo.TFact.wn ((v-SC)*SC) (61):Jo.TFact #[.bool false,.slice none 0 0] 27).P (vs 5) w8:=hd 5 (by decide)
 have d6:(Jo.TFact.eq (.agg #[.bool s,.slice A n c]):Jo.TFact #[.bool false,.slice none 0 0] 27).P (vs 6) w8:=hd 6 (by decide)
 have d7:(Jo.TFact.eq (.agg #[.bool s9,.slice A9 n9 c9]):Jo.TFact #[.bool false,.slice none 0 0] 27).P (vs 7) w8:=hd 7 (by decide)
 have d8:(Jo.TFact.wn (v+SC) (30):Jo.TFact #[.bool false,.slice none 0 0] 27).P (vs 8) w8:=hd 8 (by decide)
 have d9:(Jo.TFact.wn (u) (100):Jo.TFact #[.bool false,.slice none 0 0] 27).P (vs 9) w8:=hd 9 (by decide)
 have d10:(Jo.TFact.eq (.agg #[.bool s30,.slice A30 n30 c30]):Jo.TFact #[.bool false,.slice none 0 0] 27).P (vs 10) w8:=hd 10 (by decide)
 have d11:(Jo.TFact.eq (.agg #[.bool s31,.slice A31 n31 c31]):Jo.TFact #[.bool false,.slice none 0 0] 27).P (vs 11) w8:=hd 11 (by decide)
 simp only[Jo.putl,Jo.zd,Jo.ze,Act.put,Jo.za,Jo.zb,Jo.zc];clear hd;generalize vs 0=u0 at d0|-;generalize vs 1=u1 at d1|-;generalize vs 2=u2 at d2|-;generalize vs 3=u3 at d3|-;generalize vs 4=u4 at d4|-;generalize vs 5=u5 at d5|-;generalize vs 6=u6 at d6|-;generalize vs 7=u7 at d7|-;generalize vs 8=u8 at d8|-;generalize vs 9=u9 at d9 ee|-;generalize vs 10=u10 at d10|-
 generalize vs 11=u11 at d11|-;generalize vs 12=u12 at|-;generalize vs 13=u13 at|-;clear vs
 replace d0:u0=_:=d0
 subst d0
 replace d1:u1=_:=d1
 subst d1;obtain⟨s40,A40,n40,c40,rfl,p40,k40⟩:=d2
 replace d3:u3=_:=d3
 subst d3;obtain⟨_,_,rfl,_⟩:=d4;obtain⟨s42,A42,n42,c42,rfl,p42,k42⟩:=d5
 replace d6:u6=_:=d6
 subst d6
 replace d7:u7=_:=d7
 subst d7;obtain⟨s43,A43,n43,c43,rfl,p43,k43⟩:=d8;obtain⟨s44,A44,n44,c44,rfl,p44,k44⟩:=d9
 replace d10:u10=_:=d10
 subst d10
 replace d11:u11=_:=d11
 subst d11
 injection ee with ee
 subst ee;replace p30:=p30.off XR (by simp[no32]) hJ;replace p31:=p31.off XR (by simp[no32]) hJ;replace HB:=ie (hJ.below HB.out (by omega) XR.lt);replace XS:=XS.off (by omega) hJ;replace XQ:=XQ.off (by omega) hJ;clear XR hJ;have XR:=Xn;clear Xn;clear h p9 p40 p42 p43;have xXQ:=XQ.cell;have zXQ0:=XQ.frozen
 refine jn 14 fun K hK=>?_
 go_simp;refine hK.out _ _ ?_;clear hK K xXQ zXQ0;generalize hS:(w8.setCell _ _).setCell _ _=w9 at *;have SX:=StN.of2 XQ hS;replace XR:=XR.s SX;replace XS:=XS.s SX;replace p30:=p30.s SX;replace p31:=p31.s SX;replace p44:=p44.s SX;replace HB:=Hqs HB SX (by omega);replace XQ:=SX.box
 clear SX hS;refine jd ?_;go_wp2;exact bq (v:= .tuple #[.agg #[.bool s44,.slice A44 n44 c44],.agg #[.bool s30,.slice A30 n30 c30],.agg #[.bool s31,.slice A31 n31 c31]]) (by simp[results,Tryz.results158,go_sem,XR.cell,XS.cell,XQ.cell]) rfl ⟨_,_,_,_,_,_,_,_,_,_,_,_,rfl,p44,p30,p31,by omega,by omega,by omega,HB.out⟩
def RbInv (w:World)(x:Int)(s:Bool)(A:Option Addr)(n c:Nat)(g3 g4 g5:Nat)(s9:Bool)(A9:Option Addr)(n9 c9:Nat)(j:Nat)(wr:World):Prop:=∃(s4:Bool) (A4:Option Addr) (n4 c4:Nat) (s5:Bool) (A5:Option Addr) (n5 c5:Nat),Bo wr w.heap.size #[.bool s,.slice A n c] 27/\Bo wr (w.heap.size+1) #[.bool false,.slice none 0 0] 27/\Bo wr g3 #[.bool s9,.slice A9 n9 c9] 27/\Bo wr g4 #[.bool s4,.slice A4 n4 c4] 27/\Bo wr g5 #[.bool s5,.slice A5 n5 c5] 27/\Wr wr s A n c x/\Wn wr s9 A9 n9 c9 SC/\Wn wr s4 A4 n4 c4 (aS x j)/\Wr wr s5 A5 n5 c5 (aT x j)/\n4<=20*j/\n5<=20/\j<=111/\Below w.heap.size w wr
theorem le20b{a b c j:Nat}(h:a<=b+c+1)(k:b<=20*j)(l:c<=13):a<=20*(j+1):=by omega
theorem fdiv_oddB (z:Int)(j:Nat):z.fdiv (2*(j:Int)+1)=z/ (2*(j:Int)+1):=Int.fdiv_eq_ediv_of_nonneg _ (by omega)
theorem quo_small{z:Int}(h1: -SC<=z)(h2:z<=SC)(j:Nat): -SC<=z/ (2*(j:Int)+1)/\z/ (2*(j:Int)+1)<=SC:=by
 have f:(z/ (2*(j:Int)+1)).natAbs<=z.natAbs:=Int.natAbs_ediv_le_natAbs _ _
 have sp:(0:Int) < SC:=by decide
 generalize z/ (2*(j:Int)+1)=q at *
 omega
theorem aser_hi{w:World}{A:Option Addr}{n c:Nat}{s:Bool}{x:Int}(h:Wr w s A n c x)(hn:n<=20)(hf:SC < x):Calls Tryz.prog 24 #[.agg #[.bool s,.slice A n c]] w (W1 w 2300 0):=by
 obtain⟨σ,hσ⟩:∃σ,cmpI x SC=σ:=⟨_,rfl⟩;obtain⟨τ,hτ⟩:∃σ,cmpI x (-SC)=σ:=⟨_,rfl⟩;have e0:=(cmp_lt12 hσ).2;have e1:=(cmp_lt12 hτ).1;have HS:=ie hσ;have HT:=ie hτ;clear hσ hτ;rw[dt hf]at e0
 have HC0:=ie e0;have HC1:=ie e1;clear e0 e1
 go_enter Tryz.func24,Tryz.ntmps24
 go_upto_region 1 with (fail)
 generalize hW1:(w.alloc _).alloc _=w1 at *;obtain⟨X1,XR,HB⟩:=Bo.en2 hW1;replace h:=h.below HB.out;clear hW1
 go_wp2_with fail
 refine(cScale).mono ?_;rintro ee w2 ⟨s9,A9,n9,c9,rfl,p9,k9,B⟩;replace X1:=X1.b B;replace XR:=XR.b B;replace h:=h.b B;replace HB:=Hqb HB B;clear B
 go_upto_region 2 with (fail)
 have nX3X1:=X1.lt;have nX3XR:=XR.lt;generalize hWn:w2.alloc _=w3 at *;obtain⟨X3,BW⟩:=Bo.nw hWn;clear hWn;replace X1:=X1.b BW;replace XR:=XR.b BW;replace h:=h.b BW;replace p9:=p9.b BW;replace HB:=Hqb HB BW;clear BW;have ltX1:=X1.lt;have ltXR:=XR.lt;have ltX3:=X3.lt;have hszA:=HB.out.size;refine jk [0,1,2,3,4,5,6,7,8,9,10] [some 9,some 10,some 11,some 12,some 13,some 14,some 15,some 16,some 17,some 18,some 19] [[],[],[0,1],[2],[3],[4],[4],[4,6],[4,5,7],[4,8],[4,9]] 11 0 [Jo.Fact.eq (.agg #[.bool s,.slice A n c]),Jo.Fact.eq (.agg #[.bool s9,.slice A9 n9 c9]),Jo.qi σ,Jo.qb true,Jo.qb true,Jo.qu,Jo.qu,Jo.qu,Jo.qu,Jo.qu,Jo.qb true] ?_ ?_
 ·iterate 2 (refine jm ?_ ?_;rotate_left)
  refine jm ?_ ?_
  ·rintro wj hJ _ rfl _ rfl K hK;simp only[Jo.z]at hK|-;go_simp;refine(wCmp (r:=σ) (h.b hJ) (p9.b hJ).wr HS.out).mono ?_;rintro ee wk ⟨rfl,B⟩;exact hK.out _ _ rfl B
  refine jm ?_ ?_
  ·rintro wj hJ _ rfl K hK;simp only[Jo.z]at hK|-;have hc0:=HC0.out;go_simp
   exact hK.out _ _ (by first | rfl | (show Value.bool _=Value.bool _;rw[hc0]) | simp_all) (br _ _)
  iterate 7 (refine jm ?_ ?_;rotate_left)
  exact jo
  all_goals (rintro wj hJ;(repeat rintro _ rfl);intro K hK;simp only[Jo.z]at hK|-;have xX1:=(X1.b hJ).cell;have xX3:=(X3.b hJ).cell;go_simp;exact hK.out _ _ rfl (br _ _))
 rintro w4 hJ _ rfl _ rfl _ rfl _ rfl _ rfl _ rfl _ rfl _ rfl _ rfl _ rfl _ rfl -;simp only[Jo.z];replace XR:=XR.b hJ;replace HB:=Hqb HB hJ;refine jd ?_;clear HS HC0 HT HC1;clear h p9;have xXR:=XR.cell;have zXR0:=XR.frozen;go_wp2;clear xXR zXR0;have SX:=StN.t2 XR false none 0 0;exact bq (v:= .agg #[.bool false,.slice none 0 0]) (by simp[results,Tryz.results24,go_sem,SX.box.cell]) rfl ⟨_,_,_,_,rfl,⟨Nm.zero,rfl⟩,Nat.zero_le _,(SX.below HB.out (by omega))⟩
theorem aser_lo{w:World}{A:Option Addr}{n c:Nat}{s:Bool}{x:Int}(h:Wr w s A n c x)(hn:n<=20)(hf0:¬SC < x)(hf:x < -SC):Calls Tryz.prog 24 #[.agg #[.bool s,.slice A n c]] w (W1 w 2300 0):=by
 obtain⟨σ,hσ⟩:∃σ,cmpI x SC=σ:=⟨_,rfl⟩;obtain⟨τ,hτ⟩:∃σ,cmpI x (-SC)=σ:=⟨_,rfl⟩;have e0:=(cmp_lt12 hσ).2;have e1:=(cmp_lt12 hτ).1;have HS:=ie hσ;have HT:=ie hτ;clear hσ hτ;rw[df hf0]at e0;rw[dt hf]at e1;have HC0:=ie e0;have HC1:=ie e1;clear e0 e1
 go_enter Tryz.func24,Tryz.ntmps24
 go_upto_region 1 with (fail)
 generalize hW1:(w.alloc _).alloc _=w1 at *;obtain⟨X1,XR,HB⟩:=Bo.en2 hW1;replace h:=h.below HB.out;clear hW1
 go_wp2_with fail
 refine(cScale).mono ?_;rintro ee w2 ⟨s9,A9,n9,c9,rfl,p9,k9,B⟩;replace X1:=X1.b B;replace XR:=XR.b B;replace h:=h.b B;replace HB:=Hqb HB B;clear B
 go_upto_region 2 with (fail)
 have nX3X1:=X1.lt;have nX3XR:=XR.lt;generalize hWn:w2.alloc _=w3 at *;obtain⟨X3,BW⟩:=Bo.nw hWn;clear hWn;replace X1:=X1.b BW;replace XR:=XR.b BW;replace h:=h.b BW;replace p9:=p9.b BW;replace HB:=Hqb HB BW;clear BW;have ltX1:=X1.lt;have ltXR:=XR.lt;have ltX3:=X3.lt;have hszA:=HB.out.size;refine jk [0,1,2,3,4,5,6,7,8,9,10] [some 9,some 10,some 11,some 12,some 13,some 14,some 15,some 16,some 17,some 18,some 19] [[],[],[0,1],[2],[3],[4],[4],[4,6],[4,5,7],[4,8],[4,9]] 11 0 [Jo.Fact.eq (.agg #[.bool s,.slice A n c]),Jo.Fact.eq (.agg #[.bool s9,.slice A9 n9 c9]),Jo.qi σ,Jo.qb false,Jo.qb false,Jo.Fact.eq (.agg #[.bool s,.slice A n c]),Jo.Fact.eq (.agg #[.bool s9,.slice A9 n9 c9]),Jo.Fact.wn (-SC) (8),Jo.qi τ,Jo.qb true,Jo.qb true] ?_ ?_
 ·iterate 2 (refine jm ?_ ?_;rotate_left)
  refine jm ?_ ?_
  ·rintro wj hJ _ rfl _ rfl K hK;simp only[Jo.z]at hK|-;go_simp;refine(wCmp (r:=σ) (h.b hJ) (p9.b hJ).wr HS.out).mono ?_;rintro ee wk ⟨rfl,B⟩;exact hK.out _ _ rfl B
  refine jm ?_ ?_
  ·rintro wj hJ _ rfl K hK;simp only[Jo.z]at hK|-;have hc0:=HC0.out;go_simp
   exact hK.out _ _ (by first | rfl | (show Value.bool _=Value.bool _;rw[hc0]) | simp_all) (br _ _)
  iterate 3 (refine jm ?_ ?_;rotate_left)
  refine jm ?_ ?_
  ·rintro wj hJ _ rfl _ rfl K hK;simp only[Jo.z]at hK|-;go_simp;exact Jo.w1 (wNeg (p9.b hJ).wr rfl) hK.out
  refine jm ?_ ?_
  ·rintro wj hJ _ rfl _ rfl _ ⟨s30,A30,n30,c30,rfl,p30,k30⟩ K hK;simp only[Jo.z]at hK|-;go_simp;refine(wCmp (r:=τ) (h.b hJ) p30.wr HT.out).mono ?_;rintro ee wk ⟨rfl,B⟩;exact hK.out _ _ rfl B
  refine jm ?_ ?_
  ·rintro wj hJ _ rfl _ rfl K hK;simp only[Jo.z]at hK|-;have hc0:=HC1.out;go_simp
   exact hK.out _ _ (by first | rfl | (show Value.bool _=Value.bool _;rw[hc0]) | simp_all) (br _ _)
  refine jm ?_ ?_;rotate_left
  exact jo
  all_goals (rintro wj hJ;(repeat rintro _ rfl);intro K hK;simp only[Jo.z]at hK|-;have xX1:=(X1.b hJ).cell;have xX3:=(X3.b hJ).cell;go_simp;exact hK.out _ _ rfl (br _ _))
 rintro w4 hJ _ rfl _ rfl _ rfl _ rfl _ rfl _ rfl _ rfl _ ⟨s30,A30,n30,c30,rfl,p30,k30⟩ _ rfl _ rfl _ rfl -;simp only[Jo.z];replace XR:=XR.b hJ;replace HB:=Hqb HB hJ;refine jd ?_;clear HS HC0 HT HC1;clear h p9;have xXR:=XR.cell;have zXR0:=XR.frozen;go_wp2;clear xXR zXR0;have SX:=StN.t2 XR false none 0 0
 exact bq (v:= .agg #[.bool false,.slice none 0 0]) (by simp[results,Tryz.results24,go_sem,SX.box.cell]) rfl ⟨_,_,_,_,rfl,⟨Nm.zero,rfl⟩,Nat.zero_le _,(SX.below HB.out (by omega))⟩
theorem aser_near{w:World}{A:Option Addr}{n c:Nat}{s:Bool}{x:Int}(h:Wr w s A n c x)(hn:n<=20)(hf0:¬SC < x)(hf:¬x < -SC):Calls Tryz.prog 24 #[.agg #[.bool s,.slice A n c]] w (W1 w 2300 (aS x 111)):=by
 have HSM:=ie (aT_small (m:=x) (by omega) (by omega));obtain⟨σ,hσ⟩:∃σ,cmpI x SC=σ:=⟨_,rfl⟩;obtain⟨τ,hτ⟩:∃σ,cmpI x (-SC)=σ:=⟨_,rfl⟩;have e0:=(cmp_lt12 hσ).2;have e1:=(cmp_lt12 hτ).1;have HS:=ie hσ;have HT:=ie hτ;clear hσ hτ;rw[df hf0]at e0;rw[df hf]at e1;have HC0:=ie e0;have HC1:=ie e1;clear e0 e1 hf hf0
 go_enter Tryz.func24,Tryz.ntmps24
 go_upto_region 1 with (fail)
 generalize hW1:(w.alloc _).alloc _=w1 at *;obtain⟨X1,XR,HB⟩:=Bo.en2 hW1;replace h:=h.below HB.out;clear hW1
 go_wp2_with fail
 refine(cScale).mono ?_;rintro ee w2 ⟨s9,A9,n9,c9,rfl,p9,k9,B⟩;replace X1:=X1.b B;replace XR:=XR.b B;replace h:=h.b B;replace HB:=Hqb HB B;clear B
 go_upto_region 2 with (fail)
 have nX3X1:=X1.lt;have nX3XR:=XR.lt;generalize hWn:w2.alloc _=w3 at *;obtain⟨X3,BW⟩:=Bo.nw hWn;clear hWn;replace X1:=X1.b BW;replace XR:=XR.b BW;replace h:=h.b BW;replace p9:=p9.b BW;replace HB:=Hqb HB BW;clear BW;have ltX1:=X1.lt;have ltXR:=XR.lt;have ltX3:=X3.lt;have hszA:=HB.out.size;refine jk [0,1,2,3,4,5,6,7,8,9,10] [some 9,some 10,some 11,some 12,some 13,some 14,some 15,some 16,some 17,some 18,some 19] [[],[],[0,1],[2],[3],[4],[4],[4,6],[4,5,7],[4,8],[4,9]] 11 0 [Jo.Fact.eq (.agg #[.bool s,.slice A n c]),Jo.Fact.eq (.agg #[.bool s9,.slice A9 n9 c9]),Jo.qi σ,Jo.qb false,Jo.qb false,Jo.Fact.eq (.agg #[.bool s,.slice A n c]),Jo.Fact.eq (.agg #[.bool s9,.slice A9 n9 c9]),Jo.Fact.wn (-SC) (8),Jo.qi τ,Jo.qb false,Jo.qb false] ?_ ?_
 ·iterate 2 (refine jm ?_ ?_;rotate_left)
  refine jm ?_ ?_
  ·rintro wj hJ _ rfl _ rfl K hK;simp only[Jo.z]at hK|-;go_simp;refine(wCmp (r:=σ) (h.b hJ) (p9.b hJ).wr HS.out).mono ?_;rintro ee wk ⟨rfl,B⟩;exact hK.out _ _ rfl B
  refine jm ?_ ?_
  ·rintro wj hJ _ rfl K hK;simp only[Jo.z]at hK|-;have hc0:=HC0.out;go_simp
   exact hK.out _ _ (by first | rfl | (show Value.bool _=Value.bool _;rw[hc0]) | simp_all) (br _ _)
  iterate 3 (refine jm ?_ ?_;rotate_left)
  refine jm ?_ ?_
  ·rintro wj hJ _ rfl _ rfl K hK;simp only[Jo.z]at hK|-;go_simp;exact Jo.w1 (wNeg (p9.b hJ).wr rfl) hK.out
  refine jm ?_ ?_
  ·rintro wj hJ _ rfl _ rfl _ ⟨s30,A30,n30,c30,rfl,p30,k30⟩ K hK;simp only[Jo.z]at hK|-;go_simp;refine(wCmp (r:=τ) (h.b hJ) p30.wr HT.out).mono ?_;rintro ee wk ⟨rfl,B⟩;exact hK.out _ _ rfl B
  refine jm ?_ ?_
  ·rintro wj hJ _ rfl _ rfl K hK;simp only[Jo.z]at hK|-;have hc0:=HC1.out;go_simp
   exact hK.out _ _ (by first | rfl | (show Value.bool _=Value.bool _;rw[hc0]) | simp_all) (br _ _)
  refine jm ?_ ?_;rotate_left
  exact jo
  all_goals (rintro wj hJ;(repeat rintro _ rfl);intro K hK;simp only[Jo.z]at hK|-;have xX1:=(X1.b hJ).cell;have xX3:=(X3.b hJ).cell;go_simp;exact hK.out _ _ rfl (br _ _))
 rintro w4 hJ _ rfl _ rfl _ rfl _ rfl _ rfl _ rfl _ rfl _ ⟨s30,A30,n30,c30,rfl,p30,k30⟩ _ rfl _ rfl _ rfl -;simp only[Jo.z];replace X1:=X1.b hJ;replace XR:=XR.b hJ;replace X3:=X3.b hJ;replace h:=h.b hJ;replace p9:=p9.b hJ;replace HB:=Hqb HB hJ;refine jd ?_;clear HS HC0 HT HC1;go_wp2;have ltX1:=X1.lt;have ltXR:=XR.lt
 have ltX3:=X3.lt;have hszp:=HB.out.size
 refine Jo.region_trip (old:= #[.bool false,.slice none 0 0]) (R:=27) (T:=[0,1,2,3,4]) (ds:=[some 21,some 22,some 4,some 5,none,none]) (ls:=[[],[],[],[],[0,2,3],[]]) (k:=6) (L:=[(some 21,0),(some 22,1),(some 4,2),(some 5,3),(none,4)]) (fuel:=1) (w1:=w4) (p:=2) (q:=3) (s:=4) (e:=0) (s2:=999) (e2:=999)
  (F:=[Jo.TFact.eq (.agg #[.bool false,.slice none 0 0]),Jo.TFact.eq (.agg #[.bool s,.slice A n c]),Jo.TFact.any,Jo.TFact.any,Jo.TFact.any,Jo.TFact.any])
  (by decide) (by decide) (by decide) (by decide) (by kernel_rfl) (by kernel_rfl) (by decide) rfl rfl ?_ (fun vs w9 hJ hd hpq=>?_)
 ·refine Jo.xcons (i:=0) (o:=⟨some 21,_,_,_,_,_⟩) (di:=some 21) (L:=[]) (f:=Jo.TFact.eq (.agg #[.bool false,.slice none 0 0])) (by decide) (by decide) (by decide) (by decide) rfl rfl rfl rfl (fun vs wj hJ hd K hK=>?_) ?_
  ·clear hd;simp only[Jo.putl,Jo.ze,Act.put,Jo.za,Jo.zb,Jo.zc]at hK|-;go_simp;exact hK.out _ _ rfl (br _ _)
  refine Jo.xcons (i:=1) (o:=⟨some 22,_,_,_,_,_⟩) (di:=some 22) (L:=[]) (f:=Jo.TFact.eq (.agg #[.bool s,.slice A n c])) (by decide) (by decide) (by decide) (by decide) rfl rfl rfl rfl (fun vs wj hJ hd K hK=>?_) ?_
  ·clear hd;simp only[Jo.putl,Jo.ze,Act.put,Jo.za,Jo.zb,Jo.zc]at hK|-
   have xX10:World.cell? wj ⟨w.heap.size,0,none⟩=some (.bool s):=(X1.b hJ).cell 0
   have xX11:World.cell? wj ⟨w.heap.size,1,none⟩=some (.slice A n c):=(X1.b hJ).cell 1
   go_simp;exact hK.out _ _ rfl (br _ _)
  refine Jo.xnew (i:=2) (o:=⟨some 4,_,_,_,_,_⟩) (di:=some 4) (L:=[]) (by decide) (by decide) (by decide) (by decide) rfl rfl rfl rfl (fun vs wj K hK=>?_) ?_
  ·simp only[Jo.putl,Jo.ze,Act.put,Jo.za,Jo.zb,Jo.zc]at hK|-;go_simp;exact hK.out
  refine Jo.xnew (i:=3) (o:=⟨some 5,_,_,_,_,_⟩) (di:=some 5) (L:=[]) (by decide) (by decide) (by decide) (by decide) rfl rfl rfl rfl (fun vs wj K hK=>?_) ?_
  ·simp only[Jo.putl,Jo.ze,Act.put,Jo.za,Jo.zb,Jo.zc]at hK|-;go_simp;exact hK.out
  refine Jo.xsto (o:=⟨none,_,_,_,_,_⟩) (di:=none) (L:=[(some 21,0),(some 4,2),(some 5,3)]) (by decide) (by decide) (by decide) (by decide) rfl rfl rfl rfl (fun vs wj hJ hd g hg X K hK=>?_) ?_
  ·have d0:(Jo.TFact.eq (.agg #[.bool false,.slice none 0 0]):Jo.TFact #[.bool false,.slice none 0 0] 27).P (vs 0) wj:=hd 0 (by decide)
   clear hd;simp only[Jo.putl,Jo.zd,Jo.ze,Act.put,Jo.za,Jo.zb,Jo.zc]at hK|-;simp only[hg]at hK|-;clear hg;generalize vs 0=u0 at hK d0|-;generalize vs 3=u3 at hK|-
   replace d0:u0=_:=d0
   subst d0;have xX:=X.cell;have zX:=X.frozen;go_simp;have SX:=StN.t2 X false none 0 0;exact hK.out undef _ _ rfl SX
  exact Jo.StepsI.nil
 have d0:(Jo.TFact.eq (.agg #[.bool false,.slice none 0 0]):Jo.TFact #[.bool false,.slice none 0 0] 27).P (vs 0) w9:=hd 0 (by decide)
 have d1:(Jo.TFact.eq (.agg #[.bool s,.slice A n c]):Jo.TFact #[.bool false,.slice none 0 0] 27).P (vs 1) w9:=hd 1 (by decide)
 clear hd;obtain⟨g4,g5,csp,ep,eq_,hg4,hg5,hneg4,ee,X4,X5⟩:=hpq;simp only[Jo.putl,Jo.zd,Jo.ze,Act.put,Jo.za,Jo.zb,Jo.zc];simp only[ep,eq_];clear ep eq_;generalize vs 0=u0 at d0 ee|-;generalize vs 1=u1 at d1|-;generalize vs 4=u4 at|-;clear vs
 replace d0:u0=_:=d0
 subst d0
 replace d1:u1=_:=d1
 subst d1
 injection ee with ee
 subst ee;replace X1:=X1.b hJ;replace XR:=XR.b hJ;replace X3:=X3.b hJ;replace h:=h.b hJ;replace p9:=p9.b hJ;replace HB:=Hqb HB hJ;have xX5:=X5.cell;have zX50:=X5.frozen
 refine jn 5 fun K hK=>?_
 go_simp;refine hK.out _ _ ?_;clear hK K xX5 zX50;generalize hS:(w9.setCell _ _).setCell _ _=wB at *;have SX:=StN.of2 X5 hS;replace X1:=X1.s SX;replace XR:=XR.s SX;replace X3:=X3.s SX;replace X4:=X4.s SX;replace h:=h.s SX;replace p9:=p9.s SX;replace HB:=Hqs HB SX (by omega)
 replace X5:=SX.box;clear SX hS;refine jd ?_;generalize hg3:w2.heap.size=g3 at *
 have G1:w.heap.size+1 < g3/\g3 < g4/\g3 < g5/\g4≠g5:=⟨by omega,by omega,by omega,hneg4⟩
 have hI0:RbInv w x s A n c g3 g4 g5 s9 A9 n9 c9 0 wB:=⟨_,_,_,_,_,_,_,_,X1,XR,X3,X4,X5,h,p9,⟨Nm.zero,rfl⟩,h,Nat.zero_le _,hn,by decide,HB.out⟩
 have HI0:=ie hI0;clear hI0 XR X1 X3 X4 X5 h p9 HB;go_wp2
 go_loopw [23] (fun i wr=>∃j:Nat,i= .int .i64 (j:Int)/\RbInv w x s A n c g3 g4 g5 s9 A9 n9 c9 j wr) (fun i _=>112-(intOf i).toNat)
 case atStart=>exact ⟨0,rfl,HI0.out⟩
 case round=>
  obtain⟨j,rfl,s4,A4,n4,c4,s5,A5,n5,c5,X1,XR,X3,X4,X5,h,p9,p4,p5,k4,k5,hj,hB⟩:=hrel;have HB:=ie hB;clear hB HI0
  by_cases hlt:j < 111
  ·have tlt:decide ((j:Int) < 111)=true:=dt (by omega)
   have HW1:=iw (2*(j:Int));have HW2:=iw (2*(j:Int)+1);have HW3:=jw (2*(j:Int)+1);have sm:=HSM.out j;have HQ:=ie (quo_small sm.1 sm.2 j)
   have HAS:Hid (aS x j+(if j%2=1 then -(aT x j/ (2*(j:Int)+1))else aT x j/ (2*(j:Int)+1))=aS x (j+1)):=ie rfl
   have HAT:Hid (aT x j*x/SC*x/SC=aT x (j+1)):=ie rfl
   clear sm;obtain⟨T,hT⟩:∃T,aT x j/ (2*(j:Int)+1)=T:=⟨_,rfl⟩
   have HFD:Hid ((aT x j).fdiv (2*(j:Int)+1)=T):=ie (by rw[fdiv_oddB];exact hT)
   rw[hT]at HQ HAS;clear hT;obtain⟨v,hv⟩:∃v,aT x j*x/SC=v:=⟨_,rfl⟩
   have HP1:Hid (prd [aT x j,x]=aT x j*x):=ie (by show 1*aT x j*x=_;rw[Int.one_mul])
   have HP2:Hid (prd [v,x]=v*x):=ie (by show 1*v*x=_;rw[Int.one_mul])
   have HD1:Hid ((aT x j*x).fdiv SC=v):=ie (by rw[Int.fdiv_eq_ediv_of_nonneg _ (by decide)];exact hv)
   have HD2:Hid ((v*x).fdiv SC=aT x (j+1)):=ie (by rw[Int.fdiv_eq_ediv_of_nonneg _ (by decide),<-hv];exact HAT.out)
   clear hv HAT
   go_upto_region 8 with (fail)
   clear tlt;have ltX1:=X1.lt;have ltXR:=XR.lt;have ltX3:=X3.lt;have ltX4:=X4.lt;have ltX5:=X5.lt;have hszB:=HB.out.size;refine jk [0,1,2,3,4,5,6] [some 26,some 27,some 28,some 29,some 30,some 31,some 7,none] [[],[],[1],[2],[3],[0,4],[],[]] 8 1 [Jo.Fact.eq (.agg #[.bool s5,.slice A5 n5 c5]),Jo.Fact.eq (.int .i64 (j:Int)),Jo.Fact.eq (.int .i64 (2*(j:Int))),Jo.Fact.eq (.int .i64 (2*(j:Int)+1)),Jo.Fact.wn (2*(j:Int)+1) (2),Jo.Fact.wn (T) (30),Jo.Fact.bo wr.heap.size #[.bool false,.slice none 0 0] 27,Jo.Fact.any] ?_ ?_
   ·iterate 2 (refine jm ?_ ?_;rotate_left)
    refine jm ?_ ?_
    ·rintro wj hJ _ rfl K hK;simp only[Jo.z]at hK|-;have hw:=HW1.out;go_simp
     exact hK.out _ _ (by first | rfl | (show Value.int _ _=Value.int _ _;simp_all)) (br _ _)
    refine jm ?_ ?_
    ·rintro wj hJ _ rfl K hK;simp only[Jo.z]at hK|-;have hw:=HW2.out;have hw3:=HW3.out;go_simp
     exact hK.out _ _ (by first | rfl | (show Value.int _ _=Value.int _ _;simp_all)) (br _ _)
    refine jm ?_ ?_
    ·rintro wj hJ _ rfl K hK;simp only[Jo.z]at hK|-;go_simp;exact Jo.w1 (wFrom _ _ (by omega) (by omega)) hK.out
    refine jm ?_ ?_
    ·rintro wj hJ _ rfl _ ⟨s20,A20,n20,c20,rfl,p20,k20⟩ K hK;simp only[Jo.z]at hK|-;go_simp;exact Jo.w1 (atDown (p5.b hJ) p20.wr (by omega) (by omega) (by omega) HFD.out) hK.out
    refine jm ?_ ?_
    ·rintro wj hJ K hK;simp only[Jo.z]at hK|-;go_simp;exact hK.out _ _ ⟨_,rfl,hJ.size,Bo.new _ _ _⟩ (bel1 _ _)
    exact jo
    all_goals (rintro wj hJ;(repeat rintro _ rfl);intro K hK;simp only[Jo.z]at hK|-;have xX5:=(X5.b hJ).cell;go_simp;exact hK.out _ _ rfl (br _ _))
   rintro wb hJ _ rfl _ rfl _ rfl _ rfl _ ⟨s20,A20,n20,c20,rfl,p20,k20⟩ _ ⟨s21,A21,n21,c21,rfl,p21,k21⟩ _ ⟨g7,rfl,hg7,X7⟩ -;simp only[Jo.z];replace X1:=X1.b hJ;replace XR:=XR.b hJ;replace X3:=X3.b hJ;replace X4:=X4.b hJ;replace X5:=X5.b hJ;replace h:=h.b hJ;replace p9:=p9.b hJ;replace p4:=p4.b hJ;replace p5:=p5.b hJ
   replace HB:=Hqb HB hJ;clear p20 HFD HW1 HW2 HW3
   replace k21:n21<=7:=p21.fits (sc_fits HQ.out.1 HQ.out.2)
   clear HQ;have xX7:=X7.cell;have zX70:=X7.frozen
   refine jn 7 fun K hK=>?_
   go_simp;refine hK.out _ _ ?_;clear hK K xX7 zX70;generalize hS:(wb.setCell _ _).setCell _ _=wc at *;have SX:=StN.of2 X7 hS;replace X1:=X1.s SX;replace XR:=XR.s SX;replace X3:=X3.s SX;replace X4:=X4.s SX;replace X5:=X5.s SX;replace h:=h.s SX;replace p9:=p9.s SX
   replace p4:=p4.s SX;replace p5:=p5.s SX;replace p21:=p21.s SX;replace HB:=Hqs HB SX (by omega);replace X7:=SX.box;clear SX hS;refine jd ?_
   by_cases hodd:j%2=1
   ·have HSU:Hid (aS x j+ -T=aS x (j+1)):=ie (by have q:=HAS.out;rw[if_pos hodd]at q;exact q)
    clear HAS
    have t9:(Int.tmod (j:Int) 2==1)=true:=by
     rw[show Int.tmod (j:Int) 2=1 by rw[Int.tmod_eq_emod_of_nonneg (by omega)];omega]
     rfl
    have t8:(((j:Int)%2)==1)=true:=by
     rw[show (j:Int)%2=1 by omega]
     rfl
    clear hodd;have xX7:=X7.cell
    go_wp2_with fail
    refine(wNeg p21.wr rfl).mono ?_;rintro ee w9 ⟨s23,A23,n23,c23,rfl,p23,k23,B⟩;clear xX7;replace X1:=X1.b B;replace XR:=XR.b B;replace X3:=X3.b B;replace X4:=X4.b B;replace X5:=X5.b B;replace X7:=X7.b B;replace h:=h.b B;replace p9:=p9.b B;replace p4:=p4.b B;replace p5:=p5.b B;replace p21:=p21.b B;replace HB:=Hqb HB B
    clear B;clear p21;have xX7:=X7.cell;have zX70:=X7.frozen
    go_upto_region 11 with (fail)
    clear xX7 zX70;generalize hS:(w9.setCell _ _).setCell _ _=wA at *;have SX:=StN.of2 X7 hS;replace X1:=X1.s SX;replace XR:=XR.s SX;replace X3:=X3.s SX;replace X4:=X4.s SX;replace X5:=X5.s SX;replace h:=h.s SX;replace p9:=p9.s SX;replace p4:=p4.s SX
    replace p5:=p5.s SX;replace p23:=p23.s SX;replace HB:=Hqs HB SX (by omega);replace X7:=SX.box;clear SX hS;clear t9 t8;have xX4:=X4.cell;have xX7:=X7.cell
    go_wp2_with fail
    refine(wAdd p4.wr p23.wr (by omega) (by omega) HSU.out).mono ?_;rintro ee wBa ⟨s24,A24,n24,c24,rfl,p24,k24,B⟩;clear xX4 xX7;replace X1:=X1.b B;replace XR:=XR.b B;replace X3:=X3.b B;replace X4:=X4.b B;replace X5:=X5.b B;replace X7:=X7.b B;replace h:=h.b B;replace p9:=p9.b B;replace p4:=p4.b B;replace p5:=p5.b B
    replace p23:=p23.b B;replace HB:=Hqb HB B;clear B;clear p4 p23;have xX4:=X4.cell;have zX40:=X4.frozen
    go_upto_region 12 with (fail)
    clear xX4 zX40;generalize hS:(wBa.setCell _ _).setCell _ _=wBb at *;have SX:=StN.of2 X4 hS;replace X1:=X1.s SX;replace XR:=XR.s SX;replace X3:=X3.s SX;replace X5:=X5.s SX;replace X7:=X7.s SX;replace h:=h.s SX;replace p9:=p9.s SX;replace p5:=p5.s SX
    replace p24:=p24.s SX;replace HB:=Hqs HB SX (by omega);replace X4:=SX.box;clear SX hS;have ltX1:=X1.lt;have ltXR:=XR.lt;have ltX3:=X3.lt;have ltX4:=X4.lt;have ltX5:=X5.lt;have ltX7:=X7.lt;have hszC:=HB.out.size;refine jk [0,1,2,3,4,5,6,7,8,9,10] [some 40,some 41,some 42,some 43,some 44,some 45,some 46,some 47,some 48,some 49,some 50,none] [[],[],[0,1],[2],[],[3,4],[],[5,6],[7],[],[8,9],[]] 12 1 [Jo.Fact.eq (.agg #[.bool s5,.slice A5 n5 c5]),Jo.Fact.eq (.agg #[.bool s,.slice A n c]),Jo.Fact.wl 20 2 [aT x j,x],Jo.Fact.wn (aT x j*x) (41),Jo.Fact.eq (.agg #[.bool s9,.slice A9 n9 c9]),Jo.Fact.wn (v) (60),Jo.Fact.eq (.agg #[.bool s,.slice A n c]),Jo.Fact.wl 60 2 [v,x],Jo.Fact.wn (v*x) (121),Jo.Fact.eq (.agg #[.bool s9,.slice A9 n9 c9]),Jo.Fact.wn (aT x (j+1)) (140),Jo.Fact.any] ?_ ?_
    ·iterate 2 (refine jm ?_ ?_;rotate_left)
     refine jm ?_ ?_
     ·rintro wj hJ _ rfl _ rfl K hK;simp only[Jo.z]at hK|-;go_simp;exact hK.out _ _ ⟨_,_,rfl,Wl.lit2 rfl (p5.b hJ) (h.b hJ) (by omega) (by omega)⟩ (bel1 _ _)
     refine jm ?_ ?_
     ·rintro wj hJ _ ⟨A30,c30,rfl,h30⟩ K hK;simp only[Jo.z]at hK|-;go_simp;exact Jo.w1 (wMul h30 (by decide) HP1.out) hK.out
     refine jm ?_ ?_;rotate_left
     refine jm ?_ ?_
     ·rintro wj hJ _ ⟨s31,A31,n31,c31,rfl,p31,k31⟩ _ rfl K hK;simp only[Jo.z]at hK|-;go_simp;exact Jo.w1 (atDown p31.wr (p9.b hJ).wr (by omega) (by omega) (by decide) HD1.out) hK.out
     refine jm ?_ ?_;rotate_left
     refine jm ?_ ?_
     ·rintro wj hJ _ ⟨s32,A32,n32,c32,rfl,p32,k32⟩ _ rfl K hK;simp only[Jo.z]at hK|-;go_simp;exact hK.out _ _ ⟨_,_,rfl,Wl.lit2 rfl p32.wr (h.b hJ) (by omega) (by omega)⟩ (bel1 _ _)
     refine jm ?_ ?_
     ·rintro wj hJ _ ⟨A33,c33,rfl,h33⟩ K hK;simp only[Jo.z]at hK|-;go_simp;exact Jo.w1 (wMul h33 (by decide) HP2.out) hK.out
     refine jm ?_ ?_;rotate_left
     refine jm ?_ ?_
     ·rintro wj hJ _ ⟨s34,A34,n34,c34,rfl,p34,k34⟩ _ rfl K hK;simp only[Jo.z]at hK|-;go_simp;exact Jo.w1 (atDown p34.wr (p9.b hJ).wr (by omega) (by omega) (by decide) HD2.out) hK.out
     exact jo
     all_goals (rintro wj hJ;(repeat rintro _ rfl);intro K hK;simp only[Jo.z]at hK|-;have xX5:=(X5.b hJ).cell;have xX1:=(X1.b hJ).cell;have xX3:=(X3.b hJ).cell;go_simp;exact hK.out _ _ rfl (br _ _))
    rintro wBc hJ _ rfl _ rfl _ ⟨_,_,rfl,_⟩ _ ⟨s31,A31,n31,c31,rfl,p31,k31⟩ _ rfl _ ⟨s32,A32,n32,c32,rfl,p32,k32⟩ _ rfl _ ⟨_,_,rfl,_⟩ _ ⟨s34,A34,n34,c34,rfl,p34,k34⟩ _ rfl _ ⟨s35,A35,n35,c35,rfl,p35,k35⟩ -;simp only[Jo.z];replace X1:=X1.b hJ;replace XR:=XR.b hJ;replace X3:=X3.b hJ;replace X4:=X4.b hJ;replace X5:=X5.b hJ;replace X7:=X7.b hJ
    replace h:=h.b hJ;replace p9:=p9.b hJ;replace p5:=p5.b hJ;replace p24:=p24.b hJ;replace HB:=Hqb HB hJ;clear p31 p32 p34 p5;have sm:=HSM.out (j+1)
    have hn5:n35<=7:=p35.fits (sc_fits sm.1 sm.2)
    clear sm;have xX5:=X5.cell;have zX50:=X5.frozen
    refine jn 11 fun K hK=>?_
    go_simp;refine hK.out _ _ ?_;clear hK K xX5 zX50;generalize hS:(wBc.setCell _ _).setCell _ _=wBd at *;have SX:=StN.of2 X5 hS;replace X1:=X1.s SX;replace XR:=XR.s SX;replace X3:=X3.s SX;replace X4:=X4.s SX;replace X7:=X7.s SX;replace h:=h.s SX;replace p9:=p9.s SX
    replace p24:=p24.s SX;replace p35:=p35.s SX;replace HB:=Hqs HB SX (by omega);replace X5:=SX.box;clear SX hS;refine jd ?_;have HW5:=iw ((j:Int)+1);have HW6:=jw ((j:Int)+1);have hw5:=HW5.out;have hw6:=HW6.out
    have hn6:n24<=20*(j+1):=le20b k24 k4 (by omega)
    go_wp2;clear hw5 hw6
    go_roundw
    case rel=>exact ⟨j+1,by go_num,_,_,_,_,_,_,_,_,X1,XR,X3,X4,X5,h,p9,p24,p35.wr,hn6,by omega,by omega,HB.out⟩
    case measure=>simp [intOf];omega
   ·have HSU:Hid (aS x j+T=aS x (j+1)):=ie (by have q:=HAS.out;rw[if_neg hodd]at q;exact q)
    clear HAS
    have t9:(Int.tmod (j:Int) 2==1)=false:=by
     rw[show Int.tmod (j:Int) 2=0 by rw[Int.tmod_eq_emod_of_nonneg (by omega)];omega]
     rfl
    have t8:(((j:Int)%2)==1)=false:=by
     rw[show (j:Int)%2=0 by omega]
     rfl
    clear hodd;have p23:=p21;have k23:=k21;clear p21
    go_upto_region 11 with (fail)
    clear t9 t8;have xX4:=X4.cell;have xX7:=X7.cell
    go_wp2_with fail
    refine(wAdd p4.wr p23.wr (by omega) (by omega) HSU.out).mono ?_;rintro ee wBa ⟨s24,A24,n24,c24,rfl,p24,k24,B⟩;clear xX4 xX7;replace X1:=X1.b B;replace XR:=XR.b B;replace X3:=X3.b B;replace X4:=X4.b B;replace X5:=X5.b B;replace h:=h.b B;replace p9:=p9.b B;replace p4:=p4.b B;replace p5:=p5.b B;replace HB:=Hqb HB B
    clear B;clear p4 p23;have xX4:=X4.cell;have zX40:=X4.frozen
    go_upto_region 12 with (fail)
    clear xX4 zX40;generalize hS:(wBa.setCell _ _).setCell _ _=wBb at *;have SX:=StN.of2 X4 hS;replace X1:=X1.s SX;replace XR:=XR.s SX;replace X3:=X3.s SX;replace X5:=X5.s SX;replace h:=h.s SX;replace p9:=p9.s SX;replace p5:=p5.s SX;replace p24:=p24.s SX
    replace HB:=Hqs HB SX (by omega);replace X4:=SX.box;clear SX hS;have ltX1:=X1.lt;have ltXR:=XR.lt;have ltX3:=X3.lt;have ltX4:=X4.lt;have ltX5:=X5.lt;have hszC:=HB.out.size;refine jk [0,1,2,3,4,5,6,7,8,9,10] [some 40,some 41,some 42,some 43,some 44,some 45,some 46,some 47,some 48,some 49,some 50,none] [[],[],[0,1],[2],[],[3,4],[],[5,6],[7],[],[8,9],[]] 12 1 [Jo.Fact.eq (.agg #[.bool s5,.slice A5 n5 c5]),Jo.Fact.eq (.agg #[.bool s,.slice A n c]),Jo.Fact.wl 20 2 [aT x j,x],Jo.Fact.wn (aT x j*x) (41),Jo.Fact.eq (.agg #[.bool s9,.slice A9 n9 c9]),Jo.Fact.wn (v) (60),Jo.Fact.eq (.agg #[.bool s,.slice A n c]),Jo.Fact.wl 60 2 [v,x],Jo.Fact.wn (v*x) (121),Jo.Fact.eq (.agg #[.bool s9,.slice A9 n9 c9]),Jo.Fact.wn (aT x (j+1)) (140),Jo.Fact.any] ?_ ?_
    ·iterate 2 (refine jm ?_ ?_;rotate_left)
     refine jm ?_ ?_
     ·rintro wj hJ _ rfl _ rfl K hK;simp only[Jo.z]at hK|-;go_simp;exact hK.out _ _ ⟨_,_,rfl,Wl.lit2 rfl (p5.b hJ) (h.b hJ) (by omega) (by omega)⟩ (bel1 _ _)
     refine jm ?_ ?_
     ·rintro wj hJ _ ⟨A30,c30,rfl,h30⟩ K hK;simp only[Jo.z]at hK|-;go_simp;exact Jo.w1 (wMul h30 (by decide) HP1.out) hK.out
     refine jm ?_ ?_;rotate_left
     refine jm ?_ ?_
     ·rintro wj hJ _ ⟨s31,A31,n31,c31,rfl,p31,k31⟩ _ rfl K hK;simp only[Jo.z]at hK|-;go_simp;exact Jo.w1 (atDown p31.wr (p9.b hJ).wr (by omega) (by omega) (by decide) HD1.out) hK.out
     refine jm ?_ ?_;rotate_left
     refine jm ?_ ?_
     ·rintro wj hJ _ ⟨s32,A32,n32,c32,rfl,p32,k32⟩ _ rfl K hK;simp only[Jo.z]at hK|-;go_simp;exact hK.out _ _ ⟨_,_,rfl,Wl.lit2 rfl p32.wr (h.b hJ) (by omega) (by omega)⟩ (bel1 _ _)
     refine jm ?_ ?_
     ·rintro wj hJ _ ⟨A33,c33,rfl,h33⟩ K hK;simp only[Jo.z]at hK|-;go_simp;exact Jo.w1 (wMul h33 (by decide) HP2.out) hK.out
     refine jm ?_ ?_;rotate_left
     refine jm ?_ ?_
     ·rintro wj hJ _ ⟨s34,A34,n34,c34,rfl,p34,k34⟩ _ rfl K hK;simp only[Jo.z]at hK|-;go_simp;exact Jo.w1 (atDown p34.wr (p9.b hJ).wr (by omega) (by omega) (by decide) HD2.out) hK.out
     exact jo
     all_goals (rintro wj hJ;(repeat rintro _ rfl);intro K hK;simp only[Jo.z]at hK|-;have xX5:=(X5.b hJ).cell;have xX1:=(X1.b hJ).cell;have xX3:=(X3.b hJ).cell;go_simp;exact hK.out _ _ rfl (br _ _))
    rintro wBc hJ _ rfl _ rfl _ ⟨_,_,rfl,_⟩ _ ⟨s31,A31,n31,c31,rfl,p31,k31⟩ _ rfl _ ⟨s32,A32,n32,c32,rfl,p32,k32⟩ _ rfl _ ⟨_,_,rfl,_⟩ _ ⟨s34,A34,n34,c34,rfl,p34,k34⟩ _ rfl _ ⟨s35,A35,n35,c35,rfl,p35,k35⟩ -;simp only[Jo.z];replace X1:=X1.b hJ;replace XR:=XR.b hJ;replace X3:=X3.b hJ;replace X4:=X4.b hJ;replace X5:=X5.b hJ;replace h:=h.b hJ
    replace p9:=p9.b hJ;replace p24:=p24.b hJ;replace HB:=Hqb HB hJ;clear p31 p32 p34 p5;have sm:=HSM.out (j+1)
    have hn5:n35<=7:=p35.fits (sc_fits sm.1 sm.2)
    clear sm;have xX5:=X5.cell;have zX50:=X5.frozen
    refine jn 11 fun K hK=>?_
    go_simp;refine hK.out _ _ ?_;clear hK K xX5 zX50;generalize hS:(wBc.setCell _ _).setCell _ _=wBd at *;have SX:=StN.of2 X5 hS;replace X1:=X1.s SX;replace XR:=XR.s SX;replace X3:=X3.s SX;replace X4:=X4.s SX;replace h:=h.s SX;replace p9:=p9.s SX;replace p24:=p24.s SX
    replace p35:=p35.s SX;replace HB:=Hqs HB SX (by omega);replace X5:=SX.box;clear SX hS;refine jd ?_;have HW5:=iw ((j:Int)+1);have HW6:=jw ((j:Int)+1);have hw5:=HW5.out;have hw6:=HW6.out
    have hn6:n24<=20*(j+1):=le20b k24 k4 (by omega)
    go_wp2;clear hw5 hw6
    go_roundw
    case rel=>exact ⟨j+1,by go_num,_,_,_,_,_,_,_,_,X1,XR,X3,X4,X5,h,p9,p24,p35.wr,hn6,by omega,by omega,HB.out⟩
    case measure=>simp [intOf];omega
  ·obtain rfl:j=111:=by omega
   have tlt:decide (((111:Nat):Int) < 111)=false:=by decide
   clear h p9 p5;have xXR:=XR.cell;have zXR0:=XR.frozen;have xX4:=X4.cell;go_wp2;clear xXR zXR0 xX4;have SX:=StN.t2 XR s4 A4 n4 c4;replace p4:=p4.s SX;exact bq (v:= .agg #[.bool s4,.slice A4 n4 c4]) (by simp[results,Tryz.results24,go_sem,SX.box.cell]) rfl ⟨_,_,_,_,rfl,p4,by omega,(SX.below HB.out (by omega))⟩
theorem atSer{w:World}{A:Option Addr}{n c:Nat}{s:Bool}{x r:Int}(h:Wr w s A n c x)(hn:n<=20)(hr:serA x=r):Calls Tryz.prog 24 #[.agg #[.bool s,.slice A n c]] w (W1 w 2300 r):=by
 unfold serA at hr
 by_cases h1:SC < x
 ·rw[if_pos (by omega)]at hr;subst hr;exact aser_hi h hn h1
 ·by_cases h2:x < -SC
  ·rw[if_pos (by omega)]at hr;subst hr;exact aser_lo h hn h1 h2
  ·rw[if_neg (by omega)]at hr;subst hr;exact aser_near h hn h1 h2
theorem atTurned{w:World}{A:Option Addr}{n c:Nat}{s:Bool}{v u lo hi:Int}(h:Wn w s A n c v)(hn:n<=20)(h0:0<=v)(hu:pU v=u)(hlo:pA v=lo)(hhi:pB v=hi):Calls Tryz.prog 158 #[.agg #[.bool s,.slice A n c]] w (W3t w 100 u lo hi):=by
 unfold pU at hu
 unfold pA at hlo
 unfold pB at hhi
 by_cases c1:SC < v*2
 ·rw[if_pos c1]at hu hlo hhi;exact atTurned_hi h hn h0 (by omega) hu hlo hhi
 ·rw[if_neg c1]at hu hlo hhi;subst hu;subst hlo;subst hhi;refine(atTurned_lo h hn (by omega)).mono ?_;rintro e w' ⟨s1,A1,n1,c1,s2,A2,n2,c2,s3,A3,n3,c3,e1,p1,p2,p3,k1,k2,k3,B⟩;exact⟨s1,A1,n1,c1,s2,A2,n2,c2,s3,A3,n3,c3,e1,p1,p2,p3,by omega,by omega,by omega,B⟩
theorem atHalf{w:World}{H:Sp}(hT:Tab w)(h:HalfS H):Calls Tryz.prog 80 #[] w (PV w H):=by
 obtain⟨r,u,hr,hu,hz⟩:=h
 have HZ:Hid (mkI r u=H):=ie hz.symm
 have HR:=ie hr;have HU:=ie hu;clear hr hu;clear hz
 go_enter Tryz.func80,Tryz.ntmps80
 go_upto_region 1 with (fail)
 generalize hW1:w.alloc _=w1 at *;obtain⟨XR,HB⟩:=Bo.en1 hW1;replace hT:=hT.below HB.out;clear hW1
 go_wp2_with fail
 refine(atShare (z:=2) (by decide) (by decide) rfl rfl).mono ?_;rintro ee w2 ⟨s2,A2,n2,c2,s3,A3,n3,c3,rfl,p2,p3,k2,k3,B⟩;replace XR:=XR.b B;replace hT:=hT.b B;replace HB:=Hqb HB B;clear B
 have hn2:n2<=20:=p2.fits (by decide)
 have hn3:n3<=20:=p3.fits (by decide)
 go_wp2_with fail
 refine(cPart hT p2.wr p3.wr hn2 hn3 HR.out HU.out HZ.out).mono ?_;rintro ee w5 ⟨e4,K4,s4,M4,E4,K4b,s4b,M4b,E4b,rfl,v4,B⟩;replace XR:=XR.b B;replace HB:=Hqb HB B;clear B;clear p2 p3 hT;have xXR:=XR.cell;have zXR0:=XR.frozen;go_wp2;clear xXR zXR0;have SX:=StN.t9 XR e4 K4 s4 M4 E4 K4b s4b M4b E4b
 exact bq (by simp[results,Tryz.results80,go_sem,SX.box.cell]) rfl ⟨_,_,_,_,_,_,_,_,_,rfl,v4,(SX.below HB.out (by omega))⟩
theorem part_fits{v:Int}(h0:0<=v)(h1:v<=SC): -(2*SC)<=pL v/\pL v<=2*SC/\ -(2*SC)<=pH v/\pH v<=2*SC:=by
 obtain⟨w1,w2⟩:=ang_within h0 h1;obtain⟨f1,f2⟩:=ang_far h0 h1;obtain⟨b1,b2⟩:=ang_bd13 h0 h1;have sp:=sr_pos;have n1:=Rat.mul_le_mul_of_nonneg_right b1 (Rat.le_of_lt sp);have n2:=Rat.mul_le_mul_of_nonneg_right b2 (Rat.le_of_lt sp)
 rw[Rat.intCast_add,show ((214:Int):Rat)=214 from rfl]at w1
 rw[Rat.intCast_sub,show ((214:Int):Rat)=214 from rfl]at w2
 have big:(3000:Rat)<=SR:=by decide +kernel
 have le:pL v<=pH v:=Rat.intCast_le_intCast.1 (by grind)
 have lo: -(2*SC)<=pL v:=Rat.intCast_le_intCast.1 (by
  rw[Rat.intCast_neg,Rat.intCast_mul,show ((2:Int):Rat)=2 from rfl]
  grind)
 have hi:pH v<=2*SC:=Rat.intCast_le_intCast.1 (by
  rw[Rat.intCast_mul,show ((2:Int):Rat)=2 from rfl]
  grind)
 exact⟨lo,by omega,by omega,hi⟩
theorem two_fits{z:Int}(h1: -(2*SC)<=z)(h2:z<=2*SC):z.natAbs < 4294967296^20:=by
 have e:(2*SC).natAbs < 4294967296^20:=by decide
 have sp:(0:Int) < SC:=by decide
 generalize (4294967296:Nat)^20=Z at *
 omega
theorem serA_in{u:Int}(h1: -SC<=u)(h2:u<=SC):serA u=aS u 111:=by
 have sp:(0:Int) < SC:=by decide
 unfold serA
 rw[if_neg (by omega)]
theorem atPart{w:World}{D M E:Int}{s:Bool}{x:Int}{Z:Sp}(hT:Tab w)(h0:0<=M)(hM:LQ M)(hx:rk D s M E=x)(x0:0<=x)(x1:x<=opl 1)(hZ:PartS (fixI x) Z):Calls Tryz.prog 81 #[VQ D s M E] w (PV w Z):=by
 delta VQ
 obtain⟨fb,f0,f1⟩:=fix_unit x0 x1;obtain⟨v,hv⟩:∃v,fixI x=v:=⟨_,rfl⟩;rw[hv]at f0 f1 hZ;obtain⟨r,r2,hr,hr2,hz⟩:=hZ;obtain⟨g1,g2,g3,g4⟩:=part_fits f0 f1;have HFL:=ie (two_fits g1 g2);have HFH:=ie (two_fits g3 g4)
 have HFV:=ie (sc_fits (z:=v) (by have:(0:Int) < SC:=(by decide);omega) f1)
 obtain⟨u1,u2⟩:=pU_bd f0 f1;obtain⟨u,hu⟩:∃u,pU v=u:=⟨_,rfl⟩;obtain⟨a,ha⟩:∃u,pA v=u:=⟨_,rfl⟩;obtain⟨b,hb⟩:∃u,pB v=u:=⟨_,rfl⟩;obtain⟨S,hS⟩:∃S,aS u 111=S:=⟨_,rfl⟩;rw[hu]at u1 u2
 have sp:(3:Int) < SC:=by decide
 have su: -SC<=u/\u<=SC:=by
  generalize SC=Z at *
  omega
 have HFU:=ie (sc_fits su.1 su.2)
 have HSER:Hid (serA u=S):=ie ((serA_in su.1 su.2).trans hS)
 have HL:Hid (a+S-400=pL v):=ie (by unfold pL;rw[ha,hu,hS];omega)
 have HH:Hid (b+S+400=pH v):=ie (by unfold pH;rw[hb,hu,hS])
 have HZ:Hid (mkI r r2=Z):=ie hz.symm
 have HX:=ie hx;have HV:=ie hv;have HFB:=ie fb;have HR:=ie hr;have HR2:=ie hr2;have HU:=ie hu;have HA:=ie ha;have HBB:=ie hb;have HF0:=ie f0;clear hx hv fb hr hr2 hu ha hb f0;clear hz g1 g2 g3 g4 u1 u2 su sp f1 hS x0 x1
 go_enter Tryz.func81,Tryz.ntmps81
 go_upto_region 1 with (fail)
 generalize hW1:(w.alloc _).alloc _=w1 at *;obtain⟨X1,XR,HB⟩:=Bo.en2 hW1;replace hT:=hT.below HB.out;clear hW1;have xX1:=X1.cell
 go_wp2_with fail
 refine(cFix hT h0 hM HX.out HV.out HFB.out).mono ?_;rintro ee w2 ⟨s3,A3,n3,c3,rfl,p3,k3,B⟩;clear xX1;replace XR:=XR.b B;replace hT:=hT.b B;replace HB:=Hqb HB B;clear B
 have hn3:n3<=7:=p3.fits HFV.out
 clear k3
 go_upto_region 2 with (fail)
 have nX3XR:=XR.lt;generalize hWn:w2.alloc _=w3 at *;obtain⟨X3,BW⟩:=Bo.nw hWn;clear hWn;replace XR:=XR.b BW;replace hT:=hT.b BW;replace p3:=p3.b BW;replace HB:=Hqb HB BW;clear BW;clear X1;have xX3:=X3.cell
 go_wp2_with fail
 refine(atTurned p3 (by omega) HF0.out HU.out HA.out HBB.out).mono ?_;rintro ee w4 ⟨s5,A5,n5,c5,s6,A6,n6,c6,s7,A7,n7,c7,rfl,p5,p6,p7,k5,k6,k7,B⟩;clear xX3;replace XR:=XR.b B;replace hT:=hT.b B;replace HB:=Hqb HB B;clear B;clear p3
 have hn5:n5<=7:=p5.fits HFU.out
 go_upto_region 3 with (fail)
 have e4X6:(World.alloc w4 (.cells #[.bool s5,.slice A5 n5 c5] 27)).heap.size=w4.heap.size+1:=by simp
 have e4X7:(World.alloc (World.alloc w4 (.cells #[.bool s5,.slice A5 n5 c5] 27)) (.cells #[.bool s6,.slice A6 n6 c6] 27)).heap.size=w4.heap.size+1+1:=by simp
 have nX5XR:=XR.lt;have BX:=bel1 w4 (.cells #[.bool s5,.slice A5 n5 c5] 27);replace XR:=XR.b BX;replace hT:=hT.b BX;replace p5:=p5.b BX;replace p6:=p6.b BX;replace p7:=p7.b BX;replace HB:=ie (bt HB.out BX)
 have X5:=Bo.new w4 #[.bool s5,.slice A5 n5 c5] 27;generalize hWn:World.alloc w4 (.cells #[.bool s5,.slice A5 n5 c5] 27)=w5 at *;clear hWn;have nX6XR:=XR.lt;have nX6X5:=X5.lt;generalize hWn:w5.alloc _=w6 at *;obtain⟨X6,BW⟩:=Bo.nw hWn;clear hWn;replace XR:=XR.b BW;replace X5:=X5.b BW;replace hT:=hT.b BW;replace p5:=p5.b BW;replace p6:=p6.b BW
 replace p7:=p7.b BW;replace HB:=Hqb HB BW;clear BW;have nX7XR:=XR.lt;have nX7X5:=X5.lt;have nX7X6:=X6.lt;generalize hWn:w6.alloc _=w7 at *;obtain⟨X7,BW⟩:=Bo.nw hWn;clear hWn;replace XR:=XR.b BW;replace X5:=X5.b BW;replace X6:=X6.b BW;replace hT:=hT.b BW;replace p5:=p5.b BW;replace p6:=p6.b BW;replace p7:=p7.b BW
 replace HB:=Hqb HB BW;clear BW;rw[e4X6]at X6;rw[e4X7]at X7;clear X3;have xX5:=X5.cell
 go_wp2_with fail
 refine(atSer p5.wr (by omega) HSER.out).mono ?_;rintro ee w8 ⟨s8,A8,n8,c8,rfl,p8,k8,B⟩;clear xX5;replace XR:=XR.b B;replace X6:=X6.b B;replace X7:=X7.b B;replace hT:=hT.b B;replace p6:=p6.b B;replace p7:=p7.b B;replace HB:=Hqb HB B;clear B;clear p5
 go_wp2_with fail
 refine(wFrom 400 _ (by decide) (by decide)).mono ?_;rintro ee w9 ⟨s9,A9,n9,c9,rfl,p9,k9,B⟩;replace XR:=XR.b B;replace X6:=X6.b B;replace X7:=X7.b B;replace hT:=hT.b B;replace p6:=p6.b B;replace p7:=p7.b B;replace p8:=p8.b B;replace HB:=Hqb HB B;clear B;have hsz9:=HB.out.size
 go_upto_region 4 with (fail)
 have e4X9:(World.alloc w9 (.cells #[.bool s8,.slice A8 n8 c8] 27)).heap.size=w9.heap.size+1:=by simp
 have nX8XR:=XR.lt;have nX8X6:=X6.lt;have nX8X7:=X7.lt;have BX:=bel1 w9 (.cells #[.bool s8,.slice A8 n8 c8] 27);replace XR:=XR.b BX;replace X6:=X6.b BX;replace X7:=X7.b BX;replace hT:=hT.b BX;replace p6:=p6.b BX
 replace p7:=p7.b BX;replace p8:=p8.b BX;replace p9:=p9.b BX;replace HB:=ie (bt HB.out BX);have X8:=Bo.new w9 #[.bool s8,.slice A8 n8 c8] 27;generalize hWn:World.alloc w9 (.cells #[.bool s8,.slice A8 n8 c8] 27)=wA at *
 clear hWn;have nX9XR:=XR.lt;have nX9X6:=X6.lt;have nX9X7:=X7.lt;have nX9X8:=X8.lt;generalize hWn:wA.alloc _=wB at *;obtain⟨X9,BW⟩:=Bo.nw hWn;clear hWn;replace XR:=XR.b BW;replace X6:=X6.b BW;replace X7:=X7.b BW;replace X8:=X8.b BW;replace hT:=hT.b BW;replace p6:=p6.b BW;replace p7:=p7.b BW;replace p8:=p8.b BW;replace p9:=p9.b BW
 replace HB:=Hqb HB BW;clear BW;rw[e4X9]at X9;clear e4X9;have ltXR:=XR.lt;have ltX6:=X6.lt;have ltX7:=X7.lt;have ltX8:=X8.lt;have ltX9:=X9.lt;refine jk [0,1,2,3,4,5,6,7,8,9,10] [some 24,some 25,some 26,some 27,some 28,some 29,some 30,some 31,some 32,some 33,some 34,none] [[],[],[0,1],[],[2,3],[],[],[5,6],[],[7,8],[4,9],[]] 12 1 [Jo.Fact.eq (.agg #[.bool s6,.slice A6 n6 c6]),Jo.Fact.eq (.agg #[.bool s8,.slice A8 n8 c8]),Jo.Fact.wn (a+S) (2500),Jo.Fact.eq (.agg #[.bool s9,.slice A9 n9 c9]),Jo.Fact.wn (pL v) (2600),Jo.Fact.eq (.agg #[.bool s7,.slice A7 n7 c7]),Jo.Fact.eq (.agg #[.bool s8,.slice A8 n8 c8]),Jo.Fact.wn (b+S) (2500),Jo.Fact.eq (.agg #[.bool s9,.slice A9 n9 c9]),Jo.Fact.wn (pH v) (2600),Jo.Fact.iv Z,Jo.Fact.any] ?_ ?_
 ·iterate 2 (refine jm ?_ ?_;rotate_left)
  refine jm ?_ ?_
  ·rintro wj hJ _ rfl _ rfl K hK;simp only[Jo.z]at hK|-;go_simp;exact Jo.w1 (wAdd (p6.b hJ).wr (p8.b hJ).wr (by omega) (by omega) rfl) hK.out
  refine jm ?_ ?_;rotate_left
  refine jm ?_ ?_
  ·rintro wj hJ _ ⟨s22,A22,n22,c22,rfl,p22,k22⟩ _ rfl K hK;simp only[Jo.z]at hK|-;go_simp;exact Jo.w1 (wSub p22.wr (p9.b hJ).wr (by omega) (by omega) HL.out) hK.out
  iterate 2 (refine jm ?_ ?_;rotate_left)
  refine jm ?_ ?_
  ·rintro wj hJ _ rfl _ rfl K hK;simp only[Jo.z]at hK|-;go_simp;exact Jo.w1 (wAdd (p7.b hJ).wr (p8.b hJ).wr (by omega) (by omega) rfl) hK.out
  refine jm ?_ ?_;rotate_left
  refine jm ?_ ?_
  ·rintro wj hJ _ ⟨s27,A27,n27,c27,rfl,p27,k27⟩ _ rfl K hK;simp only[Jo.z]at hK|-;go_simp;exact Jo.w1 (wAdd p27.wr (p9.b hJ).wr (by omega) (by omega) HH.out) hK.out
  refine jm ?_ ?_
  ·rintro wj hJ _ ⟨s24,A24,n24,c24,rfl,p24,k24⟩ _ ⟨s29,A29,n29,c29,rfl,p29,k29⟩ K hK;simp only[Jo.z]at hK|-;go_simp;exact Jo.v1 (cPart (hT.b hJ) p24.wr p29.wr (p24.fits HFL.out) (p29.fits HFH.out) HR.out HR2.out HZ.out) hK.out
  exact jo
  all_goals (rintro wj hJ;(repeat rintro _ rfl);intro K hK;simp only[Jo.z]at hK|-;have xX6:=(X6.b hJ).cell;have xX8:=(X8.b hJ).cell;have xX9:=(X9.b hJ).cell;have xX7:=(X7.b hJ).cell;go_simp;exact hK.out _ _ rfl (br _ _))
 rintro wC hJ _ rfl _ rfl _ ⟨s22,A22,n22,c22,rfl,p22,k22⟩ _ rfl _ ⟨s24,A24,n24,c24,rfl,p24,k24⟩ _ rfl _ rfl _ ⟨s27,A27,n27,c27,rfl,p27,k27⟩ _ rfl _ ⟨s29,A29,n29,c29,rfl,p29,k29⟩ _ ⟨e30,K30,s30,M30,E30,K30b,s30b,M30b,E30b,rfl,v30⟩ -;simp only[Jo.z];replace XR:=XR.b hJ;replace HB:=Hqb HB hJ;clear hT p6 p7 p8 p9 p22 p24 p27 p29;have xXR:=XR.cell
 have zXR0:=XR.frozen
 refine jn 11 fun K hK=>?_
 go_simp;refine hK.out _ _ ?_;clear hK K xXR zXR0;have SX:=StN.t9 XR e30 K30 s30 M30 E30 K30b s30b M30b E30b;refine jd ?_;go_wp2;exact bq (by simp[results,Tryz.results81,go_sem,SX.box.cell]) rfl ⟨_,_,_,_,_,_,_,_,_,rfl,v30,(SX.below HB.out (by omega))⟩
def Nq (w:World)(A:Option Addr)(n c:Nat)(l:List Int):Prop:=
 l.length=n/\n<=c/\n<=1000/\(0 < n->∃b o,A=some ⟨b,o,none⟩/\∀k,k < n->∃D s M E,w.cell? ⟨b,o+k*4,none⟩=some (.int .i64 D)/\w.cell? ⟨b,o+k*4+1,none⟩=some (.bool s)/\w.cell? ⟨b,o+k*4+2,none⟩=some (.int .u64 M)/\w.cell? ⟨b,o+k*4+3,none⟩=some (.int .i64 E)/\Fq D s M E (l.getD k 0))
theorem Nq.below{w w':World}{A:Option Addr}{n c:Nat}{l:List Int}(h:Nq w A n c l)(hb:Below w.heap.size w w'):Nq w' A n c l:=by
 obtain⟨h1,h2,h3,h4⟩:=h
 refine⟨h1,h2,h3,fun hn=>?_⟩
 obtain⟨b,o,e,hc⟩:=h4 hn
 refine⟨b,o,e,fun k hk=>?_⟩
 obtain⟨K,s,M,E,c0,c1,c2,c3,q⟩:=hc k hk
 have t:∀{i:Nat} {v:Value},w.cell? ⟨b,i,none⟩=some v->w'.cell? ⟨b,i,none⟩=some v:=fun c=>(hb.cell (p:=⟨b,_,none⟩) (block_lt_of_cell c)).trans c
 exact⟨K,s,M,E,t c0,t c1,t c2,t c3,q⟩
abbrev Nq.b:= @Nq.below
theorem Nq.of2{w:World}{g:Nat}{K1 K2 M1 M2 E1 E2 r1 r2:Int}{s1 s2:Bool}(X:Bo w g #[.int .i64 K1,.bool s1,.int .u64 M1,.int .i64 E1,.int .i64 K2,.bool s2,.int .u64 M2,.int .i64 E2] 24)
  (q1:Fq K1 s1 M1 E1 r1) (q2:Fq K2 s2 M2 E2 r2):Nq w (some ⟨g,0,none⟩) 2 2 [r1,r2]:=by
 refine⟨rfl,Nat.le_refl _,by decide,fun _=>⟨_,0,rfl,fun k hk=>?_⟩⟩
 rcases (by omega:k=0\/k=1)with rfl | rfl
 ·exact⟨K1,s1,M1,E1,X.at rfl,X.at rfl,X.at rfl,X.at rfl,q1⟩
 ·exact⟨K2,s2,M2,E2,X.at rfl,X.at rfl,X.at rfl,X.at rfl,q2⟩
def Jo.Fact.nq (n:Nat)(l:List Int):Jo.Fact:=⟨fun v w=>∃A c,v= .slice A n c/\Nq w A n c l,fun v w w' h b=>by
 obtain⟨A,c,e,h⟩:=h;exact⟨A,c,e,h.below b⟩⟩
theorem Fq.nn{K:Int}{s:Bool}{M E r:Int}(h:Fq K s M E r):0<=M:=by
 rcases h.1 with⟨_,_,rfl,_⟩ | h | ⟨_,rfl,_⟩
 ·exact Int.le_refl _
 ·have:=h
  omega
 ·exact Int.le_refl _
theorem take1{l:List Sp}{k:Nat}{z:Sp}(h:k < l.length)(hz:l.getD k none=z):l.take (k+1)=l.take k ++[z]:=by
 rw[List.take_succ_eq_append_getElem h,<-hz]
 simp[List.getD_eq_getElem?_getD,h]
theorem meetOne{x:Sp}(hx:SpOk x):meetL [x]=x:=meet_all hx
def FnQ (fid:FuncId)(R:Int->Sp->Prop):Prop:=(∀(args:Array Value) (w:World),(callFunc fid args).run Tryz.prog w= .ok (.enter fid args) w)/\∀(w:World) (D:Int) (s:Bool) (M E x:Int) (z:Sp),Tab w->Tb w->0<=M->M < 18446744073709551616->rk D s M E=x->R x z->Calls Tryz.prog fid #[.agg #[.int .i64 D,.bool s,.int .u64 M,.int .i64 E]] w (PV w z)
theorem hullTwo{a b:Sp}(ha:SpOk a):hullL [a,b]=hullI a b:=by
 show hullI (hullI none a) b=_
 rw[show hullI none a=a by cases a <;> rfl]
theorem atHull{w:World}{fid:FuncId}{R:Int->Sp->Prop}{A:Option Addr}{n c:Nat}{l:List Int}{zs:List Sp}{Z:Sp}(hT:Tab w)(hT2:Tb w)(hq:FnQ fid R)(h:Nq w A n c l)(hz:zs.length=n)(hS:∀k,k < n->R (l.getD k 0) (zs.getD k none))(hr:hullL zs=Z):Calls Tryz.prog 100 #[.func (.func fid) #[] #[],.slice A n c] w (PV w Z):=by
 have HLn:=ie hz;have hcap:=h.2.1;have hbig:=h.2.2.1;have HQ:=ie hq;have HSS:=ie hS;have HRR:=ie hr;clear hz hq hS hr
 go_enter Tryz.func100,Tryz.ntmps100
 go_upto_region 1 with (fail)
 generalize hW1:w.alloc _=w1 at *;obtain⟨XR,HB⟩:=Bo.en1 hW1;replace hT:=hT.below HB.out;replace hT2:=hT2.below HB.out;replace h:=h.below HB.out;clear hW1;have hD0:=h;clear h;go_wp2
 go_loopw [5,10] (fun va i wr=>∃k A1 c1,k<=n/\va= .slice A1 k c1/\i= .int .i64 ((k:Nat):Int)/\Ia wr w1.heap.size A1 k c1 (zs.take k)/\Below w1.heap.size w1 wr) (fun _ i _=>n-(intOf i).toNat)
 case atStart=>exact ⟨0,_,_,Nat.zero_le _,rfl,rfl,Ia.nil _ _,Below.refl _ _⟩
 case round=>
  obtain⟨k,A3,c3,hk,rfl,rfl,N,hB⟩:=hrel;have HB2:=ie hB;clear hB
  by_cases hlt:k < n
  ·have tlt:decide ((k:Int) < (n:Int))=true:=by simp;omega
   have h:=hD0.below HB2.out;obtain⟨b,bo,rfl,hcell⟩:=h.2.2.2 (by omega);obtain⟨D,s,M,E,x0,x1,x2,x3,q⟩:=hcell k hlt;have hv:=HSS.out k hlt;clear hcell h hD0
   have i1:(k:Int) < n:=by omega
   have i2:(0:Int)<=k:=by omega
   obtain⟨z,hz⟩:∃z,zs.getD k none=z:=⟨_,rfl⟩;have htk:=take1 (by rw[HLn.out];exact hlt) hz;rw[hz]at hv;generalize l.getD k 0=x at *;generalize zs.take k=la at *;have HTK:=ie htk;have HV:=ie hv;clear htk hv hz HSS;have hsz:=HB2.out.size
   go_upto_region 5 with (fail)
   clear x0 x1 x2 x3;generalize hWn:wr.alloc _=w3 at *;obtain⟨X5,BW⟩:=Bo.nw hWn;clear hWn;replace N:=N.b BW;replace HB2:=ie (bt HB2.out BW);clear BW;have qT:=hT.below HB2.out;have qT2:=hT2.below HB2.out;have hcf:=HQ.out.1;have xX5:=X5.cell
   go_wp2_with fail
   refine(HQ.out.2 _ _ _ _ _ _ _ qT qT2 q.nn q.top q.rk HV.out).mono ?_;rintro ee w4 ⟨e31,K31,s31,M31,E31,K31b,s31b,M31b,E31b,rfl,v31,B⟩;clear xX5;replace N:=N.b B;replace HB2:=ie (bt HB2.out B);clear B;clear qT qT2 hcf
   go_wp2_with (at_builtin;refine wpList_ia rfl _ _ rfl rfl rfl (N.below (bel1 _ _)) (Ia.lit (Bo.new _ _ _) v31) (by decide) (by omega) (Nat.le_trans HB2.out.size (bel1 _ _).size) ?_)
   intro A5 d5 w9 N' G1 at1
   have hB2:=bt HB2.out (bel1 _ (.cells #[.bool e31,.int .i64 K31,.bool s31,.int .u64 M31,.int .i64 E31,.int .i64 K31b,.bool s31b,.int .u64 M31b,.int .i64 E31b] 32));have Nb:=N.below (bel1 _ (.cells #[.bool e31,.int .i64 K31,.bool s31,.int .u64 M31,.int .i64 E31,.int .i64 K31b,.bool s31b,.int .u64 M31b,.int .i64 E31b] 32))
   replace HB2:=ie (hB2.grown G1 hB2.size (fun k hk=>(Nb.own_lt k hk).1))
   clear N Nb G1 hB2 at1 X5;go_wp2
   go_roundw
   case rel=>exact ⟨k+1,_,_,by omega,rfl,by go_num,by rw[HTK.out];exact N',HB2.out⟩
   case measure=>simp [intOf];omega
  ·obtain rfl:k=n:=by omega
   have tlt:decide ((k:Int) < (k:Int))=false:=by simp
   have e1:zs.take k=zs:=List.take_of_length_le (by rw[HLn.out];omega)
   rw[e1]at N;replace XR:=XR.below HB2.out;replace HB:=ie (bt HB.out HB2.out);clear HB2 hD0 HSS hT hT2
   go_wp2_with fail
   refine(kvHull (N.il (by omega)) HRR.out).mono ?_;rintro ee w5 ⟨e60,K60,s60,M60,E60,K60b,s60b,M60b,E60b,rfl,v60,B⟩;replace XR:=XR.b B;replace HB:=Hqb HB B;clear B;clear N;have xXR:=XR.cell;have zXR0:=XR.frozen;go_wp2;clear xXR zXR0;have SX:=StN.t9 XR e60 K60 s60 M60 E60 K60b s60b M60b E60b
   exact bq (by simp[results,Tryz.results100,go_sem,SX.box.cell]) rfl ⟨_,_,_,_,_,_,_,_,_,rfl,v60,(SX.below HB.out (by omega))⟩
theorem atQuo{w:World}{fid:FuncId}{R:Int->Sp->Prop}{D D' M M' E E':Int}{s s':Bool}{x y ql qh:Int}{U V Z:Sp}(hT:Tab w)(hT2:Tb w)(hq:FnQ fid R)(hM:LQ M)(hM':LQ M')(hx:rk D s M E=x)(hy:rk D' s' M' E'=y)(hl:Qt false x y ql)(hh:Qt true x y qh)(hU:R ql U)(hV:R qh V)(oU:SpOk U)(hz:hullI U V=Z):Calls Tryz.prog 82 #[.func (.func fid) #[] #[],VQ D s M E,VQ D' s' M' E'] w (PV w Z):=by
 delta VQ
 have HSV:Hid (∀k,k < 2->R ([ql,qh].getD k 0) ([U,V].getD k none)):=ie (fun k hk=>by
  rcases (by omega:k=0\/k=1)with rfl | rfl
  ·exact hU
  ·exact hV)
 have HZ:Hid (hullL [U,V]=Z):=ie ((hullTwo oU).trans hz)
 clear hU hV oU hz;have HQ:=ie hq;have HX:=ie hx;have HY:=ie hy;have HLQ:=ie hl;have HHQ:=ie hh;clear hq hx hy hl hh
 go_enter Tryz.func82,Tryz.ntmps82
 go_upto_region 1 with (fail)
 generalize hW1:((w.alloc _).alloc _).alloc _=w1 at *;obtain⟨X4,X5,XR,HB⟩:=Bo.en3 hW1;replace hT:=hT.below HB.out;replace hT2:=hT2.below HB.out;clear hW1;have ltX4:=X4.lt;have ltX5:=X5.lt;have ltXR:=XR.lt;refine jk [0,1,2,3,4,5,6,7,8] [some 7,some 8,some 9,some 10,some 11,some 12,some 13,some 14,some 15,none] [[],[],[],[1,2],[],[],[4,5],[3,6],[0,7],[]] 10 1 [Jo.Fact.eq (.func (.func fid) #[] #[]),Jo.q4 D s M E,Jo.q4 D' s' M' E',Jo.Fact.num ql,Jo.q4 D s M E,Jo.q4 D' s' M' E',Jo.Fact.num qh,Jo.Fact.nq 2 [ql,qh],Jo.Fact.iv Z,Jo.Fact.any] ?_ ?_
 ·iterate 3 (refine jm ?_ ?_;rotate_left)
  refine jm ?_ ?_
  ·rintro wj hJ _ rfl _ rfl K hK;simp only[Jo.z]at hK|-;go_simp;exact Jo.n1 (kDiv (hT.b hJ) hM hM' HX.out HY.out HLQ.out) hK.out
  iterate 2 (refine jm ?_ ?_;rotate_left)
  refine jm ?_ ?_
  ·rintro wj hJ _ rfl _ rfl K hK;simp only[Jo.z]at hK|-;go_simp;exact Jo.n1 (kDiv (hT.b hJ) hM hM' HX.out HY.out HHQ.out) hK.out
  refine jm ?_ ?_
  ·rintro wj hJ _ ⟨K20,s20,M20,E20,rfl,q20⟩ _ ⟨K21,s21,M21,E21,rfl,q21⟩ K hK;simp only[Jo.z]at hK|-;go_simp;exact hK.out _ _ ⟨_,2,rfl,Nq.of2 (Bo.new _ _ _) q20 q21⟩ (bel1 _ _)
  refine jm ?_ ?_
  ·rintro wj hJ _ rfl _ ⟨A51,c51,rfl,h51⟩ K hK;simp only[Jo.z]at hK|-;go_simp;exact Jo.v1 (atHull (hT.b hJ) (hT2.b hJ) HQ.out h51 rfl HSV.out HZ.out) hK.out
  exact jo
  all_goals (rintro wj hJ;(repeat rintro _ rfl);intro K hK;simp only[Jo.z]at hK|-;have xX4:=(X4.b hJ).cell;have xX5:=(X5.b hJ).cell;go_simp;exact hK.out _ _ rfl (br _ _))
 rintro w2 hJ _ rfl _ rfl _ rfl _ ⟨K20,s20,M20,E20,rfl,_⟩ _ rfl _ rfl _ ⟨K21,s21,M21,E21,rfl,_⟩ _ ⟨_,_,rfl,_⟩ _ ⟨e30,K30,s30,M30,E30,K30b,s30b,M30b,E30b,rfl,v30⟩ -;simp only[Jo.z];replace XR:=XR.b hJ;replace HB:=Hqb HB hJ;clear hT hT2;have xXR:=XR.cell;have zXR0:=XR.frozen
 refine jn 9 fun K hK=>?_
 go_simp;refine hK.out _ _ ?_;clear hK K xXR zXR0;have SX:=StN.t9 XR e30 K30 s30 M30 E30 K30b s30b M30b E30b;refine jd ?_;go_wp2;exact bq (by simp[results,Tryz.results82,go_sem,SX.box.cell]) rfl ⟨_,_,_,_,_,_,_,_,_,rfl,v30,(SX.below HB.out (by omega))⟩
def PartR (x:Int)(Z:Sp):Prop:=0<=x/\x<=opl 1/\PartS (fixI x) Z
theorem fnq_part:FnQ 81 PartR:=⟨fun _ _=>by first | rfl | kernel_rfl | simp[callFunc,go_sem],fun _ _ _ _ _ _ _ hT _ h0 hM hx hz=>atPart hT h0 hM hx hz.1 hz.2.1 hz.2.2⟩
theorem cmp_inf{x c:Int}(h:cmpI x 19342822337206103650074625=c):(c==0)=decide (x=19342822337206103650074625):=by
 rw[<-h]
 unfold cmpI
 by_cases c1:x < 19342822337206103650074625
 ·rw[if_pos c1,df (by omega)]
  rfl
 ·rw[if_neg c1]
  by_cases c2:19342822337206103650074625 < x
  ·rw[if_pos c2,df (by omega)]
   rfl
  ·rw[if_neg c2,dt (by omega)]
   rfl
theorem cmp_ltA{x y c:Int}(h:cmpI x y=c):decide (c < 0)=decide (x < y):=(cmp_lt12 h).1
theorem atan_inf{w:World}{D M E:Int}{s:Bool}{x:Int}{Z:Sp}(hT:Tab w)(hT2:Tb w)(h0:0<=M)(hM:LQ M)(hx:rk D s M E=x)(hx1:x=19342822337206103650074625)(hZ:HalfS Z):Calls Tryz.prog 26 #[VQ D s M E] w (PV w Z):=by
 delta VQ
 obtain⟨σ,hσ⟩:∃σ,cmpI x 0=σ:=⟨_,rfl⟩;have e0:=cmp_ltA hσ;obtain⟨τ,hτ⟩:∃σ,cmpI x 19342822337206103650074625=σ:=⟨_,rfl⟩;have e1:=cmp_inf hτ
 rw[show decide (x < 0)=false from df (by omega)]at e0
 rw[dt hx1]at e1
 have HI:Hid (sgi false TP=19342822337206103650074625):=ie rfl
 clear hx1;have HX:=ie hx;have HS:=ie hσ;have HT:=ie hτ;have HE0:=ie e0;have HE1:=ie e1;have HZ:=ie hZ;clear hx hσ hτ e0 e1 hZ
 go_enter Tryz.func26,Tryz.ntmps26
 go_upto_region 1 with (fail)
 generalize hW1:(w.alloc _).alloc _=w1 at *;obtain⟨X1,XR,HB⟩:=Bo.en2 hW1;replace hT:=hT.below HB.out;clear hW1
 go_wp2_with fail
 refine(nOf (n:=1) (r:=opl 1) _ (by decide) (by decide) rfl).mono ?_;rintro ee w2 ⟨K20,s20,M20,E20,rfl,q20,B⟩;replace X1:=X1.b B;replace XR:=XR.b B;replace hT:=hT.b B;replace HB:=Hqb HB B;clear B
 go_upto_region 2 with (fail)
 have nX3X1:=X1.lt;have nX3XR:=XR.lt;generalize hWn:w2.alloc _=w3 at *;obtain⟨X3,BW⟩:=Bo.nw hWn;clear hWn;replace X1:=X1.b BW;replace XR:=XR.b BW;replace hT:=hT.b BW;replace HB:=Hqb HB BW;clear BW;have e0:=HE0.out;have xX1:=X1.cell
 go_wp2_with fail
 refine(nSign (σ:=σ) hM (by rw[HX.out];exact HS.out)).mono ?_;rintro ee w4 ⟨rfl,B⟩;clear xX1;replace X1:=X1.b B;replace XR:=XR.b B;replace hT:=hT.b B;replace HB:=Hqb HB B;clear B
 go_upto_region 4 with (fail)
 clear e0;refine jk [0,1,2,3,4] [some 14,some 15,some 16,some 17,some 13] [[],[],[0,1],[2],[3]] 5 0 [Jo.q4 D s M E,Jo.Fact.num 19342822337206103650074625,Jo.qi τ,Jo.qb true,Jo.qb true] ?_ ?_
 ·refine jm ?_ ?_;rotate_left
  refine jm ?_ ?_
  ·rintro wj hJ K hK;simp only[Jo.z]at hK|-;go_simp;exact Jo.n1 (nInf (s:=false) HI.out) hK.out
  refine jm ?_ ?_
  ·rintro wj hJ _ rfl _ ⟨K22,s22,M22,E22,rfl,q22⟩ K hK;simp only[Jo.z]at hK|-;go_simp;refine(nCmp (z:=τ) hM q22.top (by rw[HX.out,q22.rk];exact HT.out)).mono ?_;rintro ee wk ⟨rfl,B⟩;exact hK.out _ _ rfl B
  refine jm ?_ ?_
  ·rintro wj hJ _ rfl K hK;simp only[Jo.z]at hK|-;have hc0:=HE1.out;go_simp
   exact hK.out _ _ (by first | rfl | (show Value.bool _=Value.bool _;rw[hc0]) | simp_all) (br _ _)
  refine jm ?_ ?_;rotate_left
  exact jo
  all_goals (rintro wj hJ;(repeat rintro _ rfl);intro K hK;simp only[Jo.z]at hK|-;have xX1:=(X1.b hJ).cell;go_simp;exact hK.out _ _ rfl (br _ _))
 rintro w5 hJ _ rfl _ ⟨K22,s22,M22,E22,rfl,_⟩ _ rfl _ rfl _ rfl -;simp only[Jo.z];replace XR:=XR.b hJ;replace hT:=hT.b hJ;replace HB:=Hqb HB hJ;refine jd ?_
 go_wp2_with fail
 refine(atHalf hT HZ.out).mono ?_;rintro ee w6 ⟨e30,K30,s30,M30,E30,K30b,s30b,M30b,E30b,rfl,v30,B⟩;replace XR:=XR.b B;replace HB:=Hqb HB B;clear B;clear hT hT2;have xXR:=XR.cell;have zXR0:=XR.frozen;go_wp2;clear xXR zXR0;have SX:=StN.t9 XR e30 K30 s30 M30 E30 K30b s30b M30b E30b
 exact bq (by simp[results,Tryz.results26,go_sem,SX.box.cell]) rfl ⟨_,_,_,_,_,_,_,_,_,rfl,v30,(SX.below HB.out (by omega))⟩
theorem atan_part{w:World}{D M E:Int}{s:Bool}{x:Int}{Z:Sp}(hT:Tab w)(hT2:Tb w)(h0:0<=M)(hM:LQ M)(hx:rk D s M E=x)(x0:0<=x)(x1:x<=opl 1)(hx1:x≠19342822337206103650074625)(hZ:PartS (fixI x) Z):Calls Tryz.prog 26 #[VQ D s M E] w (PV w Z):=by
 delta VQ
 obtain⟨σ,hσ⟩:∃σ,cmpI x 0=σ:=⟨_,rfl⟩;have e0:=cmp_ltA hσ;obtain⟨τ,hτ⟩:∃σ,cmpI x 19342822337206103650074625=σ:=⟨_,rfl⟩;have e1:=cmp_inf hτ;obtain⟨ρ,hρ⟩:∃σ,cmpI x (opl 1)=σ:=⟨_,rfl⟩;have e2:=cmp_leA hρ
 rw[show decide (x < 0)=false from df (by omega)]at e0
 rw[df hx1]at e1;rw[dt x1]at e2
 have HI:Hid (sgi false TP=19342822337206103650074625):=ie rfl
 clear hx1;have HX:=ie hx;have HS:=ie hσ;have HT:=ie hτ;have HRO:=ie hρ;have HE0:=ie e0;have HE1:=ie e1;have HE2:=ie e2;have HZ:=ie hZ;have HX0:=ie x0;have HX1:=ie x1;clear hx hσ hτ hρ e0 e1 e2 hZ x0 x1
 go_enter Tryz.func26,Tryz.ntmps26
 go_upto_region 1 with (fail)
 generalize hW1:(w.alloc _).alloc _=w1 at *;obtain⟨X1,XR,HB⟩:=Bo.en2 hW1;replace hT:=hT.below HB.out;clear hW1
 go_wp2_with fail
 refine(nOf (n:=1) (r:=opl 1) _ (by decide) (by decide) rfl).mono ?_;rintro ee w2 ⟨K20,s20,M20,E20,rfl,q20,B⟩;replace X1:=X1.b B;replace XR:=XR.b B;replace hT:=hT.b B;replace HB:=Hqb HB B;clear B
 go_upto_region 2 with (fail)
 have nX3X1:=X1.lt;have nX3XR:=XR.lt;generalize hWn:w2.alloc _=w3 at *;obtain⟨X3,BW⟩:=Bo.nw hWn;clear hWn;replace X1:=X1.b BW;replace XR:=XR.b BW;replace hT:=hT.b BW;replace HB:=Hqb HB BW;clear BW;have e0:=HE0.out;have xX1:=X1.cell
 go_wp2_with fail
 refine(nSign (σ:=σ) hM (by rw[HX.out];exact HS.out)).mono ?_;rintro ee w4 ⟨rfl,B⟩;clear xX1;replace X1:=X1.b B;replace XR:=XR.b B;replace X3:=X3.b B;replace hT:=hT.b B;replace HB:=Hqb HB B;clear B
 go_upto_region 4 with (fail)
 clear e0;refine jk [0,1,2,3,4] [some 14,some 15,some 16,some 17,some 13] [[],[],[0,1],[2],[3]] 5 0 [Jo.q4 D s M E,Jo.Fact.num 19342822337206103650074625,Jo.qi τ,Jo.qb false,Jo.qb false] ?_ ?_
 ·refine jm ?_ ?_;rotate_left
  refine jm ?_ ?_
  ·rintro wj hJ K hK;simp only[Jo.z]at hK|-;go_simp;exact Jo.n1 (nInf (s:=false) HI.out) hK.out
  refine jm ?_ ?_
  ·rintro wj hJ _ rfl _ ⟨K22,s22,M22,E22,rfl,q22⟩ K hK;simp only[Jo.z]at hK|-;go_simp;refine(nCmp (z:=τ) hM q22.top (by rw[HX.out,q22.rk];exact HT.out)).mono ?_;rintro ee wk ⟨rfl,B⟩;exact hK.out _ _ rfl B
  refine jm ?_ ?_
  ·rintro wj hJ _ rfl K hK;simp only[Jo.z]at hK|-;have hc0:=HE1.out;go_simp
   exact hK.out _ _ (by first | rfl | (show Value.bool _=Value.bool _;rw[hc0]) | simp_all) (br _ _)
  refine jm ?_ ?_;rotate_left
  exact jo
  all_goals (rintro wj hJ;(repeat rintro _ rfl);intro K hK;simp only[Jo.z]at hK|-;have xX1:=(X1.b hJ).cell;go_simp;exact hK.out _ _ rfl (br _ _))
 rintro w5 hJ _ rfl _ ⟨K22,s22,M22,E22,rfl,_⟩ _ rfl _ rfl _ rfl -;simp only[Jo.z];replace X1:=X1.b hJ;replace XR:=XR.b hJ;replace X3:=X3.b hJ;replace hT:=hT.b hJ;replace HB:=Hqb HB hJ;refine jd ?_;have e2:=HE2.out;have xX1:=X1.cell;have xX3:=X3.cell
 go_wp2_with fail
 refine(nCmp (z:=ρ) hM q20.top (by rw[HX.out,q20.rk];exact HRO.out)).mono ?_;rintro ee w6 ⟨rfl,B⟩;clear xX1 xX3;replace X1:=X1.b B;replace XR:=XR.b B;replace hT:=hT.b B;replace HB:=Hqb HB B;clear B;have xX1:=X1.cell
 go_wp2_with fail
 refine(atPart hT h0 hM HX.out HX0.out HX1.out HZ.out).mono ?_;rintro ee w7 ⟨e30,K30,s30,M30,E30,K30b,s30b,M30b,E30b,rfl,v30,B⟩;clear xX1;replace XR:=XR.b B;replace HB:=Hqb HB B;clear B;clear hT hT2 e2;have xXR:=XR.cell;have zXR0:=XR.frozen;go_wp2;clear xXR zXR0
 have SX:=StN.t9 XR e30 K30 s30 M30 E30 K30b s30b M30b E30b;exact bq (by simp[results,Tryz.results26,go_sem,SX.box.cell]) rfl ⟨_,_,_,_,_,_,_,_,_,rfl,v30,(SX.below HB.out (by omega))⟩
theorem atan_far{w:World}{D M E:Int}{s:Bool}{x:Int}{ql qh:Int}{H U V W Z:Sp}(hT:Tab w)(hT2:Tb w)(h0:0<=M)(hM:LQ M)(hx:rk D s M E=x)(x1:¬x<=opl 1)(hx1:x≠19342822337206103650074625)(hH:HalfS H)(hl:Qt false (opl 1) x ql)(hh:Qt true (opl 1) x qh)(hU:PartR ql U)(hV:PartR qh V)(oU:SpOk U)(hW:hullI U V=W)(hZ:subI H W=Z):Calls Tryz.prog 26 #[VQ D s M E] w (PV w Z):=by
 delta VQ
 obtain⟨σ,hσ⟩:∃σ,cmpI x 0=σ:=⟨_,rfl⟩;have e0:=cmp_ltA hσ;obtain⟨τ,hτ⟩:∃σ,cmpI x 19342822337206103650074625=σ:=⟨_,rfl⟩;have e1:=cmp_inf hτ;obtain⟨ρ,hρ⟩:∃σ,cmpI x (opl 1)=σ:=⟨_,rfl⟩;have e2:=cmp_leA hρ
 have one:0 < opl 1:=by decide
 rw[show decide (x < 0)=false from df (by omega)]at e0
 rw[df hx1]at e1;rw[df x1]at e2
 have HI:Hid (sgi false TP=19342822337206103650074625):=ie rfl
 clear hx1 x1 one;have HX:=ie hx;have HS:=ie hσ;have HT:=ie hτ;have HRO:=ie hρ;have HE0:=ie e0;have HE1:=ie e1;have HE2:=ie e2;have HH:=ie hH;have HLQ:=ie hl;have HHQ:=ie hh;have HU:=ie hU;have HV:=ie hV;have HOU:=ie oU;have HW:=ie hW;have HZ:=ie hZ;clear hx hσ hτ hρ e0 e1 e2 hH hl hh hU hV oU hW hZ
 go_enter Tryz.func26,Tryz.ntmps26
 go_upto_region 1 with (fail)
 generalize hW1:(w.alloc _).alloc _=w1 at *;obtain⟨X1,XR,HB⟩:=Bo.en2 hW1;replace hT:=hT.below HB.out;replace hT2:=hT2.below HB.out;clear hW1
 go_wp2_with fail
 refine(nOf (n:=1) (r:=opl 1) _ (by decide) (by decide) rfl).mono ?_;rintro ee w2 ⟨K20,s20,M20,E20,rfl,q20,B⟩;replace X1:=X1.b B;replace XR:=XR.b B;replace hT:=hT.b B;replace hT2:=hT2.b B;replace HB:=Hqb HB B;clear B
 go_upto_region 2 with (fail)
 have nX3X1:=X1.lt;have nX3XR:=XR.lt;generalize hWn:w2.alloc _=w3 at *;obtain⟨X3,BW⟩:=Bo.nw hWn;clear hWn;replace X1:=X1.b BW;replace XR:=XR.b BW;replace hT:=hT.b BW;replace hT2:=hT2.b BW;replace HB:=Hqb HB BW;clear BW;have e0:=HE0.out;have xX1:=X1.cell
 go_wp2_with fail
 refine(nSign (σ:=σ) hM (by rw[HX.out];exact HS.out)).mono ?_;rintro ee w4 ⟨rfl,B⟩;clear xX1;replace X1:=X1.b B;replace XR:=XR.b B;replace X3:=X3.b B;replace hT:=hT.b B;replace hT2:=hT2.b B;replace HB:=Hqb HB B;clear B
 go_upto_region 4 with (fail)
 clear e0;refine jk [0,1,2,3,4] [some 14,some 15,some 16,some 17,some 13] [[],[],[0,1],[2],[3]] 5 0 [Jo.q4 D s M E,Jo.Fact.num 19342822337206103650074625,Jo.qi τ,Jo.qb false,Jo.qb false] ?_ ?_
 ·refine jm ?_ ?_;rotate_left
  refine jm ?_ ?_
  ·rintro wj hJ K hK;simp only[Jo.z]at hK|-;go_simp;exact Jo.n1 (nInf (s:=false) HI.out) hK.out
  refine jm ?_ ?_
  ·rintro wj hJ _ rfl _ ⟨K22,s22,M22,E22,rfl,q22⟩ K hK;simp only[Jo.z]at hK|-;go_simp;refine(nCmp (z:=τ) hM q22.top (by rw[HX.out,q22.rk];exact HT.out)).mono ?_;rintro ee wk ⟨rfl,B⟩;exact hK.out _ _ rfl B
  refine jm ?_ ?_
  ·rintro wj hJ _ rfl K hK;simp only[Jo.z]at hK|-;have hc0:=HE1.out;go_simp
   exact hK.out _ _ (by first | rfl | (show Value.bool _=Value.bool _;rw[hc0]) | simp_all) (br _ _)
  refine jm ?_ ?_;rotate_left
  exact jo
  all_goals (rintro wj hJ;(repeat rintro _ rfl);intro K hK;simp only[Jo.z]at hK|-;have xX1:=(X1.b hJ).cell;go_simp;exact hK.out _ _ rfl (br _ _))
 rintro w5 hJ _ rfl _ ⟨K22,s22,M22,E22,rfl,_⟩ _ rfl _ rfl _ rfl -;simp only[Jo.z];replace X1:=X1.b hJ;replace XR:=XR.b hJ;replace X3:=X3.b hJ;replace hT:=hT.b hJ;replace hT2:=hT2.b hJ;replace HB:=Hqb HB hJ;refine jd ?_;have e2:=HE2.out;have xX1:=X1.cell;have xX3:=X3.cell
 go_wp2_with fail
 refine(nCmp (z:=ρ) hM q20.top (by rw[HX.out,q20.rk];exact HRO.out)).mono ?_;rintro ee w6 ⟨rfl,B⟩;clear xX1 xX3;replace X1:=X1.b B;replace XR:=XR.b B;replace X3:=X3.b B;replace hT:=hT.b B;replace hT2:=hT2.b B;replace HB:=Hqb HB B;clear B
 go_upto_region 8 with (fail)
 clear e2;have ltX1:=X1.lt;have ltXR:=XR.lt;have ltX3:=X3.lt;refine jk [0,1,2,3,4] [some 26,some 27,some 28,some 29,some 30,none] [[],[],[],[1,2],[0,3],[]] 6 1 [Jo.Fact.iv H,Jo.q4 K20 s20 M20 E20,Jo.q4 D s M E,Jo.Fact.iv W,Jo.Fact.iv Z,Jo.Fact.any] ?_ ?_
 ·refine jm ?_ ?_
  ·rintro wj hJ K hK;simp only[Jo.z]at hK|-;go_simp;exact Jo.v1 (atHalf (hT.b hJ) HH.out) hK.out
  iterate 2 (refine jm ?_ ?_;rotate_left)
  refine jm ?_ ?_
  ·rintro wj hJ _ rfl _ rfl K hK;simp only[Jo.z]at hK|-;go_simp;exact Jo.v1 (atQuo (hT.b hJ) (hT2.b hJ) fnq_part q20.top hM q20.rk HX.out HLQ.out HHQ.out HU.out HV.out HOU.out HW.out) hK.out
  refine jm ?_ ?_
  ·rintro wj hJ _ ⟨e30,K30,s30,M30,E30,K30b,s30b,M30b,E30b,rfl,v30⟩ _ ⟨e31,K31,s31,M31,E31,K31b,s31b,M31b,E31b,rfl,v31⟩ K hK;simp only[Jo.z]at hK|-;go_simp;exact Jo.v1 (fkSub (hT2.b hJ) v30.top.1 v30.top.2 v31.top.1 v31.top.2 v30.rk v31.rk HZ.out) hK.out
  exact jo
  all_goals (rintro wj hJ;(repeat rintro _ rfl);intro K hK;simp only[Jo.z]at hK|-;have xX3:=(X3.b hJ).cell;have xX1:=(X1.b hJ).cell;go_simp;exact hK.out _ _ rfl (br _ _))
 rintro w7 hJ _ ⟨e30,K30,s30,M30,E30,K30b,s30b,M30b,E30b,rfl,v30⟩ _ rfl _ rfl _ ⟨e31,K31,s31,M31,E31,K31b,s31b,M31b,E31b,rfl,v31⟩ _ ⟨e32,K32,s32,M32,E32,K32b,s32b,M32b,E32b,rfl,v32⟩ -;simp only[Jo.z];replace XR:=XR.b hJ;replace HB:=Hqb HB hJ;clear hT hT2;have xXR:=XR.cell;have zXR0:=XR.frozen
 refine jn 5 fun K hK=>?_
 go_simp;refine hK.out _ _ ?_;clear hK K xXR zXR0;have SX:=StN.t9 XR e32 K32 s32 M32 E32 K32b s32b M32b E32b;refine jd ?_;go_wp2;exact bq (by simp[results,Tryz.results26,go_sem,SX.box.cell]) rfl ⟨_,_,_,_,_,_,_,_,_,rfl,v32,(SX.below HB.out (by omega))⟩
theorem partS_ok{v:Int}{Z:Sp}(h:PartS v Z)(h0:0<=v)(h1:v<=SC):SpOk Z:=(h.is h0 h1).1.ok
theorem atAtanP{w:World}{D M E:Int}{s:Bool}{x:Int}{q:Bool->Int->Int->Int}{Z:Sp}(hq:QF q)(hT:Tab w)(hT2:Tb w)(h0:0<=M)(hM:LQ M)(hx:rk D s M E=x)(x0:0<=x)(hZ:AtP q x Z):Calls Tryz.prog 26 #[VQ D s M E] w (PV w Z):=by
 delta VQ
 have hx2:x<=19342822337206103650074625:=by rw[<-hx];exact(rk_bd hM).2
 rcases hZ with⟨e,hH⟩ | ⟨e,x1,hP⟩ | ⟨e,x1,H,l,h,hH,hl,hh,rfl⟩
 ·exact atan_inf hT hT2 h0 hM hx e hH
 ·exact atan_part hT hT2 h0 hM hx x0 x1 e hP
 ·obtain⟨b1,b2,b3⟩:=inv_bd hq x1 (by omega);have f1:=fix_unit b1 (by omega);exact atan_far hT hT2 h0 hM hx x1 e hH (hq false _ _) (hq true _ _) ⟨b1,by omega,hl⟩ ⟨by omega,b3,hh⟩ (partS_ok hl f1.2.1 f1.2.2) rfl rfl
theorem atan_neg{w:World}{D M E:Int}{s:Bool}{x:Int}{q:Bool->Int->Int->Int}{Y Z:Sp}(hq:QF q)(hT:Tab w)(hT2:Tb w)(h0:0<=M)(hM:LQ M)(hx:rk D s M E=x)(x0:x < 0)(hY:AtP q (-x) Y)(hZ:negI Y=Z):Calls Tryz.prog 26 #[VQ D s M E] w (PV w Z):=by
 delta VQ
 obtain⟨σ,hσ⟩:∃σ,cmpI x 0=σ:=⟨_,rfl⟩;have e0:=cmp_ltA hσ;rw[dt x0]at e0
 have HP:Hid (0<= -x):=ie (by omega)
 clear x0;have HX:=ie hx;have HS:=ie hσ;have HE0:=ie e0;have HY:=ie hY;have HZ:=ie hZ;have HQ:=ie hq;clear hx hσ e0 hY hZ hq
 go_enter Tryz.func26,Tryz.ntmps26
 go_upto_region 1 with (fail)
 generalize hW1:(w.alloc _).alloc _=w1 at *;obtain⟨X1,XR,HB⟩:=Bo.en2 hW1;replace hT:=hT.below HB.out;replace hT2:=hT2.below HB.out;clear hW1
 go_wp2_with fail
 refine(nOf (n:=1) (r:=opl 1) _ (by decide) (by decide) rfl).mono ?_;rintro ee w2 ⟨K20,s20,M20,E20,rfl,q20,B⟩;replace X1:=X1.b B;replace XR:=XR.b B;replace hT:=hT.b B;replace hT2:=hT2.b B;replace HB:=Hqb HB B;clear B
 go_upto_region 2 with (fail)
 have nX3X1:=X1.lt;have nX3XR:=XR.lt;generalize hWn:w2.alloc _=w3 at *;obtain⟨X3,BW⟩:=Bo.nw hWn;clear hWn;replace X1:=X1.b BW;replace XR:=XR.b BW;replace hT:=hT.b BW;replace hT2:=hT2.b BW;replace HB:=Hqb HB BW;clear BW;have e0:=HE0.out;have xX1:=X1.cell
 go_wp2_with fail
 refine(nSign (σ:=σ) hM (by rw[HX.out];exact HS.out)).mono ?_;rintro ee w4 ⟨rfl,B⟩;clear xX1;replace X1:=X1.b B;replace XR:=XR.b B;replace hT:=hT.b B;replace hT2:=hT2.b B;replace HB:=Hqb HB B;clear B;have xX1:=X1.cell
 go_wp2_with fail
 refine(nNeg hM (by rw[HX.out])).mono ?_;rintro ee w5 ⟨K21,s21,M21,E21,rfl,q21,B⟩;clear xX1;replace XR:=XR.b B;replace hT:=hT.b B;replace hT2:=hT2.b B;replace HB:=Hqb HB B;clear B
 go_wp2_with fail
 refine(atAtanP HQ.out hT hT2 q21.nn q21.top q21.rk HP.out HY.out).mono ?_;rintro ee w6 ⟨e30,K30,s30,M30,E30,K30b,s30b,M30b,E30b,rfl,v30,B⟩;replace XR:=XR.b B;replace HB:=Hqb HB B;clear B
 go_wp2_with fail
 refine(fkNeg v30.top.1 v30.top.2 v30.rk HZ.out).mono ?_;rintro ee w7 ⟨e31,K31,s31,M31,E31,K31b,s31b,M31b,E31b,rfl,v31,B⟩;replace XR:=XR.b B;replace HB:=Hqb HB B;clear B;clear hT hT2 e0;have xXR:=XR.cell;have zXR0:=XR.frozen;go_wp2;clear xXR zXR0;have SX:=StN.t9 XR e31 K31 s31 M31 E31 K31b s31b M31b E31b
 exact bq (by simp[results,Tryz.results26,go_sem,SX.box.cell]) rfl ⟨_,_,_,_,_,_,_,_,_,rfl,v31,(SX.below HB.out (by omega))⟩
theorem atAtan{w:World}{D M E:Int}{s:Bool}{x:Int}{q:Bool->Int->Int->Int}{Z:Sp}(hq:QF q)(hT:Tab w)(hT2:Tb w)(h0:0<=M)(hM:LQ M)(hx:rk D s M E=x)(hZ:AtV q x Z):Calls Tryz.prog 26 #[VQ D s M E] w (PV w Z):=by
 delta VQ
 rcases hZ with⟨x0,Y,hY,rfl⟩ | ⟨x0,hP⟩
 ·exact atan_neg hq hT hT2 h0 hM hx x0 hY rfl
 ·exact atAtanP hq hT hT2 h0 hM hx (by omega) hP
theorem fnq_atan{q:Bool->Int->Int->Int}(hq:QF q):FnQ 26 (AtV q):=⟨fun _ _=>by first | rfl | kernel_rfl | simp[callFunc,go_sem],fun _ _ _ _ _ _ _ hT hT2 h0 hM hx hz=>atAtan hq hT hT2 h0 hM hx hz⟩
theorem atof_none{w:World}{e:Bool}{D M E D' M' E':Int}{s s':Bool}{q:Bool->Int->Int->Int}(hq:QF q)(hT:Tab w)(hT2:Tb w)(hM:LQ M)(hM':LQ M')(hx:rkI e D s M E D' s' M' E'=none):Calls Tryz.prog 30 #[VI e D s M E D' s' M' E'] w (PV w none):=by
 delta VI
 have hml:meetL [none]=none:=meetOne (by rw[<-hx];exact rkI_ok hM hM')
 have HX:=ie hx;have HML:=ie hml;clear hx hml
 go_enter Tryz.func30,Tryz.ntmps30
 go_upto_region 1 with (fail)
 generalize hW1:(w.alloc _).alloc _=w1 at *;obtain⟨X1,XR,HB⟩:=Bo.en2 hW1;clear hW1;have xX1:=X1.cell
 go_wp2_with fail
 refine(kvMeet (Il8.lit1 rfl ⟨hM,hM',HX.out⟩) HML.out).mono ?_;rintro ee w2 ⟨e10,K10,s10,M10,E10,K10b,s10b,M10b,E10b,rfl,v10,B⟩;replace B:=bt (bel1 _ (.cells #[.bool e,.int .i64 D,.bool s,.int .u64 M,.int .i64 E,.int .i64 D',.bool s',.int .u64 M',.int .i64 E'] 32)) B;clear xX1;replace X1:=X1.b B;replace XR:=XR.b B;replace HB:=Hqb HB B
 clear B;have xX1:=X1.cell;have zX10:=X1.frozen
 go_upto_region 2 with (fail)
 clear xX1 zX10;generalize hS:((((((((w2.setCell _ _).setCell _ _).setCell _ _).setCell _ _).setCell _ _).setCell _ _).setCell _ _).setCell _ _).setCell _ _=w3 at *;have SX:=StN.of9 X1 hS;replace XR:=XR.s SX;replace HB:=Hqs HB SX (by omega);replace X1:=SX.box;clear SX hS;obtain⟨rfl,rfl,rfl,rfl,rfl,rfl,rfl,rfl,rfl⟩:=v10.uniq Ci.none
 clear v10;refine jk [0,1,2] [some 6,some 7,some 8] [[],[],[0,1]] 3 0 [Jo.q9 true 0 false 0 0 0 false 0 0,Jo.q9 true 0 false 0 0 0 false 0 0,Jo.qb true] ?_ ?_
 ·refine jm ?_ ?_
  ·rintro wj hJ K hK;simp only[Jo.z]at hK|-;have xX1:=(X1.b hJ).cell;go_simp;exact hK.out _ _ rfl (br _ _)
  refine jm ?_ ?_
  ·rintro wj hJ K hK;simp only[Jo.z]at hK|-;go_simp;refine(kvNoneE).mono ?_;rintro ee wk ⟨rfl,B⟩;exact hK.out _ _ rfl B
  refine jm ?_ ?_
  ·rintro wj hJ _ rfl _ rfl K hK;simp only[Jo.z]at hK|-;go_simp
   repeat' split
   all_goals exact hK.out _ _ (congrArg Value.bool (by first | rfl | (exfalso;simp_all) | simp_all)) (br _ _)
  exact jo
 rintro w4 hJ _ rfl _ rfl _ rfl -;simp only[Jo.z];replace X1:=X1.b hJ;replace XR:=XR.b hJ;replace HB:=Hqb HB hJ;refine jd ?_;clear hT hT2;have xXR:=XR.cell;have zXR0:=XR.frozen;have xX1:=X1.cell;go_wp2;clear xXR zXR0 xX1
 have SX:=StN.t9 XR true 0 false 0 0 0 false 0 0;exact bq (by simp[results,Tryz.results30,go_sem,SX.box.cell]) rfl ⟨_,_,_,_,_,_,_,_,_,rfl,Ci.none,(SX.below HB.out (by omega))⟩
theorem atof_some{w:World}{e:Bool}{D M E D' M' E':Int}{s s':Bool}{q:Bool->Int->Int->Int}{a b:Int}{U V Z:Sp}(hq:QF q)(hT:Tab w)(hT2:Tb w)(hM:LQ M)(hM':LQ M')(hx:rkI e D s M E D' s' M' E'=(some (a,b)))(hU:AtV q a U)(hV:AtV q b V)(oU:SpOk U)(hZ:hullI U V=Z):Calls Tryz.prog 30 #[VI e D s M E D' s' M' E'] w (PV w Z):=by
 delta VI
 have hml:meetL [some (a,b)]=some (a,b):=meetOne (by rw[<-hx];exact rkI_ok hM hM')
 have HSV:Hid (∀k,k < 2->AtV q ([a,b].getD k 0) ([U,V].getD k none)):=ie (fun k hk=>by
  rcases (by omega:k=0\/k=1)with rfl | rfl
  ·exact hU
  ·exact hV)
 have HZ:Hid (hullL [U,V]=Z):=ie ((hullTwo oU).trans hZ)
 clear hU hV oU hZ;have HX:=ie hx;have HML:=ie hml;have HQ:=ie hq;clear hx hml hq
 go_enter Tryz.func30,Tryz.ntmps30
 go_upto_region 1 with (fail)
 generalize hW1:(w.alloc _).alloc _=w1 at *;obtain⟨X1,XR,HB⟩:=Bo.en2 hW1;replace hT:=hT.below HB.out;replace hT2:=hT2.below HB.out;clear hW1;have xX1:=X1.cell
 go_wp2_with fail
 refine(kvMeet (Il8.lit1 rfl ⟨hM,hM',HX.out⟩) HML.out).mono ?_;rintro ee w2 ⟨e10,K10,s10,M10,E10,K10b,s10b,M10b,E10b,rfl,v10,B⟩;replace B:=bt (bel1 _ (.cells #[.bool e,.int .i64 D,.bool s,.int .u64 M,.int .i64 E,.int .i64 D',.bool s',.int .u64 M',.int .i64 E'] 32)) B;clear xX1;replace X1:=X1.b B;replace XR:=XR.b B;replace hT:=hT.b B
 replace hT2:=hT2.b B;replace HB:=Hqb HB B;clear B;have xX1:=X1.cell;have zX10:=X1.frozen
 go_upto_region 2 with (fail)
 clear xX1 zX10;generalize hS:((((((((w2.setCell _ _).setCell _ _).setCell _ _).setCell _ _).setCell _ _).setCell _ _).setCell _ _).setCell _ _).setCell _ _=w3 at *;have SX:=StN.of9 X1 hS;replace XR:=XR.s SX;replace hT:=hT.s SX;replace hT2:=hT2.s SX;replace HB:=Hqs HB SX (by omega)
 replace X1:=SX.box;clear SX hS
 obtain rfl:e10=false:=v10.1
 refine jk [0,1,2] [some 6,some 7,some 8] [[],[],[0,1]] 3 0 [Jo.q9 false K10 s10 M10 E10 K10b s10b M10b E10b,Jo.q9 true 0 false 0 0 0 false 0 0,Jo.qb false] ?_ ?_
 ·refine jm ?_ ?_
  ·rintro wj hJ K hK;simp only[Jo.z]at hK|-;have xX1:=(X1.b hJ).cell;go_simp;exact hK.out _ _ rfl (br _ _)
  refine jm ?_ ?_
  ·rintro wj hJ K hK;simp only[Jo.z]at hK|-;go_simp;refine(kvNoneE).mono ?_;rintro ee wk ⟨rfl,B⟩;exact hK.out _ _ rfl B
  refine jm ?_ ?_
  ·rintro wj hJ _ rfl _ rfl K hK;simp only[Jo.z]at hK|-;go_simp
   repeat' split
   all_goals exact hK.out _ _ (congrArg Value.bool (by first | rfl | (exfalso;simp_all))) (br _ _)
  exact jo
 rintro w4 hJ _ rfl _ rfl _ rfl -;simp only[Jo.z];replace X1:=X1.b hJ;replace XR:=XR.b hJ;replace hT:=hT.b hJ;replace hT2:=hT2.b hJ;replace HB:=Hqb HB hJ;refine jd ?_;obtain⟨_,qa,qb,oab,oa,ob⟩:=v10;have xX1:=X1.cell
 go_wp2_with fail
 refine(atHull (hT.below (bel1 _ _)) (hT2.below (bel1 _ _)) (fnq_atan HQ.out) (Nq.of2 (Bo.new _ _ _) qa qb) rfl HSV.out HZ.out).mono ?_;rintro ee w5 ⟨e30,K30,s30,M30,E30,K30b,s30b,M30b,E30b,rfl,v30,B⟩;replace B:=bt (bel1 _ (.cells #[.int .i64 K10,.bool s10,.int .u64 M10,.int .i64 E10,.int .i64 K10b,.bool s10b,.int .u64 M10b,.int .i64 E10b] 24)) B;clear xX1
 replace XR:=XR.b B;replace HB:=Hqb HB B;clear B;clear hT hT2;have xXR:=XR.cell;have zXR0:=XR.frozen;go_wp2;clear xXR zXR0;have SX:=StN.t9 XR e30 K30 s30 M30 E30 K30b s30b M30b E30b
 exact bq (by simp[results,Tryz.results30,go_sem,SX.box.cell]) rfl ⟨_,_,_,_,_,_,_,_,_,rfl,v30,(SX.below HB.out (by omega))⟩
theorem atOf{w:World}{e:Bool}{D M E D' M' E':Int}{s s':Bool}{q:Bool->Int->Int->Int}{X Z:Sp}(hq:QF q)(hT:Tab w)(hT2:Tb w)(hM:LQ M)(hM':LQ M')(hx:rkI e D s M E D' s' M' E'=X)(hZ:AtOfV q X Z):Calls Tryz.prog 30 #[VI e D s M E D' s' M' E'] w (PV w Z):=by
 delta VI
 rcases X with _ | ⟨a,b⟩
 ·obtain rfl:Z=none:=hZ
  exact atof_none hq hT hT2 hM hM' hx
 ·obtain⟨U,V,hU,hV,rfl⟩:=hZ;have ok:=rkI_ok (e:=e) (K:=D) (s:=s) (E:=E) (K':=D') (s':=s') (E':=E') hM hM';rw[hx]at ok;obtain⟨o1,o2,o3⟩:=ok;exact atof_some hq hT hT2 hM hM' hx hU hV (AtV.grow hq hU hV o1 o2 o3.1).1 rfl
def FinQ (D:Int)(s:Bool)(M E:Int):Bool:=decide (MayQ D s M E) && !(D==2)
theorem finq_no{D:Int}{s:Bool}{M E:Int}(h:decide (MayQ D s M E)=false):FinQ D s M E=false:=by unfold FinQ;rw[h];rfl
theorem finq_inf{D:Int}{s:Bool}{M E:Int}(h:(D==2)=true):FinQ D s M E=false:=by unfold FinQ;rw[h];simp
theorem finq_yes{D:Int}{s:Bool}{M E:Int}(h:decide (MayQ D s M E)=true)(k:(D==2)=false):FinQ D s M E=true:=by unfold FinQ;rw[h,k];rfl
theorem atFin{w:World}{g:Nat}{D D' M M' E E':Int}{s s':Bool}{r:Bool}(X:Bo w g #[.int .i64 D,.bool s,.int .u64 M,.int .i64 E,.int .i64 D',.bool s',.int .u64 M',.int .i64 E'] 24)(hr:(FinQ D s M E && FinQ D' s' M' E')=r):Calls Tryz.prog 89 #[.slice (some ⟨g,0,none⟩) 2 2] w (PB w r):=by
 have HRR:=ie hr;clear hr
 go_enter Tryz.func89,Tryz.ntmps89
 go_wp2
 go_loopw [7] (fun i wr=>∃k:Nat,k<=2/\i= .int .i64 (k:Int)/\(1<=k->FinQ D s M E=true)/\(2<=k->FinQ D' s' M' E'=true)/\Below w.heap.size w wr) (fun i _=>3-(intOf i).toNat)
 case atStart=>exact ⟨0,by decide,rfl,fun h=>absurd h (by decide),fun h=>absurd h (by decide),Below.refl _ _⟩
 case round=>
  obtain⟨k,hk,rfl,f1,f2,hB⟩:=hrel;have HB:=ie hB;have HF1:=ie f1;have HF2:=ie f2;clear hB f1 f2
  rcases (by omega:k=0\/k=1\/k=2)with rfl | rfl | rfl
  ·have Y:=X.below HB.out;have b0:=Y.lt;have y0:=Y.a 0 (.int .i64 D) rfl;have y1:=Y.a 1 (.bool s) rfl;have y2:=Y.a 2 (.int .u64 M) rfl;have y3:=Y.a 3 (.int .i64 E) rfl;obtain⟨b,hb⟩:∃b,decide (MayQ D s M E)=b:=⟨_,rfl⟩;have HMB:=ie hb;clear hb
   go_upto_region 4 with (fail)
   clear y0 y1 y2 y3 Y;generalize hWn:wr.alloc _=w3 at *;obtain⟨X4,BW⟩:=Bo.nw hWn;clear hWn;replace HB:=Hqb HB BW;clear BW;have xX4:=X4.cell
   go_wp2_with fail
   refine(nMay HMB.out).mono ?_;rintro ee w4 ⟨rfl,B⟩;clear xX4;replace X4:=X4.b B;replace HB:=Hqb HB B;clear B
   cases b
   ·go_wp2
    go_ret
    exact⟨by rw[<-HRR.out,finq_no HMB.out];simp,HB.out⟩
   ·obtain⟨c,hc⟩:∃c,(D==2)=c:=⟨_,rfl⟩;have HC:=ie hc;have xX4:=X4.cell
    cases c
    ·go_wp2
     go_roundw
     case rel=>exact ⟨1,by decide,by go_num,fun _=>finq_yes HMB.out HC.out,fun h=>absurd h (by decide),HB.out⟩
     case measure=>simp [intOf]
    ·go_wp2
     go_ret
     exact⟨by rw[<-HRR.out,finq_inf HC.out];simp,HB.out⟩
  ·have Y:=X.below HB.out;have b0:=Y.lt;have y0:=Y.a 4 (.int .i64 D') rfl;have y1:=Y.a 5 (.bool s') rfl;have y2:=Y.a 6 (.int .u64 M') rfl;have y3:=Y.a 7 (.int .i64 E') rfl;obtain⟨b,hb⟩:∃b,decide (MayQ D' s' M' E')=b:=⟨_,rfl⟩;have HMB:=ie hb;clear hb
   go_upto_region 4 with (fail)
   clear y0 y1 y2 y3 Y;generalize hWn:wr.alloc _=w3 at *;obtain⟨X4,BW⟩:=Bo.nw hWn;clear hWn;replace HB:=Hqb HB BW;clear BW;have xX4:=X4.cell
   go_wp2_with fail
   refine(nMay HMB.out).mono ?_;rintro ee w4 ⟨rfl,B⟩;clear xX4;replace X4:=X4.b B;replace HB:=Hqb HB B;clear B
   cases b
   ·go_wp2
    go_ret
    exact⟨by rw[<-HRR.out,HF1.out (by decide),finq_no HMB.out];rfl,HB.out⟩
   ·obtain⟨c,hc⟩:∃c,(D'==2)=c:=⟨_,rfl⟩;have HC:=ie hc;have xX4:=X4.cell
    cases c
    ·go_wp2
     go_roundw
     case rel=>exact ⟨2,by decide,by go_num,fun _=>HF1.out (by decide),fun _=>finq_yes HMB.out HC.out,HB.out⟩
     case measure=>simp [intOf]
    ·go_wp2
     go_ret
     exact⟨by rw[<-HRR.out,HF1.out (by decide),finq_inf HC.out];rfl,HB.out⟩
  ·go_wp2
   go_ret
   exact⟨by rw[<-HRR.out,HF1.out (by decide),HF2.out (by decide)];rfl,HB.out⟩
theorem at_inf{q:Bool->Int->Int->Int}{H:Sp}(hH:HalfS H)(b:Bool):AtV q (sgi b TP) (if b then negI H else H):=by
 cases b
 ·exact .inr ⟨by decide,.inl ⟨rfl,hH⟩⟩
 ·exact .inl ⟨by decide,H,.inl ⟨rfl,hH⟩,rfl⟩
theorem cmp_eqA{x c:Int}(h:cmpI x 0=c):(c==0)=decide (x=0):=by
 rw[<-h]
 unfold cmpI
 by_cases c1:x < 0
 ·rw[if_pos c1,df (by omega)]
  rfl
 ·rw[if_neg c1]
  by_cases c2:0 < x
  ·rw[if_pos c2,df (by omega)]
   rfl
  ·rw[if_neg c2,dt (by omega)]
   rfl
theorem adir_zero_true{w:World}{q:Bool->Int->Int->Int}{D D' M M' E E':Int}{s s':Bool}{x y:Int}{Z:Sp}(hq:QF q)(hT:Tab w)(hT2:Tb w)(hM:LQ M)(hM':LQ M')(hy:rk D s M E=y)(hx:rk D' s' M' E'=x)(x0:x=0)(y0:y < 0)(hZ:AtV q (sgi true TP) Z):Calls Tryz.prog 91 #[VQ D s M E,VQ D' s' M' E'] w (PV w Z):=by
 delta VQ
 obtain⟨σ,hσ⟩:∃σ,cmpI y 0=σ:=⟨_,rfl⟩;obtain⟨τ,hτ⟩:∃σ,cmpI x 0=σ:=⟨_,rfl⟩;have e0:=(cmp_lt12 hσ).1;have e1:=cmp_eqA hτ;have e2:=(cmp_lt12 hτ).2;rw[dt y0]at e0;rw[dt x0]at e1;clear x0 y0;have HQ:=ie hq;have HX:=ie hx;have HY:=ie hy;have HS:=ie hσ;have HT:=ie hτ;have HE0:=ie e0;have HE1:=ie e1
 have HE2:=ie e2;have HZ:=ie hZ;clear hq hx hy hσ hτ e0 e1 e2 hZ
 go_enter Tryz.func91,Tryz.ntmps91
 go_upto_region 1 with (fail)
 generalize hW1:((w.alloc _).alloc _).alloc _=w1 at *;obtain⟨X2,X3,XR,HB⟩:=Bo.en3 hW1;replace hT:=hT.below HB.out;replace hT2:=hT2.below HB.out;clear hW1;have e0:=HE0.out;have xX2:=X2.cell
 go_wp2_with fail
 refine(nSign (σ:=σ) hM (by rw[HY.out];exact HS.out)).mono ?_;rintro ee w2 ⟨rfl,B⟩;clear xX2;replace X3:=X3.b B;replace XR:=XR.b B;replace hT:=hT.b B;replace hT2:=hT2.b B;replace HB:=Hqb HB B;clear B;have e1:=HE1.out;have xX3:=X3.cell
 go_wp2_with fail
 refine(nSign (σ:=τ) hM' (by rw[HX.out];exact HT.out)).mono ?_;rintro ee w3 ⟨rfl,B⟩;clear xX3;replace XR:=XR.b B;replace hT:=hT.b B;replace hT2:=hT2.b B;replace HB:=Hqb HB B;clear B
 go_wp2_with fail
 refine(nInf (s:=true) rfl).mono ?_;rintro ee w4 ⟨K20,s20,M20,E20,rfl,q20,B⟩;replace XR:=XR.b B;replace hT:=hT.b B;replace hT2:=hT2.b B;replace HB:=Hqb HB B;clear B
 go_wp2_with fail
 refine(atAtan HQ.out hT hT2 q20.nn q20.top q20.rk HZ.out).mono ?_;rintro ee w5 ⟨e30,K30,s30,M30,E30,K30b,s30b,M30b,E30b,rfl,v30,B⟩;replace XR:=XR.b B;replace HB:=Hqb HB B;clear B;clear hT hT2 e0 e1;have xXR:=XR.cell;have zXR0:=XR.frozen;go_wp2;clear xXR zXR0;have SX:=StN.t9 XR e30 K30 s30 M30 E30 K30b s30b M30b E30b
 exact bq (by simp[results,Tryz.results91,go_sem,SX.box.cell]) rfl ⟨_,_,_,_,_,_,_,_,_,rfl,v30,(SX.below HB.out (by omega))⟩
theorem adir_zero_false{w:World}{q:Bool->Int->Int->Int}{D D' M M' E E':Int}{s s':Bool}{x y:Int}{Z:Sp}(hq:QF q)(hT:Tab w)(hT2:Tb w)(hM:LQ M)(hM':LQ M')(hy:rk D s M E=y)(hx:rk D' s' M' E'=x)(x0:x=0)(y0:¬y < 0)(hZ:AtV q (sgi false TP) Z):Calls Tryz.prog 91 #[VQ D s M E,VQ D' s' M' E'] w (PV w Z):=by
 delta VQ
 obtain⟨σ,hσ⟩:∃σ,cmpI y 0=σ:=⟨_,rfl⟩;obtain⟨τ,hτ⟩:∃σ,cmpI x 0=σ:=⟨_,rfl⟩;have e0:=(cmp_lt12 hσ).1;have e1:=cmp_eqA hτ;have e2:=(cmp_lt12 hτ).2;rw[df y0]at e0;rw[dt x0]at e1;clear x0 y0;have HQ:=ie hq;have HX:=ie hx;have HY:=ie hy;have HS:=ie hσ;have HT:=ie hτ;have HE0:=ie e0;have HE1:=ie e1
 have HE2:=ie e2;have HZ:=ie hZ;clear hq hx hy hσ hτ e0 e1 e2 hZ
 go_enter Tryz.func91,Tryz.ntmps91
 go_upto_region 1 with (fail)
 generalize hW1:((w.alloc _).alloc _).alloc _=w1 at *;obtain⟨X2,X3,XR,HB⟩:=Bo.en3 hW1;replace hT:=hT.below HB.out;replace hT2:=hT2.below HB.out;clear hW1;have e0:=HE0.out;have xX2:=X2.cell
 go_wp2_with fail
 refine(nSign (σ:=σ) hM (by rw[HY.out];exact HS.out)).mono ?_;rintro ee w2 ⟨rfl,B⟩;clear xX2;replace X3:=X3.b B;replace XR:=XR.b B;replace hT:=hT.b B;replace hT2:=hT2.b B;replace HB:=Hqb HB B;clear B;have e1:=HE1.out;have xX3:=X3.cell
 go_wp2_with fail
 refine(nSign (σ:=τ) hM' (by rw[HX.out];exact HT.out)).mono ?_;rintro ee w3 ⟨rfl,B⟩;clear xX3;replace XR:=XR.b B;replace hT:=hT.b B;replace hT2:=hT2.b B;replace HB:=Hqb HB B;clear B
 go_wp2_with fail
 refine(nInf (s:=false) rfl).mono ?_;rintro ee w4 ⟨K20,s20,M20,E20,rfl,q20,B⟩;replace XR:=XR.b B;replace hT:=hT.b B;replace hT2:=hT2.b B;replace HB:=Hqb HB B;clear B
 go_wp2_with fail
 refine(atAtan HQ.out hT hT2 q20.nn q20.top q20.rk HZ.out).mono ?_;rintro ee w5 ⟨e30,K30,s30,M30,E30,K30b,s30b,M30b,E30b,rfl,v30,B⟩;replace XR:=XR.b B;replace HB:=Hqb HB B;clear B;clear hT hT2 e0 e1;have xXR:=XR.cell;have zXR0:=XR.frozen;go_wp2;clear xXR zXR0;have SX:=StN.t9 XR e30 K30 s30 M30 E30 K30b s30b M30b E30b
 exact bq (by simp[results,Tryz.results91,go_sem,SX.box.cell]) rfl ⟨_,_,_,_,_,_,_,_,_,rfl,v30,(SX.below HB.out (by omega))⟩
theorem adir_pos{w:World}{q:Bool->Int->Int->Int}{D D' M M' E E':Int}{s s':Bool}{x y:Int}{U V W:Sp}(hq:QF q)(hT:Tab w)(hT2:Tb w)(hM:LQ M)(hM':LQ M')(hy:rk D s M E=y)(hx:rk D' s' M' E'=x)(x0:x≠0)(hU:AtV q (q false y x) U)(hV:AtV q (q true y x) V)(oU:SpOk U)(hW:hullI U V=W)(cx:0 < x):Calls Tryz.prog 91 #[VQ D s M E,VQ D' s' M' E'] w (PV w W):=by
 delta VQ
 obtain⟨σ,hσ⟩:∃σ,cmpI y 0=σ:=⟨_,rfl⟩;obtain⟨τ,hτ⟩:∃σ,cmpI x 0=σ:=⟨_,rfl⟩;have e0:=(cmp_lt12 hσ).1;have e1:=cmp_eqA hτ;have e2:=(cmp_lt12 hτ).2;rw[df x0]at e1;rw[dt cx]at e2;clear x0 cx;have HQ:=ie hq;have HX:=ie hx;have HY:=ie hy;have HS:=ie hσ;have HT:=ie hτ;have HE0:=ie e0;have HE1:=ie e1
 have HE2:=ie e2;have HU:=ie hU;have HV:=ie hV;have HOU:=ie oU;have HW:=ie hW;clear hq hx hy hσ hτ e0 e1 e2 hU hV oU hW
 by_cases cy:decide (y < 0)=true
 ·have HE3:Hid (decide (σ < 0)=true):=ie (by rw[HE0.out];exact cy)
  clear HE0 cy;have HE0:=HE3;clear HE3
  go_enter Tryz.func91,Tryz.ntmps91
  go_upto_region 1 with (fail)
  generalize hW1:((w.alloc _).alloc _).alloc _=w1 at *;obtain⟨X2,X3,XR,HB⟩:=Bo.en3 hW1;replace hT:=hT.below HB.out;replace hT2:=hT2.below HB.out;clear hW1;have e0:=HE0.out;have xX2:=X2.cell
  go_wp2_with fail
  refine(nSign (σ:=σ) hM (by rw[HY.out];exact HS.out)).mono ?_;rintro ee w2 ⟨rfl,B⟩;clear xX2;replace X2:=X2.b B;replace X3:=X3.b B;replace XR:=XR.b B;replace hT:=hT.b B;replace hT2:=hT2.b B;replace HB:=Hqb HB B;clear B;have e1:=HE1.out;have xX3:=X3.cell
  go_wp2_with fail
  refine(nSign (σ:=τ) hM' (by rw[HX.out];exact HT.out)).mono ?_;rintro ee w3 ⟨rfl,B⟩;clear xX3;replace X2:=X2.b B;replace X3:=X3.b B;replace XR:=XR.b B;replace hT:=hT.b B;replace hT2:=hT2.b B;replace HB:=Hqb HB B;clear B;have xX2:=X2.cell;have xX3:=X3.cell
  go_wp2_with fail
  refine(atQuo hT hT2 (fnq_atan HQ.out) hM hM' HY.out HX.out (HQ.out false _ _) (HQ.out true _ _) HU.out HV.out HOU.out HW.out).mono ?_;rintro ee w4 ⟨e30,K30,s30,M30,E30,K30b,s30b,M30b,E30b,rfl,v30,B⟩;clear xX2 xX3;replace X2:=X2.b B;replace X3:=X3.b B;replace XR:=XR.b B;replace hT:=hT.b B;replace hT2:=hT2.b B;replace HB:=Hqb HB B
  clear B
  go_upto_region 5 with (fail)
  have nX6X2:=X2.lt;have nX6X3:=X3.lt;have nX6XR:=XR.lt;generalize hWn:w4.alloc _=w5 at *;obtain⟨X6,BW⟩:=Bo.nw hWn;clear hWn;replace X2:=X2.b BW;replace X3:=X3.b BW;replace XR:=XR.b BW;replace hT:=hT.b BW;replace hT2:=hT2.b BW;replace HB:=Hqb HB BW;clear BW;have e2:=HE2.out;have xX3:=X3.cell
  go_wp2_with fail
  refine(nSign (σ:=τ) hM' (by rw[HX.out];exact HT.out)).mono ?_;rintro ee w6 ⟨rfl,B⟩;clear xX3;replace X2:=X2.b B;replace X3:=X3.b B;replace XR:=XR.b B;replace X6:=X6.b B;replace hT:=hT.b B;replace hT2:=hT2.b B;replace HB:=Hqb HB B;clear B;clear hT hT2;have xXR:=XR.cell
  have zXR0:=XR.frozen;have xX6:=X6.cell;go_wp2;clear xXR zXR0 xX6;have SX:=StN.t9 XR e30 K30 s30 M30 E30 K30b s30b M30b E30b;exact bq (by simp[results,Tryz.results91,go_sem,SX.box.cell]) rfl ⟨_,_,_,_,_,_,_,_,_,rfl,v30,(SX.below HB.out (by omega))⟩
 ·have HE3:Hid (decide (σ < 0)=false):=ie (by rw[HE0.out];simpa using cy)
  clear HE0 cy;have HE0:=HE3;clear HE3
  go_enter Tryz.func91,Tryz.ntmps91
  go_upto_region 1 with (fail)
  generalize hW1:((w.alloc _).alloc _).alloc _=w1 at *;obtain⟨X2,X3,XR,HB⟩:=Bo.en3 hW1;replace hT:=hT.below HB.out;replace hT2:=hT2.below HB.out;clear hW1;have e0:=HE0.out;have xX2:=X2.cell
  go_wp2_with fail
  refine(nSign (σ:=σ) hM (by rw[HY.out];exact HS.out)).mono ?_;rintro ee w2 ⟨rfl,B⟩;clear xX2;replace X2:=X2.b B;replace X3:=X3.b B;replace XR:=XR.b B;replace hT:=hT.b B;replace hT2:=hT2.b B;replace HB:=Hqb HB B;clear B;have e1:=HE1.out;have xX3:=X3.cell
  go_wp2_with fail
  refine(nSign (σ:=τ) hM' (by rw[HX.out];exact HT.out)).mono ?_;rintro ee w3 ⟨rfl,B⟩;clear xX3;replace X2:=X2.b B;replace X3:=X3.b B;replace XR:=XR.b B;replace hT:=hT.b B;replace hT2:=hT2.b B;replace HB:=Hqb HB B;clear B;have xX2:=X2.cell;have xX3:=X3.cell
  go_wp2_with fail
  refine(atQuo hT hT2 (fnq_atan HQ.out) hM hM' HY.out HX.out (HQ.out false _ _) (HQ.out true _ _) HU.out HV.out HOU.out HW.out).mono ?_;rintro ee w4 ⟨e30,K30,s30,M30,E30,K30b,s30b,M30b,E30b,rfl,v30,B⟩;clear xX2 xX3;replace X3:=X3.b B;replace XR:=XR.b B;replace HB:=Hqb HB B;clear B
  go_upto_region 5 with (fail)
  have nX6X3:=X3.lt;have nX6XR:=XR.lt;generalize hWn:w4.alloc _=w5 at *;obtain⟨X6,BW⟩:=Bo.nw hWn;clear hWn;replace X3:=X3.b BW;replace XR:=XR.b BW;replace HB:=Hqb HB BW;clear BW;have e2:=HE2.out;have xX3:=X3.cell
  go_wp2_with fail
  refine(nSign (σ:=τ) hM' (by rw[HX.out];exact HT.out)).mono ?_;rintro ee w6 ⟨rfl,B⟩;clear xX3;replace XR:=XR.b B;replace X6:=X6.b B;replace HB:=Hqb HB B;clear B;clear hT hT2;have xXR:=XR.cell;have zXR0:=XR.frozen;have xX6:=X6.cell
  go_wp2;clear xXR zXR0 xX6;have SX:=StN.t9 XR e30 K30 s30 M30 E30 K30b s30b M30b E30b;exact bq (by simp[results,Tryz.results91,go_sem,SX.box.cell]) rfl ⟨_,_,_,_,_,_,_,_,_,rfl,v30,(SX.below HB.out (by omega))⟩
theorem adir_negneg{w:World}{q:Bool->Int->Int->Int}{D D' M M' E E':Int}{s s':Bool}{x y:Int}{U V W Z:Sp}(hq:QF q)(hT:Tab w)(hT2:Tb w)(hM:LQ M)(hM':LQ M')(hy:rk D s M E=y)(hx:rk D' s' M' E'=x)(x0:x≠0)(hU:AtV q (q false y x) U)(hV:AtV q (q true y x) V)(oU:SpOk U)(hW:hullI U V=W)(cx:¬0 < x)(cy:y < 0)(hZ:subI W PiS=Z):Calls Tryz.prog 91 #[VQ D s M E,VQ D' s' M' E'] w (PV w Z):=by
 delta VQ
 obtain⟨σ,hσ⟩:∃σ,cmpI y 0=σ:=⟨_,rfl⟩;obtain⟨τ,hτ⟩:∃σ,cmpI x 0=σ:=⟨_,rfl⟩;have e0:=(cmp_lt12 hσ).1;have e1:=cmp_eqA hτ;have e2:=(cmp_lt12 hτ).2;rw[df x0]at e1;rw[df cx]at e2;rw[dt cy]at e0;clear x0 cx cy;have HQ:=ie hq;have HX:=ie hx;have HY:=ie hy;have HS:=ie hσ;have HT:=ie hτ;have HE0:=ie e0
 have HE1:=ie e1;have HE2:=ie e2;have HU:=ie hU;have HV:=ie hV;have HOU:=ie oU;have HW:=ie hW;have HZ:=ie hZ;clear hq hx hy hσ hτ e0 e1 e2 hU hV oU hW hZ
 go_enter Tryz.func91,Tryz.ntmps91
 go_upto_region 1 with (fail)
 generalize hW1:((w.alloc _).alloc _).alloc _=w1 at *;obtain⟨X2,X3,XR,HB⟩:=Bo.en3 hW1;replace hT:=hT.below HB.out;replace hT2:=hT2.below HB.out;clear hW1;have e0:=HE0.out;have xX2:=X2.cell
 go_wp2_with fail
 refine(nSign (σ:=σ) hM (by rw[HY.out];exact HS.out)).mono ?_;rintro ee w2 ⟨rfl,B⟩;clear xX2;replace X2:=X2.b B;replace X3:=X3.b B;replace XR:=XR.b B;replace hT:=hT.b B;replace hT2:=hT2.b B;replace HB:=Hqb HB B;clear B;have e1:=HE1.out;have xX3:=X3.cell
 go_wp2_with fail
 refine(nSign (σ:=τ) hM' (by rw[HX.out];exact HT.out)).mono ?_;rintro ee w3 ⟨rfl,B⟩;clear xX3;replace X2:=X2.b B;replace X3:=X3.b B;replace XR:=XR.b B;replace hT:=hT.b B;replace hT2:=hT2.b B;replace HB:=Hqb HB B;clear B;have xX2:=X2.cell;have xX3:=X3.cell
 go_wp2_with fail
 refine(atQuo hT hT2 (fnq_atan HQ.out) hM hM' HY.out HX.out (HQ.out false _ _) (HQ.out true _ _) HU.out HV.out HOU.out HW.out).mono ?_;rintro ee w4 ⟨e30,K30,s30,M30,E30,K30b,s30b,M30b,E30b,rfl,v30,B⟩;clear xX2 xX3;replace X3:=X3.b B;replace XR:=XR.b B;replace hT:=hT.b B;replace hT2:=hT2.b B;replace HB:=Hqb HB B
 clear B
 go_upto_region 5 with (fail)
 have nX6X3:=X3.lt;have nX6XR:=XR.lt;generalize hWn:w4.alloc _=w5 at *;obtain⟨X6,BW⟩:=Bo.nw hWn;clear hWn;replace X3:=X3.b BW;replace XR:=XR.b BW;replace hT:=hT.b BW;replace hT2:=hT2.b BW;replace HB:=Hqb HB BW;clear BW;have e2:=HE2.out;have xX3:=X3.cell
 go_wp2_with fail
 refine(nSign (σ:=τ) hM' (by rw[HX.out];exact HT.out)).mono ?_;rintro ee w6 ⟨rfl,B⟩;clear xX3;replace XR:=XR.b B;replace X6:=X6.b B;replace hT:=hT.b B;replace hT2:=hT2.b B;replace HB:=Hqb HB B;clear B
 go_upto_region 8 with (fail)
 clear e0 e1 e2;have ltXR:=XR.lt;have ltX6:=X6.lt;refine jk [0,1,2] [some 26,some 27,some 28,none] [[],[],[0,1],[]] 4 1 [Jo.q9 e30 K30 s30 M30 E30 K30b s30b M30b E30b,Jo.Fact.iv (some (PIL,PIL+1)),Jo.Fact.iv Z,Jo.Fact.any] ?_ ?_
 ·refine jm ?_ ?_
  ·rintro wj hJ K hK;simp only[Jo.z]at hK|-;have xX6:=(X6.b hJ).cell;go_simp;exact hK.out _ _ rfl (br _ _)
  refine jm ?_ ?_
  ·rintro wj hJ K hK;simp only[Jo.z]at hK|-;go_simp;exact Jo.v1 (cPi (hT.b hJ)) hK.out
  refine jm ?_ ?_
  ·rintro wj hJ _ rfl _ ⟨e31,K31,s31,M31,E31,K31b,s31b,M31b,E31b,rfl,v31⟩ K hK;simp only[Jo.z]at hK|-;go_simp;exact Jo.v1 (fkSub (hT2.b hJ) v30.top.1 v30.top.2 v31.top.1 v31.top.2 v30.rk v31.rk HZ.out) hK.out
  exact jo
 rintro w7 hJ _ rfl _ ⟨e31,K31,s31,M31,E31,K31b,s31b,M31b,E31b,rfl,v31⟩ _ ⟨e32,K32,s32,M32,E32,K32b,s32b,M32b,E32b,rfl,v32⟩ -;simp only[Jo.z];replace XR:=XR.b hJ;replace HB:=Hqb HB hJ;clear hT hT2;have xXR:=XR.cell;have zXR0:=XR.frozen
 refine jn 3 fun K hK=>?_
 go_simp;refine hK.out _ _ ?_;clear hK K xXR zXR0;have SX:=StN.t9 XR e32 K32 s32 M32 E32 K32b s32b M32b E32b;refine jd ?_;go_wp2;exact bq (by simp[results,Tryz.results91,go_sem,SX.box.cell]) rfl ⟨_,_,_,_,_,_,_,_,_,rfl,v32,(SX.below HB.out (by omega))⟩
theorem adir_negpos{w:World}{q:Bool->Int->Int->Int}{D D' M M' E E':Int}{s s':Bool}{x y:Int}{U V W Z:Sp}(hq:QF q)(hT:Tab w)(hT2:Tb w)(hM:LQ M)(hM':LQ M')(hy:rk D s M E=y)(hx:rk D' s' M' E'=x)(x0:x≠0)(hU:AtV q (q false y x) U)(hV:AtV q (q true y x) V)(oU:SpOk U)(hW:hullI U V=W)(cx:¬0 < x)(cy:¬y < 0)(hZ:addI PiS W=Z):Calls Tryz.prog 91 #[VQ D s M E,VQ D' s' M' E'] w (PV w Z):=by
 delta VQ
 obtain⟨σ,hσ⟩:∃σ,cmpI y 0=σ:=⟨_,rfl⟩;obtain⟨τ,hτ⟩:∃σ,cmpI x 0=σ:=⟨_,rfl⟩;have e0:=(cmp_lt12 hσ).1;have e1:=cmp_eqA hτ;have e2:=(cmp_lt12 hτ).2;rw[df x0]at e1;rw[df cx]at e2;rw[df cy]at e0;clear x0 cx cy;have HQ:=ie hq;have HX:=ie hx;have HY:=ie hy;have HS:=ie hσ;have HT:=ie hτ;have HE0:=ie e0
 have HE1:=ie e1;have HE2:=ie e2;have HU:=ie hU;have HV:=ie hV;have HOU:=ie oU;have HW:=ie hW;have HZ:=ie hZ;clear hq hx hy hσ hτ e0 e1 e2 hU hV oU hW hZ
 go_enter Tryz.func91,Tryz.ntmps91
 go_upto_region 1 with (fail)
 generalize hW1:((w.alloc _).alloc _).alloc _=w1 at *;obtain⟨X2,X3,XR,HB⟩:=Bo.en3 hW1;replace hT:=hT.below HB.out;replace hT2:=hT2.below HB.out;clear hW1;have e0:=HE0.out;have xX2:=X2.cell
 go_wp2_with fail
 refine(nSign (σ:=σ) hM (by rw[HY.out];exact HS.out)).mono ?_;rintro ee w2 ⟨rfl,B⟩;clear xX2;replace X2:=X2.b B;replace X3:=X3.b B;replace XR:=XR.b B;replace hT:=hT.b B;replace hT2:=hT2.b B;replace HB:=Hqb HB B;clear B;have e1:=HE1.out;have xX3:=X3.cell
 go_wp2_with fail
 refine(nSign (σ:=τ) hM' (by rw[HX.out];exact HT.out)).mono ?_;rintro ee w3 ⟨rfl,B⟩;clear xX3;replace X2:=X2.b B;replace X3:=X3.b B;replace XR:=XR.b B;replace hT:=hT.b B;replace hT2:=hT2.b B;replace HB:=Hqb HB B;clear B;have xX2:=X2.cell;have xX3:=X3.cell
 go_wp2_with fail
 refine(atQuo hT hT2 (fnq_atan HQ.out) hM hM' HY.out HX.out (HQ.out false _ _) (HQ.out true _ _) HU.out HV.out HOU.out HW.out).mono ?_;rintro ee w4 ⟨e30,K30,s30,M30,E30,K30b,s30b,M30b,E30b,rfl,v30,B⟩;clear xX2 xX3;replace X3:=X3.b B;replace XR:=XR.b B;replace hT:=hT.b B;replace hT2:=hT2.b B;replace HB:=Hqb HB B
 clear B
 go_upto_region 5 with (fail)
 have nX6X3:=X3.lt;have nX6XR:=XR.lt;generalize hWn:w4.alloc _=w5 at *;obtain⟨X6,BW⟩:=Bo.nw hWn;clear hWn;replace X3:=X3.b BW;replace XR:=XR.b BW;replace hT:=hT.b BW;replace hT2:=hT2.b BW;replace HB:=Hqb HB BW;clear BW;have e2:=HE2.out;have xX3:=X3.cell
 go_wp2_with fail
 refine(nSign (σ:=τ) hM' (by rw[HX.out];exact HT.out)).mono ?_;rintro ee w6 ⟨rfl,B⟩;clear xX3;replace XR:=XR.b B;replace X6:=X6.b B;replace hT:=hT.b B;replace hT2:=hT2.b B;replace HB:=Hqb HB B;clear B
 go_upto_region 9 with (fail)
 clear e0 e1 e2;have ltXR:=XR.lt;have ltX6:=X6.lt;refine jk [0,1,2,3] [some 29,some 30,some 31,some 32,none] [[],[],[0,1],[2],[]] 5 1 [Jo.Fact.iv (some (PIL,PIL+1)),Jo.q9 e30 K30 s30 M30 E30 K30b s30b M30b E30b,Jo.Fact.il8 2 [(some (PIL,PIL+1)),W],Jo.Fact.iv Z,Jo.Fact.any] ?_ ?_
 ·refine jm ?_ ?_
  ·rintro wj hJ K hK;simp only[Jo.z]at hK|-;go_simp;exact Jo.v1 (cPi (hT.b hJ)) hK.out
  refine jm ?_ ?_
  ·rintro wj hJ K hK;simp only[Jo.z]at hK|-;have xX6:=(X6.b hJ).cell;go_simp;exact hK.out _ _ rfl (br _ _)
  refine jm ?_ ?_
  ·rintro wj hJ _ ⟨e31,K31,s31,M31,E31,K31b,s31b,M31b,E31b,rfl,v31⟩ _ rfl K hK;simp only[Jo.z]at hK|-;go_simp;exact hK.out _ _ ⟨_,2,rfl,Il8.lit2 rfl ⟨v31.top.1,v31.top.2,v31.rk⟩ ⟨v30.top.1,v30.top.2,v30.rk⟩⟩ (bel1 _ _)
  refine jm ?_ ?_
  ·rintro wj hJ _ ⟨A33,c33,rfl,h33⟩ K hK;simp only[Jo.z]at hK|-;go_simp;exact Jo.v1 (fkAdd (hT2.b hJ) h33 HZ.out) hK.out
  exact jo
 rintro w7 hJ _ ⟨e31,K31,s31,M31,E31,K31b,s31b,M31b,E31b,rfl,v31⟩ _ rfl _ ⟨_,_,rfl,_⟩ _ ⟨e32,K32,s32,M32,E32,K32b,s32b,M32b,E32b,rfl,v32⟩ -;simp only[Jo.z];replace XR:=XR.b hJ;replace HB:=Hqb HB hJ;clear hT hT2;have xXR:=XR.cell;have zXR0:=XR.frozen
 refine jn 4 fun K hK=>?_
 go_simp;refine hK.out _ _ ?_;clear hK K xXR zXR0;have SX:=StN.t9 XR e32 K32 s32 M32 E32 K32b s32b M32b E32b;refine jd ?_;go_wp2;exact bq (by simp[results,Tryz.results91,go_sem,SX.box.cell]) rfl ⟨_,_,_,_,_,_,_,_,_,rfl,v32,(SX.below HB.out (by omega))⟩
theorem atDir{w:World}{q:Bool->Int->Int->Int}{D D' M M' E E':Int}{s s':Bool}{x y:Int}{Z:Sp}(hq:QF q)(hT:Tab w)(hT2:Tb w)(hM:LQ M)(hM':LQ M')(hy:rk D s M E=y)(hx:rk D' s' M' E'=x)(fy:FinP y)(fx:FinP x)(hZ:AngV q y x Z):Calls Tryz.prog 91 #[VQ D s M E,VQ D' s' M' E'] w (PV w Z):=by
 delta VQ
 rcases hZ with⟨x0,H,hH,rfl⟩ | ⟨x0,U,V,hU,hV,rfl⟩
 ·by_cases c:y < 0
  ·rw[if_pos c];exact adir_zero_true hq hT hT2 hM hM' hy hx x0 c (at_inf hH true)
  ·rw[if_neg c];exact adir_zero_false hq hT hT2 hM hM' hy hx x0 c (at_inf hH false)
 ·have iU:=(hq false y x).bd;have iV:=(hq true y x).bd
  have oU:SpOk U:=by
   have g:=AtV.grow hq hU hU iU.1 (Int.le_refl _) iU.2;exact g.1
  by_cases c:0 < x
  ·rw[if_pos c];exact adir_pos hq hT hT2 hM hM' hy hx x0 hU hV oU rfl c
  ·rw[if_neg c]
   by_cases d:y < 0
   ·rw[if_pos d];exact adir_negneg hq hT hT2 hM hM' hy hx x0 hU hV oU rfl c d rfl
   ·rw[if_neg d];exact adir_negpos hq hT hT2 hM hM' hy hx x0 hU hV oU rfl c d rfl
def PVt (w:World)(x:Sp)(t:Bool)(e:Ending)(w':World):Prop:=∃e0 K s M E K' s' M' E',e= .returned (.tuple #[.agg #[.bool e0,.int .i64 K,.bool s,.int .u64 M,.int .i64 E,.int .i64 K',.bool s',.int .u64 M',.int .i64 E'],.bool t])/\Ci e0 K s M E K' s' M' E' x/\Below w.heap.size w w'
theorem aang_y{w:World}{q:Bool->Int->Int->Int}{D D' M M' E E':Int}{s s':Bool}{x y:Int}{Z:Sp}(hq:QF q)(hT:Tab w)(hT2:Tb w)(hM:LQ M)(hM':LQ M')(hy:rk D s M E=y)(hx:rk D' s' M' E'=x)(hf:(FinQ D s M E && FinQ D' s' M' E')=true)(y0:y≠0)(fy:FinP y)(fx:FinP x)(hZ:AngV q y x Z):Calls Tryz.prog 28 #[VQ D s M E,VQ D' s' M' E'] w (PVt w Z true):=by
 delta VQ
 obtain⟨σ,hσ⟩:∃σ,cmpI y 0=σ:=⟨_,rfl⟩;obtain⟨τ,hτ⟩:∃σ,cmpI x 0=σ:=⟨_,rfl⟩;have e0:=cmp_eqA hσ;have e1:=cmp_eqA hτ;rw[df y0]at e0;clear y0;have HX:=ie hx;have HY:=ie hy;have HS:=ie hσ;have HT:=ie hτ;have HE0:=ie e0;have HE1:=ie e1;have HF:=ie hf;have HQ:=ie hq;have HFY:=ie fy;have HFX:=ie fx
 have HZ:=ie hZ;clear hx hy hσ hτ e0 e1 hf hq fy fx hZ
 go_enter Tryz.func28,Tryz.ntmps28
 go_upto_region 1 with (fail)
 generalize hW1:((w.alloc _).alloc _).alloc _=w1 at *;obtain⟨X2,X3,XR,HB⟩:=Bo.en3 hW1;replace hT:=hT.below HB.out;replace hT2:=hT2.below HB.out;clear hW1;have ltX2:=X2.lt;have ltX3:=X3.lt;have ltXR:=XR.lt;have xX2:=X2.cell;have xX3:=X3.cell
 go_wp2_with fail
 refine(atFin (Bo.new _ _ _) HF.out).mono ?_;rintro ee w2 ⟨rfl,B⟩;replace B:=bt (bel1 _ (.cells #[.int .i64 D,.bool s,.int .u64 M,.int .i64 E,.int .i64 D',.bool s',.int .u64 M',.int .i64 E'] 24)) B;clear xX2 xX3;replace X2:=X2.b B;replace X3:=X3.b B;replace XR:=XR.b B;replace hT:=hT.b B;replace hT2:=hT2.b B;replace HB:=Hqb HB B
 clear B;have e0:=HE0.out;have xX2:=X2.cell
 go_wp2_with fail
 refine(nSign (σ:=σ) hM (by rw[HY.out];exact HS.out)).mono ?_;rintro ee wa ⟨rfl,B⟩;clear xX2;replace X2:=X2.b B;replace X3:=X3.b B;replace XR:=XR.b B;replace hT:=hT.b B;replace hT2:=hT2.b B;replace HB:=Hqb HB B;clear B;have xX2:=X2.cell;have xX3:=X3.cell
 go_wp2_with fail
 refine(atDir HQ.out hT hT2 hM hM' HY.out HX.out HFY.out HFX.out HZ.out).mono ?_;rintro ee w3 ⟨e30,K30,s30,M30,E30,K30b,s30b,M30b,E30b,rfl,v30,B⟩;clear xX2 xX3;replace XR:=XR.b B;replace HB:=Hqb HB B;clear B;clear hT hT2;have xXR:=XR.cell;have zXR0:=XR.frozen;go_wp2;clear xXR zXR0
 have SX:=StN.t9 XR e30 K30 s30 M30 E30 K30b s30b M30b E30b;exact bq (v:= .tuple #[.agg #[.bool e30,.int .i64 K30,.bool s30,.int .u64 M30,.int .i64 E30,.int .i64 K30b,.bool s30b,.int .u64 M30b,.int .i64 E30b],.bool true]) (by simp[results,Tryz.results28,go_sem,SX.box.cell]) rfl ⟨_,_,_,_,_,_,_,_,_,rfl,v30,(SX.below HB.out (by omega))⟩
theorem aang_x{w:World}{q:Bool->Int->Int->Int}{D D' M M' E E':Int}{s s':Bool}{x y:Int}{Z:Sp}(hq:QF q)(hT:Tab w)(hT2:Tb w)(hM:LQ M)(hM':LQ M')(hy:rk D s M E=y)(hx:rk D' s' M' E'=x)(hf:(FinQ D s M E && FinQ D' s' M' E')=true)(y0:y=0)(x0:x≠0)(fy:FinP y)(fx:FinP x)(hZ:AngV q y x Z):Calls Tryz.prog 28 #[VQ D s M E,VQ D' s' M' E'] w (PVt w Z true):=by
 delta VQ
 obtain⟨σ,hσ⟩:∃σ,cmpI y 0=σ:=⟨_,rfl⟩;obtain⟨τ,hτ⟩:∃σ,cmpI x 0=σ:=⟨_,rfl⟩;have e0:=cmp_eqA hσ;have e1:=cmp_eqA hτ;rw[dt y0]at e0;rw[df x0]at e1;clear y0 x0;have HX:=ie hx;have HY:=ie hy;have HS:=ie hσ;have HT:=ie hτ;have HE0:=ie e0;have HE1:=ie e1;have HF:=ie hf;have HQ:=ie hq
 have HFY:=ie fy;have HFX:=ie fx;have HZ:=ie hZ;clear hx hy hσ hτ e0 e1 hf hq fy fx hZ
 go_enter Tryz.func28,Tryz.ntmps28
 go_upto_region 1 with (fail)
 generalize hW1:((w.alloc _).alloc _).alloc _=w1 at *;obtain⟨X2,X3,XR,HB⟩:=Bo.en3 hW1;replace hT:=hT.below HB.out;replace hT2:=hT2.below HB.out;clear hW1;have ltX2:=X2.lt;have ltX3:=X3.lt;have ltXR:=XR.lt;have xX2:=X2.cell;have xX3:=X3.cell
 go_wp2_with fail
 refine(atFin (Bo.new _ _ _) HF.out).mono ?_;rintro ee w2 ⟨rfl,B⟩;replace B:=bt (bel1 _ (.cells #[.int .i64 D,.bool s,.int .u64 M,.int .i64 E,.int .i64 D',.bool s',.int .u64 M',.int .i64 E'] 24)) B;clear xX2 xX3;replace X2:=X2.b B;replace X3:=X3.b B;replace XR:=XR.b B;replace hT:=hT.b B;replace hT2:=hT2.b B;replace HB:=Hqb HB B
 clear B;have e0:=HE0.out;have xX2:=X2.cell
 go_wp2_with fail
 refine(nSign (σ:=σ) hM (by rw[HY.out];exact HS.out)).mono ?_;rintro ee wa ⟨rfl,B⟩;clear xX2;replace X2:=X2.b B;replace X3:=X3.b B;replace XR:=XR.b B;replace hT:=hT.b B;replace hT2:=hT2.b B;replace HB:=Hqb HB B;clear B;have e1:=HE1.out;have xX3:=X3.cell
 go_wp2_with fail
 refine(nSign (σ:=τ) hM' (by rw[HX.out];exact HT.out)).mono ?_;rintro ee wb ⟨rfl,B⟩;clear xX3;replace X2:=X2.b B;replace X3:=X3.b B;replace XR:=XR.b B;replace hT:=hT.b B;replace hT2:=hT2.b B;replace HB:=Hqb HB B;clear B;have xX2:=X2.cell;have xX3:=X3.cell
 go_wp2_with fail
 refine(atDir HQ.out hT hT2 hM hM' HY.out HX.out HFY.out HFX.out HZ.out).mono ?_;rintro ee w3 ⟨e30,K30,s30,M30,E30,K30b,s30b,M30b,E30b,rfl,v30,B⟩;clear xX2 xX3;replace XR:=XR.b B;replace HB:=Hqb HB B;clear B;clear hT hT2;have xXR:=XR.cell;have zXR0:=XR.frozen;go_wp2;clear xXR zXR0
 have SX:=StN.t9 XR e30 K30 s30 M30 E30 K30b s30b M30b E30b;exact bq (v:= .tuple #[.agg #[.bool e30,.int .i64 K30,.bool s30,.int .u64 M30,.int .i64 E30,.int .i64 K30b,.bool s30b,.int .u64 M30b,.int .i64 E30b],.bool true]) (by simp[results,Tryz.results28,go_sem,SX.box.cell]) rfl ⟨_,_,_,_,_,_,_,_,_,rfl,v30,(SX.below HB.out (by omega))⟩
theorem atAngle{w:World}{q:Bool->Int->Int->Int}{D D' M M' E E':Int}{s s':Bool}{x y:Int}{Z:Sp}(hq:QF q)(hT:Tab w)(hT2:Tb w)(hM:LQ M)(hM':LQ M')(hy:rk D s M E=y)(hx:rk D' s' M' E'=x)(hf:(FinQ D s M E && FinQ D' s' M' E')=true)(h0:¬(y=0/\x=0))(fy:FinP y)(fx:FinP x)(hZ:AngV q y x Z):Calls Tryz.prog 28 #[VQ D s M E,VQ D' s' M' E'] w (PVt w Z true):=by
 delta VQ
 by_cases c:y=0
 ·exact aang_x hq hT hT2 hM hM' hy hx hf c (fun e=>h0 ⟨c,e⟩) fy fx hZ
 ·exact aang_y hq hT hT2 hM hM' hy hx hf c fy fx hZ
theorem half_ex:∃H,HalfS H:=by
 obtain⟨r,hr⟩:=rq_ex false (PLo/2) SC;obtain⟨u,hu⟩:=rq_ex true (PHi/2+1) SC;exact⟨_,r,u,hr,hu,rfl⟩
theorem part_ex (v:Int):∃Z,PartS v Z:=by
 obtain⟨r,hr⟩:=rq_ex false (pL v) SC;obtain⟨u,hu⟩:=rq_ex true (pH v) SC;exact⟨_,r,u,hr,hu,rfl⟩
theorem atp_ex (q:Bool->Int->Int->Int)(n:Int):∃Z,AtP q n Z:=by
 by_cases c:n=19342822337206103650074625
 ·obtain⟨H,h⟩:=half_ex;exact⟨H,.inl ⟨c,h⟩⟩
 ·by_cases d:n<=opl 1
  ·obtain⟨Z,h⟩:=part_ex (fixI n);exact⟨Z,.inr (.inl ⟨c,d,h⟩)⟩
  ·obtain⟨H,h⟩:=half_ex;obtain⟨U,hU⟩:=part_ex (fixI (q false (opl 1) n));obtain⟨V,hV⟩:=part_ex (fixI (q true (opl 1) n));exact⟨_,.inr (.inr ⟨c,d,H,U,V,h,hU,hV,rfl⟩)⟩
theorem atv_ex (q:Bool->Int->Int->Int)(n:Int):∃Z,AtV q n Z:=by
 by_cases c:n < 0
 ·obtain⟨Y,h⟩:=atp_ex q (-n);exact⟨_,.inl ⟨c,Y,h,rfl⟩⟩
 ·obtain⟨Z,h⟩:=atp_ex q n;exact⟨Z,.inr ⟨c,h⟩⟩
theorem angv_ex (q:Bool->Int->Int->Int)(y x:Int):∃Z,AngV q y x Z:=by
 by_cases c:x=0
 ·obtain⟨H,h⟩:=half_ex;exact⟨_,.inl ⟨c,H,h,rfl⟩⟩
 ·obtain⟨U,hU⟩:=atv_ex q (q false y x);obtain⟨V,hV⟩:=atv_ex q (q true y x);exact⟨_,.inr ⟨c,U,V,hU,hV,rfl⟩⟩
theorem atof_ex (q:Bool->Int->Int->Int)(X:Sp):∃Z,AtOfV q X Z:=by
 rcases X with _ | ⟨a,b⟩
 ·exact⟨none,rfl⟩
 ·obtain⟨U,hU⟩:=atv_ex q a;obtain⟨V,hV⟩:=atv_ex q b;exact⟨_,U,V,hU,hV,rfl⟩
theorem opl_finA{n:Int}:FinP (opl n):=by
 obtain⟨a,b⟩:=lo_bd n.natAbs 0
 unfold FinP opl
 generalize lo n.natAbs 0=l at a b
 cases h:decide (n < 0)
 ·rw[show sgi false l=l from if_neg (by decide)];omega
 ·rw[show sgi true l= -l from if_pos rfl];omega
theorem finq_of{K:Int}{s:Bool}{M E r:Int}(h:Fq K s M E r)(f:FinP r):FinQ K s M E=true:=by
 refine finq_yes (dt h.1) ?_
 rcases h.cases with⟨rfl,_⟩ | ⟨rfl,_⟩ | ⟨rfl,_,_,⟨_,e⟩ | ⟨_,e⟩⟩
 ·rfl
 ·rfl
 ·exact absurd f.2 (by omega)
 ·exact absurd f.1 (by omega)
theorem finq_two{K K':Int}{s s':Bool}{M E M' E' r r':Int}(h:Fq K s M E r)(h':Fq K' s' M' E' r')(f:FinP r)(f':FinP r'):(FinQ K s M E && FinQ K' s' M' E')=true:=by
 rw[finq_of h f,finq_of h' f']
 rfl
theorem atv_neg{q:Bool->Int->Int->Int}(hq:QF q){x:Int}{Z N:Sp}(h:AtV q x Z)(k:AtV q (-x) N)(hx:x≠0)(h1: -19342822337206103650074625<=x)(h2:x<=19342822337206103650074625):N=negI Z:=by
 rcases h with⟨c,Y,hY,rfl⟩ | ⟨c,hP⟩
 ·rcases k with⟨d,_⟩ | ⟨d,hN⟩
  ·omega
  ·rw[neg_neg (AtP.ok hq hY (by omega) (by omega)).1];exact hN.one hY
 ·rcases k with⟨d,Y,hY,rfl⟩ | ⟨d,_⟩
  ·rw[Int.neg_neg]at hY;rw[hY.one hP]
  ·omega
theorem p60_fqA:Fq 1 false 9223372036854775808 (-123) p60:=Fq.fin (by decide) (by decide) (by decide) (by decide) (by decide)
theorem aSmall{w:World}:Calls Tryz.prog 37 #[] w (PN w p60):=by
 go_enter Tryz.func37,Tryz.ntmps37
 go_upto_region 1 with (fail)
 generalize hW1:w.alloc _=w1 at *;obtain⟨XR,HB⟩:=Bo.en1 hW1;clear hW1;have xXR:=XR.cell;have zXR0:=XR.frozen;go_wp2;clear xXR zXR0;have SX:=StN.t4 XR 1 false 9223372036854775808 (-123);exact bq (by simp[results,Tryz.results37,go_sem,SX.box.cell]) rfl ⟨_,_,_,_,rfl,p60_fqA,(SX.below HB.out (by omega))⟩
theorem four_pt:mkI (opl 4) (opl 4)=some (opl 4,opl 4):=mkI_some (Int.le_refl _) (by decide) (by decide)
theorem run_fieldA (e:Bool)(D:Int)(s:Bool)(M E G:Int)(g:Bool)(P Q:Int)(w:World):Sem.run Tryz.prog (Instr.field 32 (.agg #[.bool e,.int .i64 D,.bool s,.int .u64 M,.int .i64 E,.int .i64 G,.bool g,.int .u64 P,.int .i64 Q]) 0) w= .ok (.bool e) w:=by kernel_rfl
theorem awake_core{w:World}{q:Bool->Int->Int->Int}(hq:QF q)(hT:Tab w)(hT2:Tb w){Z A:Sp}{a b a2 b2:Int}(hZ:AtV q (opl 1) Z)(hA:AngV q 0 (opl (-1)) A)(h1:meetL [(mulI (some (opl 4,opl 4)) Z),(some (PIL,PIL+1))]=some (a,b))(h2:meetL [A,(some (PIL,PIL+1))]=some (a2,b2))(hw:widI A < opl 1):Calls Tryz.prog 23 #[] w (PB w true):=by
 obtain⟨σ,hσ⟩:∃σ,cmpI (widI A) (opl 1)=σ:=⟨_,rfl⟩
 have e0:decide (σ < 0)=true:=dt (by rw[<-hσ,cmpI_lt hw];decide)
 have f0:FinP 0:=⟨by decide,by decide⟩
 have f1:FinP (opl (-1)):=opl_finA
 have HQ:=ie hq;have HZ:=ie hZ;have HA:=ie hA;have H1:=ie h1;have H2:=ie h2;have HSG:=ie hσ;have HE0:=ie e0;have HF0:=ie f0;have HF1:=ie f1;clear hw hq hZ hA h1 h2 hσ e0 f0 f1
 go_enter Tryz.func23,Tryz.ntmps23
 have HB:=ie (Below.refl w.heap.size w)
 go_wp2_with fail
 refine(nOf (n:=4) (r:=opl 4) _ (by decide) (by decide) rfl).mono ?_;rintro ee w1 ⟨K1,s1,M1,E1,rfl,q1,B⟩;replace hT:=hT.b B;replace hT2:=hT2.b B;replace HB:=Hqb HB B;clear B
 go_wp2_with fail
 refine(kvPoint q1.top q1.rk four_pt).mono ?_;rintro ee w2 ⟨e2,K2,s2,M2,E2,K2b,s2b,M2b,E2b,rfl,v2,B⟩;replace hT:=hT.b B;replace hT2:=hT2.b B;replace HB:=Hqb HB B;clear B
 go_upto_region 2 with (fail)
 have hsz:=HB.out.size;generalize hWn:w2.alloc _=w3 at *;obtain⟨X1,BW⟩:=Bo.nw hWn;clear hWn;replace hT:=hT.b BW;replace hT2:=hT2.b BW;replace HB:=Hqb HB BW;clear BW;clear q1;have ltX1:=X1.lt;refine jk [0,1,2,3,4,5,6,7] [some 7,some 8,some 9,some 10,some 11,some 12,some 13,some 2,none] [[],[],[1],[0,2],[],[3,4],[5],[],[]] 9 1 [Jo.q9 e2 K2 s2 M2 E2 K2b s2b M2b E2b,Jo.Fact.num (opl 1),Jo.Fact.iv Z,Jo.Fact.iv (mulI (some (opl 4,opl 4)) Z),Jo.Fact.iv (some (PIL,PIL+1)),Jo.Fact.il8 2 [(mulI (some (opl 4,opl 4)) Z),(some (PIL,PIL+1))],Jo.Fact.iv (some (a,b)),Jo.Fact.bo w3.heap.size #[.bool false,.int .i64 0,.bool false,.int .u64 0,.int .i64 0,.int .i64 0,.bool false,.int .u64 0,.int .i64 0] 32,Jo.Fact.any] ?_ ?_
 ·refine jm ?_ ?_
  ·rintro wj hJ K hK;simp only[Jo.z]at hK|-;have xX1:=(X1.b hJ).cell;go_simp;exact hK.out _ _ rfl (br _ _)
  refine jm ?_ ?_
  ·rintro wj hJ K hK;simp only[Jo.z]at hK|-;go_simp;exact Jo.n1 (nOf (n:=1) (r:=opl 1) _ (by decide) (by decide) rfl) hK.out
  refine jm ?_ ?_
  ·rintro wj hJ _ ⟨K20,s20,M20,E20,rfl,q20⟩ K hK;simp only[Jo.z]at hK|-;go_simp;exact Jo.v1 (atAtan HQ.out (hT.b hJ) (hT2.b hJ) q20.nn q20.top q20.rk HZ.out) hK.out
  refine jm ?_ ?_
  ·rintro wj hJ _ rfl _ ⟨e21,K21,s21,M21,E21,K21b,s21b,M21b,E21b,rfl,v21⟩ K hK;simp only[Jo.z]at hK|-;go_simp;exact Jo.v1 (fkMul v2.top.1 v2.top.2 v21.top.1 v21.top.2 v2.rk v21.rk rfl) hK.out
  refine jm ?_ ?_
  ·rintro wj hJ K hK;simp only[Jo.z]at hK|-;go_simp;exact Jo.v1 (cPi (hT.b hJ)) hK.out
  refine jm ?_ ?_
  ·rintro wj hJ _ ⟨e22,K22,s22,M22,E22,K22b,s22b,M22b,E22b,rfl,v22⟩ _ ⟨e23,K23,s23,M23,E23,K23b,s23b,M23b,E23b,rfl,v23⟩ K hK;simp only[Jo.z]at hK|-;go_simp;exact hK.out _ _ ⟨_,2,rfl,Il8.lit2 rfl v22.rw v23.rw⟩ (bel1 _ _)
  refine jm ?_ ?_
  ·rintro wj hJ _ ⟨A25,c25,rfl,h25⟩ K hK;simp only[Jo.z]at hK|-;go_simp;exact Jo.v1 (kvMeet h25 H1.out) hK.out
  refine jm ?_ ?_
  ·rintro wj hJ K hK;simp only[Jo.z]at hK|-;go_simp;exact hK.out _ _ ⟨_,rfl,hJ.size,Bo.new _ _ _⟩ (bel1 _ _)
  exact jo
 rintro w4 hJ _ rfl _ ⟨K20,s20,M20,E20,rfl,_⟩ _ ⟨e21,K21,s21,M21,E21,K21b,s21b,M21b,E21b,rfl,v21⟩ _ ⟨e22,K22,s22,M22,E22,K22b,s22b,M22b,E22b,rfl,v22⟩ _ ⟨e23,K23,s23,M23,E23,K23b,s23b,M23b,E23b,rfl,v23⟩ _ ⟨_,_,rfl,_⟩ _ ⟨e24,K24,s24,M24,E24,K24b,s24b,M24b,E24b,rfl,v24⟩ _ ⟨g10,rfl,hg10,X10⟩ -;simp only[Jo.z];replace hT:=hT.b hJ;replace hT2:=hT2.b hJ
 replace HB:=Hqb HB hJ;have xX10:=X10.cell;have zX100:=X10.frozen
 refine jn 8 fun K hK=>?_
 go_simp;refine hK.out _ _ ?_;clear hK K xX10 zX100;generalize hS:((((((((w4.setCell _ _).setCell _ _).setCell _ _).setCell _ _).setCell _ _).setCell _ _).setCell _ _).setCell _ _).setCell _ _=w5 at *;have SX:=StN.of9 X10 hS;replace hT:=hT.s SX;replace hT2:=hT2.s SX;replace HB:=Hqs HB SX (by omega)
 replace X10:=SX.box;clear SX hS;refine jd ?_;clear v21 v22 v23
 obtain rfl:e24=false:=v24.1
 go_wp2_with fail
 refine(nOf (n:=0) (r:=0) _ (by decide) (by decide) rfl).mono ?_;rintro ee w6 ⟨K5,s5,M5,E5,rfl,q5,B⟩;replace X10:=X10.b B;replace hT:=hT.b B;replace hT2:=hT2.b B;replace HB:=Hqb HB B;clear B
 go_wp2_with fail
 refine(nOf (n:= -1) (r:=opl (-1)) _ (by decide) (by decide) rfl).mono ?_;rintro ee w7 ⟨K6,s6,M6,E6,rfl,q6,B⟩;replace X10:=X10.b B;replace hT:=hT.b B;replace hT2:=hT2.b B;replace HB:=Hqb HB B;clear B
 go_wp2_with fail
 refine(atAngle HQ.out hT hT2 q5.top q6.top q5.rk q6.rk (finq_two q5 q6 HF0.out HF1.out) (by decide) HF0.out HF1.out HA.out).mono ?_;rintro ee w8 ⟨e7,K7,s7,M7,E7,K7b,s7b,M7b,E7b,rfl,v7,B⟩;replace X10:=X10.b B;replace hT:=hT.b B;replace hT2:=hT2.b B;replace HB:=Hqb HB B;clear B
 go_upto_region 4 with (fail)
 clear hsz;have hsz:=HB.out.size;have nX3X10:=X10.lt;generalize hWn:w8.alloc _=w9 at *;obtain⟨X3,BW⟩:=Bo.nw hWn;clear hWn;replace X10:=X10.b BW;replace hT:=hT.b BW;replace hT2:=hT2.b BW;replace HB:=Hqb HB BW;clear BW;clear q5 q6;have ltX10:=X10.lt;have ltX3:=X3.lt;refine jk [0,1,2,3,4,5,6,7,8,9,10,11,12,13,14,15,16,17,18,19,20,21] [some 20,some 21,some 22,some 23,some 24,some 25,some 26,some 27,some 28,some 29,some 30,some 31,some 32,some 33,some 34,some 35,some 36,some 37,some 38,some 39,some 40,some 0] [[],[0],[1],[2],[3],[3,4],[5],[6],[6],[6,7,8],[6,9],[6,10],[6,11],[6,12],[13],[14],[14,15],[14],[14,16,17],[14,18],[14,19],[20]] 22 0 [Jo.qp g10 0,Jo.qb false,Jo.qb true,Jo.qb true,Jo.qb true,Jo.qb true,Jo.qb true,Jo.q9 e7 K7 s7 M7 E7 K7b s7b M7b E7b,Jo.Fact.iv (some (PIL,PIL+1)),Jo.Fact.il8 2 [A,(some (PIL,PIL+1))],Jo.Fact.iv (some (a2,b2)),Jo.qb false,Jo.qb true,Jo.qb true,Jo.qb true,Jo.q9 e7 K7 s7 M7 E7 K7b s7b M7b E7b,Jo.Fact.num (widI A),Jo.Fact.num (opl 1),Jo.qi σ,Jo.qb true,Jo.qb true,Jo.qb true] ?_ ?_
 ·refine jm ?_ ?_;rotate_left
  refine jm ?_ ?_
  ·rintro wj hJ _ rfl K hK;simp only[Jo.z]at hK|-;have xX100:=(X10.b hJ).a 0 (.bool false) rfl;go_simp;exact hK.out _ _ rfl (br _ _)
  iterate 6 (refine jm ?_ ?_;rotate_left)
  refine jm ?_ ?_
  ·rintro wj hJ _ rfl K hK;simp only[Jo.z]at hK|-;go_simp;exact Jo.v1 (cPi (hT.b hJ)) hK.out
  refine jm ?_ ?_
  ·rintro wj hJ _ rfl _ rfl _ ⟨e40,K40,s40,M40,E40,K40b,s40b,M40b,E40b,rfl,v40⟩ K hK;simp only[Jo.z]at hK|-;go_simp;exact hK.out _ _ ⟨_,2,rfl,Il8.lit2 rfl v7.rw v40.rw⟩ (bel1 _ _)
  refine jm ?_ ?_
  ·rintro wj hJ _ rfl _ ⟨A45,c45,rfl,h45⟩ K hK;simp only[Jo.z]at hK|-;go_simp;exact Jo.v1 (kvMeet h45 H2.out) hK.out
  refine jm ?_ ?_
  ·rintro wj hJ _ rfl _ ⟨e41,K41,s41,M41,E41,K41b,s41b,M41b,E41b,rfl,v41⟩ K hK;simp only[Jo.z]at hK|-
   obtain rfl:e41=false:=v41.1
   have hf41:=run_fieldA false K41 s41 M41 E41 K41b s41b M41b E41b wj;go_simp;exact hK.out _ _ rfl (br _ _)
  iterate 4 (refine jm ?_ ?_;rotate_left)
  refine jm ?_ ?_
  ·rintro wj hJ _ rfl _ rfl K hK;simp only[Jo.z]at hK|-;go_simp;exact Jo.n1 (kvWidth (hT2.b hJ) v7.top.1 v7.top.2 v7.rk rfl) hK.out
  refine jm ?_ ?_
  ·rintro wj hJ _ rfl K hK;simp only[Jo.z]at hK|-;go_simp;exact Jo.n1 (nOf (n:=1) (r:=opl 1) _ (by decide) (by decide) rfl) hK.out
  refine jm ?_ ?_
  ·rintro wj hJ _ rfl _ ⟨K42,s42,M42,E42,rfl,q42⟩ _ ⟨K43,s43,M43,E43,rfl,q43⟩ K hK;simp only[Jo.z]at hK|-;go_simp;refine(nCmp (z:=σ) q42.top q43.top (by rw[q42.rk,q43.rk];exact HSG.out)).mono ?_;rintro ee wk ⟨rfl,B⟩;exact hK.out _ _ rfl B
  refine jm ?_ ?_
  ·rintro wj hJ _ rfl _ rfl K hK;simp only[Jo.z]at hK|-;have ht:=HE0.out;go_simp
   exact hK.out _ _ (by first | rfl | (show Value.bool _=Value.bool _;first | (rw[ht];done) | (simp only[ht];done) | simp_all)) (br _ _)
  iterate 2 (refine jm ?_ ?_;rotate_left)
  exact jo
  all_goals (rintro wj hJ;(repeat rintro _ rfl);intro K hK;simp only[Jo.z]at hK|-;have xX3:=(X3.b hJ).cell;go_simp;exact hK.out _ _ rfl (br _ _))
 rintro wA hJ _ _ _ rfl _ rfl _ rfl _ rfl _ rfl _ rfl _ rfl _ ⟨e40,K40,s40,M40,E40,K40b,s40b,M40b,E40b,rfl,v40⟩ _ ⟨_,_,rfl,_⟩ _ ⟨e41,K41,s41,M41,E41,K41b,s41b,M41b,E41b,rfl,v41⟩ _ rfl _ rfl _ rfl _ rfl _ rfl _ ⟨K42,s42,M42,E42,rfl,_⟩ _ ⟨K43,s43,M43,E43,rfl,_⟩ _ rfl _ rfl _ rfl _ rfl -;simp only[Jo.z];replace HB:=Hqb HB hJ;refine jd ?_
 go_wp2
 go_ret
 exact⟨rfl,HB.out⟩
theorem awake13{w:World}{q:Bool->Int->Int->Int}(hq:QF q)(hT:Tab w)(hT2:Tb w):Calls Tryz.prog 23 #[] w (PB w true):=by
 obtain⟨Z,hZ⟩:=atv_ex q (opl 1);obtain⟨A,hA⟩:=angv_ex q 0 (opl (-1));obtain⟨a,b,h1⟩:=four_one hZ;obtain⟨⟨a2,b2,h2⟩,hw⟩:=left_ok hq hA
 have oA:SpOk A:=((hA.in8 hq).fin (by have:=four_bd;omega)).ok
 exact awake_core hq hT hT2 hZ hA (by rw[meetL2 mul_ok];exact h1) (by rw[meetL2 oA];exact h2) hw
