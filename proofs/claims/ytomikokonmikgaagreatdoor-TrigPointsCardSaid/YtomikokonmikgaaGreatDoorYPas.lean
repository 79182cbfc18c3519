/-
 Contracts that the proof rests on.
-/
import Derived.Test.YtomikokonmikgaaGreatDoorYPar
namespace Go.Proofs.YtomikokonmikgaaGreatDoor
set_option maxHeartbeats 16000000
open Go.RowKit
set_option linter.unusedVariables false
set_option linter.unusedSimpArgs false
set_option maxRecDepth 100000
def serI (m:Int):Int:=if 4*SC < (m.natAbs:Int)then 0 else si m 40
def bndI (a lo hi:Int):Int:=if a < lo then lo else if hi < a then hi else a
def unitI:Sp:=mkI (opl (-1)) (opl 1)
theorem juUnit{w:World}:Calls Tryz.prog 142 #[] w (PV w unitI):=by
 go_enter Tryz.func142,Tryz.ntmps142
 go_upto_region 1 with (fail)
 generalize hW1:w.alloc _=w1 at *;obtain⟨XR,HB⟩:=Bo.en1 hW1;clear hW1
 go_wp2_with fail
 refine(yOf (n:= -1) _ (by decide) (by decide) rfl).mono ?_;rintro ee w2 ⟨K1,s1,M1,E1,rfl,q1,B⟩;replace XR:=XR.b B;replace HB:=Hqb HB B;clear B
 go_wp2_with fail
 refine(yOf (n:=1) _ (by decide) (by decide) rfl).mono ?_;rintro ee w3 ⟨K2,s2,M2,E2,rfl,q2,B⟩;replace XR:=XR.b B;replace HB:=Hqb HB B;clear B
 go_wp2_with fail
 refine(jvMake q1.top q2.top q1.rk q2.rk rfl).mono ?_;rintro ee w4 ⟨e3,K3,s3,M3,E3,K3b,s3b,M3b,E3b,rfl,v3,B⟩;replace XR:=XR.b B;replace HB:=Hqb HB B;clear B;have xXR:=XR.cell;have zXR0:=XR.frozen;go_wp2;clear xXR zXR0;have SX:=StN.t9 XR e3 K3 s3 M3 E3 K3b s3b M3b E3b
 exact bq (by simp[results,Tryz.results142,go_sem,SX.box.cell]) rfl ⟨_,_,_,_,_,_,_,_,_,rfl,v3,(SX.below HB.out (by omega))⟩
theorem jScaled{w:World}{A:Option Addr}{n c:Nat}{s:Bool}{x:Int}{B:Option Addr}{m d:Nat}{t:Bool}{y:Int}{r:Int}(h:Wr w s A n c x)(k:Wr w t B m d y)(hn:n<=100000)(hm:m<=100000)(hr:x*y/SC=r):Calls Tryz.prog 65 #[.agg #[.bool s,.slice A n c],.agg #[.bool t,.slice B m d]] w (W1 w (n+m+12) r):=by
 have HR:Hid ((x*y).fdiv SC=r):=ie (by rw[Int.fdiv_eq_ediv_of_nonneg _ (by decide)];exact hr)
 clear hr
 go_enter Tryz.func65,Tryz.ntmps65
 go_upto_region 1 with (fail)
 generalize hW1:((w.alloc _).alloc _).alloc _=w1 at *;obtain⟨X2,X3,XR,HB⟩:=Bo.en3 hW1;replace h:=h.below HB.out;replace k:=k.below HB.out;clear hW1;have xX2:=X2.cell;have xX3:=X3.cell
 go_wp2_with fail
 refine(qTwo h k (by omega) (by omega) rfl).mono ?_;rintro ee w2 ⟨s8,A8,n8,c8,rfl,p8,k8,B⟩;clear xX2 xX3;replace XR:=XR.b B;replace HB:=Hqb HB B;clear B;clear h k
 go_wp2_with fail
 refine(jScale).mono ?_;rintro ee w3 ⟨s9,A9,n9,c9,rfl,p9,k9,B⟩;replace XR:=XR.b B;replace p8:=p8.b B;replace HB:=Hqb HB B;clear B
 go_wp2_with fail
 refine(jDown p8.wr p9.wr (by omega) (by omega) (by decide) HR.out).mono ?_;rintro ee w4 ⟨s10,A10,n10,c10,rfl,p10,k10,B⟩;replace XR:=XR.b B;replace HB:=Hqb HB B;clear B;clear p8 p9;have xXR:=XR.cell;have zXR0:=XR.frozen;go_wp2;clear xXR zXR0;have SX:=StN.t2 XR s10 A10 n10 c10;replace p10:=p10.s SX;exact bq (v:= .agg #[.bool s10,.slice A10 n10 c10]) (by simp[results,Tryz.results65,go_sem,SX.box.cell]) rfl ⟨s10,A10,n10,c10,rfl,p10,by omega,(SX.below HB.out (by omega))⟩
theorem cmp_lt12{x y c:Int}(h:cmpI x y=c):decide (c < 0)=decide (x < y)/\decide (0 < c)=decide (y < x):=by
 rw[<-h]
 rcases cmpI_tri x y with⟨a,b⟩ | ⟨a,b⟩ | ⟨a,b⟩ <;> rw[b]
 ·exact⟨by rw[dt a];rfl,by rw[df (show ¬y < x by omega)];rfl⟩
 ·exact⟨by rw[df (show ¬x < y by omega)];rfl,by rw[df (show ¬y < x by omega)];rfl⟩
 ·exact⟨by rw[df (show ¬x < y by omega)];rfl,by rw[dt (show y < x by omega)];rfl⟩
theorem jBound{w:World}{A:Option Addr}{n c:Nat}{s:Bool}{x:Int}{B:Option Addr}{m d:Nat}{t:Bool}{y:Int}{C:Option Addr}{l f:Nat}{u:Bool}{z:Int}{r:Int}(h:Wn w s A n c x)(k:Wn w t B m d y)(g:Wn w u C l f z)(hn:n<=1000000)(hm:m<=1000000)(hl:l<=1000000)(hr:bndI x y z=r):Calls Tryz.prog 204 #[.agg #[.bool s,.slice A n c],.agg #[.bool t,.slice B m d],.agg #[.bool u,.slice C l f]] w (W1 w (n+m+l) r):=by
 obtain⟨σ,hσ⟩:∃σ,cmpI x y=σ:=⟨_,rfl⟩;obtain⟨τ,hτ⟩:∃σ,cmpI x z=σ:=⟨_,rfl⟩;have e1:=(cmp_lt12 hσ).1;have e2:=(cmp_lt12 hτ).2;have H1:=ie hσ;have H2:=ie hτ;clear hσ hτ
 unfold bndI at hr
 go_enter Tryz.func204,Tryz.ntmps204
 go_upto_region 1 with (fail)
 generalize hW1:(((w.alloc _).alloc _).alloc _).alloc _=w1 at *;obtain⟨X3,X4,X5,XR,HB⟩:=Bo.en4 hW1;replace h:=h.below HB.out;replace k:=k.below HB.out;replace g:=g.below HB.out;clear hW1;have xX3:=X3.cell;have xX4:=X4.cell
 go_wp2_with fail
 refine(qCmp h.wr k.wr (by omega) (by omega) H1.out).mono ?_;rintro ee w2 ⟨rfl,B⟩;clear xX3 xX4;replace X3:=X3.b B;replace X4:=X4.b B;replace X5:=X5.b B;replace XR:=XR.b B;replace h:=h.b B;replace k:=k.b B;replace g:=g.b B;replace HB:=Hqb HB B;clear B
 by_cases c1:x < y
 ·rw[dt c1]at e1;rw[if_pos c1]at hr
  obtain rfl:y=r:=hr
  clear h g e2;have xXR:=XR.cell;have zXR0:=XR.frozen;have xX4:=X4.cell;go_wp2;clear xXR zXR0 xX4;have SX:=StN.t2 XR t B m d;replace k:=k.s SX;exact bq (v:= .agg #[.bool t,.slice B m d]) (by simp[results,Tryz.results204,go_sem,SX.box.cell]) rfl ⟨t,B,m,d,rfl,k,by omega,(SX.below HB.out (by omega))⟩
 ·rw[df c1]at e1;rw[if_neg c1]at hr;have xX3:=X3.cell;have xX5:=X5.cell
  go_wp2_with fail
  refine(qCmp h.wr g.wr (by omega) (by omega) H2.out).mono ?_;rintro ee w3 ⟨rfl,B⟩;clear xX3 xX5;replace X3:=X3.b B;replace X5:=X5.b B;replace XR:=XR.b B;replace h:=h.b B;replace g:=g.b B;replace HB:=Hqb HB B;clear B
  by_cases c2:z < x
  ·rw[dt c2]at e2;rw[if_pos c2]at hr
   obtain rfl:z=r:=hr
   clear h k e1;have xXR:=XR.cell;have zXR0:=XR.frozen;have xX5:=X5.cell;go_wp2;clear xXR zXR0 xX5;have SX:=StN.t2 XR u C l f;replace g:=g.s SX;exact bq (v:= .agg #[.bool u,.slice C l f]) (by simp[results,Tryz.results204,go_sem,SX.box.cell]) rfl ⟨u,C,l,f,rfl,g,by omega,(SX.below HB.out (by omega))⟩
  ·rw[df c2]at e2;rw[if_neg c2]at hr
   obtain rfl:x=r:=hr
   clear g k e1;have xXR:=XR.cell;have zXR0:=XR.frozen;have xX3:=X3.cell;go_wp2;clear xXR zXR0 xX3;have SX:=StN.t2 XR s A n c;replace h:=h.s SX;exact bq (v:= .agg #[.bool s,.slice A n c]) (by simp[results,Tryz.results204,go_sem,SX.box.cell]) rfl ⟨s,A,n,c,rfl,h,by omega,(SX.below HB.out (by omega))⟩
theorem ti_step (x:Int)(j:Nat):(ti x j*x/SC*x/SC).fdiv (2*((j:Int)+1)*(2*((j:Int)+1)+1))= -ti x (j+1):=by
 rw[Int.fdiv_eq_ediv_of_nonneg _ (Int.mul_nonneg (by omega) (by omega))]
 show _= - -_
 rw[Int.neg_neg]
theorem le5{a b j:Nat}(h:a<=b+44)(k:b<=7+100*j):a<=7+100*(j+1):=by omega
theorem le6{a b c j:Nat}(h:a<=b+c+1)(k:b<=10+5000*j)(l:c<=7+100*(j+1))(hj:j<=40):a<=10+5000*(j+1):=by omega
def SInv (w:World)(x:Int)(g3 g5 g6:Nat)(s3:Bool)(A3:Option Addr)(n3 c3:Nat)(j:Nat)(wr:World):Prop:=∃(s5:Bool) (A5:Option Addr) (n5 c5:Nat) (s6:Bool) (A6:Option Addr) (n6 c6:Nat),Bo wr (w.heap.size+1) #[.bool false,.slice none 0 0] 27/\Bo wr g3 #[.bool s3,.slice A3 n3 c3] 27/\Bo wr g5 #[.bool s5,.slice A5 n5 c5] 27/\Bo wr g6 #[.bool s6,.slice A6 n6 c6] 27/\Wn wr s3 A3 n3 c3 x/\Wn wr s5 A5 n5 c5 (ti x j)/\Wn wr s6 A6 n6 c6 (si x j)/\n5<=7+100*j/\n6<=10+5000*j/\j<=40/\Below w.heap.size w wr
theorem jser_far{w:World}{A:Option Addr}{n c a:Nat}{s:Bool}{x:Int}(h:Rd w A n c a)(hx:sg s a=x)(hn:n<=100000)(hf:4*SC < (x.natAbs:Int)):Calls Tryz.prog 14 #[.agg #[.bool s,.slice A n c]] w (W1 w 300000 0):=by
 obtain⟨σ,hσ⟩:∃σ,cmpI (sg false x.natAbs) (SC*4)=σ:=⟨_,rfl⟩;have e0:=(cmp_lt12 hσ).2
 rw[show sg false x.natAbs=(x.natAbs:Int)from sg_false _]at e0
 have HS:=ie hσ;clear hσ
 rw[dt (show SC*4 < (x.natAbs:Int) by omega)]at e0
 have HC0:=ie e0;clear e0 hf
 go_enter Tryz.func14,Tryz.ntmps14
 go_upto_region 1 with (fail)
 generalize hW1:(w.alloc _).alloc _=w1 at *;obtain⟨X1,XR,HB⟩:=Bo.en2 hW1;replace h:=h.below HB.out;clear hW1;have xX1:=X1.cell
 go_wp2_with fail
 refine(qMake s h).mono ?_;rintro ee w2 ⟨s3,A3,n3,c3,rfl,p3,k3,B⟩;clear xX1;replace XR:=XR.b B;replace h:=h.b B;replace HB:=Hqb HB B;clear B;clear h;replace p3:=hx▸p3;clear hx;clear X1
 go_upto_region 2 with (fail)
 have nX3XR:=XR.lt;generalize hWn:w2.alloc _=w3 at *;obtain⟨X3,BW⟩:=Bo.nw hWn;clear hWn;replace XR:=XR.b BW;replace p3:=p3.b BW;replace HB:=Hqb HB BW;clear BW;have xX3:=X3.cell
 go_wp2_with fail
 refine(qMake false p3.1.rd).mono ?_;rintro ee w4 ⟨s4,A4,n4,c4,rfl,p4,k4,B⟩;clear xX3;replace XR:=XR.b B;replace HB:=Hqb HB B;clear B
 go_upto_region 3 with (fail)
 have nX4XR:=XR.lt;generalize hWn:w4.alloc _=w5 at *;obtain⟨X4,BW⟩:=Bo.nw hWn;clear hWn;replace XR:=XR.b BW;replace p4:=p4.b BW;replace HB:=Hqb HB BW;clear BW;have ltXR:=XR.lt;have ltX4:=X4.lt;refine jk [0,1,2,3,4] [some 18,some 19,some 20,some 21,some 22] [[],[],[1],[0,2],[3]] 5 0 [Jo.Fact.eq (.agg #[.bool s4,.slice A4 n4 c4]),Jo.Fact.wn (SC) (8),Jo.Fact.wn (SC*4) (10),Jo.qi σ,Jo.qb true] ?_ ?_
 ·refine jm ?_ ?_
  ·rintro wj hJ K hK;simp only[Jo.z]at hK|-;have xX4:=(X4.b hJ).cell;go_simp;exact hK.out _ _ rfl (br _ _)
  refine jm ?_ ?_
  ·rintro wj hJ K hK;simp only[Jo.z]at hK|-;go_simp;exact Jo.w1 (jScale) hK.out
  refine jm ?_ ?_
  ·rintro wj hJ _ ⟨s20,A20,n20,c20,rfl,p20,k20⟩ K hK;simp only[Jo.z]at hK|-;go_simp;exact Jo.w1 (jTimes p20.wr (by omega) (by decide) (by decide) rfl) hK.out
  refine jm ?_ ?_
  ·rintro wj hJ _ rfl _ ⟨s21,A21,n21,c21,rfl,p21,k21⟩ K hK;simp only[Jo.z]at hK|-;go_simp;refine(qCmp (r:=σ) (p4.b hJ).wr p21.wr (by omega) (by omega) HS.out).mono ?_;rintro ee wk ⟨rfl,B⟩;exact hK.out _ _ rfl B
  refine jm ?_ ?_
  ·rintro wj hJ _ rfl K hK;simp only[Jo.z]at hK|-;have hc0:=HC0.out;go_simp
   exact hK.out _ _ (by first | rfl | (show Value.bool _=Value.bool _;rw[hc0]) | simp_all) (br _ _)
  exact jo
 rintro w6 hJ _ rfl _ ⟨s20,A20,n20,c20,rfl,p20,k20⟩ _ ⟨s21,A21,n21,c21,rfl,p21,k21⟩ _ rfl _ rfl -;simp only[Jo.z];replace XR:=XR.b hJ;replace HB:=Hqb HB hJ;refine jd ?_;clear p4 HS HC0;clear X4;clear p3;have xXR:=XR.cell;have zXR0:=XR.frozen;go_wp2;clear xXR zXR0;have SX:=StN.t2 XR false none 0 0
 exact bq (v:= .agg #[.bool false,.slice none 0 0]) (by simp[results,Tryz.results14,go_sem,SX.box.cell]) rfl ⟨_,_,_,_,rfl,⟨Nm.zero,rfl⟩,Nat.zero_le _,(SX.below HB.out (by omega))⟩
theorem jser_near{w:World}{A:Option Addr}{n c a:Nat}{s:Bool}{x:Int}(h:Rd w A n c a)(hx:sg s a=x)(hn:n<=100000)(hf:¬4*SC < (x.natAbs:Int)):Calls Tryz.prog 14 #[.agg #[.bool s,.slice A n c]] w (W1 w 300000 (si x 40)):=by
 have hfit:x.natAbs < 4294967296^7:=by
  have e:(4294967296:Nat)^7=26959946667150639794667015087019630673637144422540572481103610249216:=by decide
  rw[e]
  unfold SC at hf
  omega
 have HFT:=ie hfit;clear hfit;obtain⟨σ,hσ⟩:∃σ,cmpI (sg false x.natAbs) (SC*4)=σ:=⟨_,rfl⟩;have e0:=(cmp_lt12 hσ).2
 rw[show sg false x.natAbs=(x.natAbs:Int)from sg_false _]at e0
 have HS:=ie hσ;clear hσ
 rw[df (show ¬SC*4 < (x.natAbs:Int) by omega)]at e0
 have HC0:=ie e0;clear e0 hf
 go_enter Tryz.func14,Tryz.ntmps14
 go_upto_region 1 with (fail)
 generalize hW1:(w.alloc _).alloc _=w1 at *;obtain⟨X1,XR,HB⟩:=Bo.en2 hW1;replace h:=h.below HB.out;clear hW1;have xX1:=X1.cell
 go_wp2_with fail
 refine(qMake s h).mono ?_;rintro ee w2 ⟨s3,A3,n3,c3,rfl,p3,k3,B⟩;clear xX1;replace XR:=XR.b B;replace h:=h.b B;replace HB:=Hqb HB B;clear B;clear h;replace p3:=hx▸p3;clear hx;clear X1
 go_upto_region 2 with (fail)
 have nX3XR:=XR.lt;generalize hWn:w2.alloc _=w3 at *;obtain⟨X3,BW⟩:=Bo.nw hWn;clear hWn;replace XR:=XR.b BW;replace p3:=p3.b BW;replace HB:=Hqb HB BW;clear BW;have xX3:=X3.cell
 go_wp2_with fail
 refine(qMake false p3.1.rd).mono ?_;rintro ee w4 ⟨s4,A4,n4,c4,rfl,p4,k4,B⟩;clear xX3;replace XR:=XR.b B;replace X3:=X3.b B;replace p3:=p3.b B;replace HB:=Hqb HB B;clear B
 go_upto_region 3 with (fail)
 have nX4XR:=XR.lt;have nX4X3:=X3.lt;generalize hWn:w4.alloc _=w5 at *;obtain⟨X4,BW⟩:=Bo.nw hWn;clear hWn;replace XR:=XR.b BW;replace X3:=X3.b BW;replace p3:=p3.b BW;replace p4:=p4.b BW;replace HB:=Hqb HB BW;clear BW;have ltXR:=XR.lt;have ltX3:=X3.lt;have ltX4:=X4.lt;refine jk [0,1,2,3,4] [some 18,some 19,some 20,some 21,some 22] [[],[],[1],[0,2],[3]] 5 0 [Jo.Fact.eq (.agg #[.bool s4,.slice A4 n4 c4]),Jo.Fact.wn (SC) (8),Jo.Fact.wn (SC*4) (10),Jo.qi σ,Jo.qb false] ?_ ?_
 ·refine jm ?_ ?_
  ·rintro wj hJ K hK;simp only[Jo.z]at hK|-;have xX4:=(X4.b hJ).cell;go_simp;exact hK.out _ _ rfl (br _ _)
  refine jm ?_ ?_
  ·rintro wj hJ K hK;simp only[Jo.z]at hK|-;go_simp;exact Jo.w1 (jScale) hK.out
  refine jm ?_ ?_
  ·rintro wj hJ _ ⟨s20,A20,n20,c20,rfl,p20,k20⟩ K hK;simp only[Jo.z]at hK|-;go_simp;exact Jo.w1 (jTimes p20.wr (by omega) (by decide) (by decide) rfl) hK.out
  refine jm ?_ ?_
  ·rintro wj hJ _ rfl _ ⟨s21,A21,n21,c21,rfl,p21,k21⟩ K hK;simp only[Jo.z]at hK|-;go_simp;refine(qCmp (r:=σ) (p4.b hJ).wr p21.wr (by omega) (by omega) HS.out).mono ?_;rintro ee wk ⟨rfl,B⟩;exact hK.out _ _ rfl B
  refine jm ?_ ?_
  ·rintro wj hJ _ rfl K hK;simp only[Jo.z]at hK|-;have hc0:=HC0.out;go_simp
   exact hK.out _ _ (by first | rfl | (show Value.bool _=Value.bool _;rw[hc0]) | simp_all) (br _ _)
  exact jo
 rintro w6 hJ _ rfl _ ⟨s20,A20,n20,c20,rfl,p20,k20⟩ _ ⟨s21,A21,n21,c21,rfl,p21,k21⟩ _ rfl _ rfl -;simp only[Jo.z];replace XR:=XR.b hJ;replace X3:=X3.b hJ;replace p3:=p3.b hJ;replace HB:=Hqb HB hJ;refine jd ?_;clear p4 HS HC0;clear X4;have few:=p3.fits HFT.out;clear HFT;have xX3:=X3.cell
 go_upto_region 6 with (fail)
 clear xX3;have nX5XR:=XR.lt;have nX5X3:=X3.lt;generalize hWn:w6.alloc _=w7 at *;obtain⟨X5,BW⟩:=Bo.nw hWn;clear hWn;replace XR:=XR.b BW;replace X3:=X3.b BW;replace p3:=p3.b BW;replace HB:=Hqb HB BW;clear BW;have xX3:=X3.cell
 go_upto_region 7 with (fail)
 clear xX3;have nX6XR:=XR.lt;have nX6X3:=X3.lt;have nX6X5:=X5.lt;generalize hWn:w7.alloc _=w8 at *;obtain⟨X6,BW⟩:=Bo.nw hWn;clear hWn;replace XR:=XR.b BW;replace X3:=X3.b BW;replace X5:=X5.b BW;replace p3:=p3.b BW;replace HB:=Hqb HB BW;clear BW
 have G1:w.heap.size+1 < w2.heap.size/\w2.heap.size < w6.heap.size/\w6.heap.size < w7.heap.size:=⟨by omega,by omega,by omega⟩
 clear nX3XR nX4XR nX4X3 ltXR ltX3 ltX4 nX5XR nX5X3 nX6XR nX6X3 nX6X5;generalize w2.heap.size=g3 at *;generalize w6.heap.size=g5 at *;generalize w7.heap.size=g6 at *
 have hI0:SInv w x g3 g5 g6 s3 A3 n3 c3 0 w8:=⟨_,_,_,_,_,_,_,_,XR,X3,X5,X6,p3,p3,p3,by omega,by omega,by decide,HB.out⟩
 have HI0:=ie hI0;clear hI0 XR X3 X5 X6 p3 HB;go_wp2
 go_loopw [7] (fun i wr=>∃j:Nat,i= .int .i64 ((j:Int)+1)/\SInv w x g3 g5 g6 s3 A3 n3 c3 j wr) (fun i _=>41-(intOf i).toNat)
 case atStart=>exact ⟨0,rfl,HI0.out⟩
 case round=>
  obtain⟨j,rfl,s5,A5,n5,c5,s6,A6,n6,c6,XR,X3,X5,X6,p3,p5,p6,k5,k6,hj,hB⟩:=hrel;have HB:=ie hB;clear hB HI0
  by_cases hlt:j < 40
  ·have tlt:decide ((j:Int)+1<=40)=true:=dt (by omega)
   have HW1:=iw (2*((j:Int)+1));have HW2:=iw (2*((j:Int)+1)+1);have HW3:=jw (2*((j:Int)+1)+1)
   have hb4:0<=2*((j:Int)+1)*(2*((j:Int)+1)+1)/\2*((j:Int)+1)*(2*((j:Int)+1)+1)<=80*81/\2*((j:Int)+1)*(2*((j:Int)+1)+1)≠0:=by
    have a:0 < 2*((j:Int)+1)*(2*((j:Int)+1)+1):=Int.mul_pos (by omega) (by omega)
    exact⟨Int.le_of_lt a,Int.mul_le_mul (by omega) (by omega) (by omega) (by omega),by omega⟩
   have HW4:=iw (2*((j:Int)+1)*(2*((j:Int)+1)+1));have HTI:=ie (ti_step x j);have HB4:=ie hb4;clear hb4
   have HSI:Hid (si x j+ti x (j+1)=si x (j+1)):=ie rfl
   generalize hv:ti x (j+1)=T at *;have HV:=ie hv;clear hv;have xX5:=X5.cell;have xX3:=X3.cell
   go_wp2_with fail
   refine(jScaled p5.wr p3.wr (by omega) (by omega) rfl).mono ?_;rintro ee w3 ⟨s8,A8,n8,c8,rfl,p8,k8,B⟩;clear xX5 xX3;replace XR:=XR.b B;replace X3:=X3.b B;replace X5:=X5.b B;replace X6:=X6.b B;replace p3:=p3.b B;replace p6:=p6.b B;replace HB:=Hqb HB B;clear B;clear p5;clear tlt
   go_upto_region 11 with (fail)
   have nX8XR:=XR.lt;have nX8X3:=X3.lt;have nX8X5:=X5.lt;have nX8X6:=X6.lt;generalize hWn:w3.alloc _=w4 at *;obtain⟨X8,BW⟩:=Bo.nw hWn;clear hWn;replace XR:=XR.b BW;replace X3:=X3.b BW;replace X5:=X5.b BW;replace X6:=X6.b BW;replace p3:=p3.b BW;replace p6:=p6.b BW;replace p8:=p8.b BW;replace HB:=Hqb HB BW;clear BW
   have xX8:=X8.cell;have xX3:=X3.cell
   go_wp2_with fail
   refine(jScaled p8.wr p3.wr (by omega) (by omega) rfl).mono ?_;rintro ee w5 ⟨s9,A9,n9,c9,rfl,p9,k9,B⟩;clear xX8 xX3;replace XR:=XR.b B;replace X3:=X3.b B;replace X5:=X5.b B;replace X6:=X6.b B;replace p3:=p3.b B;replace p6:=p6.b B;replace HB:=Hqb HB B;clear B;clear p8;clear X8
   go_upto_region 12 with (fail)
   have nX9XR:=XR.lt;have nX9X3:=X3.lt;have nX9X5:=X5.lt;have nX9X6:=X6.lt;generalize hWn:w5.alloc _=w6 at *;obtain⟨X9,BW⟩:=Bo.nw hWn;clear hWn;replace XR:=XR.b BW;replace X3:=X3.b BW;replace X5:=X5.b BW;replace X6:=X6.b BW;replace p3:=p3.b BW;replace p6:=p6.b BW;replace p9:=p9.b BW;replace HB:=Hqb HB BW;clear BW
   have ltXR:=XR.lt;have ltX3:=X3.lt;have ltX5:=X5.lt;have ltX6:=X6.lt;have ltX9:=X9.lt;refine jk [0,1,2,3,4,5,6,7,8,9] [some 36,some 37,some 38,some 39,some 40,some 41,some 42,some 43,some 44,some 45,none] [[],[],[1],[],[3],[4],[2,5],[6],[0,7],[8],[]] 11 1 [Jo.Fact.eq (.agg #[.bool s9,.slice A9 n9 c9]),Jo.Fact.eq (.int .i64 ((j:Int)+1)),Jo.Fact.eq (.int .i64 (2*((j:Int)+1))),Jo.Fact.eq (.int .i64 ((j:Int)+1)),Jo.Fact.eq (.int .i64 (2*((j:Int)+1))),Jo.Fact.eq (.int .i64 (2*((j:Int)+1)+1)),Jo.Fact.eq (.int .i64 (2*((j:Int)+1)*(2*((j:Int)+1)+1))),Jo.Fact.wn (2*((j:Int)+1)*(2*((j:Int)+1)+1)) (2),Jo.Fact.wn (-T) (n5+44),Jo.Fact.wn (T) (n5+44),Jo.Fact.any] ?_ ?_
   ·iterate 2 (refine jm ?_ ?_;rotate_left)
    refine jm ?_ ?_
    ·rintro wj hJ _ rfl K hK;simp only[Jo.z]at hK|-;have hw:=HW1.out;go_simp
     exact hK.out _ _ (by first | rfl | (show Value.int _ _=Value.int _ _;simp_all)) (br _ _)
    refine jm ?_ ?_;rotate_left
    refine jm ?_ ?_
    ·rintro wj hJ _ rfl K hK;simp only[Jo.z]at hK|-;have hw:=HW1.out;go_simp
     exact hK.out _ _ (by first | rfl | (show Value.int _ _=Value.int _ _;simp_all)) (br _ _)
    refine jm ?_ ?_
    ·rintro wj hJ _ rfl K hK;simp only[Jo.z]at hK|-;have hw:=HW2.out;have hw3:=HW3.out;go_simp
     exact hK.out _ _ (by first | rfl | (show Value.int _ _=Value.int _ _;simp_all)) (br _ _)
    refine jm ?_ ?_
    ·rintro wj hJ _ rfl _ rfl K hK;simp only[Jo.z]at hK|-;have hw:=HW4.out;go_simp
     exact hK.out _ _ (by first | rfl | (show Value.int _ _=Value.int _ _;simp_all)) (br _ _)
    refine jm ?_ ?_
    ·rintro wj hJ _ rfl K hK;simp only[Jo.z]at hK|-;go_simp;exact Jo.w1 (qFrom _ _ (Int.le_trans (by decide) HB4.out.1) (Int.le_trans HB4.out.2.1 (by decide))) hK.out
    refine jm ?_ ?_
    ·rintro wj hJ _ rfl _ ⟨s20,A20,n20,c20,rfl,p20,k20⟩ K hK;simp only[Jo.z]at hK|-;go_simp;exact Jo.w1 (jDown (p9.b hJ).wr p20.wr (by omega) (by omega) HB4.out.2.2 HTI.out) hK.out
    refine jm ?_ ?_
    ·rintro wj hJ _ ⟨s21,A21,n21,c21,rfl,p21,k21⟩ K hK;simp only[Jo.z]at hK|-;go_simp;exact Jo.w1 (qNeg p21.wr (Int.neg_neg T)) hK.out
    exact jo
    all_goals (rintro wj hJ;(repeat rintro _ rfl);intro K hK;simp only[Jo.z]at hK|-;have xX9:=(X9.b hJ).cell;go_simp;exact hK.out _ _ rfl (br _ _))
   rintro w7 hJ _ rfl _ rfl _ rfl _ rfl _ rfl _ rfl _ rfl _ ⟨s20,A20,n20,c20,rfl,p20,k20⟩ _ ⟨s21,A21,n21,c21,rfl,p21,k21⟩ _ ⟨s22,A22,n22,c22,rfl,p22,k22⟩ -;simp only[Jo.z];replace XR:=XR.b hJ;replace X3:=X3.b hJ;replace X5:=X5.b hJ;replace X6:=X6.b hJ;replace p3:=p3.b hJ;replace p6:=p6.b hJ;replace HB:=Hqb HB hJ;clear p9 p20 p21
   have xX5:=X5.cell;have zX50:=X5.frozen
   refine jn 10 fun K hK=>?_
   go_simp;refine hK.out _ _ ?_;clear hK K xX5 zX50;generalize hS:(w7.setCell _ _).setCell _ _=w8 at *;have SX:=StN.of2 X5 hS;replace XR:=XR.s SX;replace X3:=X3.s SX;replace X6:=X6.s SX;replace p3:=p3.s SX;replace p6:=p6.s SX;replace p22:=p22.s SX;replace HB:=Hqs HB SX (by omega)
   replace X5:=SX.box;clear SX hS;refine jd ?_
   go_upto_region 13 with (fail)
   have xX6:=X6.cell;have xX5:=X5.cell
   go_wp2_with fail
   refine(qAdd p6.wr p22.wr (by omega) (by omega) HSI.out).mono ?_;rintro ee w9 ⟨s23,A23,n23,c23,rfl,p23,k23,B⟩;clear xX6 xX5;replace XR:=XR.b B;replace X3:=X3.b B;replace X5:=X5.b B;replace X6:=X6.b B;replace p3:=p3.b B;replace p6:=p6.b B;replace p22:=p22.b B;replace HB:=Hqb HB B;clear B;clear p6;have xX6:=X6.cell
   have zX60:=X6.frozen
   go_upto_region 9 with (fail)
   clear xX6 zX60;generalize hS:(w9.setCell _ _).setCell _ _=wA at *;have SX:=StN.of2 X6 hS;replace XR:=XR.s SX;replace X3:=X3.s SX;replace X5:=X5.s SX;replace p3:=p3.s SX;replace p22:=p22.s SX;replace p23:=p23.s SX;replace HB:=Hqs HB SX (by omega);replace X6:=SX.box
   clear SX hS;have HW5:=iw ((j:Int)+1+1);have HW6:=jw ((j:Int)+1+1);have hw5:=HW5.out;have hw6:=HW6.out
   have hn5:n22<=7+100*(j+1):=le5 k22 k5
   have hn6:n23<=10+5000*(j+1):=le6 k23 k6 hn5 hj
   have hT:=HV.out;subst hT;go_wp2;clear hw5 hw6
   go_roundw
   case rel=>exact ⟨j+1,by go_num,_,_,_,_,_,_,_,_,XR,X3,X5,X6,p3,p22,p23,hn5,hn6,by omega,HB.out⟩
   case measure=>simp [intOf];omega
  ·obtain rfl:j=40:=by omega
   have tlt:decide (((40:Nat):Int)+1<=40)=false:=by decide
   clear p3 p5;have xXR:=XR.cell;have zXR0:=XR.frozen;have xX6:=X6.cell;go_wp2;clear xXR zXR0 xX6;have SX:=StN.t2 XR s6 A6 n6 c6;replace p6:=p6.s SX;exact bq (v:= .agg #[.bool s6,.slice A6 n6 c6]) (by simp[results,Tryz.results14,go_sem,SX.box.cell]) rfl ⟨_,_,_,_,rfl,p6,by omega,(SX.below HB.out (by omega))⟩
theorem jSeries{w:World}{A:Option Addr}{n c:Nat}{s:Bool}{x r:Int}(h:Wr w s A n c x)(hn:n<=100000)(hr:serI x=r):Calls Tryz.prog 14 #[.agg #[.bool s,.slice A n c]] w (W1 w 300000 r):=by
 obtain⟨a,h,hx⟩:=h
 unfold serI at hr
 by_cases hf:4*SC < (x.natAbs:Int)
 ·rw[if_pos hf]at hr;subst hr;exact jser_far h hx hn hf
 ·rw[if_neg hf]at hr;subst hr;exact jser_near h hx hn hf
theorem jinv_lo{w:World}{n:Int}(h:n < 2):Calls Tryz.prog 203 #[.int .i64 n] w (W2 w 1000000 0 0):=by
 have t1:decide (n < 2)=true:=dt h
 go_enter Tryz.func203,Tryz.ntmps203
 go_upto_region 1 with (fail)
 generalize hW1:(w.alloc _).alloc _=w1 at *;obtain⟨XR,XS,HB⟩:=Bo.en2 hW1;clear hW1
 go_upto_region 2 with (fail)
 have nX4XR:=XR.lt;have nX4XS:=XS.lt;generalize hWn:w1.alloc _=w2 at *;obtain⟨X4,BW⟩:=Bo.nw hWn;clear hWn;replace XR:=XR.b BW;replace XS:=XS.b BW;replace HB:=Hqb HB BW;clear BW;have ltXR:=XR.lt;have ltXS:=XS.lt;have ltX4:=X4.lt
 go_upto_region 3 with (fail)
 refine Jo.rl (w.heap.size) #[.bool false,.slice none 0 0] 27 [0,1,2] [some 16,some 17,none,none] [[],[],[0],[]] 4 1 [Jo.LFact.eq (.agg #[.bool false,.slice none 0 0]),Jo.LFact.eq (.agg #[.bool false,.slice none 0 0]),Jo.LFact.done,Jo.LFact.any] (by kernel_rfl) (by kernel_rfl) (by decide) rfl ?_ ?_
 ·refine Jo.lm rfl ?_ ?_
  ·rintro wj hJ K hK;simp only[Jo.z]at hK|-;replace X4:=X4.off (by omega) hJ;have xX4:=X4.cell;go_simp;exact hK.out _ _ rfl (Jo.Off.refl _ _ _ _)
  refine Jo.lm rfl ?_ ?_
  ·rintro wj hJ K hK;simp only[Jo.z]at hK|-;replace X4:=X4.off (by omega) hJ;have xX4:=X4.cell;go_simp;exact hK.out _ _ rfl (Jo.Off.refl _ _ _ _)
  refine Jo.lm rfl ?_ ?_
  ·rintro wj hJ _ rfl K hK;simp only[Jo.z]at hK|-
   obtain⟨v0,v1,XO⟩:∃v0 v1,Bo wj (w.heap.size) #[v0,v1] 27:=by
    rcases hJ.own with e | e
    ·exact⟨_,_,XR.keep e⟩
    ·exact⟨_,_,e⟩
   have xXO:=XO.cell;have zXO0:=XO.frozen;go_simp;have SX:=StN.t2 XO false none 0 0;exact hK.out undef _ SX.box (Jo.Off.of_stn SX)
  exact jo
 rintro w3 hJ _ rfl _ rfl u2 d2 -;simp only[Jo.z];replace HB:=ie (hJ.below HB.out (by omega) XR.lt);replace XS:=XS.off (by omega) hJ
 replace XR:Bo w3 (w.heap.size) #[.bool false,.slice none 0 0] 27:=d2
 have xXS:=XS.cell;have zXS0:=XS.frozen
 refine jn 3 fun K hK=>?_
 go_simp;refine hK.out _ _ ?_;clear hK K xXS zXS0;generalize hS:(w3.setCell _ _).setCell _ _=w4 at *;have SX:=StN.of2 XS hS;replace XR:=XR.s SX;replace HB:=Hqs HB SX (by omega);replace XS:=SX.box;clear SX hS;refine jd ?_;go_wp2;exact bq (v:= .tuple #[.agg #[.bool false,.slice none 0 0],.agg #[.bool false,.slice none 0 0]]) (by simp[results,Tryz.results203,go_sem,XR.cell,XS.cell]) rfl ⟨_,_,_,_,_,_,_,_,rfl,⟨Nm.zero,rfl⟩,⟨Nm.zero,rfl⟩,Nat.zero_le _,Nat.zero_le _,HB.out⟩
theorem jinv_hi{w:World}{n:Int}(h:1000 < n):Calls Tryz.prog 203 #[.int .i64 n] w (W2 w 1000000 0 0):=by
 have t1:decide (n < 2)=false:=df (by omega)
 have t2:decide (1000 < n)=true:=dt h
 go_enter Tryz.func203,Tryz.ntmps203
 go_upto_region 1 with (fail)
 generalize hW1:(w.alloc _).alloc _=w1 at *;obtain⟨XR,XS,HB⟩:=Bo.en2 hW1;clear hW1
 go_upto_region 2 with (fail)
 have nX4XR:=XR.lt;have nX4XS:=XS.lt;generalize hWn:w1.alloc _=w2 at *;obtain⟨X4,BW⟩:=Bo.nw hWn;clear hWn;replace XR:=XR.b BW;replace XS:=XS.b BW;replace HB:=Hqb HB BW;clear BW;have ltXR:=XR.lt;have ltXS:=XS.lt;have ltX4:=X4.lt
 go_upto_region 3 with (fail)
 refine Jo.rl (w.heap.size) #[.bool false,.slice none 0 0] 27 [0,1,2] [some 16,some 17,none,none] [[],[],[0],[]] 4 1 [Jo.LFact.eq (.agg #[.bool false,.slice none 0 0]),Jo.LFact.eq (.agg #[.bool false,.slice none 0 0]),Jo.LFact.done,Jo.LFact.any] (by kernel_rfl) (by kernel_rfl) (by decide) rfl ?_ ?_
 ·refine Jo.lm rfl ?_ ?_
  ·rintro wj hJ K hK;simp only[Jo.z]at hK|-;replace X4:=X4.off (by omega) hJ;have xX4:=X4.cell;go_simp;exact hK.out _ _ rfl (Jo.Off.refl _ _ _ _)
  refine Jo.lm rfl ?_ ?_
  ·rintro wj hJ K hK;simp only[Jo.z]at hK|-;replace X4:=X4.off (by omega) hJ;have xX4:=X4.cell;go_simp;exact hK.out _ _ rfl (Jo.Off.refl _ _ _ _)
  refine Jo.lm rfl ?_ ?_
  ·rintro wj hJ _ rfl K hK;simp only[Jo.z]at hK|-
   obtain⟨v0,v1,XO⟩:∃v0 v1,Bo wj (w.heap.size) #[v0,v1] 27:=by
    rcases hJ.own with e | e
    ·exact⟨_,_,XR.keep e⟩
    ·exact⟨_,_,e⟩
   have xXO:=XO.cell;have zXO0:=XO.frozen;go_simp;have SX:=StN.t2 XO false none 0 0;exact hK.out undef _ SX.box (Jo.Off.of_stn SX)
  exact jo
 rintro w3 hJ _ rfl _ rfl u2 d2 -;simp only[Jo.z];replace HB:=ie (hJ.below HB.out (by omega) XR.lt);replace XS:=XS.off (by omega) hJ
 replace XR:Bo w3 (w.heap.size) #[.bool false,.slice none 0 0] 27:=d2
 have xXS:=XS.cell;have zXS0:=XS.frozen
 refine jn 3 fun K hK=>?_
 go_simp;refine hK.out _ _ ?_;clear hK K xXS zXS0;generalize hS:(w3.setCell _ _).setCell _ _=w4 at *;have SX:=StN.of2 XS hS;replace XR:=XR.s SX;replace HB:=Hqs HB SX (by omega);replace XS:=SX.box;clear SX hS;refine jd ?_;go_wp2;exact bq (v:= .tuple #[.agg #[.bool false,.slice none 0 0],.agg #[.bool false,.slice none 0 0]]) (by simp[results,Tryz.results203,go_sem,XR.cell,XS.cell]) rfl ⟨_,_,_,_,_,_,_,_,rfl,⟨Nm.zero,rfl⟩,⟨Nm.zero,rfl⟩,Nat.zero_le _,Nat.zero_le _,HB.out⟩
def JInv (w:World)(n:Int)(R:Int × Nat)(g5 g6 k:Nat)(wr:World):Prop:=∃(s p:Int) (s5:Bool) (A5:Option Addr) (n5 c5:Nat) (s6:Bool) (A6:Option Addr) (n6 c6:Nat),Bo wr w.heap.size #[.bool false,.slice none 0 0] 27/\Bo wr (w.heap.size+1) #[.bool false,.slice none 0 0] 27/\Bo wr g5 #[.bool s5,.slice A5 n5 c5] 27/\Bo wr g6 #[.bool s6,.slice A6 n6 c6] 27/\Wn wr s5 A5 n5 c5 s/\Wn wr s6 A6 n6 c6 p/\n5<=1000*k/\n6<=2+4*k/\k<=100/\(2:Int)^(2*k+1)<=p/\invG n (200-k) k s p=R/\Below w.heap.size w wr
theorem inv_step{n p s:Int}{k:Nat}{R:Int × Nat}(hn:2<=n)(hk:k<=100)(hp:(2:Int)^(2*k+1)<=p)(h:invG n (200-k) k s p=R):∃T:Int,SC.fdiv (p*(2*(k:Int)+1))=T/\p*(2*(k:Int)+1)≠0/\0<=T/\(T=0->(s,k)=R)/\
  (T≠0->k+1<=100/\(2:Int)^(2*(k+1)+1)<=p*(n*n)/\invG n (200-(k+1)) (k+1) (if k%2=1 then s+ -T else s+T) (p*(n*n))=R):=by
 have p2:(0:Int) < 2^(2*k+1):=Int.pow_pos (by decide)
 have pp:0 < p:=by omega
 have hd:0 < p*(2*(k:Int)+1):=Int.mul_pos pp (by omega)
 have hf:SC.fdiv (p*(2*(k:Int)+1))=SC/ (p*(2*(k:Int)+1)):=Int.fdiv_eq_ediv_of_nonneg _ (by omega)
 refine⟨_,hf,by omega,Int.ediv_nonneg (by decide) (by omega),fun e=>?_,fun e=>?_⟩
 ·rw[show 200-k=(199-k)+1 by omega]at h
  unfold invG at h
  rw[if_pos e]at h;exact h
 ·rw[show 200-k=(200-(k+1))+1 by omega]at h
  unfold invG at h
  rw[if_neg e]at h
  have le:p*(2*(k:Int)+1)<=SC:=by
   rcases Int.lt_or_le SC (p*(2*(k:Int)+1))with c | c
   ·exact absurd (Int.ediv_eq_zero_of_lt (by decide) c) e
   ·exact c
  have le2:p<=SC:=Int.le_trans (by
   have:p*1<=p*(2*(k:Int)+1):=Int.mul_le_mul_of_nonneg_left (by omega) (by omega)
   omega) le
  refine⟨?_,?_,h⟩
  ·rcases Nat.lt_or_ge k 100 with c | c
   ·omega
   ·exfalso
    have hk2:k=100:=by omega
    subst hk2
    have:(2:Int)^(2*100+1)<=SC:=Int.le_trans hp le2
    revert this
    decide
  ·rw[show 2*(k+1)+1=(2*k+1)+2 by omega,Int.pow_add]
   have h4:(2:Int)^2<=n*n:=by
    have a:(2:Int)*2<=n*2:=Int.mul_le_mul_of_nonneg_right hn (by decide)
    have b:n*2<=n*n:=Int.mul_le_mul_of_nonneg_left hn (by omega)
    show (4:Int)<=n*n
    omega
   exact Int.mul_le_mul hp h4 (by decide) (by omega)
theorem jinv_in{w:World}{n:Int}(h1:2<=n)(h2:n<=1000){a b:Int}(hr:invP n=(a,b)):Calls Tryz.prog 203 #[.int .i64 n] w (W2 w 1000000 a b):=by
 have t1:decide (n < 2)=false:=df (by omega)
 have t2:decide (1000 < n)=false:=df (by omega)
 obtain⟨R,hR⟩:∃R,invG n 200 0 0 n=R:=⟨_,rfl⟩
 have hans:R.1+(-(R.2:Int)-1)=a/\R.1+((R.2:Int)+1)=b:=by
  unfold invP at hr
  rw[if_neg (by omega),hR]at hr
  injection hr with e1 e2
  exact⟨e1,e2⟩
 have HR:=ie hR;have HA:=ie hans.1;have HBB:=ie hans.2
 have HNN:Hid (IntKind.i64.wrap (n*n)=n*n):=ie (IntWalk.i64_in _ (by
  have a:(0:Int)<=n*n:=Int.mul_nonneg (by omega) (by omega)
  have b:n*n<=1000*1000:=Int.mul_le_mul h2 h2 (by omega) (by decide)
  omega))
 have HNB:Hid (0<=n*n/\n*n<=1000000):=ie (by
  have a:(0:Int)<=n*n:=Int.mul_nonneg (by omega) (by omega)
  have b:n*n<=1000*1000:=Int.mul_le_mul h2 h2 (by omega) (by decide)
  exact⟨a,by omega⟩)
 clear hr hR hans
 go_enter Tryz.func203,Tryz.ntmps203
 go_upto_region 1 with (fail)
 generalize hW1:(w.alloc _).alloc _=w1 at *;obtain⟨XR,XS,HB⟩:=Bo.en2 hW1;clear hW1
 go_upto_region 2 with (fail)
 have nX4XR:=XR.lt;have nX4XS:=XS.lt;generalize hWn:w1.alloc _=w2 at *;obtain⟨X4,BW⟩:=Bo.nw hWn;clear hWn;replace XR:=XR.b BW;replace XS:=XS.b BW;replace HB:=Hqb HB BW;clear BW;have ltXR:=XR.lt;have ltXS:=XS.lt;have ltX4:=X4.lt;have xX4:=X4.cell
 go_upto_region 5 with (fail)
 clear xX4;have nX5XR:=XR.lt;have nX5XS:=XS.lt;generalize hWn:w2.alloc _=w3 at *;obtain⟨X5,BW⟩:=Bo.nw hWn;clear hWn;replace XR:=XR.b BW;replace XS:=XS.b BW;replace HB:=Hqb HB BW;clear BW
 go_wp2_with fail
 refine(qFrom n _ (by omega) (by omega)).mono ?_;rintro ee w4 ⟨s6,A6,n6,c6,rfl,p6,k6,B⟩;replace XR:=XR.b B;replace XS:=XS.b B;replace X5:=X5.b B;replace HB:=Hqb HB B;clear B;clear t1 t2
 go_upto_region 6 with (fail)
 have nX6XR:=XR.lt;have nX6XS:=XS.lt;have nX6X5:=X5.lt;generalize hWn:w4.alloc _=w5 at *;obtain⟨X6,BW⟩:=Bo.nw hWn;clear hWn;replace XR:=XR.b BW;replace XS:=XS.b BW;replace X5:=X5.b BW;replace p6:=p6.b BW;replace HB:=Hqb HB BW;clear BW
 have G1:w.heap.size < w2.heap.size/\w.heap.size+1 < w2.heap.size/\w2.heap.size < w4.heap.size:=⟨by omega,by omega,by omega⟩
 clear nX4XR nX4XS nX5XR nX5XS nX6XR nX6XS nX6X5 ltXR ltXS ltX4;generalize w2.heap.size=g5 at *;generalize w4.heap.size=g6 at *
 have hI0:JInv w n R g5 g6 0 w5:=⟨0,n,_,_,_,_,_,_,_,_,XR,XS,X5,X6,⟨Nm.zero,rfl⟩,p6,Nat.zero_le _,by omega,by decide,by simpa using h1,HR.out,HB.out⟩
 have HI0:=ie hI0;clear hI0 XR XS X4 X5 X6 p6 HB HR;go_wp2
 go_loopw [7] (fun i wr=>∃k:Nat,i= .int .i64 k/\JInv w n R g5 g6 k wr) (fun i _=>200-(intOf i).toNat)
 case atStart=>exact ⟨0,rfl,HI0.out⟩
 case round=>
  obtain⟨k,rfl,s,p,s5,A5,n5,c5,s6,A6,n6,c6,XR,XS,X5,X6,p5,p6,k5,k6,hk,hp,hG,hB⟩:=hrel;have HB:=ie hB;obtain⟨T,hT,hd0,hT0,hz,hnz⟩:=inv_step h1 hk hp hG;have HT:=ie hT;have HZ:=ie hz;have HNZ:=ie hnz
  have tlt:decide ((k:Int) < 200)=true:=dt (by omega)
  have HW1:=iw (2*(k:Int));have HW2:=iw (2*(k:Int)+1);have HW3:=jw (2*(k:Int)+1);clear hB HI0 hp hG hT hz hnz
  go_upto_region 8 with (fail)
  have ltXR:=XR.lt;have ltXS:=XS.lt;have ltX5:=X5.lt;have ltX6:=X6.lt;refine jk [0,1,2,3,4,5,6,7] [some 23,some 24,some 25,some 26,some 27,some 28,some 29,some 8,none] [[],[],[],[2],[3],[1,4],[0,5],[],[]] 9 1 [Jo.Fact.wn (SC) (8),Jo.Fact.eq (.agg #[.bool s6,.slice A6 n6 c6]),Jo.qi k,Jo.Fact.eq (.int .i64 (2*(k:Int))),Jo.Fact.eq (.int .i64 (2*(k:Int)+1)),Jo.Fact.wn (p*(2*(k:Int)+1)) (n6+2),Jo.Fact.wn (T) (n6+20),Jo.Fact.bo wr.heap.size #[.bool false,.slice none 0 0] 27,Jo.Fact.any] ?_ ?_
  ·refine jm ?_ ?_
   ·rintro wj hJ K hK;simp only[Jo.z]at hK|-;go_simp;exact Jo.w1 (jScale) hK.out
   iterate 2 (refine jm ?_ ?_;rotate_left)
   refine jm ?_ ?_
   ·rintro wj hJ _ rfl K hK;simp only[Jo.z]at hK|-;have hw:=HW1.out;go_simp
    exact hK.out _ _ (by first | rfl | (show Value.int _ _=Value.int _ _;simp_all)) (br _ _)
   refine jm ?_ ?_
   ·rintro wj hJ _ rfl K hK;simp only[Jo.z]at hK|-;have hw:=HW2.out;have hw3:=HW3.out;go_simp
    exact hK.out _ _ (by first | rfl | (show Value.int _ _=Value.int _ _;simp_all)) (br _ _)
   refine jm ?_ ?_
   ·rintro wj hJ _ rfl _ rfl K hK;simp only[Jo.z]at hK|-;go_simp;exact Jo.w1 (jTimes (p6.b hJ).wr (by omega) (by omega) (by omega) rfl) hK.out
   refine jm ?_ ?_
   ·rintro wj hJ _ ⟨s20,A20,n20,c20,rfl,p20,k20⟩ _ ⟨s21,A21,n21,c21,rfl,p21,k21⟩ K hK;simp only[Jo.z]at hK|-;go_simp;exact Jo.w1 (jDown p20.wr p21.wr (by omega) (by omega) hd0 HT.out) hK.out
   refine jm ?_ ?_
   ·rintro wj hJ K hK;simp only[Jo.z]at hK|-;go_simp;exact hK.out _ _ ⟨_,rfl,hJ.size,Bo.new _ _ _⟩ (bel1 _ _)
   exact jo
   all_goals (rintro wj hJ;(repeat rintro _ rfl);intro K hK;simp only[Jo.z]at hK|-;have xX6:=(X6.b hJ).cell;go_simp;exact hK.out _ _ rfl (br _ _))
  rintro w6 hJ _ ⟨s20,A20,n20,c20,rfl,p20,k20⟩ _ rfl _ rfl _ rfl _ rfl _ ⟨s21,A21,n21,c21,rfl,p21,k21⟩ _ ⟨s22,A22,n22,c22,rfl,p22,k22⟩ _ ⟨g8,rfl,hg8,X8⟩ -;simp only[Jo.z];replace XR:=XR.b hJ;replace XS:=XS.b hJ;replace X5:=X5.b hJ;replace X6:=X6.b hJ;replace p5:=p5.b hJ;replace p6:=p6.b hJ;replace HB:=Hqb HB hJ;have xX8:=X8.cell
  have zX80:=X8.frozen
  refine jn 8 fun K hK=>?_
  go_simp;refine hK.out _ _ ?_;clear hK K xX8 zX80;generalize hS:(w6.setCell _ _).setCell _ _=w7 at *;have SX:=StN.of2 X8 hS;replace XR:=XR.s SX;replace XS:=XS.s SX;replace X5:=X5.s SX;replace X6:=X6.s SX;replace p5:=p5.s SX;replace p6:=p6.s SX;replace p22:=p22.s SX
  replace HB:=Hqs HB SX (by omega);replace X8:=SX.box;clear SX hS;refine jd ?_;clear HT HW1 HW2 HW3 p20 p21 hd0
  by_cases hc:T=0
  ·have HS:Hid (cmpI T 0=0):=ie (by rw[hc];decide)
   have hsk:=HZ.out hc
   have e1:R.1=s:=by rw[<-hsk]
   have e2:R.2=k:=by rw[<-hsk]
   have HA2:Hid (s+(-(k:Int)-1)=a):=ie (by rw[<-e1,<-e2];exact HA.out)
   have HB2:Hid (s+((k:Int)+1)=b):=ie (by rw[<-e1,<-e2];exact HBB.out)
   clear HZ HNZ HA HBB hsk e1 e2;have xX8:=X8.cell
   go_wp2_with fail
   refine(qSign p22.wr HS.out).mono ?_;rintro ee w8 ⟨rfl,B⟩;clear xX8;replace XR:=XR.b B;replace XS:=XS.b B;replace X5:=X5.b B;replace X6:=X6.b B;replace X8:=X8.b B;replace p5:=p5.b B;replace p6:=p6.b B;replace p22:=p22.b B;replace HB:=Hqb HB B;clear B;clear p22 p6
   go_upto_region 15 with (fail)
   have HN1:=iw (-(k:Int));have HN2:=iw (-(k:Int)-1);have HN3:=iw ((k:Int)+1);have HN4:=jw ((k:Int)+1);have HN5:=jw (-(k:Int));have HN6:=jw (-(k:Int)-1);refine jk [0,1,2,3,4,5,6,7,8,9,10] [some 48,some 49,some 50,some 51,some 52,some 53,some 54,some 55,some 56,some 57,some 58,none,none] [[],[],[1],[2],[3],[0,4],[],[],[7],[8],[6,9],[],[]] 13 2 [Jo.Fact.eq (.agg #[.bool s5,.slice A5 n5 c5]),Jo.qi k,Jo.Fact.eq (.int .i64 (-(k:Int))),Jo.Fact.eq (.int .i64 (-(k:Int)-1)),Jo.Fact.wn (-(k:Int)-1) (2),Jo.Fact.wn (a) (1000000),Jo.Fact.eq (.agg #[.bool s5,.slice A5 n5 c5]),Jo.qi k,Jo.Fact.eq (.int .i64 ((k:Int)+1)),Jo.Fact.wn ((k:Int)+1) (2),Jo.Fact.wn (b) (1000000),Jo.Fact.any,Jo.Fact.any] ?_ ?_
   ·iterate 2 (refine jm ?_ ?_;rotate_left)
    refine jm ?_ ?_
    ·rintro wj hJ _ rfl K hK;simp only[Jo.z]at hK|-;have hw:=HN1.out;have hw5:=HN5.out;go_simp
     exact hK.out _ _ (by first | rfl | (show Value.int _ _=Value.int _ _;simp_all)) (br _ _)
    refine jm ?_ ?_
    ·rintro wj hJ _ rfl K hK;simp only[Jo.z]at hK|-;have hw:=HN2.out;have hw6:=HN6.out;go_simp
     exact hK.out _ _ (by first | rfl | (show Value.int _ _=Value.int _ _;simp_all)) (br _ _)
    refine jm ?_ ?_
    ·rintro wj hJ _ rfl K hK;simp only[Jo.z]at hK|-;go_simp;exact Jo.w1 (qFrom _ _ (by omega) (by omega)) hK.out
    refine jm ?_ ?_
    ·rintro wj hJ _ rfl _ ⟨s30,A30,n30,c30,rfl,p30,k30⟩ K hK;simp only[Jo.z]at hK|-;go_simp;exact Jo.w1 (qAdd (p5.b hJ).wr p30.wr (by omega) (by omega) HA2.out) hK.out
    iterate 2 (refine jm ?_ ?_;rotate_left)
    refine jm ?_ ?_
    ·rintro wj hJ _ rfl K hK;simp only[Jo.z]at hK|-;have hw:=HN3.out;have hw4:=HN4.out;go_simp
     exact hK.out _ _ (by first | rfl | (show Value.int _ _=Value.int _ _;simp_all)) (br _ _)
    refine jm ?_ ?_
    ·rintro wj hJ _ rfl K hK;simp only[Jo.z]at hK|-;go_simp;exact Jo.w1 (qFrom _ _ (by omega) (by omega)) hK.out
    refine jm ?_ ?_
    ·rintro wj hJ _ rfl _ ⟨s32,A32,n32,c32,rfl,p32,k32⟩ K hK;simp only[Jo.z]at hK|-;go_simp;exact Jo.w1 (qAdd (p5.b hJ).wr p32.wr (by omega) (by omega) HB2.out) hK.out
    exact jo
    all_goals (rintro wj hJ;(repeat rintro _ rfl);intro K hK;simp only[Jo.z]at hK|-;have xX5:=(X5.b hJ).cell;go_simp;exact hK.out _ _ rfl (br _ _))
   rintro w9 hJ _ rfl _ rfl _ rfl _ rfl _ ⟨s30,A30,n30,c30,rfl,p30,k30⟩ _ ⟨s31,A31,n31,c31,rfl,p31,k31⟩ _ rfl _ rfl _ rfl _ ⟨s32,A32,n32,c32,rfl,p32,k32⟩ _ ⟨s33,A33,n33,c33,rfl,p33,k33⟩ -;simp only[Jo.z];replace XR:=XR.b hJ;replace XS:=XS.b hJ;replace X5:=X5.b hJ;replace X6:=X6.b hJ;replace X8:=X8.b hJ;replace p5:=p5.b hJ;replace HB:=Hqb HB hJ
   have xXR:=XR.cell;have zXR0:=XR.frozen
   refine jn 11 fun K hK=>?_
   go_simp;refine hK.out _ _ ?_;clear hK K xXR zXR0;generalize hS:(w9.setCell _ _).setCell _ _=wA at *;have SX:=StN.of2 XR hS;replace XS:=XS.s SX;replace X5:=X5.s SX;replace X6:=X6.s SX;replace X8:=X8.s SX;replace p31:=p31.s SX;replace p33:=p33.s SX;replace HB:=Hqs HB SX (by omega)
   replace XR:=SX.box;clear SX hS;have xXS:=XS.cell;have zXS0:=XS.frozen
   refine jn 12 fun K hK=>?_
   go_simp;refine hK.out _ _ ?_;clear hK K xXS zXS0;generalize hS:(wA.setCell _ _).setCell _ _=wB at *;have SX:=StN.of2 XS hS;replace XR:=XR.s SX;replace X5:=X5.s SX;replace X6:=X6.s SX;replace X8:=X8.s SX;replace p31:=p31.s SX;replace p33:=p33.s SX;replace HB:=Hqs HB SX (by omega)
   replace XS:=SX.box;clear SX hS;refine jd ?_;go_wp2;exact bq (v:= .tuple #[.agg #[.bool s31,.slice A31 n31 c31],.agg #[.bool s33,.slice A33 n33 c33]]) (by simp[results,Tryz.results203,go_sem,XR.cell,XS.cell]) rfl ⟨s31,A31,n31,c31,s33,A33,n33,c33,rfl,p31,p33,k31,k33,HB.out⟩
  ·have HS:Hid (cmpI T 0=1):=ie (cmpI_gt (by omega))
   obtain⟨hk1,hp1,hG1⟩:=HNZ.out hc;have HP1:=ie hp1;have HG1:=ie hG1;have HW4:=iw ((k:Int)+1);have HW5:=jw ((k:Int)+1);clear HZ HNZ HA HBB hp1 hG1 hc hT0;have xX8:=X8.cell
   go_wp2_with fail
   refine(qSign p22.wr HS.out).mono ?_;rintro ee w8 ⟨rfl,B⟩;clear xX8;replace XR:=XR.b B;replace XS:=XS.b B;replace X5:=X5.b B;replace X6:=X6.b B;replace X8:=X8.b B;replace p5:=p5.b B;replace p6:=p6.b B;replace p22:=p22.b B;replace HB:=Hqb HB B;clear B;have hG2:=HG1.out;clear HG1
   by_cases hodd:k%2=1
   ·rw[if_pos hodd]at hG2;have HG1:=ie hG2;clear hG2
    have t9:(Int.tmod (k:Int) 2==1)=true:=by
     rw[show Int.tmod (k:Int) 2=1 by rw[Int.tmod_eq_emod_of_nonneg (by omega)];omega]
     rfl
    have xX8:=X8.cell
    go_wp2_with fail
    refine(qNeg p22.wr rfl).mono ?_;rintro ee w9 ⟨s23,A23,n23,c23,rfl,p23,k23,B⟩;clear xX8;replace XR:=XR.b B;replace XS:=XS.b B;replace X5:=X5.b B;replace X6:=X6.b B;replace X8:=X8.b B;replace p5:=p5.b B;replace p6:=p6.b B;replace p22:=p22.b B;replace HB:=Hqb HB B;clear B;clear p22;have xX8:=X8.cell
    have zX80:=X8.frozen
    go_upto_region 12 with (fail)
    clear xX8 zX80;generalize hS:(w9.setCell _ _).setCell _ _=wA at *;have SX:=StN.of2 X8 hS;replace XR:=XR.s SX;replace XS:=XS.s SX;replace X5:=X5.s SX;replace X6:=X6.s SX;replace p5:=p5.s SX;replace p6:=p6.s SX;replace p23:=p23.s SX;replace HB:=Hqs HB SX (by omega)
    replace X8:=SX.box;clear SX hS;clear t9;clear hodd;have xX5:=X5.cell;have xX8:=X8.cell
    go_wp2_with fail
    refine(qAdd p5.wr p23.wr (by omega) (by omega) rfl).mono ?_;rintro ee wBa ⟨s24,A24,n24,c24,rfl,p24,k24,B⟩;clear xX5 xX8;replace XR:=XR.b B;replace XS:=XS.b B;replace X5:=X5.b B;replace X6:=X6.b B;replace X8:=X8.b B;replace p5:=p5.b B;replace p6:=p6.b B;replace p23:=p23.b B;replace HB:=Hqb HB B;clear B
    clear p5 p23;have xX5:=X5.cell;have zX50:=X5.frozen
    go_upto_region 13 with (fail)
    clear xX5 zX50;generalize hS:(wBa.setCell _ _).setCell _ _=wBb at *;have SX:=StN.of2 X5 hS;replace XR:=XR.s SX;replace XS:=XS.s SX;replace X6:=X6.s SX;replace X8:=X8.s SX;replace p6:=p6.s SX;replace p24:=p24.s SX;replace HB:=Hqs HB SX (by omega);replace X5:=SX.box
    clear SX hS;have hnn:=HNN.out;have xX6:=X6.cell
    go_wp2_with fail
    refine(jTimes p6.wr (by omega) (Int.le_trans (by decide) HNB.out.1) (Int.le_trans HNB.out.2 (by decide)) rfl).mono ?_;rintro ee wBc ⟨s25,A25,n25,c25,rfl,p25,k25,B⟩;clear xX6;replace XR:=XR.b B;replace XS:=XS.b B;replace X5:=X5.b B;replace X6:=X6.b B;replace X8:=X8.b B;replace p6:=p6.b B;replace p24:=p24.b B;replace HB:=Hqb HB B
    clear B;clear p6 hnn;have xX6:=X6.cell;have zX60:=X6.frozen
    go_upto_region 14 with (fail)
    clear xX6 zX60;generalize hS:(wBc.setCell _ _).setCell _ _=wBd at *;have SX:=StN.of2 X6 hS;replace XR:=XR.s SX;replace XS:=XS.s SX;replace X5:=X5.s SX;replace X8:=X8.s SX;replace p24:=p24.s SX;replace p25:=p25.s SX;replace HB:=Hqs HB SX (by omega);replace X6:=SX.box
    clear SX hS
    have hn5:n24<=1000*(k+1):=by omega
    have hn6:n25<=2+4*(k+1):=by omega
    have hw4:=HW4.out;have hw5:=HW5.out;go_wp2;clear hw4 hw5
    go_roundw
    case rel=>exact ⟨k+1,by go_num,_,_,_,_,_,_,_,_,_,_,XR,XS,X5,X6,p24,p25,hn5,hn6,hk1,HP1.out,HG1.out,HB.out⟩
    case measure=>simp [intOf];omega
   ·rw[if_neg hodd]at hG2;have HG1:=ie hG2;clear hG2
    have t9:(Int.tmod (k:Int) 2==1)=false:=by
     rw[show Int.tmod (k:Int) 2=0 by rw[Int.tmod_eq_emod_of_nonneg (by omega)];omega]
     rfl
    have p23:=p22;have k23:=k22;clear p22
    go_upto_region 12 with (fail)
    clear t9;clear hodd;have xX5:=X5.cell;have xX8:=X8.cell
    go_wp2_with fail
    refine(qAdd p5.wr p23.wr (by omega) (by omega) rfl).mono ?_;rintro ee wBa ⟨s24,A24,n24,c24,rfl,p24,k24,B⟩;clear xX5 xX8;replace XR:=XR.b B;replace XS:=XS.b B;replace X5:=X5.b B;replace X6:=X6.b B;replace p6:=p6.b B;replace HB:=Hqb HB B;clear B;clear p5 p23;have xX5:=X5.cell;have zX50:=X5.frozen
    go_upto_region 13 with (fail)
    clear xX5 zX50;generalize hS:(wBa.setCell _ _).setCell _ _=wBb at *;have SX:=StN.of2 X5 hS;replace XR:=XR.s SX;replace XS:=XS.s SX;replace X6:=X6.s SX;replace p6:=p6.s SX;replace p24:=p24.s SX;replace HB:=Hqs HB SX (by omega);replace X5:=SX.box;clear SX hS;have hnn:=HNN.out
    have xX6:=X6.cell
    go_wp2_with fail
    refine(jTimes p6.wr (by omega) (Int.le_trans (by decide) HNB.out.1) (Int.le_trans HNB.out.2 (by decide)) rfl).mono ?_;rintro ee wBc ⟨s25,A25,n25,c25,rfl,p25,k25,B⟩;clear xX6;replace XR:=XR.b B;replace XS:=XS.b B;replace X5:=X5.b B;replace X6:=X6.b B;replace p24:=p24.b B;replace HB:=Hqb HB B;clear B;clear p6 hnn;have xX6:=X6.cell
    have zX60:=X6.frozen
    go_upto_region 14 with (fail)
    clear xX6 zX60;generalize hS:(wBc.setCell _ _).setCell _ _=wBd at *;have SX:=StN.of2 X6 hS;replace XR:=XR.s SX;replace XS:=XS.s SX;replace X5:=X5.s SX;replace p24:=p24.s SX;replace p25:=p25.s SX;replace HB:=Hqs HB SX (by omega);replace X6:=SX.box;clear SX hS
    have hn5:n24<=1000*(k+1):=by omega
    have hn6:n25<=2+4*(k+1):=by omega
    have hw4:=HW4.out;have hw5:=HW5.out;go_wp2;clear hw4 hw5
    go_roundw
    case rel=>exact ⟨k+1,by go_num,_,_,_,_,_,_,_,_,_,_,XR,XS,X5,X6,p24,p25,hn5,hn6,hk1,HP1.out,HG1.out,HB.out⟩
    case measure=>simp [intOf];omega
theorem jInv{w:World}{n a b:Int}(hr:invP n=(a,b)):Calls Tryz.prog 203 #[.int .i64 n] w (W2 w 1000000 a b):=by
 by_cases h1:n < 2
 ·unfold invP at hr
  rw[if_pos (.inl h1)]at hr
  injection hr with e1 e2
  subst e1;subst e2;exact jinv_lo h1
 ·by_cases h2:1000 < n
  ·unfold invP at hr
   rw[if_pos (.inr h2)]at hr
   injection hr with e1 e2
   subst e1;subst e2;exact jinv_hi h2
  ·exact jinv_in (by omega) (by omega) hr
theorem jBounds{w:World}:Calls Tryz.prog 143 #[] w (W2 w 7 PLo PHi):=by
 obtain⟨b1,b2⟩:=bounds_are;obtain⟨a,b,h5⟩:∃a b,invP 5=(a,b):=⟨_,_,rfl⟩;obtain⟨c,d,h239⟩:∃a b,invP 239=(a,b):=⟨_,_,rfl⟩;rw[h5,h239]at b1 b2;have H5:=ie h5;have H239:=ie h239
 have HB1:Hid (a*16-d*4=PLo):=ie b1
 have HB2:Hid (b*16-c*4=PHi):=ie b2
 clear h5 h239 b1 b2
 go_enter Tryz.func143,Tryz.ntmps143
 go_upto_region 1 with (fail)
 generalize hW1:(w.alloc _).alloc _=w1 at *;obtain⟨XR,XS,HB⟩:=Bo.en2 hW1;clear hW1
 go_wp2_with fail
 refine(jInv H5.out).mono ?_;rintro ee w2 ⟨s2,A2,n2,c2,s3,A3,n3,c3,rfl,p2,p3,k2,k3,B⟩;replace XR:=XR.b B;replace XS:=XS.b B;replace HB:=Hqb HB B;clear B
 go_upto_region 2 with (fail)
 have e4X3:(World.alloc w2 (.cells #[.bool s2,.slice A2 n2 c2] 27)).heap.size=w2.heap.size+1:=by simp
 have nX2XR:=XR.lt;have nX2XS:=XS.lt;have BX:=bel1 w2 (.cells #[.bool s2,.slice A2 n2 c2] 27);replace XR:=XR.b BX;replace XS:=XS.b BX;replace p2:=p2.b BX;replace p3:=p3.b BX;replace HB:=ie (bt HB.out BX)
 have X2:=Bo.new w2 #[.bool s2,.slice A2 n2 c2] 27;generalize hWn:World.alloc w2 (.cells #[.bool s2,.slice A2 n2 c2] 27)=w3 at *;clear hWn;have nX3XR:=XR.lt;have nX3XS:=XS.lt;have nX3X2:=X2.lt;generalize hWn:w3.alloc _=w4 at *;obtain⟨X3,BW⟩:=Bo.nw hWn;clear hWn;replace XR:=XR.b BW;replace XS:=XS.b BW;replace X2:=X2.b BW;replace p2:=p2.b BW
 replace p3:=p3.b BW;replace HB:=Hqb HB BW;clear BW;rw[e4X3]at X3;clear e4X3
 go_wp2_with fail
 refine(jInv H239.out).mono ?_;rintro ee w5 ⟨s4,A4,n4,c4,s5,A5,n5,c5,rfl,p4,p5,k4,k5,B⟩;replace XR:=XR.b B;replace XS:=XS.b B;replace X2:=X2.b B;replace X3:=X3.b B;replace p2:=p2.b B;replace p3:=p3.b B;replace HB:=Hqb HB B;clear B
 go_upto_region 3 with (fail)
 have e4X5:(World.alloc w5 (.cells #[.bool s4,.slice A4 n4 c4] 27)).heap.size=w5.heap.size+1:=by simp
 have nX4XR:=XR.lt;have nX4XS:=XS.lt;have nX4X2:=X2.lt;have nX4X3:=X3.lt;have BX:=bel1 w5 (.cells #[.bool s4,.slice A4 n4 c4] 27);replace XR:=XR.b BX;replace XS:=XS.b BX;replace X2:=X2.b BX;replace X3:=X3.b BX;replace p2:=p2.b BX
 replace p3:=p3.b BX;replace p4:=p4.b BX;replace p5:=p5.b BX;replace HB:=ie (bt HB.out BX);have X4:=Bo.new w5 #[.bool s4,.slice A4 n4 c4] 27;generalize hWn:World.alloc w5 (.cells #[.bool s4,.slice A4 n4 c4] 27)=w6 at *
 clear hWn;have nX5XR:=XR.lt;have nX5XS:=XS.lt;have nX5X2:=X2.lt;have nX5X3:=X3.lt;have nX5X4:=X4.lt;generalize hWn:w6.alloc _=w7 at *;obtain⟨X5,BW⟩:=Bo.nw hWn;clear hWn;replace XR:=XR.b BW;replace XS:=XS.b BW;replace X2:=X2.b BW;replace X3:=X3.b BW;replace X4:=X4.b BW;replace p2:=p2.b BW;replace p3:=p3.b BW;replace p4:=p4.b BW
 replace p5:=p5.b BW;replace HB:=Hqb HB BW;clear BW;rw[e4X5]at X5;clear e4X5;have ltXR:=XR.lt;have ltXS:=XS.lt;have ltX2:=X2.lt;have ltX3:=X3.lt;have ltX4:=X4.lt;have ltX5:=X5.lt;refine jk [0,1,2,3,4,5,6,7,8,9] [some 14,some 15,some 16,some 17,some 18,some 19,some 20,some 21,some 22,some 23,none,none] [[],[0],[],[2],[1,3],[],[5],[],[7],[6,8],[],[]] 12 2 [Jo.Fact.eq (.agg #[.bool s2,.slice A2 n2 c2]),Jo.Fact.wn (a*16) (1000002),Jo.Fact.eq (.agg #[.bool s5,.slice A5 n5 c5]),Jo.Fact.wn (d*4) (1000002),Jo.Fact.wn (PLo) (7),Jo.Fact.eq (.agg #[.bool s3,.slice A3 n3 c3]),Jo.Fact.wn (b*16) (1000002),Jo.Fact.eq (.agg #[.bool s4,.slice A4 n4 c4]),Jo.Fact.wn (c*4) (1000002),Jo.Fact.wn (PHi) (7),Jo.Fact.any,Jo.Fact.any] ?_ ?_
 ·refine jm ?_ ?_;rotate_left
  refine jm ?_ ?_
  ·rintro wj hJ _ rfl K hK;simp only[Jo.z]at hK|-;go_simp;exact Jo.w1 (jTimes (p2.b hJ).wr (by omega) (by omega) (by omega) rfl) hK.out
  refine jm ?_ ?_;rotate_left
  refine jm ?_ ?_
  ·rintro wj hJ _ rfl K hK;simp only[Jo.z]at hK|-;go_simp;exact Jo.w1 (jTimes (p5.b hJ).wr (by omega) (by omega) (by omega) rfl) hK.out
  refine jm ?_ ?_
  ·rintro wj hJ _ ⟨s20,A20,n20,c20,rfl,p20,k20⟩ _ ⟨s21,A21,n21,c21,rfl,p21,k21⟩ K hK;simp only[Jo.z]at hK|-;go_simp;refine(qSub p20.wr p21.wr (by omega) (by omega) HB1.out).mono ?_;rintro ee wk ⟨s22,A22,n22,c22,rfl,p22,k22,B⟩;exact hK.out _ _ ⟨s22,A22,n22,c22,rfl,p22,p22.fits (by decide)⟩ B
  refine jm ?_ ?_;rotate_left
  refine jm ?_ ?_
  ·rintro wj hJ _ rfl K hK;simp only[Jo.z]at hK|-;go_simp;exact Jo.w1 (jTimes (p3.b hJ).wr (by omega) (by omega) (by omega) rfl) hK.out
  refine jm ?_ ?_;rotate_left
  refine jm ?_ ?_
  ·rintro wj hJ _ rfl K hK;simp only[Jo.z]at hK|-;go_simp;exact Jo.w1 (jTimes (p4.b hJ).wr (by omega) (by omega) (by omega) rfl) hK.out
  refine jm ?_ ?_
  ·rintro wj hJ _ ⟨s23,A23,n23,c23,rfl,p23,k23⟩ _ ⟨s24,A24,n24,c24,rfl,p24,k24⟩ K hK;simp only[Jo.z]at hK|-;go_simp;refine(qSub p23.wr p24.wr (by omega) (by omega) HB2.out).mono ?_;rintro ee wk ⟨s25,A25,n25,c25,rfl,p25,k25,B⟩;exact hK.out _ _ ⟨s25,A25,n25,c25,rfl,p25,p25.fits (by decide)⟩ B
  exact jo
  all_goals (rintro wj hJ;(repeat rintro _ rfl);intro K hK;simp only[Jo.z]at hK|-;have xX2:=(X2.b hJ).cell;have xX5:=(X5.b hJ).cell;have xX3:=(X3.b hJ).cell;have xX4:=(X4.b hJ).cell;go_simp;exact hK.out _ _ rfl (br _ _))
 rintro w8 hJ _ rfl _ ⟨s20,A20,n20,c20,rfl,p20,k20⟩ _ rfl _ ⟨s21,A21,n21,c21,rfl,p21,k21⟩ _ ⟨s22,A22,n22,c22,rfl,p22,k22⟩ _ rfl _ ⟨s23,A23,n23,c23,rfl,p23,k23⟩ _ rfl _ ⟨s24,A24,n24,c24,rfl,p24,k24⟩ _ ⟨s25,A25,n25,c25,rfl,p25,k25⟩ -;simp only[Jo.z];replace XR:=XR.b hJ;replace XS:=XS.b hJ;replace HB:=Hqb HB hJ;clear p2 p3 p4 p5;have xXR:=XR.cell
 have zXR0:=XR.frozen
 refine jn 10 fun K hK=>?_
 go_simp;refine hK.out _ _ ?_;clear hK K xXR zXR0;generalize hS:(w8.setCell _ _).setCell _ _=w9 at *;have SX:=StN.of2 XR hS;replace XS:=XS.s SX;replace p22:=p22.s SX;replace p25:=p25.s SX;replace HB:=Hqs HB SX (by omega);replace XR:=SX.box;clear SX hS;have xXS:=XS.cell;have zXS0:=XS.frozen
 refine jn 11 fun K hK=>?_
 go_simp;refine hK.out _ _ ?_;clear hK K xXS zXS0;generalize hS:(w9.setCell _ _).setCell _ _=wA at *;have SX:=StN.of2 XS hS;replace XR:=XR.s SX;replace p22:=p22.s SX;replace p25:=p25.s SX;replace HB:=Hqs HB SX (by omega);replace XS:=SX.box;clear SX hS;refine jd ?_;go_wp2;exact bq (v:= .tuple #[.agg #[.bool s22,.slice A22 n22 c22],.agg #[.bool s25,.slice A25 n25 c25]]) (by simp[results,Tryz.results143,go_sem,XR.cell,XS.cell]) rfl ⟨s22,A22,n22,c22,s25,A25,n25,c25,rfl,p22,p25,k22,k25,HB.out⟩
theorem jPart{w:World}{A:Option Addr}{n c:Nat}{s:Bool}{x:Int}{B:Option Addr}{m d:Nat}{t:Bool}{y:Int}{r u:Int}{z:Sp}(h:Wr w s A n c x)(k:Wr w t B m d y)(hn:n<=3500)(hm:m<=3500)(hr:Rq false x SC r)(hu:Rq true y SC u)(hz:mkI r u=z):Calls Tryz.prog 145 #[.agg #[.bool s,.slice A n c],.agg #[.bool t,.slice B m d]] w (PV w z):=by
 have HR:=ie hr;have HU:=ie hu;have HZ:=ie hz;clear hr hu hz
 go_enter Tryz.func145,Tryz.ntmps145
 go_upto_region 1 with (fail)
 generalize hW1:((w.alloc _).alloc _).alloc _=w1 at *;obtain⟨X2,X3,XR,HB⟩:=Bo.en3 hW1;replace h:=h.below HB.out;replace k:=k.below HB.out;clear hW1;have ltX2:=X2.lt;have ltX3:=X3.lt;have ltXR:=XR.lt;refine jk [0,1,2,3,4,5,6] [some 5,some 6,some 7,some 8,some 9,some 10,some 11,none] [[],[],[0,1],[],[],[3,4],[2,5],[]] 8 1 [Jo.Fact.eq (.agg #[.bool s,.slice A n c]),Jo.Fact.wn (SC) (8),Jo.Fact.num r,Jo.Fact.eq (.agg #[.bool t,.slice B m d]),Jo.Fact.wn (SC) (8),Jo.Fact.num u,Jo.Fact.iv z,Jo.Fact.any] ?_ ?_
 ·refine jm ?_ ?_;rotate_left
  refine jm ?_ ?_
  ·rintro wj hJ K hK;simp only[Jo.z]at hK|-;go_simp;exact Jo.w1 (jScale) hK.out
  refine jm ?_ ?_
  ·rintro wj hJ _ rfl _ ⟨s20,A20,n20,c20,rfl,p20,k20⟩ K hK;simp only[Jo.z]at hK|-;go_simp;exact Jo.n1 (jRatio (h.b hJ) p20.wr (by omega) (by omega) HR.out) hK.out
  refine jm ?_ ?_;rotate_left
  refine jm ?_ ?_
  ·rintro wj hJ K hK;simp only[Jo.z]at hK|-;go_simp;exact Jo.w1 (jScale) hK.out
  refine jm ?_ ?_
  ·rintro wj hJ _ rfl _ ⟨s22,A22,n22,c22,rfl,p22,k22⟩ K hK;simp only[Jo.z]at hK|-;go_simp;exact Jo.n1 (jRatio (k.b hJ) p22.wr (by omega) (by omega) HU.out) hK.out
  refine jm ?_ ?_
  ·rintro wj hJ _ ⟨K21,s21,M21,E21,rfl,q21⟩ _ ⟨K23,s23,M23,E23,rfl,q23⟩ K hK;simp only[Jo.z]at hK|-;go_simp;exact Jo.v1 (jvMake q21.top q23.top q21.rk q23.rk HZ.out) hK.out
  exact jo
  all_goals (rintro wj hJ;(repeat rintro _ rfl);intro K hK;simp only[Jo.z]at hK|-;have xX2:=(X2.b hJ).cell;have xX3:=(X3.b hJ).cell;go_simp;exact hK.out _ _ rfl (br _ _))
 rintro w2 hJ _ rfl _ ⟨s20,A20,n20,c20,rfl,p20,k20⟩ _ ⟨K21,s21,M21,E21,rfl,q21⟩ _ rfl _ ⟨s22,A22,n22,c22,rfl,p22,k22⟩ _ ⟨K23,s23,M23,E23,rfl,q23⟩ _ ⟨e24,K24,s24,M24,E24,K24b,s24b,M24b,E24b,rfl,v24⟩ -;simp only[Jo.z];replace XR:=XR.b hJ;replace HB:=Hqb HB hJ;clear h k;have xXR:=XR.cell;have zXR0:=XR.frozen
 refine jn 7 fun K hK=>?_
 go_simp;refine hK.out _ _ ?_;clear hK K xXR zXR0;have SX:=StN.t9 XR e24 K24 s24 M24 E24 K24b s24b M24b E24b;refine jd ?_;go_wp2;exact bq (by simp[results,Tryz.results145,go_sem,SX.box.cell]) rfl ⟨_,_,_,_,_,_,_,_,_,rfl,v24,(SX.below HB.out (by omega))⟩
def btL (x y:Int):Int:=if qI x%2=0 then serI (rI x)-(tI x y-rI x+200)else -(serI (rI x)+(tI x y-rI x+200))
def btH (x y:Int):Int:=if qI x%2=0 then serI (rI x)+(tI x y-rI x+200)else -(serI (rI x)-(tI x y-rI x+200))
theorem Nm.low{w:World}{B:Option Addr}{m d r:Nat}(h:Nm w B m d r)(h0:0 < r):0 < m/\∃b o,B=some ⟨b,o,none⟩/\w.cell? ⟨b,o,none⟩=some (.int .u32 ((r%4294967296:Nat):Int)):=by
 obtain⟨b,h⟩:=h;rw[limbs_pos (by omega)]at h;have hl:=h.len
 simp at hl
 obtain⟨o,e,hc⟩:=h.at (by omega)
 have:=hc 0 (by omega)
 simp only[Nat.add_zero,List.getD_cons_zero]at this;exact⟨by omega,b,o,e,this⟩
theorem jbtw_core{w:World}{A:Option Addr}{n c:Nat}{s:Bool}{x:Int}{B:Option Addr}{m d:Nat}{t:Bool}{y:Int}{q r u v e lo hi l g:Int}{bz bo:Bool}(h:Wr w s A n c x)(k:Wr w t B m d y)(hn:n<=1000)(hm:m<=1000)(hq:(x*2+PLo).fdiv (PLo*2)=q)(hs:decide (q < 0)=bz)(ho:decide (q.natAbs%2=1)=bo)(hr:(if bz=true then x-q*PLo else x-q*PHi)=r)(hu:(if bz=true then y-q*PHi else y-q*PLo)=u)(hv:serI r=v)(he:u-r+200=e)(hlo:(if bo=true then -(v+e)else v-e)=lo)(hhi:(if bo=true then -(v-e)else v+e)=hi)(hl:bndI lo (-SC) SC=l)(hg:bndI hi (-SC) SC=g):Calls Tryz.prog 144 #[.agg #[.bool s,.slice A n c],.agg #[.bool t,.slice B m d]] w (W2 w 310000 l g):=by
 obtain⟨σ,hσ⟩:∃σ,cmpI q 0=σ:=⟨_,rfl⟩;have e0:=(cmp_lt12 hσ).1;rw[hs]at e0;have HQ:=ie hq;have HS:=ie hσ;have HO:=ie ho;have HR:=ie hr;have HU:=ie hu;have HV:=ie hv;have HE:=ie he;have HLO:=ie hlo;have HHI:=ie hhi;have HL:=ie hl;have HG:=ie hg;have HZ:=ie e0;clear hq hσ ho hr hu hv he hlo hhi hl hg e0
 clear hs
 go_enter Tryz.func144,Tryz.ntmps144
 go_upto_region 1 with (fail)
 generalize hW1:(((w.alloc _).alloc _).alloc _).alloc _=w1 at *;obtain⟨X2,X3,XR,XS,HB⟩:=Bo.en4 hW1;replace h:=h.below HB.out;replace k:=k.below HB.out;clear hW1
 go_wp2_with fail
 refine(jBounds).mono ?_;rintro ee w2 ⟨s6,A6,n6,c6,s7,A7,n7,c7,rfl,p6,p7,k6,k7,B⟩;replace X2:=X2.b B;replace X3:=X3.b B;replace XR:=XR.b B;replace XS:=XS.b B;replace h:=h.b B;replace k:=k.b B;replace HB:=Hqb HB B;clear B;have hsz6:=HB.out.size
 go_upto_region 2 with (fail)
 have e4X7:(World.alloc w2 (.cells #[.bool s6,.slice A6 n6 c6] 27)).heap.size=w2.heap.size+1:=by simp
 have nX6X2:=X2.lt;have nX6X3:=X3.lt;have nX6XR:=XR.lt;have nX6XS:=XS.lt;have BX:=bel1 w2 (.cells #[.bool s6,.slice A6 n6 c6] 27);replace X2:=X2.b BX;replace X3:=X3.b BX;replace XR:=XR.b BX;replace XS:=XS.b BX;replace h:=h.b BX
 replace k:=k.b BX;replace p6:=p6.b BX;replace p7:=p7.b BX;replace HB:=ie (bt HB.out BX);have X6:=Bo.new w2 #[.bool s6,.slice A6 n6 c6] 27;generalize hWn:World.alloc w2 (.cells #[.bool s6,.slice A6 n6 c6] 27)=w3 at *
 clear hWn;have nX7X2:=X2.lt;have nX7X3:=X3.lt;have nX7XR:=XR.lt;have nX7XS:=XS.lt;have nX7X6:=X6.lt;generalize hWn:w3.alloc _=w4 at *;obtain⟨X7,BW⟩:=Bo.nw hWn;clear hWn;replace X2:=X2.b BW;replace X3:=X3.b BW;replace XR:=XR.b BW;replace XS:=XS.b BW;replace X6:=X6.b BW;replace h:=h.b BW;replace k:=k.b BW;replace p6:=p6.b BW
 replace p7:=p7.b BW;replace HB:=Hqb HB BW;clear BW;rw[e4X7]at X7;clear e4X7;have ltX2:=X2.lt;have ltX3:=X3.lt;have ltXR:=XR.lt;have ltXS:=XS.lt;have ltX6:=X6.lt;have ltX7:=X7.lt;have hsz:=HB.out.size;refine jk [0,1,2,3,4,5,6,7] [some 23,some 24,some 25,some 26,some 27,some 28,some 29,some 8,none] [[],[0],[],[1,2],[],[4],[3,5],[],[]] 9 1 [Jo.Fact.eq (.agg #[.bool s,.slice A n c]),Jo.Fact.wn (x*2) (n+2),Jo.Fact.eq (.agg #[.bool s6,.slice A6 n6 c6]),Jo.Fact.wn (x*2+PLo) (n+10),Jo.Fact.eq (.agg #[.bool s6,.slice A6 n6 c6]),Jo.Fact.wn (PLo*2) (9),Jo.Fact.wn (q) (n+23),Jo.Fact.bo w4.heap.size #[.bool false,.slice none 0 0] 27,Jo.Fact.any] ?_ ?_
 ·refine jm ?_ ?_;rotate_left
  refine jm ?_ ?_
  ·rintro wj hJ _ rfl K hK;simp only[Jo.z]at hK|-;go_simp;exact Jo.w1 (jTimes (h.b hJ) (by omega) (by decide) (by decide) rfl) hK.out
  refine jm ?_ ?_;rotate_left
  refine jm ?_ ?_
  ·rintro wj hJ _ ⟨s20,A20,n20,c20,rfl,p20,k20⟩ _ rfl K hK;simp only[Jo.z]at hK|-;go_simp;exact Jo.w1 (qAdd p20.wr (p6.b hJ).wr (by omega) (by omega) rfl) hK.out
  refine jm ?_ ?_;rotate_left
  refine jm ?_ ?_
  ·rintro wj hJ _ rfl K hK;simp only[Jo.z]at hK|-;go_simp;exact Jo.w1 (jTimes (p6.b hJ).wr (by omega) (by decide) (by decide) rfl) hK.out
  refine jm ?_ ?_
  ·rintro wj hJ _ ⟨s21,A21,n21,c21,rfl,p21,k21⟩ _ ⟨s22,A22,n22,c22,rfl,p22,k22⟩ K hK;simp only[Jo.z]at hK|-;go_simp;exact Jo.w1 (jDown p21.wr p22.wr (by omega) (by omega) (by decide) HQ.out) hK.out
  refine jm ?_ ?_
  ·rintro wj hJ K hK;simp only[Jo.z]at hK|-;go_simp;exact hK.out _ _ ⟨_,rfl,hJ.size,Bo.new _ _ _⟩ (bel1 _ _)
  exact jo
  all_goals (rintro wj hJ;(repeat rintro _ rfl);intro K hK;simp only[Jo.z]at hK|-;have xX2:=(X2.b hJ).cell;have xX6:=(X6.b hJ).cell;go_simp;exact hK.out _ _ rfl (br _ _))
 rintro w5 hJ _ rfl _ ⟨s20,A20,n20,c20,rfl,p20,k20⟩ _ rfl _ ⟨s21,A21,n21,c21,rfl,p21,k21⟩ _ rfl _ ⟨s22,A22,n22,c22,rfl,p22,k22⟩ _ ⟨s23,A23,n23,c23,rfl,p23,k23⟩ _ ⟨g8,rfl,hg8,X8⟩ -;simp only[Jo.z];replace X2:=X2.b hJ;replace X3:=X3.b hJ;replace XR:=XR.b hJ;replace XS:=XS.b hJ;replace X6:=X6.b hJ;replace X7:=X7.b hJ;replace h:=h.b hJ
 replace k:=k.b hJ;replace p6:=p6.b hJ;replace p7:=p7.b hJ;replace HB:=Hqb HB hJ;clear HQ p20 p21 p22;have xX8:=X8.cell;have zX80:=X8.frozen
 refine jn 8 fun K hK=>?_
 go_simp;refine hK.out _ _ ?_;clear hK K xX8 zX80;generalize hS:(w5.setCell _ _).setCell _ _=w6 at *;have SX:=StN.of2 X8 hS;replace X2:=X2.s SX;replace X3:=X3.s SX;replace XR:=XR.s SX;replace XS:=XS.s SX;replace X6:=X6.s SX;replace X7:=X7.s SX;replace h:=h.s SX;replace k:=k.s SX
 replace p6:=p6.s SX;replace p7:=p7.s SX;replace p23:=p23.s SX;replace HB:=Hqs HB SX (by omega);replace X8:=SX.box;clear SX hS;refine jd ?_
 go_upto_region 3 with (fail)
 have ltX2:=X2.lt;have ltX3:=X3.lt;have ltXR:=XR.lt;have ltXS:=XS.lt;have ltX6:=X6.lt;have ltX7:=X7.lt;have ltX8:=X8.lt;have hsz:=HB.out.size;refine jk [0,1,2,3,4,5] [some 30,some 31,some 32,some 33,some 34,some 9,none] [[],[],[],[1,2],[0,3],[],[]] 7 1 [Jo.Fact.eq (.agg #[.bool s,.slice A n c]),Jo.Fact.eq (.agg #[.bool s23,.slice A23 n23 c23]),Jo.Fact.eq (.agg #[.bool s7,.slice A7 n7 c7]),Jo.Fact.wn (q*PHi) (n+30),Jo.Fact.wn (x-q*PHi) (4000),Jo.Fact.bo w6.heap.size #[.bool false,.slice none 0 0] 27,Jo.Fact.any] ?_ ?_
 ·iterate 3 (refine jm ?_ ?_;rotate_left)
  refine jm ?_ ?_
  ·rintro wj hJ _ rfl _ rfl K hK;simp only[Jo.z]at hK|-;go_simp;exact Jo.w1 (qTwo (p23.b hJ).wr (p7.b hJ).wr (by omega) (by omega) rfl) hK.out
  refine jm ?_ ?_
  ·rintro wj hJ _ rfl _ ⟨s24,A24,n24,c24,rfl,p24,k24⟩ K hK;simp only[Jo.z]at hK|-;go_simp;exact Jo.w1 (qSub (h.b hJ) p24.wr (by omega) (by omega) rfl) hK.out
  refine jm ?_ ?_
  ·rintro wj hJ K hK;simp only[Jo.z]at hK|-;go_simp;exact hK.out _ _ ⟨_,rfl,hJ.size,Bo.new _ _ _⟩ (bel1 _ _)
  exact jo
  all_goals (rintro wj hJ;(repeat rintro _ rfl);intro K hK;simp only[Jo.z]at hK|-;have xX2:=(X2.b hJ).cell;have xX8:=(X8.b hJ).cell;have xX7:=(X7.b hJ).cell;go_simp;exact hK.out _ _ rfl (br _ _))
 rintro w7 hJ _ rfl _ rfl _ rfl _ ⟨s24,A24,n24,c24,rfl,p24,k24⟩ _ ⟨s25,A25,n25,c25,rfl,p25,k25⟩ _ ⟨g9,rfl,hg9,X9⟩ -;simp only[Jo.z];replace X2:=X2.b hJ;replace X3:=X3.b hJ;replace XR:=XR.b hJ;replace XS:=XS.b hJ;replace X6:=X6.b hJ;replace X7:=X7.b hJ;replace X8:=X8.b hJ;replace h:=h.b hJ;replace k:=k.b hJ;replace p6:=p6.b hJ
 replace p7:=p7.b hJ;replace p23:=p23.b hJ;replace HB:=Hqb HB hJ;clear p24;have xX9:=X9.cell;have zX90:=X9.frozen
 refine jn 6 fun K hK=>?_
 go_simp;refine hK.out _ _ ?_;clear hK K xX9 zX90;generalize hS:(w7.setCell _ _).setCell _ _=w8 at *;have SX:=StN.of2 X9 hS;replace X2:=X2.s SX;replace X3:=X3.s SX;replace XR:=XR.s SX;replace XS:=XS.s SX;replace X6:=X6.s SX;replace X7:=X7.s SX;replace X8:=X8.s SX;replace h:=h.s SX
 replace k:=k.s SX;replace p6:=p6.s SX;replace p7:=p7.s SX;replace p23:=p23.s SX;replace p25:=p25.s SX;replace HB:=Hqs HB SX (by omega);replace X9:=SX.box;clear SX hS;refine jd ?_
 go_upto_region 4 with (fail)
 have ltX2:=X2.lt;have ltX3:=X3.lt;have ltXR:=XR.lt;have ltXS:=XS.lt;have ltX6:=X6.lt;have ltX7:=X7.lt;have ltX8:=X8.lt;have ltX9:=X9.lt;have hsz:=HB.out.size;refine jk [0,1,2,3,4,5] [some 35,some 36,some 37,some 38,some 39,some 10,none] [[],[],[],[1,2],[0,3],[],[]] 7 1 [Jo.Fact.eq (.agg #[.bool t,.slice B m d]),Jo.Fact.eq (.agg #[.bool s23,.slice A23 n23 c23]),Jo.Fact.eq (.agg #[.bool s6,.slice A6 n6 c6]),Jo.Fact.wn (q*PLo) (n+30),Jo.Fact.wn (y-q*PLo) (4000),Jo.Fact.bo w8.heap.size #[.bool false,.slice none 0 0] 27,Jo.Fact.any] ?_ ?_
 ·iterate 3 (refine jm ?_ ?_;rotate_left)
  refine jm ?_ ?_
  ·rintro wj hJ _ rfl _ rfl K hK;simp only[Jo.z]at hK|-;go_simp;exact Jo.w1 (qTwo (p23.b hJ).wr (p6.b hJ).wr (by omega) (by omega) rfl) hK.out
  refine jm ?_ ?_
  ·rintro wj hJ _ rfl _ ⟨s26,A26,n26,c26,rfl,p26,k26⟩ K hK;simp only[Jo.z]at hK|-;go_simp;exact Jo.w1 (qSub (k.b hJ) p26.wr (by omega) (by omega) rfl) hK.out
  refine jm ?_ ?_
  ·rintro wj hJ K hK;simp only[Jo.z]at hK|-;go_simp;exact hK.out _ _ ⟨_,rfl,hJ.size,Bo.new _ _ _⟩ (bel1 _ _)
  exact jo
  all_goals (rintro wj hJ;(repeat rintro _ rfl);intro K hK;simp only[Jo.z]at hK|-;have xX3:=(X3.b hJ).cell;have xX8:=(X8.b hJ).cell;have xX6:=(X6.b hJ).cell;go_simp;exact hK.out _ _ rfl (br _ _))
 rintro w9 hJ _ rfl _ rfl _ rfl _ ⟨s26,A26,n26,c26,rfl,p26,k26⟩ _ ⟨s27,A27,n27,c27,rfl,p27,k27⟩ _ ⟨g10,rfl,hg10,X10⟩ -;simp only[Jo.z];replace X2:=X2.b hJ;replace X3:=X3.b hJ;replace XR:=XR.b hJ;replace XS:=XS.b hJ;replace X6:=X6.b hJ;replace X7:=X7.b hJ;replace X8:=X8.b hJ;replace X9:=X9.b hJ;replace h:=h.b hJ;replace k:=k.b hJ
 replace p6:=p6.b hJ;replace p7:=p7.b hJ;replace p23:=p23.b hJ;replace p25:=p25.b hJ;replace HB:=Hqb HB hJ;clear p26;have xX10:=X10.cell;have zX100:=X10.frozen
 refine jn 6 fun K hK=>?_
 go_simp;refine hK.out _ _ ?_;clear hK K xX10 zX100;generalize hS:(w9.setCell _ _).setCell _ _=wA at *;have SX:=StN.of2 X10 hS;replace X2:=X2.s SX;replace X3:=X3.s SX;replace XR:=XR.s SX;replace XS:=XS.s SX;replace X6:=X6.s SX;replace X7:=X7.s SX;replace X8:=X8.s SX;replace X9:=X9.s SX
 replace h:=h.s SX;replace k:=k.s SX;replace p6:=p6.s SX;replace p7:=p7.s SX;replace p23:=p23.s SX;replace p25:=p25.s SX;replace p27:=p27.s SX;replace HB:=Hqs HB SX (by omega);replace X10:=SX.box;clear SX hS;refine jd ?_
 go_upto_region 5 with (fail)
 have xX8:=X8.cell
 go_wp2_with fail
 refine(qSign p23.wr HS.out).mono ?_;rintro ee wB ⟨rfl,B⟩;clear xX8;replace X2:=X2.b B;replace X3:=X3.b B;replace XR:=XR.b B;replace XS:=XS.b B;replace X6:=X6.b B;replace X7:=X7.b B;replace X8:=X8.b B;replace X9:=X9.b B;replace X10:=X10.b B;replace h:=h.b B;replace k:=k.b B;replace p6:=p6.b B;replace p7:=p7.b B
 replace p23:=p23.b B;replace p25:=p25.b B;replace p27:=p27.b B;replace HB:=Hqb HB B;clear B;have hz:=HZ.out
 go_upto_if 42 with (fail)
 clear hz HZ HS
 go_cut [] (fun wx=>∃(s50:Bool) (A50:Option Addr) (n50 c50:Nat) (s51:Bool) (A51:Option Addr) (n51 c51:Nat),Wn wx s50 A50 n50 c50 r/\Wn wx s51 A51 n51 c51 u/\n50<=4000/\n51<=4000/\Bo wx (g9) #[.bool s50,.slice A50 n50 c50] 27/\Bo wx (g10) #[.bool s51,.slice A51 n51 c51] 27/\Bo wx (w.heap.size+1+1) #[.bool false,.slice none 0 0] 27/\Bo wx (w.heap.size+1+1+1) #[.bool false,.slice none 0 0] 27/\Bo wx (g8) #[.bool s23,.slice A23 n23 c23] 27/\Wn wx s23 A23 n23 c23 q/\Below w.heap.size w wx)
 case first=>
  cases bz
  ·have e25:x-q*PHi=r:=HR.out
   have e27:y-q*PLo=u:=HU.out
   rw[e25]at p25;rw[e27]at p27
   first | go_meet | (go_wp2_with fail;go_meet)
   exact⟨_,_,_,_,_,_,_,_,p25,p27,by omega,by omega,X9,X10,XR,XS,X8,p23,HB.out⟩
  ·have HR2:Hid (x-q*PLo=r):=ie HR.out
   have HU2:Hid (y-q*PHi=u):=ie HU.out
   clear p25 p27
   go_upto_region 6 with (fail)
   have ltX2:=X2.lt;have ltX3:=X3.lt;have ltXR:=XR.lt;have ltXS:=XS.lt;have ltX6:=X6.lt;have ltX7:=X7.lt;have ltX8:=X8.lt;have ltX9:=X9.lt;have ltX10:=X10.lt;have hsz:=HB.out.size;refine jk [0,1,2,3,4] [some 43,some 44,some 45,some 46,some 47,none] [[],[],[],[1,2],[0,3],[]] 6 1 [Jo.Fact.eq (.agg #[.bool s,.slice A n c]),Jo.Fact.eq (.agg #[.bool s23,.slice A23 n23 c23]),Jo.Fact.eq (.agg #[.bool s6,.slice A6 n6 c6]),Jo.Fact.wn (q*PLo) (n+30),Jo.Fact.wn (r) (4000),Jo.Fact.any] ?_ ?_
   ·iterate 3 (refine jm ?_ ?_;rotate_left)
    refine jm ?_ ?_
    ·rintro wj hJ _ rfl _ rfl K hK;simp only[Jo.z]at hK|-;go_simp;exact Jo.w1 (qTwo (p23.b hJ).wr (p6.b hJ).wr (by omega) (by omega) rfl) hK.out
    refine jm ?_ ?_
    ·rintro wj hJ _ rfl _ ⟨s28,A28,n28,c28,rfl,p28,k28⟩ K hK;simp only[Jo.z]at hK|-;go_simp;exact Jo.w1 (qSub (h.b hJ) p28.wr (by omega) (by omega) HR2.out) hK.out
    exact jo
    all_goals (rintro wj hJ;(repeat rintro _ rfl);intro K hK;simp only[Jo.z]at hK|-;have xX2:=(X2.b hJ).cell;have xX8:=(X8.b hJ).cell;have xX6:=(X6.b hJ).cell;go_simp;exact hK.out _ _ rfl (br _ _))
   rintro wC hJ _ rfl _ rfl _ rfl _ ⟨s28,A28,n28,c28,rfl,p28,k28⟩ _ ⟨s29,A29,n29,c29,rfl,p29,k29⟩ -;simp only[Jo.z];replace X3:=X3.b hJ;replace XR:=XR.b hJ;replace XS:=XS.b hJ;replace X7:=X7.b hJ;replace X8:=X8.b hJ;replace X9:=X9.b hJ;replace X10:=X10.b hJ;replace h:=h.b hJ;replace k:=k.b hJ;replace p7:=p7.b hJ
   replace p23:=p23.b hJ;replace HB:=Hqb HB hJ;clear p28;have xX9:=X9.cell;have zX90:=X9.frozen
   refine jn 5 fun K hK=>?_
   go_simp;refine hK.out _ _ ?_;clear hK K xX9 zX90;generalize hS:(wC.setCell _ _).setCell _ _=wD at *;have SX:=StN.of2 X9 hS;replace X3:=X3.s SX;replace XR:=XR.s SX;replace XS:=XS.s SX;replace X7:=X7.s SX;replace X8:=X8.s SX;replace X10:=X10.s SX;replace h:=h.s SX
   replace k:=k.s SX;replace p7:=p7.s SX;replace p23:=p23.s SX;replace p29:=p29.s SX;replace HB:=Hqs HB SX (by omega);replace X9:=SX.box;clear SX hS;refine jd ?_
   go_upto_region 7 with (fail)
   have ltX3:=X3.lt;have ltXR:=XR.lt;have ltXS:=XS.lt;have ltX7:=X7.lt;have ltX8:=X8.lt;have ltX9:=X9.lt;have ltX10:=X10.lt;have hsz:=HB.out.size;refine jk [0,1,2,3,4] [some 48,some 49,some 50,some 51,some 52,none] [[],[],[],[1,2],[0,3],[]] 6 1 [Jo.Fact.eq (.agg #[.bool t,.slice B m d]),Jo.Fact.eq (.agg #[.bool s23,.slice A23 n23 c23]),Jo.Fact.eq (.agg #[.bool s7,.slice A7 n7 c7]),Jo.Fact.wn (q*PHi) (n+30),Jo.Fact.wn (u) (4000),Jo.Fact.any] ?_ ?_
   ·iterate 3 (refine jm ?_ ?_;rotate_left)
    refine jm ?_ ?_
    ·rintro wj hJ _ rfl _ rfl K hK;simp only[Jo.z]at hK|-;go_simp;exact Jo.w1 (qTwo (p23.b hJ).wr (p7.b hJ).wr (by omega) (by omega) rfl) hK.out
    refine jm ?_ ?_
    ·rintro wj hJ _ rfl _ ⟨s40,A40,n40,c40,rfl,p40,k40⟩ K hK;simp only[Jo.z]at hK|-;go_simp;exact Jo.w1 (qSub (k.b hJ) p40.wr (by omega) (by omega) HU2.out) hK.out
    exact jo
    all_goals (rintro wj hJ;(repeat rintro _ rfl);intro K hK;simp only[Jo.z]at hK|-;have xX3:=(X3.b hJ).cell;have xX8:=(X8.b hJ).cell;have xX7:=(X7.b hJ).cell;go_simp;exact hK.out _ _ rfl (br _ _))
   rintro wE hJ _ rfl _ rfl _ rfl _ ⟨s40,A40,n40,c40,rfl,p40,k40⟩ _ ⟨s41,A41,n41,c41,rfl,p41,k41⟩ -;simp only[Jo.z];replace XR:=XR.b hJ;replace XS:=XS.b hJ;replace X8:=X8.b hJ;replace X9:=X9.b hJ;replace X10:=X10.b hJ;replace h:=h.b hJ;replace k:=k.b hJ;replace p23:=p23.b hJ;replace p29:=p29.b hJ;replace HB:=Hqb HB hJ
   clear p40;have xX10:=X10.cell;have zX100:=X10.frozen
   refine jn 5 fun K hK=>?_
   go_simp;refine hK.out _ _ ?_;clear hK K xX10 zX100;generalize hS:(wE.setCell _ _).setCell _ _=wF at *;have SX:=StN.of2 X10 hS;replace XR:=XR.s SX;replace XS:=XS.s SX;replace X8:=X8.s SX;replace X9:=X9.s SX;replace h:=h.s SX;replace k:=k.s SX;replace p23:=p23.s SX
   replace p29:=p29.s SX;replace p41:=p41.s SX;replace HB:=Hqs HB SX (by omega);replace X10:=SX.box;clear SX hS;refine jd ?_
   first | go_meet | (go_wp2_with fail;go_meet)
   exact⟨_,_,_,_,_,_,_,_,p29,p41,by omega,by omega,X9,X10,XR,XS,X8,p23,HB.out⟩
 case rest=>
  clear X2 X3 XR XS X6 X7 X8 X9 X10 h k p6 p7 p23 p25 p27 HB HR HU;obtain⟨s25,A25,n25,c25,s27,A27,n27,c27,p25,p27,k25,k27,X9,X10,XR,XS,X8,p23,hB⟩:=hcut;have HB:=ie hB;clear hB
  go_upto_region 8 with (fail)
  have xX9:=X9.cell
  go_wp2_with fail
  refine(jSeries p25.wr (by omega) HV.out).mono ?_;rintro ee wG ⟨s50,A50,n50,c50,rfl,p50,k50,B⟩;clear xX9;replace XR:=XR.b B;replace XS:=XS.b B;replace X8:=X8.b B;replace X9:=X9.b B;replace X10:=X10.b B;replace p23:=p23.b B;replace p25:=p25.b B;replace p27:=p27.b B;replace HB:=Hqb HB B;clear B;have hsz50:=HB.out.size
  go_upto_region 9 with (fail)
  have nX11XR:=XR.lt;have nX11XS:=XS.lt;have nX11X8:=X8.lt;have nX11X9:=X9.lt;have nX11X10:=X10.lt;generalize hWn:wG.alloc _=wH at *;obtain⟨X11,BW⟩:=Bo.nw hWn;clear hWn;replace XR:=XR.b BW;replace XS:=XS.b BW;replace X8:=X8.b BW;replace X9:=X9.b BW;replace X10:=X10.b BW;replace p23:=p23.b BW;replace p25:=p25.b BW;replace p27:=p27.b BW
  replace p50:=p50.b BW;replace HB:=Hqb HB BW;clear BW;have xX10:=X10.cell;have xX9:=X9.cell
  go_wp2_with fail
  refine(qSub p27.wr p25.wr (by omega) (by omega) rfl).mono ?_;rintro ee wI ⟨s51,A51,n51,c51,rfl,p51,k51,B⟩;clear xX10 xX9;replace XR:=XR.b B;replace XS:=XS.b B;replace X8:=X8.b B;replace X11:=X11.b B;replace p23:=p23.b B;replace p50:=p50.b B;replace HB:=Hqb HB B;clear B
  go_wp2_with fail
  refine(qFrom 200 _ (by decide) (by decide)).mono ?_;rintro ee wJ ⟨s52,A52,n52,c52,rfl,p52,k52,B⟩;replace XR:=XR.b B;replace XS:=XS.b B;replace X8:=X8.b B;replace X11:=X11.b B;replace p23:=p23.b B;replace p50:=p50.b B;replace p51:=p51.b B;replace HB:=Hqb HB B;clear B
  go_wp2_with fail
  refine(qAdd p51.wr p52.wr (by omega) (by omega) HE.out).mono ?_;rintro ee wK ⟨s53,A53,n53,c53,rfl,p53,k53,B⟩;replace XR:=XR.b B;replace XS:=XS.b B;replace X8:=X8.b B;replace X11:=X11.b B;replace p23:=p23.b B;replace p50:=p50.b B;replace HB:=Hqb HB B;clear B;clear p51 p52 p25 p27;have hsz53:=HB.out.size
  go_upto_region 10 with (fail)
  have nX12XR:=XR.lt;have nX12XS:=XS.lt;have nX12X8:=X8.lt;have nX12X11:=X11.lt;generalize hWn:wK.alloc _=wL at *;obtain⟨X12,BW⟩:=Bo.nw hWn;clear hWn;replace XR:=XR.b BW;replace XS:=XS.b BW;replace X8:=X8.b BW;replace X11:=X11.b BW;replace p23:=p23.b BW;replace p50:=p50.b BW;replace p53:=p53.b BW;replace HB:=Hqb HB BW
  clear BW;clear X9 X10;have xX11:=X11.cell;have xX12:=X12.cell
  go_wp2_with fail
  refine(qSub p50.wr p53.wr (by omega) (by omega) rfl).mono ?_;rintro ee wM ⟨s54,A54,n54,c54,rfl,p54,k54,B⟩;clear xX11 xX12;replace XR:=XR.b B;replace XS:=XS.b B;replace X8:=X8.b B;replace X11:=X11.b B;replace X12:=X12.b B;replace p23:=p23.b B;replace p50:=p50.b B;replace p53:=p53.b B;replace HB:=Hqb HB B
  clear B;have hsz54:=HB.out.size
  go_upto_region 11 with (fail)
  have nX13XR:=XR.lt;have nX13XS:=XS.lt;have nX13X8:=X8.lt;have nX13X11:=X11.lt;have nX13X12:=X12.lt;generalize hWn:wM.alloc _=wN at *;obtain⟨X13,BW⟩:=Bo.nw hWn;clear hWn;replace XR:=XR.b BW;replace XS:=XS.b BW;replace X8:=X8.b BW;replace X11:=X11.b BW;replace X12:=X12.b BW;replace p23:=p23.b BW;replace p50:=p50.b BW;replace p53:=p53.b BW
  replace p54:=p54.b BW;replace HB:=Hqb HB BW;clear BW;have xX11:=X11.cell;have xX12:=X12.cell
  go_wp2_with fail
  refine(qAdd p50.wr p53.wr (by omega) (by omega) rfl).mono ?_;rintro ee wO ⟨s55,A55,n55,c55,rfl,p55,k55,B⟩;clear xX11 xX12;replace XR:=XR.b B;replace XS:=XS.b B;replace X8:=X8.b B;replace X13:=X13.b B;replace p23:=p23.b B;replace p54:=p54.b B;replace HB:=Hqb HB B;clear B;have hsz55:=HB.out.size
  go_upto_region 12 with (fail)
  have nX14XR:=XR.lt;have nX14XS:=XS.lt;have nX14X8:=X8.lt;have nX14X13:=X13.lt;generalize hWn:wO.alloc _=wP at *;obtain⟨X14,BW⟩:=Bo.nw hWn;clear hWn;replace XR:=XR.b BW;replace XS:=XS.b BW;replace X8:=X8.b BW;replace X13:=X13.b BW;replace p23:=p23.b BW;replace p54:=p54.b BW;replace p55:=p55.b BW;replace HB:=Hqb HB BW
  clear BW;clear p50 p53 X11 X12
  go_cut [15] (fun vo wx=>vo= .bool bo/\wx=wP)
  case first=>
   cases bo
   ·have ho:=HO.out
    have hod:q.natAbs%2=0:=by have:=of_decide_eq_false ho;omega
    by_cases h0:q.natAbs=0
    ·obtain rfl:n23=0:=by have:=p23.1.len;rw[show q.natAbs=0 by omega,limbs_zero]at this;simpa using this.symm
     have tn:decide ((0:Int) < ((0:Nat):Int))=false:=rfl
     have xX8:=X8.cell
     go_wp2_with fail
     go_meet
     exact⟨rfl,rfl⟩
    ·obtain⟨hn0,b0,o0,rfl,hcell⟩:=p23.1.low (by omega)
     have tn:decide ((0:Int) < (n23:Int))=true:=dt (by omega)
     obtain⟨z,hz⟩:∃z:Nat,q.natAbs%4294967296=z:=⟨_,rfl⟩
     have hrem:Int.tmod (z:Int) 2=0:=by rw[Int.tmod_eq_emod_of_nonneg (by omega)];omega
     rw[hz]at hcell;have xX8:=X8.cell
     go_wp2_with fail
     go_meet
     exact⟨rfl,rfl⟩
   ·have ho:=HO.out
    have hod:q.natAbs%2=1:=by exact of_decide_eq_true ho
    obtain⟨hn0,b0,o0,rfl,hcell⟩:=p23.1.low (by omega)
    have tn:decide ((0:Int) < (n23:Int))=true:=dt (by omega)
    obtain⟨z,hz⟩:∃z:Nat,q.natAbs%4294967296=z:=⟨_,rfl⟩
    have hrem:Int.tmod (z:Int) 2=1:=by rw[Int.tmod_eq_emod_of_nonneg (by omega)];omega
    rw[hz]at hcell;have xX8:=X8.cell
    go_wp2_with fail
    go_meet
    exact⟨rfl,rfl⟩
  case rest=>
   obtain⟨rfl,rfl⟩:=hcut;clear HO p23 X8
   go_upto_if 78 with (fail)
   go_cut [] (fun wx=>∃(s50:Bool) (A50:Option Addr) (n50 c50:Nat) (s51:Bool) (A51:Option Addr) (n51 c51:Nat),Wn wx s50 A50 n50 c50 lo/\Wn wx s51 A51 n51 c51 hi/\n50<=309000/\n51<=309000/\Bo wx (wM.heap.size) #[.bool s50,.slice A50 n50 c50] 27/\Bo wx (wO.heap.size) #[.bool s51,.slice A51 n51 c51] 27/\Bo wx (w.heap.size+1+1) #[.bool false,.slice none 0 0] 27/\Bo wx (w.heap.size+1+1+1) #[.bool false,.slice none 0 0] 27/\Below w.heap.size w wx)
   case first=>
    cases bo
    ·have e54:v-e=lo:=HLO.out
     have e55:v+e=hi:=HHI.out
     rw[e54]at p54;rw[e55]at p55
     first | go_meet | (go_wp2_with fail;go_meet)
     exact⟨_,_,_,_,_,_,_,_,p54,p55,by omega,by omega,X13,X14,XR,XS,HB.out⟩
    ·have HLO2:Hid (-(v+e)=lo):=ie HLO.out
     have HHI2:Hid (-(v-e)=hi):=ie HHI.out
     have xX13:=X13.cell
     go_upto_region 15 with (fail)
     clear xX13;have nX16XR:=XR.lt;have nX16XS:=XS.lt;have nX16X13:=X13.lt;have nX16X14:=X14.lt;generalize hWn:wc.alloc _=wQ at *;obtain⟨X16,BW⟩:=Bo.nw hWn;clear hWn;replace XR:=XR.b BW;replace XS:=XS.b BW;replace X13:=X13.b BW;replace X14:=X14.b BW;replace p54:=p54.b BW;replace p55:=p55.b BW;replace HB:=Hqb HB BW
     clear BW;have xX14:=X14.cell
     go_wp2_with fail
     refine(qNeg p55.wr HLO2.out).mono ?_;rintro ee wR ⟨s56,A56,n56,c56,rfl,p56,k56,B⟩;clear xX14;replace XR:=XR.b B;replace XS:=XS.b B;replace X13:=X13.b B;replace X14:=X14.b B;replace X16:=X16.b B;replace p54:=p54.b B;replace HB:=Hqb HB B;clear B;have xX13:=X13.cell;have zX130:=X13.frozen
     go_upto_region 16 with (fail)
     clear xX13 zX130;generalize hS:(wR.setCell _ _).setCell _ _=wS at *;have SX:=StN.of2 X13 hS;replace XR:=XR.s SX;replace XS:=XS.s SX;replace X14:=X14.s SX;replace X16:=X16.s SX;replace p54:=p54.s SX;replace p56:=p56.s SX;replace HB:=Hqs HB SX (by omega)
     replace X13:=SX.box;clear SX hS;have xX16:=X16.cell
     go_wp2_with fail
     refine(qNeg p54.wr HHI2.out).mono ?_;rintro ee wT ⟨s57,A57,n57,c57,rfl,p57,k57,B⟩;clear xX16;replace XR:=XR.b B;replace XS:=XS.b B;replace X13:=X13.b B;replace X14:=X14.b B;replace p56:=p56.b B;replace HB:=Hqb HB B;clear B;have xX14:=X14.cell;have zX140:=X14.frozen
     go_wp2_with fail
     clear xX14 zX140;generalize hS:(wT.setCell _ _).setCell _ _=wU at *;have SX:=StN.of2 X14 hS;replace XR:=XR.s SX;replace XS:=XS.s SX;replace X13:=X13.s SX;replace p56:=p56.s SX;replace p57:=p57.s SX;replace HB:=Hqs HB SX (by omega);replace X14:=SX.box;clear SX hS
     first | go_meet | (go_wp2_with fail;go_meet)
     exact⟨_,_,_,_,_,_,_,_,p56,p57,by omega,by omega,X13,X14,XR,XS,HB.out⟩
   case rest=>
    clear XR XS X13 X14 p54 p55 HB HLO HHI;obtain⟨s56,A56,n56,c56,s57,A57,n57,c57,p56,p57,k56,k57,X13,X14,XR,XS,hB⟩:=hcut;have HB:=ie hB;clear hB
    go_upto_region 17 with (fail)
    go_wp2_with fail
    refine(jScale).mono ?_;rintro ee wV ⟨s60,A60,n60,c60,rfl,p60,k60,B⟩;replace XR:=XR.b B;replace XS:=XS.b B;replace X13:=X13.b B;replace X14:=X14.b B;replace p56:=p56.b B;replace p57:=p57.b B;replace HB:=Hqb HB B;clear B;have hsz60:=HB.out.size
    go_upto_region 18 with (fail)
    have nX17XR:=XR.lt;have nX17XS:=XS.lt;have nX17X13:=X13.lt;have nX17X14:=X14.lt;generalize hWn:wV.alloc _=wW at *;obtain⟨X17,BW⟩:=Bo.nw hWn;clear hWn;replace XR:=XR.b BW;replace XS:=XS.b BW;replace X13:=X13.b BW;replace X14:=X14.b BW;replace p56:=p56.b BW;replace p57:=p57.b BW;replace p60:=p60.b BW;replace HB:=Hqb HB BW
    clear BW;have xX17:=X17.cell
    go_wp2_with fail
    refine(qNeg p60.wr rfl).mono ?_;rintro ee wX ⟨s61,A61,n61,c61,rfl,p61,k61,B⟩;clear xX17;replace XR:=XR.b B;replace XS:=XS.b B;replace X13:=X13.b B;replace X14:=X14.b B;replace X17:=X17.b B;replace p56:=p56.b B;replace p57:=p57.b B;replace p60:=p60.b B;replace HB:=Hqb HB B;clear B;have hsz61:=HB.out.size
    go_upto_region 19 with (fail)
    have nX18XR:=XR.lt;have nX18XS:=XS.lt;have nX18X13:=X13.lt;have nX18X14:=X14.lt;have nX18X17:=X17.lt;generalize hWn:wX.alloc _=wY at *;obtain⟨X18,BW⟩:=Bo.nw hWn;clear hWn;replace XR:=XR.b BW;replace XS:=XS.b BW;replace X13:=X13.b BW;replace X14:=X14.b BW;replace X17:=X17.b BW;replace p56:=p56.b BW;replace p57:=p57.b BW
    replace p60:=p60.b BW;replace p61:=p61.b BW;replace HB:=Hqb HB BW;clear BW;have ltXR:=XR.lt;have ltXS:=XS.lt;have ltX13:=X13.lt;have ltX14:=X14.lt;have ltX17:=X17.lt;have ltX18:=X18.lt;have hsz:=HB.out.size;refine jk [0,1,2,3,4,5,6,7] [some 87,some 88,some 89,some 90,some 91,some 92,some 93,some 94,none,none] [[],[],[],[0,1,2],[],[],[],[4,5,6],[],[]] 10 2 [Jo.Fact.eq (.agg #[.bool s56,.slice A56 n56 c56]),Jo.Fact.eq (.agg #[.bool s61,.slice A61 n61 c61]),Jo.Fact.eq (.agg #[.bool s60,.slice A60 n60 c60]),Jo.Fact.wn (l) (310000),Jo.Fact.eq (.agg #[.bool s57,.slice A57 n57 c57]),Jo.Fact.eq (.agg #[.bool s61,.slice A61 n61 c61]),Jo.Fact.eq (.agg #[.bool s60,.slice A60 n60 c60]),Jo.Fact.wn (g) (310000),Jo.Fact.any,Jo.Fact.any] ?_ ?_
    ·iterate 3 (refine jm ?_ ?_;rotate_left)
     refine jm ?_ ?_
     ·rintro wj hJ _ rfl _ rfl _ rfl K hK;simp only[Jo.z]at hK|-;go_simp;exact Jo.w1 (jBound (p56.b hJ) (p61.b hJ) (p60.b hJ) (by omega) (by omega) (by omega) HL.out) hK.out
     iterate 3 (refine jm ?_ ?_;rotate_left)
     refine jm ?_ ?_
     ·rintro wj hJ _ rfl _ rfl _ rfl K hK;simp only[Jo.z]at hK|-;go_simp;exact Jo.w1 (jBound (p57.b hJ) (p61.b hJ) (p60.b hJ) (by omega) (by omega) (by omega) HG.out) hK.out
     exact jo
     all_goals (rintro wj hJ;(repeat rintro _ rfl);intro K hK;simp only[Jo.z]at hK|-;have xX13:=(X13.b hJ).cell;have xX18:=(X18.b hJ).cell;have xX17:=(X17.b hJ).cell;have xX14:=(X14.b hJ).cell;go_simp;exact hK.out _ _ rfl (br _ _))
    rintro wZ hJ _ rfl _ rfl _ rfl _ ⟨s62,A62,n62,c62,rfl,p62,k62⟩ _ rfl _ rfl _ rfl _ ⟨s63,A63,n63,c63,rfl,p63,k63⟩ -;simp only[Jo.z];replace XR:=XR.b hJ;replace XS:=XS.b hJ;replace HB:=Hqb HB hJ;clear p56 p57 p60 p61;have xXR:=XR.cell;have zXR0:=XR.frozen
    refine jn 8 fun K hK=>?_
    go_simp;refine hK.out _ _ ?_;clear hK K xXR zXR0;generalize hS:(wZ.setCell _ _).setCell _ _=wa at *;have SX:=StN.of2 XR hS;replace XS:=XS.s SX;replace p62:=p62.s SX;replace p63:=p63.s SX;replace HB:=Hqs HB SX (by omega);replace XR:=SX.box;clear SX hS;have xXS:=XS.cell;have zXS0:=XS.frozen
    refine jn 9 fun K hK=>?_
    go_simp;refine hK.out _ _ ?_;clear hK K xXS zXS0;generalize hS:(wa.setCell _ _).setCell _ _=wb at *;have SX:=StN.of2 XS hS;replace XR:=XR.s SX;replace p62:=p62.s SX;replace p63:=p63.s SX;replace HB:=Hqs HB SX (by omega);replace XS:=SX.box;clear SX hS;refine jd ?_;go_wp2
    exact bq (v:= .tuple #[.agg #[.bool s62,.slice A62 n62 c62],.agg #[.bool s63,.slice A63 n63 c63]]) (by simp[results,Tryz.results144,go_sem,XR.cell,XS.cell]) rfl ⟨s62,A62,n62,c62,s63,A63,n63,c63,rfl,p62,p63,k62,k63,HB.out⟩
theorem bnd_fits (a:Int):(bndI a (-SC) SC).natAbs < 4294967296^7:=by
 have e:(4294967296:Nat)^7=26959946667150639794667015087019630673637144422540572481103610249216:=by decide
 rw[e]
 unfold bndI SC
 split
 ·decide
 ·split
  ·decide
  ·omega
theorem jBetween{w:World}{A:Option Addr}{n c:Nat}{s:Bool}{x:Int}{B:Option Addr}{m d:Nat}{t:Bool}{y:Int}{l g:Int}(h:Wr w s A n c x)(k:Wr w t B m d y)(hn:n<=1000)(hm:m<=1000)(hl:bndI (btL x y) (-SC) SC=l)(hg:bndI (btH x y) (-SC) SC=g):Calls Tryz.prog 144 #[.agg #[.bool s,.slice A n c],.agg #[.bool t,.slice B m d]] w (W2 w 7 l g):=by
 have F1:=bnd_fits (btL x y);have F2:=bnd_fits (btH x y);rw[hl]at F1;rw[hg]at F2
 have hq:(x*2+PLo).fdiv (PLo*2)=qI x:=by
  rw[Int.fdiv_eq_ediv_of_nonneg _ (by decide),Int.mul_comm x 2,Int.mul_comm PLo 2]
  rfl
 refine Calls.mono (?_:Calls _ _ _ w (W2 w 310000 l g)) ?_
 ·unfold btL at hl
  unfold btH at hg
  have hr:(if decide (qI x < 0)=true then x-qI x*PLo else x-qI x*PHi)=rI x:=by
   unfold rI
   by_cases c:qI x < 0
   ·rw[dt c,if_pos rfl,if_pos c]
   ·rw[df c,if_neg (by decide),if_neg c]
  have hu:(if decide (qI x < 0)=true then y-qI x*PHi else y-qI x*PLo)=tI x y:=by
   unfold tI
   by_cases c:qI x < 0
   ·rw[dt c,if_pos rfl,if_pos c]
   ·rw[df c,if_neg (by decide),if_neg c]
  refine jbtw_core h k hn hm hq rfl rfl hr hu rfl rfl rfl rfl ?_ ?_
  ·by_cases ho:qI x%2=0
   ·rw[if_pos ho]at hl;rw[df (by omega),if_neg (by decide)];exact hl
   ·rw[if_neg ho]at hl;rw[dt (by omega),if_pos rfl];exact hl
  ·by_cases ho:qI x%2=0
   ·rw[if_pos ho]at hg;rw[df (by omega),if_neg (by decide)];exact hg
   ·rw[if_neg ho]at hg;rw[dt (by omega),if_pos rfl];exact hg
 ·rintro e w' ⟨s1,A1,n1,c1,s2,A2,n2,c2,he,p1,p2,k1,k2,B⟩;exact⟨s1,A1,n1,c1,s2,A2,n2,c2,he,p1,p2,p1.fits F1,p2.fits F2,B⟩
end Go.Proofs.YtomikokonmikgaaGreatDoor
namespace Go.Proofs.YtomikokonmikgaaGreatDoor
open Go Go.RowKit
set_option linter.unusedVariables false
def fixB (x:Int):Bool:=decide (-opl 1073741824 < x/\x < opl 1073741824)
def fixI (x:Int):Int:=if fixB x=true then vr x*SC/2^KK else 0
theorem flr_uniq{a b q:Int}(hb:0 < b)(h1:q*b<=a)(h2:a < (q+1)*b):a/b=q:=
 Int.le_antisymm (Int.lt_add_one_iff.1 (Int.ediv_lt_of_lt_mul hb h2)) (Int.le_ediv_of_mul_le hb h1)
theorem sc_pow:SC=2^192:=by decide
theorem flr_moved{N F:Int}(nf:mk N F=(N,F))(hN:N.natAbs < 2^128)(h1: -2900000<=F)(h2:F<=2900000):
  flr (mv N F 192).1 (mv N F 192).2=N*2^(F+KK).toNat*SC/2^KK:=by
 have e:mv N F 192=mk N (F+192):=by
  unfold mv
  rw[if_neg (by omega),nf]
 rw[e];obtain⟨a,b⟩:=flr_vl (mk_nf N (F+192));have v:=mk_vl hN (e:=F+192) (by omega) (by omega)
 rw[v,show (F+192+(KK:Int)).toNat=(F+KK).toNat+192 by rw[KK_eq];omega,Int.pow_add,<-Int.mul_assoc,<-sc_pow]at a b
 exact(flr_uniq (p2pos KK) a b).symm
theorem fixI_yes{x:Int}(h:fixB x=true):fixI x=vr x*SC/2^KK:=if_pos h
theorem fixI_no{x:Int}(h:fixB x=false):fixI x=0:=if_neg (by rw[h];decide)
theorem t30:opl 1073741824 < 19342822337206103650074625/\0 < opl 1073741824:=by
 have a:=opl_fin (a:=1073741824) (by decide) (by decide);have b:=opl_vr (n:=1073741824) (by decide) (by decide);refine⟨a.2,?_⟩
 rcases Int.lt_or_le 0 (opl 1073741824)with h | h
 ·exact h
 ·exfalso
  have c:=vr_le h
  rw[b,show vr 0=0 from rfl]at c
  have:=p2pos KK
  omega
theorem fixB_fin{x:Int}(h:fixB x=true): -19342822337206103650074625 < x/\x < 19342822337206103650074625:=by
 have a:=of_decide_eq_true h;have b:=t30
 omega
theorem fix_far{x N F:Int}(hv:vr x=N*2^(F+KK).toNat)(hN:N.natAbs < 2^64)(h1: -2900000<=F)(hF:F < -3000):vr x*SC/2^KK=if N < 0 then -1 else 0:=by
 have hp:=p2pos (F+KK).toNat
 have k:(2:Int)^KK=2^(F+KK).toNat*2^(-F).toNat:=by rw[<-Int.pow_add];congr 1;rw[KK_eq];omega
 obtain⟨m,hm⟩:∃m,(-F).toNat=256+m:=⟨(-F).toNat-256,by omega⟩
 have k2:(2:Int)^(-F).toNat=2^256*2^m:=by rw[hm,Int.pow_add]
 have k3:=p2pos m
 have n1: -2^64 < N:=by omega
 have n2:N < 2^64:=by omega
 have s1:N*SC < 2^(-F).toNat/\ -2^(-F).toNat<=N*SC:=by
  rw[k2];generalize (2:Int)^m=u at *
  constructor
  ·have:(2:Int)^256*1<=2^256*u:=Int.mul_le_mul_of_nonneg_left (by omega) (by decide)
   rw[show (2:Int)^64=18446744073709551616 from rfl]at n2
   have c:N*SC < 2^256:=by
    rw[show (2:Int)^256=18446744073709551616*SC by decide]
    exact Int.mul_lt_mul_of_pos_right n2 (by decide)
   omega
  ·have:(2:Int)^256*1<=2^256*u:=Int.mul_le_mul_of_nonneg_left (by omega) (by decide)
   rw[show (2:Int)^64=18446744073709551616 from rfl]at n1
   have c: -(2^256)<=N*SC:=by
    rw[show -(2:Int)^256= -18446744073709551616*SC by decide]
    exact Int.mul_le_mul_of_nonneg_right (Int.le_of_lt n1) (by decide)
   omega
 have e:vr x*SC=2^(F+KK).toNat*(N*SC):=by
  rw[hv,Int.mul_comm N,Int.mul_assoc]
 have hq:=p2pos (-F).toNat;rw[e,k];generalize (2:Int)^(F+KK).toNat=u at *;generalize (2:Int)^(-F).toNat=t at *
 by_cases c:N < 0
 ·rw[if_pos c]
  have c2:N*SC < 0:=Int.mul_neg_of_neg_of_pos c (by decide)
  refine flr_uniq (Int.mul_pos hp hq) ?_ ?_
  ·rw[show -1*(u*t)=u* -t by rw[Int.mul_neg,Int.neg_mul,Int.one_mul]]
   exact Int.mul_le_mul_of_nonneg_left s1.2 (by omega)
  ·rw[show (-1+1:Int)*(u*t)=0 by rw[show (-1+1:Int)=0 from rfl,Int.zero_mul]]
   exact Int.mul_neg_of_pos_of_neg hp c2
 ·rw[if_neg c]
  have c2:0<=N*SC:=Int.mul_nonneg (by omega) (by decide)
  refine flr_uniq (Int.mul_pos hp hq) ?_ ?_
  ·rw[Int.zero_mul];exact Int.mul_nonneg (by omega) c2
  ·rw[Int.zero_add,Int.one_mul];exact Int.mul_lt_mul_of_pos_left s1.1 hp
theorem fix_holds{x:Int}(h:fixB x=true):fixI x*2^KK<=vr x*SC/\vr x*SC < (fixI x+1)*2^KK:=by
 rw[fixI_yes h];have hp:=p2pos KK;exact⟨Int.ediv_mul_le _ (by omega),Int.lt_ediv_add_one_mul_self _ hp⟩
theorem fix_exq{s:Bool}{M E x:Int}(q:Fq 1 s M E x):∃N F,exb 1 s M E=true/\(exq 1 s M E).1=N/\(exq 1 s M E).2=F/\mk N F=(N,F)/\vr x=N*2^(F+KK).toNat/\N.natAbs < 2^64/\ -2900000<=F/\F<=2900000/\(N < 0↔s=true):=by
 obtain⟨h1,h2,h3,h4,fx⟩:9223372036854775808<=M/\M < 18446744073709551616/\ -1048576<=E/\E<=1048576/\(-19342822337206103650074625 < x/\x < 19342822337206103650074625):=by
  rcases q.cases with⟨c,_⟩ | ⟨_,h1,h2,h3,h4,⟨_,h5⟩ | ⟨_,h5⟩⟩ | ⟨c,_⟩
  ·omega
  ·exact⟨h1,h2,h3,h4,by omega,by omega⟩
  ·exact⟨h1,h2,h3,h4,by omega,by omega⟩
  ·omega
 obtain⟨hb,hv⟩:=exq_vl q fx.1 fx.2
 have he:exq 1 s M E=mk (sgi s M) E:=if_pos hb
 have hz:sgi s M≠0/\(sgi s M).natAbs=M.natAbs/\(sgi s M < 0↔s=true):=by
  cases s
  ·rw[show sgi false M=M from if_neg (by decide)]
   exact⟨by omega,rfl,by constructor <;> intro h <;> first | omega | cases h⟩
  ·rw[show sgi true M= -M from if_pos rfl]
   exact⟨by omega,by omega,by constructor <;> intro h <;> first | omega | rfl⟩
 obtain⟨z0,z1,z2⟩:=hz;rw[he]at hv;rw[he];generalize sgi s M=z at *;obtain⟨e1,_⟩:=v2_spec z.natAbs (by omega)
 have hm:z.natAbs < 2^64:=by omega
 have v64:v2 z.natAbs < 64:=by
  rcases Nat.lt_or_ge (v2 z.natAbs) 64 with c | c
  ·exact c
  ·exfalso
   have a:2^64<=2^v2 z.natAbs:=Nat.pow_le_pow_right (by decide) c
   have b:0 < z.natAbs/2^v2 z.natAbs:=by
    rcases Nat.eq_zero_or_pos (z.natAbs/2^v2 z.natAbs)with d | d
    ·rw[d,Nat.zero_mul]at e1
     omega
    ·exact d
   have d:=Nat.mul_le_mul b (Nat.le_refl (2^v2 z.natAbs))
   omega
 obtain⟨k1,k2,k3,_,_⟩:=mk_in (z:=z) (e:=E) z0 (by omega) (by omega);have nf:=mk_nf z E;refine⟨_,_,hb,rfl,rfl,nf,hv.symm,?_,by omega,by omega,k3.trans z2⟩
 rw[k2];exact Nat.lt_of_le_of_lt (Nat.div_le_self _ _) hm
theorem fq_abs{K:Int}{s:Bool}{M E x:Int}(q:Fq K s M E x)(hK:K≠0):Fq K false M E (if s=true then -x else x):=by
 cases s
 ·exact q
 ·exact rk_neg q hK
theorem fixB_abs{s:Bool}{x c:Int}(hs:s=true↔x < 0)(h:cmpI (if s=true then -x else x) (opl 1073741824)=c):decide (0<=c)=!(fixB x):=by
 have t:=t30
 unfold fixB
 rw[<-h]
 cases s
 ·have hx:¬x < 0:=fun e=>by cases hs.2 e
  rw[if_neg (by decide)]
  by_cases g:x < opl 1073741824
  ·rw[cmpI_lt g,dt (show -opl 1073741824 < x/\x < opl 1073741824 from ⟨by omega,g⟩)]
   rfl
  ·rw[df (show ¬(-opl 1073741824 < x/\x < opl 1073741824)from fun e=>g e.2)]
   rcases cmpI_tri x (opl 1073741824)with ⟨a,b⟩ | ⟨a,b⟩ | ⟨a,b⟩ <;> rw[b] <;> first | rfl | omega
 ·have hx:x < 0:=hs.1 rfl
  rw[if_pos rfl]
  by_cases g: -x < opl 1073741824
  ·rw[cmpI_lt g,dt (show -opl 1073741824 < x/\x < opl 1073741824 from ⟨by omega,by omega⟩)]
   rfl
  ·rw[df (show ¬(-opl 1073741824 < x/\x < opl 1073741824)from fun e=>g (by omega))]
   rcases cmpI_tri (-x) (opl 1073741824)with ⟨a,b⟩ | ⟨a,b⟩ | ⟨a,b⟩ <;> rw[b] <;> first | rfl | omega
theorem fix_zero:fixB 0=true/\fixI 0=0:=by
 have t:=t30
 have h:fixB 0=true:=dt ⟨by omega,by omega⟩
 refine⟨h,?_⟩
 rw[fixI_yes h,show vr 0=0 from rfl,Int.zero_mul,Int.zero_ediv]
theorem fix_inf{s:Bool}{M E x:Int}(q:Fq 2 s M E x):fixB x=false/\fixI x=0/\exb 2 s M E=false:=by
 have t:=t30
 have h:fixB x=false:=by
  refine df ?_
  rcases q.cases with⟨c,_⟩ | ⟨c,_⟩ | ⟨_,_,_,⟨_,h5⟩ | ⟨_,h5⟩⟩
  ·omega
  ·omega
  ·omega
  ·omega
 exact⟨h,fixI_no h,by unfold exb;simp⟩
theorem fq_sign{K:Int}{s:Bool}{M E x:Int}(q:Fq K s M E x):s=true↔x < 0:=by
 rcases q.three with⟨a,b⟩ | ⟨a,rfl,b⟩ | ⟨a,rfl,b⟩
 ·rcases q.cases with⟨_,rfl,_⟩ | ⟨c,_⟩ | ⟨c,_⟩
  ·constructor
   ·intro h;cases h
   ·intro h;omega
  ·omega
  ·omega
 ·constructor
  ·intro h;cases h
  ·intro h;omega
 ·exact⟨fun _=>b,fun _=>rfl⟩
theorem fq_mn{K:Int}{s:Bool}{M E x:Int}(q:Fq K s M E x):0<=M:=by
 rcases q.cases with⟨_,_,rfl,_⟩ | ⟨_,h1,_⟩ | ⟨_,rfl,_⟩ <;> omega
theorem fq_kind{K:Int}{s:Bool}{M E x:Int}(q:Fq K s M E x):(K=0/\x=0)\/K=1\/K=2:=by
 rcases q.cases with⟨a,_,_,_,b⟩ | ⟨a,_⟩ | ⟨a,_⟩
 ·exact .inl ⟨a,b⟩
 ·exact .inr (.inl a)
 ·exact .inr (.inr a)
theorem fix_fits{x:Int}(h:fixB x=true):(fixI x).natAbs < 4294967296^10:=by
 obtain⟨a,b⟩:=fix_holds h;have hb:=of_decide_eq_true h;have v1:=vr_lt hb.2;have v2:=vr_lt hb.1;rw[vr_neg,opl_vr (by decide) (by decide)]at v2;rw[opl_vr (by decide) (by decide)]at v1;have hp:=p2pos KK
 have d1:=Int.mul_lt_mul_of_pos_right v1 (show (0:Int) < SC by decide)
 have d2:=Int.mul_lt_mul_of_pos_right v2 (show (0:Int) < SC by decide)
 have e1:1073741824*2^KK*SC=1073741824*SC*2^KK:=by rw[Int.mul_assoc,Int.mul_comm (2^KK) SC,<-Int.mul_assoc]
 have e2: -(1073741824*2^KK)*SC= -(1073741824*SC)*2^KK:=by rw[Int.neg_mul,e1,Int.neg_mul]
 rw[e1]at d1;rw[e2]at d2
 have f1:fixI x < 1073741824*SC:=Int.lt_of_mul_lt_mul_right (Int.lt_of_le_of_lt a d1) (by omega)
 have f2: -(1073741824*SC) < fixI x+1:=Int.lt_of_mul_lt_mul_right (Int.lt_trans d2 b) (by omega)
 have g:(fixI x).natAbs < 13479973333575319897333507543509815336818572211270286240551805124608:=by
  generalize fixI x=z at *;clear a b d1 d2 e1 e2 v1 v2
  unfold SC at f1 f2
  omega
 exact Nat.lt_of_lt_of_le g (by decide)
end Go.Proofs.YtomikokonmikgaaGreatDoor
namespace Go.Proofs.YtomikokonmikgaaGreatDoor
set_option maxHeartbeats 8000000
open Go.RowKit
set_option linter.unusedVariables false
set_option linter.unusedSimpArgs false
set_option maxRecDepth 100000
def WB (w:World)(K:Nat)(z:Int)(t:Bool)(e:Ending)(w':World):Prop:=∃s A n c,e= .returned (.tuple #[.agg #[.bool s,.slice A n c],.bool t])/\Wn w' s A n c z/\n<=K/\Below w.heap.size w w'
theorem jFix{w:World}{D M E:Int}{s:Bool}{x z:Int}{t:Bool}(hM:LQ M)(hx:rk D s M E=x)(hz:fixI x=z)(ht:fixB x=t):Calls Tryz.prog 141 #[VQ D s M E] w (WB w 140000 z t):=by
 delta VQ
 have HX:=ie hx;have HZ:=ie hz;have HTT:=ie ht;clear hx hz ht
 go_enter Tryz.func141,Tryz.ntmps141
 go_upto_region 1 with (fail)
 generalize hW1:(w.alloc _).alloc _=w1 at *;obtain⟨X1,XR,HB⟩:=Bo.en2 hW1;clear hW1;have xX1:=X1.cell
 go_wp2_with fail
 refine(gFair hM HX.out).mono ?_;rintro ee w2 ⟨K1,s1,M1,E1,rfl,q1,B⟩;clear xX1;replace XR:=XR.b B;replace HB:=Hqb HB B;clear B
 go_upto_region 2 with (fail)
 have nX4XR:=XR.lt;generalize hWn:w2.alloc _=w3 at *;obtain⟨X4,BW⟩:=Bo.nw hWn;clear hWn;replace XR:=XR.b BW;replace HB:=Hqb HB BW;clear BW;clear HX hM;clear X1
 rcases fq_kind q1 with⟨rfl,rfl⟩ | rfl | rfl
 ·obtain⟨fb,fi⟩:=fix_zero
  obtain rfl:true=t:=by rw[<-HTT.out,fb]
  obtain rfl:0=z:=by rw[<-HZ.out,fi]
  obtain⟨_,rfl,rfl,rfl⟩:=q1.uniq Fq.nought
  have hb:exb 0 false 0 0=true:=by decide
  obtain⟨N,hN⟩:∃N,(exq 0 false 0 0).1=N:=⟨_,rfl⟩;obtain⟨G,hG⟩:∃N,(exq 0 false 0 0).2=N:=⟨_,rfl⟩
  have m0:(0:Int)<=0:=by decide
  obtain⟨σ,hσ⟩:∃σ,cmpI (if false=true then -0 else (0:Int)) (opl 1073741824)=σ:=⟨_,rfl⟩;have hc0:=fixB_abs (fq_sign q1) hσ;rw[fb]at hc0
  have HC0:Hid (decide (0<=σ)=false):=ie hc0
  have HC:Hid (cmpI 0 (opl 1073741824)=σ):=ie hσ
  clear HTT HZ fb fi hσ hc0;have xX4:=X4.cell
  go_wp2_with fail
  refine(yExact0 m0 (by decide) hb hN hG).mono ?_;rintro ee w4 ⟨s5,A5,n5,c5,rfl,p5,k5,B⟩;clear xX4;replace XR:=XR.b B;replace X4:=X4.b B;replace HB:=Hqb HB B;clear B;clear hN hG hb m0 p5
  go_upto_region 3 with (fail)
  have nX5XR:=XR.lt;have nX5X4:=X4.lt;generalize hWn:w4.alloc _=w5 at *;obtain⟨X5,BW⟩:=Bo.nw hWn;clear hWn;replace XR:=XR.b BW;replace X4:=X4.b BW;replace HB:=Hqb HB BW;clear BW;have xX4:=X4.cell
  go_upto_region 6 with (fail)
  clear xX4;have nX7XR:=XR.lt;have nX7X4:=X4.lt;have nX7X5:=X5.lt;generalize hWn:w5.alloc _=w6 at *;obtain⟨X7,BW⟩:=Bo.nw hWn;clear hWn;replace XR:=XR.b BW;replace X4:=X4.b BW;replace X5:=X5.b BW;replace HB:=Hqb HB BW;clear BW;have xX7:=X7.cell;have zX70:=X7.frozen
  go_upto_region 7 with (fail)
  clear xX7 zX70
  have SX:StN w6 (World.setCell w6 ⟨w5.heap.size,1,none⟩ (.bool false)) _ _ #[.int .i64 0,.bool false,.int .u64 0,.int .i64 0] _:=StN.at4 X7 1 (.bool false)
  replace XR:=XR.s SX;replace X4:=X4.s SX;replace X5:=X5.s SX;replace HB:=Hqs HB SX (by omega);replace X7:=SX.box;clear SX;generalize World.setCell w6 ⟨w5.heap.size,1,none⟩ (.bool false)=w7 at *;refine jk [0,1,2,3] [some 20,some 21,some 22,some 23] [[],[],[0,1],[2]] 4 0 [Jo.q4 0 false 0 0,Jo.Fact.num (opl 1073741824),Jo.qi σ,Jo.qb false] ?_ ?_
  ·refine jm ?_ ?_
   ·rintro wj hJ K hK;simp only[Jo.z]at hK|-;have xX7:=(X7.b hJ).cell;go_simp;exact hK.out _ _ rfl (br _ _)
   refine jm ?_ ?_
   ·rintro wj hJ K hK;simp only[Jo.z]at hK|-;go_simp;exact Jo.n1 (yOf _ (by decide) (by decide) rfl) hK.out
   refine jm ?_ ?_
   ·rintro wj hJ _ rfl _ ⟨K9,s9,M9,E9,rfl,q9⟩ K hK;simp only[Jo.z]at hK|-;go_simp;refine(yCmp (z:=σ) (by decide) q9.top (by rw[Fq.nought.rk,q9.rk];exact HC.out)).mono ?_;rintro ee wk ⟨rfl,B⟩;exact hK.out _ _ rfl B
   refine jm ?_ ?_
   ·rintro wj hJ _ rfl K hK;simp only[Jo.z]at hK|-;have hc0:=HC0.out;go_simp
    exact hK.out _ _ (by first | rfl | (show Value.bool _=Value.bool _;rw[hc0]) | simp_all) (br _ _)
   exact jo
  rintro w8 hJ _ rfl _ ⟨K9,s9,M9,E9,rfl,_⟩ _ rfl _ rfl -;simp only[Jo.z];replace XR:=XR.b hJ;replace X4:=X4.b hJ;replace X5:=X5.b hJ;replace X7:=X7.b hJ;replace HB:=Hqb HB hJ;refine jd ?_;clear HC HC0;have xX4:=X4.cell;have xXR:=XR.cell;have zXR0:=XR.frozen;go_wp2;clear xX4 xXR zXR0
  have SX:=StN.t2 XR false none 0 0;exact bq (v:= .tuple #[.agg #[.bool false,.slice none 0 0],.bool true]) (by simp[results,Tryz.results141,go_sem,SX.box.cell]) rfl ⟨_,_,_,_,rfl,⟨Nm.zero,rfl⟩,Nat.zero_le _,(SX.below HB.out (by omega))⟩
 ·obtain⟨N,G,hb,hN,hG,nf,hv,n64,g1,g2,sg0⟩:=fix_exq q1;have m0:=fq_mn q1;have qa:=fq_abs q1 (by decide);obtain⟨a,ha⟩:∃a,(if s1=true then -x else x)=a:=⟨_,rfl⟩;obtain⟨σ,hσ⟩:∃σ,cmpI (if s1=true then -x else x) (opl 1073741824)=σ:=⟨_,rfl⟩;have hc0:=fixB_abs (fq_sign q1) hσ;rw[HTT.out]at hc0;rw[ha]at hσ qa
  have HC:Hid (cmpI a (opl 1073741824)=σ):=ie hσ
  clear hσ ha;have xX4:=X4.cell
  go_wp2_with fail
  refine(yExact0 m0 q1.top hb hN hG).mono ?_;rintro ee w4 ⟨s5,A5,n5,c5,rfl,p5,k5,B⟩;clear xX4;replace XR:=XR.b B;replace X4:=X4.b B;replace HB:=Hqb HB B;clear B;clear hN hG hb m0
  go_upto_region 3 with (fail)
  have nX5XR:=XR.lt;have nX5X4:=X4.lt;generalize hWn:w4.alloc _=w5 at *;obtain⟨X5,BW⟩:=Bo.nw hWn;clear hWn;replace XR:=XR.b BW;replace X4:=X4.b BW;replace p5:=p5.b BW;replace HB:=Hqb HB BW;clear BW;have xX4:=X4.cell
  go_upto_region 6 with (fail)
  clear xX4;have nX7XR:=XR.lt;have nX7X4:=X4.lt;have nX7X5:=X5.lt;generalize hWn:w5.alloc _=w6 at *;obtain⟨X7,BW⟩:=Bo.nw hWn;clear hWn;replace XR:=XR.b BW;replace X4:=X4.b BW;replace X5:=X5.b BW;replace p5:=p5.b BW;replace HB:=Hqb HB BW;clear BW;have xX7:=X7.cell;have zX70:=X7.frozen
  go_upto_region 7 with (fail)
  clear xX7 zX70
  have SX:StN w6 (World.setCell w6 ⟨w5.heap.size,1,none⟩ (.bool false)) _ _ #[.int .i64 1,.bool false,.int .u64 M1,.int .i64 E1] _:=StN.at4 X7 1 (.bool false)
  replace XR:=XR.s SX;replace X4:=X4.s SX;replace X5:=X5.s SX;replace p5:=p5.s SX;replace HB:=Hqs HB SX (by omega);replace X7:=SX.box;clear SX;generalize World.setCell w6 ⟨w5.heap.size,1,none⟩ (.bool false)=w7 at *
  cases t
  ·have HC0:Hid (decide (0<=σ)=true):=ie hc0
   obtain rfl:0=z:=by rw[<-HZ.out,fixI_no HTT.out]
   clear hc0 HZ HTT hv nf n64 sg0 p5;refine jk [0,1,2,3] [some 20,some 21,some 22,some 23] [[],[],[0,1],[2]] 4 0 [Jo.q4 1 false M1 E1,Jo.Fact.num (opl 1073741824),Jo.qi σ,Jo.qb true] ?_ ?_
   ·refine jm ?_ ?_
    ·rintro wj hJ K hK;simp only[Jo.z]at hK|-;have xX7:=(X7.b hJ).cell;go_simp;exact hK.out _ _ rfl (br _ _)
    refine jm ?_ ?_
    ·rintro wj hJ K hK;simp only[Jo.z]at hK|-;go_simp;exact Jo.n1 (yOf _ (by decide) (by decide) rfl) hK.out
    refine jm ?_ ?_
    ·rintro wj hJ _ rfl _ ⟨K9,s9,M9,E9,rfl,q9⟩ K hK;simp only[Jo.z]at hK|-;go_simp;refine(yCmp (z:=σ) qa.top q9.top (by rw[qa.rk,q9.rk];exact HC.out)).mono ?_;rintro ee wk ⟨rfl,B⟩;exact hK.out _ _ rfl B
    refine jm ?_ ?_
    ·rintro wj hJ _ rfl K hK;simp only[Jo.z]at hK|-;have hc0:=HC0.out;go_simp
     exact hK.out _ _ (by first | rfl | (show Value.bool _=Value.bool _;rw[hc0]) | simp_all) (br _ _)
    exact jo
   rintro w8 hJ _ rfl _ ⟨K9,s9,M9,E9,rfl,_⟩ _ rfl _ rfl -;simp only[Jo.z];replace XR:=XR.b hJ;replace X4:=X4.b hJ;replace X5:=X5.b hJ;replace X7:=X7.b hJ;replace HB:=Hqb HB hJ;refine jd ?_;clear HC HC0;have xXR:=XR.cell;have zXR0:=XR.frozen;go_wp2;clear xXR zXR0;have SX:=StN.t2 XR false none 0 0
   exact bq (v:= .tuple #[.agg #[.bool false,.slice none 0 0],.bool false]) (by simp[results,Tryz.results141,go_sem,SX.box.cell]) rfl ⟨_,_,_,_,rfl,⟨Nm.zero,rfl⟩,Nat.zero_le _,(SX.below HB.out (by omega))⟩
  ·have HC0:Hid (decide (0<=σ)=false):=ie hc0
   have hzz:=HZ.out;rw[fixI_yes HTT.out]at hzz;clear hc0 HZ HTT;refine jk [0,1,2,3] [some 20,some 21,some 22,some 23] [[],[],[0,1],[2]] 4 0 [Jo.q4 1 false M1 E1,Jo.Fact.num (opl 1073741824),Jo.qi σ,Jo.qb false] ?_ ?_
   ·refine jm ?_ ?_
    ·rintro wj hJ K hK;simp only[Jo.z]at hK|-;have xX7:=(X7.b hJ).cell;go_simp;exact hK.out _ _ rfl (br _ _)
    refine jm ?_ ?_
    ·rintro wj hJ K hK;simp only[Jo.z]at hK|-;go_simp;exact Jo.n1 (yOf _ (by decide) (by decide) rfl) hK.out
    refine jm ?_ ?_
    ·rintro wj hJ _ rfl _ ⟨K9,s9,M9,E9,rfl,q9⟩ K hK;simp only[Jo.z]at hK|-;go_simp;refine(yCmp (z:=σ) qa.top q9.top (by rw[qa.rk,q9.rk];exact HC.out)).mono ?_;rintro ee wk ⟨rfl,B⟩;exact hK.out _ _ rfl B
    refine jm ?_ ?_
    ·rintro wj hJ _ rfl K hK;simp only[Jo.z]at hK|-;have hc0:=HC0.out;go_simp
     exact hK.out _ _ (by first | rfl | (show Value.bool _=Value.bool _;rw[hc0]) | simp_all) (br _ _)
    exact jo
   rintro w8 hJ _ rfl _ ⟨K9,s9,M9,E9,rfl,_⟩ _ rfl _ rfl -;simp only[Jo.z];replace XR:=XR.b hJ;replace X4:=X4.b hJ;replace X5:=X5.b hJ;replace p5:=p5.b hJ;replace HB:=Hqb HB hJ;refine jd ?_;clear HC HC0
   by_cases hf:G < -3000
   ·rw[fix_far hv n64 g1 hf]at hzz
    have tf:decide (G < -3000)=true:=dt hf
    clear hf hv nf n64 p5
    by_cases hs:s1=true
    ·subst hs;rw[if_pos (sg0.2 rfl)]at hzz
     obtain rfl: -1=z:=hzz
     have xX4:=X4.cell;have xX5:=X5.cell
     go_wp2_with fail
     refine(qFrom (-1) _ (by decide) (by decide)).mono ?_;rintro ee wA ⟨s20,A20,n20,c20,rfl,p20,k20,B⟩;clear xX4 xX5;replace XR:=XR.b B;replace X4:=X4.b B;replace X5:=X5.b B;replace HB:=Hqb HB B;clear B;clear tf;have xXR:=XR.cell;have zXR0:=XR.frozen;go_wp2;clear xXR zXR0;have SX:=StN.t2 XR s20 A20 n20 c20
     replace p20:=p20.s SX;exact bq (v:= .tuple #[.agg #[.bool s20,.slice A20 n20 c20],.bool true]) (by simp[results,Tryz.results141,go_sem,SX.box.cell]) rfl ⟨_,_,_,_,rfl,p20,by omega,(SX.below HB.out (by omega))⟩
    ·have hs2:s1=false:=by simpa using hs
     subst hs2
     rw[if_neg (fun c=>by cases sg0.1 c)]at hzz
     obtain rfl:0=z:=hzz
     have xX4:=X4.cell;have xX5:=X5.cell;have xXR:=XR.cell;have zXR0:=XR.frozen;go_wp2;clear xX4 xX5 xXR zXR0;have SX:=StN.t2 XR false none 0 0;exact bq (v:= .tuple #[.agg #[.bool false,.slice none 0 0],.bool true]) (by simp[results,Tryz.results141,go_sem,SX.box.cell]) rfl ⟨_,_,_,_,rfl,⟨Nm.zero,rfl⟩,Nat.zero_le _,(SX.below HB.out (by omega))⟩
   ·have tf:decide (G < -3000)=false:=df hf
    have n64b:N.natAbs < 2^128:=Nat.lt_trans n64 (by decide)
    have hfl:=flr_moved nf n64b g1 g2;rw[<-hv,hzz]at hfl;obtain⟨P,hP⟩:∃P,(mv N G 192).1=P:=⟨_,rfl⟩;obtain⟨Q,hQ⟩:∃P,(mv N G 192).2=P:=⟨_,rfl⟩
    have hnf:mk P Q=(P,Q):=by
     have e:Nf (mv N G 192):=by
      unfold mv
      split
      ·exact mk_zero 0
      ·exact mk_nf _ _
     rw[<-hP,<-hQ];exact e
    rw[hP,hQ]at hfl
    have HFL:Hid (flr (mk P Q).1 (mk P Q).2=z):=ie (by rw[hnf];exact hfl)
    have HPP:=ie hP;have HQQ:=ie hQ;clear hfl hP hQ hnf hzz hv nf n64 n64b sg0 hf;have xX4:=X4.cell;have xX5:=X5.cell
    go_wp2_with fail
    refine(q3Move p5.wr (by omega) HPP.out HQQ.out).mono ?_;rintro ee wA ⟨s6,A6,n6,c6,rfl,p6,k6,B⟩;clear xX4 xX5;replace XR:=XR.b B;replace X4:=X4.b B;replace X5:=X5.b B;replace p5:=p5.b B;replace HB:=Hqb HB B;clear B;clear p5 tf
    go_wp2_with fail
    refine(q3Floor p6.wr (by omega) HFL.out).mono ?_;rintro ee wB ⟨s20,A20,n20,c20,rfl,p20,k20,B⟩;replace XR:=XR.b B;replace X4:=X4.b B;replace X5:=X5.b B;replace HB:=Hqb HB B;clear B;clear p6;have xXR:=XR.cell;have zXR0:=XR.frozen;go_wp2;clear xXR zXR0;have SX:=StN.t2 XR s20 A20 n20 c20;replace p20:=p20.s SX
    exact bq (v:= .tuple #[.agg #[.bool s20,.slice A20 n20 c20],.bool true]) (by simp[results,Tryz.results141,go_sem,SX.box.cell]) rfl ⟨_,_,_,_,rfl,p20,by omega,(SX.below HB.out (by omega))⟩
 ·obtain⟨fb,fi,hb⟩:=fix_inf q1
  obtain rfl:false=t:=by rw[<-HTT.out,fb]
  obtain rfl:0=z:=by rw[<-HZ.out,fi]
  obtain⟨N,hN⟩:∃N,(exq 2 s1 M1 E1).1=N:=⟨_,rfl⟩;obtain⟨G,hG⟩:∃N,(exq 2 s1 M1 E1).2=N:=⟨_,rfl⟩;have m0:=fq_mn q1;have xX4:=X4.cell
  go_wp2_with fail
  refine(yExact0 m0 q1.top hb hN hG).mono ?_;rintro ee w4 ⟨s5,A5,n5,c5,rfl,p5,k5,B⟩;clear xX4;replace XR:=XR.b B;replace HB:=Hqb HB B;clear B;clear hN hG hb HZ HTT fb fi m0 p5
  go_upto_region 3 with (fail)
  have nX5XR:=XR.lt;generalize hWn:w4.alloc _=w5 at *;obtain⟨X5,BW⟩:=Bo.nw hWn;clear hWn;replace XR:=XR.b BW;replace HB:=Hqb HB BW;clear BW;have xXR:=XR.cell;have zXR0:=XR.frozen;go_wp2;clear xXR zXR0;have SX:=StN.t2 XR false none 0 0;exact bq (v:= .tuple #[.agg #[.bool false,.slice none 0 0],.bool false]) (by simp[results,Tryz.results141,go_sem,SX.box.cell]) rfl ⟨_,_,_,_,rfl,⟨Nm.zero,rfl⟩,Nat.zero_le _,(SX.below HB.out (by omega))⟩
def ofX (cos:Bool)(g:Int):Int:=if cos then g+PLo/2 else g
def ofY (cos:Bool)(g:Int):Int:=if cos then g+1+(PHi+1) /2 else g+1
def ofL (cos:Bool)(g:Int):Int:=bndI (btL (ofX cos g) (ofY cos g)) (-SC) SC
def ofH (cos:Bool)(g:Int):Int:=bndI (btH (ofX cos g) (ofY cos g)) (-SC) SC
def Sv (cos:Bool)(x:Int)(z:Sp):Prop:=(fixB x=false/\unitI=z)\/(fixB x=true/\∃r u,Rq false (ofL cos (fixI x)) SC r/\Rq true (ofH cos (fixI x)) SC u/\mkI r u=z)
theorem jof_no{w:World}{D M E:Int}{s:Bool}{x:Int}{cos:Bool}(hM:LQ M)(hx:rk D s M E=x)(hf:fixB x=false):Calls Tryz.prog 72 #[VQ D s M E,.bool cos] w (PV w unitI):=by
 delta VQ
 have HX:=ie hx;have HF:=ie hf;clear hx hf
 go_enter Tryz.func72,Tryz.ntmps72
 go_upto_region 1 with (fail)
 generalize hW1:(w.alloc _).alloc _=w1 at *;obtain⟨X2,XR,HB⟩:=Bo.en2 hW1;clear hW1;have xX2:=X2.cell
 go_wp2_with fail
 refine(jFix hM HX.out rfl HF.out).mono ?_;rintro ee w2 ⟨s5,A5,n5,c5,rfl,p5,k5,B⟩;clear xX2;replace XR:=XR.b B;replace HB:=Hqb HB B;clear B;have hsz5:=HB.out.size
 go_upto_region 2 with (fail)
 have nX5XR:=XR.lt;generalize hWn:w2.alloc _=w3 at *;obtain⟨X5,BW⟩:=Bo.nw hWn;clear hWn;replace XR:=XR.b BW;replace HB:=Hqb HB BW;clear BW;clear p5
 go_upto_region 3 with (fail)
 go_wp2_with fail
 refine(juUnit).mono ?_;rintro ee w4 ⟨e9,K9,s9,M9,E9,K9b,s9b,M9b,E9b,rfl,v9,B⟩;replace XR:=XR.b B;replace HB:=Hqb HB B;clear B;have xXR:=XR.cell;have zXR0:=XR.frozen;go_wp2;clear xXR zXR0;have SX:=StN.t9 XR e9 K9 s9 M9 E9 K9b s9b M9b E9b
 exact bq (by simp[results,Tryz.results72,go_sem,SX.box.cell]) rfl ⟨_,_,_,_,_,_,_,_,_,rfl,v9,(SX.below HB.out (by omega))⟩
theorem jof_sin{w:World}{D M E:Int}{s:Bool}{x:Int}{g l h r u:Int}{z:Sp}(hM:LQ M)(hx:rk D s M E=x)(hf:fixB x=true)(hg:fixI x=g)(fits:g.natAbs < 4294967296^10)(hl:ofL false g=l)(hh:ofH false g=h)(hr:Rq false l SC r)(hu:Rq true h SC u)(hz:mkI r u=z):Calls Tryz.prog 72 #[VQ D s M E,.bool false] w (PV w z):=by
 delta VQ
 have HX:=ie hx;have HF:=ie hf;have HG:=ie hg;have HFT:=ie fits
 have HL:Hid (bndI (btL (g) (g+1)) (-SC) SC=l):=ie hl
 have HH:Hid (bndI (btH (g) (g+1)) (-SC) SC=h):=ie hh
 have HR:=ie hr;have HU:=ie hu;have HZ:=ie hz;clear hx hf hg fits hl hh hr hu hz
 go_enter Tryz.func72,Tryz.ntmps72
 go_upto_region 1 with (fail)
 generalize hW1:(w.alloc _).alloc _=w1 at *;obtain⟨X2,XR,HB⟩:=Bo.en2 hW1;clear hW1;have xX2:=X2.cell
 go_wp2_with fail
 refine(jFix hM HX.out HG.out HF.out).mono ?_;rintro ee w2 ⟨s5,A5,n5,c5,rfl,p5,k5,B⟩;clear xX2;replace XR:=XR.b B;replace HB:=Hqb HB B;clear B;have hsz5:=HB.out.size
 go_upto_region 2 with (fail)
 have nX5XR:=XR.lt;generalize hWn:w2.alloc _=w3 at *;obtain⟨X5,BW⟩:=Bo.nw hWn;clear hWn;replace XR:=XR.b BW;replace p5:=p5.b BW;replace HB:=Hqb HB BW;clear BW;have few:=p5.fits HFT.out;clear HFT HX HF HG
 go_upto_region 4 with (fail)
 have ltXR:=XR.lt;have ltX5:=X5.lt;have hsz:=HB.out.size;refine jk [0,1,2,3] [some 21,some 22,some 23,some 7,none] [[],[],[0,1],[],[]] 5 1 [Jo.Fact.eq (.agg #[.bool s5,.slice A5 n5 c5]),Jo.Fact.wn (1) (2),Jo.Fact.wn (g+1) (20),Jo.Fact.bo w3.heap.size #[.bool false,.slice none 0 0] 27,Jo.Fact.any] ?_ ?_
 ·refine jm ?_ ?_
  ·rintro wj hJ K hK;simp only[Jo.z]at hK|-;have xX5:=(X5.b hJ).cell;go_simp;exact hK.out _ _ rfl (br _ _)
  refine jm ?_ ?_
  ·rintro wj hJ K hK;simp only[Jo.z]at hK|-;go_simp;exact Jo.w1 (qFrom 1 _ (by decide) (by decide)) hK.out
  refine jm ?_ ?_
  ·rintro wj hJ _ rfl _ ⟨s20,A20,n20,c20,rfl,p20,k20⟩ K hK;simp only[Jo.z]at hK|-;go_simp;exact Jo.w1 (qAdd (p5.b hJ).wr p20.wr (by omega) (by omega) rfl) hK.out
  refine jm ?_ ?_
  ·rintro wj hJ K hK;simp only[Jo.z]at hK|-;go_simp;exact hK.out _ _ ⟨_,rfl,hJ.size,Bo.new _ _ _⟩ (bel1 _ _)
  exact jo
 rintro w4 hJ _ rfl _ ⟨s20,A20,n20,c20,rfl,p20,k20⟩ _ ⟨s21,A21,n21,c21,rfl,p21,k21⟩ _ ⟨g7,rfl,hg7,X7⟩ -;simp only[Jo.z];replace XR:=XR.b hJ;replace X5:=X5.b hJ;replace p5:=p5.b hJ;replace HB:=Hqb HB hJ;clear p20;have xX7:=X7.cell;have zX70:=X7.frozen
 refine jn 4 fun K hK=>?_
 go_simp;refine hK.out _ _ ?_;clear hK K xX7 zX70;generalize hS:(w4.setCell _ _).setCell _ _=w5 at *;have SX:=StN.of2 X7 hS;replace XR:=XR.s SX;replace X5:=X5.s SX;replace p5:=p5.s SX;replace p21:=p21.s SX;replace HB:=Hqs HB SX (by omega);replace X7:=SX.box;clear SX hS;refine jd ?_
 go_upto_region 10 with (fail)
 have xX5:=X5.cell;have xX7:=X7.cell
 go_wp2_with fail
 refine(jBetween p5.wr p21.wr (by omega) (by omega) HL.out HH.out).mono ?_;rintro ee wF ⟨s11,A11,n11,c11,s12,A12,n12,c12,rfl,p11,p12,k11,k12,B⟩;clear xX5 xX7;replace XR:=XR.b B;replace HB:=Hqb HB B;clear B;have hsz11:=HB.out.size
 go_upto_region 11 with (fail)
 have e4X12:(World.alloc wF (.cells #[.bool s11,.slice A11 n11 c11] 27)).heap.size=wF.heap.size+1:=by simp
 have nX11XR:=XR.lt;have BX:=bel1 wF (.cells #[.bool s11,.slice A11 n11 c11] 27);replace XR:=XR.b BX;replace p11:=p11.b BX;replace p12:=p12.b BX;replace HB:=ie (bt HB.out BX);have X11:=Bo.new wF #[.bool s11,.slice A11 n11 c11] 27
 generalize hWn:World.alloc wF (.cells #[.bool s11,.slice A11 n11 c11] 27)=wG at *;clear hWn;have nX12XR:=XR.lt;have nX12X11:=X11.lt;generalize hWn:wG.alloc _=wH at *;obtain⟨X12,BW⟩:=Bo.nw hWn;clear hWn;replace XR:=XR.b BW;replace X11:=X11.b BW;replace p11:=p11.b BW;replace p12:=p12.b BW;replace HB:=Hqb HB BW;clear BW;rw[e4X12]at X12
 clear e4X12;clear p5 p21;have xX11:=X11.cell;have xX12:=X12.cell
 go_wp2_with fail
 refine(jPart p11.wr p12.wr (by omega) (by omega) HR.out HU.out HZ.out).mono ?_;rintro ee wI ⟨e9,K9,s9,M9,E9,K9b,s9b,M9b,E9b,rfl,v9,B⟩;clear xX11 xX12;replace XR:=XR.b B;replace HB:=Hqb HB B;clear B;clear p11 p12;have xXR:=XR.cell;have zXR0:=XR.frozen;go_wp2;clear xXR zXR0
 have SX:=StN.t9 XR e9 K9 s9 M9 E9 K9b s9b M9b E9b;exact bq (by simp[results,Tryz.results72,go_sem,SX.box.cell]) rfl ⟨_,_,_,_,_,_,_,_,_,rfl,v9,(SX.below HB.out (by omega))⟩
theorem jof_cos{w:World}{D M E:Int}{s:Bool}{x:Int}{g l h r u:Int}{z:Sp}(hM:LQ M)(hx:rk D s M E=x)(hf:fixB x=true)(hg:fixI x=g)(fits:g.natAbs < 4294967296^10)(hl:ofL true g=l)(hh:ofH true g=h)(hr:Rq false l SC r)(hu:Rq true h SC u)(hz:mkI r u=z):Calls Tryz.prog 72 #[VQ D s M E,.bool true] w (PV w z):=by
 delta VQ
 have HX:=ie hx;have HF:=ie hf;have HG:=ie hg;have HFT:=ie fits
 have HL:Hid (bndI (btL (g+PLo.fdiv 2) (g+1+(PHi+1).fdiv 2)) (-SC) SC=l):=ie hl
 have HH:Hid (bndI (btH (g+PLo.fdiv 2) (g+1+(PHi+1).fdiv 2)) (-SC) SC=h):=ie hh
 have HR:=ie hr;have HU:=ie hu;have HZ:=ie hz;clear hx hf hg fits hl hh hr hu hz
 go_enter Tryz.func72,Tryz.ntmps72
 go_upto_region 1 with (fail)
 generalize hW1:(w.alloc _).alloc _=w1 at *;obtain⟨X2,XR,HB⟩:=Bo.en2 hW1;clear hW1;have xX2:=X2.cell
 go_wp2_with fail
 refine(jFix hM HX.out HG.out HF.out).mono ?_;rintro ee w2 ⟨s5,A5,n5,c5,rfl,p5,k5,B⟩;clear xX2;replace XR:=XR.b B;replace HB:=Hqb HB B;clear B;have hsz5:=HB.out.size
 go_upto_region 2 with (fail)
 have nX5XR:=XR.lt;generalize hWn:w2.alloc _=w3 at *;obtain⟨X5,BW⟩:=Bo.nw hWn;clear hWn;replace XR:=XR.b BW;replace p5:=p5.b BW;replace HB:=Hqb HB BW;clear BW;have few:=p5.fits HFT.out;clear HFT HX HF HG
 go_upto_region 4 with (fail)
 have ltXR:=XR.lt;have ltX5:=X5.lt;have hsz:=HB.out.size;refine jk [0,1,2,3] [some 21,some 22,some 23,some 7,none] [[],[],[0,1],[],[]] 5 1 [Jo.Fact.eq (.agg #[.bool s5,.slice A5 n5 c5]),Jo.Fact.wn (1) (2),Jo.Fact.wn (g+1) (20),Jo.Fact.bo w3.heap.size #[.bool false,.slice none 0 0] 27,Jo.Fact.any] ?_ ?_
 ·refine jm ?_ ?_
  ·rintro wj hJ K hK;simp only[Jo.z]at hK|-;have xX5:=(X5.b hJ).cell;go_simp;exact hK.out _ _ rfl (br _ _)
  refine jm ?_ ?_
  ·rintro wj hJ K hK;simp only[Jo.z]at hK|-;go_simp;exact Jo.w1 (qFrom 1 _ (by decide) (by decide)) hK.out
  refine jm ?_ ?_
  ·rintro wj hJ _ rfl _ ⟨s20,A20,n20,c20,rfl,p20,k20⟩ K hK;simp only[Jo.z]at hK|-;go_simp;exact Jo.w1 (qAdd (p5.b hJ).wr p20.wr (by omega) (by omega) rfl) hK.out
  refine jm ?_ ?_
  ·rintro wj hJ K hK;simp only[Jo.z]at hK|-;go_simp;exact hK.out _ _ ⟨_,rfl,hJ.size,Bo.new _ _ _⟩ (bel1 _ _)
  exact jo
 rintro w4 hJ _ rfl _ ⟨s20,A20,n20,c20,rfl,p20,k20⟩ _ ⟨s21,A21,n21,c21,rfl,p21,k21⟩ _ ⟨g7,rfl,hg7,X7⟩ -;simp only[Jo.z];replace XR:=XR.b hJ;replace X5:=X5.b hJ;replace p5:=p5.b hJ;replace HB:=Hqb HB hJ;clear p20;have xX7:=X7.cell;have zX70:=X7.frozen
 refine jn 4 fun K hK=>?_
 go_simp;refine hK.out _ _ ?_;clear hK K xX7 zX70;generalize hS:(w4.setCell _ _).setCell _ _=w5 at *;have SX:=StN.of2 X7 hS;replace XR:=XR.s SX;replace X5:=X5.s SX;replace p5:=p5.s SX;replace p21:=p21.s SX;replace HB:=Hqs HB SX (by omega);replace X7:=SX.box;clear SX hS;refine jd ?_
 go_upto_region 6 with (fail)
 go_wp2_with fail
 refine(jBounds).mono ?_;rintro ee w6 ⟨s8,A8,n8,c8,s9,A9,n9,c9,rfl,p8,p9,k8,k9,B⟩;replace XR:=XR.b B;replace X5:=X5.b B;replace X7:=X7.b B;replace p5:=p5.b B;replace p21:=p21.b B;replace HB:=Hqb HB B;clear B;have hsz8:=HB.out.size
 go_upto_region 7 with (fail)
 have e4X9:(World.alloc w6 (.cells #[.bool s8,.slice A8 n8 c8] 27)).heap.size=w6.heap.size+1:=by simp
 have nX8XR:=XR.lt;have nX8X5:=X5.lt;have nX8X7:=X7.lt;have BX:=bel1 w6 (.cells #[.bool s8,.slice A8 n8 c8] 27);replace XR:=XR.b BX;replace X5:=X5.b BX;replace X7:=X7.b BX;replace p5:=p5.b BX;replace p21:=p21.b BX
 replace p8:=p8.b BX;replace p9:=p9.b BX;replace HB:=ie (bt HB.out BX);have X8:=Bo.new w6 #[.bool s8,.slice A8 n8 c8] 27;generalize hWn:World.alloc w6 (.cells #[.bool s8,.slice A8 n8 c8] 27)=w7 at *;clear hWn;have nX9XR:=XR.lt
 have nX9X5:=X5.lt;have nX9X7:=X7.lt;have nX9X8:=X8.lt;generalize hWn:w7.alloc _=w8 at *;obtain⟨X9,BW⟩:=Bo.nw hWn;clear hWn;replace XR:=XR.b BW;replace X5:=X5.b BW;replace X7:=X7.b BW;replace X8:=X8.b BW;replace p5:=p5.b BW;replace p21:=p21.b BW;replace p8:=p8.b BW;replace p9:=p9.b BW;replace HB:=Hqb HB BW;clear BW
 rw[e4X9]at X9;clear e4X9
 go_wp2_with fail
 refine(qFrom 2 _ (by decide) (by decide)).mono ?_;rintro ee w9 ⟨s30,A30,n30,c30,rfl,p30,k30,B⟩;replace XR:=XR.b B;replace X5:=X5.b B;replace X7:=X7.b B;replace X8:=X8.b B;replace X9:=X9.b B;replace p5:=p5.b B;replace p21:=p21.b B;replace p8:=p8.b B;replace p9:=p9.b B;replace HB:=Hqb HB B;clear B;have hsz30:=HB.out.size
 go_upto_region 8 with (fail)
 have nX10XR:=XR.lt;have nX10X5:=X5.lt;have nX10X7:=X7.lt;have nX10X8:=X8.lt;have nX10X9:=X9.lt;generalize hWn:w9.alloc _=wA at *;obtain⟨X10,BW⟩:=Bo.nw hWn;clear hWn;replace XR:=XR.b BW;replace X5:=X5.b BW;replace X7:=X7.b BW;replace X8:=X8.b BW;replace X9:=X9.b BW;replace p5:=p5.b BW;replace p21:=p21.b BW;replace p8:=p8.b BW
 replace p9:=p9.b BW;replace p30:=p30.b BW;replace HB:=Hqb HB BW;clear BW;have ltXR:=XR.lt;have ltX5:=X5.lt;have ltX7:=X7.lt;have ltX8:=X8.lt;have ltX9:=X9.lt;have ltX10:=X10.lt;have hsz2:=HB.out.size;refine jk [0,1,2,3,4] [some 30,some 31,some 32,some 33,some 34,none] [[],[],[],[1,2],[0,3],[]] 6 1 [Jo.Fact.eq (.agg #[.bool s5,.slice A5 n5 c5]),Jo.Fact.eq (.agg #[.bool s8,.slice A8 n8 c8]),Jo.Fact.eq (.agg #[.bool s30,.slice A30 n30 c30]),Jo.Fact.wn (PLo.fdiv 2) (13),Jo.Fact.wn (g+PLo.fdiv 2) (30),Jo.Fact.any] ?_ ?_
 ·iterate 3 (refine jm ?_ ?_;rotate_left)
  refine jm ?_ ?_
  ·rintro wj hJ _ rfl _ rfl K hK;simp only[Jo.z]at hK|-;go_simp;exact Jo.w1 (jDown (p8.b hJ).wr (p30.b hJ).wr (by omega) (by omega) (by decide) rfl) hK.out
  refine jm ?_ ?_
  ·rintro wj hJ _ rfl _ ⟨s22,A22,n22,c22,rfl,p22,k22⟩ K hK;simp only[Jo.z]at hK|-;go_simp;exact Jo.w1 (qAdd (p5.b hJ).wr p22.wr (by omega) (by omega) rfl) hK.out
  exact jo
  all_goals (rintro wj hJ;(repeat rintro _ rfl);intro K hK;simp only[Jo.z]at hK|-;have xX5:=(X5.b hJ).cell;have xX8:=(X8.b hJ).cell;have xX10:=(X10.b hJ).cell;go_simp;exact hK.out _ _ rfl (br _ _))
 rintro wB hJ _ rfl _ rfl _ rfl _ ⟨s22,A22,n22,c22,rfl,p22,k22⟩ _ ⟨s23,A23,n23,c23,rfl,p23,k23⟩ -;simp only[Jo.z];replace XR:=XR.b hJ;replace X5:=X5.b hJ;replace X7:=X7.b hJ;replace X9:=X9.b hJ;replace X10:=X10.b hJ;replace p21:=p21.b hJ;replace p9:=p9.b hJ;replace p30:=p30.b hJ;replace HB:=Hqb HB hJ;clear p22 p5 p8
 have xX5:=X5.cell;have zX50:=X5.frozen
 refine jn 5 fun K hK=>?_
 go_simp;refine hK.out _ _ ?_;clear hK K xX5 zX50;generalize hS:(wB.setCell _ _).setCell _ _=wC at *;have SX:=StN.of2 X5 hS;replace XR:=XR.s SX;replace X7:=X7.s SX;replace X9:=X9.s SX;replace X10:=X10.s SX;replace p21:=p21.s SX;replace p9:=p9.s SX;replace p30:=p30.s SX
 replace p23:=p23.s SX;replace HB:=Hqs HB SX (by omega);replace X5:=SX.box;clear SX hS;refine jd ?_
 go_upto_region 9 with (fail)
 have ltXR:=XR.lt;have ltX5:=X5.lt;have ltX7:=X7.lt;have ltX9:=X9.lt;have ltX10:=X10.lt;refine jk [0,1,2,3,4,5,6] [some 35,some 36,some 37,some 38,some 39,some 40,some 41,none] [[],[],[],[1,2],[],[3,4],[0,5],[]] 8 1 [Jo.Fact.eq (.agg #[.bool s21,.slice A21 n21 c21]),Jo.Fact.eq (.agg #[.bool s9,.slice A9 n9 c9]),Jo.Fact.wn (1) (2),Jo.Fact.wn (PHi+1) (10),Jo.Fact.eq (.agg #[.bool s30,.slice A30 n30 c30]),Jo.Fact.wn ((PHi+1).fdiv 2) (16),Jo.Fact.wn (g+1+(PHi+1).fdiv 2) (40),Jo.Fact.any] ?_ ?_
 ·iterate 2 (refine jm ?_ ?_;rotate_left)
  refine jm ?_ ?_
  ·rintro wj hJ K hK;simp only[Jo.z]at hK|-;go_simp;exact Jo.w1 (qFrom 1 _ (by decide) (by decide)) hK.out
  refine jm ?_ ?_
  ·rintro wj hJ _ rfl _ ⟨s24,A24,n24,c24,rfl,p24,k24⟩ K hK;simp only[Jo.z]at hK|-;go_simp;exact Jo.w1 (qAdd (p9.b hJ).wr p24.wr (by omega) (by omega) rfl) hK.out
  refine jm ?_ ?_;rotate_left
  refine jm ?_ ?_
  ·rintro wj hJ _ ⟨s25,A25,n25,c25,rfl,p25,k25⟩ _ rfl K hK;simp only[Jo.z]at hK|-;go_simp;exact Jo.w1 (jDown p25.wr (p30.b hJ).wr (by omega) (by omega) (by decide) rfl) hK.out
  refine jm ?_ ?_
  ·rintro wj hJ _ rfl _ ⟨s26,A26,n26,c26,rfl,p26,k26⟩ K hK;simp only[Jo.z]at hK|-;go_simp;exact Jo.w1 (qAdd (p21.b hJ).wr p26.wr (by omega) (by omega) rfl) hK.out
  exact jo
  all_goals (rintro wj hJ;(repeat rintro _ rfl);intro K hK;simp only[Jo.z]at hK|-;have xX7:=(X7.b hJ).cell;have xX9:=(X9.b hJ).cell;have xX10:=(X10.b hJ).cell;go_simp;exact hK.out _ _ rfl (br _ _))
 rintro wD hJ _ rfl _ rfl _ ⟨s24,A24,n24,c24,rfl,p24,k24⟩ _ ⟨s25,A25,n25,c25,rfl,p25,k25⟩ _ rfl _ ⟨s26,A26,n26,c26,rfl,p26,k26⟩ _ ⟨s27,A27,n27,c27,rfl,p27,k27⟩ -;simp only[Jo.z];replace XR:=XR.b hJ;replace X5:=X5.b hJ;replace X7:=X7.b hJ;replace p23:=p23.b hJ;replace HB:=Hqb HB hJ;clear p24 p25 p26 p21 p9 p30;have xX7:=X7.cell
 have zX70:=X7.frozen
 refine jn 7 fun K hK=>?_
 go_simp;refine hK.out _ _ ?_;clear hK K xX7 zX70;generalize hS:(wD.setCell _ _).setCell _ _=wE at *;have SX:=StN.of2 X7 hS;replace XR:=XR.s SX;replace X5:=X5.s SX;replace p23:=p23.s SX;replace p27:=p27.s SX;replace HB:=Hqs HB SX (by omega);replace X7:=SX.box;clear SX hS;refine jd ?_
 go_upto_region 10 with (fail)
 have xX5:=X5.cell;have xX7:=X7.cell
 go_wp2_with fail
 refine(jBetween p23.wr p27.wr (by omega) (by omega) HL.out HH.out).mono ?_;rintro ee wF ⟨s11,A11,n11,c11,s12,A12,n12,c12,rfl,p11,p12,k11,k12,B⟩;clear xX5 xX7;replace XR:=XR.b B;replace HB:=Hqb HB B;clear B;have hsz11:=HB.out.size
 go_upto_region 11 with (fail)
 have e4X12:(World.alloc wF (.cells #[.bool s11,.slice A11 n11 c11] 27)).heap.size=wF.heap.size+1:=by simp
 have nX11XR:=XR.lt;have BX:=bel1 wF (.cells #[.bool s11,.slice A11 n11 c11] 27);replace XR:=XR.b BX;replace p11:=p11.b BX;replace p12:=p12.b BX;replace HB:=ie (bt HB.out BX);have X11:=Bo.new wF #[.bool s11,.slice A11 n11 c11] 27
 generalize hWn:World.alloc wF (.cells #[.bool s11,.slice A11 n11 c11] 27)=wG at *;clear hWn;have nX12XR:=XR.lt;have nX12X11:=X11.lt;generalize hWn:wG.alloc _=wH at *;obtain⟨X12,BW⟩:=Bo.nw hWn;clear hWn;replace XR:=XR.b BW;replace X11:=X11.b BW;replace p11:=p11.b BW;replace p12:=p12.b BW;replace HB:=Hqb HB BW;clear BW;rw[e4X12]at X12
 clear e4X12;clear p23 p27;have xX11:=X11.cell;have xX12:=X12.cell
 go_wp2_with fail
 refine(jPart p11.wr p12.wr (by omega) (by omega) HR.out HU.out HZ.out).mono ?_;rintro ee wI ⟨e9,K9,s9,M9,E9,K9b,s9b,M9b,E9b,rfl,v9,B⟩;clear xX11 xX12;replace XR:=XR.b B;replace HB:=Hqb HB B;clear B;clear p11 p12;have xXR:=XR.cell;have zXR0:=XR.frozen;go_wp2;clear xXR zXR0
 have SX:=StN.t9 XR e9 K9 s9 M9 E9 K9b s9b M9b E9b;exact bq (by simp[results,Tryz.results72,go_sem,SX.box.cell]) rfl ⟨_,_,_,_,_,_,_,_,_,rfl,v9,(SX.below HB.out (by omega))⟩
theorem jOf{w:World}{D M E:Int}{s:Bool}{x:Int}{cos:Bool}{z:Sp}(hM:LQ M)(hx:rk D s M E=x)(hz:Sv cos x z):Calls Tryz.prog 72 #[VQ D s M E,.bool cos] w (PV w z):=by
 delta VQ
 rcases hz with⟨hf,hz⟩ | ⟨hf,r,u,hr,hu,hz⟩
 ·rw[<-hz];exact jof_no hM hx hf
 ·cases cos
  ·exact jof_sin hM hx hf rfl (fix_fits hf) rfl rfl hr hu hz
  ·exact jof_cos hM hx hf rfl (fix_fits hf) rfl rfl hr hu hz
theorem sv_ex (cos:Bool)(x:Int):∃z,Sv cos x z:=by
 cases hf:fixB x
 ·exact⟨_,Or.inl ⟨hf,rfl⟩⟩
 ·obtain⟨r,hr⟩:=rq_ex false (ofL cos (fixI x)) SC;obtain⟨u,hu⟩:=rq_ex true (ofH cos (fixI x)) SC;exact⟨_,Or.inr ⟨hf,r,u,hr,hu,rfl⟩⟩
theorem jSin{w:World}{D M E:Int}{s:Bool}{x:Int}{z:Sp}(hM:LQ M)(hx:rk D s M E=x)(hz:Sv false x z):Calls Tryz.prog 16 #[VQ D s M E] w (PV w z):=by
 delta VQ
 have HX:=ie hx;have HZ:=ie hz;clear hx hz
 go_enter Tryz.func16,Tryz.ntmps16
 go_upto_region 1 with (fail)
 generalize hW1:(w.alloc _).alloc _=w1 at *;obtain⟨X1,XR,HB⟩:=Bo.en2 hW1;clear hW1;have xX1:=X1.cell
 go_wp2_with fail
 refine(jOf hM HX.out HZ.out).mono ?_;rintro ee w2 ⟨e9,K9,s9,M9,E9,K9b,s9b,M9b,E9b,rfl,v9,B⟩;clear xX1;replace XR:=XR.b B;replace HB:=Hqb HB B;clear B;have xXR:=XR.cell;have zXR0:=XR.frozen;go_wp2;clear xXR zXR0;have SX:=StN.t9 XR e9 K9 s9 M9 E9 K9b s9b M9b E9b
 exact bq (by simp[results,Tryz.results16,go_sem,SX.box.cell]) rfl ⟨_,_,_,_,_,_,_,_,_,rfl,v9,(SX.below HB.out (by omega))⟩
theorem jCos{w:World}{D M E:Int}{s:Bool}{x:Int}{z:Sp}(hM:LQ M)(hx:rk D s M E=x)(hz:Sv true x z):Calls Tryz.prog 18 #[VQ D s M E] w (PV w z):=by
 delta VQ
 have HX:=ie hx;have HZ:=ie hz;clear hx hz
 go_enter Tryz.func18,Tryz.ntmps18
 go_upto_region 1 with (fail)
 generalize hW1:(w.alloc _).alloc _=w1 at *;obtain⟨X1,XR,HB⟩:=Bo.en2 hW1;clear hW1;have xX1:=X1.cell
 go_wp2_with fail
 refine(jOf hM HX.out HZ.out).mono ?_;rintro ee w2 ⟨e9,K9,s9,M9,E9,K9b,s9b,M9b,E9b,rfl,v9,B⟩;clear xX1;replace XR:=XR.b B;replace HB:=Hqb HB B;clear B;have xXR:=XR.cell;have zXR0:=XR.frozen;go_wp2;clear xXR zXR0;have SX:=StN.t9 XR e9 K9 s9 M9 E9 K9b s9b M9b E9b
 exact bq (by simp[results,Tryz.results18,go_sem,SX.box.cell]) rfl ⟨_,_,_,_,_,_,_,_,_,rfl,v9,(SX.below HB.out (by omega))⟩
end Go.Proofs.YtomikokonmikgaaGreatDoor
namespace Go.Proofs.YtomikokonmikgaaGreatDoor
open Go Go.RowKit
set_option linter.unusedVariables false
theorem rq_sid{up:Bool}{l r:Int}(h:Rq up l SC r):Sid up (l*2^KK) SC r:=by
 rw[rq_some (by decide),show sgi (decide (SC < 0)) SC=SC from rfl,show sgi (decide (SC < 0)) l=l from rfl]at h
 exact h
theorem sc_pos:(0:Int) < SC:=by decide
theorem place_le{up:Bool}{l r p:Int}(h:Rq up l SC r)(p1: -19342822337206103650074625 < p)(p2:p < 19342822337206103650074625)(e:vr p*SC<=l*2^KK):p<=r:=
 Sid.mono (up:=up) (B:=1) (by decide) sc_pos (sid_exact (by decide) p1 p2 (Int.mul_one _)) (rq_sid h) (by rw[Int.mul_one];exact e)
theorem le_place{up:Bool}{l r p:Int}(h:Rq up l SC r)(p1: -19342822337206103650074625 < p)(p2:p < 19342822337206103650074625)(e:l*2^KK<=vr p*SC):r<=p:=
 Sid.mono (up:=up) (D:=1) sc_pos (by decide) (rq_sid h) (sid_exact (by decide) p1 p2 (Int.mul_one _)) (by rw[Int.mul_one];exact e)
theorem one_vr:vr (opl 1)=2^KK:=by rw[opl_vr (by decide) (by decide),Int.one_mul]
theorem one_neg:opl (-1)= -opl 1:=rfl
theorem one_bd:0 < opl 1/\opl 1 < 19342822337206103650074625:=opl_pos (by decide) (by decide)
theorem rq_unit{up:Bool}{l r:Int}(h:Rq up l SC r)(h1: -SC<=l)(h2:l<=SC): -opl 1<=r/\r<=opl 1:=by
 obtain⟨o1,o2⟩:=one_bd;have hp:=p2pos KK
 constructor
 ·refine place_le h (by omega) (by omega) ?_;rw[vr_neg,one_vr,Int.neg_mul,Int.mul_comm,<-Int.neg_mul];exact Int.mul_le_mul_of_nonneg_right h1 (by omega)
 ·refine le_place h (by omega) (by omega) ?_;rw[one_vr,Int.mul_comm (2^KK)];exact Int.mul_le_mul_of_nonneg_right h2 (by omega)
theorem rq_pair{l h r u:Int}(hr:Rq false l SC r)(hu:Rq true h SC u)(le:l<=h):r<=u:=by
 obtain⟨t,ht⟩:=rq_ex true l SC;have a:=Sid.mono sc_pos sc_pos (rq_sid ht) (rq_sid hu) (Int.mul_le_mul_of_nonneg_right (Int.mul_le_mul_of_nonneg_right le (by have:=p2pos KK;omega)) (Int.le_of_lt sc_pos))
 rcases sid_two sc_pos (rq_sid hr) (rq_sid ht)with ⟨b,_⟩ | ⟨b,_⟩ <;> omega
def SB (σ:Rat)(Z:Sp):Prop:=∃l h r u:Int,Z=some (r,u)/\Rq false l SC r/\Rq true h SC u/\ -SC<=l/\l<=h/\h<=SC/\(l= -SC\/((l+99:Int):Rat)<=σ)/\(h=SC\/σ<=((h-99:Int):Rat))/\σ<=((l+17592186044416:Int):Rat)/\((h-17592186044416:Int):Rat)<=σ
theorem SB.unit{σ:Rat}{Z:Sp}(h:SB σ Z):∃r u,Z=some (r,u)/\ -opl 1<=r/\r<=u/\u<=opl 1:=by
 obtain⟨l,h,r,u,rfl,hr,hu,h1,h2,h3,_⟩:=h;exact⟨r,u,rfl,(rq_unit hr h1 (by omega)).1,rq_pair hr hu h2,(rq_unit hu (by omega) h3).2⟩
theorem SB.fin{σ:Rat}{Z:Sp}(h:SB σ Z):FinI Z:=by
 obtain⟨o1,o2⟩:=one_bd;obtain⟨r,u,rfl,a,b,c⟩:=h.unit;exact⟨b,by omega,by omega⟩
theorem rq_lo{l r:Int}{v:Rat}(h:Rq false l SC r)(e:(l:Rat)<=v*SR):r= -19342822337206103650074625\/((vr r:Int):Rat)<=v*BR:=by
 have s:=rq_sid h;rw[sid_f]at s;obtain⟨_,_,h3,_⟩:=s
 by_cases c:r= -19342822337206103650074625
 ·exact .inl c
 ·right
  have a:=Rat.intCast_le_intCast.2 (h3 (by rename_i h1 _;omega));rw[Rat.intCast_mul,Rat.intCast_mul]at a;refine Rat.le_of_mul_le_mul_right (c:=SR) ?_ sr_pos;have b:=Rat.mul_le_mul_of_nonneg_right e (Rat.le_of_lt br_pos)
  unfold BR at *
  grind
theorem rq_hi{h u:Int}{v:Rat}(k:Rq true h SC u)(e:v*SR<=(h:Rat)):u=19342822337206103650074625\/v*BR<=((vr u:Int):Rat):=by
 have s:=(rq_sid k);rw[sid_t]at s;obtain⟨_,_,h3,_⟩:=s
 by_cases c:u=19342822337206103650074625
 ·exact .inl c
 ·right
  have a:=Rat.intCast_le_intCast.2 (h3 (by rename_i h1 _;omega));rw[vr_neg,Rat.intCast_mul,Rat.intCast_neg,Rat.intCast_neg,Rat.intCast_mul]at a;refine Rat.le_of_mul_le_mul_right (c:=SR) ?_ sr_pos;have b:=Rat.mul_le_mul_of_nonneg_right e (Rat.le_of_lt br_pos)
  unfold BR at *
  grind
theorem SB.lo{σ v:Rat}{Z:Sp}(h:SB σ Z)(v1: -1<=v)(v2:σ<=v*SR+99):LoR v Z:=by
 obtain⟨l,h,r,u,rfl,hr,hu,h1,h2,h3,hl,hh,_⟩:=h;refine rq_lo hr ?_
 rcases hl with rfl | hl
 ·have:=Rat.mul_le_mul_of_nonneg_right v1 (Rat.le_of_lt sr_pos)
  rw[Rat.intCast_neg]
  grind
 ·rw[Rat.intCast_add]at hl
  have e:((99:Int):Rat)=99:=rfl
  rw[e]at hl
  grind
theorem SB.hi{σ v:Rat}{Z:Sp}(h:SB σ Z)(v1:v<=1)(v2:v*SR<=σ+99):HiR v Z:=by
 obtain⟨l,h,r,u,rfl,hr,hu,h1,h2,h3,hl,hh,_⟩:=h;refine rq_hi hu ?_
 rcases hh with rfl | hh
 ·have:=Rat.mul_le_mul_of_nonneg_right v1 (Rat.le_of_lt sr_pos)
  grind
 ·rw[Rat.intCast_sub]at hh
  have e:((99:Int):Rat)=99:=rfl
  rw[e]at hh
  grind
theorem unitI_some:unitI=some (-opl 1,opl 1):=by
 obtain⟨o1,o2⟩:=one_bd;exact mkI_some (by rw[one_neg];omega) (by rw[one_neg];omega) (by omega)
theorem bt_wide{x y:Int}(h1: -2147483648*SC<=x)(h2:x<=2147483648*SC):btL x y=(wide x y).1/\btH x y=(wide x y).2:=by
 have hs:serI (rI x)=si (rI x) 40:=by
  obtain⟨a,b⟩:=rI_bd h1 h2;exact if_neg (by unfold SC at *;omega)
 unfold btL btH wide
 rw[hs]
 by_cases c:qI x%2=0
 ·rw[if_pos c,if_pos c,if_pos c];exact⟨rfl,rfl⟩
 ·rw[if_neg c,if_neg c,if_neg c];exact⟨rfl,rfl⟩
theorem wide_far{x y:Int}(h1: -2147483648*SC<=x)(h2:x<=2147483648*SC)(h3:x<=y)(h4:y-x<=2000000):(wide x y).2-(wide x y).1<=8796093022664/\(wide x y).1<=(wide x y).2:=by
 obtain⟨c,d⟩:=tI_bd h1 h2 h3 h4
 unfold wide
 by_cases c:qI x%2=0
 ·rw[if_pos c];simp only[]
  omega
 ·rw[if_neg c];simp only[]
  omega
theorem su_bd{x:Int}{z:Rat}(a: -(17/10)<=ang x z/\ang x z<=17/10): -(1+1/2^240)<=sinU x z/\sinU x z<=1+1/2^240:=by
 obtain⟨s1,s2⟩:=sin_bd (x:=ang x z) (by grind) (by grind);generalize (1/2^240:Rat)=t at *;rw[sinU_ang]
 by_cases c:qI x%2=0
 ·rw[if_pos c];exact⟨s1,s2⟩
 ·rw[if_neg c]
  constructor <;> grind
theorem sr_eps:(1/2^240:Rat)*SR<=1:=by decide +kernel
theorem box_of{x y l h r u:Int}{Z:Sp}{z:Rat}(h1: -2147483648*SC<=x)(h2:x<=2147483648*SC)(h3:x<=y)(h4:y-x<=2000000)(z1:(x:Rat)<=z)(z2:z<=(y:Rat))
  (hl:bndI (btL x y) (-SC) SC=l) (hh:bndI (btH x y) (-SC) SC=h) (hr:Rq false l SC r) (hu:Rq true h SC u) (hz:mkI r u=Z):SB (sinU x z*SR) Z:=by
 obtain⟨w1,w2⟩:=wide_sin h1 h2 h3 h4 z1 z2;obtain⟨f1,f2⟩:=wide_far h1 h2 h3 h4;obtain⟨b1,b2⟩:=su_bd (ang_bd h1 h2 h3 h4 z1 z2);obtain⟨e1,e2⟩:=bt_wide (y:=y) h1 h2;rw[e1]at hl;rw[e2]at hh;generalize (wide x y).1=lo at *;generalize (wide x y).2=hi at *;have sp:=sr_pos;have ep:=sr_eps;have g1:=Rat.mul_le_mul_of_nonneg_right b1 (Rat.le_of_lt sp);have g2:=Rat.mul_le_mul_of_nonneg_right b2 (Rat.le_of_lt sp)
 generalize (1/2^240:Rat)=t at *;generalize sinU x z=s at *
 have c1:((1:Int):Rat)=1:=rfl
 have k1:lo<=SC-98:=by
  have a:((lo+99:Int):Rat)<=((SC+1:Int):Rat):=by
   refine Rat.le_trans w1 ?_;rw[Rat.intCast_add,c1]
   grind
  have:=Rat.intCast_le_intCast.1 a
  omega
 have k2: -SC+98<=hi:=by
  have a:((-SC-1:Int):Rat)<=((hi-99:Int):Rat):=by
   refine Rat.le_trans ?_ w2;rw[Rat.intCast_sub,Rat.intCast_neg,c1]
   grind
  have:=Rat.intCast_le_intCast.1 a
  omega
 have hl2:(l= -SC\/l=lo)/\lo<=l/\ -SC<=l:=by
  unfold bndI at hl
  split at hl
  ·omega
  ·split at hl <;> omega
 have hh2:(h=SC\/h=hi)/\h<=hi/\h<=SC:=by
  unfold bndI at hh
  split at hh
  ·omega
  ·split at hh <;> omega
 have sc:=sc_pos
 have lh:l<=h:=by omega
 have hSC:l<=SC/\ -SC<=h:=by omega
 obtain⟨o1,o2⟩:=one_bd;have u1:=rq_unit hr hl2.2.2 hSC.1;have u2:=rq_unit hu hSC.2 hh2.2.2;refine⟨l,h,r,u,?_,hr,hu,hl2.2.2,lh,hh2.2.2,?_,?_,?_,?_⟩
 ·rw[<-hz];exact mkI_some (rq_pair hr hu lh) (by omega) (by omega)
 ·rcases hl2.1 with e | e
  ·exact .inl e
  ·exact .inr (by rw[e];exact w1)
 ·rcases hh2.1 with e | e
  ·exact .inl e
  ·exact .inr (by rw[e];exact w2)
 ·exact Rat.le_trans w2 (Rat.intCast_le_intCast.2 (by omega))
 ·exact Rat.le_trans (Rat.intCast_le_intCast.2 (by omega)) w1
def zp (x:Int):Rat:=((vr x:Int):Rat)*SR/BR
theorem zp_at (x:Int):zp x*BR=((vr x:Int):Rat)*SR:=Rat.div_mul_cancel (Rat.ne_of_gt br_pos)
theorem zp_in{x:Int}(h:fixB x=true):((fixI x:Int):Rat)<=zp x/\zp x<=((fixI x+1:Int):Rat):=by
 obtain⟨a,b⟩:=fix_holds h
 have a':=Rat.intCast_le_intCast.2 a
 have b':=Rat.intCast_lt_intCast.2 b
 rw[Rat.intCast_mul,Rat.intCast_mul]at a' b';have e:=zp_at x;have hp:=br_pos
 have e2:((2^KK:Int):Rat)=BR:=rfl
 rw[e2]at a' b'
 constructor
 ·refine Rat.le_of_mul_le_mul_right (c:=BR) ?_ hp;rw[e];exact a'
 ·refine Rat.le_of_mul_le_mul_right (c:=BR) ?_ hp;rw[e];exact Rat.le_of_lt b'
theorem zp_neg (x:Int):zp (-x)= -zp x:=by
 have e:=zp_at x;have f:=zp_at (-x);rw[vr_neg,Rat.intCast_neg]at f;have hp:=br_pos;refine Rat.le_antisymm (Rat.le_of_mul_le_mul_right (c:=BR) ?_ hp) (Rat.le_of_mul_le_mul_right (c:=BR) ?_ hp) <;> grind
def zq (cos:Bool)(x:Int):Rat:=if cos then zp x+qt*SR else zp x
def su (cos:Bool)(x:Int):Rat:=sinU (ofX cos (fixI x)) (zq cos x)
theorem fix_bd{x:Int}(h:fixB x=true): -1073741825*SC<=fixI x/\fixI x<=1073741824*SC:=by
 obtain⟨a,b⟩:=fix_holds h;have hb:=of_decide_eq_true h;have v1:=vr_lt hb.2;have v2:=vr_lt hb.1;rw[vr_neg,opl_vr (by decide) (by decide)]at v2;rw[opl_vr (by decide) (by decide)]at v1;have hp:=p2pos KK;have d1:=Int.mul_lt_mul_of_pos_right v1 sc_pos;have d2:=Int.mul_lt_mul_of_pos_right v2 sc_pos
 constructor
 ·refine Int.le_of_lt_add_one (Int.lt_of_mul_lt_mul_right (a:=2^KK) ?_ (Int.le_of_lt hp))
  have e: -1073741825*SC*2^KK<= -(1073741824*2^KK)*SC:=by
   have:=Int.mul_nonneg (Int.le_of_lt sc_pos) (Int.le_of_lt hp)
   have e1: -1073741825*SC*2^KK= -1073741825*(SC*2^KK):=Int.mul_assoc _ _ _
   have e2: -(1073741824*2^KK)*SC= -(1073741824*(SC*2^KK)):=by rw[Int.neg_mul,Int.mul_assoc,Int.mul_comm (2^KK) SC]
   rw[e1,e2];generalize SC*2^KK=P at *
   omega
  omega
 ·refine Int.le_of_mul_le_mul_right (a:=2^KK) ?_ hp
  have e:1073741824*SC*2^KK=1073741824*2^KK*SC:=by rw[Int.mul_assoc,Int.mul_comm SC,<-Int.mul_assoc]
  omega
theorem of_bd{cos:Bool}{x:Int}(h:fixB x=true): -2147483648*SC<=ofX cos (fixI x)/\ofX cos (fixI x)<=2147483648*SC/\ofX cos (fixI x)<=ofY cos (fixI x)/\ofY cos (fixI x)-ofX cos (fixI x)<=2000000:=by
 obtain⟨a,b⟩:=fix_bd h;generalize fixI x=g at *
 unfold ofX ofY
 cases cos
 ·simp only[Bool.false_eq_true,if_false]
  unfold SC at *
  omega
 ·simp only[if_true]
  unfold SC PLo PHi at *
  omega
theorem zq_in{cos:Bool}{x:Int}(h:fixB x=true):((ofX cos (fixI x):Int):Rat)<=zq cos x/\zq cos x<=((ofY cos (fixI x):Int):Rat):=by
 obtain⟨a,b⟩:=zp_in h
 unfold ofX ofY zq
 cases cos
 ·simp only[Bool.false_eq_true,if_false];exact⟨a,b⟩
 ·simp only[if_true];obtain⟨p1,p2⟩:=half_turn
  have c2:((2:Int):Rat)=2:=rfl
  have q1:((PLo/2:Int):Rat)<=qt*SR:=by
   have f:=(fl_bd PLo 2 (by decide)).1;rw[c2]at f
   grind
  have q2:qt*SR<=(((PHi+1) /2:Int):Rat):=by
   have f:=Rat.intCast_le_intCast.2 (show PHi<=(PHi+1) /2*2 by decide)
   rw[Rat.intCast_mul,c2]at f
   grind
  constructor
  ·rw[Rat.intCast_add];exact radd a q1
  ·rw[Rat.intCast_add];exact radd b q2
theorem sv_box{cos:Bool}{x:Int}{Z:Sp}(hf:fixB x=true)(h:Sv cos x Z):SB (su cos x*SR) Z/\ -(17/10)<=ang (ofX cos (fixI x)) (zq cos x)/\ang (ofX cos (fixI x)) (zq cos x)<=17/10:=by
 obtain⟨b1,b2,b3,b4⟩:=of_bd (cos:=cos) hf;obtain⟨z1,z2⟩:=zq_in (cos:=cos) hf
 rcases h with⟨c,_⟩ | ⟨_,r,u,hr,hu,hz⟩
 ·rw[hf]at c
  cases c
 ·exact⟨box_of b1 b2 b3 b4 z1 z2 rfl rfl hr hu hz,ang_bd b1 b2 b3 b4 z1 z2⟩
theorem SB.has{s v:Rat}{Z:Sp}(h:SB (s*SR) Z)(v1: -1<=v)(v2:v<=1)(d1:(s-v)*SR<=99)(d2:(v-s)*SR<=99):LoR v Z/\HiR v Z:=
 ⟨h.lo v1 (by grind),h.hi v2 (by grind)⟩
theorem eps_c:(1/2^200:Rat)*SR<=1/\(1/2^190:Rat)*SR<=4/\(1/2^240:Rat)<=1/2^200/\(1/2^240:Rat)*2<=1/2^200/\(0:Rat) < 1/2^240/\(1/2^200:Rat)<=1/2^190/\(1/2^200:Rat)*16<=1/2^190/\(1/2^190:Rat)<=1/100:=by decide +kernel
theorem dist{d e:Rat}(h:d<=e){n:Rat}(k:e*SR<=n):d*SR<=n:=Rat.le_trans (Rat.mul_le_mul_of_nonneg_right h (Rat.le_of_lt sr_pos)) k
theorem vr_shifts{r:Int}(h:0 < r):∀k:Nat,vr (r+k*9223372036854775808)=vr r*2^k
 | 0=>by rw[show r+((0:Nat):Int)*9223372036854775808=r by omega,Int.pow_zero,Int.mul_one]
 | k+1=>by
  rw[show r+((k+1:Nat):Int)*9223372036854775808=(r+k*9223372036854775808)+9223372036854775808 by omega,vr_shift (by omega),vr_shifts h k,Int.pow_succ,Int.mul_assoc]
def p60:Int:=9670272082156500260225025
theorem p60_vr:vr p60*2^60=2^KK:=by
 have h:=vr_shifts (r:=p60) (by decide) 60
 have e:p60+((60:Nat):Int)*9223372036854775808=opl 1:=by decide
 rw[e,opl_vr (by decide) (by decide),Int.one_mul]at h;exact h.symm
theorem opl_one_eq:opl 1=1+(1048576-63)*9223372036854775808:=by decide
theorem frac_pos{m:Int}(h:0 < m)(h2:m<=4611686018427387904):∃p,0 < p/\p < 19342822337206103650074625/\vr p*2^62=m*2^KK:=by
 obtain⟨a,b⟩:=opl_pos h (by omega)
 have c:opl 1<=opl m:=opl_le (by decide) (by omega) (by omega)
 have e1:=opl_one_eq;have s:=vr_shifts (r:=opl m-62*9223372036854775808) (by omega) 62
 rw[show opl m-62*9223372036854775808+((62:Nat):Int)*9223372036854775808=opl m by omega,opl_vr (by omega) (by omega)]at s
 exact⟨_,by omega,by omega,s.symm⟩
theorem frac{m:Int}(h1: -4611686018427387904<=m)(h2:m<=4611686018427387904):∃p,-19342822337206103650074625 < p/\p < 19342822337206103650074625/\vr p*2^62=m*2^KK:=by
 rcases (by omega:m < 0\/m=0\/0 < m)with h | rfl | h
 ·obtain⟨p,a,b,c⟩:=frac_pos (m:= -m) (by omega) (by omega);refine⟨-p,by omega,by omega,?_⟩
  rw[vr_neg,Int.neg_mul,c,Int.neg_mul,Int.neg_neg]
 ·exact⟨0,by decide,by decide,by rw[show vr 0=0 from rfl,Int.zero_mul,Int.zero_mul]⟩
 ·obtain⟨p,a,b,c⟩:=frac_pos h h2;exact⟨p,by omega,b,c⟩
theorem rnd_up{h u:Int}(hu:Rq true h SC u)(h1: -SC<=h)(h2:h<=SC):∃m,vr u*2^62<=m*2^KK/\m*SC < h*4611686018427387904+SC:=by
 obtain⟨m,hm⟩:∃m,-((-(h*4611686018427387904)) /SC)=m:=⟨_,rfl⟩;have sc:=sc_pos;have a:=Int.ediv_mul_le (-(h*4611686018427387904)) (Int.ne_of_gt sc);have b:=Int.lt_ediv_add_one_mul_self (-(h*4611686018427387904)) sc
 rw[show -(h*4611686018427387904) /SC= -m by omega]at a b
 rw[Int.neg_mul]at a;rw[Int.add_mul,Int.neg_mul,Int.one_mul]at b
 have m1:m<=4611686018427387904:=by
  rcases Int.lt_or_le 4611686018427387904 m with c | c
  ·exfalso
   have:=Int.mul_le_mul_of_nonneg_right (show 4611686018427387905<=m by omega) (Int.le_of_lt sc)
   unfold SC at *
   omega
  ·exact c
 have m2: -4611686018427387904<=m:=by
  rcases Int.lt_or_le m (-4611686018427387904)with c | c
  ·exfalso
   have:=Int.mul_le_mul_of_nonneg_right (show m<= -4611686018427387905 by omega) (Int.le_of_lt sc)
   unfold SC at *
   omega
  ·exact c
 obtain⟨p,p1,p2,p3⟩:=frac m2 m1;refine⟨m,?_,by omega⟩
 have hp:=p2pos KK
 have le:u<=p:=by
  refine le_place hu p1 p2 ?_;refine Int.le_of_mul_le_mul_right (a:=2^62) ?_ (by decide)
  rw[show vr p*SC*2^62=vr p*2^62*SC by rw[Int.mul_assoc,Int.mul_comm SC,<-Int.mul_assoc],p3,show h*2^KK*2^62=h*4611686018427387904*2^KK by rw[Int.mul_assoc,Int.mul_comm (2^KK),<-Int.mul_assoc];rfl,show m*2^KK*SC=m*SC*2^KK by rw[Int.mul_assoc,Int.mul_comm (2^KK),<-Int.mul_assoc]]
  exact Int.mul_le_mul_of_nonneg_right (by omega) (Int.le_of_lt hp)
 rw[<-p3];exact Int.mul_le_mul_of_nonneg_right (vr_le le) (by decide)
theorem rnd_dn{l r:Int}(hr:Rq false l SC r)(h1: -SC<=l)(h2:l<=SC):∃m,m*2^KK<=vr r*2^62/\l*4611686018427387904 < m*SC+SC:=by
 obtain⟨m,hm⟩:∃m,(l*4611686018427387904) /SC=m:=⟨_,rfl⟩;have sc:=sc_pos;have a:=Int.ediv_mul_le (l*4611686018427387904) (Int.ne_of_gt sc);have b:=Int.lt_ediv_add_one_mul_self (l*4611686018427387904) sc;rw[hm]at a b;rw[Int.add_mul,Int.one_mul]at b
 have m1:m<=4611686018427387904:=by
  rcases Int.lt_or_le 4611686018427387904 m with c | c
  ·exfalso
   have:=Int.mul_le_mul_of_nonneg_right (show 4611686018427387905<=m by omega) (Int.le_of_lt sc)
   unfold SC at *
   omega
  ·exact c
 have m2: -4611686018427387904<=m:=by
  rcases Int.lt_or_le m (-4611686018427387904)with c | c
  ·exfalso
   have:=Int.mul_le_mul_of_nonneg_right (show m<= -4611686018427387905 by omega) (Int.le_of_lt sc)
   unfold SC at *
   omega
  ·exact c
 obtain⟨p,p1,p2,p3⟩:=frac m2 m1;refine⟨m,?_,by omega⟩
 have hp:=p2pos KK
 have le:p<=r:=by
  refine place_le hr p1 p2 ?_;refine Int.le_of_mul_le_mul_right (a:=2^62) ?_ (by decide)
  rw[show vr p*SC*2^62=vr p*2^62*SC by rw[Int.mul_assoc,Int.mul_comm SC,<-Int.mul_assoc],p3,show l*2^KK*2^62=l*4611686018427387904*2^KK by rw[Int.mul_assoc,Int.mul_comm (2^KK),<-Int.mul_assoc];rfl,show m*2^KK*SC=m*SC*2^KK by rw[Int.mul_assoc,Int.mul_comm (2^KK),<-Int.mul_assoc]]
  exact Int.mul_le_mul_of_nonneg_right (by omega) (Int.le_of_lt hp)
 rw[<-p3];exact Int.mul_le_mul_of_nonneg_right (vr_le le) (by decide)
theorem SB.tight{σ:Rat}{Z:Sp}(h:SB σ Z):widI Z<=p60:=by
 obtain⟨o1,o2⟩:=one_bd;obtain⟨r',u',e',b1,b2,b3⟩:=h.unit;obtain⟨l,h,r,u,rfl,hr,hu,h1,h2,h3,_,_,s1,s2⟩:=h
 injection e' with e'
 injection e' with e1 e2
 subst e1;subst e2
 have far:h-l<=35184372088832:=by
  have:=Rat.intCast_le_intCast.1 (Rat.le_trans s2 s1)
  omega
 obtain⟨m,m1,m2⟩:=rnd_up hu (by omega) h3;obtain⟨k,k1,k2⟩:=rnd_dn hr h1 (by omega)
 have mk2:m-k<=2:=by
  rcases Int.lt_or_le 2 (m-k)with c | c
  ·exfalso
   have:=Int.mul_le_mul_of_nonneg_right (show 3<=m-k by omega) (Int.le_of_lt sc_pos)
   rw[Int.sub_mul]at this
   unfold SC at *
   omega
  ·exact c
 have hp:=p2pos KK
 have w:vr u-vr r<=vr p60:=by
  refine Int.le_of_mul_le_mul_right (a:=2^62) ?_ (by decide);rw[Int.sub_mul]
  have e:vr p60*2^62=4*2^KK:=by
   rw[show (2:Int)^62=2^60*4 by decide,<-Int.mul_assoc,p60_vr,Int.mul_comm]
  have g:=Int.mul_le_mul_of_nonneg_right mk2 (Int.le_of_lt hp);rw[Int.sub_mul]at g;rw[e]
  omega
 have s:=(addp_spec (x:=u) (y:= -r) true (by omega) (by omega) (by omega) (by omega)).2;rw[vr_neg]at s;exact s.mono (up_self (r:=p60) (by decide) (by decide)) (by omega)
end Go.Proofs.YtomikokonmikgaaGreatDoor
namespace Go.Proofs.YtomikokonmikgaaGreatDoor
open Go.RowKit
set_option linter.unusedVariables false
set_option linter.unusedSimpArgs false
set_option maxRecDepth 100000
def meetsB (z x y:Int):Bool:=if z < 0 then decide (PHi*z<=y) && decide (x<=PLo*z)else decide (PLo*z<=y) && decide (x<=PHi*z)
theorem cmp_le12{x y c:Int}(h:cmpI x y=c):decide (c<=0)=decide (x<=y):=by
 rw[<-h]
 rcases cmpI_tri x y with⟨a,b⟩ | ⟨a,b⟩ | ⟨a,b⟩ <;> rw[b]
 ·rw[dt (show x<=y by omega)];rfl
 ·rw[dt (show x<=y by omega)];rfl
 ·rw[df (show ¬x<=y by omega)];rfl
theorem cmp_le{x y c:Int}(h:cmpI x y=c):decide (c<=0)=decide (x<=y):=by
 rw[<-h]
 by_cases e:x<=y
 ·rw[dt e]
  exact dt (by rcases cmpI_tri x y with⟨a,b⟩ | ⟨a,b⟩ | ⟨a,b⟩ <;> rw[b] <;> omega)
 ·rw[df e]
  exact df (by rcases cmpI_tri x y with⟨a,b⟩ | ⟨a,b⟩ | ⟨a,b⟩ <;> rw[b] <;> omega)
def ptI (i:Int):Sp:=if i%2=0 then mkI (opl 1) (opl 1)else mkI (opl (-1)) (opl (-1))
def stepV (cos:Bool)(x y:Int)(z:Sp)(i:Int):Sp:=if meetsB (if cos then 2*i else 2*i+1) x y then hullI z (ptI i)else z
def loopV (cos:Bool)(x y j:Int)(z:Sp):Nat->Sp
 | 0=>z
 | k+1=>stepV cos x y (loopV cos x y j z k) (j-4+k)
end Go.Proofs.YtomikokonmikgaaGreatDoor
namespace Go.Proofs.YtomikokonmikgaaGreatDoor
open Go Go.RowKit
set_option linter.unusedVariables false
def UnitS (z:Sp):Prop:=∃r u,z=some (r,u)/\ -opl 1<=r/\r<=u/\u<=opl 1
theorem UnitS.fin{z:Sp}(h:UnitS z):FinI z:=by
 obtain⟨o1,o2⟩:=one_bd;obtain⟨r,u,rfl,a,b,c⟩:=h;exact⟨b,by omega,by omega⟩
theorem unit_unit:UnitS unitI:=by
 obtain⟨o1,o2⟩:=one_bd;exact⟨_,_,unitI_some,Int.le_refl _,by omega,Int.le_refl _⟩
def MT (cos:Bool)(x y i:Int):Prop:=meetsB (if cos then 2*i else 2*i+1) x y=true
theorem pt_even{i:Int}(h:i%2=0):ptI i=some (opl 1,opl 1):=by
 obtain⟨o1,o2⟩:=one_bd
 unfold ptI
 rw[if_pos h];exact mkI_some (Int.le_refl _) (by omega) (by omega)
theorem pt_odd{i:Int}(h:¬i%2=0):ptI i=some (-opl 1,-opl 1):=by
 obtain⟨o1,o2⟩:=one_bd
 unfold ptI
 rw[if_neg h,one_neg];exact mkI_some (Int.le_refl _) (by omega) (by omega)
theorem hull_unit{r u p:Int}(h1: -opl 1<=r)(h2:r<=u)(h3:u<=opl 1)(p1: -opl 1<=p)(p2:p<=opl 1):hullI (some (r,u)) (some (p,p))=some (min r p,max u p):=by
 obtain⟨o1,o2⟩:=one_bd;exact hullI_some ⟨by omega,h2,by omega,by omega,by omega⟩ ⟨by omega,Int.le_refl _,by omega,by omega,by omega⟩
theorem loop_is{cos:Bool}{x y j r u:Int}(h1: -opl 1<=r)(h2:r<=u)(h3:u<=opl 1):∀k:Nat,∃e f,loopV cos x y j (some (r,u)) k=some (e,f)/\
  ((e=r/\∀t:Nat,t < k->MT cos x y (j-4+t)->(j-4+(t:Int))%2=0)\/(e= -opl 1/\∃t:Nat,t < k/\MT cos x y (j-4+t)/\¬(j-4+(t:Int))%2=0))/\
  ((f=u/\∀t:Nat,t < k->MT cos x y (j-4+t)->¬(j-4+(t:Int))%2=0)\/(f=opl 1/\∃t:Nat,t < k/\MT cos x y (j-4+t)/\(j-4+(t:Int))%2=0))
 | 0=>⟨r,u,rfl,.inl ⟨rfl,fun t ht=>absurd ht (Nat.not_lt_zero _)⟩,.inl ⟨rfl,fun t ht=>absurd ht (Nat.not_lt_zero _)⟩⟩
 | k+1=>by
  obtain⟨o1,o2⟩:=one_bd;obtain⟨e,f,eq,he,hf⟩:=loop_is (cos:=cos) (x:=x) (y:=y) (j:=j) h1 h2 h3 k
  have be: -opl 1<=e/\e<=f/\f<=opl 1:=by
   rcases he with⟨a,_⟩ | ⟨a,_⟩ <;> rcases hf with⟨b,_⟩ | ⟨b,_⟩ <;> omega
  show ∃e f,stepV cos x y (loopV cos x y j (some (r,u)) k) (j-4+k)=some (e,f)/\_
  rw[eq]
  unfold stepV
  have less:∀t:Nat,t < k+1->t < k\/t=k:=fun t ht=>by omega
  by_cases hm:MT cos x y (j-4+k)
  ·have hm':meetsB (if cos=true then 2*(j-4+(k:Int))else 2*(j-4+(k:Int))+1) x y=true:=hm
   rw[if_pos hm']
   by_cases hp:(j-4+(k:Int))%2=0
   ·rw[pt_even hp,hull_unit be.1 be.2.1 be.2.2 (by omega) (by omega)];refine⟨e,opl 1,by rw[Int.min_eq_left (by omega),Int.max_eq_right (by omega)],?_,.inr ⟨rfl,k,by omega,hm,hp⟩⟩
    rcases he with⟨a,b⟩ | ⟨a,t,b1,b2,b3⟩
    ·refine .inl ⟨a,fun t ht mt=>?_⟩
     rcases less t ht with c | rfl
     ·exact b t c mt
     ·exact hp
    ·exact .inr ⟨a,t,by omega,b2,b3⟩
   ·rw[pt_odd hp,hull_unit be.1 be.2.1 be.2.2 (by omega) (by omega)];refine⟨-opl 1,f,by rw[Int.min_eq_right (by omega),Int.max_eq_left (by omega)],.inr ⟨rfl,k,by omega,hm,hp⟩,?_⟩
    rcases hf with⟨a,b⟩ | ⟨a,t,b1,b2,b3⟩
    ·refine .inl ⟨a,fun t ht mt=>?_⟩
     rcases less t ht with c | rfl
     ·exact b t c mt
     ·exact hp
    ·exact .inr ⟨a,t,by omega,b2,b3⟩
  ·have hm':¬meetsB (if cos=true then 2*(j-4+(k:Int))else 2*(j-4+(k:Int))+1) x y=true:=hm
   rw[if_neg hm'];refine⟨e,f,rfl,?_,?_⟩
   ·rcases he with⟨a,b⟩ | ⟨a,t,b1,b2,b3⟩
    ·refine .inl ⟨a,fun t ht mt=>?_⟩
     rcases less t ht with c | rfl
     ·exact b t c mt
     ·exact absurd mt hm
    ·exact .inr ⟨a,t,by omega,b2,b3⟩
   ·rcases hf with⟨a,b⟩ | ⟨a,t,b1,b2,b3⟩
    ·refine .inl ⟨a,fun t ht mt=>?_⟩
     rcases less t ht with c | rfl
     ·exact b t c mt
     ·exact absurd mt hm
    ·exact .inr ⟨a,t,by omega,b2,b3⟩
theorem wid_far{a b:Int}(fa:fixB a=true)(fb:fixB b=true)(hw:¬opl 7<=widI (some (a,b))):fixI b-fixI a<=7*SC:=by
 obtain⟨a1,a2⟩:=fixB_fin fa;obtain⟨b1,b2⟩:=fixB_fin fb;have s:=(addp_spec (x:=b) (y:= -a) true b1 b2 (by omega) (by omega)).2
 have w7:addp true b (-a) < opl 7:=Int.not_le.1 hw
 obtain⟨_,_,u,_⟩:=s;have o7:=opl_pos (n:=7) (by decide) (by decide)
 have u':=u (by omega)
 rw[vr_neg,vr_neg]at u';have v7:=vr_lt w7;rw[opl_vr (by decide) (by decide)]at v7;obtain⟨_,fa2⟩:=fix_holds fa;obtain⟨fb1,_⟩:=fix_holds fb;have hp:=p2pos KK
 have d:(vr b-vr a)*SC < 7*2^KK*SC:=Int.mul_lt_mul_of_pos_right (by omega) sc_pos
 rw[Int.sub_mul]at d
 have e:(fixI b-(fixI a+1))*2^KK < 7*SC*2^KK:=by
  rw[Int.sub_mul,show 7*SC*2^KK=7*2^KK*SC by rw[Int.mul_assoc,Int.mul_comm SC,<-Int.mul_assoc]]
  omega
 have:=Int.lt_of_mul_lt_mul_right e (Int.le_of_lt hp)
 omega
theorem search{cos:Bool}{a b i:Int}(fa:fixB a=true)(fb:fixB b=true)(hw:¬opl 7<=widI (some (a,b)))(hm:MT cos (fixI a*2) (fixI b*2+2) i):∃t:Nat,t < 13/\i=(fixI a*2).fdiv (PLo*2)-4+t:=by
 have w:=wid_far fa fb hw;obtain⟨ba,bb⟩:=fix_bd fa;obtain⟨j,hj⟩:∃j,(fixI a*2).fdiv (PLo*2)=j:=⟨_,rfl⟩;rw[hj];rw[Int.fdiv_eq_ediv_of_nonneg _ (by decide)]at hj
 have j1:=Int.ediv_mul_le (fixI a*2) (show (PLo*2:Int)≠0 by decide)
 have j2:=Int.lt_ediv_add_one_mul_self (fixI a*2) (show (0:Int) < PLo*2 by decide)
 rw[hj]at j1 j2;generalize fixI a=A at *;generalize fixI b=B at *;clear hj fa fb hw
 have key:j-4<=i/\i<=j+8:=by
  unfold MT meetsB at hm
  cases cos
  ·simp only[Bool.false_eq_true,if_false]at hm
   by_cases c:2*i+1 < 0
   ·rw[if_pos c]at hm;simp only[Bool.and_eq_true,decide_eq_true_eq]at hm
    unfold SC PLo PHi at *
    omega
   ·rw[if_neg c]at hm;simp only[Bool.and_eq_true,decide_eq_true_eq]at hm
    unfold SC PLo PHi at *
    omega
  ·simp only[if_true]at hm
   by_cases c:2*i < 0
   ·rw[if_pos c]at hm;simp only[Bool.and_eq_true,decide_eq_true_eq]at hm
    unfold SC PLo PHi at *
    omega
   ·rw[if_neg c]at hm;simp only[Bool.and_eq_true,decide_eq_true_eq]at hm
    unfold SC PLo PHi at *
    omega
 exact⟨(i-(j-4)).toNat,by omega,by omega⟩
theorem search_bd{a:Int}(fa:fixB a=true): -1099511627776<=(fixI a*2).fdiv (PLo*2)/\(fixI a*2).fdiv (PLo*2)<=1099511627776:=by
 obtain⟨ba,bb⟩:=fix_bd fa;obtain⟨j,hj⟩:∃j,(fixI a*2).fdiv (PLo*2)=j:=⟨_,rfl⟩;rw[hj];rw[Int.fdiv_eq_ediv_of_nonneg _ (by decide)]at hj
 have j1:=Int.ediv_mul_le (fixI a*2) (show (PLo*2:Int)≠0 by decide)
 have j2:=Int.lt_ediv_add_one_mul_self (fixI a*2) (show (0:Int) < PLo*2 by decide)
 rw[hj]at j1 j2;generalize fixI a=A at *;clear hj fa
 unfold SC PLo at *
 omega
def AllV (cos:Bool)(X Z:Sp):Prop:=match X with
 | none=>Z=none
 | some (a,b)=>((fixB a=false\/fixB b=false\/opl 7<=widI (some (a,b)))/\Z=unitI)\/
   (fixB a=true/\fixB b=true/\¬opl 7<=widI (some (a,b))/\∃za zb,Sv cos a za/\Sv cos b zb/\Z=loopV cos (fixI a*2) (fixI b*2+2) ((fixI a*2).fdiv (PLo*2)) (hullI za zb) 13)
theorem all_ex (cos:Bool)(X:Sp):∃Z,AllV cos X Z:=by
 rcases X with _ | ⟨a,b⟩
 ·exact⟨none,rfl⟩
 ·by_cases h:fixB a=true/\fixB b=true/\¬opl 7<=widI (some (a,b))
  ·obtain⟨za,ha⟩:=sv_ex cos a;obtain⟨zb,hb⟩:=sv_ex cos b;exact⟨_,.inr ⟨h.1,h.2.1,h.2.2,za,zb,ha,hb,rfl⟩⟩
  ·refine⟨unitI,.inl ⟨?_,rfl⟩⟩
   cases e:fixB a
   ·exact .inl rfl
   ·cases f:fixB b
    ·exact .inr (.inl rfl)
    ·right;right
     rcases Int.lt_or_le (widI (some (a,b))) (opl 7)with c | c
     ·exact absurd ⟨e,f,Int.not_le.2 c⟩ h
     ·exact c
theorem sv_cases{cos:Bool}{n:Int}{Z:Sp}(h:Sv cos n Z):(fixB n=false/\Z=unitI)\/(fixB n=true/\SB (su cos n*SR) Z/\ -(17/10)<=ang (ofX cos (fixI n)) (zq cos n)/\ang (ofX cos (fixI n)) (zq cos n)<=17/10):=by
 cases e:fixB n
 ·left
  rcases h with⟨_,h⟩ | ⟨c,_⟩
  ·exact⟨rfl,h.symm⟩
  ·rw[e]at c
   cases c
 ·exact .inr ⟨rfl,sv_box e h⟩
theorem SB.us{σ:Rat}{Z:Sp}(h:SB σ Z):UnitS Z:=h.unit
theorem hull_us{x y:Sp}(hx:UnitS x)(hy:UnitS y):UnitS (hullI x y):=by
 obtain⟨o1,o2⟩:=one_bd;obtain⟨r,u,rfl,a1,a2,a3⟩:=hx;obtain⟨p,q,rfl,b1,b2,b3⟩:=hy;refine⟨min r p,max u q,hullI_some ⟨by omega,a2,by omega,by omega,by omega⟩ ⟨by omega,b2,by omega,by omega,by omega⟩,by omega,by omega,by omega⟩
theorem p60_bd:0 < p60/\p60 < 19342822337206103650074625:=by decide
theorem sv_us{cos:Bool}{n:Int}{Z:Sp}(h:Sv cos n Z):UnitS Z:=by
 rcases sv_cases h with⟨_,rfl⟩ | ⟨_,b,_⟩
 ·exact unit_unit
 ·exact b.us
end Go.Proofs.YtomikokonmikgaaGreatDoor
namespace Go.Proofs.YtomikokonmikgaaGreatDoor
open Go.RowKit
set_option linter.unusedVariables false
def lo1:Sp->List Int
 | none=>[]
 | some (a,_)=>[a]
def hi1:Sp->List Int
 | none=>[]
 | some (_,b)=>[b]
def lowL:List Sp->List Int
 | []=>[]
 | x::l=>lo1 x ++lowL l
def highL:List Sp->List Int
 | []=>[]
 | x::l=>hi1 x ++highL l
theorem lowL_append:∀(l m:List Sp),lowL (l ++m)=lowL l ++lowL m
 | [],m=>rfl
 | x::l,m=>by
  show lo1 x ++lowL (l ++m)=(lo1 x ++lowL l)++lowL m
  rw[lowL_append l m,List.append_assoc]
theorem highL_append:∀(l m:List Sp),highL (l ++m)=highL l ++highL m
 | [],m=>rfl
 | x::l,m=>by
  show hi1 x ++highL (l ++m)=(hi1 x ++highL l)++highL m
  rw[highL_append l m,List.append_assoc]
theorem lowL_take{l:List Sp}{k:Nat}(h:k < l.length):lowL (l.take (k+1))=lowL (l.take k)++lo1 (l.getD k none):=by
 rw[List.take_succ_eq_append_getElem h,lowL_append,List.getD_eq_getElem?_getD,List.getElem?_eq_getElem h];exact congrArg _ (List.append_nil _)
theorem highL_take{l:List Sp}{k:Nat}(h:k < l.length):highL (l.take (k+1))=highL (l.take k)++hi1 (l.getD k none):=by
 rw[List.take_succ_eq_append_getElem h,highL_append,List.getD_eq_getElem?_getD,List.getElem?_eq_getElem h];exact congrArg _ (List.append_nil _)
theorem len_lo:∀l:List Sp,(lowL l).length<=l.length
 | []=>Nat.le_refl _
 | none::l=>Nat.le_succ_of_le (len_lo l)
 | some (a,b)::l=>Nat.succ_le_succ (len_lo l)
theorem meetI_mk (A B a b:Int):meetI (mkI A B) (some (a,b))=mkI (max A a) (min B b):=by
 by_cases h:A<=B/\A < 19342822337206103650074625/\ -19342822337206103650074625 < B
 ·rw[mkI_some h.1 h.2.1 h.2.2]
  rfl
 ·rw[mkI_none h,mkI_none (fun c=>h (by omega))]
  rfl
theorem meet_fold:∀(l:List Sp) (A B:Int),(lowL l).length=l.length->l.foldl meetI (mkI A B)=mkI ((lowL l).foldl max A) ((highL l).foldl min B)
 | [],A,B,_=>rfl
 | none::l,A,B,h=>by
  have h1:(lowL l).length=l.length+1:=h
  have h2:=len_lo l
  omega
 | some (a,b)::l,A,B,h=>by
  show l.foldl meetI (meetI (mkI A B) (some (a,b)))=_
  rw[meetI_mk];exact meet_fold l (max A a) (min B b) (Nat.succ_inj.1 h)
theorem meet_some{l:List Sp}(h:(lowL l).length=l.length):meetL l=mkI (mxp (lowL l)) (mnp (highL l)):=by
 have e:allI=mkI (-19342822337206103650074625) 19342822337206103650074625:=(mkI_some (by omega) (by omega) (by omega)).symm
 unfold meetL mxp mnp
 rw[e,TP_eq];exact meet_fold l _ _ h
theorem meet_gone:∀(l:List Sp) (x:Sp),(lowL l).length < l.length->l.foldl meetI x=none
 | [],x,h=>absurd h (Nat.lt_irrefl _)
 | none::l,x,h=>by
  show l.foldl meetI (meetI x none)=none
  rw[meetI_none];exact meet_stuck l
 | some (a,b)::l,x,h=>meet_gone l _ (Nat.lt_of_succ_lt_succ h)
theorem meet_no{l:List Sp}(h:(lowL l).length < l.length):meetL l=none:=meet_gone l allI h
theorem hullI_mk{A B a b:Int}(h:A=19342822337206103650074625/\B= -19342822337206103650074625\/A<=B/\A < 19342822337206103650074625/\ -19342822337206103650074625 < B)(k:SpOk (some (a,b))):
  hullI (mkI A B) (some (a,b))=mkI (min A a) (max B b)/\(min A a<=max B b/\min A a < 19342822337206103650074625/\ -19342822337206103650074625 < max B b):=by
 obtain⟨k1,k2,k3,k4,k5⟩:=k;refine⟨?_,by omega,by omega,by omega⟩
 rcases h with⟨rfl,rfl⟩ | ⟨h1,h2,h3⟩
 ·rw[mkI_none (by omega),mkI_some (by omega) (by omega) (by omega)]
  have e1:min 19342822337206103650074625 a=a:=by omega
  have e2:max (-19342822337206103650074625) b=b:=by omega
  rw[e1,e2]
  rfl
 ·rw[mkI_some h1 h2 h3]
  rfl
theorem hull_fold:∀(l:List Sp) (A B:Int),(A=19342822337206103650074625/\B= -19342822337206103650074625\/A<=B/\A < 19342822337206103650074625/\ -19342822337206103650074625 < B)->(∀y ∈ l,SpOk y)->l.foldl hullI (mkI A B)=mkI ((lowL l).foldl min A) ((highL l).foldl max B)
 | [],A,B,_,_=>rfl
 | none::l,A,B,h,k=>by
  show l.foldl hullI (hullI (mkI A B) none)=_
  rw[hullI_none]
  exact hull_fold l A B h (fun y hy=>k y (List.mem_cons_of_mem _ hy))
 | some (a,b)::l,A,B,h,k=>by
  obtain⟨e,g⟩:=hullI_mk h (k _ (List.mem_cons_self ..))
  show l.foldl hullI (hullI (mkI A B) (some (a,b)))=_
  rw[e]
  exact hull_fold l _ _ (.inr g) (fun y hy=>k y (List.mem_cons_of_mem _ hy))
theorem hull_ends{l:List Sp}(h:∀y ∈ l,SpOk y):hullL l=mkI (mnp (lowL l)) (mxp (highL l)):=by
 have e:(none:Sp)=mkI 19342822337206103650074625 (-19342822337206103650074625):=(mkI_none (by omega)).symm
 unfold hullL mxp mnp
 rw[e,TP_eq];exact hull_fold l _ _ (.inl ⟨rfl,rfl⟩) h
def nrow:List (Int × Bool × Int × Int)->List Value
 | []=>[]
 | (K,s,M,E)::l=> .int .i64 K:: .bool s:: .int .u64 M:: .int .i64 E::nrow l
theorem nrow_append:∀l m,nrow (l ++m)=nrow l ++nrow m
 | [],m=>rfl
 | (K,s,M,E)::l,m=>by
  show _::_::_::_::nrow (l ++m)=_
  rw[nrow_append l m]
  rfl
theorem nrow_at:∀(l:List (Int × Bool × Int × Int)) (k:Nat) (K:Int) (s:Bool) (M E:Int),l[k]?=some (K,s,M,E)->(nrow l)[k*4]?=some (.int .i64 K)/\(nrow l)[k*4+1]?=some (.bool s)/\(nrow l)[k*4+2]?=some (.int .u64 M)/\(nrow l)[k*4+3]?=some (.int .i64 E)
 | [],k,_,_,_,_,h=>by cases h
 | (K,s,M,E)::l,0,_,_,_,_,h=>by
  cases h
  exact⟨rfl,rfl,rfl,rfl⟩
 | (K,s,M,E)::l,k+1,K2,s2,M2,E2,h=>by
  have:=nrow_at l k K2 s2 M2 E2 h
  have e:(k+1)*4=k*4+4:=by omega
  rw[e];exact this
def Na (w:World)(base:Nat)(A:Option Addr)(n c:Nat)(l:List Int):Prop:=
 ∃r:List (Int × Bool × Int × Int),w.ownsRow base 24 4 (.slice A n c) n (nrow r)/\r.length=n/\l.length=n/\∀k,k < n->∃K s M E,r[k]?=some (K,s,M,E)/\Fq K s M E (l.getD k 0)
theorem Na.nil (w:World)(base:Nat):Na w base none 0 0 []:=⟨[],World.ownsRow_nil w base _ 4,rfl,rfl,fun k h=>absurd h (Nat.not_lt_zero _)⟩
theorem Na.len{w:World}{base n c:Nat}{A:Option Addr}{l:List Int}(h:Na w base A n c l):l.length=n:=by
 obtain⟨_,_,_,h,_⟩:=h;exact h
theorem Na.below{w w':World}{base n c:Nat}{A:Option Addr}{l:List Int}(h:Na w base A n c l)(hb:Below w.heap.size w w'):Na w' base A n c l:=by
 obtain⟨r,h1,h2⟩:=h;refine⟨r,⟨h1.1,?_⟩,h2⟩
 rcases h1.2 with h3 | ⟨g,cap,cur,hv,hg,hh,q⟩
 ·exact .inl h3
 ·refine .inr ⟨g,cap,cur,hv,hg,?_,q⟩;rw[hb.block g (Array.getElem?_eq_some_iff.1 hh).1];exact hh
abbrev Na.b:= @Na.below
theorem Na.nl{w:World}{base n c:Nat}{A:Option Addr}{l:List Int}(h:Na w base A n c l)(hn:n<=1099511627776):Nl w A n c l:=by
 obtain⟨r,h1,h2,h3,h4⟩:=h
 rcases h1.2 with⟨e1,e2⟩ | ⟨g,cap,cur,hv,hg,hh,hc,hm,hs,ht⟩
 ·injection e1 with a1 a2 a3
  subst a1;subst a2;subst a3
  exact⟨h3,Nat.le_refl _,by omega,fun h=>absurd h (Nat.lt_irrefl _)⟩
 ·injection hv with a1 a2 a3
  subst a1;subst a3
  refine⟨h3,hc,hn,fun _=>⟨g,0,rfl,fun k hk=>?_⟩⟩
  obtain⟨K,s,M,E,hr,q⟩:=h4 k hk;obtain⟨c0,c1,c2,c3⟩:=nrow_at r k K s M E hr
  have cell:∀j v,(nrow r)[j]?=some v->w.cell? ⟨g,0+j,none⟩=some v:=by
   intro j v hv
   rw[cell_of_row w g (0+j) _ _ (0,0) hh,Nat.zero_add,<-Array.getElem?_toList];rw[<-ht,List.getElem?_take]at hv
   split at hv
   ·exact hv
   ·cases hv
  exact⟨K,s,M,E,cell _ _ c0,by rw[Nat.add_assoc];exact cell _ _ c1,by rw[Nat.add_assoc];exact cell _ _ c2,by rw[Nat.add_assoc];exact cell _ _ c3,q.top,q.rk⟩
end Go.Proofs.YtomikokonmikgaaGreatDoor
namespace Go.Proofs.YtomikokonmikgaaGreatDoor
open Go Go.RowKit
set_option linter.unusedVariables false
def crZ (cos:Bool)(i:Int):Int:=if cos then 2*i else 2*i+1
def loZ (z:Int):Int:=if z < 0 then z*PHi else z*PLo
def hiZ (z:Int):Int:=if z < 0 then z*PLo else z*PHi
theorem meets_z (z x y:Int):meetsB z x y=(decide (loZ z<=y) && decide (x<=hiZ z)):=by
 unfold meetsB loZ hiZ
 by_cases c:z < 0
 ·rw[if_pos c,if_pos c,if_pos c,Int.mul_comm PHi,Int.mul_comm PLo]
 ·rw[if_neg c,if_neg c,if_neg c,Int.mul_comm PHi,Int.mul_comm PLo]
def crL (cos:Bool)(x y j:Int):Nat->List Sp
 | 0=>[]
 | k+1=>crL cos x y j k ++(if meetsB (crZ cos (j+k)) x y=true then [ptI (j+k)]else [])
theorem crL_len (cos:Bool)(x y j:Int):∀k:Nat,(crL cos x y j k).length<=k
 | 0=>Nat.le_refl _
 | k+1=>by
  have:=crL_len cos x y j k
  show (crL cos x y j k ++_).length<=k+1
  rw[List.length_append]
  split <;> simp <;> omega
theorem pt_us (i:Int):∃p,ptI i=some (p,p)/\ -opl 1<=p/\p<=opl 1:=by
 obtain⟨o1,o2⟩:=one_bd
 by_cases h:i%2=0
 ·exact⟨_,pt_even h,by omega,Int.le_refl _⟩
 ·exact⟨_,pt_odd h,Int.le_refl _,by omega⟩
theorem us_ok{z:Sp}(h:UnitS z):SpOk z:=by
 obtain⟨o1,o2⟩:=one_bd;obtain⟨r,u,rfl,a,b,c⟩:=h;exact⟨by omega,b,by omega,by omega,by omega⟩
theorem pt_UnitS (i:Int):UnitS (ptI i):=by
 obtain⟨p,e,a,b⟩:=pt_us i;exact⟨p,p,e,a,Int.le_refl _,b⟩
theorem crL_us (cos:Bool)(x y j:Int):∀k:Nat,∀z ∈ crL cos x y j k,UnitS z
 | 0=>fun z h=>by cases h
 | k+1=>fun z h=>by
  rcases List.mem_append.1 h with h | h
  ·exact crL_us cos x y j k z h
  ·split at h
   ·obtain rfl:=List.mem_singleton.1 h
    exact pt_UnitS _
   ·cases h
theorem crL_ok (cos:Bool)(x y j:Int)(k:Nat):SpOk (hullL (crL cos x y j k)):=hullL_ok fun z h=>us_ok (crL_us cos x y j k z h)
theorem hullL_app1 (l:List Sp)(a:Sp):hullL (l ++[a])=hullI (hullL l) a:=by
 unfold hullL
 rw[List.foldl_append]
 rfl
theorem cr_is{cos:Bool}{x y j r u:Int}(h1: -opl 1<=r)(h2:r<=u)(h3:u<=opl 1):∀k:Nat,∃e f,hullI (hullL (crL cos x y j k)) (some (r,u))=some (e,f)/\
  ((e=r/\∀t:Nat,t < k->MT cos x y (j+t)->(j+(t:Int))%2=0)\/(e= -opl 1/\∃t:Nat,t < k/\MT cos x y (j+t)/\¬(j+(t:Int))%2=0))/\
  ((f=u/\∀t:Nat,t < k->MT cos x y (j+t)->¬(j+(t:Int))%2=0)\/(f=opl 1/\∃t:Nat,t < k/\MT cos x y (j+t)/\(j+(t:Int))%2=0))
 | 0=>⟨r,u,rfl,.inl ⟨rfl,fun t ht=>absurd ht (Nat.not_lt_zero _)⟩,.inl ⟨rfl,fun t ht=>absurd ht (Nat.not_lt_zero _)⟩⟩
 | k+1=>by
  obtain⟨o1,o2⟩:=one_bd;obtain⟨e,f,eq,he,hf⟩:=cr_is (cos:=cos) (x:=x) (y:=y) (j:=j) h1 h2 h3 k
  have be: -opl 1<=e/\e<=f/\f<=opl 1:=by
   rcases he with⟨a,_⟩ | ⟨a,_⟩ <;> rcases hf with⟨b,_⟩ | ⟨b,_⟩ <;> omega
  have less:∀t:Nat,t < k+1->t < k\/t=k:=fun t ht=>by omega
  have okB:SpOk (some (r,u)):=⟨by omega,h2,by omega,by omega,by omega⟩
  by_cases hm:MT cos x y (j+k)
  ·have hm':meetsB (crZ cos (j+k)) x y=true:=hm
   have e1:hullI (hullL (crL cos x y j (k+1))) (some (r,u))=hullI (some (e,f)) (ptI (j+k)):=by
    show hullI (hullL (crL cos x y j k ++(if meetsB (crZ cos (j+k)) x y=true then [ptI (j+k)]else []))) (some (r,u))=_
    rw[if_pos hm',hullL_app1,hull_assoc (crL_ok cos x y j k) (us_ok (pt_UnitS _)) okB,hull_comm (x:=ptI _),<-hull_assoc (crL_ok cos x y j k) okB (us_ok (pt_UnitS _)),eq]
   rw[e1]
   by_cases hp:(j+(k:Int))%2=0
   ·rw[pt_even hp,hull_unit be.1 be.2.1 be.2.2 (by omega) (by omega)];refine⟨e,opl 1,by rw[Int.min_eq_left (by omega),Int.max_eq_right (by omega)],?_,.inr ⟨rfl,k,by omega,hm,hp⟩⟩
    rcases he with⟨a,b⟩ | ⟨a,t,b1,b2,b3⟩
    ·refine .inl ⟨a,fun t ht mt=>?_⟩
     rcases less t ht with c | rfl
     ·exact b t c mt
     ·exact hp
    ·exact .inr ⟨a,t,by omega,b2,b3⟩
   ·rw[pt_odd hp,hull_unit be.1 be.2.1 be.2.2 (by omega) (by omega)];refine⟨-opl 1,f,by rw[Int.min_eq_right (by omega),Int.max_eq_left (by omega)],.inr ⟨rfl,k,by omega,hm,hp⟩,?_⟩
    rcases hf with⟨a,b⟩ | ⟨a,t,b1,b2,b3⟩
    ·refine .inl ⟨a,fun t ht mt=>?_⟩
     rcases less t ht with c | rfl
     ·exact b t c mt
     ·exact hp
    ·exact .inr ⟨a,t,by omega,b2,b3⟩
  ·have hm':¬meetsB (crZ cos (j+k)) x y=true:=hm
   have e1:hullI (hullL (crL cos x y j (k+1))) (some (r,u))=some (e,f):=by
    show hullI (hullL (crL cos x y j k ++(if meetsB (crZ cos (j+k)) x y=true then [ptI (j+k)]else []))) (some (r,u))=_
    rw[if_neg hm',List.append_nil,eq]
   rw[e1];refine⟨e,f,rfl,?_,?_⟩
   ·rcases he with⟨a,b⟩ | ⟨a,t,b1,b2,b3⟩
    ·refine .inl ⟨a,fun t ht mt=>?_⟩
     rcases less t ht with c | rfl
     ·exact b t c mt
     ·exact absurd mt hm
    ·exact .inr ⟨a,t,by omega,b2,b3⟩
   ·rcases hf with⟨a,b⟩ | ⟨a,t,b1,b2,b3⟩
    ·refine .inl ⟨a,fun t ht mt=>?_⟩
     rcases less t ht with c | rfl
     ·exact b t c mt
     ·exact absurd mt hm
    ·exact .inr ⟨a,t,by omega,b2,b3⟩
theorem loZ_mono{a b:Int}(h:a<=b):loZ a<=loZ b:=by
 unfold loZ PLo PHi
 split <;> split <;> omega
theorem crZ_mono (cos:Bool){a b:Int}(h:a<=b):crZ cos a<=crZ cos b:=by
 unfold crZ
 cases cos
 ·simp only[Bool.false_eq_true,if_false]
  omega
 ·simp only[if_true]
  omega
theorem cr_first{cos:Bool}{X y j i:Int}(hX: -4294967296*SC<=X/\X<=4294967296*SC)(hj:X.fdiv (PLo*2)=j)(hm:MT cos X y i):j<=i:=by
 rw[Int.fdiv_eq_ediv_of_nonneg _ (by decide)]at hj
 have j1:=Int.ediv_mul_le X (show (PLo*2:Int)≠0 by decide)
 have j2:=Int.lt_ediv_add_one_mul_self X (show (0:Int) < PLo*2 by decide)
 rw[hj]at j1 j2;clear hj;obtain⟨h1,h2⟩:=hX
 unfold MT meetsB at hm
 cases cos
 ·simp only[Bool.false_eq_true,if_false]at hm
  by_cases c:2*i+1 < 0
  ·rw[if_pos c]at hm;simp only[Bool.and_eq_true,decide_eq_true_eq]at hm
   unfold SC PLo PHi at *
   omega
  ·rw[if_neg c]at hm;simp only[Bool.and_eq_true,decide_eq_true_eq]at hm
   unfold SC PLo PHi at *
   omega
 ·simp only[if_true]at hm
  by_cases c:2*i < 0
  ·rw[if_pos c]at hm;simp only[Bool.and_eq_true,decide_eq_true_eq]at hm
   unfold SC PLo PHi at *
   omega
  ·rw[if_neg c]at hm;simp only[Bool.and_eq_true,decide_eq_true_eq]at hm
   unfold SC PLo PHi at *
   omega
theorem cr_last{cos:Bool}{x y i k:Int}(hs:y < loZ (crZ cos k))(hm:MT cos x y i):i < k:=by
 refine Int.not_le.1 fun c=>?_
 have hm':meetsB (crZ cos i) x y=true:=hm
 rw[meets_z,Bool.and_eq_true,decide_eq_true_eq]at hm'
 have:=loZ_mono (crZ_mono cos c)
 omega
theorem cr_stop{cos:Bool}{X y j:Int}(hX: -4294967296*SC<=X/\X<=4294967296*SC)(hj:X.fdiv (PLo*2)=j)(hy:y<=X+14*SC+2):y < loZ (crZ cos (j+6)):=by
 rw[Int.fdiv_eq_ediv_of_nonneg _ (by decide)]at hj
 have j1:=Int.ediv_mul_le X (show (PLo*2:Int)≠0 by decide)
 have j2:=Int.lt_ediv_add_one_mul_self X (show (0:Int) < PLo*2 by decide)
 rw[hj]at j1 j2;clear hj;obtain⟨h1,h2⟩:=hX
 unfold loZ crZ
 cases cos
 ·simp only[Bool.false_eq_true,if_false]
  unfold SC PLo PHi at *
  split <;> omega
 ·simp only[if_true]
  unfold SC PLo PHi at *
  split <;> omega
theorem cr_all{cos:Bool}{a b j:Int}{za zb:Sp}{k:Nat}(fa:fixB a=true)(fb:fixB b=true)(hw:¬opl 7<=widI (some (a,b)))(ha:Sv cos a za)(hb:Sv cos b zb)(hj:(fixI a*2).fdiv (PLo*2)=j)(hs:fixI b*2+2 < loZ (crZ cos (j+k))):
  hullL (crL cos (fixI a*2) (fixI b*2+2) j k ++[za,zb])=loopV cos (fixI a*2) (fixI b*2+2) j (hullI za zb) 13:=by
 obtain⟨o1,o2⟩:=one_bd;have ua:=sv_us ha;have ub:=sv_us hb;obtain⟨r,u,hz,h1,h2,h3⟩:=hull_us ua ub
 have e1:hullL (crL cos (fixI a*2) (fixI b*2+2) j k ++[za,zb])=hullI (hullL (crL cos (fixI a*2) (fixI b*2+2) j k)) (hullI za zb):=by
  rw[<-hull_assoc (crL_ok _ _ _ _ _) (us_ok ua) (us_ok ub),<-hullL_app1,<-hullL_app1,List.append_assoc]
  rfl
 obtain⟨ba,bb⟩:=fix_bd fa
 have hX: -4294967296*SC<=fixI a*2/\fixI a*2<=4294967296*SC:=by
  generalize fixI a=A at *
  unfold SC at *
  omega
 have fw:∀i,MT cos (fixI a*2) (fixI b*2+2) i->∃t:Nat,t < k/\i=j+t:=fun i hm=>by
  have c1:=cr_first hX hj hm;have c2:=cr_last hs hm;exact⟨(i-j).toNat,by omega,by omega⟩
 have gw:∀i,MT cos (fixI a*2) (fixI b*2+2) i->∃t:Nat,t < 13/\i=j-4+t:=fun i hm=>by
  have:=search fa fb hw hm
  rw[hj]at this;exact this
 rw[e1,hz];obtain⟨e,f,eq,he,hf⟩:=cr_is (cos:=cos) (x:=fixI a*2) (y:=fixI b*2+2) (j:=j) h1 h2 h3 k;obtain⟨e',f',eq',he',hf'⟩:=loop_is (cos:=cos) (x:=fixI a*2) (y:=fixI b*2+2) (j:=j) h1 h2 h3 13;rw[eq,eq']
 obtain rfl:e=e':=by
  rcases he with⟨p,q⟩ | ⟨p,t,q1,q2,q3⟩ <;> rcases he' with⟨p',q'⟩ | ⟨p',t',q1',q2',q3'⟩
  ·omega
  ·obtain⟨s,s1,s2⟩:=fw _ q2';exact absurd (by have:=q s s1 (s2▸q2');omega) q3'
  ·obtain⟨s,s1,s2⟩:=gw _ q2;exact absurd (by have:=q' s s1 (s2▸q2);omega) q3
  ·omega
 obtain rfl:f=f':=by
  rcases hf with⟨p,q⟩ | ⟨p,t,q1,q2,q3⟩ <;> rcases hf' with⟨p',q'⟩ | ⟨p',t',q1',q2',q3'⟩
  ·omega
  ·obtain⟨s,s1,s2⟩:=fw _ q2';exact absurd q3' (by have:=q s s1 (s2▸q2');omega)
  ·obtain⟨s,s1,s2⟩:=gw _ q2;exact absurd q3 (by have:=q' s s1 (s2▸q2);omega)
  ·omega
 rfl
end Go.Proofs.YtomikokonmikgaaGreatDoor
namespace Go.Proofs.YtomikokonmikgaaGreatDoor
set_option maxHeartbeats 8000000
open Go.RowKit
set_option linter.unusedVariables false
set_option maxRecDepth 100000
theorem infoNum:(Tryz.prog.info? 24).map (fun i=>(i.zero,i.size,i.bytes))=some (some (.agg #[.int .i64 0,.bool false,.int .u64 0,.int .i64 0]),4,32):=by kernel_rfl
section
variable {w w':World} {base n c:Nat} {A:Option Addr} {l:List Int}
def ownA (A:Option Addr):Option Nat:=A.map (·.block)
theorem own_eq (A:Option Addr)(n c:Nat):(Value.slice A n c).ownBlock=ownA A:=by cases A <;> rfl
theorem Na.kept{row:Option Nat}(h:Na w base A n c l)(hg:w.grownBy w' row)(hne:ownA A=none\/ownA A≠row):Na w' base A n c l:=by
 obtain⟨r,h1,h2⟩:=h;exact⟨r,h1.kept hg (by rw[own_eq];exact hne),h2⟩
theorem Na.own_lt (h:Na w base A n c l):∀k,ownA A=some k->base<=k/\k < w.heap.size:=by
 obtain⟨r,h1,h2⟩:=h
 intro k hk
 exact h1.lt k (by rw[own_eq];exact hk)
theorem run_na{ty:TypeId}{g:Nat}{K M E a:Int}{s:Bool}(h:Na w base A n c l)(q:Fq K s M E a)(X:Bo w g #[.int .i64 K,.bool s,.int .u64 M,.int .i64 E] 24)(hn:n+1<=1099511627776)(hb:base<=w.heap.size):
  ∃A2 c2 w',(Builtin.append_ #[85,85] ty #[.slice A n c,.slice (some ⟨g,0,none⟩) 1 1]).run Tryz.prog w= .ok (.slice A2 (n+1) c2) w'/\Na w' base A2 (n+1) c2 (l ++[a])/\w.grownBy w' (ownA A)/\(ownA A2=ownA A\/ownA A2=some w.heap.size):=by
 obtain⟨i,hi,hz,hsi,hby⟩:=info_parts infoNum;obtain⟨r,h1,h2,h3,h4⟩:=h
 obtain⟨v',w',hr,ho,hg,_,hat⟩:=run_append_own_at (P:=Tryz.prog) w base 85 ty 24 i _ 4 32 Tryz.underlying85 hi hz hsi hby rfl (by decide) _ n (nrow r) h1 ⟨g,0,none⟩ 1 1 (nrow [(K,s,M,E)]) rfl (by
  intro j u hj
  have hc:=X.cell
  rcases j with _ | _ | _ | _ | j
  ·cases hj
   exact hc 0
  ·cases hj
   exact hc 1
  ·cases hj
   exact hc 2
  ·cases hj
   exact hc 3
  ·cases hj) (by
  intro u hu
  simp only[nrow,List.mem_cons,List.not_mem_nil,or_false]at hu
  rcases hu with rfl | rfl | rfl | rfl <;> rfl) (by unfold maxLen;omega) (by omega) hb
 rw[own_eq]at hg hat;rw[<-nrow_append]at ho
 obtain⟨A2,c2,rfl⟩:∃A2 c2,v'= .slice A2 (n+1) c2:=by
  rcases ho.2 with⟨_,h0⟩ | ⟨g',cap',cur',hv,_⟩
  ·omega
  ·exact⟨_,_,hv⟩
 rw[own_eq]at hat
 refine⟨A2,c2,w',hr,⟨_,ho,by rw[List.length_append,h2];rfl,by rw[List.length_append,h3];rfl,fun k hk=>?_⟩,hg,hat⟩
 by_cases hkn:k < n
 ·obtain⟨K1,s1,M1,E1,hq,qq⟩:=h4 k hkn;refine⟨K1,s1,M1,E1,by rw[List.getElem?_append_left (by omega)];exact hq,?_⟩
  rw[List.getD_eq_getElem?_getD,List.getElem?_append_left (by omega),<-List.getD_eq_getElem?_getD];exact qq
 ·obtain rfl:k=n:=by omega
  refine⟨K,s,M,E,by rw[List.getElem?_append_right (by omega),h2];simp,?_⟩
  rw[List.getD_eq_getElem?_getD,List.getElem?_append_right (by omega),h3]
  simpa using q
theorem wpList_na{ops:Array Oper}{rest:List Oper}{o:Oper}{a:Act}{Q:Exit->Act->World->Prop}(hgd:o.guard=none)(s x:Operand)
  (ho:o.op= .call {callee:= .builtin .append,args:= #[s,x],argTypes:= #[85,85]}) {g:Nat} {K M E p:Int} {b:Bool}
  (hs:a.eval s= .slice A n c) (hx:a.eval x= .slice (some ⟨g,0,none⟩) 1 1) (h:Na w base A n c l) (q:Fq K b M E p) (X:Bo w g #[.int .i64 K,.bool b,.int .u64 M,.int .i64 E] 24) (hn:n+1<=1099511627776) (hb:base<=w.heap.size)
  (hK:∀A2 c2 w',Na w' base A2 (n+1) c2 (l ++[p])->w.grownBy w' (ownA A)->(ownA A2=ownA A\/ownA A2=some w.heap.size)->wpList Tryz.prog ops Q rest (a.put o.dst (.slice A2 (n+1) c2)) w'):wpList Tryz.prog ops Q (o::rest) a w:=by
 refine wpList_plain hgd fun K hK2=>?_
 obtain⟨A2,c2,w',hr,h1,h2,h3⟩:=run_na (ty:=o.type) h q X hn hb
 unfold Oper.wp execOp
 simp only[ho,resolve,invoke,builtin,Sem.run_bind,Sem.run_pure,Result.andThen_ok,List.map_toArray,List.map_cons,List.map_nil,hs,hx,hr];exact hK2 _ _ (hK A2 c2 w' h1 h2 h3)
end
set_option linter.unusedSimpArgs false
theorem Nl.lit2{W:World}{g:Nat}{D1 D2 M1 M2 E1 E2 r1 r2:Int}{s1 s2:Bool}(hg:W.heap.size=g)(h1:LQ M1)(h2:LQ M2)(k1:rk D1 s1 M1 E1=r1)(k2:rk D2 s2 M2 E2=r2):
  Nl (W.alloc (.cells #[.int .i64 D1,.bool s1,.int .u64 M1,.int .i64 E1,.int .i64 D2,.bool s2,.int .u64 M2,.int .i64 E2] 24)) (some ⟨g,0,none⟩) 2 2 [r1,r2]:=by
 subst hg;have hh:=heap_alloc_new W (.cells #[.int .i64 D1,.bool s1,.int .u64 M1,.int .i64 E1,.int .i64 D2,.bool s2,.int .u64 M2,.int .i64 E2] 24)
 refine⟨rfl,Nat.le_refl _,by decide,fun _=>⟨_,0,rfl,fun k hk=>?_⟩⟩
 rcases (by omega:k=0\/k=1)with rfl | rfl
 ·exact⟨D1,s1,M1,E1,by rw[cell_of_row _ _ _ _ _ _ hh];rfl,by rw[cell_of_row _ _ _ _ _ _ hh];rfl,by rw[cell_of_row _ _ _ _ _ _ hh];rfl,by rw[cell_of_row _ _ _ _ _ _ hh];rfl,h1,k1⟩
 ·exact⟨D2,s2,M2,E2,by rw[cell_of_row _ _ _ _ _ _ hh];rfl,by rw[cell_of_row _ _ _ _ _ _ hh];rfl,by rw[cell_of_row _ _ _ _ _ _ hh];rfl,by rw[cell_of_row _ _ _ _ _ _ hh];rfl,h2,k2⟩
theorem mxp_two{a b:Int}(ha: -19342822337206103650074625<=a):mxp [a,b]=max a b:=by
 have:=TP_eq
 show max (max (-TP) a) b=_
 omega
theorem nInfE{w:World}(s:Bool):Calls Tryz.prog 79 #[.bool s] w (fun e w'=>e= .returned (.agg #[.int .i64 2,.bool s,.int .u64 0,.int .i64 0])/\Below w.heap.size w w'):=by
 refine(nInf (s:=s) rfl).mono ?_;rintro ee w2 ⟨K,s1,M,E,rfl,q,B⟩;obtain⟨rfl,rfl,rfl,rfl⟩:=q.uniq (fq_inf2 s);exact⟨rfl,B⟩
theorem cmp_gtE{x y c:Int}(h:cmpI x y=c):decide (0 < c)=decide (y < x):=by
 rw[<-h]
 by_cases e:y < x
 ·rw[dt e]
  exact dt (by rcases cmpI_tri x y with⟨a,b⟩ | ⟨a,b⟩ | ⟨a,b⟩ <;> rw[b] <;> omega)
 ·rw[df e]
  exact df (by rcases cmpI_tri x y with⟨a,b⟩ | ⟨a,b⟩ | ⟨a,b⟩ <;> rw[b] <;> omega)
theorem cmp_geE{x y c:Int}(h:cmpI x y=c):decide (0<=c)=decide (y<=x):=by
 rw[<-h]
 by_cases e:y<=x
 ·rw[dt e]
  exact dt (by rcases cmpI_tri x y with⟨a,b⟩ | ⟨a,b⟩ | ⟨a,b⟩ <;> rw[b] <;> omega)
 ·rw[df e]
  exact df (by rcases cmpI_tri x y with⟨a,b⟩ | ⟨a,b⟩ | ⟨a,b⟩ <;> rw[b] <;> omega)
theorem kvNone{w:World}:Calls Tryz.prog 90 #[] w (PV w none):=by
 go_enter Tryz.func90,Tryz.ntmps90
 go_upto_region 1 with (fail)
 generalize hW1:w.alloc _=w1 at *;obtain⟨XR,HB⟩:=Bo.en1 hW1;clear hW1;have xXR:=XR.cell;have zXR0:=XR.frozen;go_wp2;clear xXR zXR0;have SX:=StN.t9 XR true 0 false 0 0 0 false 0 0;exact bq (by simp[results,Tryz.results90,go_sem,SX.box.cell]) rfl ⟨_,_,_,_,_,_,_,_,_,rfl,Ci.none,(SX.below HB.out (by omega))⟩
theorem kvNoneE{w:World}:Calls Tryz.prog 90 #[] w (fun e w'=>e= .returned (.agg #[.bool true,.int .i64 0,.bool false,.int .u64 0,.int .i64 0,.int .i64 0,.bool false,.int .u64 0,.int .i64 0])/\Below w.heap.size w w'):=by
 refine kvNone.mono ?_;rintro ee w2 ⟨e1,K1,s1,M1,E1,K1b,s1b,M1b,E1b,rfl,v1,B⟩;obtain⟨rfl,rfl,rfl,rfl,rfl,rfl,rfl,rfl,rfl⟩:=v1.uniq Ci.none;exact⟨rfl,B⟩
theorem kvOrN{w:World}{D M E:Int}{s:Bool}{r:Int}(hM:LQ M)(hr:rk D s M E=r):Calls Tryz.prog 107 #[VQ D s M E] w (PN w r):=by
 delta VQ
 by_cases hm:MayQ D s M E
 ·have HQ:=rk_fq hM hm;rw[hr]at HQ
  have HC:=ie (show decide (MayQ D s M E)=true from dt hm)
  clear hm hr hM
  go_enter Tryz.func107,Tryz.ntmps107
  go_upto_region 1 with (fail)
  generalize hW1:(w.alloc _).alloc _=w1 at *;obtain⟨X1,XR,HB⟩:=Bo.en2 hW1;clear hW1;have xX1:=X1.cell
  go_wp2_with fail
  refine(nMay HC.out).mono ?_;rintro ee w2 ⟨rfl,B⟩;clear xX1;replace X1:=X1.b B;replace XR:=XR.b B;replace HB:=Hqb HB B;clear B;have xXR:=XR.cell;have zXR0:=XR.frozen;have xX1:=X1.cell;go_wp2;clear xXR zXR0 xX1;have SX:=StN.t4 XR D s M E
  exact bq (by simp[results,Tryz.results107,go_sem,SX.box.cell]) rfl ⟨D,s,M,E,rfl,HQ,(SX.below HB.out (by omega))⟩
 ·rw[rk_not hm]at hr;subst hr
  have HC:=ie (show decide (MayQ D s M E)=false from df hm)
  clear hm hM
  go_enter Tryz.func107,Tryz.ntmps107
  go_upto_region 1 with (fail)
  generalize hW1:(w.alloc _).alloc _=w1 at *;obtain⟨X1,XR,HB⟩:=Bo.en2 hW1;clear hW1;have xX1:=X1.cell
  go_wp2_with fail
  refine(nMay HC.out).mono ?_;rintro ee w2 ⟨rfl,B⟩;clear xX1;replace X1:=X1.b B;replace XR:=XR.b B;replace HB:=Hqb HB B;clear B;have xXR:=XR.cell;have zXR0:=XR.frozen;have xX1:=X1.cell;go_wp2;clear xXR zXR0 xX1;have SX:=StN.t4 XR 0 false 0 0
  exact bq (by simp[results,Tryz.results107,go_sem,SX.box.cell]) rfl ⟨_,_,_,_,rfl,Fq.nought,(SX.below HB.out (by omega))⟩
theorem kvMake{w:World}{D D' M M' E E':Int}{s s':Bool}{a b:Int}{x:Sp}(hM:LQ M)(hM':LQ M')(ha:rk D s M E=a)(hb:rk D' s' M' E'=b)(hx:mkI a b=x):Calls Tryz.prog 35 #[VQ D s M E,VQ D' s' M' E'] w (PV w x):=by
 delta VQ
 have HA:=ie ha;have HBB:=ie hb;clear ha hb
 go_enter Tryz.func35,Tryz.ntmps35
 go_upto_region 1 with (fail)
 generalize hW1:((w.alloc _).alloc _).alloc _=w1 at *;obtain⟨X2,X3,XR,HB⟩:=Bo.en3 hW1;clear hW1;refine jk [0,1,2,3] [some 5,some 6,some 7,some 8,none,none] [[],[0],[],[2],[],[]] 6 2 [Jo.q4 D s M E,Jo.Fact.num a,Jo.q4 D' s' M' E',Jo.Fact.num b,Jo.Fact.any,Jo.Fact.any] ?_ ?_
 ·refine jm ?_ ?_;rotate_left
  refine jm ?_ ?_
  ·rintro wj hJ _ rfl K hK;simp only[Jo.z]at hK|-;go_simp;exact Jo.n1 (kvOrN hM HA.out) hK.out
  refine jm ?_ ?_;rotate_left
  refine jm ?_ ?_
  ·rintro wj hJ _ rfl K hK;simp only[Jo.z]at hK|-;go_simp;exact Jo.n1 (kvOrN hM' HBB.out) hK.out
  exact jo
  all_goals (rintro wj hJ;(repeat rintro _ rfl);intro K hK;simp only[Jo.z]at hK|-;have xX2:=(X2.b hJ).cell;have xX3:=(X3.b hJ).cell;go_simp;exact hK.out _ _ rfl (br _ _))
 rintro w2 hJ _ rfl _ ⟨K1,s1,M1,E1,rfl,q1⟩ _ rfl _ ⟨K2,s2,M2,E2,rfl,q2⟩ -;simp only[Jo.z];replace X2:=X2.b hJ;replace X3:=X3.b hJ;replace XR:=XR.b hJ;replace HB:=Hqb HB hJ;have xX2:=X2.cell;have zX20:=X2.frozen
 refine jn 4 fun K hK=>?_
 go_simp;refine hK.out _ _ ?_;clear hK K xX2 zX20;generalize hS:(((w2.setCell _ _).setCell _ _).setCell _ _).setCell _ _=w3 at *;have SX:=StN.of4 X2 hS;replace X3:=X3.s SX;replace XR:=XR.s SX;replace HB:=Hqs HB SX (by omega);replace X2:=SX.box;clear SX hS;have xX3:=X3.cell;have zX30:=X3.frozen
 refine jn 5 fun K hK=>?_
 go_simp;refine hK.out _ _ ?_;clear hK K xX3 zX30;generalize hS:(((w3.setCell _ _).setCell _ _).setCell _ _).setCell _ _=w4 at *;have SX:=StN.of4 X3 hS;replace X2:=X2.s SX;replace XR:=XR.s SX;replace HB:=Hqs HB SX (by omega);replace X3:=SX.box;clear SX hS;refine jd ?_;clear HA HBB hM hM';obtain⟨c,hc⟩:∃c,cmpI a b=c:=⟨_,rfl⟩
 have hg:=cmp_gtE hc
 have HC:Hid (cmpI (rk K1 s1 M1 E1) (rk K2 s2 M2 E2)=c):=ie (by rw[q1.rk,q2.rk];exact hc)
 clear hc
 by_cases hgt:b < a
 ·rw[mkI_none (by omega)]at hx
  obtain rfl:none=x:=hx
  rw[dt hgt]at hg;have HC0:=ie hg;clear hg hgt;go_wp2;refine jk [0,1,2,3,4,5,6,7,8,9,10,11,12,13] [some 9,some 10,some 11,some 12,some 13,some 14,some 15,some 16,some 17,some 18,some 19,some 20,some 21,some 22] [[],[],[0,1],[2],[3],[4],[4],[4,5,6],[4,7],[8],[9],[9],[9,10,11],[9,12]] 14 0 [Jo.q4 K1 s1 M1 E1,Jo.q4 K2 s2 M2 E2,Jo.qi c,Jo.qb true,Jo.qb true,Jo.qu,Jo.qu,Jo.qu,Jo.qb true,Jo.qb true,Jo.qu,Jo.qu,Jo.qu,Jo.qb true] ?_ ?_
  ·iterate 2 (refine jm ?_ ?_;rotate_left)
   refine jm ?_ ?_
   ·rintro wj hJ _ rfl _ rfl K hK;simp only[Jo.z]at hK|-;go_simp;refine(nCmp q1.top q2.top HC.out).mono ?_;rintro ee wk ⟨rfl,B⟩;exact hK.out _ _ rfl B
   refine jm ?_ ?_
   ·rintro wj hJ _ rfl K hK;simp only[Jo.z]at hK|-;have hc0:=HC0.out;go_simp
    exact hK.out _ _ (by first | rfl | (show Value.bool _=Value.bool _;rw[hc0]) | simp_all) (br _ _)
   iterate 10 (refine jm ?_ ?_;rotate_left)
   exact jo
   all_goals (rintro wj hJ;(repeat rintro _ rfl);intro K hK;simp only[Jo.z]at hK|-;have xX2:=(X2.b hJ).cell;have xX3:=(X3.b hJ).cell;go_simp;exact hK.out _ _ rfl (br _ _))
  rintro w8 hJ _ rfl _ rfl _ rfl _ rfl _ rfl _ rfl _ rfl _ rfl _ rfl _ rfl _ rfl _ rfl _ rfl _ rfl -;simp only[Jo.z];replace X2:=X2.b hJ;replace X3:=X3.b hJ;replace XR:=XR.b hJ;replace HB:=Hqb HB hJ;refine jd ?_
  go_wp2_with fail
  refine(kvNoneE).mono ?_;rintro ee w9 ⟨rfl,B⟩;replace X2:=X2.b B;replace X3:=X3.b B;replace XR:=XR.b B;replace HB:=Hqb HB B;clear B;have xXR:=XR.cell;have zXR0:=XR.frozen;go_wp2;clear xXR zXR0;have SX:=StN.t9 XR true 0 false 0 0 0 false 0 0
  exact bq (by simp[results,Tryz.results35,go_sem,SX.box.cell]) rfl ⟨_,_,_,_,_,_,_,_,_,rfl,Ci.none,(SX.below HB.out (by omega))⟩
 ·rw[df hgt]at hg;have HC0:=ie hg;clear hg
  by_cases ht:a=19342822337206103650074625
  ·subst ht;rw[mkI_none (by omega)]at hx
   obtain rfl:none=x:=hx
   obtain⟨rfl,rfl,rfl,rfl⟩:=q1.uniq (show Fq 2 false 0 0 19342822337206103650074625 from fq_inf2 false)
   clear hgt;go_wp2;refine jk [0,1,2,3,4,5,6,7,8,9,10,11,12,13] [some 9,some 10,some 11,some 12,some 13,some 14,some 15,some 16,some 17,some 18,some 19,some 20,some 21,some 22] [[],[],[0,1],[2],[3],[4],[4],[4,5,6],[4,7],[8],[9],[9],[9,10,11],[9,12]] 14 0 [Jo.q4 2 false 0 0,Jo.q4 K2 s2 M2 E2,Jo.qi c,Jo.qb false,Jo.qb false,Jo.q4 2 false 0 0,Jo.q4 2 false 0 0,Jo.qb true,Jo.qb true,Jo.qb true,Jo.qu,Jo.qu,Jo.qu,Jo.qb true] ?_ ?_
   ·iterate 2 (refine jm ?_ ?_;rotate_left)
    refine jm ?_ ?_
    ·rintro wj hJ _ rfl _ rfl K hK;simp only[Jo.z]at hK|-;go_simp;refine(nCmp q1.top q2.top HC.out).mono ?_;rintro ee wk ⟨rfl,B⟩;exact hK.out _ _ rfl B
    refine jm ?_ ?_
    ·rintro wj hJ _ rfl K hK;simp only[Jo.z]at hK|-;have hc0:=HC0.out;go_simp
     exact hK.out _ _ (by first | rfl | (show Value.bool _=Value.bool _;rw[hc0]) | simp_all) (br _ _)
    iterate 2 (refine jm ?_ ?_;rotate_left)
    refine jm ?_ ?_
    ·rintro wj hJ _ rfl K hK;simp only[Jo.z]at hK|-;go_simp;refine(nInfE false).mono ?_;rintro ee wk ⟨rfl,B⟩;exact hK.out _ _ rfl B
    refine jm ?_ ?_
    ·rintro wj hJ _ rfl _ rfl _ rfl K hK;simp only[Jo.z]at hK|-;go_simp
     repeat' split
     all_goals exact hK.out _ _ (congrArg Value.bool (by first | rfl | (exfalso;simp_all) | simp_all)) (br _ _)
    iterate 6 (refine jm ?_ ?_;rotate_left)
    exact jo
    all_goals (rintro wj hJ;(repeat rintro _ rfl);intro K hK;simp only[Jo.z]at hK|-;have xX2:=(X2.b hJ).cell;have xX3:=(X3.b hJ).cell;go_simp;exact hK.out _ _ rfl (br _ _))
   rintro w8 hJ _ rfl _ rfl _ rfl _ rfl _ rfl _ rfl _ rfl _ rfl _ rfl _ rfl _ rfl _ rfl _ rfl _ rfl -;simp only[Jo.z];replace X2:=X2.b hJ;replace X3:=X3.b hJ;replace XR:=XR.b hJ;replace HB:=Hqb HB hJ;refine jd ?_
   go_wp2_with fail
   refine(kvNoneE).mono ?_;rintro ee w9 ⟨rfl,B⟩;replace X2:=X2.b B;replace X3:=X3.b B;replace XR:=XR.b B;replace HB:=Hqb HB B;clear B;have xXR:=XR.cell;have zXR0:=XR.frozen;go_wp2;clear xXR zXR0;have SX:=StN.t9 XR true 0 false 0 0 0 false 0 0
   exact bq (by simp[results,Tryz.results35,go_sem,SX.box.cell]) rfl ⟨_,_,_,_,_,_,_,_,_,rfl,Ci.none,(SX.below HB.out (by omega))⟩
  ·have HN1:Hid (¬(K1=2/\s1=false/\M1=0/\E1=0)):=ie (by
    rintro ⟨rfl,rfl,rfl,rfl⟩;exact ht (by rw[<-q1.rk];exact(fq_inf2 false).rk))
   by_cases hb:b= -19342822337206103650074625
   ·subst hb;rw[mkI_none (by omega)]at hx
    obtain rfl:none=x:=hx
    obtain⟨rfl,rfl,rfl,rfl⟩:=q2.uniq (show Fq 2 true 0 0 (-19342822337206103650074625)from fq_inf2 true)
    clear hgt ht;go_wp2;refine jk [0,1,2,3,4,5,6,7,8,9,10,11,12,13] [some 9,some 10,some 11,some 12,some 13,some 14,some 15,some 16,some 17,some 18,some 19,some 20,some 21,some 22] [[],[],[0,1],[2],[3],[4],[4],[4,5,6],[4,7],[8],[9],[9],[9,10,11],[9,12]] 14 0 [Jo.q4 K1 s1 M1 E1,Jo.q4 2 true 0 0,Jo.qi c,Jo.qb false,Jo.qb false,Jo.q4 K1 s1 M1 E1,Jo.q4 2 false 0 0,Jo.qb false,Jo.qb false,Jo.qb false,Jo.q4 2 true 0 0,Jo.q4 2 true 0 0,Jo.qb true,Jo.qb true] ?_ ?_
    ·iterate 2 (refine jm ?_ ?_;rotate_left)
     refine jm ?_ ?_
     ·rintro wj hJ _ rfl _ rfl K hK;simp only[Jo.z]at hK|-;go_simp;refine(nCmp q1.top q2.top HC.out).mono ?_;rintro ee wk ⟨rfl,B⟩;exact hK.out _ _ rfl B
     refine jm ?_ ?_
     ·rintro wj hJ _ rfl K hK;simp only[Jo.z]at hK|-;have hc0:=HC0.out;go_simp
      exact hK.out _ _ (by first | rfl | (show Value.bool _=Value.bool _;rw[hc0]) | simp_all) (br _ _)
     iterate 2 (refine jm ?_ ?_;rotate_left)
     refine jm ?_ ?_
     ·rintro wj hJ _ rfl K hK;simp only[Jo.z]at hK|-;go_simp;refine(nInfE false).mono ?_;rintro ee wk ⟨rfl,B⟩;exact hK.out _ _ rfl B
     refine jm ?_ ?_
     ·rintro wj hJ _ rfl _ rfl _ rfl K hK;simp only[Jo.z]at hK|-;have hne:=HN1.out;go_simp
      repeat' split
      all_goals exact hK.out _ _ (congrArg Value.bool (by first | rfl | (exfalso;simp_all))) (br _ _)
     iterate 3 (refine jm ?_ ?_;rotate_left)
     refine jm ?_ ?_
     ·rintro wj hJ _ rfl K hK;simp only[Jo.z]at hK|-;go_simp;refine(nInfE true).mono ?_;rintro ee wk ⟨rfl,B⟩;exact hK.out _ _ rfl B
     refine jm ?_ ?_
     ·rintro wj hJ _ rfl _ rfl _ rfl K hK;simp only[Jo.z]at hK|-;go_simp
      repeat' split
      all_goals exact hK.out _ _ (congrArg Value.bool (by first | rfl | (exfalso;simp_all) | simp_all)) (br _ _)
     refine jm ?_ ?_;rotate_left
     exact jo
     all_goals (rintro wj hJ;(repeat rintro _ rfl);intro K hK;simp only[Jo.z]at hK|-;have xX2:=(X2.b hJ).cell;have xX3:=(X3.b hJ).cell;go_simp;exact hK.out _ _ rfl (br _ _))
    rintro w8 hJ _ rfl _ rfl _ rfl _ rfl _ rfl _ rfl _ rfl _ rfl _ rfl _ rfl _ rfl _ rfl _ rfl _ rfl -;simp only[Jo.z];replace X2:=X2.b hJ;replace X3:=X3.b hJ;replace XR:=XR.b hJ;replace HB:=Hqb HB hJ;refine jd ?_
    go_wp2_with fail
    refine(kvNoneE).mono ?_;rintro ee w9 ⟨rfl,B⟩;replace X2:=X2.b B;replace X3:=X3.b B;replace XR:=XR.b B;replace HB:=Hqb HB B;clear B;have xXR:=XR.cell;have zXR0:=XR.frozen;go_wp2;clear xXR zXR0;have SX:=StN.t9 XR true 0 false 0 0 0 false 0 0
    exact bq (by simp[results,Tryz.results35,go_sem,SX.box.cell]) rfl ⟨_,_,_,_,_,_,_,_,_,rfl,Ci.none,(SX.below HB.out (by omega))⟩
   ·have HN2:Hid (¬(K2=2/\s2=true/\M2=0/\E2=0)):=ie (by
     rintro ⟨rfl,rfl,rfl,rfl⟩;exact hb (by rw[<-q2.rk];exact(fq_inf2 true).rk))
    have g1:=q1.bd;have g2:=q2.bd
    have g3:a<=b:=by omega
    have g4:a < 19342822337206103650074625:=by omega
    have g5: -19342822337206103650074625 < b:=by omega
    rw[mkI_some g3 g4 g5]at hx
    obtain rfl:some (a,b)=x:=hx
    have HV:Ci false K1 s1 M1 E1 K2 s2 M2 E2 (some (a,b)):=⟨rfl,q1,q2,g3,g4,g5⟩
    clear hgt ht hb g1 g2 g3 g4 g5;go_wp2;refine jk [0,1,2,3,4,5,6,7,8,9,10,11,12,13] [some 9,some 10,some 11,some 12,some 13,some 14,some 15,some 16,some 17,some 18,some 19,some 20,some 21,some 22] [[],[],[0,1],[2],[3],[4],[4],[4,5,6],[4,7],[8],[9],[9],[9,10,11],[9,12]] 14 0 [Jo.q4 K1 s1 M1 E1,Jo.q4 K2 s2 M2 E2,Jo.qi c,Jo.qb false,Jo.qb false,Jo.q4 K1 s1 M1 E1,Jo.q4 2 false 0 0,Jo.qb false,Jo.qb false,Jo.qb false,Jo.q4 K2 s2 M2 E2,Jo.q4 2 true 0 0,Jo.qb false,Jo.qb false] ?_ ?_
    ·iterate 2 (refine jm ?_ ?_;rotate_left)
     refine jm ?_ ?_
     ·rintro wj hJ _ rfl _ rfl K hK;simp only[Jo.z]at hK|-;go_simp;refine(nCmp q1.top q2.top HC.out).mono ?_;rintro ee wk ⟨rfl,B⟩;exact hK.out _ _ rfl B
     refine jm ?_ ?_
     ·rintro wj hJ _ rfl K hK;simp only[Jo.z]at hK|-;have hc0:=HC0.out;go_simp
      exact hK.out _ _ (by first | rfl | (show Value.bool _=Value.bool _;rw[hc0]) | simp_all) (br _ _)
     iterate 2 (refine jm ?_ ?_;rotate_left)
     refine jm ?_ ?_
     ·rintro wj hJ _ rfl K hK;simp only[Jo.z]at hK|-;go_simp;refine(nInfE false).mono ?_;rintro ee wk ⟨rfl,B⟩;exact hK.out _ _ rfl B
     refine jm ?_ ?_
     ·rintro wj hJ _ rfl _ rfl _ rfl K hK;simp only[Jo.z]at hK|-;have hne:=HN1.out;go_simp
      repeat' split
      all_goals exact hK.out _ _ (congrArg Value.bool (by first | rfl | (exfalso;simp_all))) (br _ _)
     iterate 3 (refine jm ?_ ?_;rotate_left)
     refine jm ?_ ?_
     ·rintro wj hJ _ rfl K hK;simp only[Jo.z]at hK|-;go_simp;refine(nInfE true).mono ?_;rintro ee wk ⟨rfl,B⟩;exact hK.out _ _ rfl B
     refine jm ?_ ?_
     ·rintro wj hJ _ rfl _ rfl _ rfl K hK;simp only[Jo.z]at hK|-;have hne:=HN2.out;go_simp
      repeat' split
      all_goals exact hK.out _ _ (congrArg Value.bool (by first | rfl | (exfalso;simp_all))) (br _ _)
     refine jm ?_ ?_;rotate_left
     exact jo
     all_goals (rintro wj hJ;(repeat rintro _ rfl);intro K hK;simp only[Jo.z]at hK|-;have xX2:=(X2.b hJ).cell;have xX3:=(X3.b hJ).cell;go_simp;exact hK.out _ _ rfl (br _ _))
    rintro w8 hJ _ rfl _ rfl _ rfl _ rfl _ rfl _ rfl _ rfl _ rfl _ rfl _ rfl _ rfl _ rfl _ rfl _ rfl -;simp only[Jo.z];replace X2:=X2.b hJ;replace X3:=X3.b hJ;replace XR:=XR.b hJ;replace HB:=Hqb HB hJ;refine jd ?_;have xXR:=XR.cell;have zXR0:=XR.frozen;have xX2:=X2.cell
    have xX3:=X3.cell;go_wp2;clear xXR zXR0 xX2 xX3;have SX:=StN.t9 XR false K1 s1 M1 E1 K2 s2 M2 E2;exact bq (by simp[results,Tryz.results35,go_sem,SX.box.cell]) rfl ⟨_,_,_,_,_,_,_,_,_,rfl,HV,(SX.below HB.out (by omega))⟩
theorem kvPoint{w:World}{D M E:Int}{s:Bool}{a:Int}{x:Sp}(hM:LQ M)(ha:rk D s M E=a)(hx:mkI a a=x):Calls Tryz.prog 46 #[VQ D s M E] w (PV w x):=by
 delta VQ
 have HA:=ie ha;have HX:=ie hx;clear ha hx
 go_enter Tryz.func46,Tryz.ntmps46
 go_upto_region 1 with (fail)
 generalize hW1:(w.alloc _).alloc _=w1 at *;obtain⟨X1,XR,HB⟩:=Bo.en2 hW1;clear hW1;have xX1:=X1.cell
 go_wp2_with fail
 refine(kvMake hM hM HA.out HA.out HX.out).mono ?_;rintro ee w2 ⟨e2,K2,s2,M2,E2,K2b,s2b,M2b,E2b,rfl,v2,B⟩;clear xX1;replace XR:=XR.b B;replace HB:=Hqb HB B;clear B;have xXR:=XR.cell;have zXR0:=XR.frozen;go_wp2;clear xXR zXR0;have SX:=StN.t9 XR e2 K2 s2 M2 E2 K2b s2b M2b E2b
 exact bq (by simp[results,Tryz.results46,go_sem,SX.box.cell]) rfl ⟨_,_,_,_,_,_,_,_,_,rfl,v2,(SX.below HB.out (by omega))⟩
theorem may_make{e:Bool}{D M E D' M' E':Int}{s s':Bool}{e4:Bool}{K4 M4 E4 K4b M4b E4b:Int}{s4 s4b:Bool}(hM:LQ M)(hM':LQ M')(v:Ci e4 K4 s4 M4 E4 K4b s4b M4b E4b (mkI (rk D s M E) (rk D' s' M' E')))(h1:¬(e=true/\D=0/\s=false/\M=0/\E=0/\D'=0/\s'=false/\M'=0/\E'=0)):(e=e4/\D=K4/\s=s4/\M=M4/\E=E4/\D'=K4b/\s'=s4b/\M'=M4b/\E'=E4b)↔mayI e D s M E D' s' M' E'=true:=by
 constructor
 ·rintro ⟨rfl,rfl,rfl,rfl,rfl,rfl,rfl,rfl,rfl⟩;exact v.may
 ·intro h
  have c:=mayI_ci hM hM' h
  cases e
  ·have h2:decide (rkI false D s M E D' s' M' E'≠none)=true:=h
   rw[rkI_f]at c;rw[decide_eq_true_iff,rkI_f]at h2
   by_cases hq:MayQ D s M E/\MayQ D' s' M' E'
   ·rw[if_pos hq]at c;exact c.uniq v
   ·rw[if_neg hq]at h2;exact absurd rfl h2
  ·rw[rkI_t]at c;exact absurd (c.uniq Ci.none) h1
theorem kvMay{w:World}{e:Bool}{D M E D' M' E':Int}{s s':Bool}{r:Bool}(hM:LQ M)(hM':LQ M')(hr:mayI e D s M E D' s' M' E'=r):Calls Tryz.prog 176 #[VI e D s M E D' s' M' E'] w (PB w r):=by
 delta VI
 by_cases h1:e=true/\D=0/\s=false/\M=0/\E=0/\D'=0/\s'=false/\M'=0/\E'=0
 ·obtain⟨rfl,rfl,rfl,rfl,rfl,rfl,rfl,rfl,rfl⟩:=h1
  obtain rfl:true=r:=Ci.none.may.symm.trans hr
  clear hr
  go_enter Tryz.func176,Tryz.ntmps176
  go_upto_region 1 with (fail)
  generalize hW1:w.alloc _=w1 at *;obtain⟨X1,HB⟩:=Bo.en1 hW1;clear hW1;refine jk [0,1,2,3,4,5,6,7,8,9,10,11,12] [some 3,some 4,some 5,some 6,some 7,some 8,some 9,some 10,some 11,some 12,some 13,some 14,some 2] [[],[],[0,1],[2],[3],[3],[3,5],[3],[3,7],[3,6,8],[3,4,9],[3,10],[11]] 13 0 [Jo.q9 true 0 false 0 0 0 false 0 0,Jo.q9 true 0 false 0 0 0 false 0 0,Jo.qb true,Jo.qb true,Jo.qu,Jo.qu,Jo.qu,Jo.qu,Jo.qu,Jo.qu,Jo.qu,Jo.qb true,Jo.qb true] ?_ ?_
  ·refine jm ?_ ?_;rotate_left
   refine jm ?_ ?_
   ·rintro wj hJ K hK;simp only[Jo.z]at hK|-;go_simp;refine(kvNoneE).mono ?_;rintro ee wk ⟨rfl,B⟩;exact hK.out _ _ rfl B
   refine jm ?_ ?_
   ·rintro wj hJ _ rfl _ rfl K hK;simp only[Jo.z]at hK|-;go_simp
    repeat' split
    all_goals exact hK.out _ _ (congrArg Value.bool (by first | rfl | (exfalso;simp_all) | simp_all)) (br _ _)
   iterate 10 (refine jm ?_ ?_;rotate_left)
   exact jo
   all_goals (rintro wj hJ;(repeat rintro _ rfl);intro K hK;simp only[Jo.z]at hK|-;have xX1:=(X1.b hJ).cell;go_simp;exact hK.out _ _ rfl (br _ _))
  rintro w8 hJ _ rfl _ rfl _ rfl _ rfl _ rfl _ rfl _ rfl _ rfl _ rfl _ rfl _ rfl _ rfl _ rfl -;simp only[Jo.z];replace X1:=X1.b hJ;replace HB:=Hqb HB hJ;refine jd ?_;go_wp2
  go_ret
  exact⟨rfl,HB.out⟩
 ·have HN1:=ie h1
  have HY:Hid (∀{e4 K4 s4 M4 E4 K4b s4b M4b E4b},Ci e4 K4 s4 M4 E4 K4b s4b M4b E4b (mkI (rk D s M E) (rk D' s' M' E'))->((e=e4/\D=K4/\s=s4/\M=M4/\E=E4/\D'=K4b/\s'=s4b/\M'=M4b/\E'=E4b)↔r=true)):=ie (fun v=>by rw[<-hr];exact may_make hM hM' v h1)
  clear hr h1
  cases r
  ·go_enter Tryz.func176,Tryz.ntmps176
   go_upto_region 1 with (fail)
   generalize hW1:w.alloc _=w1 at *;obtain⟨X1,HB⟩:=Bo.en1 hW1;clear hW1;refine jk [0,1,2,3,4,5,6,7,8,9,10,11,12] [some 3,some 4,some 5,some 6,some 7,some 8,some 9,some 10,some 11,some 12,some 13,some 14,some 2] [[],[],[0,1],[2],[3],[3],[3,5],[3],[3,7],[3,6,8],[3,4,9],[3,10],[11]] 13 0 [Jo.q9 e D s M E D' s' M' E',Jo.q9 true 0 false 0 0 0 false 0 0,Jo.qb false,Jo.qb false,Jo.q9 e D s M E D' s' M' E',Jo.qp w.heap.size 1,Jo.q4 D s M E,Jo.qp w.heap.size 5,Jo.q4 D' s' M' E',Jo.Fact.iv (mkI (rk D s M E) (rk D' s' M' E')),Jo.qb false,Jo.qb false,Jo.qb false] ?_ ?_
   ·refine jm ?_ ?_;rotate_left
    refine jm ?_ ?_
    ·rintro wj hJ K hK;simp only[Jo.z]at hK|-;go_simp;refine(kvNoneE).mono ?_;rintro ee wk ⟨rfl,B⟩;exact hK.out _ _ rfl B
    refine jm ?_ ?_
    ·rintro wj hJ _ rfl _ rfl K hK;simp only[Jo.z]at hK|-;have hne:=HN1.out;go_simp
     repeat' split
     all_goals exact hK.out _ _ (congrArg Value.bool (by first | rfl | (exfalso;simp_all))) (br _ _)
    iterate 6 (refine jm ?_ ?_;rotate_left)
    refine jm ?_ ?_
    ·rintro wj hJ _ rfl _ rfl _ rfl K hK;simp only[Jo.z]at hK|-;go_simp;exact Jo.v1 (kvMake hM hM' rfl rfl rfl) hK.out
    refine jm ?_ ?_
    ·rintro wj hJ _ rfl _ rfl _ ⟨e9,K9,s9,M9,E9,K9b,s9b,M9b,E9b,rfl,v9⟩ K hK;simp only[Jo.z]at hK|-
     have hne:=fun c=>ff ((HY.out v9).1 c)
     go_simp
     repeat' split
     all_goals exact hK.out _ _ (congrArg Value.bool (by first | rfl | (exfalso;simp_all))) (br _ _)
    iterate 2 (refine jm ?_ ?_;rotate_left)
    exact jo
    all_goals (rintro wj hJ;(repeat rintro _ rfl);intro K hK;simp only[Jo.z]at hK|-;have xX1:=(X1.b hJ).cell;go_simp;exact hK.out _ _ rfl (br _ _))
   rintro w8 hJ _ rfl _ rfl _ rfl _ rfl _ rfl _ _ _ rfl _ _ _ rfl _ ⟨e9,K9,s9,M9,E9,K9b,s9b,M9b,E9b,rfl,v9⟩ _ rfl _ rfl _ rfl -;simp only[Jo.z];replace X1:=X1.b hJ;replace HB:=Hqb HB hJ;refine jd ?_;go_wp2
   go_ret
   exact⟨rfl,HB.out⟩
  ·go_enter Tryz.func176,Tryz.ntmps176
   go_upto_region 1 with (fail)
   generalize hW1:w.alloc _=w1 at *;obtain⟨X1,HB⟩:=Bo.en1 hW1;clear hW1;refine jk [0,1,2,3,4,5,6,7,8,9,10,11,12] [some 3,some 4,some 5,some 6,some 7,some 8,some 9,some 10,some 11,some 12,some 13,some 14,some 2] [[],[],[0,1],[2],[3],[3],[3,5],[3],[3,7],[3,6,8],[3,4,9],[3,10],[11]] 13 0 [Jo.q9 e D s M E D' s' M' E',Jo.q9 true 0 false 0 0 0 false 0 0,Jo.qb false,Jo.qb false,Jo.q9 e D s M E D' s' M' E',Jo.qp w.heap.size 1,Jo.q4 D s M E,Jo.qp w.heap.size 5,Jo.q4 D' s' M' E',Jo.Fact.iv (mkI (rk D s M E) (rk D' s' M' E')),Jo.qb true,Jo.qb true,Jo.qb true] ?_ ?_
   ·refine jm ?_ ?_;rotate_left
    refine jm ?_ ?_
    ·rintro wj hJ K hK;simp only[Jo.z]at hK|-;go_simp;refine(kvNoneE).mono ?_;rintro ee wk ⟨rfl,B⟩;exact hK.out _ _ rfl B
    refine jm ?_ ?_
    ·rintro wj hJ _ rfl _ rfl K hK;simp only[Jo.z]at hK|-;have hne:=HN1.out;go_simp
     repeat' split
     all_goals exact hK.out _ _ (congrArg Value.bool (by first | rfl | (exfalso;simp_all))) (br _ _)
    iterate 6 (refine jm ?_ ?_;rotate_left)
    refine jm ?_ ?_
    ·rintro wj hJ _ rfl _ rfl _ rfl K hK;simp only[Jo.z]at hK|-;go_simp;exact Jo.v1 (kvMake hM hM' rfl rfl rfl) hK.out
    refine jm ?_ ?_
    ·rintro wj hJ _ rfl _ rfl _ ⟨e9,K9,s9,M9,E9,K9b,s9b,M9b,E9b,rfl,v9⟩ K hK;simp only[Jo.z]at hK|-;obtain⟨rfl,rfl,rfl,rfl,rfl,rfl,rfl,rfl,rfl⟩:=(HY.out v9).2 rfl;go_simp
     repeat' split
     all_goals exact hK.out _ _ (congrArg Value.bool (by first | rfl | (exfalso;simp_all) | simp_all)) (br _ _)
    iterate 2 (refine jm ?_ ?_;rotate_left)
    exact jo
    all_goals (rintro wj hJ;(repeat rintro _ rfl);intro K hK;simp only[Jo.z]at hK|-;have xX1:=(X1.b hJ).cell;go_simp;exact hK.out _ _ rfl (br _ _))
   rintro w8 hJ _ rfl _ rfl _ rfl _ rfl _ rfl _ _ _ rfl _ _ _ rfl _ ⟨e9,K9,s9,M9,E9,K9b,s9b,M9b,E9b,rfl,v9⟩ _ rfl _ rfl _ rfl -;simp only[Jo.z];replace HB:=Hqb HB hJ;refine jd ?_;go_wp2
   go_ret
   exact⟨rfl,HB.out⟩
theorem kvOrE{w:World}{e:Bool}{D M E D' M' E':Int}{s s':Bool}{x:Sp}(hM:LQ M)(hM':LQ M')(hr:rkI e D s M E D' s' M' E'=x):Calls Tryz.prog 104 #[VI e D s M E D' s' M' E'] w (PV w x):=by
 delta VI
 cases hm:mayI e D s M E D' s' M' E'
 ·obtain rfl:none=x:=(mayI_no hm).symm.trans hr
  have HM:=ie hm;clear hm hr
  go_enter Tryz.func104,Tryz.ntmps104
  go_upto_region 1 with (fail)
  generalize hW1:(w.alloc _).alloc _=w1 at *;obtain⟨X1,XR,HB⟩:=Bo.en2 hW1;clear hW1;have xX1:=X1.cell
  go_wp2_with fail
  refine(kvMay hM hM' HM.out).mono ?_;rintro ee w2 ⟨rfl,B⟩;clear xX1;replace X1:=X1.b B;replace XR:=XR.b B;replace HB:=Hqb HB B;clear B;clear HM hM hM'
  go_wp2_with fail
  refine(kvNoneE).mono ?_;rintro ee w3 ⟨rfl,B⟩;replace X1:=X1.b B;replace XR:=XR.b B;replace HB:=Hqb HB B;clear B;have xXR:=XR.cell;have zXR0:=XR.frozen;go_wp2;clear xXR zXR0;have SX:=StN.t9 XR true 0 false 0 0 0 false 0 0
  exact bq (by simp[results,Tryz.results104,go_sem,SX.box.cell]) rfl ⟨_,_,_,_,_,_,_,_,_,rfl,Ci.none,(SX.below HB.out (by omega))⟩
 ·have hv:=mayI_ci hM hM' hm;rw[hr]at hv;have HM:=ie hm;clear hm hr
  go_enter Tryz.func104,Tryz.ntmps104
  go_upto_region 1 with (fail)
  generalize hW1:(w.alloc _).alloc _=w1 at *;obtain⟨X1,XR,HB⟩:=Bo.en2 hW1;clear hW1;have xX1:=X1.cell
  go_wp2_with fail
  refine(kvMay hM hM' HM.out).mono ?_;rintro ee w2 ⟨rfl,B⟩;clear xX1;replace X1:=X1.b B;replace XR:=XR.b B;replace HB:=Hqb HB B;clear B;clear HM hM hM';have xXR:=XR.cell;have zXR0:=XR.frozen;have xX1:=X1.cell;go_wp2
  clear xXR zXR0 xX1;have SX:=StN.t9 XR e D s M E D' s' M' E';exact bq (by simp[results,Tryz.results104,go_sem,SX.box.cell]) rfl ⟨_,_,_,_,_,_,_,_,_,rfl,hv,(SX.below HB.out (by omega))⟩
theorem kvWithin{w:World}{e:Bool}{D M E D' M' E':Int}{s s':Bool}{e2:Bool}{G P Q G' P' Q':Int}{g g':Bool}{x y:Sp}{r:Bool}(hM:LQ M)(hM':LQ M')(hP:LQ P)(hP':LQ P')(hx:rkI e D s M E D' s' M' E'=x)(hy:rkI e2 G g P Q G' g' P' Q'=y)(hr:witI x y=r):Calls Tryz.prog 42 #[VI e D s M E D' s' M' E',VI e2 G g P Q G' g' P' Q'] w (PB w r):=by
 delta VI
 have HX:=ie hx;have HY:=ie hy;clear hx hy
 go_enter Tryz.func42,Tryz.ntmps42
 go_upto_region 1 with (fail)
 generalize hW1:(w.alloc _).alloc _=w1 at *;obtain⟨X2,X3,HB⟩:=Bo.en2 hW1;clear hW1;refine jk [0,1,2,3] [some 5,some 6,some 7,some 8,none,none] [[],[0],[],[2],[],[]] 6 2 [Jo.q9 e D s M E D' s' M' E',Jo.Fact.iv x,Jo.q9 e2 G g P Q G' g' P' Q',Jo.Fact.iv y,Jo.Fact.any,Jo.Fact.any] ?_ ?_
 ·refine jm ?_ ?_;rotate_left
  refine jm ?_ ?_
  ·rintro wj hJ _ rfl K hK;simp only[Jo.z]at hK|-;go_simp;exact Jo.v1 (kvOrE hM hM' HX.out) hK.out
  refine jm ?_ ?_;rotate_left
  refine jm ?_ ?_
  ·rintro wj hJ _ rfl K hK;simp only[Jo.z]at hK|-;go_simp;exact Jo.v1 (kvOrE hP hP' HY.out) hK.out
  exact jo
  all_goals (rintro wj hJ;(repeat rintro _ rfl);intro K hK;simp only[Jo.z]at hK|-;have xX2:=(X2.b hJ).cell;have xX3:=(X3.b hJ).cell;go_simp;exact hK.out _ _ rfl (br _ _))
 rintro w2 hJ _ rfl _ ⟨e1,K1,s1,M1,E1,K1b,s1b,M1b,E1b,rfl,v1⟩ _ rfl _ ⟨e6,K6,s6,M6,E6,K6b,s6b,M6b,E6b,rfl,v6⟩ -;simp only[Jo.z];replace X2:=X2.b hJ;replace X3:=X3.b hJ;replace HB:=Hqb HB hJ;have xX2:=X2.cell;have zX20:=X2.frozen
 refine jn 4 fun K hK=>?_
 go_simp;refine hK.out _ _ ?_;clear hK K xX2 zX20;generalize hS:((((((((w2.setCell _ _).setCell _ _).setCell _ _).setCell _ _).setCell _ _).setCell _ _).setCell _ _).setCell _ _).setCell _ _=w3 at *;have SX:=StN.of9 X2 hS;replace X3:=X3.s SX;replace HB:=Hqs HB SX (by omega);replace X2:=SX.box;clear SX hS;have xX3:=X3.cell
 have zX30:=X3.frozen
 refine jn 5 fun K hK=>?_
 go_simp;refine hK.out _ _ ?_;clear hK K xX3 zX30;generalize hS:((((((((w3.setCell _ _).setCell _ _).setCell _ _).setCell _ _).setCell _ _).setCell _ _).setCell _ _).setCell _ _).setCell _ _=w4 at *;have SX:=StN.of9 X3 hS;replace X2:=X2.s SX;replace HB:=Hqs HB SX (by omega);replace X3:=SX.box;clear SX hS;refine jd ?_
 clear HX HY hM hM' hP hP'
 rcases x with _ | ⟨xa,xb⟩
 ·obtain⟨rfl,y1,y1b⟩:=v1
  obtain rfl:true=r:=hr
  obtain⟨_,rfl,rfl,rfl,rfl,rfl,rfl,rfl,rfl⟩:=(show Ci true K1 s1 M1 E1 K1b s1b M1b E1b none from ⟨rfl,y1,y1b⟩).uniq Ci.none
  clear y1 y1b;go_wp2;refine jk [0,1,2,3] [some 10,some 11,some 12,some 9] [[],[],[0,1],[2]] 4 0 [Jo.q9 true 0 false 0 0 0 false 0 0,Jo.q9 true 0 false 0 0 0 false 0 0,Jo.qb true,Jo.qb true] ?_ ?_
  ·refine jm ?_ ?_;rotate_left
   refine jm ?_ ?_
   ·rintro wj hJ K hK;simp only[Jo.z]at hK|-;go_simp;refine(kvNoneE).mono ?_;rintro ee wk ⟨rfl,B⟩;exact hK.out _ _ rfl B
   refine jm ?_ ?_
   ·rintro wj hJ _ rfl _ rfl K hK;simp only[Jo.z]at hK|-;go_simp
    repeat' split
    all_goals exact hK.out _ _ (congrArg Value.bool (by first | rfl | (exfalso;simp_all) | simp_all)) (br _ _)
   refine jm ?_ ?_;rotate_left
   exact jo
   all_goals (rintro wj hJ;(repeat rintro _ rfl);intro K hK;simp only[Jo.z]at hK|-;have xX2:=(X2.b hJ).cell;go_simp;exact hK.out _ _ rfl (br _ _))
  rintro w5 hJ _ rfl _ rfl _ rfl _ rfl -;simp only[Jo.z];replace X2:=X2.b hJ;replace X3:=X3.b hJ;replace HB:=Hqb HB hJ;refine jd ?_;go_wp2
  go_ret
  exact⟨rfl,HB.out⟩
 ·obtain⟨rfl,a1,b1,o1,o1l,o1h⟩:=v1;go_wp2;refine jk [0,1,2,3] [some 10,some 11,some 12,some 9] [[],[],[0,1],[2]] 4 0 [Jo.q9 false K1 s1 M1 E1 K1b s1b M1b E1b,Jo.q9 true 0 false 0 0 0 false 0 0,Jo.qb false,Jo.qb false] ?_ ?_
  ·refine jm ?_ ?_;rotate_left
   refine jm ?_ ?_
   ·rintro wj hJ K hK;simp only[Jo.z]at hK|-;go_simp;refine(kvNoneE).mono ?_;rintro ee wk ⟨rfl,B⟩;exact hK.out _ _ rfl B
   refine jm ?_ ?_
   ·rintro wj hJ _ rfl _ rfl K hK;simp only[Jo.z]at hK|-;go_simp
    repeat' split
    all_goals exact hK.out _ _ (congrArg Value.bool (by first | rfl | (exfalso;simp_all))) (br _ _)
   refine jm ?_ ?_;rotate_left
   exact jo
   all_goals (rintro wj hJ;(repeat rintro _ rfl);intro K hK;simp only[Jo.z]at hK|-;have xX2:=(X2.b hJ).cell;go_simp;exact hK.out _ _ rfl (br _ _))
  rintro w5 hJ _ rfl _ rfl _ rfl _ rfl -;simp only[Jo.z];replace X2:=X2.b hJ;replace X3:=X3.b hJ;replace HB:=Hqb HB hJ;refine jd ?_
  rcases y with _ | ⟨ya,yb⟩
  ·obtain⟨rfl,y6,y6b⟩:=v6
   obtain rfl:false=r:=hr
   obtain⟨_,rfl,rfl,rfl,rfl,rfl,rfl,rfl,rfl⟩:=(show Ci true K6 s6 M6 E6 K6b s6b M6b E6b none from ⟨rfl,y6,y6b⟩).uniq Ci.none
   clear y6 y6b;go_wp2;refine jk [0,1,2,3] [some 14,some 15,some 16,some 13] [[],[],[0,1],[2]] 4 0 [Jo.q9 true 0 false 0 0 0 false 0 0,Jo.q9 true 0 false 0 0 0 false 0 0,Jo.qb true,Jo.qb true] ?_ ?_
   ·refine jm ?_ ?_;rotate_left
    refine jm ?_ ?_
    ·rintro wj hJ K hK;simp only[Jo.z]at hK|-;go_simp;refine(kvNoneE).mono ?_;rintro ee wk ⟨rfl,B⟩;exact hK.out _ _ rfl B
    refine jm ?_ ?_
    ·rintro wj hJ _ rfl _ rfl K hK;simp only[Jo.z]at hK|-;go_simp
     repeat' split
     all_goals exact hK.out _ _ (congrArg Value.bool (by first | rfl | (exfalso;simp_all) | simp_all)) (br _ _)
    refine jm ?_ ?_;rotate_left
    exact jo
    all_goals (rintro wj hJ;(repeat rintro _ rfl);intro K hK;simp only[Jo.z]at hK|-;have xX3:=(X3.b hJ).cell;go_simp;exact hK.out _ _ rfl (br _ _))
   rintro w6 hJ _ rfl _ rfl _ rfl _ rfl -;simp only[Jo.z];replace X2:=X2.b hJ;replace X3:=X3.b hJ;replace HB:=Hqb HB hJ;refine jd ?_;go_wp2
   go_ret
   exact⟨rfl,HB.out⟩
  ·obtain⟨rfl,a6,b6,o6,o6l,o6h⟩:=v6;go_wp2;refine jk [0,1,2,3] [some 14,some 15,some 16,some 13] [[],[],[0,1],[2]] 4 0 [Jo.q9 false K6 s6 M6 E6 K6b s6b M6b E6b,Jo.q9 true 0 false 0 0 0 false 0 0,Jo.qb false,Jo.qb false] ?_ ?_
   ·refine jm ?_ ?_;rotate_left
    refine jm ?_ ?_
    ·rintro wj hJ K hK;simp only[Jo.z]at hK|-;go_simp;refine(kvNoneE).mono ?_;rintro ee wk ⟨rfl,B⟩;exact hK.out _ _ rfl B
    refine jm ?_ ?_
    ·rintro wj hJ _ rfl _ rfl K hK;simp only[Jo.z]at hK|-;go_simp
     repeat' split
     all_goals exact hK.out _ _ (congrArg Value.bool (by first | rfl | (exfalso;simp_all))) (br _ _)
    refine jm ?_ ?_;rotate_left
    exact jo
    all_goals (rintro wj hJ;(repeat rintro _ rfl);intro K hK;simp only[Jo.z]at hK|-;have xX3:=(X3.b hJ).cell;go_simp;exact hK.out _ _ rfl (br _ _))
   rintro w6 hJ _ rfl _ rfl _ rfl _ rfl -;simp only[Jo.z];replace X2:=X2.b hJ;replace X3:=X3.b hJ;replace HB:=Hqb HB hJ;refine jd ?_
   have hr2:(decide (ya<=xa) && decide (xb<=yb))=r:=hr
   clear hr
   cases hk1:decide (ya<=xa)
   ·rw[hk1]at hr2
    obtain rfl:false=r:=hr2
    obtain⟨c1,hc1⟩:∃c,cmpI xa ya=c:=⟨_,rfl⟩;have ht1:=cmp_geE hc1;rw[hk1]at ht1
    have HC1:Hid (cmpI (rk K1 s1 M1 E1) (rk K6 s6 M6 E6)=c1):=ie (by rw[a1.rk,a6.rk];exact hc1)
    clear hc1 hk1;have xX2:=X2.cell;have xX3:=X3.cell
    go_wp2_with fail
    refine(nCmp a1.top a6.top HC1.out).mono ?_;rintro ee w7 ⟨rfl,B⟩;clear xX2 xX3;replace X2:=X2.b B;replace X3:=X3.b B;replace HB:=Hqb HB B;clear B;go_wp2
    go_ret
    exact⟨rfl,HB.out⟩
   ·rw[hk1]at hr2;obtain⟨z,hk3⟩:∃z,decide (xb<=yb)=z:=⟨_,rfl⟩;rw[hk3]at hr2
    obtain rfl:z=r:=hr2
    obtain⟨c1,hc1⟩:∃c,cmpI xa ya=c:=⟨_,rfl⟩;have ht1:=cmp_geE hc1;rw[hk1]at ht1
    have HC1:Hid (cmpI (rk K1 s1 M1 E1) (rk K6 s6 M6 E6)=c1):=ie (by rw[a1.rk,a6.rk];exact hc1)
    clear hc1 hk1;have xX2:=X2.cell;have xX3:=X3.cell
    go_wp2_with fail
    refine(nCmp a1.top a6.top HC1.out).mono ?_;rintro ee w7 ⟨rfl,B⟩;clear xX2 xX3;replace X2:=X2.b B;replace X3:=X3.b B;replace HB:=Hqb HB B;clear B;obtain⟨c3,hc3⟩:∃c,cmpI xb yb=c:=⟨_,rfl⟩;have ht3:=cmp_le hc3;rw[hk3]at ht3
    have HC3:Hid (cmpI (rk K1b s1b M1b E1b) (rk K6b s6b M6b E6b)=c3):=ie (by rw[b1.rk,b6.rk];exact hc3)
    clear hc3 hk3;have xX2:=X2.cell;have xX3:=X3.cell
    go_wp2_with fail
    refine(nCmp b1.top b6.top HC3.out).mono ?_;rintro ee w8 ⟨rfl,B⟩;clear xX2 xX3;replace HB:=Hqb HB B;clear B;go_wp2
    go_ret
    exact⟨by first | rfl | (show Ending.returned (.bool _)=_;rw[ht3]),HB.out⟩
theorem has_pt{x:Sp}{n:Int}(h1: -19342822337206103650074625 < n)(h2:n < 19342822337206103650074625):hasI x n=witI (some (n,n)) x:=by
 have hi:infp n=false:=by
  rcases h:infp n
  ·rfl
  ·have:=TP_eq
   rcases infp_true h with e | e <;> omega
 rcases x with _ | ⟨a,b⟩
 ·rfl
 ·show (!infp n && decide (a<=n) && decide (n<=b))=(decide (a<=n) && decide (n<=b))
  rw[hi]
  rfl
theorem has_inf{x:Sp}{n:Int}(h:¬(-19342822337206103650074625 < n/\n < 19342822337206103650074625))(b1: -19342822337206103650074625<=n)(b2:n<=19342822337206103650074625):hasI x n=false:=by
 have hi:infp n=true:=by
  rcases (by omega:n= -19342822337206103650074625\/n=19342822337206103650074625)with rfl | rfl <;> rfl
 rcases x with _ | ⟨a,b⟩
 ·rfl
 ·show (!infp n && decide (a<=n) && decide (n<=b))=false
  rw[hi]
  rfl
theorem rk_bdn{D:Int}{s:Bool}{M E n:Int}(hM:LQ M)(h:rk D s M E=n): -19342822337206103650074625<=n/\n<=19342822337206103650074625:=by
 by_cases hm:MayQ D s M E
 ·have:=(rk_fq hM hm).bd
  rw[h]at this;exact this
 ·rw[rk_not hm]at h
  omega
theorem kvHas{w:World}{e:Bool}{D M E D' M' E':Int}{s s':Bool}{G P Q:Int}{g:Bool}{x:Sp}{n:Int}{r:Bool}(hM:LQ M)(hM':LQ M')(hP:LQ P)(hx:rkI e D s M E D' s' M' E'=x)(hn:rk G g P Q=n)(hr:hasI x n=r):Calls Tryz.prog 51 #[VI e D s M E D' s' M' E',VQ G g P Q] w (PB w r):=by
 delta VI VQ
 have hbd:=rk_bdn hP hn;have HX:=ie hx;have HN:=ie hn;clear hx hn
 by_cases hin: -19342822337206103650074625 < n/\n < 19342822337206103650074625
 ·have HR:=ie ((has_pt hin.1 hin.2).symm.trans hr);have HI:=ie (mkI_some (a:=n) (b:=n) (by omega) hin.2 hin.1);clear hr hbd
  go_enter Tryz.func51,Tryz.ntmps51
  go_upto_region 1 with (fail)
  generalize hW1:(w.alloc _).alloc _=w1 at *;obtain⟨X2,X3,HB⟩:=Bo.en2 hW1;clear hW1;have xX3:=X3.cell
  go_wp2_with fail
  refine(kvPoint hP HN.out HI.out).mono ?_;rintro ee w2 ⟨e1,K1,s1,M1,E1,K1b,s1b,M1b,E1b,rfl,v1,B⟩;clear xX3;replace X2:=X2.b B;replace X3:=X3.b B;replace HB:=Hqb HB B;clear B
  go_upto_region 2 with (fail)
  have nX5X2:=X2.lt;have nX5X3:=X3.lt;generalize hWn:w2.alloc _=w3 at *;obtain⟨X5,BW⟩:=Bo.nw hWn;clear hWn;replace X2:=X2.b BW;replace X3:=X3.b BW;replace HB:=Hqb HB BW;clear BW;have e1f:=v1.1;subst e1f;refine jk [0,1,2,3,4,5,6,7,8] [some 8,some 9,some 10,some 11,some 12,some 13,some 14,some 15,some 4] [[],[],[0,1],[2],[3],[3],[3,4,5],[3,6],[7]] 9 0 [Jo.q9 false K1 s1 M1 E1 K1b s1b M1b E1b,Jo.q9 true 0 false 0 0 0 false 0 0,Jo.qb true,Jo.qb true,Jo.q9 false K1 s1 M1 E1 K1b s1b M1b E1b,Jo.q9 e D s M E D' s' M' E',Jo.qb r,Jo.qb r,Jo.qb r] ?_ ?_
  ·refine jm ?_ ?_;rotate_left
   refine jm ?_ ?_
   ·rintro wj hJ K hK;simp only[Jo.z]at hK|-;go_simp;refine(kvNoneE).mono ?_;rintro ee wk ⟨rfl,B⟩;exact hK.out _ _ rfl B
   refine jm ?_ ?_
   ·rintro wj hJ _ rfl _ rfl K hK;simp only[Jo.z]at hK|-;go_simp
    repeat' split
    all_goals exact hK.out _ _ (congrArg Value.bool (by first | rfl | (exfalso;simp_all) | simp_all)) (br _ _)
   iterate 3 (refine jm ?_ ?_;rotate_left)
   refine jm ?_ ?_
   ·rintro wj hJ _ rfl _ rfl _ rfl K hK;simp only[Jo.z]at hK|-;go_simp;refine(kvWithin v1.top.1 v1.top.2 hM hM' v1.rk HX.out HR.out).mono ?_;rintro ee wk ⟨rfl,B⟩;exact hK.out _ _ rfl B
   iterate 2 (refine jm ?_ ?_;rotate_left)
   exact jo
   all_goals (rintro wj hJ;(repeat rintro _ rfl);intro K hK;simp only[Jo.z]at hK|-;have xX5:=(X5.b hJ).cell;have xX2:=(X2.b hJ).cell;go_simp;exact hK.out _ _ rfl (br _ _))
  rintro w8 hJ _ rfl _ rfl _ rfl _ rfl _ rfl _ rfl _ rfl _ rfl _ rfl -;simp only[Jo.z];replace X2:=X2.b hJ;replace X3:=X3.b hJ;replace X5:=X5.b hJ;replace HB:=Hqb HB hJ;refine jd ?_;go_wp2
  go_ret
  exact⟨rfl,HB.out⟩
 ·have hf:=has_inf (x:=x) hin hbd.1 hbd.2
  obtain rfl:false=r:=hf.symm.trans hr
  have HI:Hid (mkI n n=none):=ie (mkI_none (by omega))
  clear hr hbd hf
  go_enter Tryz.func51,Tryz.ntmps51
  go_upto_region 1 with (fail)
  generalize hW1:(w.alloc _).alloc _=w1 at *;obtain⟨X2,X3,HB⟩:=Bo.en2 hW1;clear hW1;have xX3:=X3.cell
  go_wp2_with fail
  refine(kvPoint hP HN.out HI.out).mono ?_;rintro ee w2 ⟨e1,K1,s1,M1,E1,K1b,s1b,M1b,E1b,rfl,v1,B⟩;clear xX3;replace HB:=Hqb HB B;clear B
  go_upto_region 2 with (fail)
  generalize hWn:w2.alloc _=w3 at *;obtain⟨X5,BW⟩:=Bo.nw hWn;clear hWn;replace HB:=Hqb HB BW;clear BW;obtain⟨rfl,rfl,rfl,rfl,rfl,rfl,rfl,rfl,rfl⟩:=v1.uniq Ci.none;refine jk [0,1,2,3,4,5,6,7,8] [some 8,some 9,some 10,some 11,some 12,some 13,some 14,some 15,some 4] [[],[],[0,1],[2],[3],[3],[3,4,5],[3,6],[7]] 9 0 [Jo.q9 true 0 false 0 0 0 false 0 0,Jo.q9 true 0 false 0 0 0 false 0 0,Jo.qb false,Jo.qb false,Jo.qu,Jo.qu,Jo.qu,Jo.qb false,Jo.qb false] ?_ ?_
  ·refine jm ?_ ?_;rotate_left
   refine jm ?_ ?_
   ·rintro wj hJ K hK;simp only[Jo.z]at hK|-;go_simp;refine(kvNoneE).mono ?_;rintro ee wk ⟨rfl,B⟩;exact hK.out _ _ rfl B
   refine jm ?_ ?_
   ·rintro wj hJ _ rfl _ rfl K hK;simp only[Jo.z]at hK|-;go_simp
    repeat' split
    all_goals exact hK.out _ _ (congrArg Value.bool (by first | rfl | (exfalso;simp_all) | simp_all)) (br _ _)
   iterate 6 (refine jm ?_ ?_;rotate_left)
   exact jo
   all_goals (rintro wj hJ;(repeat rintro _ rfl);intro K hK;simp only[Jo.z]at hK|-;have xX5:=(X5.b hJ).cell;go_simp;exact hK.out _ _ rfl (br _ _))
  rintro w8 hJ _ rfl _ rfl _ rfl _ rfl _ rfl _ rfl _ rfl _ rfl _ rfl -;simp only[Jo.z];replace HB:=Hqb HB hJ;refine jd ?_;go_wp2
  go_ret
  exact⟨rfl,HB.out⟩
theorem Na.stn{w w':World}{base n c g:Nat}{A:Option Addr}{l:List Int}{a b:Array Value}{T:TypeId}(h:Na w base A n c l)(S:StN w w' g a b T)(hT:(T==24)=false):Na w' base A n c l:=by
 obtain⟨r,h1,h2⟩:=h;refine⟨r,⟨h1.1,?_⟩,h2⟩
 rcases h1.2 with h3 | ⟨g0,cap,cur,hv,hg,hh,q⟩
 ·exact .inl h3
 ·refine .inr ⟨g0,cap,cur,hv,hg,?_,q⟩
  rw[S.2.2.1 g0 (fun e=>?_)]
  ·exact hh
  ·subst e
   have hb:w.heap[g0]?=some (.cells a T (0,0)):=S.1
   rw[hh]at hb
   simp at hb
   rw[<-hb.2]at hT
   simp at hT
theorem Bo.grownN{w w':World}{base n c g:Nat}{A:Option Addr}{l:List Int}{a:Array Value}{T:TypeId}(X:Bo w g a T)(h:Na w base A n c l)(hT:(T==24)=false)(G:w.grownBy w' (ownA A)):Bo w' g a T:=by
 refine X.keep (G.block g X.lt (fun e=>?_))
 obtain⟨r,h1,h2⟩:=h
 rcases h1.2 with⟨h3,_⟩ | ⟨g0,cap,cur,hv,hg,hh,q⟩
 ·injection h3 with h4
  subst h4
  cases e
 ·injection hv with h4
  subst h4
  cases e
  have hb:=X
  unfold Bo at hb
  rw[hh]at hb
  simp at hb
  rw[<-hb.2]at hT
  simp at hT
theorem ne_row{A A2 B B2:Option Addr}{s1 s2:Nat}(hne:∀k,ownA A=some k->ownA B≠some k)(a1:ownA A2=ownA A\/ownA A2=some s1)(a2:ownA B2=ownA B\/ownA B2=some s2)(lB:∀k,ownA B=some k->k < s1)(lA:∀k,ownA A2=some k->k < s2):∀k,ownA A2=some k->ownA B2≠some k:=by
 intro k h c
 have hk:=lA k h
 rcases a2 with e | e
 ·rw[e]at c;have hb:=lB k c
  rcases a1 with f | f
  ·rw[f]at h;exact hne k h c
  ·rw[f]at h
   injection h with h
   omega
 ·rw[e]at c
  injection c with c
  omega
theorem own_ne{A B:Option Addr}(hne:∀k,ownA A=some k->ownA B≠some k):ownA B=none\/ownA B≠ownA A:=by
 rcases h:ownA B with _ | k
 ·exact .inl rfl
 ·exact .inr (fun c=>hne k c.symm h)
theorem own_ne'{A B:Option Addr}(hne:∀k,ownA A=some k->ownA B≠some k):ownA A=none\/ownA A≠ownA B:=by
 rcases h:ownA A with _ | k
 ·exact .inl rfl
 ·exact .inr (fun c=>hne k h c.symm)
def EInv (w:World)(A B:Option Addr)(m c d:Nat)(la lb:List Int)(wr:World):Prop:=
 Na wr w.heap.size A m c la/\Na wr w.heap.size B m d lb/\(∀k,ownA A=some k->ownA B≠some k)/\Below w.heap.size w wr
theorem kvEnds{w:World}{A:Option Addr}{n c m:Nat}{l:List Sp}(h:Il8 w A n c l)(hm:(lowL l).length=m):Calls Tryz.prog 113 #[.slice A n c] w (fun e w'=>∃A1 c1 B1 d1,e= .returned (.tuple #[.slice A1 m c1,.slice B1 m d1])/\Nl w' A1 m c1 (lowL l)/\Nl w' B1 m d1 (highL l)/\Below w.heap.size w w'):=by
 have HM:=ie hm;have HLn:=ie h.1;have hcap:=h.2.1;have hbig:=h.2.2.1;have hD0:=h;clear hm h
 go_enter Tryz.func113,Tryz.ntmps113
 go_wp2
 go_loopw [2,3,8] (fun va vb i wr=>∃k A1 B1 m1 c1 d1,k<=n/\m1<=k/\va= .slice A1 m1 c1/\vb= .slice B1 m1 d1/\i= .int .i64 ((k:Nat):Int)/\EInv w A1 B1 m1 c1 d1 (lowL (l.take k)) (highL (l.take k)) wr) (fun _ _ i _=>n-(intOf i).toNat)
 case atStart=>exact ⟨0,_,_,_,_,_,Nat.zero_le _,Nat.zero_le _,rfl,rfl,rfl,Na.nil _ _,Na.nil _ _,(fun k h=>by cases h),Below.refl _ _⟩
 case round=>
  obtain⟨k,A1,B1,m1,c1,d1,hk,hmk,rfl,rfl,rfl,N1,N2,hne,hB⟩:=hrel;have HB:=ie hB;clear hB
  by_cases hlt:k < n
  ·have tlt:decide ((k:Int) < (n:Int))=true:=by simp;omega
   have h:=hD0.below HB.out;obtain⟨b,o,rfl,hcell⟩:=h.2.2.2 (by omega);obtain⟨e,D,s,M,E,D',s',M',E',x0,x1,x2,x3,x4,x5,x6,x7,x8,hM,hM',hx⟩:=hcell k hlt;clear hcell h hD0
   have i1:(k:Int) < n:=by omega
   have i2:(0:Int)<=k:=by omega
   have hsl:=lowL_take (l:=l) (k:=k) (by rw[HLn.out];exact hlt);have hsh:=highL_take (l:=l) (k:=k) (by rw[HLn.out];exact hlt);rw[<-hx]at hsl hsh;generalize lowL (l.take k)=la at *;generalize highL (l.take k)=lb at *;obtain⟨x,hX⟩:∃x,rkI e D s M E D' s' M' E'=x:=⟨_,rfl⟩;rw[hX]at hsl hsh;have HX:=ie hX;have HSL:=ie hsl;have HSH:=ie hsh
   have HNE:=ie hne;clear hsl hsh hX hx hne;have hsz:=HB.out.size
   go_upto_region 4 with (fail)
   clear x0 x1 x2 x3 x4 x5 x6 x7 x8;generalize hWn:wr.alloc _=w3 at *;obtain⟨X5,BW⟩:=Bo.nw hWn;clear hWn;replace N1:=N1.b BW;replace N2:=N2.b BW;replace HB:=Hqb HB BW;clear BW;have xX5:=X5.cell
   go_wp2_with fail
   refine(kvOrE hM hM' HX.out).mono ?_;rintro ee w4 ⟨e1,K1,s1,M1,E1,K1b,s1b,M1b,E1b,rfl,v1,B⟩;clear xX5;replace X5:=X5.b B;replace N1:=N1.b B;replace N2:=N2.b B;replace HB:=Hqb HB B;clear B;clear HX hM hM';have xX5:=X5.cell;have zX50:=X5.frozen
   go_upto_region 5 with (fail)
   clear xX5 zX50;generalize hS:((((((((w4.setCell _ _).setCell _ _).setCell _ _).setCell _ _).setCell _ _).setCell _ _).setCell _ _).setCell _ _).setCell _ _=w5 at *;have SX:=StN.of9 X5 hS;replace N1:=N1.stn SX (by decide);replace N2:=N2.stn SX (by decide);replace HB:=ie (SX.below HB.out hsz);replace X5:=SX.box;clear SX hS
   rcases x with _ | ⟨xa,xb⟩
   ·obtain⟨rfl,y1,y1b⟩:=v1;have hsl2:=HSL.out;have hsh2:=HSH.out
    have hl0:la ++lo1 none=la:=List.append_nil la
    have hh0:lb ++hi1 none=lb:=List.append_nil lb
    rw[hl0]at hsl2;rw[hh0]at hsh2;clear HSL HSH hl0 hh0
    obtain⟨_,rfl,rfl,rfl,rfl,rfl,rfl,rfl,rfl⟩:=(show Ci true K1 s1 M1 E1 K1b s1b M1b E1b none from ⟨rfl,y1,y1b⟩).uniq Ci.none
    clear y1 y1b;refine jk [0,1,2] [some 14,some 15,some 16] [[],[],[0,1]] 3 0 [Jo.q9 true 0 false 0 0 0 false 0 0,Jo.q9 true 0 false 0 0 0 false 0 0,Jo.qb false] ?_ ?_
    ·refine jm ?_ ?_
     ·rintro wj hJ K hK;simp only[Jo.z]at hK|-;have xX5:=(X5.b hJ).cell;go_simp;exact hK.out _ _ rfl (br _ _)
     refine jm ?_ ?_
     ·rintro wj hJ K hK;simp only[Jo.z]at hK|-;go_simp;refine(kvNoneE).mono ?_;rintro ee wk ⟨rfl,B⟩;exact hK.out _ _ rfl B
     refine jm ?_ ?_
     ·rintro wj hJ _ rfl _ rfl K hK;simp only[Jo.z]at hK|-;go_simp
      repeat' split
      all_goals exact hK.out _ _ (congrArg Value.bool (by first | rfl | (exfalso;simp_all) | simp_all)) (br _ _)
     exact jo
    rintro w6 hJ _ rfl _ rfl _ rfl -;simp only[Jo.z];replace X5:=X5.b hJ;replace N1:=N1.b hJ;replace N2:=N2.b hJ;replace HB:=Hqb HB hJ;refine jd ?_;go_wp2
    go_roundw
    case rel=>exact ⟨k+1,_,_,_,_,_,by omega,by omega,rfl,rfl,by go_num,by rw[hsl2];exact N1,by rw[hsh2];exact N2,HNE.out,HB.out⟩
    case measure=>simp [intOf];omega
   ·obtain⟨rfl,a1,b1,o1,o1l,o1h⟩:=v1
    have hsl2:_=la ++[xa]:=HSL.out
    have hsh2:_=lb ++[xb]:=HSH.out
    clear HSL HSH o1 o1l o1h;refine jk [0,1,2] [some 14,some 15,some 16] [[],[],[0,1]] 3 0 [Jo.q9 false K1 s1 M1 E1 K1b s1b M1b E1b,Jo.q9 true 0 false 0 0 0 false 0 0,Jo.qb true] ?_ ?_
    ·refine jm ?_ ?_
     ·rintro wj hJ K hK;simp only[Jo.z]at hK|-;have xX5:=(X5.b hJ).cell;go_simp;exact hK.out _ _ rfl (br _ _)
     refine jm ?_ ?_
     ·rintro wj hJ K hK;simp only[Jo.z]at hK|-;go_simp;refine(kvNoneE).mono ?_;rintro ee wk ⟨rfl,B⟩;exact hK.out _ _ rfl B
     refine jm ?_ ?_
     ·rintro wj hJ _ rfl _ rfl K hK;simp only[Jo.z]at hK|-;go_simp
      repeat' split
      all_goals exact hK.out _ _ (congrArg Value.bool (by first | rfl | (exfalso;simp_all) | simp_all)) (br _ _)
     exact jo
    rintro w6 hJ _ rfl _ rfl _ rfl -;simp only[Jo.z];replace X5:=X5.b hJ;replace N1:=N1.b hJ;replace N2:=N2.b hJ;replace HB:=Hqb HB hJ;refine jd ?_;have xX5:=X5.cell
    go_wp2_with (at_builtin;refine wpList_na rfl _ _ rfl rfl rfl (N1.below (bel1 _ _)) a1 (Bo.new _ _ _) (by omega) (Nat.le_trans HB.out.size (bel1 _ _).size) ?_)
    intro A2 d2 w7 N1' G1 at1
    clear xX5;have hB2:=bt HB.out (bel1 _ (.cells #[.int .i64 K1,.bool s1,.int .u64 M1,.int .i64 E1] 24));have N1b:=N1.below (bel1 _ (.cells #[.int .i64 K1,.bool s1,.int .u64 M1,.int .i64 E1] 24));have N2b:=N2.below (bel1 _ (.cells #[.int .i64 K1,.bool s1,.int .u64 M1,.int .i64 E1] 24));replace X5:=(X5.below (bel1 _ (.cells #[.int .i64 K1,.bool s1,.int .u64 M1,.int .i64 E1] 24))).grownN N1b (by decide) G1
    replace HB:=ie (hB2.grown G1 hB2.size (fun k hk=>(N1b.own_lt k hk).1))
    have l1:∀k,ownA B1=some k->k < w6.heap.size+1:=fun k hk=>by
     have:=(N2b.own_lt k hk).2
     simpa using this
    replace N2:=N2b.kept G1 (own_ne HNE.out);clear N1 N1b N2b G1 hB2;have xX5:=X5.cell
    go_wp2_with (at_builtin;refine wpList_na rfl _ _ rfl rfl rfl (N2.below (bel1 _ _)) b1 (Bo.new _ _ _) (by omega) (Nat.le_trans HB.out.size (bel1 _ _).size) ?_)
    intro B2 d3 w8 N2' G2 at2
    clear xX5;have hB2:=bt HB.out (bel1 _ (.cells #[.int .i64 K1b,.bool s1b,.int .u64 M1b,.int .i64 E1b] 24));have N2b:=N2.below (bel1 _ (.cells #[.int .i64 K1b,.bool s1b,.int .u64 M1b,.int .i64 E1b] 24));have N1b:=N1'.below (bel1 _ (.cells #[.int .i64 K1b,.bool s1b,.int .u64 M1b,.int .i64 E1b] 24))
    have lA:∀k,ownA A2=some k->k < w7.heap.size+1:=fun k hk=>by
     have:=(N1b.own_lt k hk).2
     simpa using this
    have hne2:∀k,ownA A2=some k->ownA B2≠some k:=ne_row HNE.out at1 at2 l1 lA
    have hne1:∀k,ownA A2=some k->ownA B1≠some k:=ne_row HNE.out at1 (.inl rfl) l1 lA
    replace HB:=ie (hB2.grown G2 hB2.size (fun k hk=>(N2b.own_lt k hk).1))
    replace N1':=N1b.kept G2 (own_ne' hne1)
    clear N1b N2b G2 hB2 hne1 X5 N2 l1 lA at1 at2;go_wp2
    go_roundw
    case rel=>exact ⟨k+1,_,_,_,_,_,by omega,by omega,rfl,rfl,by go_num,by rw[hsl2];exact N1',by rw[hsh2];exact N2',hne2,HB.out⟩
    case measure=>simp [intOf];omega
  ·obtain rfl:k=n:=by omega
   have tlt:decide ((k:Int) < (k:Int))=false:=by simp
   have e1:l.take k=l:=List.take_of_length_le (by rw[HLn.out];omega)
   rw[e1]at N1 N2
   obtain rfl:m1=m:=by rw[<-HM.out];exact N1.len.symm
   have M1:=N1.nl (by omega);have M2:=N2.nl (by omega);clear N1 N2;go_wp2
   go_ret2
   exact⟨_,_,_,_,rfl,M1,M2,HB.out⟩
theorem kvMeet{w:World}{A:Option Addr}{n c:Nat}{l:List Sp}{z:Sp}(h:Il8 w A n c l)(hr:meetL l=z):Calls Tryz.prog 44 #[.slice A n c] w (PV w z):=by
 obtain⟨m,hm⟩:∃m,(lowL l).length=m:=⟨_,rfl⟩;have hln:=h.1;have hle:=len_lo l;have hok:=h.ok;have HM:=ie hm
 go_enter Tryz.func44,Tryz.ntmps44
 go_upto_region 1 with (fail)
 generalize hW1:w.alloc _=w1 at *;obtain⟨XR,HB⟩:=Bo.en1 hW1;replace h:=h.below HB.out;clear hW1
 go_wp2_with fail
 refine(kvEnds h HM.out).mono ?_;rintro ee w2 ⟨A1,c1,B1,d1,rfl,N1,N2,B⟩;replace XR:=XR.b B;replace HB:=Hqb HB B;clear B;clear h
 by_cases hl:m < n
 ·rw[meet_no (by omega)]at hr
  obtain rfl:none=z:=hr
  have tl:decide ((m:Int) < (n:Int))=true:=by simp;omega
  clear hm hle hln hok
  go_wp2_with fail
  refine(kvNoneE).mono ?_;rintro ee w3 ⟨rfl,B⟩;replace XR:=XR.b B;replace N1:=N1.b B;replace N2:=N2.b B;replace HB:=Hqb HB B;clear B;clear N1 N2;have xXR:=XR.cell;have zXR0:=XR.frozen;go_wp2;clear xXR zXR0;have SX:=StN.t9 XR true 0 false 0 0 0 false 0 0
  exact bq (by simp[results,Tryz.results44,go_sem,SX.box.cell]) rfl ⟨_,_,_,_,_,_,_,_,_,rfl,Ci.none,(SX.below HB.out (by omega))⟩
 ·have hr2:=(meet_some (by omega)).symm.trans hr
  have tl:decide ((m:Int) < (n:Int))=false:=by simp;omega
  clear hr;obtain⟨u,hu⟩:∃u,mxp (lowL l)=u:=⟨_,rfl⟩;obtain⟨v,hv⟩:∃v,mnp (highL l)=v:=⟨_,rfl⟩;rw[hu,hv]at hr2;have HU:=ie hu;have HVV:=ie hv;have HR:=ie hr2;clear hu hv hr2 hm hle hln hok
  go_wp2_with fail
  refine(nMost N1 HU.out).mono ?_;rintro ee w3 ⟨K1,s1,M1,E1,rfl,q1,B⟩;replace XR:=XR.b B;replace N2:=N2.b B;replace HB:=Hqb HB B;clear B
  go_wp2_with fail
  refine(nLeast N2 HVV.out).mono ?_;rintro ee w4 ⟨K2,s2,M2,E2,rfl,q2,B⟩;replace XR:=XR.b B;replace HB:=Hqb HB B;clear B
  go_wp2_with fail
  refine(kvMake q1.top q2.top q1.rk q2.rk HR.out).mono ?_;rintro ee w5 ⟨e3,K3,s3,M3,E3,K3b,s3b,M3b,E3b,rfl,v3,B⟩;replace XR:=XR.b B;replace HB:=Hqb HB B;clear B;clear N1 N2;have xXR:=XR.cell;have zXR0:=XR.frozen;go_wp2;clear xXR zXR0;have SX:=StN.t9 XR e3 K3 s3 M3 E3 K3b s3b M3b E3b
  exact bq (by simp[results,Tryz.results44,go_sem,SX.box.cell]) rfl ⟨_,_,_,_,_,_,_,_,_,rfl,v3,(SX.below HB.out (by omega))⟩
theorem kvHull{w:World}{A:Option Addr}{n c:Nat}{l:List Sp}{z:Sp}(h:Il8 w A n c l)(hr:hullL l=z):Calls Tryz.prog 148 #[.slice A n c] w (PV w z):=by
 obtain⟨m,hm⟩:∃m,(lowL l).length=m:=⟨_,rfl⟩;have hln:=h.1;have hle:=len_lo l;have hok:=h.ok;have HM:=ie hm
 go_enter Tryz.func148,Tryz.ntmps148
 go_upto_region 1 with (fail)
 generalize hW1:w.alloc _=w1 at *;obtain⟨XR,HB⟩:=Bo.en1 hW1;replace h:=h.below HB.out;clear hW1
 go_wp2_with fail
 refine(kvEnds h HM.out).mono ?_;rintro ee w2 ⟨A1,c1,B1,d1,rfl,N1,N2,B⟩;replace XR:=XR.b B;replace HB:=Hqb HB B;clear B;clear h;have hr2:=(hull_ends hok).symm.trans hr;clear hr;obtain⟨u,hu⟩:∃u,mnp (lowL l)=u:=⟨_,rfl⟩;obtain⟨v,hv⟩:∃v,mxp (highL l)=v:=⟨_,rfl⟩;rw[hu,hv]at hr2;have HU:=ie hu;have HVV:=ie hv;have HR:=ie hr2
 clear hu hv hr2 hm hle hln hok
 go_wp2_with fail
 refine(nLeast N1 HU.out).mono ?_;rintro ee w3 ⟨K1,s1,M1,E1,rfl,q1,B⟩;replace XR:=XR.b B;replace N2:=N2.b B;replace HB:=Hqb HB B;clear B
 go_wp2_with fail
 refine(nMost N2 HVV.out).mono ?_;rintro ee w4 ⟨K2,s2,M2,E2,rfl,q2,B⟩;replace XR:=XR.b B;replace HB:=Hqb HB B;clear B
 go_wp2_with fail
 refine(kvMake q1.top q2.top q1.rk q2.rk HR.out).mono ?_;rintro ee w5 ⟨e3,K3,s3,M3,E3,K3b,s3b,M3b,E3b,rfl,v3,B⟩;replace XR:=XR.b B;replace HB:=Hqb HB B;clear B;clear N1 N2;have xXR:=XR.cell;have zXR0:=XR.frozen;go_wp2;clear xXR zXR0;have SX:=StN.t9 XR e3 K3 s3 M3 E3 K3b s3b M3b E3b
 exact bq (by simp[results,Tryz.results148,go_sem,SX.box.cell]) rfl ⟨_,_,_,_,_,_,_,_,_,rfl,v3,(SX.below HB.out (by omega))⟩
def Rw (e:Bool)(K:Int)(s:Bool)(M E K':Int)(s':Bool)(M' E':Int)(x:Sp):Prop:=M < 18446744073709551616/\M' < 18446744073709551616/\rkI e K s M E K' s' M' E'=x
theorem Il8.lit1{W:World}{h:Nat}{K1 M1 E1 G1 P1 Q1:Int}{e1 s1 g1:Bool}{x1:Sp}(hg:W.heap.size=h)(v1:Rw e1 K1 s1 M1 E1 G1 g1 P1 Q1 x1):
  Il8 (W.alloc (.cells #[.bool e1,.int .i64 K1,.bool s1,.int .u64 M1,.int .i64 E1,.int .i64 G1,.bool g1,.int .u64 P1,.int .i64 Q1] 32)) (some ⟨h,0,none⟩) 1 1 [x1]:=by
 subst hg;have hh:=heap_alloc_new W (.cells #[.bool e1,.int .i64 K1,.bool s1,.int .u64 M1,.int .i64 E1,.int .i64 G1,.bool g1,.int .u64 P1,.int .i64 Q1] 32)
 refine⟨rfl,Nat.le_refl _,by decide,fun _=>⟨_,0,rfl,fun k hk=>?_⟩⟩
 obtain rfl:k=0:=by omega
 exact⟨e1,K1,s1,M1,E1,G1,g1,P1,Q1,by rw[cell_of_row _ _ _ _ _ _ hh];rfl,by rw[cell_of_row _ _ _ _ _ _ hh];rfl,by rw[cell_of_row _ _ _ _ _ _ hh];rfl,by rw[cell_of_row _ _ _ _ _ _ hh];rfl,by rw[cell_of_row _ _ _ _ _ _ hh];rfl,by rw[cell_of_row _ _ _ _ _ _ hh];rfl,by rw[cell_of_row _ _ _ _ _ _ hh];rfl,by rw[cell_of_row _ _ _ _ _ _ hh];rfl,by rw[cell_of_row _ _ _ _ _ _ hh];rfl,v1.1,v1.2.1,v1.2.2⟩
theorem kvOf{w:World}{a b oa ob:Int}{x:Sp}(a1: -9223372036854775808<=a)(a2:a<=9223372036854775807)(b1: -9223372036854775808<=b)(b2:b<=9223372036854775807)(ha:sgi (decide (a < 0)) (lo a.natAbs 0)=oa)(hb:sgi (decide (b < 0)) (lo b.natAbs 0)=ob)(hx:mkI oa ob=x):Calls Tryz.prog 50 #[.int .i64 a,.int .i64 b] w (PV w x):=by
 have HA:=ie ha;have HBB:=ie hb;have HX:=ie hx;clear ha hb hx
 go_enter Tryz.func50,Tryz.ntmps50
 go_upto_region 1 with (fail)
 generalize hW1:w.alloc _=w1 at *;obtain⟨XR,HB⟩:=Bo.en1 hW1;clear hW1
 go_wp2_with fail
 refine(nOf _ a1 a2 HA.out).mono ?_;rintro ee w2 ⟨K1,s1,M1,E1,rfl,q1,B⟩;replace XR:=XR.b B;replace HB:=Hqb HB B;clear B
 go_wp2_with fail
 refine(nOf _ b1 b2 HBB.out).mono ?_;rintro ee w3 ⟨K2,s2,M2,E2,rfl,q2,B⟩;replace XR:=XR.b B;replace HB:=Hqb HB B;clear B
 go_wp2_with fail
 refine(kvMake q1.top q2.top q1.rk q2.rk HX.out).mono ?_;rintro ee w4 ⟨e3,K3,s3,M3,E3,K3b,s3b,M3b,E3b,rfl,v3,B⟩;replace XR:=XR.b B;replace HB:=Hqb HB B;clear B;have xXR:=XR.cell;have zXR0:=XR.frozen;go_wp2;clear xXR zXR0;have SX:=StN.t9 XR e3 K3 s3 M3 E3 K3b s3b M3b E3b
 exact bq (by simp[results,Tryz.results50,go_sem,SX.box.cell]) rfl ⟨_,_,_,_,_,_,_,_,_,rfl,v3,(SX.below HB.out (by omega))⟩
abbrev V9:=Bool × Int × Bool × Int × Int × Int × Bool × Int × Int
def vrow:List V9->List Value
 | []=>[]
 | (e,K,s,M,E,K',s',M',E')::l=> .bool e:: .int .i64 K:: .bool s:: .int .u64 M:: .int .i64 E:: .int .i64 K':: .bool s':: .int .u64 M':: .int .i64 E'::vrow l
theorem vrow_append:∀l m,vrow (l ++m)=vrow l ++vrow m
 | [],m=>rfl
 | (e,K,s,M,E,K',s',M',E')::l,m=>by
  show _::_::_::_::_::_::_::_::_::vrow (l ++m)=_
  rw[vrow_append l m]
  rfl
theorem vrow_len:∀l,(vrow l).length=l.length*9
 | []=>rfl
 | (e,K,s,M,E,K',s',M',E')::l=>by
  show (vrow l).length+9=(l.length+1)*9
  rw[vrow_len l]
  omega
theorem vrow_one:∀(l:List V9),∀u ∈ vrow l,u.oneCell'=true
 | [],u,h=>by cases h
 | (e,K,s,M,E,K',s',M',E')::l,u,h=>by
  simp only[vrow,List.mem_cons]at h
  rcases h with rfl | rfl | rfl | rfl | rfl | rfl | rfl | rfl | rfl | h
  iterate 9 rfl
  exact vrow_one l u h
theorem vrow_at:∀(l:List V9) (k:Nat) (e:Bool) (K:Int) (s:Bool) (M E K':Int) (s':Bool) (M' E':Int),l[k]?=some (e,K,s,M,E,K',s',M',E')->(vrow l)[k*9]?=some (.bool e)/\(vrow l)[k*9+1]?=some (.int .i64 K)/\(vrow l)[k*9+2]?=some (.bool s)/\(vrow l)[k*9+3]?=some (.int .u64 M)/\(vrow l)[k*9+4]?=some (.int .i64 E)/\(vrow l)[k*9+5]?=some (.int .i64 K')/\(vrow l)[k*9+6]?=some (.bool s')/\(vrow l)[k*9+7]?=some (.int .u64 M')/\(vrow l)[k*9+8]?=some (.int .i64 E')
 | [],k,_,_,_,_,_,_,_,_,_,h=>by cases h
 | (e,K,s,M,E,K',s',M',E')::l,0,_,_,_,_,_,_,_,_,_,h=>by
  cases h
  exact⟨rfl,rfl,rfl,rfl,rfl,rfl,rfl,rfl,rfl⟩
 | (e,K,s,M,E,K',s',M',E')::l,k+1,e2,K2,s2,M2,E2,K2',s2',M2',E2',h=>by
  have:=vrow_at l k e2 K2 s2 M2 E2 K2' s2' M2' E2' h
  have e:(k+1)*9=k*9+9:=by omega
  rw[e];exact this
def Ia (w:World)(base:Nat)(A:Option Addr)(n c:Nat)(l:List Sp):Prop:=
 ∃r:List V9,w.ownsRow base 32 9 (.slice A n c) n (vrow r)/\r.length=n/\l.length=n/\∀k,k < n->∃e K s M E K' s' M' E',r[k]?=some (e,K,s,M,E,K',s',M',E')/\Ci e K s M E K' s' M' E' (l.getD k none)
theorem infoIv:(Tryz.prog.info? 32).map (fun i=>(i.zero,i.size,i.bytes))=some (some (.agg #[.bool false,.int .i64 0,.bool false,.int .u64 0,.int .i64 0,.int .i64 0,.bool false,.int .u64 0,.int .i64 0]),9,72):=by kernel_rfl
section
variable {w w':World} {base n c:Nat} {A:Option Addr} {l:List Sp}
theorem Ia.nil (w:World)(base:Nat):Ia w base none 0 0 []:=⟨[],World.ownsRow_nil w base _ 9,rfl,rfl,fun k h=>absurd h (Nat.not_lt_zero _)⟩
theorem Ia.len (h:Ia w base A n c l):l.length=n:=by
 obtain⟨_,_,_,h,_⟩:=h;exact h
theorem Ia.below (h:Ia w base A n c l)(hb:Below w.heap.size w w'):Ia w' base A n c l:=by
 obtain⟨r,h1,h2⟩:=h;refine⟨r,⟨h1.1,?_⟩,h2⟩
 rcases h1.2 with h3 | ⟨g,cap,cur,hv,hg,hh,q⟩
 ·exact .inl h3
 ·refine .inr ⟨g,cap,cur,hv,hg,?_,q⟩;rw[hb.block g (Array.getElem?_eq_some_iff.1 hh).1];exact hh
abbrev Ia.b:= @Ia.below
theorem Ia.lower (h:Ia w base A n c l){base2:Nat}(hb:base2<=base):Ia w base2 A n c l:=by
 obtain⟨r,h1,h2⟩:=h;refine⟨r,⟨h1.1,?_⟩,h2⟩
 rcases h1.2 with h3 | ⟨g,cap,cur,hv,hg,q⟩
 ·exact .inl h3
 ·exact .inr ⟨g,cap,cur,hv,Nat.le_trans hb hg,q⟩
theorem Ia.own_lt (h:Ia w base A n c l):∀k,ownA A=some k->base<=k/\k < w.heap.size:=by
 obtain⟨r,h1,h2⟩:=h
 intro k hk
 exact h1.lt k (by rw[own_eq];exact hk)
theorem Bo.grownI{g:Nat}{a:Array Value}{T:TypeId}(X:Bo w g a T)(h:Ia w base A n c l)(hT:(T==32)=false)(G:w.grownBy w' (ownA A)):Bo w' g a T:=by
 refine X.keep (G.block g X.lt (fun e=>?_))
 obtain⟨r,h1,h2⟩:=h
 rcases h1.2 with⟨h3,_⟩ | ⟨g0,cap,cur,hv,hg,hh,q⟩
 ·injection h3 with h4
  subst h4
  cases e
 ·injection hv with h4
  subst h4
  cases e
  have hb:=X
  unfold Bo at hb
  rw[hh]at hb
  simp at hb
  rw[<-hb.2]at hT
  simp at hT
theorem Ia.cells (h:Ia w base A n c l)(h0:0 < n):∃g,A=some ⟨g,0,none⟩/\n<=c/\∃r:List V9,r.length=n/\(∀k,k < n->∃e K s M E K' s' M' E',r[k]?=some (e,K,s,M,E,K',s',M',E')/\Ci e K s M E K' s' M' E' (l.getD k none))/\∀j v,(vrow r)[j]?=some v->w.cell? ⟨g,0+j,none⟩=some v:=by
 obtain⟨r,h1,h2,h3,h4⟩:=h
 rcases h1.2 with⟨e1,e2⟩ | ⟨g,cap,cur,hv,hg,hh,hc,hm,hs,ht⟩
 ·omega
 ·injection hv with a1 a2 a3
  subst a1;subst a3
  refine⟨g,rfl,hc,r,h2,h4,fun j v hv=>?_⟩
  rw[cell_of_row w g (0+j) _ _ (0,0) hh,Nat.zero_add,<-Array.getElem?_toList];rw[<-ht,List.getElem?_take]at hv
  split at hv
  ·exact hv
  ·cases hv
theorem Ia.il (h:Ia w base A n c l)(hn:n<=1099511627776):Il8 w A n c l:=by
 rcases Nat.eq_zero_or_pos n with h0 | h0
 ·subst h0;have hl:=h.len;obtain⟨r,h1,_⟩:=h
  rcases h1.2 with⟨e1,e2⟩ | ⟨g,cap,cur,hv,hg,hh,hc,hm,hs,ht⟩
  ·injection e1 with a1 a2 a3
   subst a3
   exact⟨hl,Nat.le_refl _,by omega,fun h=>absurd h (Nat.lt_irrefl _)⟩
  ·exact⟨hl,Nat.zero_le _,by omega,fun h=>absurd h (Nat.lt_irrefl _)⟩
 ·obtain⟨g,rfl,hc,r,h2,h4,cell⟩:=h.cells h0
  refine⟨h.len,hc,hn,fun _=>⟨g,0,rfl,fun k hk=>?_⟩⟩
  obtain⟨e,K,s,M,E,K',s',M',E',hr,q⟩:=h4 k hk;obtain⟨c0,c1,c2,c3,c4,c5,c6,c7,c8⟩:=vrow_at r k e K s M E K' s' M' E' hr;refine⟨e,K,s,M,E,K',s',M',E',cell _ _ c0,?_,?_,?_,?_,?_,?_,?_,?_,q.top.1,q.top.2,q.rk⟩
  all_goals rw[Nat.add_assoc]
  ·exact cell _ _ c1
  ·exact cell _ _ c2
  ·exact cell _ _ c3
  ·exact cell _ _ c4
  ·exact cell _ _ c5
  ·exact cell _ _ c6
  ·exact cell _ _ c7
  ·exact cell _ _ c8
theorem Ia.lit{g:Nat}{e s s':Bool}{K M E K' M' E':Int}{x:Sp}(X:Bo w g #[.bool e,.int .i64 K,.bool s,.int .u64 M,.int .i64 E,.int .i64 K',.bool s',.int .u64 M',.int .i64 E'] 32)(q:Ci e K s M E K' s' M' E' x):Ia w g (some ⟨g,0,none⟩) 1 1 [x]:=by
 refine⟨[(e,K,s,M,E,K',s',M',E')],⟨rfl,.inr ⟨g,1,_,rfl,Nat.le_refl _,X,Nat.le_refl _,by decide,rfl,rfl⟩⟩,rfl,rfl,fun k hk=>?_⟩
 obtain rfl:k=0:=by omega
 exact⟨e,K,s,M,E,K',s',M',E',rfl,q⟩
theorem add_at (g j:Nat):(⟨g,0,none⟩:Addr).add j=⟨g,0+j,none⟩:=by
 unfold Addr.add
 split
 ·rename_i h
  subst h
  rfl
 ·rfl
theorem run_ia{ty:TypeId}{base2 m d:Nat}{B:Option Addr}{l2:List Sp}(h:Ia w base A n c l)(k:Ia w base2 B m d l2)(h0:0 < m)(hn:n+m<=1000000)(hb:base<=w.heap.size):
  ∃A2 c2 w',(Builtin.append_ #[84,84] ty #[.slice A n c,.slice B m d]).run Tryz.prog w= .ok (.slice A2 (n+m) c2) w'/\Ia w' base A2 (n+m) c2 (l ++l2)/\w.grownBy w' (ownA A)/\(ownA A2=ownA A\/ownA A2=some w.heap.size):=by
 obtain⟨i,hi,hz,hsi,hby⟩:=info_parts infoIv;have hl2:=k.len;obtain⟨g,rfl,hc,q,q2,q4,cell⟩:=k.cells h0;obtain⟨r,h1,h2,h3,h4⟩:=h
 obtain⟨v',w',hr,ho,hg,_,hat⟩:=run_append_own_at (P:=Tryz.prog) w base 84 ty 32 i _ 9 72 Tryz.underlying84 hi hz hsi hby rfl (by decide) _ n (vrow r) h1 ⟨g,0,none⟩ m d (vrow q) (by rw[vrow_len,q2])
  (fun j u hj=>by rw[add_at];exact cell j u hj) (vrow_one q) (by unfold maxLen;omega) (by omega) hb
 rw[own_eq]at hg hat;rw[<-vrow_append]at ho
 obtain⟨A2,c2,rfl⟩:∃A2 c2,v'= .slice A2 (n+m) c2:=by
  rcases ho.2 with⟨_,h0⟩ | ⟨g',cap',cur',hv,_⟩
  ·omega
  ·exact⟨_,_,hv⟩
 rw[own_eq]at hat
 refine⟨A2,c2,w',hr,⟨_,ho,by rw[List.length_append,h2,q2],by rw[List.length_append,h3,hl2],fun j hj=>?_⟩,hg,hat⟩
 by_cases hjn:j < n
 ·obtain⟨e1,K1,s1,M1,E1,K1',s1',M1',E1',hq,qq⟩:=h4 j hjn;refine⟨e1,K1,s1,M1,E1,K1',s1',M1',E1',by rw[List.getElem?_append_left (by omega)];exact hq,?_⟩
  rw[List.getD_eq_getElem?_getD,List.getElem?_append_left (by omega),<-List.getD_eq_getElem?_getD];exact qq
 ·obtain⟨e1,K1,s1,M1,E1,K1',s1',M1',E1',hq,qq⟩:=q4 (j-n) (by omega);refine⟨e1,K1,s1,M1,E1,K1',s1',M1',E1',by rw[List.getElem?_append_right (by omega),h2];exact hq,?_⟩
  rw[List.getD_eq_getElem?_getD,List.getElem?_append_right (by omega),h3,<-List.getD_eq_getElem?_getD];exact qq
theorem wpList_ia{ops:Array Oper}{rest:List Oper}{o:Oper}{a:Act}{Q:Exit->Act->World->Prop}(hgd:o.guard=none)(s x:Operand)
  (ho:o.op= .call {callee:= .builtin .append,args:= #[s,x],argTypes:= #[84,84]}) {base2 m d:Nat} {B:Option Addr} {l2:List Sp}
  (hs:a.eval s= .slice A n c) (hx:a.eval x= .slice B m d) (h:Ia w base A n c l) (k:Ia w base2 B m d l2) (h0:0 < m) (hn:n+m<=1000000) (hb:base<=w.heap.size)
  (hK:∀A2 c2 w',Ia w' base A2 (n+m) c2 (l ++l2)->w.grownBy w' (ownA A)->(ownA A2=ownA A\/ownA A2=some w.heap.size)->wpList Tryz.prog ops Q rest (a.put o.dst (.slice A2 (n+m) c2)) w'):wpList Tryz.prog ops Q (o::rest) a w:=by
 refine wpList_plain hgd fun K hK2=>?_
 obtain⟨A2,c2,w',hr,h1,h2,h3⟩:=run_ia (ty:=o.type) h k h0 hn hb
 unfold Oper.wp execOp
 simp only[ho,resolve,invoke,builtin,Sem.run_bind,Sem.run_pure,Result.andThen_ok,List.map_toArray,List.map_cons,List.map_nil,hs,hx,hr];exact hK2 _ _ (hK A2 c2 w' h1 h2 h3)
theorem step_ia{ops:Array Oper}{o:Oper}{a:Act}{K:Act->World->Prop}{Q:Exit->Act->World->Prop}(hgd:o.guard=none)(s x:Operand)
  (ho:o.op= .call {callee:= .builtin .append,args:= #[s,x],argTypes:= #[84,84]}) {base2 m d:Nat} {B:Option Addr} {l2:List Sp}
  (hs:a.eval s= .slice A n c) (hx:a.eval x= .slice B m d) (h:Ia w base A n c l) (k:Ia w base2 B m d l2) (h0:0 < m) (hn:n+m<=1000000) (hb:base<=w.heap.size)
  (hK:∀A2 c2 w',Ia w' base A2 (n+m) c2 (l ++l2)->w.grownBy w' (ownA A)->(ownA A2=ownA A\/ownA A2=some w.heap.size)->K (a.put o.dst (.slice A2 (n+m) c2)) w'):
  if Region.wanted o (yielded ops a.tmps)=true then Oper.wp Tryz.prog o a w K Q else K (a.put o.dst undef) w:=by
 have e:Region.wanted o (yielded ops a.tmps)=true:=by
  unfold Region.wanted
  rw[hgd]
 rw[if_pos e];obtain⟨A2,c2,w',hr,h1,h2,h3⟩:=run_ia (ty:=o.type) h k h0 hn hb
 unfold Oper.wp execOp
 simp only[ho,resolve,invoke,builtin,Sem.run_bind,Sem.run_pure,Result.andThen_ok,List.map_toArray,List.map_cons,List.map_nil,hs,hx,hr];exact hK A2 c2 w' h1 h2 h3
end
end Go.Proofs.YtomikokonmikgaaGreatDoor
namespace Go.Proofs.YtomikokonmikgaaGreatDoor
open Go Go.RowKit
set_option linter.unusedVariables false
structure Duo (g h:Nat) (w w':World):Prop where
 os:w'.os=w.os
 tape:w'.tape=w.tape
 output:w'.output=w.output
 size:w.heap.size<=w'.heap.size
 block:∀k,k < w.heap.size->k≠g->k≠h->w'.heap[k]?=w.heap[k]?
section
variable {g h:Nat} {w w' w'':World}
theorem Duo.of (H:Below w.heap.size w w'):Duo g h w w':=⟨H.os,H.tape,H.output,H.size,fun k hk _ _=>H.block k hk⟩
theorem Duo.trans (H:Duo g h w w')(K:Duo g h w' w''):Duo g h w w'':=
 ⟨K.os.trans H.os,K.tape.trans H.tape,K.output.trans H.output,Nat.le_trans H.size K.size,fun i hi a b=>(K.block i (Nat.lt_of_lt_of_le hi H.size) a b).trans (H.block i hi a b)⟩
theorem Duo.mv (H:Duo g h w w')(K:Below w'.heap.size w' w''):Duo g h w w'':=H.trans (.of K)
theorem Duo.stn{k:Nat}{old new:Array Value}{R:TypeId}(H:Duo g h w w')(S:StN w' w'' k old new R)(hk:k=g\/k=h\/w.heap.size<=k):Duo g h w w'':=by
 have hb:=S.2.2.2 0 w' (Nat.zero_le _) (Below.refl 0 w')
 exact⟨hb.os.trans H.os,hb.tape.trans H.tape,hb.output.trans H.output,Nat.le_trans H.size hb.size,fun i hi a b=>(S.2.2.1 i (by omega)).trans (H.block i hi a b)⟩
theorem Duo.below{B:Nat}{a:World}(O:Duo g h w w')(H:Below B a w)(h1:B<=g)(h2:B<=h)(h3:B<=w.heap.size):Below B a w':=
 ⟨O.os.trans H.os,O.tape.trans H.tape,O.output.trans H.output,Nat.le_trans H.size O.size,fun k hk=>(O.block k (by omega) (by omega) (by omega)).trans (H.block k hk)⟩
abbrev Duo.b:= @Duo.below
theorem Bo.duo{k:Nat}{cs:Array Value}{T:TypeId}(X:Bo w k cs T)(O:Duo g h w w')(a:k≠g)(b:k≠h):Bo w' k cs T:=X.keep (O.block k X.lt a b)
theorem Wn.duo{old old2:Array Value}{R R2:TypeId}{s:Bool}{B:Option Addr}{m d:Nat}{z:Int}(p:Wn w s B m d z)(X:Bo w g old R)(Y:Bo w h old2 R2)(hn:old.all no32=true)(hn2:old2.all no32=true)(O:Duo g h w w'):Wn w' s B m d z:=by
 obtain⟨⟨b,q⟩,e⟩:=p
 refine⟨⟨b,q.keep fun hm=>O.block b (q.lt hm) (fun e=>?_) (fun e=>?_)⟩,e⟩
 ·obtain⟨o,_,hc⟩:=q.at hm
  have:=hc 0 hm
  rw[e]at this;exact X.no hn this
 ·obtain⟨o,_,hc⟩:=q.at hm
  have:=hc 0 hm
  rw[e]at this;exact Y.no hn2 this
end
theorem term_le{p:Int}{k:Nat}{T:Int}(hp:0 < p)(hT:SC.fdiv (p*(2*(k:Int)+1))=T)(hn:T≠0):p<=SC:=by
 have hd:0 < p*(2*(k:Int)+1):=Int.mul_pos hp (by omega)
 rw[Int.fdiv_eq_ediv_of_nonneg _ (by omega)]at hT
 have le:p*(2*(k:Int)+1)<=SC:=by
  rcases Int.lt_or_le SC (p*(2*(k:Int)+1))with c | c
  ·exact absurd ((Int.ediv_eq_zero_of_lt (by decide) c).symm.trans hT).symm hn
  ·exact c
 exact Int.le_trans (by
  have:p*1<=p*(2*(k:Int)+1):=Int.mul_le_mul_of_nonneg_left (by omega) (by omega)
  omega) le
theorem term_bd{p T:Int}{k:Nat}(hp:0 < p)(hT:SC.fdiv (p*(2*(k:Int)+1))=T):0<=T/\T<=SC:=by
 have hd:0 < p*(2*(k:Int)+1):=Int.mul_pos hp (by omega)
 rw[Int.fdiv_eq_ediv_of_nonneg _ (by omega)]at hT;rw[<-hT];exact⟨Int.ediv_nonneg (by decide) (by omega),Int.ediv_le_self _ (by decide)⟩
theorem power_bd{p n:Int}(hp:0 < p)(h:p<=SC*1000000)(h1:2<=n)(h2:n<=1000):0 < p*(n*n)/\p*(n*n)<=SC*1000000*1000000:=by
 have a:0 < n*n:=Int.mul_pos (by omega) (by omega)
 have b:n*n<=1000*1000:=Int.mul_le_mul h2 h2 (by omega) (by decide)
 exact⟨Int.mul_pos hp a,Int.mul_le_mul h (by omega) (by omega) (by decide)⟩
theorem small8{T:Int}(h:0<=T/\T<=SC):T.natAbs < 4294967296^8:=by
 have a:T<=6277101735386680763835789423207666416102355444464034512896:=h.2
 have b:=h.1
 omega
theorem small10{p:Int}(h:0 < p/\p<=SC*1000000*1000000):p.natAbs < 4294967296^10:=by
 have a:p<=6277101735386680763835789423207666416102355444464034512896*1000000*1000000:=h.2
 have b:=h.1
 omega
