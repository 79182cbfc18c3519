/-
 Contracts that the proof rests on.
-/
import Derived.Test.YtomikokonmikgaaGreatDoorYBao
import Derived.Test.YtomikokonmikgaaGreatDoorYBap
namespace Go.Proofs.YtomikokonmikgaaGreatDoor
set_option maxHeartbeats 8000000
open Go.RowKit
set_option linter.unusedVariables false
set_option linter.unusedSimpArgs false
set_option maxRecDepth 100000
def Pk (w:World)(A:Option Addr)(n c:Nat)(t:Bool)(x:Int)(P:Bool->Bool->Int->Prop):Prop:=
 ∃q d:Nat,Nm w A n c q/\n<=20000/\decide (d=0)=t/\ -3000000<=x/\x<=3000000/\∀σ up,P σ up (rnd up (mk (sgi σ ((stk q d:Nat):Int)) (x-1)).1 (mk (sgi σ ((stk q d:Nat):Int)) (x-1)).2)
theorem Pk.below{w w':World}{A:Option Addr}{n c:Nat}{t:Bool}{x:Int}{P:Bool->Bool->Int->Prop}(h:Pk w A n c t x P)(b:Below w.heap.size w w'):Pk w' A n c t x P:=by
 obtain⟨q,d,h1,h2⟩:=h;exact⟨q,d,h1.below b,h2⟩
abbrev Pk.b:= @Pk.below
def PP7 (w:World)(P:Bool->Bool->Int->Prop)(e:Ending)(w':World):Prop:=∃A n c t x,e= .returned (.agg #[.slice A n c,.bool t,.int .i64 x])/\Pk w' A n c t x P/\Below w.heap.size w w'
def Jo.Fact.pk (P:Bool->Bool->Int->Prop):Jo.Fact:=⟨fun v w=>∃A n c t x,v= .agg #[.slice A n c,.bool t,.int .i64 x]/\Pk w A n c t x P,fun v w w' h b=>by
 obtain⟨A,n,c,t,x,e,p⟩:=h;exact⟨A,n,c,t,x,e,p.below b⟩⟩
def PQ7 (w:World)(Q:Nat)(t:Bool)(x:Int)(e:Ending)(w':World):Prop:=∃A n c,e= .returned (.agg #[.slice A n c,.bool t,.int .i64 x])/\Nm w' A n c Q/\n<=20000/\Below w.heap.size w w'
def MV (α:Nat)(z:Int)(T:Nat)(t:Bool):Prop:=∀(w:World) (A:Option Addr) (n c:Nat),Rd w A n c α->n<=8000->Calls Tryz.prog 250 #[.slice A n c,.int .i64 z] w (P1B w 15000 T t)
theorem qdivided_e{w:World}{A B:Option Addr}{n c m d α β T Q R:Nat}{La Lb z e x:Int}(ha:Rd w A n c α)(hb:Rd w B m d β)(hn:n<=8000)(hβ:β≠0)(hla:((blen α:Nat):Int)=La)(hlb:((blen β:Nat):Int)=Lb)(hz:Lb-La+64=z)(z1: -200000<=z)(z2:z<=200000)(hx:e-z=x)(x1: -3000000<=x)(x2:x<=2097152)
  (hm:MV α z T true) (hQ:T/β=Q) (hR:T%β=R) (h0:R=0):Calls Tryz.prog 215 #[.slice A n c,.slice B m d,.int .i64 e] w (PQ7 w Q true x):=by
 have HM:=ie hm;have HLA:=ie hla;have HLB:=ie hlb;have HQ:=ie hQ;have HRR:=ie hR;have H0:=ie h0;have HB0:=ie hβ
 have e0:Lb-La=z-64:=by omega
 have HW1:Hid (IntKind.i64.wrap (Lb-La)=z-64):=ie (by rw[e0];exact IntWalk.i64_in _ (by omega))
 have HW2:Hid (wrap64 z=z):=ie (IntWalk.wrap64_in _ (by omega))
 have HW4:Hid (wrap64 x=x):=ie (IntWalk.wrap64_in _ (by omega))
 have HW3:Hid (IntKind.i64.wrap (e-z)=x):=ie (by rw[hx];exact IntWalk.i64_in _ (by omega))
 have hz3:z<=2097152:=by omega
 have HMZ:Hid (min z 2097152=z):=ie (by omega)
 have HMX:Hid (min x 2097152=x):=ie (by omega)
 clear hm hla hlb hz e0 hx hQ hR h0 hβ z1 z2 x1
 go_enter Tryz.func215,Tryz.ntmps215
 go_upto_region 1 with (fail)
 generalize hW1:w.alloc _=w1 at *;obtain⟨XR,HB⟩:=Bo.en1 hW1;replace ha:=ha.below HB.out;replace hb:=hb.below HB.out;clear hW1
 go_wp2_with fail
 refine(vLenE hb HLB.out).mono ?_;rintro ee w2 ⟨rfl,B⟩;replace XR:=XR.b B;replace ha:=ha.b B;replace hb:=hb.b B;replace HB:=Hqb HB B;clear B
 go_wp2_with fail
 refine(vLenE ha HLA.out).mono ?_;rintro ee w3 ⟨rfl,B⟩;replace XR:=XR.b B;replace ha:=ha.b B;replace hb:=hb.b B;replace HB:=Hqb HB B;clear B;have hw1:=HW1.out;have hw2:=HW2.out;have hmz:=HMZ.out
 go_wp2_with fail
 refine(HM.out _ _ _ _ ha hn).mono ?_;rintro ee w4 ⟨A4,n4,c4,rfl,p4,k4,B⟩;replace XR:=XR.b B;replace hb:=hb.b B;replace HB:=Hqb HB B;clear B;clear hw1 hw2 hmz
 go_wp2_with fail
 refine(vDivE p4.rd hb (by omega) HB0.out HQ.out HRR.out).mono ?_;rintro ee w5 ⟨A5,n5,c5,B5,m5,d5,rfl,p5,r5,k5,l5,B⟩;replace XR:=XR.b B;replace HB:=Hqb HB B;clear B;clear hb p4
 obtain rfl:m5=0:=by have:=r5.pos;have:=H0.out;omega
 clear r5 H0;have hw3:=HW3.out;have hmx:=HMX.out;have xXR:=XR.cell;have zXR0:=XR.frozen;go_wp2;clear xXR zXR0;have SX:=StN.mk3 XR (.slice A5 n5 c5) (.bool true) (.int .i64 x);replace p5:=p5.s SX;exact bq (v:= .agg #[.slice A5 n5 c5,.bool true,.int .i64 x]) (by simp[results,Tryz.results215,go_sem,SX.box.cell]) rfl ⟨A5,n5,c5,rfl,p5,by omega,(SX.below HB.out (by omega))⟩
theorem qdivided_l{w:World}{A B:Option Addr}{n c m d α β T Q R:Nat}{La Lb z e x:Int}(ha:Rd w A n c α)(hb:Rd w B m d β)(hn:n<=8000)(hβ:β≠0)(hla:((blen α:Nat):Int)=La)(hlb:((blen β:Nat):Int)=Lb)(hz:Lb-La+64=z)(z1: -200000<=z)(z2:z<=200000)(hx:e-z=x)(x1: -3000000<=x)(x2:x<=2097152)
  (hm:MV α z T true) (hQ:T/β=Q) (hR:T%β=R) (h0:R≠0):Calls Tryz.prog 215 #[.slice A n c,.slice B m d,.int .i64 e] w (PQ7 w Q false x):=by
 have HM:=ie hm;have HLA:=ie hla;have HLB:=ie hlb;have HQ:=ie hQ;have HRR:=ie hR;have H0:=ie h0;have HB0:=ie hβ
 have e0:Lb-La=z-64:=by omega
 have HW1:Hid (IntKind.i64.wrap (Lb-La)=z-64):=ie (by rw[e0];exact IntWalk.i64_in _ (by omega))
 have HW2:Hid (wrap64 z=z):=ie (IntWalk.wrap64_in _ (by omega))
 have HW4:Hid (wrap64 x=x):=ie (IntWalk.wrap64_in _ (by omega))
 have HW3:Hid (IntKind.i64.wrap (e-z)=x):=ie (by rw[hx];exact IntWalk.i64_in _ (by omega))
 have hz3:z<=2097152:=by omega
 have HMZ:Hid (min z 2097152=z):=ie (by omega)
 have HMX:Hid (min x 2097152=x):=ie (by omega)
 clear hm hla hlb hz e0 hx hQ hR h0 hβ z1 z2 x1
 go_enter Tryz.func215,Tryz.ntmps215
 go_upto_region 1 with (fail)
 generalize hW1:w.alloc _=w1 at *;obtain⟨XR,HB⟩:=Bo.en1 hW1;replace ha:=ha.below HB.out;replace hb:=hb.below HB.out;clear hW1
 go_wp2_with fail
 refine(vLenE hb HLB.out).mono ?_;rintro ee w2 ⟨rfl,B⟩;replace XR:=XR.b B;replace ha:=ha.b B;replace hb:=hb.b B;replace HB:=Hqb HB B;clear B
 go_wp2_with fail
 refine(vLenE ha HLA.out).mono ?_;rintro ee w3 ⟨rfl,B⟩;replace XR:=XR.b B;replace ha:=ha.b B;replace hb:=hb.b B;replace HB:=Hqb HB B;clear B;have hw1:=HW1.out;have hw2:=HW2.out;have hmz:=HMZ.out
 go_wp2_with fail
 refine(HM.out _ _ _ _ ha hn).mono ?_;rintro ee w4 ⟨A4,n4,c4,rfl,p4,k4,B⟩;replace XR:=XR.b B;replace hb:=hb.b B;replace HB:=Hqb HB B;clear B;clear hw1 hw2 hmz
 go_wp2_with fail
 refine(vDivE p4.rd hb (by omega) HB0.out HQ.out HRR.out).mono ?_;rintro ee w5 ⟨A5,n5,c5,B5,m5,d5,rfl,p5,r5,k5,l5,B⟩;replace XR:=XR.b B;replace HB:=Hqb HB B;clear B;clear hb p4
 have hne:((m5:Int)==0)=false:=by
  have:=r5.pos
  have:=H0.out
  have:(m5:Int)≠0:=by omega
  simpa using this
 have hne2:¬m5=0:=by have:=r5.pos;have:=H0.out;omega
 clear r5 H0;have hw3:=HW3.out;have hmx:=HMX.out;have xXR:=XR.cell;have zXR0:=XR.frozen;go_wp2;clear xXR zXR0;have SX:=StN.mk3 XR (.slice A5 n5 c5) (.bool false) (.int .i64 x);replace p5:=p5.s SX;exact bq (v:= .agg #[.slice A5 n5 c5,.bool false,.int .i64 x]) (by simp[results,Tryz.results215,go_sem,SX.box.cell]) rfl ⟨A5,n5,c5,rfl,p5,by omega,(SX.below HB.out (by omega))⟩
theorem qdivided_n{w:World}{A B:Option Addr}{n c m d α β T Q R:Nat}{La Lb z e x:Int}(ha:Rd w A n c α)(hb:Rd w B m d β)(hn:n<=8000)(hβ:β≠0)(hla:((blen α:Nat):Int)=La)(hlb:((blen β:Nat):Int)=Lb)(hz:Lb-La+64=z)(z1: -200000<=z)(z2:z<=200000)(hx:e-z=x)(x1: -3000000<=x)(x2:x<=2097152)
  (hm:MV α z T false) (hQ:T/β=Q) (hR:T%β=R) (h0:True):Calls Tryz.prog 215 #[.slice A n c,.slice B m d,.int .i64 e] w (PQ7 w Q false x):=by
 have HM:=ie hm;have HLA:=ie hla;have HLB:=ie hlb;have HQ:=ie hQ;have HRR:=ie hR;have H0:=ie h0;have HB0:=ie hβ
 have e0:Lb-La=z-64:=by omega
 have HW1:Hid (IntKind.i64.wrap (Lb-La)=z-64):=ie (by rw[e0];exact IntWalk.i64_in _ (by omega))
 have HW2:Hid (wrap64 z=z):=ie (IntWalk.wrap64_in _ (by omega))
 have HW4:Hid (wrap64 x=x):=ie (IntWalk.wrap64_in _ (by omega))
 have HW3:Hid (IntKind.i64.wrap (e-z)=x):=ie (by rw[hx];exact IntWalk.i64_in _ (by omega))
 have hz3:z<=2097152:=by omega
 have HMZ:Hid (min z 2097152=z):=ie (by omega)
 have HMX:Hid (min x 2097152=x):=ie (by omega)
 clear hm hla hlb hz e0 hx hQ hR h0 hβ z1 z2 x1
 go_enter Tryz.func215,Tryz.ntmps215
 go_upto_region 1 with (fail)
 generalize hW1:w.alloc _=w1 at *;obtain⟨XR,HB⟩:=Bo.en1 hW1;replace ha:=ha.below HB.out;replace hb:=hb.below HB.out;clear hW1
 go_wp2_with fail
 refine(vLenE hb HLB.out).mono ?_;rintro ee w2 ⟨rfl,B⟩;replace XR:=XR.b B;replace ha:=ha.b B;replace hb:=hb.b B;replace HB:=Hqb HB B;clear B
 go_wp2_with fail
 refine(vLenE ha HLA.out).mono ?_;rintro ee w3 ⟨rfl,B⟩;replace XR:=XR.b B;replace ha:=ha.b B;replace hb:=hb.b B;replace HB:=Hqb HB B;clear B;have hw1:=HW1.out;have hw2:=HW2.out;have hmz:=HMZ.out
 go_wp2_with fail
 refine(HM.out _ _ _ _ ha hn).mono ?_;rintro ee w4 ⟨A4,n4,c4,rfl,p4,k4,B⟩;replace XR:=XR.b B;replace hb:=hb.b B;replace HB:=Hqb HB B;clear B;clear hw1 hw2 hmz
 go_wp2_with fail
 refine(vDivE p4.rd hb (by omega) HB0.out HQ.out HRR.out).mono ?_;rintro ee w5 ⟨A5,n5,c5,B5,m5,d5,rfl,p5,r5,k5,l5,B⟩;replace XR:=XR.b B;replace HB:=Hqb HB B;clear B;clear hb p4;clear r5 H0;have hw3:=HW3.out;have hmx:=HMX.out;have xXR:=XR.cell;have zXR0:=XR.frozen;go_wp2;clear xXR zXR0;have SX:=StN.mk3 XR (.slice A5 n5 c5) (.bool false) (.int .i64 x)
 replace p5:=p5.s SX;exact bq (v:= .agg #[.slice A5 n5 c5,.bool false,.int .i64 x]) (by simp[results,Tryz.results215,go_sem,SX.box.cell]) rfl ⟨A5,n5,c5,rfl,p5,by omega,(SX.below HB.out (by omega))⟩
theorem moved_up{α k:Nat}(hk:k<=200000):MV α (k:Int) (α*2^k) true:=fun w A n c h hn=>qmoved_up h hn hk rfl
theorem moved_dn{α k:Nat}{z:Int}(h0:0 < k)(hk:k<=200000)(hz: -z=(k:Int)):MV α z (α/2^k) (decide (α/2^k*2^k=α)):=fun w A n c h hn=>by
 refine qmoved_dn h hn hk h0 hz rfl rfl rfl ?_
 by_cases c:α/2^k*2^k=α
 ·rw[dt c,c,cmpI_self]
  rfl
 ·rw[df c]
  have:¬cmpI ((α/2^k*2^k:Nat):Int) (α:Int)=0:=fun e=>c (by have:=cmpI_zero.1 e;omega)
  simpa using this
theorem qDivided{w:World}{A B:Option Addr}{n c m d α β:Nat}{e:Int}{P:Bool->Bool->Int->Prop}(ha:Rd w A n c α)(hb:Rd w B m d β)(hn:n<=3500)(hm:m<=3500)(hα:0 < α)(hβ:0 < β)(e1: -2200000<=e)(e2:e<=2200000)(e3:e-((blen β:Int)-(blen α:Int)+64)<=2097152)
  (hP:∀σ up r,Sid up (sgi σ ((α:Int)*2^(e+(KK:Int)).toNat)) (β:Int) r->P σ up r):Calls Tryz.prog 215 #[.slice A n c,.slice B m d,.int .i64 e] w (PP7 w P):=by
 have hba:=ha.blen_le;have hbb:=hb.blen_le;obtain⟨z,hz⟩:∃z:Int,(blen β:Int)-(blen α:Int)+64=z:=⟨_,rfl⟩;rw[hz]at e3
 have hn0:β≠0:=by omega
 have fin:∀{Q D:Nat} {t t':Bool},t'=t->decide (D=0)=t->(∀σ up,Sid up (sgi σ ((α:Int)*2^(e+(KK:Int)).toNat)) (β:Int) (rnd up (mk (sgi σ ((stk Q D:Nat):Int)) (e-z-1)).1 (mk (sgi σ ((stk Q D:Nat):Int)) (e-z-1)).2))->∀ee w',PQ7 w Q t' (e-z) ee w'->PP7 w P ee w':=by
  rintro Q D t t' rfl ht hs ee w' ⟨A',n',c',he,hnm,hk,hb'⟩
  exact⟨A',n',c',t',e-z,he,⟨Q,D,hnm,hk,ht,by omega,by omega,fun σ up=>hP σ up _ (hs σ up)⟩,hb'⟩
 rcases Int.lt_or_le z 0 with c0 | c0
 ·obtain⟨k,hk⟩:∃k:Nat,z= -(k:Int):=⟨z.natAbs,by omega⟩
  have mv:=moved_dn (α:=α) (k:=k) (z:=z) (by omega) (by omega) (by omega)
  have hs:=fun {D} (hd:D=0↔(α/2^k*2^k=α/\α/2^k%β=0)) (σ up:Bool)=>part_dn (e:=e) (d:=D) hα hβ (by omega) (by omega) e1 e2 hd σ up
  have ez:e+(k:Int)-1=e-z-1:=by omega
  rw[ez]at hs
  by_cases h1:α/2^k*2^k=α
  ·rw[dt h1]at mv
   by_cases h2:α/2^k%β=0
   ·exact(qdivided_e ha hb (by omega) hn0 rfl rfl hz (by omega) (by omega) rfl (by omega) e3 mv rfl rfl h2).mono (fin (D:=0) rfl rfl (hs ⟨fun _=>⟨h1,h2⟩,fun _=>rfl⟩))
   ·exact(qdivided_l ha hb (by omega) hn0 rfl rfl hz (by omega) (by omega) rfl (by omega) e3 mv rfl rfl h2).mono (fin (D:=1) rfl rfl (hs ⟨fun h=>absurd h (by decide),fun h=>absurd h.2 h2⟩))
  ·rw[df h1]at mv
   exact(qdivided_n ha hb (by omega) hn0 rfl rfl hz (by omega) (by omega) rfl (by omega) e3 mv rfl rfl trivial).mono (fin (D:=1) rfl rfl (hs ⟨fun h=>absurd h (by decide),fun h=>absurd h.1 h1⟩))
 ·obtain⟨k,rfl⟩:∃k:Nat,z=(k:Int):=⟨z.toNat,by omega⟩
  have mv:=moved_up (α:=α) (k:=k) (by omega);have hs:=part_up (e:=e) hα hβ hz (by omega) (by omega) e1 e2
  by_cases h2:α*2^k%β=0
  ·exact(qdivided_e ha hb (by omega) hn0 rfl rfl hz (by omega) (by omega) rfl (by omega) e3 mv rfl rfl h2).mono (fin rfl (dt h2) hs)
  ·exact(qdivided_l ha hb (by omega) hn0 rfl rfl hz (by omega) (by omega) rfl (by omega) e3 mv rfl rfl h2).mono (fin rfl (df h2) hs)
theorem stk_zero7 (q:Nat):stk q 0=q*2^1:=by
 unfold stk
 rw[if_pos rfl]
 omega
theorem stk_one7{q r:Nat}(h:r≠0):stk q r=q*2^1+1:=by
 unfold stk
 rw[if_neg h]
 omega
theorem sg_sgi7 (s:Bool)(a:Nat):sg s a=sgi s (a:Int):=by
 cases s
 ·rw[sg_false,wsg_f]
 ·rw[sg_true,wsg_t]
theorem lit_one7 (W:World):Rd (W.alloc (.cells #[.int .u32 1] 92)) (some ⟨W.heap.size,0,none⟩) 1 1 1:=
 ⟨_,[1],(Own.new W [1]).all (Lim.cons (by decide) Lim.nil) (by simp) (Nat.le_refl _),by decide⟩
theorem qround_e{w:World}{A:Option Addr}{n c q a0 a:Nat}{x r:Int}{σ up:Bool}(hT:Tab w)(h:Nm w A n c q)(hn:n<=20000)(h0:q*2^1=a0)(h1:a0=a)(x1: -3000000<=x)(x2:x<=3000000)(hr:rnd up (mk (sg σ a) (x-1)).1 (mk (sg σ a) (x-1)).2=r):Calls Tryz.prog 217 #[.agg #[.slice A n c,.bool true,.int .i64 x],.bool σ,.bool up] w (PN w r):=by
 have HA:=ie h0;have H1:=ie h1;have HR:=ie hr;have HW:=iw (x-1);clear h0 h1 hr x1 x2
 go_enter Tryz.func217,Tryz.ntmps217
 go_upto_region 1 with (fail)
 generalize hW1:(w.alloc _).alloc _=w1 at *;obtain⟨X3,XR,HB⟩:=Bo.en2 hW1;replace hT:=hT.below HB.out;replace h:=h.below HB.out;clear hW1;have xX3:=X3.cell
 go_wp2_with fail
 refine(vShlE (s:=1) h.rd (by omega) (by decide) HA.out).mono ?_;rintro ee w2 ⟨A2,n2,c2,rfl,p2,k2,B⟩;clear xX3;replace X3:=X3.b B;replace XR:=XR.b B;replace hT:=hT.b B;replace h:=h.b B;replace HB:=Hqb HB B;clear B;clear h
 obtain rfl:=H1.out
 have xX3:=X3.cell
 go_upto_region 4 with (fail)
 clear xX3;refine jk [0,1,2,3,4,5,6,7,8] [some 17,some 18,some 19,some 20,some 21,some 22,some 23,some 24,some 25,none] [[],[],[0,1],[],[3],[4],[2,5],[],[6,7],[]] 10 1 [Jo.qb σ,Jo.Fact.eq (.slice A2 n2 c2),Jo.Fact.wn (sg σ a0) 30000,Jo.qp w.heap.size 2,Jo.qi x,Jo.Fact.eq (.int .i64 (x-1)),Jo.Fact.dy (sg σ a0) (x-1) 30000,Jo.qb up,Jo.Fact.num r,Jo.Fact.any] ?_ ?_
 ·iterate 2 (refine jm ?_ ?_;rotate_left)
  refine jm ?_ ?_
  ·rintro wj hJ _ rfl _ rfl K hK;simp only[Jo.z]at hK|-;go_simp;exact Jo.w1 (wMake σ (p2.b hJ).rd) hK.out
  refine jm ?_ ?_;rotate_left
  refine jm ?_ ?_
  ·rintro wj hJ _ rfl K hK;simp only[Jo.z]at hK|-;have xX32:=(X3.b hJ).a 2 (.int .i64 x) rfl;go_simp;exact hK.out _ _ rfl (br _ _)
  refine jm ?_ ?_
  ·rintro wj hJ _ rfl K hK;simp only[Jo.z]at hK|-;have hw:=HW.out;go_simp
   exact hK.out _ _ (by first | rfl | (show Value.int _ _=Value.int _ _;rw[hw])) (br _ _)
  refine jm ?_ ?_
  ·rintro wj hJ _ ⟨s7,A7,n7,c7,rfl,p7,k7⟩ _ rfl K hK;simp only[Jo.z]at hK|-;go_simp;exact hK.out _ _ ⟨s7,A7,n7,c7,rfl,p7,k7⟩ (br _ _)
  refine jm ?_ ?_;rotate_left
  refine jm ?_ ?_
  ·rintro wj hJ _ ⟨s8,A8,n8,c8,rfl,p8,k8⟩ _ rfl K hK;simp only[Jo.z]at hK|-;go_simp;exact Jo.n1 (nRound (hT.b hJ) p8.wr (by omega) rfl rfl HR.out) hK.out
  exact jo
  all_goals (rintro wj hJ;(repeat rintro _ rfl);intro K hK;simp only[Jo.z]at hK|-;go_simp;exact hK.out _ _ rfl (br _ _))
 rintro w8 hJ _ rfl _ rfl _ ⟨_,_,_,_,rfl,_⟩ _ _ _ rfl _ rfl _ ⟨_,_,_,_,rfl,_⟩ _ rfl _ ⟨K9,s9,M9,E9,rfl,q9⟩ -;simp only[Jo.z];replace XR:=XR.b hJ;replace HB:=Hqb HB hJ;have xXR:=XR.cell;have zXR0:=XR.frozen
 refine jn 9 fun K hK=>?_
 go_simp;refine hK.out _ _ ?_;clear hK K xXR zXR0;have SX:=StN.t4 XR K9 s9 M9 E9;refine jd ?_;go_wp2;exact bq (by simp[results,Tryz.results217,go_sem,SX.box.cell]) rfl ⟨_,_,_,_,rfl,q9,(SX.below HB.out (by omega))⟩
theorem qround_l{w:World}{A:Option Addr}{n c q a0 a:Nat}{x r:Int}{σ up:Bool}(hT:Tab w)(h:Nm w A n c q)(hn:n<=20000)(h0:q*2^1=a0)(h1:a0+1=a)(x1: -3000000<=x)(x2:x<=3000000)(hr:rnd up (mk (sg σ a) (x-1)).1 (mk (sg σ a) (x-1)).2=r):Calls Tryz.prog 217 #[.agg #[.slice A n c,.bool false,.int .i64 x],.bool σ,.bool up] w (PN w r):=by
 have HA:=ie h0;have H1:=ie h1;have HR:=ie hr;have HW:=iw (x-1);clear h0 h1 hr x1 x2
 go_enter Tryz.func217,Tryz.ntmps217
 go_upto_region 1 with (fail)
 generalize hW1:(w.alloc _).alloc _=w1 at *;obtain⟨X3,XR,HB⟩:=Bo.en2 hW1;replace hT:=hT.below HB.out;replace h:=h.below HB.out;clear hW1;have xX3:=X3.cell
 go_wp2_with fail
 refine(vShlE (s:=1) h.rd (by omega) (by decide) HA.out).mono ?_;rintro ee w2 ⟨A2,n2,c2,rfl,p2,k2,B⟩;clear xX3;replace X3:=X3.b B;replace XR:=XR.b B;replace hT:=hT.b B;replace h:=h.b B;replace HB:=Hqb HB B;clear B;clear h;have xX3:=X3.cell
 go_wp2_with fail
 refine(vAddE (p2.below (bel1 _ _)).rd (lit_one7 w2) (by omega) (by decide) H1.out).mono ?_;rintro ee w4 ⟨A4,n4,c4,rfl,p4,k4,B⟩;clear xX3;replace B:=bt (bel1 _ _) B;replace X3:=X3.b B;replace XR:=XR.b B;replace hT:=hT.b B;replace HB:=Hqb HB B;clear B;clear p2;have xX3:=X3.cell
 go_upto_region 4 with (fail)
 clear xX3;refine jk [0,1,2,3,4,5,6,7,8] [some 17,some 18,some 19,some 20,some 21,some 22,some 23,some 24,some 25,none] [[],[],[0,1],[],[3],[4],[2,5],[],[6,7],[]] 10 1 [Jo.qb σ,Jo.Fact.eq (.slice A4 n4 c4),Jo.Fact.wn (sg σ a) 30000,Jo.qp w.heap.size 2,Jo.qi x,Jo.Fact.eq (.int .i64 (x-1)),Jo.Fact.dy (sg σ a) (x-1) 30000,Jo.qb up,Jo.Fact.num r,Jo.Fact.any] ?_ ?_
 ·iterate 2 (refine jm ?_ ?_;rotate_left)
  refine jm ?_ ?_
  ·rintro wj hJ _ rfl _ rfl K hK;simp only[Jo.z]at hK|-;go_simp;exact Jo.w1 (wMake σ (p4.b hJ).rd) hK.out
  refine jm ?_ ?_;rotate_left
  refine jm ?_ ?_
  ·rintro wj hJ _ rfl K hK;simp only[Jo.z]at hK|-;have xX32:=(X3.b hJ).a 2 (.int .i64 x) rfl;go_simp;exact hK.out _ _ rfl (br _ _)
  refine jm ?_ ?_
  ·rintro wj hJ _ rfl K hK;simp only[Jo.z]at hK|-;have hw:=HW.out;go_simp
   exact hK.out _ _ (by first | rfl | (show Value.int _ _=Value.int _ _;rw[hw])) (br _ _)
  refine jm ?_ ?_
  ·rintro wj hJ _ ⟨s7,A7,n7,c7,rfl,p7,k7⟩ _ rfl K hK;simp only[Jo.z]at hK|-;go_simp;exact hK.out _ _ ⟨s7,A7,n7,c7,rfl,p7,k7⟩ (br _ _)
  refine jm ?_ ?_;rotate_left
  refine jm ?_ ?_
  ·rintro wj hJ _ ⟨s8,A8,n8,c8,rfl,p8,k8⟩ _ rfl K hK;simp only[Jo.z]at hK|-;go_simp;exact Jo.n1 (nRound (hT.b hJ) p8.wr (by omega) rfl rfl HR.out) hK.out
  exact jo
  all_goals (rintro wj hJ;(repeat rintro _ rfl);intro K hK;simp only[Jo.z]at hK|-;go_simp;exact hK.out _ _ rfl (br _ _))
 rintro w8 hJ _ rfl _ rfl _ ⟨_,_,_,_,rfl,_⟩ _ _ _ rfl _ rfl _ ⟨_,_,_,_,rfl,_⟩ _ rfl _ ⟨K9,s9,M9,E9,rfl,q9⟩ -;simp only[Jo.z];replace XR:=XR.b hJ;replace HB:=Hqb HB hJ;have xXR:=XR.cell;have zXR0:=XR.frozen
 refine jn 9 fun K hK=>?_
 go_simp;refine hK.out _ _ ?_;clear hK K xXR zXR0;have SX:=StN.t4 XR K9 s9 M9 E9;refine jd ?_;go_wp2;exact bq (by simp[results,Tryz.results217,go_sem,SX.box.cell]) rfl ⟨_,_,_,_,rfl,q9,(SX.below HB.out (by omega))⟩
theorem qRound{w:World}{A:Option Addr}{n c:Nat}{t σ up:Bool}{x r:Int}{P:Bool->Bool->Int->Prop}(hT:Tab w)(h:Pk w A n c t x P)(hr:∀r',P σ up r'->r'=r):Calls Tryz.prog 217 #[.agg #[.slice A n c,.bool t,.int .i64 x],.bool σ,.bool up] w (PN w r):=by
 obtain⟨q,d,hnm,hk,ht,x1,x2,hp⟩:=h;have e:=hr _ (hp σ up);rw[<-sg_sgi7]at e
 by_cases h0:d=0
 ·subst h0
  obtain rfl:true=t:=ht
  rw[stk_zero7]at e;exact qround_e hT hnm hk rfl rfl x1 x2 e
 ·obtain rfl:false=t:=by rw[<-ht];exact(df h0).symm
  rw[stk_one7 h0]at e;exact qround_l hT hnm hk rfl rfl x1 x2 e
theorem ratio_pre{up s t:Bool}{z y r:Int}{α β:Nat}(hz:sg s α=z)(hy:sg t β=y)(hβ:0 < β)(hr:Rq up z y r):
  ∃P:Bool->Bool->Int->Prop,(∀σ up r',Sid up (sgi σ ((α:Int)*2^((0:Int)+(KK:Int)).toNat)) (β:Int) r'->P σ up r')/\(∀r',P (s !=t) up r'->r'=r):=by
 refine⟨_,fun _ _ _ h=>h,fun r' h=>?_⟩
 have:=rq_of hβ h
 rw[<-sg_sgi7,<-sg_sgi7,hz,hy]at this;exact this.uniq hr
theorem rq_nought{up:Bool}{y r:Int}(hy:y≠0)(h:Rq up 0 y r):r=0:=by
 have h1:=(rq_some hy).1 h
 have e:sgi (decide (y < 0)) 0*2^KK=(0:Int):=by
  have:sgi (decide (y < 0)) (0:Int)=0:=by cases decide (y < 0) <;> rfl
  rw[this,Int.zero_mul]
 rw[e]at h1
 exact h1.uniq (sg_pos hy) (sid_exact (r:=0) (sg_pos hy) (by decide) (by decide) (by rw[show vr 0=0 from rfl,Int.zero_mul]))
theorem kRatio0{w:World}{A B:Option Addr}{n c m d:Nat}{s t up:Bool}{z y r:Int}(hT:Tab w)(h:Wr w s A n c z)(k:Wr w t B m d y)(hn:n<=3500)(hm:m<=3500)(hr:Rq up z y r):Calls Tryz.prog 173 #[.agg #[.bool s,.slice A n c],.agg #[.bool t,.slice B m d],.bool up] w (PN w r):=by
 obtain⟨σ,hσ⟩:∃σ,cmpI y 0=σ:=⟨_,rfl⟩;obtain⟨τ,hτ⟩:∃τ,cmpI z 0=τ:=⟨_,rfl⟩;have HS:=ie hσ;have HZ:=ie hτ
 go_enter Tryz.func173,Tryz.ntmps173
 go_upto_region 1 with (fail)
 generalize hW1:((w.alloc _).alloc _).alloc _=w1 at *;obtain⟨X3,X4,XR,HB⟩:=Bo.en3 hW1;replace hT:=hT.below HB.out;replace h:=h.below HB.out;replace k:=k.below HB.out;clear hW1;have xX4:=X4.cell
 go_wp2_with fail
 refine(wSign k HS.out).mono ?_;rintro ee w2 ⟨rfl,B⟩;clear xX4;replace X3:=X3.b B;replace X4:=X4.b B;replace XR:=XR.b B;replace hT:=hT.b B;replace h:=h.b B;replace k:=k.b B;replace HB:=Hqb HB B;clear B
 by_cases hy0:y=0
 ·have hs0:(σ==0)=true:=by rw[<-hσ,cmpI_eq hy0];rfl
  subst hy0;have HRR:=ie (rq_none.1 hr).symm;clear h k hT hr hσ hτ HS HZ
  go_wp2_with fail
  refine(qAway HRR.out).mono ?_;rintro ee w6 ⟨K3,s3,M3,E3,rfl,q3,B⟩;replace X3:=X3.b B;replace X4:=X4.b B;replace XR:=XR.b B;replace HB:=Hqb HB B;clear B;have xXR:=XR.cell;have zXR0:=XR.frozen;go_wp2;clear xXR zXR0;have SX:=StN.t4 XR K3 s3 M3 E3;exact bq (by simp[results,Tryz.results173,go_sem,SX.box.cell]) rfl ⟨_,_,_,_,rfl,q3,(SX.below HB.out (by omega))⟩
 ·have hs0:(σ==0)=false:=by
   have:σ≠0:=fun e=>hy0 (cmpI_zero.1 (hσ.trans e))
   simpa using this
  clear hσ HS;have xX3:=X3.cell
  go_wp2_with fail
  refine(wSign h HZ.out).mono ?_;rintro ee w3 ⟨rfl,B⟩;clear xX3;replace X3:=X3.b B;replace X4:=X4.b B;replace XR:=XR.b B;replace hT:=hT.b B;replace h:=h.b B;replace k:=k.b B;replace HB:=Hqb HB B;clear B
  by_cases hz0:z=0
  ·have hs1:(τ==0)=true:=by rw[<-hτ,cmpI_eq hz0];rfl
   subst hz0
   obtain rfl:=rq_nought hy0 hr
   clear h k hT hr hτ HZ;have xXR:=XR.cell;have zXR0:=XR.frozen;have xX3:=X3.cell;have xX4:=X4.cell;go_wp2;clear xXR zXR0 xX3 xX4;have SX:=StN.t4 XR 0 false 0 0;exact bq (by simp[results,Tryz.results173,go_sem,SX.box.cell]) rfl ⟨_,_,_,_,rfl,Fq.nought,(SX.below HB.out (by omega))⟩
  ·have hs1:(τ==0)=false:=by
    have:τ≠0:=fun e=>hz0 (cmpI_zero.1 (hτ.trans e))
    simpa using this
   clear hτ HZ;obtain⟨α,ha,hz⟩:=h;obtain⟨β,hb,hy⟩:=k
   have α0:0 < α:=by
    rcases Nat.eq_zero_or_pos α with e | e
    ·subst e
     exact absurd (show z=0 by rw[<-hz];cases s <;> rfl) hz0
    ·exact e
   have β0:0 < β:=by
    rcases Nat.eq_zero_or_pos β with e | e
    ·subst e
     exact absurd (show y=0 by rw[<-hy];cases t <;> rfl) hy0
    ·exact e
   obtain⟨P,hP,hPr⟩:=ratio_pre hz hy β0 hr;have hba:=ha.blen_le;have hbb:=hb.blen_le
   have eb3:(0:Int)-((blen β:Int)-(blen α:Int)+64)<=2097152:=by omega
   have HPP:=ie hP;have HPR:=ie hPr;clear hP hPr hr hz hy hz0 hy0 hba hbb
   go_upto_region 5 with (fail)
   refine jk [0,1,2,3,4,5,6,7,8,9,10,11] [some 18,some 19,some 20,some 21,some 22,some 23,some 24,some 25,some 26,some 27,some 28,some 29,none] [[],[0],[],[2],[1,3],[],[5],[],[7],[6,8],[],[4,9,10],[]] 13 1 [Jo.qp w.heap.size 1,Jo.Fact.eq (.slice A n c),Jo.qp (w.heap.size+1) 1,Jo.Fact.eq (.slice B m d),Jo.Fact.pk P,Jo.qp w.heap.size 0,Jo.qb s,Jo.qp (w.heap.size+1) 0,Jo.qb t,Jo.Fact.eq (.bool (s !=t)),Jo.qb up,Jo.Fact.num r,Jo.Fact.any] ?_ ?_
   ·refine jm ?_ ?_;rotate_left
    refine jm ?_ ?_
    ·rintro wj hJ _ rfl K hK;simp only[Jo.z]at hK|-;have xX31:=(X3.b hJ).a 1 (.slice A n c) rfl;go_simp;exact hK.out _ _ rfl (br _ _)
    refine jm ?_ ?_;rotate_left
    refine jm ?_ ?_
    ·rintro wj hJ _ rfl K hK;simp only[Jo.z]at hK|-;have xX41:=(X4.b hJ).a 1 (.slice B m d) rfl;go_simp;exact hK.out _ _ rfl (br _ _)
    refine jm ?_ ?_
    ·rintro wj hJ _ rfl _ rfl K hK;simp only[Jo.z]at hK|-;go_simp;refine(qDivided (ha.b hJ) (hb.b hJ) (by omega) (by omega) α0 β0 (by decide) (by decide) eb3 HPP.out).mono ?_;rintro ee wk ⟨A7,n7,c7,t7,x7,rfl,p7,B⟩;exact hK.out _ _ ⟨A7,n7,c7,t7,x7,rfl,p7⟩ B
    refine jm ?_ ?_;rotate_left
    refine jm ?_ ?_
    ·rintro wj hJ _ rfl K hK;simp only[Jo.z]at hK|-;have xX30:=(X3.b hJ).a 0 (.bool s) rfl;go_simp;exact hK.out _ _ rfl (br _ _)
    refine jm ?_ ?_;rotate_left
    refine jm ?_ ?_
    ·rintro wj hJ _ rfl K hK;simp only[Jo.z]at hK|-;have xX40:=(X4.b hJ).a 0 (.bool t) rfl;go_simp;exact hK.out _ _ rfl (br _ _)
    iterate 2 (refine jm ?_ ?_;rotate_left)
    refine jm ?_ ?_
    ·rintro wj hJ _ ⟨A7,n7,c7,t7,x7,rfl,p7⟩ _ rfl _ rfl K hK;simp only[Jo.z]at hK|-;go_simp;exact Jo.n1 (qRound (hT.b hJ) p7 HPR.out) hK.out
    exact jo
    all_goals (rintro wj hJ;(repeat rintro _ rfl);intro K hK;simp only[Jo.z]at hK|-;go_simp;exact hK.out _ _ rfl (br _ _))
   rintro w8 hJ _ _ _ rfl _ _ _ rfl _ ⟨_,_,_,_,_,rfl,_⟩ _ _ _ rfl _ _ _ rfl _ rfl _ rfl _ ⟨K9,s9,M9,E9,rfl,q9⟩ -;simp only[Jo.z];replace XR:=XR.b hJ;replace HB:=Hqb HB hJ;have xXR:=XR.cell;have zXR0:=XR.frozen
   refine jn 12 fun K hK=>?_
   go_simp;refine hK.out _ _ ?_;clear hK K xXR zXR0;have SX:=StN.t4 XR K9 s9 M9 E9;refine jd ?_;go_wp2;exact bq (by simp[results,Tryz.results173,go_sem,SX.box.cell]) rfl ⟨_,_,_,_,rfl,q9,(SX.below HB.out (by omega))⟩
theorem kRatio{w:World}{A B:Option Addr}{n c m d:Nat}{s t up:Bool}{z y r:Int}(hT:Tab w)(h:Wr w s A n c z)(k:Wr w t B m d y)(hn:n<=20)(hm:m<=20)(hr:Rq up z y r):Calls Tryz.prog 173 #[.agg #[.bool s,.slice A n c],.agg #[.bool t,.slice B m d],.bool up] w (PN w r):=kRatio0 hT h k (by omega) (by omega) hr
theorem cmp_le{x y c:Int}(h:cmpI x y=c):decide (c<=0)=decide (x<=y):=by
 rw[<-h]
 by_cases e:x<=y
 ·rw[dt e]
  exact dt (by rcases cmpI_tri x y with⟨a,b⟩ | ⟨a,b⟩ | ⟨a,b⟩ <;> rw[b] <;> omega)
 ·rw[df e]
  exact df (by rcases cmpI_tri x y with⟨a,b⟩ | ⟨a,b⟩ | ⟨a,b⟩ <;> rw[b] <;> omega)
def lo1:Sp->List Int
 | none=>[]
 | some (a,_)=>[a]
def hi1:Sp->List Int
 | none=>[]
 | some (_,b)=>[b]
def lowL:List Sp->List Int
 | []=>[]
 | x::l=>lo1 x ++lowL l
def highL:List Sp->List Int
 | []=>[]
 | x::l=>hi1 x ++highL l
theorem lowL_append:∀(l m:List Sp),lowL (l ++m)=lowL l ++lowL m
 | [],m=>rfl
 | x::l,m=>by
  show lo1 x ++lowL (l ++m)=(lo1 x ++lowL l)++lowL m
  rw[lowL_append l m,List.append_assoc]
theorem highL_append:∀(l m:List Sp),highL (l ++m)=highL l ++highL m
 | [],m=>rfl
 | x::l,m=>by
  show hi1 x ++highL (l ++m)=(hi1 x ++highL l)++highL m
  rw[highL_append l m,List.append_assoc]
theorem lowL_take{l:List Sp}{k:Nat}(h:k < l.length):lowL (l.take (k+1))=lowL (l.take k)++lo1 (l.getD k none):=by
 rw[List.take_succ_eq_append_getElem h,lowL_append,List.getD_eq_getElem?_getD,List.getElem?_eq_getElem h];exact congrArg _ (List.append_nil _)
theorem highL_take{l:List Sp}{k:Nat}(h:k < l.length):highL (l.take (k+1))=highL (l.take k)++hi1 (l.getD k none):=by
 rw[List.take_succ_eq_append_getElem h,highL_append,List.getD_eq_getElem?_getD,List.getElem?_eq_getElem h];exact congrArg _ (List.append_nil _)
theorem len_lo:∀l:List Sp,(lowL l).length<=l.length
 | []=>Nat.le_refl _
 | none::l=>Nat.le_succ_of_le (len_lo l)
 | some (a,b)::l=>Nat.succ_le_succ (len_lo l)
theorem meetI_mk (A B a b:Int):meetI (mkI A B) (some (a,b))=mkI (max A a) (min B b):=by
 by_cases h:A<=B/\A < 19342822337206103650074625/\ -19342822337206103650074625 < B
 ·rw[mkI_some h.1 h.2.1 h.2.2]
  rfl
 ·rw[mkI_none h,mkI_none (fun c=>h (by omega))]
  rfl
theorem meet_fold:∀(l:List Sp) (A B:Int),(lowL l).length=l.length->l.foldl meetI (mkI A B)=mkI ((lowL l).foldl max A) ((highL l).foldl min B)
 | [],A,B,_=>rfl
 | none::l,A,B,h=>by
  have h1:(lowL l).length=l.length+1:=h
  have h2:=len_lo l
  omega
 | some (a,b)::l,A,B,h=>by
  show l.foldl meetI (meetI (mkI A B) (some (a,b)))=_
  rw[meetI_mk];exact meet_fold l (max A a) (min B b) (Nat.succ_inj.1 h)
theorem meet_some{l:List Sp}(h:(lowL l).length=l.length):meetL l=mkI (mxp (lowL l)) (mnp (highL l)):=by
 have e:allI=mkI (-19342822337206103650074625) 19342822337206103650074625:=(mkI_some (by omega) (by omega) (by omega)).symm
 unfold meetL mxp mnp
 rw[e,TP_eq];exact meet_fold l _ _ h
theorem meet_gone:∀(l:List Sp) (x:Sp),(lowL l).length < l.length->l.foldl meetI x=none
 | [],x,h=>absurd h (Nat.lt_irrefl _)
 | none::l,x,h=>by
  show l.foldl meetI (meetI x none)=none
  rw[meetI_none];exact meet_stuck l
 | some (a,b)::l,x,h=>meet_gone l _ (Nat.lt_of_succ_lt_succ h)
theorem meet_no{l:List Sp}(h:(lowL l).length < l.length):meetL l=none:=meet_gone l allI h
theorem hullI_mk{A B a b:Int}(h:A=19342822337206103650074625/\B= -19342822337206103650074625\/A<=B/\A < 19342822337206103650074625/\ -19342822337206103650074625 < B)(k:SpOk (some (a,b))):
  hullI (mkI A B) (some (a,b))=mkI (min A a) (max B b)/\(min A a<=max B b/\min A a < 19342822337206103650074625/\ -19342822337206103650074625 < max B b):=by
 obtain⟨k1,k2,k3,k4,k5⟩:=k;refine⟨?_,by omega,by omega,by omega⟩
 rcases h with⟨rfl,rfl⟩ | ⟨h1,h2,h3⟩
 ·rw[mkI_none (by omega),mkI_some (by omega) (by omega) (by omega)]
  have e1:min 19342822337206103650074625 a=a:=by omega
  have e2:max (-19342822337206103650074625) b=b:=by omega
  rw[e1,e2]
  rfl
 ·rw[mkI_some h1 h2 h3]
  rfl
theorem hull_fold:∀(l:List Sp) (A B:Int),(A=19342822337206103650074625/\B= -19342822337206103650074625\/A<=B/\A < 19342822337206103650074625/\ -19342822337206103650074625 < B)->(∀y ∈ l,SpOk y)->l.foldl hullI (mkI A B)=mkI ((lowL l).foldl min A) ((highL l).foldl max B)
 | [],A,B,_,_=>rfl
 | none::l,A,B,h,k=>by
  show l.foldl hullI (hullI (mkI A B) none)=_
  rw[hullI_none]
  exact hull_fold l A B h (fun y hy=>k y (List.mem_cons_of_mem _ hy))
 | some (a,b)::l,A,B,h,k=>by
  obtain⟨e,g⟩:=hullI_mk h (k _ (List.mem_cons_self ..))
  show l.foldl hullI (hullI (mkI A B) (some (a,b)))=_
  rw[e]
  exact hull_fold l _ _ (.inr g) (fun y hy=>k y (List.mem_cons_of_mem _ hy))
theorem hull_ends{l:List Sp}(h:∀y ∈ l,SpOk y):hullL l=mkI (mnp (lowL l)) (mxp (highL l)):=by
 have e:(none:Sp)=mkI 19342822337206103650074625 (-19342822337206103650074625):=(mkI_none (by omega)).symm
 unfold hullL mxp mnp
 rw[e,TP_eq];exact hull_fold l _ _ (.inl ⟨rfl,rfl⟩) h
def nrow:List (Int × Bool × Int × Int)->List Value
 | []=>[]
 | (K,s,M,E)::l=> .int .i64 K:: .bool s:: .int .u64 M:: .int .i64 E::nrow l
theorem nrow_append:∀l m,nrow (l ++m)=nrow l ++nrow m
 | [],m=>rfl
 | (K,s,M,E)::l,m=>by
  show _::_::_::_::nrow (l ++m)=_
  rw[nrow_append l m]
  rfl
theorem nrow_at:∀(l:List (Int × Bool × Int × Int)) (k:Nat) (K:Int) (s:Bool) (M E:Int),l[k]?=some (K,s,M,E)->(nrow l)[k*4]?=some (.int .i64 K)/\(nrow l)[k*4+1]?=some (.bool s)/\(nrow l)[k*4+2]?=some (.int .u64 M)/\(nrow l)[k*4+3]?=some (.int .i64 E)
 | [],k,_,_,_,_,h=>by cases h
 | (K,s,M,E)::l,0,_,_,_,_,h=>by
  cases h
  exact⟨rfl,rfl,rfl,rfl⟩
 | (K,s,M,E)::l,k+1,K2,s2,M2,E2,h=>by
  have:=nrow_at l k K2 s2 M2 E2 h
  have e:(k+1)*4=k*4+4:=by omega
  rw[e];exact this
def Na (w:World)(base:Nat)(A:Option Addr)(n c:Nat)(l:List Int):Prop:=
 ∃r:List (Int × Bool × Int × Int),w.ownsRow base 24 4 (.slice A n c) n (nrow r)/\r.length=n/\l.length=n/\∀k,k < n->∃K s M E,r[k]?=some (K,s,M,E)/\Fq K s M E (l.getD k 0)
theorem Na.nil (w:World)(base:Nat):Na w base none 0 0 []:=⟨[],World.ownsRow_nil w base _ 4,rfl,rfl,fun k h=>absurd h (Nat.not_lt_zero _)⟩
theorem Na.len{w:World}{base n c:Nat}{A:Option Addr}{l:List Int}(h:Na w base A n c l):l.length=n:=by
 obtain⟨_,_,_,h,_⟩:=h;exact h
theorem Na.below{w w':World}{base n c:Nat}{A:Option Addr}{l:List Int}(h:Na w base A n c l)(hb:Below w.heap.size w w'):Na w' base A n c l:=by
 obtain⟨r,h1,h2⟩:=h;refine⟨r,⟨h1.1,?_⟩,h2⟩
 rcases h1.2 with h3 | ⟨g,cap,cur,hv,hg,hh,q⟩
 ·exact .inl h3
 ·refine .inr ⟨g,cap,cur,hv,hg,?_,q⟩;rw[hb.block g (Array.getElem?_eq_some_iff.1 hh).1];exact hh
abbrev Na.b:= @Na.below
theorem Na.nl{w:World}{base n c:Nat}{A:Option Addr}{l:List Int}(h:Na w base A n c l)(hn:n<=1099511627776):Nl w A n c l:=by
 obtain⟨r,h1,h2,h3,h4⟩:=h
 rcases h1.2 with⟨e1,e2⟩ | ⟨g,cap,cur,hv,hg,hh,hc,hm,hs,ht⟩
 ·injection e1 with a1 a2 a3
  subst a1;subst a2;subst a3
  exact⟨h3,Nat.le_refl _,by omega,fun h=>absurd h (Nat.lt_irrefl _)⟩
 ·injection hv with a1 a2 a3
  subst a1;subst a3
  refine⟨h3,hc,hn,fun _=>⟨g,0,rfl,fun k hk=>?_⟩⟩
  obtain⟨K,s,M,E,hr,q⟩:=h4 k hk;obtain⟨c0,c1,c2,c3⟩:=nrow_at r k K s M E hr
  have cell:∀j v,(nrow r)[j]?=some v->w.cell? ⟨g,0+j,none⟩=some v:=by
   intro j v hv
   rw[cell_of_row w g (0+j) _ _ (0,0) hh,Nat.zero_add,<-Array.getElem?_toList];rw[<-ht,List.getElem?_take]at hv
   split at hv
   ·exact hv
   ·cases hv
  exact⟨K,s,M,E,cell _ _ c0,by rw[Nat.add_assoc];exact cell _ _ c1,by rw[Nat.add_assoc];exact cell _ _ c2,by rw[Nat.add_assoc];exact cell _ _ c3,q.top,q.rk⟩
theorem infoNum:(Tryz.prog.info? 24).map (fun i=>(i.zero,i.size,i.bytes))=some (some (.agg #[.int .i64 0,.bool false,.int .u64 0,.int .i64 0]),4,32):=by kernel_rfl
section
variable {w w':World} {base n c:Nat} {A:Option Addr} {l:List Int}
def ownA (A:Option Addr):Option Nat:=A.map (·.block)
theorem own_eq (A:Option Addr)(n c:Nat):(Value.slice A n c).ownBlock=ownA A:=by cases A <;> rfl
theorem Na.kept{row:Option Nat}(h:Na w base A n c l)(hg:w.grownBy w' row)(hne:ownA A=none\/ownA A≠row):Na w' base A n c l:=by
 obtain⟨r,h1,h2⟩:=h;exact⟨r,h1.kept hg (by rw[own_eq];exact hne),h2⟩
theorem Na.own_lt (h:Na w base A n c l):∀k,ownA A=some k->base<=k/\k < w.heap.size:=by
 obtain⟨r,h1,h2⟩:=h
 intro k hk
 exact h1.lt k (by rw[own_eq];exact hk)
theorem run_na{ty:TypeId}{g:Nat}{K M E a:Int}{s:Bool}(h:Na w base A n c l)(q:Fq K s M E a)(X:Bo w g #[.int .i64 K,.bool s,.int .u64 M,.int .i64 E] 24)(hn:n+1<=1099511627776)(hb:base<=w.heap.size):
  ∃A2 c2 w',(Builtin.append_ #[85,85] ty #[.slice A n c,.slice (some ⟨g,0,none⟩) 1 1]).run Tryz.prog w= .ok (.slice A2 (n+1) c2) w'/\Na w' base A2 (n+1) c2 (l ++[a])/\w.grownBy w' (ownA A)/\(ownA A2=ownA A\/ownA A2=some w.heap.size):=by
 obtain⟨i,hi,hz,hsi,hby⟩:=info_parts infoNum;obtain⟨r,h1,h2,h3,h4⟩:=h
 obtain⟨v',w',hr,ho,hg,_,hat⟩:=run_append_own_at (P:=Tryz.prog) w base 85 ty 24 i _ 4 32 Tryz.underlying85 hi hz hsi hby rfl (by decide) _ n (nrow r) h1 ⟨g,0,none⟩ 1 1 (nrow [(K,s,M,E)]) rfl (by
  intro j u hj
  have hc:=X.cell
  rcases j with _ | _ | _ | _ | j
  ·cases hj
   exact hc 0
  ·cases hj
   exact hc 1
  ·cases hj
   exact hc 2
  ·cases hj
   exact hc 3
  ·cases hj) (by
  intro u hu
  simp only[nrow,List.mem_cons,List.not_mem_nil,or_false]at hu
  rcases hu with rfl | rfl | rfl | rfl <;> rfl) (by unfold maxLen;omega) (by omega) hb
 rw[own_eq]at hg hat;rw[<-nrow_append]at ho
 obtain⟨A2,c2,rfl⟩:∃A2 c2,v'= .slice A2 (n+1) c2:=by
  rcases ho.2 with⟨_,h0⟩ | ⟨g',cap',cur',hv,_⟩
  ·omega
  ·exact⟨_,_,hv⟩
 rw[own_eq]at hat
 refine⟨A2,c2,w',hr,⟨_,ho,by rw[List.length_append,h2];rfl,by rw[List.length_append,h3];rfl,fun k hk=>?_⟩,hg,hat⟩
 by_cases hkn:k < n
 ·obtain⟨K1,s1,M1,E1,hq,qq⟩:=h4 k hkn;refine⟨K1,s1,M1,E1,by rw[List.getElem?_append_left (by omega)];exact hq,?_⟩
  rw[List.getD_eq_getElem?_getD,List.getElem?_append_left (by omega),<-List.getD_eq_getElem?_getD];exact qq
 ·obtain rfl:k=n:=by omega
  refine⟨K,s,M,E,by rw[List.getElem?_append_right (by omega),h2];simp,?_⟩
  rw[List.getD_eq_getElem?_getD,List.getElem?_append_right (by omega),h3]
  simpa using q
theorem wpList_na{ops:Array Oper}{rest:List Oper}{o:Oper}{a:Act}{Q:Exit->Act->World->Prop}(hgd:o.guard=none)(s x:Operand)
  (ho:o.op= .call {callee:= .builtin .append,args:= #[s,x],argTypes:= #[85,85]}) {g:Nat} {K M E p:Int} {b:Bool}
  (hs:a.eval s= .slice A n c) (hx:a.eval x= .slice (some ⟨g,0,none⟩) 1 1) (h:Na w base A n c l) (q:Fq K b M E p) (X:Bo w g #[.int .i64 K,.bool b,.int .u64 M,.int .i64 E] 24) (hn:n+1<=1099511627776) (hb:base<=w.heap.size)
  (hK:∀A2 c2 w',Na w' base A2 (n+1) c2 (l ++[p])->w.grownBy w' (ownA A)->(ownA A2=ownA A\/ownA A2=some w.heap.size)->wpList Tryz.prog ops Q rest (a.put o.dst (.slice A2 (n+1) c2)) w'):wpList Tryz.prog ops Q (o::rest) a w:=by
 refine wpList_plain hgd fun K hK2=>?_
 obtain⟨A2,c2,w',hr,h1,h2,h3⟩:=run_na (ty:=o.type) h q X hn hb
 unfold Oper.wp execOp
 simp only[ho,resolve,invoke,builtin,Sem.run_bind,Sem.run_pure,Result.andThen_ok,List.map_toArray,List.map_cons,List.map_nil,hs,hx,hr];exact hK2 _ _ (hK A2 c2 w' h1 h2 h3)
end
theorem nInfE{w:World}(s:Bool):Calls Tryz.prog 79 #[.bool s] w (fun e w'=>e= .returned (.agg #[.int .i64 2,.bool s,.int .u64 0,.int .i64 0])/\Below w.heap.size w w'):=by
 refine(nInf (s:=s) rfl).mono ?_;rintro ee w2 ⟨K,s1,M,E,rfl,q,B⟩;obtain⟨rfl,rfl,rfl,rfl⟩:=q.uniq (fq_inf2 s);exact⟨rfl,B⟩
theorem cmp_gtE{x y c:Int}(h:cmpI x y=c):decide (0 < c)=decide (y < x):=by
 rw[<-h]
 by_cases e:y < x
 ·rw[dt e]
  exact dt (by rcases cmpI_tri x y with⟨a,b⟩ | ⟨a,b⟩ | ⟨a,b⟩ <;> rw[b] <;> omega)
 ·rw[df e]
  exact df (by rcases cmpI_tri x y with⟨a,b⟩ | ⟨a,b⟩ | ⟨a,b⟩ <;> rw[b] <;> omega)
theorem cmp_geE{x y c:Int}(h:cmpI x y=c):decide (0<=c)=decide (y<=x):=by
 rw[<-h]
 by_cases e:y<=x
 ·rw[dt e]
  exact dt (by rcases cmpI_tri x y with⟨a,b⟩ | ⟨a,b⟩ | ⟨a,b⟩ <;> rw[b] <;> omega)
 ·rw[df e]
  exact df (by rcases cmpI_tri x y with⟨a,b⟩ | ⟨a,b⟩ | ⟨a,b⟩ <;> rw[b] <;> omega)
theorem kvNone{w:World}:Calls Tryz.prog 90 #[] w (PV w none):=by
 go_enter Tryz.func90,Tryz.ntmps90
 go_upto_region 1 with (fail)
 generalize hW1:w.alloc _=w1 at *;obtain⟨XR,HB⟩:=Bo.en1 hW1;clear hW1;have xXR:=XR.cell;have zXR0:=XR.frozen;go_wp2;clear xXR zXR0;have SX:=StN.t9 XR true 0 false 0 0 0 false 0 0;exact bq (by simp[results,Tryz.results90,go_sem,SX.box.cell]) rfl ⟨_,_,_,_,_,_,_,_,_,rfl,Ci.none,(SX.below HB.out (by omega))⟩
theorem kvNoneE{w:World}:Calls Tryz.prog 90 #[] w (fun e w'=>e= .returned (.agg #[.bool true,.int .i64 0,.bool false,.int .u64 0,.int .i64 0,.int .i64 0,.bool false,.int .u64 0,.int .i64 0])/\Below w.heap.size w w'):=by
 refine kvNone.mono ?_;rintro ee w2 ⟨e1,K1,s1,M1,E1,K1b,s1b,M1b,E1b,rfl,v1,B⟩;obtain⟨rfl,rfl,rfl,rfl,rfl,rfl,rfl,rfl,rfl⟩:=v1.uniq Ci.none;exact⟨rfl,B⟩
theorem kvOrN{w:World}{D M E:Int}{s:Bool}{r:Int}(hM:LQ M)(hr:rk D s M E=r):Calls Tryz.prog 107 #[VQ D s M E] w (PN w r):=by
 delta VQ
 by_cases hm:MayQ D s M E
 ·have HQ:=rk_fq hM hm;rw[hr]at HQ
  have HC:=ie (show decide (MayQ D s M E)=true from dt hm)
  clear hm hr hM
  go_enter Tryz.func107,Tryz.ntmps107
  go_upto_region 1 with (fail)
  generalize hW1:(w.alloc _).alloc _=w1 at *;obtain⟨X1,XR,HB⟩:=Bo.en2 hW1;clear hW1;have xX1:=X1.cell
  go_wp2_with fail
  refine(nMay HC.out).mono ?_;rintro ee w2 ⟨rfl,B⟩;clear xX1;replace X1:=X1.b B;replace XR:=XR.b B;replace HB:=Hqb HB B;clear B;have xXR:=XR.cell;have zXR0:=XR.frozen;have xX1:=X1.cell;go_wp2;clear xXR zXR0 xX1;have SX:=StN.t4 XR D s M E
  exact bq (by simp[results,Tryz.results107,go_sem,SX.box.cell]) rfl ⟨D,s,M,E,rfl,HQ,(SX.below HB.out (by omega))⟩
 ·rw[rk_not hm]at hr;subst hr
  have HC:=ie (show decide (MayQ D s M E)=false from df hm)
  clear hm hM
  go_enter Tryz.func107,Tryz.ntmps107
  go_upto_region 1 with (fail)
  generalize hW1:(w.alloc _).alloc _=w1 at *;obtain⟨X1,XR,HB⟩:=Bo.en2 hW1;clear hW1;have xX1:=X1.cell
  go_wp2_with fail
  refine(nMay HC.out).mono ?_;rintro ee w2 ⟨rfl,B⟩;clear xX1;replace X1:=X1.b B;replace XR:=XR.b B;replace HB:=Hqb HB B;clear B;have xXR:=XR.cell;have zXR0:=XR.frozen;have xX1:=X1.cell;go_wp2;clear xXR zXR0 xX1;have SX:=StN.t4 XR 0 false 0 0
  exact bq (by simp[results,Tryz.results107,go_sem,SX.box.cell]) rfl ⟨_,_,_,_,rfl,Fq.nought,(SX.below HB.out (by omega))⟩
theorem kvMake{w:World}{D D' M M' E E':Int}{s s':Bool}{a b:Int}{x:Sp}(hM:LQ M)(hM':LQ M')(ha:rk D s M E=a)(hb:rk D' s' M' E'=b)(hx:mkI a b=x):Calls Tryz.prog 35 #[VQ D s M E,VQ D' s' M' E'] w (PV w x):=by
 delta VQ
 have HA:=ie ha;have HBB:=ie hb;clear ha hb
 go_enter Tryz.func35,Tryz.ntmps35
 go_upto_region 1 with (fail)
 generalize hW1:((w.alloc _).alloc _).alloc _=w1 at *;obtain⟨X2,X3,XR,HB⟩:=Bo.en3 hW1;clear hW1;refine jk [0,1,2,3] [some 5,some 6,some 7,some 8,none,none] [[],[0],[],[2],[],[]] 6 2 [Jo.q4 D s M E,Jo.Fact.num a,Jo.q4 D' s' M' E',Jo.Fact.num b,Jo.Fact.any,Jo.Fact.any] ?_ ?_
 ·refine jm ?_ ?_;rotate_left
  refine jm ?_ ?_
  ·rintro wj hJ _ rfl K hK;simp only[Jo.z]at hK|-;go_simp;exact Jo.n1 (kvOrN hM HA.out) hK.out
  refine jm ?_ ?_;rotate_left
  refine jm ?_ ?_
  ·rintro wj hJ _ rfl K hK;simp only[Jo.z]at hK|-;go_simp;exact Jo.n1 (kvOrN hM' HBB.out) hK.out
  exact jo
  all_goals (rintro wj hJ;(repeat rintro _ rfl);intro K hK;simp only[Jo.z]at hK|-;have xX2:=(X2.b hJ).cell;have xX3:=(X3.b hJ).cell;go_simp;exact hK.out _ _ rfl (br _ _))
 rintro w2 hJ _ rfl _ ⟨K1,s1,M1,E1,rfl,q1⟩ _ rfl _ ⟨K2,s2,M2,E2,rfl,q2⟩ -;simp only[Jo.z];replace X2:=X2.b hJ;replace X3:=X3.b hJ;replace XR:=XR.b hJ;replace HB:=Hqb HB hJ;have xX2:=X2.cell;have zX20:=X2.frozen
 refine jn 4 fun K hK=>?_
 go_simp;refine hK.out _ _ ?_;clear hK K xX2 zX20;generalize hS:(((w2.setCell _ _).setCell _ _).setCell _ _).setCell _ _=w3 at *;have SX:=StN.of4 X2 hS;replace X3:=X3.s SX;replace XR:=XR.s SX;replace HB:=Hqs HB SX (by omega);replace X2:=SX.box;clear SX hS;have xX3:=X3.cell;have zX30:=X3.frozen
 refine jn 5 fun K hK=>?_
 go_simp;refine hK.out _ _ ?_;clear hK K xX3 zX30;generalize hS:(((w3.setCell _ _).setCell _ _).setCell _ _).setCell _ _=w4 at *;have SX:=StN.of4 X3 hS;replace X2:=X2.s SX;replace XR:=XR.s SX;replace HB:=Hqs HB SX (by omega);replace X3:=SX.box;clear SX hS;refine jd ?_;clear HA HBB hM hM';obtain⟨c,hc⟩:∃c,cmpI a b=c:=⟨_,rfl⟩
 have hg:=cmp_gtE hc
 have HC:Hid (cmpI (rk K1 s1 M1 E1) (rk K2 s2 M2 E2)=c):=ie (by rw[q1.rk,q2.rk];exact hc)
 clear hc
 by_cases hgt:b < a
 ·rw[mkI_none (by omega)]at hx
  obtain rfl:none=x:=hx
  rw[dt hgt]at hg;have HC0:=ie hg;clear hg hgt;go_wp2;refine jk [0,1,2,3,4,5,6,7,8,9,10,11,12,13] [some 9,some 10,some 11,some 12,some 13,some 14,some 15,some 16,some 17,some 18,some 19,some 20,some 21,some 22] [[],[],[0,1],[2],[3],[4],[4],[4,5,6],[4,7],[8],[9],[9],[9,10,11],[9,12]] 14 0 [Jo.q4 K1 s1 M1 E1,Jo.q4 K2 s2 M2 E2,Jo.qi c,Jo.qb true,Jo.qb true,Jo.qu,Jo.qu,Jo.qu,Jo.qb true,Jo.qb true,Jo.qu,Jo.qu,Jo.qu,Jo.qb true] ?_ ?_
  ·iterate 2 (refine jm ?_ ?_;rotate_left)
   refine jm ?_ ?_
   ·rintro wj hJ _ rfl _ rfl K hK;simp only[Jo.z]at hK|-;go_simp;refine(nCmp q1.top q2.top HC.out).mono ?_;rintro ee wk ⟨rfl,B⟩;exact hK.out _ _ rfl B
   refine jm ?_ ?_
   ·rintro wj hJ _ rfl K hK;simp only[Jo.z]at hK|-;have hc0:=HC0.out;go_simp
    exact hK.out _ _ (by first | rfl | (show Value.bool _=Value.bool _;rw[hc0]) | simp_all) (br _ _)
   iterate 10 (refine jm ?_ ?_;rotate_left)
   exact jo
   all_goals (rintro wj hJ;(repeat rintro _ rfl);intro K hK;simp only[Jo.z]at hK|-;have xX2:=(X2.b hJ).cell;have xX3:=(X3.b hJ).cell;go_simp;exact hK.out _ _ rfl (br _ _))
  rintro w8 hJ _ rfl _ rfl _ rfl _ rfl _ rfl _ rfl _ rfl _ rfl _ rfl _ rfl _ rfl _ rfl _ rfl _ rfl -;simp only[Jo.z];replace X2:=X2.b hJ;replace X3:=X3.b hJ;replace XR:=XR.b hJ;replace HB:=Hqb HB hJ;refine jd ?_
  go_wp2_with fail
  refine(kvNoneE).mono ?_;rintro ee w9 ⟨rfl,B⟩;replace X2:=X2.b B;replace X3:=X3.b B;replace XR:=XR.b B;replace HB:=Hqb HB B;clear B;have xXR:=XR.cell;have zXR0:=XR.frozen;go_wp2;clear xXR zXR0;have SX:=StN.t9 XR true 0 false 0 0 0 false 0 0
  exact bq (by simp[results,Tryz.results35,go_sem,SX.box.cell]) rfl ⟨_,_,_,_,_,_,_,_,_,rfl,Ci.none,(SX.below HB.out (by omega))⟩
 ·rw[df hgt]at hg;have HC0:=ie hg;clear hg
  by_cases ht:a=19342822337206103650074625
  ·subst ht;rw[mkI_none (by omega)]at hx
   obtain rfl:none=x:=hx
   obtain⟨rfl,rfl,rfl,rfl⟩:=q1.uniq (show Fq 2 false 0 0 19342822337206103650074625 from fq_inf2 false)
   clear hgt;go_wp2;refine jk [0,1,2,3,4,5,6,7,8,9,10,11,12,13] [some 9,some 10,some 11,some 12,some 13,some 14,some 15,some 16,some 17,some 18,some 19,some 20,some 21,some 22] [[],[],[0,1],[2],[3],[4],[4],[4,5,6],[4,7],[8],[9],[9],[9,10,11],[9,12]] 14 0 [Jo.q4 2 false 0 0,Jo.q4 K2 s2 M2 E2,Jo.qi c,Jo.qb false,Jo.qb false,Jo.q4 2 false 0 0,Jo.q4 2 false 0 0,Jo.qb true,Jo.qb true,Jo.qb true,Jo.qu,Jo.qu,Jo.qu,Jo.qb true] ?_ ?_
   ·iterate 2 (refine jm ?_ ?_;rotate_left)
    refine jm ?_ ?_
    ·rintro wj hJ _ rfl _ rfl K hK;simp only[Jo.z]at hK|-;go_simp;refine(nCmp q1.top q2.top HC.out).mono ?_;rintro ee wk ⟨rfl,B⟩;exact hK.out _ _ rfl B
    refine jm ?_ ?_
    ·rintro wj hJ _ rfl K hK;simp only[Jo.z]at hK|-;have hc0:=HC0.out;go_simp
     exact hK.out _ _ (by first | rfl | (show Value.bool _=Value.bool _;rw[hc0]) | simp_all) (br _ _)
    iterate 2 (refine jm ?_ ?_;rotate_left)
    refine jm ?_ ?_
    ·rintro wj hJ _ rfl K hK;simp only[Jo.z]at hK|-;go_simp;refine(nInfE false).mono ?_;rintro ee wk ⟨rfl,B⟩;exact hK.out _ _ rfl B
    refine jm ?_ ?_
    ·rintro wj hJ _ rfl _ rfl _ rfl K hK;simp only[Jo.z]at hK|-;go_simp
     repeat' split
     all_goals exact hK.out _ _ (congrArg Value.bool (by first | rfl | (exfalso;simp_all) | simp_all)) (br _ _)
    iterate 6 (refine jm ?_ ?_;rotate_left)
    exact jo
    all_goals (rintro wj hJ;(repeat rintro _ rfl);intro K hK;simp only[Jo.z]at hK|-;have xX2:=(X2.b hJ).cell;have xX3:=(X3.b hJ).cell;go_simp;exact hK.out _ _ rfl (br _ _))
   rintro w8 hJ _ rfl _ rfl _ rfl _ rfl _ rfl _ rfl _ rfl _ rfl _ rfl _ rfl _ rfl _ rfl _ rfl _ rfl -;simp only[Jo.z];replace X2:=X2.b hJ;replace X3:=X3.b hJ;replace XR:=XR.b hJ;replace HB:=Hqb HB hJ;refine jd ?_
   go_wp2_with fail
   refine(kvNoneE).mono ?_;rintro ee w9 ⟨rfl,B⟩;replace X2:=X2.b B;replace X3:=X3.b B;replace XR:=XR.b B;replace HB:=Hqb HB B;clear B;have xXR:=XR.cell;have zXR0:=XR.frozen;go_wp2;clear xXR zXR0;have SX:=StN.t9 XR true 0 false 0 0 0 false 0 0
   exact bq (by simp[results,Tryz.results35,go_sem,SX.box.cell]) rfl ⟨_,_,_,_,_,_,_,_,_,rfl,Ci.none,(SX.below HB.out (by omega))⟩
  ·have HN1:Hid (¬(K1=2/\s1=false/\M1=0/\E1=0)):=ie (by
    rintro ⟨rfl,rfl,rfl,rfl⟩;exact ht (by rw[<-q1.rk];exact(fq_inf2 false).rk))
   by_cases hb:b= -19342822337206103650074625
   ·subst hb;rw[mkI_none (by omega)]at hx
    obtain rfl:none=x:=hx
    obtain⟨rfl,rfl,rfl,rfl⟩:=q2.uniq (show Fq 2 true 0 0 (-19342822337206103650074625)from fq_inf2 true)
    clear hgt ht;go_wp2;refine jk [0,1,2,3,4,5,6,7,8,9,10,11,12,13] [some 9,some 10,some 11,some 12,some 13,some 14,some 15,some 16,some 17,some 18,some 19,some 20,some 21,some 22] [[],[],[0,1],[2],[3],[4],[4],[4,5,6],[4,7],[8],[9],[9],[9,10,11],[9,12]] 14 0 [Jo.q4 K1 s1 M1 E1,Jo.q4 2 true 0 0,Jo.qi c,Jo.qb false,Jo.qb false,Jo.q4 K1 s1 M1 E1,Jo.q4 2 false 0 0,Jo.qb false,Jo.qb false,Jo.qb false,Jo.q4 2 true 0 0,Jo.q4 2 true 0 0,Jo.qb true,Jo.qb true] ?_ ?_
    ·iterate 2 (refine jm ?_ ?_;rotate_left)
     refine jm ?_ ?_
     ·rintro wj hJ _ rfl _ rfl K hK;simp only[Jo.z]at hK|-;go_simp;refine(nCmp q1.top q2.top HC.out).mono ?_;rintro ee wk ⟨rfl,B⟩;exact hK.out _ _ rfl B
     refine jm ?_ ?_
     ·rintro wj hJ _ rfl K hK;simp only[Jo.z]at hK|-;have hc0:=HC0.out;go_simp
      exact hK.out _ _ (by first | rfl | (show Value.bool _=Value.bool _;rw[hc0]) | simp_all) (br _ _)
     iterate 2 (refine jm ?_ ?_;rotate_left)
     refine jm ?_ ?_
     ·rintro wj hJ _ rfl K hK;simp only[Jo.z]at hK|-;go_simp;refine(nInfE false).mono ?_;rintro ee wk ⟨rfl,B⟩;exact hK.out _ _ rfl B
     refine jm ?_ ?_
     ·rintro wj hJ _ rfl _ rfl _ rfl K hK;simp only[Jo.z]at hK|-;have hne:=HN1.out;go_simp
      repeat' split
      all_goals exact hK.out _ _ (congrArg Value.bool (by first | rfl | (exfalso;simp_all))) (br _ _)
     iterate 3 (refine jm ?_ ?_;rotate_left)
     refine jm ?_ ?_
     ·rintro wj hJ _ rfl K hK;simp only[Jo.z]at hK|-;go_simp;refine(nInfE true).mono ?_;rintro ee wk ⟨rfl,B⟩;exact hK.out _ _ rfl B
     refine jm ?_ ?_
     ·rintro wj hJ _ rfl _ rfl _ rfl K hK;simp only[Jo.z]at hK|-;go_simp
      repeat' split
      all_goals exact hK.out _ _ (congrArg Value.bool (by first | rfl | (exfalso;simp_all) | simp_all)) (br _ _)
     refine jm ?_ ?_;rotate_left
     exact jo
     all_goals (rintro wj hJ;(repeat rintro _ rfl);intro K hK;simp only[Jo.z]at hK|-;have xX2:=(X2.b hJ).cell;have xX3:=(X3.b hJ).cell;go_simp;exact hK.out _ _ rfl (br _ _))
    rintro w8 hJ _ rfl _ rfl _ rfl _ rfl _ rfl _ rfl _ rfl _ rfl _ rfl _ rfl _ rfl _ rfl _ rfl _ rfl -;simp only[Jo.z];replace X2:=X2.b hJ;replace X3:=X3.b hJ;replace XR:=XR.b hJ;replace HB:=Hqb HB hJ;refine jd ?_
    go_wp2_with fail
    refine(kvNoneE).mono ?_;rintro ee w9 ⟨rfl,B⟩;replace X2:=X2.b B;replace X3:=X3.b B;replace XR:=XR.b B;replace HB:=Hqb HB B;clear B;have xXR:=XR.cell;have zXR0:=XR.frozen;go_wp2;clear xXR zXR0;have SX:=StN.t9 XR true 0 false 0 0 0 false 0 0
    exact bq (by simp[results,Tryz.results35,go_sem,SX.box.cell]) rfl ⟨_,_,_,_,_,_,_,_,_,rfl,Ci.none,(SX.below HB.out (by omega))⟩
   ·have HN2:Hid (¬(K2=2/\s2=true/\M2=0/\E2=0)):=ie (by
     rintro ⟨rfl,rfl,rfl,rfl⟩;exact hb (by rw[<-q2.rk];exact(fq_inf2 true).rk))
    have g1:=q1.bd;have g2:=q2.bd
    have g3:a<=b:=by omega
    have g4:a < 19342822337206103650074625:=by omega
    have g5: -19342822337206103650074625 < b:=by omega
    rw[mkI_some g3 g4 g5]at hx
    obtain rfl:some (a,b)=x:=hx
    have HV:Ci false K1 s1 M1 E1 K2 s2 M2 E2 (some (a,b)):=⟨rfl,q1,q2,g3,g4,g5⟩
    clear hgt ht hb g1 g2 g3 g4 g5;go_wp2;refine jk [0,1,2,3,4,5,6,7,8,9,10,11,12,13] [some 9,some 10,some 11,some 12,some 13,some 14,some 15,some 16,some 17,some 18,some 19,some 20,some 21,some 22] [[],[],[0,1],[2],[3],[4],[4],[4,5,6],[4,7],[8],[9],[9],[9,10,11],[9,12]] 14 0 [Jo.q4 K1 s1 M1 E1,Jo.q4 K2 s2 M2 E2,Jo.qi c,Jo.qb false,Jo.qb false,Jo.q4 K1 s1 M1 E1,Jo.q4 2 false 0 0,Jo.qb false,Jo.qb false,Jo.qb false,Jo.q4 K2 s2 M2 E2,Jo.q4 2 true 0 0,Jo.qb false,Jo.qb false] ?_ ?_
    ·iterate 2 (refine jm ?_ ?_;rotate_left)
     refine jm ?_ ?_
     ·rintro wj hJ _ rfl _ rfl K hK;simp only[Jo.z]at hK|-;go_simp;refine(nCmp q1.top q2.top HC.out).mono ?_;rintro ee wk ⟨rfl,B⟩;exact hK.out _ _ rfl B
     refine jm ?_ ?_
     ·rintro wj hJ _ rfl K hK;simp only[Jo.z]at hK|-;have hc0:=HC0.out;go_simp
      exact hK.out _ _ (by first | rfl | (show Value.bool _=Value.bool _;rw[hc0]) | simp_all) (br _ _)
     iterate 2 (refine jm ?_ ?_;rotate_left)
     refine jm ?_ ?_
     ·rintro wj hJ _ rfl K hK;simp only[Jo.z]at hK|-;go_simp;refine(nInfE false).mono ?_;rintro ee wk ⟨rfl,B⟩;exact hK.out _ _ rfl B
     refine jm ?_ ?_
     ·rintro wj hJ _ rfl _ rfl _ rfl K hK;simp only[Jo.z]at hK|-;have hne:=HN1.out;go_simp
      repeat' split
      all_goals exact hK.out _ _ (congrArg Value.bool (by first | rfl | (exfalso;simp_all))) (br _ _)
     iterate 3 (refine jm ?_ ?_;rotate_left)
     refine jm ?_ ?_
     ·rintro wj hJ _ rfl K hK;simp only[Jo.z]at hK|-;go_simp;refine(nInfE true).mono ?_;rintro ee wk ⟨rfl,B⟩;exact hK.out _ _ rfl B
     refine jm ?_ ?_
     ·rintro wj hJ _ rfl _ rfl _ rfl K hK;simp only[Jo.z]at hK|-;have hne:=HN2.out;go_simp
      repeat' split
      all_goals exact hK.out _ _ (congrArg Value.bool (by first | rfl | (exfalso;simp_all))) (br _ _)
     refine jm ?_ ?_;rotate_left
     exact jo
     all_goals (rintro wj hJ;(repeat rintro _ rfl);intro K hK;simp only[Jo.z]at hK|-;have xX2:=(X2.b hJ).cell;have xX3:=(X3.b hJ).cell;go_simp;exact hK.out _ _ rfl (br _ _))
    rintro w8 hJ _ rfl _ rfl _ rfl _ rfl _ rfl _ rfl _ rfl _ rfl _ rfl _ rfl _ rfl _ rfl _ rfl _ rfl -;simp only[Jo.z];replace X2:=X2.b hJ;replace X3:=X3.b hJ;replace XR:=XR.b hJ;replace HB:=Hqb HB hJ;refine jd ?_;have xXR:=XR.cell;have zXR0:=XR.frozen;have xX2:=X2.cell
    have xX3:=X3.cell;go_wp2;clear xXR zXR0 xX2 xX3;have SX:=StN.t9 XR false K1 s1 M1 E1 K2 s2 M2 E2;exact bq (by simp[results,Tryz.results35,go_sem,SX.box.cell]) rfl ⟨_,_,_,_,_,_,_,_,_,rfl,HV,(SX.below HB.out (by omega))⟩
theorem kvPoint{w:World}{D M E:Int}{s:Bool}{a:Int}{x:Sp}(hM:LQ M)(ha:rk D s M E=a)(hx:mkI a a=x):Calls Tryz.prog 46 #[VQ D s M E] w (PV w x):=by
 delta VQ
 have HA:=ie ha;have HX:=ie hx;clear ha hx
 go_enter Tryz.func46,Tryz.ntmps46
 go_upto_region 1 with (fail)
 generalize hW1:(w.alloc _).alloc _=w1 at *;obtain⟨X1,XR,HB⟩:=Bo.en2 hW1;clear hW1;have xX1:=X1.cell
 go_wp2_with fail
 refine(kvMake hM hM HA.out HA.out HX.out).mono ?_;rintro ee w2 ⟨e2,K2,s2,M2,E2,K2b,s2b,M2b,E2b,rfl,v2,B⟩;clear xX1;replace XR:=XR.b B;replace HB:=Hqb HB B;clear B;have xXR:=XR.cell;have zXR0:=XR.frozen;go_wp2;clear xXR zXR0;have SX:=StN.t9 XR e2 K2 s2 M2 E2 K2b s2b M2b E2b
 exact bq (by simp[results,Tryz.results46,go_sem,SX.box.cell]) rfl ⟨_,_,_,_,_,_,_,_,_,rfl,v2,(SX.below HB.out (by omega))⟩
theorem may_make{e:Bool}{D M E D' M' E':Int}{s s':Bool}{e4:Bool}{K4 M4 E4 K4b M4b E4b:Int}{s4 s4b:Bool}(hM:LQ M)(hM':LQ M')(v:Ci e4 K4 s4 M4 E4 K4b s4b M4b E4b (mkI (rk D s M E) (rk D' s' M' E')))(h1:¬(e=true/\D=0/\s=false/\M=0/\E=0/\D'=0/\s'=false/\M'=0/\E'=0)):(e=e4/\D=K4/\s=s4/\M=M4/\E=E4/\D'=K4b/\s'=s4b/\M'=M4b/\E'=E4b)↔mayI e D s M E D' s' M' E'=true:=by
 constructor
 ·rintro ⟨rfl,rfl,rfl,rfl,rfl,rfl,rfl,rfl,rfl⟩;exact v.may
 ·intro h
  have c:=mayI_ci hM hM' h
  cases e
  ·have h2:decide (rkI false D s M E D' s' M' E'≠none)=true:=h
   rw[rkI_f]at c;rw[decide_eq_true_iff,rkI_f]at h2
   by_cases hq:MayQ D s M E/\MayQ D' s' M' E'
   ·rw[if_pos hq]at c;exact c.uniq v
   ·rw[if_neg hq]at h2;exact absurd rfl h2
  ·rw[rkI_t]at c;exact absurd (c.uniq Ci.none) h1
theorem kvMay{w:World}{e:Bool}{D M E D' M' E':Int}{s s':Bool}{r:Bool}(hM:LQ M)(hM':LQ M')(hr:mayI e D s M E D' s' M' E'=r):Calls Tryz.prog 176 #[VI e D s M E D' s' M' E'] w (PB w r):=by
 delta VI
 by_cases h1:e=true/\D=0/\s=false/\M=0/\E=0/\D'=0/\s'=false/\M'=0/\E'=0
 ·obtain⟨rfl,rfl,rfl,rfl,rfl,rfl,rfl,rfl,rfl⟩:=h1
  obtain rfl:true=r:=Ci.none.may.symm.trans hr
  clear hr
  go_enter Tryz.func176,Tryz.ntmps176
  go_upto_region 1 with (fail)
  generalize hW1:w.alloc _=w1 at *;obtain⟨X1,HB⟩:=Bo.en1 hW1;clear hW1;refine jk [0,1,2,3,4,5,6,7,8,9,10,11,12] [some 3,some 4,some 5,some 6,some 7,some 8,some 9,some 10,some 11,some 12,some 13,some 14,some 2] [[],[],[0,1],[2],[3],[3],[3,5],[3],[3,7],[3,6,8],[3,4,9],[3,10],[11]] 13 0 [Jo.q9 true 0 false 0 0 0 false 0 0,Jo.q9 true 0 false 0 0 0 false 0 0,Jo.qb true,Jo.qb true,Jo.qu,Jo.qu,Jo.qu,Jo.qu,Jo.qu,Jo.qu,Jo.qu,Jo.qb true,Jo.qb true] ?_ ?_
  ·refine jm ?_ ?_;rotate_left
   refine jm ?_ ?_
   ·rintro wj hJ K hK;simp only[Jo.z]at hK|-;go_simp;refine(kvNoneE).mono ?_;rintro ee wk ⟨rfl,B⟩;exact hK.out _ _ rfl B
   refine jm ?_ ?_
   ·rintro wj hJ _ rfl _ rfl K hK;simp only[Jo.z]at hK|-;go_simp
    repeat' split
    all_goals exact hK.out _ _ (congrArg Value.bool (by first | rfl | (exfalso;simp_all) | simp_all)) (br _ _)
   iterate 10 (refine jm ?_ ?_;rotate_left)
   exact jo
   all_goals (rintro wj hJ;(repeat rintro _ rfl);intro K hK;simp only[Jo.z]at hK|-;have xX1:=(X1.b hJ).cell;go_simp;exact hK.out _ _ rfl (br _ _))
  rintro w8 hJ _ rfl _ rfl _ rfl _ rfl _ rfl _ rfl _ rfl _ rfl _ rfl _ rfl _ rfl _ rfl _ rfl -;simp only[Jo.z];replace X1:=X1.b hJ;replace HB:=Hqb HB hJ;refine jd ?_;go_wp2
  go_ret
  exact⟨rfl,HB.out⟩
 ·have HN1:=ie h1
  have HY:Hid (∀{e4 K4 s4 M4 E4 K4b s4b M4b E4b},Ci e4 K4 s4 M4 E4 K4b s4b M4b E4b (mkI (rk D s M E) (rk D' s' M' E'))->((e=e4/\D=K4/\s=s4/\M=M4/\E=E4/\D'=K4b/\s'=s4b/\M'=M4b/\E'=E4b)↔r=true)):=ie (fun v=>by rw[<-hr];exact may_make hM hM' v h1)
  clear hr h1
  cases r
  ·go_enter Tryz.func176,Tryz.ntmps176
   go_upto_region 1 with (fail)
   generalize hW1:w.alloc _=w1 at *;obtain⟨X1,HB⟩:=Bo.en1 hW1;clear hW1;refine jk [0,1,2,3,4,5,6,7,8,9,10,11,12] [some 3,some 4,some 5,some 6,some 7,some 8,some 9,some 10,some 11,some 12,some 13,some 14,some 2] [[],[],[0,1],[2],[3],[3],[3,5],[3],[3,7],[3,6,8],[3,4,9],[3,10],[11]] 13 0 [Jo.q9 e D s M E D' s' M' E',Jo.q9 true 0 false 0 0 0 false 0 0,Jo.qb false,Jo.qb false,Jo.q9 e D s M E D' s' M' E',Jo.qp w.heap.size 1,Jo.q4 D s M E,Jo.qp w.heap.size 5,Jo.q4 D' s' M' E',Jo.Fact.iv (mkI (rk D s M E) (rk D' s' M' E')),Jo.qb false,Jo.qb false,Jo.qb false] ?_ ?_
   ·refine jm ?_ ?_;rotate_left
    refine jm ?_ ?_
    ·rintro wj hJ K hK;simp only[Jo.z]at hK|-;go_simp;refine(kvNoneE).mono ?_;rintro ee wk ⟨rfl,B⟩;exact hK.out _ _ rfl B
    refine jm ?_ ?_
    ·rintro wj hJ _ rfl _ rfl K hK;simp only[Jo.z]at hK|-;have hne:=HN1.out;go_simp
     repeat' split
     all_goals exact hK.out _ _ (congrArg Value.bool (by first | rfl | (exfalso;simp_all))) (br _ _)
    iterate 6 (refine jm ?_ ?_;rotate_left)
    refine jm ?_ ?_
    ·rintro wj hJ _ rfl _ rfl _ rfl K hK;simp only[Jo.z]at hK|-;go_simp;exact Jo.v1 (kvMake hM hM' rfl rfl rfl) hK.out
    refine jm ?_ ?_
    ·rintro wj hJ _ rfl _ rfl _ ⟨e9,K9,s9,M9,E9,K9b,s9b,M9b,E9b,rfl,v9⟩ K hK;simp only[Jo.z]at hK|-
     have hne:=fun c=>ff ((HY.out v9).1 c)
     go_simp
     repeat' split
     all_goals exact hK.out _ _ (congrArg Value.bool (by first | rfl | (exfalso;simp_all))) (br _ _)
    iterate 2 (refine jm ?_ ?_;rotate_left)
    exact jo
    all_goals (rintro wj hJ;(repeat rintro _ rfl);intro K hK;simp only[Jo.z]at hK|-;have xX1:=(X1.b hJ).cell;go_simp;exact hK.out _ _ rfl (br _ _))
   rintro w8 hJ _ rfl _ rfl _ rfl _ rfl _ rfl _ _ _ rfl _ _ _ rfl _ ⟨e9,K9,s9,M9,E9,K9b,s9b,M9b,E9b,rfl,v9⟩ _ rfl _ rfl _ rfl -;simp only[Jo.z];replace X1:=X1.b hJ;replace HB:=Hqb HB hJ;refine jd ?_;go_wp2
   go_ret
   exact⟨rfl,HB.out⟩
  ·go_enter Tryz.func176,Tryz.ntmps176
   go_upto_region 1 with (fail)
   generalize hW1:w.alloc _=w1 at *;obtain⟨X1,HB⟩:=Bo.en1 hW1;clear hW1;refine jk [0,1,2,3,4,5,6,7,8,9,10,11,12] [some 3,some 4,some 5,some 6,some 7,some 8,some 9,some 10,some 11,some 12,some 13,some 14,some 2] [[],[],[0,1],[2],[3],[3],[3,5],[3],[3,7],[3,6,8],[3,4,9],[3,10],[11]] 13 0 [Jo.q9 e D s M E D' s' M' E',Jo.q9 true 0 false 0 0 0 false 0 0,Jo.qb false,Jo.qb false,Jo.q9 e D s M E D' s' M' E',Jo.qp w.heap.size 1,Jo.q4 D s M E,Jo.qp w.heap.size 5,Jo.q4 D' s' M' E',Jo.Fact.iv (mkI (rk D s M E) (rk D' s' M' E')),Jo.qb true,Jo.qb true,Jo.qb true] ?_ ?_
   ·refine jm ?_ ?_;rotate_left
    refine jm ?_ ?_
    ·rintro wj hJ K hK;simp only[Jo.z]at hK|-;go_simp;refine(kvNoneE).mono ?_;rintro ee wk ⟨rfl,B⟩;exact hK.out _ _ rfl B
    refine jm ?_ ?_
    ·rintro wj hJ _ rfl _ rfl K hK;simp only[Jo.z]at hK|-;have hne:=HN1.out;go_simp
     repeat' split
     all_goals exact hK.out _ _ (congrArg Value.bool (by first | rfl | (exfalso;simp_all))) (br _ _)
    iterate 6 (refine jm ?_ ?_;rotate_left)
    refine jm ?_ ?_
    ·rintro wj hJ _ rfl _ rfl _ rfl K hK;simp only[Jo.z]at hK|-;go_simp;exact Jo.v1 (kvMake hM hM' rfl rfl rfl) hK.out
    refine jm ?_ ?_
    ·rintro wj hJ _ rfl _ rfl _ ⟨e9,K9,s9,M9,E9,K9b,s9b,M9b,E9b,rfl,v9⟩ K hK;simp only[Jo.z]at hK|-;obtain⟨rfl,rfl,rfl,rfl,rfl,rfl,rfl,rfl,rfl⟩:=(HY.out v9).2 rfl;go_simp
     repeat' split
     all_goals exact hK.out _ _ (congrArg Value.bool (by first | rfl | (exfalso;simp_all) | simp_all)) (br _ _)
    iterate 2 (refine jm ?_ ?_;rotate_left)
    exact jo
    all_goals (rintro wj hJ;(repeat rintro _ rfl);intro K hK;simp only[Jo.z]at hK|-;have xX1:=(X1.b hJ).cell;go_simp;exact hK.out _ _ rfl (br _ _))
   rintro w8 hJ _ rfl _ rfl _ rfl _ rfl _ rfl _ _ _ rfl _ _ _ rfl _ ⟨e9,K9,s9,M9,E9,K9b,s9b,M9b,E9b,rfl,v9⟩ _ rfl _ rfl _ rfl -;simp only[Jo.z];replace HB:=Hqb HB hJ;refine jd ?_;go_wp2
   go_ret
   exact⟨rfl,HB.out⟩
theorem kvOrE{w:World}{e:Bool}{D M E D' M' E':Int}{s s':Bool}{x:Sp}(hM:LQ M)(hM':LQ M')(hr:rkI e D s M E D' s' M' E'=x):Calls Tryz.prog 104 #[VI e D s M E D' s' M' E'] w (PV w x):=by
 delta VI
 cases hm:mayI e D s M E D' s' M' E'
 ·obtain rfl:none=x:=(mayI_no hm).symm.trans hr
  have HM:=ie hm;clear hm hr
  go_enter Tryz.func104,Tryz.ntmps104
  go_upto_region 1 with (fail)
  generalize hW1:(w.alloc _).alloc _=w1 at *;obtain⟨X1,XR,HB⟩:=Bo.en2 hW1;clear hW1;have xX1:=X1.cell
  go_wp2_with fail
  refine(kvMay hM hM' HM.out).mono ?_;rintro ee w2 ⟨rfl,B⟩;clear xX1;replace X1:=X1.b B;replace XR:=XR.b B;replace HB:=Hqb HB B;clear B;clear HM hM hM'
  go_wp2_with fail
  refine(kvNoneE).mono ?_;rintro ee w3 ⟨rfl,B⟩;replace X1:=X1.b B;replace XR:=XR.b B;replace HB:=Hqb HB B;clear B;have xXR:=XR.cell;have zXR0:=XR.frozen;go_wp2;clear xXR zXR0;have SX:=StN.t9 XR true 0 false 0 0 0 false 0 0
  exact bq (by simp[results,Tryz.results104,go_sem,SX.box.cell]) rfl ⟨_,_,_,_,_,_,_,_,_,rfl,Ci.none,(SX.below HB.out (by omega))⟩
 ·have hv:=mayI_ci hM hM' hm;rw[hr]at hv;have HM:=ie hm;clear hm hr
  go_enter Tryz.func104,Tryz.ntmps104
  go_upto_region 1 with (fail)
  generalize hW1:(w.alloc _).alloc _=w1 at *;obtain⟨X1,XR,HB⟩:=Bo.en2 hW1;clear hW1;have xX1:=X1.cell
  go_wp2_with fail
  refine(kvMay hM hM' HM.out).mono ?_;rintro ee w2 ⟨rfl,B⟩;clear xX1;replace X1:=X1.b B;replace XR:=XR.b B;replace HB:=Hqb HB B;clear B;clear HM hM hM';have xXR:=XR.cell;have zXR0:=XR.frozen;have xX1:=X1.cell;go_wp2
  clear xXR zXR0 xX1;have SX:=StN.t9 XR e D s M E D' s' M' E';exact bq (by simp[results,Tryz.results104,go_sem,SX.box.cell]) rfl ⟨_,_,_,_,_,_,_,_,_,rfl,hv,(SX.below HB.out (by omega))⟩
theorem kvWithin{w:World}{e:Bool}{D M E D' M' E':Int}{s s':Bool}{e2:Bool}{G P Q G' P' Q':Int}{g g':Bool}{x y:Sp}{r:Bool}(hM:LQ M)(hM':LQ M')(hP:LQ P)(hP':LQ P')(hx:rkI e D s M E D' s' M' E'=x)(hy:rkI e2 G g P Q G' g' P' Q'=y)(hr:witI x y=r):Calls Tryz.prog 42 #[VI e D s M E D' s' M' E',VI e2 G g P Q G' g' P' Q'] w (PB w r):=by
 delta VI
 have HX:=ie hx;have HY:=ie hy;clear hx hy
 go_enter Tryz.func42,Tryz.ntmps42
 go_upto_region 1 with (fail)
 generalize hW1:(w.alloc _).alloc _=w1 at *;obtain⟨X2,X3,HB⟩:=Bo.en2 hW1;clear hW1;refine jk [0,1,2,3] [some 5,some 6,some 7,some 8,none,none] [[],[0],[],[2],[],[]] 6 2 [Jo.q9 e D s M E D' s' M' E',Jo.Fact.iv x,Jo.q9 e2 G g P Q G' g' P' Q',Jo.Fact.iv y,Jo.Fact.any,Jo.Fact.any] ?_ ?_
 ·refine jm ?_ ?_;rotate_left
  refine jm ?_ ?_
  ·rintro wj hJ _ rfl K hK;simp only[Jo.z]at hK|-;go_simp;exact Jo.v1 (kvOrE hM hM' HX.out) hK.out
  refine jm ?_ ?_;rotate_left
  refine jm ?_ ?_
  ·rintro wj hJ _ rfl K hK;simp only[Jo.z]at hK|-;go_simp;exact Jo.v1 (kvOrE hP hP' HY.out) hK.out
  exact jo
  all_goals (rintro wj hJ;(repeat rintro _ rfl);intro K hK;simp only[Jo.z]at hK|-;have xX2:=(X2.b hJ).cell;have xX3:=(X3.b hJ).cell;go_simp;exact hK.out _ _ rfl (br _ _))
 rintro w2 hJ _ rfl _ ⟨e1,K1,s1,M1,E1,K1b,s1b,M1b,E1b,rfl,v1⟩ _ rfl _ ⟨e6,K6,s6,M6,E6,K6b,s6b,M6b,E6b,rfl,v6⟩ -;simp only[Jo.z];replace X2:=X2.b hJ;replace X3:=X3.b hJ;replace HB:=Hqb HB hJ;have xX2:=X2.cell;have zX20:=X2.frozen
 refine jn 4 fun K hK=>?_
 go_simp;refine hK.out _ _ ?_;clear hK K xX2 zX20;generalize hS:((((((((w2.setCell _ _).setCell _ _).setCell _ _).setCell _ _).setCell _ _).setCell _ _).setCell _ _).setCell _ _).setCell _ _=w3 at *;have SX:=StN.of9 X2 hS;replace X3:=X3.s SX;replace HB:=Hqs HB SX (by omega);replace X2:=SX.box;clear SX hS;have xX3:=X3.cell
 have zX30:=X3.frozen
 refine jn 5 fun K hK=>?_
 go_simp;refine hK.out _ _ ?_;clear hK K xX3 zX30;generalize hS:((((((((w3.setCell _ _).setCell _ _).setCell _ _).setCell _ _).setCell _ _).setCell _ _).setCell _ _).setCell _ _).setCell _ _=w4 at *;have SX:=StN.of9 X3 hS;replace X2:=X2.s SX;replace HB:=Hqs HB SX (by omega);replace X3:=SX.box;clear SX hS;refine jd ?_
 clear HX HY hM hM' hP hP'
 rcases x with _ | ⟨xa,xb⟩
 ·obtain⟨rfl,y1,y1b⟩:=v1
  obtain rfl:true=r:=hr
  obtain⟨_,rfl,rfl,rfl,rfl,rfl,rfl,rfl,rfl⟩:=(show Ci true K1 s1 M1 E1 K1b s1b M1b E1b none from ⟨rfl,y1,y1b⟩).uniq Ci.none
  clear y1 y1b;go_wp2;refine jk [0,1,2,3] [some 10,some 11,some 12,some 9] [[],[],[0,1],[2]] 4 0 [Jo.q9 true 0 false 0 0 0 false 0 0,Jo.q9 true 0 false 0 0 0 false 0 0,Jo.qb true,Jo.qb true] ?_ ?_
  ·refine jm ?_ ?_;rotate_left
   refine jm ?_ ?_
   ·rintro wj hJ K hK;simp only[Jo.z]at hK|-;go_simp;refine(kvNoneE).mono ?_;rintro ee wk ⟨rfl,B⟩;exact hK.out _ _ rfl B
   refine jm ?_ ?_
   ·rintro wj hJ _ rfl _ rfl K hK;simp only[Jo.z]at hK|-;go_simp
    repeat' split
    all_goals exact hK.out _ _ (congrArg Value.bool (by first | rfl | (exfalso;simp_all) | simp_all)) (br _ _)
   refine jm ?_ ?_;rotate_left
   exact jo
   all_goals (rintro wj hJ;(repeat rintro _ rfl);intro K hK;simp only[Jo.z]at hK|-;have xX2:=(X2.b hJ).cell;go_simp;exact hK.out _ _ rfl (br _ _))
  rintro w5 hJ _ rfl _ rfl _ rfl _ rfl -;simp only[Jo.z];replace X2:=X2.b hJ;replace X3:=X3.b hJ;replace HB:=Hqb HB hJ;refine jd ?_;go_wp2
  go_ret
  exact⟨rfl,HB.out⟩
 ·obtain⟨rfl,a1,b1,o1,o1l,o1h⟩:=v1;go_wp2;refine jk [0,1,2,3] [some 10,some 11,some 12,some 9] [[],[],[0,1],[2]] 4 0 [Jo.q9 false K1 s1 M1 E1 K1b s1b M1b E1b,Jo.q9 true 0 false 0 0 0 false 0 0,Jo.qb false,Jo.qb false] ?_ ?_
  ·refine jm ?_ ?_;rotate_left
   refine jm ?_ ?_
   ·rintro wj hJ K hK;simp only[Jo.z]at hK|-;go_simp;refine(kvNoneE).mono ?_;rintro ee wk ⟨rfl,B⟩;exact hK.out _ _ rfl B
   refine jm ?_ ?_
   ·rintro wj hJ _ rfl _ rfl K hK;simp only[Jo.z]at hK|-;go_simp
    repeat' split
    all_goals exact hK.out _ _ (congrArg Value.bool (by first | rfl | (exfalso;simp_all))) (br _ _)
   refine jm ?_ ?_;rotate_left
   exact jo
   all_goals (rintro wj hJ;(repeat rintro _ rfl);intro K hK;simp only[Jo.z]at hK|-;have xX2:=(X2.b hJ).cell;go_simp;exact hK.out _ _ rfl (br _ _))
  rintro w5 hJ _ rfl _ rfl _ rfl _ rfl -;simp only[Jo.z];replace X2:=X2.b hJ;replace X3:=X3.b hJ;replace HB:=Hqb HB hJ;refine jd ?_
  rcases y with _ | ⟨ya,yb⟩
  ·obtain⟨rfl,y6,y6b⟩:=v6
   obtain rfl:false=r:=hr
   obtain⟨_,rfl,rfl,rfl,rfl,rfl,rfl,rfl,rfl⟩:=(show Ci true K6 s6 M6 E6 K6b s6b M6b E6b none from ⟨rfl,y6,y6b⟩).uniq Ci.none
   clear y6 y6b;go_wp2;refine jk [0,1,2,3] [some 14,some 15,some 16,some 13] [[],[],[0,1],[2]] 4 0 [Jo.q9 true 0 false 0 0 0 false 0 0,Jo.q9 true 0 false 0 0 0 false 0 0,Jo.qb true,Jo.qb true] ?_ ?_
   ·refine jm ?_ ?_;rotate_left
    refine jm ?_ ?_
    ·rintro wj hJ K hK;simp only[Jo.z]at hK|-;go_simp;refine(kvNoneE).mono ?_;rintro ee wk ⟨rfl,B⟩;exact hK.out _ _ rfl B
    refine jm ?_ ?_
    ·rintro wj hJ _ rfl _ rfl K hK;simp only[Jo.z]at hK|-;go_simp
     repeat' split
     all_goals exact hK.out _ _ (congrArg Value.bool (by first | rfl | (exfalso;simp_all) | simp_all)) (br _ _)
    refine jm ?_ ?_;rotate_left
    exact jo
    all_goals (rintro wj hJ;(repeat rintro _ rfl);intro K hK;simp only[Jo.z]at hK|-;have xX3:=(X3.b hJ).cell;go_simp;exact hK.out _ _ rfl (br _ _))
   rintro w6 hJ _ rfl _ rfl _ rfl _ rfl -;simp only[Jo.z];replace X2:=X2.b hJ;replace X3:=X3.b hJ;replace HB:=Hqb HB hJ;refine jd ?_;go_wp2
   go_ret
   exact⟨rfl,HB.out⟩
  ·obtain⟨rfl,a6,b6,o6,o6l,o6h⟩:=v6;go_wp2;refine jk [0,1,2,3] [some 14,some 15,some 16,some 13] [[],[],[0,1],[2]] 4 0 [Jo.q9 false K6 s6 M6 E6 K6b s6b M6b E6b,Jo.q9 true 0 false 0 0 0 false 0 0,Jo.qb false,Jo.qb false] ?_ ?_
   ·refine jm ?_ ?_;rotate_left
    refine jm ?_ ?_
    ·rintro wj hJ K hK;simp only[Jo.z]at hK|-;go_simp;refine(kvNoneE).mono ?_;rintro ee wk ⟨rfl,B⟩;exact hK.out _ _ rfl B
    refine jm ?_ ?_
    ·rintro wj hJ _ rfl _ rfl K hK;simp only[Jo.z]at hK|-;go_simp
     repeat' split
     all_goals exact hK.out _ _ (congrArg Value.bool (by first | rfl | (exfalso;simp_all))) (br _ _)
    refine jm ?_ ?_;rotate_left
    exact jo
    all_goals (rintro wj hJ;(repeat rintro _ rfl);intro K hK;simp only[Jo.z]at hK|-;have xX3:=(X3.b hJ).cell;go_simp;exact hK.out _ _ rfl (br _ _))
   rintro w6 hJ _ rfl _ rfl _ rfl _ rfl -;simp only[Jo.z];replace X2:=X2.b hJ;replace X3:=X3.b hJ;replace HB:=Hqb HB hJ;refine jd ?_
   have hr2:(decide (ya<=xa) && decide (xb<=yb))=r:=hr
   clear hr
   cases hk1:decide (ya<=xa)
   ·rw[hk1]at hr2
    obtain rfl:false=r:=hr2
    obtain⟨c1,hc1⟩:∃c,cmpI xa ya=c:=⟨_,rfl⟩;have ht1:=cmp_geE hc1;rw[hk1]at ht1
    have HC1:Hid (cmpI (rk K1 s1 M1 E1) (rk K6 s6 M6 E6)=c1):=ie (by rw[a1.rk,a6.rk];exact hc1)
    clear hc1 hk1;have xX2:=X2.cell;have xX3:=X3.cell
    go_wp2_with fail
    refine(nCmp a1.top a6.top HC1.out).mono ?_;rintro ee w7 ⟨rfl,B⟩;clear xX2 xX3;replace X2:=X2.b B;replace X3:=X3.b B;replace HB:=Hqb HB B;clear B;go_wp2
    go_ret
    exact⟨rfl,HB.out⟩
   ·rw[hk1]at hr2;obtain⟨z,hk3⟩:∃z,decide (xb<=yb)=z:=⟨_,rfl⟩;rw[hk3]at hr2
    obtain rfl:z=r:=hr2
    obtain⟨c1,hc1⟩:∃c,cmpI xa ya=c:=⟨_,rfl⟩;have ht1:=cmp_geE hc1;rw[hk1]at ht1
    have HC1:Hid (cmpI (rk K1 s1 M1 E1) (rk K6 s6 M6 E6)=c1):=ie (by rw[a1.rk,a6.rk];exact hc1)
    clear hc1 hk1;have xX2:=X2.cell;have xX3:=X3.cell
    go_wp2_with fail
    refine(nCmp a1.top a6.top HC1.out).mono ?_;rintro ee w7 ⟨rfl,B⟩;clear xX2 xX3;replace X2:=X2.b B;replace X3:=X3.b B;replace HB:=Hqb HB B;clear B;obtain⟨c3,hc3⟩:∃c,cmpI xb yb=c:=⟨_,rfl⟩;have ht3:=cmp_le hc3;rw[hk3]at ht3
    have HC3:Hid (cmpI (rk K1b s1b M1b E1b) (rk K6b s6b M6b E6b)=c3):=ie (by rw[b1.rk,b6.rk];exact hc3)
    clear hc3 hk3;have xX2:=X2.cell;have xX3:=X3.cell
    go_wp2_with fail
    refine(nCmp b1.top b6.top HC3.out).mono ?_;rintro ee w8 ⟨rfl,B⟩;clear xX2 xX3;replace HB:=Hqb HB B;clear B;go_wp2
    go_ret
    exact⟨by first | rfl | (show Ending.returned (.bool _)=_;rw[ht3]),HB.out⟩
theorem cinv_lo{w:World}{n:Int}(h:n < 2):Calls Tryz.prog 174 #[.int .i64 n] w (W2 w 1000000 0 0):=by
 have t1:decide (n < 2)=true:=dt h
 go_enter Tryz.func174,Tryz.ntmps174
 go_upto_region 1 with (fail)
 generalize hW1:(w.alloc _).alloc _=w1 at *;obtain⟨XR,XS,HB⟩:=Bo.en2 hW1;clear hW1;have xXR:=XR.cell;have zXR0:=XR.frozen;have xXS:=XS.cell;have zXS0:=XS.frozen;go_wp2;clear xXR zXR0 xXS zXS0;generalize hS:(w1.setCell _ _).setCell _ _=w2 at *;have SX:=StN.of2 XR hS;replace XS:=XS.s SX;replace HB:=Hqs HB SX (by omega)
 replace XR:=SX.box;clear SX hS;generalize hS:(w2.setCell _ _).setCell _ _=w3 at *;have SX:=StN.of2 XS hS;replace XR:=XR.s SX;replace HB:=Hqs HB SX (by omega);replace XS:=SX.box;clear SX hS;exact bq (v:= .tuple #[.agg #[.bool false,.slice none 0 0],.agg #[.bool false,.slice none 0 0]]) (by simp[results,Tryz.results174,go_sem,XR.cell,XS.cell]) rfl ⟨_,_,_,_,_,_,_,_,rfl,⟨Nm.zero,rfl⟩,⟨Nm.zero,rfl⟩,Nat.zero_le _,Nat.zero_le _,HB.out⟩
theorem cinv_hi{w:World}{n:Int}(h:1000 < n):Calls Tryz.prog 174 #[.int .i64 n] w (W2 w 1000000 0 0):=by
 have t1:decide (n < 2)=false:=df (by omega)
 have t2:decide (1000 < n)=true:=dt h
 go_enter Tryz.func174,Tryz.ntmps174
 go_upto_region 1 with (fail)
 generalize hW1:(w.alloc _).alloc _=w1 at *;obtain⟨XR,XS,HB⟩:=Bo.en2 hW1;clear hW1;have xXR:=XR.cell;have zXR0:=XR.frozen;have xXS:=XS.cell;have zXS0:=XS.frozen;go_wp2;clear xXR zXR0 xXS zXS0;generalize hS:(w1.setCell _ _).setCell _ _=w2 at *;have SX:=StN.of2 XR hS;replace XS:=XS.s SX;replace HB:=Hqs HB SX (by omega)
 replace XR:=SX.box;clear SX hS;generalize hS:(w2.setCell _ _).setCell _ _=w3 at *;have SX:=StN.of2 XS hS;replace XR:=XR.s SX;replace HB:=Hqs HB SX (by omega);replace XS:=SX.box;clear SX hS;exact bq (v:= .tuple #[.agg #[.bool false,.slice none 0 0],.agg #[.bool false,.slice none 0 0]]) (by simp[results,Tryz.results174,go_sem,XR.cell,XS.cell]) rfl ⟨_,_,_,_,_,_,_,_,rfl,⟨Nm.zero,rfl⟩,⟨Nm.zero,rfl⟩,Nat.zero_le _,Nat.zero_le _,HB.out⟩
theorem cinv_in{w:World}{n:Int}(h1:2<=n)(h2:n<=1000){a b:Int}(hr:invP n=(a,b)):Calls Tryz.prog 174 #[.int .i64 n] w (W2 w 1000000 a b):=by
 have t1:decide (n < 2)=false:=df (by omega)
 have t2:decide (1000 < n)=false:=df (by omega)
 obtain⟨R,hR⟩:∃R,invG n 200 0 0 n=R:=⟨_,rfl⟩
 have hans:R.1-((R.2:Int)+1)=a/\R.1+((R.2:Int)+1)=b:=by
  unfold invP at hr
  rw[if_neg (by omega),hR]at hr
  injection hr with e1 e2
  exact⟨by omega,e2⟩
 have HR:=ie hR;have HA:=ie hans.1;have HBB:=ie hans.2;clear hr hR hans
 go_enter Tryz.func174,Tryz.ntmps174
 go_upto_region 1 with (fail)
 generalize hW1:(w.alloc _).alloc _=w1 at *;obtain⟨XR,XS,HB⟩:=Bo.en2 hW1;clear hW1;have G0:=XS.lt
 go_wp2_with fail
 refine(cTerms h1 h2).mono ?_;rintro ee w2 ⟨gp,go,gb,s6,A6,n6,c6,s7,A7,n7,c7,rfl,XP,XO,XB,p6,p7,k6,k7,hpo,hpb,hob,hg1,hg2,B⟩;replace XR:=XR.b B;replace XS:=XS.b B;replace HB:=Hqb HB B;clear B;clear t1 t2;have hsz:=HB.out.size;have ltXR:=XR.lt;have ltXS:=XS.lt
 go_wp2_with fail
 refine(cAlt XP XO XB p6 p7 k6 k7 hpo hpb hob h1 h2 HR.out).mono ?_;rintro ee w3 ⟨s4,A4,n4,c4,rfl,p4,k4,hk,B⟩;replace XR:=XR.duo B (by omega) (by omega);replace XS:=XS.duo B (by omega) (by omega);replace HB:=ie (B.below HB.out (by omega) (by omega) (by omega));clear B XP XO XB p6 p7 HR;clear hg1 hg2 hpo hpb hob ltXR ltXS hsz G0;obtain⟨R1,R2⟩:=R;simp only at p4 hk HA HBB|-
 go_upto_region 4 with (fail)
 have nX4XR:=XR.lt;have nX4XS:=XS.lt;generalize hWn:w3.alloc _=w4 at *;obtain⟨X4,BW⟩:=Bo.nw hWn;clear hWn;replace XR:=XR.b BW;replace XS:=XS.b BW;replace p4:=p4.b BW;replace HB:=Hqb HB BW;clear BW;have HW1:=iw ((R2:Int)+1);have HW2:=jw ((R2:Int)+1);have hw1:=HW1.out;have hw2:=HW2.out
 go_wp2_with fail
 refine(wFrom ((R2:Int)+1) _ (by omega) (by omega)).mono ?_;rintro ee w5 ⟨s5,A5,n5,c5,rfl,p5,k5,B⟩;replace XR:=XR.b B;replace XS:=XS.b B;replace X4:=X4.b B;replace p4:=p4.b B;replace HB:=Hqb HB B;clear B;clear hw1 hw2 HW1 HW2;have hsz:=HB.out.size
 go_upto_region 5 with (fail)
 have nX6XR:=XR.lt;have nX6XS:=XS.lt;have nX6X4:=X4.lt;generalize hWn:w5.alloc _=w6 at *;obtain⟨X6,BW⟩:=Bo.nw hWn;clear hWn;replace XR:=XR.b BW;replace XS:=XS.b BW;replace X4:=X4.b BW;replace p4:=p4.b BW;replace p5:=p5.b BW;replace HB:=Hqb HB BW;clear BW;have ltXR:=XR.lt;have ltXS:=XS.lt;have ltX4:=X4.lt;have ltX6:=X6.lt
 refine jk [0,1,2,3,4,5] [some 24,some 25,some 26,some 27,some 28,some 29,none,none] [[],[],[0,1],[],[],[3,4],[],[]] 8 2 [Jo.Fact.eq (.agg #[.bool s4,.slice A4 n4 c4]),Jo.Fact.eq (.agg #[.bool s5,.slice A5 n5 c5]),Jo.Fact.wn (a) (1000000),Jo.Fact.eq (.agg #[.bool s4,.slice A4 n4 c4]),Jo.Fact.eq (.agg #[.bool s5,.slice A5 n5 c5]),Jo.Fact.wn (b) (1000000),Jo.Fact.any,Jo.Fact.any] ?_ ?_
 ·iterate 2 (refine jm ?_ ?_;rotate_left)
  refine jm ?_ ?_
  ·rintro wj hJ _ rfl _ rfl K hK;simp only[Jo.z]at hK|-;go_simp;exact Jo.w1 (wSub (p4.b hJ).wr (p5.b hJ).wr (by omega) (by omega) HA.out) hK.out
  iterate 2 (refine jm ?_ ?_;rotate_left)
  refine jm ?_ ?_
  ·rintro wj hJ _ rfl _ rfl K hK;simp only[Jo.z]at hK|-;go_simp;exact Jo.w1 (wAdd (p4.b hJ).wr (p5.b hJ).wr (by omega) (by omega) HBB.out) hK.out
  exact jo
  all_goals (rintro wj hJ;(repeat rintro _ rfl);intro K hK;simp only[Jo.z]at hK|-;have xX4:=(X4.b hJ).cell;have xX6:=(X6.b hJ).cell;go_simp;exact hK.out _ _ rfl (br _ _))
 rintro w9 hJ _ rfl _ rfl _ ⟨s31,A31,n31,c31,rfl,p31,k31⟩ _ rfl _ rfl _ ⟨s33,A33,n33,c33,rfl,p33,k33⟩ -;simp only[Jo.z];replace XR:=XR.b hJ;replace XS:=XS.b hJ;replace HB:=Hqb HB hJ;have xXR:=XR.cell;have zXR0:=XR.frozen
 refine jn 6 fun K hK=>?_
 go_simp;refine hK.out _ _ ?_;clear hK K xXR zXR0;generalize hS:(w9.setCell _ _).setCell _ _=wA at *;have SX:=StN.of2 XR hS;replace XS:=XS.s SX;replace p31:=p31.s SX;replace p33:=p33.s SX;replace HB:=Hqs HB SX (by omega);replace XR:=SX.box;clear SX hS;have xXS:=XS.cell;have zXS0:=XS.frozen
 refine jn 7 fun K hK=>?_
 go_simp;refine hK.out _ _ ?_;clear hK K xXS zXS0;generalize hS:(wA.setCell _ _).setCell _ _=wB at *;have SX:=StN.of2 XS hS;replace XR:=XR.s SX;replace p31:=p31.s SX;replace p33:=p33.s SX;replace HB:=Hqs HB SX (by omega);replace XS:=SX.box;clear SX hS;refine jd ?_;go_wp2;exact bq (v:= .tuple #[.agg #[.bool s31,.slice A31 n31 c31],.agg #[.bool s33,.slice A33 n33 c33]]) (by simp[results,Tryz.results174,go_sem,XR.cell,XS.cell]) rfl ⟨s31,A31,n31,c31,s33,A33,n33,c33,rfl,p31,p33,k31,k33,HB.out⟩
theorem cInv{w:World}{n a b:Int}(hr:invP n=(a,b)):Calls Tryz.prog 174 #[.int .i64 n] w (W2 w 1000000 a b):=by
 by_cases h1:n < 2
 ·unfold invP at hr
  rw[if_pos (.inl h1)]at hr
  injection hr with e1 e2
  subst e1;subst e2;exact cinv_lo h1
 ·by_cases h2:1000 < n
  ·unfold invP at hr
   rw[if_pos (.inr h2)]at hr
   injection hr with e1 e2
   subst e1;subst e2;exact cinv_hi h2
  ·exact cinv_in (by omega) (by omega) hr
theorem cFour{w:World}{A:Option Addr}{n c:Nat}{s:Bool}{x:Int}{B:Option Addr}{m d:Nat}{t:Bool}{y:Int}{r:Int}(h:Wr w s A n c x)(k:Wr w t B m d y)(hn:n<=1000000)(hm:m<=1000000)(hr:16*x-4*y=r):Calls Tryz.prog 175 #[.agg #[.bool s,.slice A n c],.agg #[.bool t,.slice B m d]] w (W1 w 10000000 r):=by
 have HR:=ie hr
 have H1:Hid (prd [16,x]=16*x):=ie (by show 1*16*x=_;rw[Int.one_mul])
 have H2:Hid (prd [4,y]=4*y):=ie (by show 1*4*y=_;rw[Int.one_mul])
 clear hr
 go_enter Tryz.func175,Tryz.ntmps175
 go_upto_region 1 with (fail)
 generalize hW1:((w.alloc _).alloc _).alloc _=w1 at *;obtain⟨X2,X3,XR,HB⟩:=Bo.en3 hW1;replace h:=h.below HB.out;replace k:=k.below HB.out;clear hW1;have ltX2:=X2.lt;have ltX3:=X3.lt;have ltXR:=XR.lt;refine jk [0,1,2,3,4,5,6,7,8] [some 5,some 6,some 7,some 8,some 9,some 10,some 11,some 12,some 13,none] [[],[],[0,1],[2],[],[],[4,5],[6],[3,7],[]] 10 1 [Jo.Fact.wn (16) (2),Jo.Fact.eq (.agg #[.bool s,.slice A n c]),Jo.Fact.wl 1000000 2 [16,x],Jo.Fact.wn (16*x) (2000001),Jo.Fact.wn (4) (2),Jo.Fact.eq (.agg #[.bool t,.slice B m d]),Jo.Fact.wl 1000000 2 [4,y],Jo.Fact.wn (4*y) (2000001),Jo.Fact.wn (r) (10000000),Jo.Fact.any] ?_ ?_
 ·refine jm ?_ ?_
  ·rintro wj hJ K hK;simp only[Jo.z]at hK|-;go_simp;exact Jo.w1 (wFrom 16 _ (by decide) (by decide)) hK.out
  refine jm ?_ ?_;rotate_left
  refine jm ?_ ?_
  ·rintro wj hJ _ ⟨s20,A20,n20,c20,rfl,p20,k20⟩ _ rfl K hK;simp only[Jo.z]at hK|-;go_simp;exact hK.out _ _ ⟨_,_,rfl,Wl.lit2 rfl p20.wr (h.b hJ) (by omega) (by omega)⟩ (bel1 _ _)
  refine jm ?_ ?_
  ·rintro wj hJ _ ⟨A21,c21,rfl,h21⟩ K hK;simp only[Jo.z]at hK|-;go_simp;exact Jo.w1 (wMul h21 (by decide) H1.out) hK.out
  refine jm ?_ ?_
  ·rintro wj hJ K hK;simp only[Jo.z]at hK|-;go_simp;exact Jo.w1 (wFrom 4 _ (by decide) (by decide)) hK.out
  refine jm ?_ ?_;rotate_left
  refine jm ?_ ?_
  ·rintro wj hJ _ ⟨s23,A23,n23,c23,rfl,p23,k23⟩ _ rfl K hK;simp only[Jo.z]at hK|-;go_simp;exact hK.out _ _ ⟨_,_,rfl,Wl.lit2 rfl p23.wr (k.b hJ) (by omega) (by omega)⟩ (bel1 _ _)
  refine jm ?_ ?_
  ·rintro wj hJ _ ⟨A24,c24,rfl,h24⟩ K hK;simp only[Jo.z]at hK|-;go_simp;exact Jo.w1 (wMul h24 (by decide) H2.out) hK.out
  refine jm ?_ ?_
  ·rintro wj hJ _ ⟨s22,A22,n22,c22,rfl,p22,k22⟩ _ ⟨s25,A25,n25,c25,rfl,p25,k25⟩ K hK;simp only[Jo.z]at hK|-;go_simp;exact Jo.w1 (wSub p22.wr p25.wr (by omega) (by omega) HR.out) hK.out
  exact jo
  all_goals (rintro wj hJ;(repeat rintro _ rfl);intro K hK;simp only[Jo.z]at hK|-;have xX2:=(X2.b hJ).cell;have xX3:=(X3.b hJ).cell;go_simp;exact hK.out _ _ rfl (br _ _))
 rintro w2 hJ _ ⟨s20,A20,n20,c20,rfl,p20,k20⟩ _ rfl _ ⟨_,_,rfl,_⟩ _ ⟨s22,A22,n22,c22,rfl,p22,k22⟩ _ ⟨s23,A23,n23,c23,rfl,p23,k23⟩ _ rfl _ ⟨_,_,rfl,_⟩ _ ⟨s25,A25,n25,c25,rfl,p25,k25⟩ _ ⟨s26,A26,n26,c26,rfl,p26,k26⟩ -;simp only[Jo.z];replace XR:=XR.b hJ;replace HB:=Hqb HB hJ;clear h k;have xXR:=XR.cell;have zXR0:=XR.frozen
 refine jn 9 fun K hK=>?_
 go_simp;refine hK.out _ _ ?_;clear hK K xXR zXR0;have SX:=StN.t2 XR s26 A26 n26 c26;replace p26:=p26.s SX;refine jd ?_;go_wp2;exact bq (v:= .agg #[.bool s26,.slice A26 n26 c26]) (by simp[results,Tryz.results175,go_sem,SX.box.cell]) rfl ⟨s26,A26,n26,c26,rfl,p26,k26,(SX.below HB.out (by omega))⟩
theorem cBounds{w:World}:Calls Tryz.prog 103 #[] w (W2 w 7 PLo PHi):=by
 obtain⟨b1,b2⟩:=bounds_are;obtain⟨a,b,h5⟩:∃a b,invP 5=(a,b):=⟨_,_,rfl⟩;obtain⟨c,d,h239⟩:∃a b,invP 239=(a,b):=⟨_,_,rfl⟩;rw[h5,h239]at b1 b2;have H5:=ie h5;have H239:=ie h239
 have HB1:Hid (16*a-4*d=PLo):=ie (by rw[<-b1];omega)
 have HB2:Hid (16*b-4*c=PHi):=ie (by rw[<-b2];omega)
 clear h5 h239 b1 b2
 go_enter Tryz.func103,Tryz.ntmps103
 go_upto_region 1 with (fail)
 generalize hW1:(w.alloc _).alloc _=w1 at *;obtain⟨XR,XS,HB⟩:=Bo.en2 hW1;clear hW1
 go_wp2_with fail
 refine(cInv H5.out).mono ?_;rintro ee w2 ⟨s2,A2,n2,c2,s3,A3,n3,c3,rfl,p2,p3,k2,k3,B⟩;replace XR:=XR.b B;replace XS:=XS.b B;replace HB:=Hqb HB B;clear B;have hsz2:=HB.out.size
 go_upto_region 2 with (fail)
 have e4X3:(World.alloc w2 (.cells #[.bool s2,.slice A2 n2 c2] 27)).heap.size=w2.heap.size+1:=by simp
 have nX2XR:=XR.lt;have nX2XS:=XS.lt;have BX:=bel1 w2 (.cells #[.bool s2,.slice A2 n2 c2] 27);replace XR:=XR.b BX;replace XS:=XS.b BX;replace p2:=p2.b BX;replace p3:=p3.b BX;replace HB:=ie (bt HB.out BX)
 have X2:=Bo.new w2 #[.bool s2,.slice A2 n2 c2] 27;generalize hWn:World.alloc w2 (.cells #[.bool s2,.slice A2 n2 c2] 27)=w3 at *;clear hWn;have nX3XR:=XR.lt;have nX3XS:=XS.lt;have nX3X2:=X2.lt;generalize hWn:w3.alloc _=w4 at *;obtain⟨X3,BW⟩:=Bo.nw hWn;clear hWn;replace XR:=XR.b BW;replace XS:=XS.b BW;replace X2:=X2.b BW;replace p2:=p2.b BW
 replace p3:=p3.b BW;replace HB:=Hqb HB BW;clear BW;rw[e4X3]at X3;clear e4X3
 go_wp2_with fail
 refine(cInv H239.out).mono ?_;rintro ee w5 ⟨s4,A4,n4,c4,s5,A5,n5,c5,rfl,p4,p5,k4,k5,B⟩;replace XR:=XR.b B;replace XS:=XS.b B;replace X2:=X2.b B;replace X3:=X3.b B;replace p2:=p2.b B;replace p3:=p3.b B;replace HB:=Hqb HB B;clear B;have hsz4:=HB.out.size
 go_upto_region 3 with (fail)
 have e4X5:(World.alloc w5 (.cells #[.bool s4,.slice A4 n4 c4] 27)).heap.size=w5.heap.size+1:=by simp
 have nX4XR:=XR.lt;have nX4XS:=XS.lt;have nX4X2:=X2.lt;have nX4X3:=X3.lt;have BX:=bel1 w5 (.cells #[.bool s4,.slice A4 n4 c4] 27);replace XR:=XR.b BX;replace XS:=XS.b BX;replace X2:=X2.b BX;replace X3:=X3.b BX;replace p2:=p2.b BX
 replace p3:=p3.b BX;replace p4:=p4.b BX;replace p5:=p5.b BX;replace HB:=ie (bt HB.out BX);have X4:=Bo.new w5 #[.bool s4,.slice A4 n4 c4] 27;generalize hWn:World.alloc w5 (.cells #[.bool s4,.slice A4 n4 c4] 27)=w6 at *
 clear hWn;have nX5XR:=XR.lt;have nX5XS:=XS.lt;have nX5X2:=X2.lt;have nX5X3:=X3.lt;have nX5X4:=X4.lt;generalize hWn:w6.alloc _=w7 at *;obtain⟨X5,BW⟩:=Bo.nw hWn;clear hWn;replace XR:=XR.b BW;replace XS:=XS.b BW;replace X2:=X2.b BW;replace X3:=X3.b BW;replace X4:=X4.b BW;replace p2:=p2.b BW;replace p3:=p3.b BW;replace p4:=p4.b BW
 replace p5:=p5.b BW;replace HB:=Hqb HB BW;clear BW;rw[e4X5]at X5;clear e4X5;have ltXR:=XR.lt;have ltXS:=XS.lt;have ltX2:=X2.lt;have ltX3:=X3.lt;have ltX4:=X4.lt;have ltX5:=X5.lt;refine jk [0,1,2,3,4,5] [some 14,some 15,some 16,some 17,some 18,some 19,none,none] [[],[],[0,1],[],[],[3,4],[],[]] 8 2 [Jo.Fact.eq (.agg #[.bool s2,.slice A2 n2 c2]),Jo.Fact.eq (.agg #[.bool s5,.slice A5 n5 c5]),Jo.Fact.wn (PLo) (7),Jo.Fact.eq (.agg #[.bool s3,.slice A3 n3 c3]),Jo.Fact.eq (.agg #[.bool s4,.slice A4 n4 c4]),Jo.Fact.wn (PHi) (7),Jo.Fact.any,Jo.Fact.any] ?_ ?_
 ·iterate 2 (refine jm ?_ ?_;rotate_left)
  refine jm ?_ ?_
  ·rintro wj hJ _ rfl _ rfl K hK;simp only[Jo.z]at hK|-;go_simp;refine(cFour (p2.b hJ).wr (p5.b hJ).wr k2 k5 HB1.out).mono ?_;rintro ee wk ⟨s22,A22,n22,c22,rfl,p22,k22,B⟩;exact hK.out _ _ ⟨s22,A22,n22,c22,rfl,p22,p22.fits (by decide)⟩ B
  iterate 2 (refine jm ?_ ?_;rotate_left)
  refine jm ?_ ?_
  ·rintro wj hJ _ rfl _ rfl K hK;simp only[Jo.z]at hK|-;go_simp;refine(cFour (p3.b hJ).wr (p4.b hJ).wr k3 k4 HB2.out).mono ?_;rintro ee wk ⟨s25,A25,n25,c25,rfl,p25,k25,B⟩;exact hK.out _ _ ⟨s25,A25,n25,c25,rfl,p25,p25.fits (by decide)⟩ B
  exact jo
  all_goals (rintro wj hJ;(repeat rintro _ rfl);intro K hK;simp only[Jo.z]at hK|-;have xX2:=(X2.b hJ).cell;have xX5:=(X5.b hJ).cell;have xX3:=(X3.b hJ).cell;have xX4:=(X4.b hJ).cell;go_simp;exact hK.out _ _ rfl (br _ _))
 rintro w8 hJ _ rfl _ rfl _ ⟨s22,A22,n22,c22,rfl,p22,k22⟩ _ rfl _ rfl _ ⟨s25,A25,n25,c25,rfl,p25,k25⟩ -;simp only[Jo.z];replace XR:=XR.b hJ;replace XS:=XS.b hJ;replace HB:=Hqb HB hJ;clear p2 p3 p4 p5;have xXR:=XR.cell;have zXR0:=XR.frozen
 refine jn 6 fun K hK=>?_
 go_simp;refine hK.out _ _ ?_;clear hK K xXR zXR0;generalize hS:(w8.setCell _ _).setCell _ _=w9 at *;have SX:=StN.of2 XR hS;replace XS:=XS.s SX;replace p22:=p22.s SX;replace p25:=p25.s SX;replace HB:=Hqs HB SX (by omega);replace XR:=SX.box;clear SX hS;have xXS:=XS.cell;have zXS0:=XS.frozen
 refine jn 7 fun K hK=>?_
 go_simp;refine hK.out _ _ ?_;clear hK K xXS zXS0;generalize hS:(w9.setCell _ _).setCell _ _=wA at *;have SX:=StN.of2 XS hS;replace XR:=XR.s SX;replace p22:=p22.s SX;replace p25:=p25.s SX;replace HB:=Hqs HB SX (by omega);replace XS:=SX.box;clear SX hS;refine jd ?_;go_wp2;exact bq (v:= .tuple #[.agg #[.bool s22,.slice A22 n22 c22],.agg #[.bool s25,.slice A25 n25 c25]]) (by simp[results,Tryz.results103,go_sem,XR.cell,XS.cell]) rfl ⟨s22,A22,n22,c22,s25,A25,n25,c25,rfl,p22,p25,k22,k25,HB.out⟩
theorem cPart{w:World}{A:Option Addr}{n c:Nat}{s:Bool}{x:Int}{B:Option Addr}{m d:Nat}{t:Bool}{y:Int}{r u:Int}{z:Sp}(hT:Tab w)(h:Wr w s A n c x)(k:Wr w t B m d y)(hn:n<=20)(hm:m<=20)(hr:Rq false x SC r)(hu:Rq true y SC u)(hz:mkI r u=z):Calls Tryz.prog 102 #[.agg #[.bool s,.slice A n c],.agg #[.bool t,.slice B m d]] w (PV w z):=by
 have HR:=ie hr;have HU:=ie hu;have HZ:=ie hz;clear hr hu hz
 go_enter Tryz.func102,Tryz.ntmps102
 go_upto_region 1 with (fail)
 generalize hW1:((w.alloc _).alloc _).alloc _=w1 at *;obtain⟨X2,X3,XR,HB⟩:=Bo.en3 hW1;replace hT:=hT.below HB.out;replace h:=h.below HB.out;replace k:=k.below HB.out;clear hW1;have ltX2:=X2.lt;have ltX3:=X3.lt;have ltXR:=XR.lt;refine jk [0,1,2,3,4,5,6] [some 5,some 6,some 7,some 8,some 9,some 10,some 11,none] [[],[],[0,1],[],[],[3,4],[2,5],[]] 8 1 [Jo.Fact.eq (.agg #[.bool s,.slice A n c]),Jo.Fact.wn (SC) (8),Jo.Fact.num r,Jo.Fact.eq (.agg #[.bool t,.slice B m d]),Jo.Fact.wn (SC) (8),Jo.Fact.num u,Jo.Fact.iv z,Jo.Fact.any] ?_ ?_
 ·refine jm ?_ ?_;rotate_left
  refine jm ?_ ?_
  ·rintro wj hJ K hK;simp only[Jo.z]at hK|-;go_simp;exact Jo.w1 (cScale) hK.out
  refine jm ?_ ?_
  ·rintro wj hJ _ rfl _ ⟨s20,A20,n20,c20,rfl,p20,k20⟩ K hK;simp only[Jo.z]at hK|-;go_simp;exact Jo.n1 (kRatio (hT.b hJ) (h.b hJ) p20.wr hn (by omega) HR.out) hK.out
  refine jm ?_ ?_;rotate_left
  refine jm ?_ ?_
  ·rintro wj hJ K hK;simp only[Jo.z]at hK|-;go_simp;exact Jo.w1 (cScale) hK.out
  refine jm ?_ ?_
  ·rintro wj hJ _ rfl _ ⟨s22,A22,n22,c22,rfl,p22,k22⟩ K hK;simp only[Jo.z]at hK|-;go_simp;exact Jo.n1 (kRatio (hT.b hJ) (k.b hJ) p22.wr hm (by omega) HU.out) hK.out
  refine jm ?_ ?_
  ·rintro wj hJ _ ⟨K21,s21,M21,E21,rfl,q21⟩ _ ⟨K23,s23,M23,E23,rfl,q23⟩ K hK;simp only[Jo.z]at hK|-;go_simp;exact Jo.v1 (kvMake q21.top q23.top q21.rk q23.rk HZ.out) hK.out
  exact jo
  all_goals (rintro wj hJ;(repeat rintro _ rfl);intro K hK;simp only[Jo.z]at hK|-;have xX2:=(X2.b hJ).cell;have xX3:=(X3.b hJ).cell;go_simp;exact hK.out _ _ rfl (br _ _))
 rintro w2 hJ _ rfl _ ⟨s20,A20,n20,c20,rfl,p20,k20⟩ _ ⟨K21,s21,M21,E21,rfl,q21⟩ _ rfl _ ⟨s22,A22,n22,c22,rfl,p22,k22⟩ _ ⟨K23,s23,M23,E23,rfl,q23⟩ _ ⟨e24,K24,s24,M24,E24,K24b,s24b,M24b,E24b,rfl,v24⟩ -;simp only[Jo.z];replace XR:=XR.b hJ;replace HB:=Hqb HB hJ;clear h k hT;have xXR:=XR.cell
 have zXR0:=XR.frozen
 refine jn 7 fun K hK=>?_
 go_simp;refine hK.out _ _ ?_;clear hK K xXR zXR0;have SX:=StN.t9 XR e24 K24 s24 M24 E24 K24b s24b M24b E24b;refine jd ?_;go_wp2;exact bq (by simp[results,Tryz.results102,go_sem,SX.box.cell]) rfl ⟨_,_,_,_,_,_,_,_,_,rfl,v24,(SX.below HB.out (by omega))⟩
theorem cPi{w:World}(hT:Tab w):Calls Tryz.prog 33 #[] w (PV w (some (PIL,PIL+1))):=by
 have HZ:Hid (mkI PIL (PIL+1)=some (PIL,PIL+1)):=ie (mkI_some (by omega) (by decide) (by decide))
 go_enter Tryz.func33,Tryz.ntmps33
 go_upto_region 1 with (fail)
 generalize hW1:w.alloc _=w1 at *;obtain⟨XR,HB⟩:=Bo.en1 hW1;replace hT:=hT.below HB.out;clear hW1
 go_wp2_with fail
 refine(cBounds).mono ?_;rintro ee w2 ⟨s2,A2,n2,c2,s3,A3,n3,c3,rfl,p2,p3,k2,k3,B⟩;replace XR:=XR.b B;replace hT:=hT.b B;replace HB:=Hqb HB B;clear B
 go_wp2_with fail
 refine(cPart hT p2.wr p3.wr (by omega) (by omega) pi_lo pi_hi HZ.out).mono ?_;rintro ee w5 ⟨e4,K4,s4,M4,E4,K4b,s4b,M4b,E4b,rfl,v4,B⟩;replace XR:=XR.b B;replace HB:=Hqb HB B;clear B;clear p2 p3 hT;have xXR:=XR.cell;have zXR0:=XR.frozen;go_wp2;clear xXR zXR0;have SX:=StN.t9 XR e4 K4 s4 M4 E4 K4b s4b M4b E4b
 exact bq (by simp[results,Tryz.results33,go_sem,SX.box.cell]) rfl ⟨_,_,_,_,_,_,_,_,_,rfl,v4,(SX.below HB.out (by omega))⟩
theorem cFix{w:World}{D M E:Int}{s:Bool}{x z:Int}{t:Bool}(hT:Tab w)(h0:0<=M)(hM:LQ M)(hx:rk D s M E=x)(hz:fixI x=z)(ht:fixB x=t):Calls Tryz.prog 157 #[VQ D s M E] w (WB w 140000 z t):=by
 delta VQ
 obtain⟨m,hm⟩:∃m,mxp [x,-x]=m:=⟨_,rfl⟩;obtain⟨σ,hσ⟩:∃σ,cmpI m (opl 1073741824)=σ:=⟨_,rfl⟩;have hc0:=fixB_max ((mxp_opp (hx▸(rk_bd hM).1)).symm.trans hm) hσ;rw[ht]at hc0;have HX:=ie hx;have HZ:=ie hz;have HTT:=ie ht;have HMX:=ie hm;have HC:=ie hσ;have HC0:=ie hc0;clear hx hz ht hm hσ hc0
 go_enter Tryz.func157,Tryz.ntmps157
 go_upto_region 1 with (fail)
 generalize hW1:(w.alloc _).alloc _=w1 at *;obtain⟨X1,XR,HB⟩:=Bo.en2 hW1;replace hT:=hT.below HB.out;clear hW1;have ltX1:=X1.lt;have ltXR:=XR.lt
 cases t
 ·obtain rfl:0=z:=by rw[<-HZ.out,fixI_no HTT.out]
  clear HZ HTT;refine jk [0,1,2,3,4,5,6,7] [some 6,some 7,some 8,some 9,some 10,some 11,some 12,some 13] [[],[],[1],[0,2],[3],[],[4,5],[6]] 8 0 [Jo.q4 D s M E,Jo.q4 D s M E,Jo.Fact.num (-x),Jo.Fact.nl 2 [x,-x],Jo.Fact.num m,Jo.Fact.num (opl 1073741824),Jo.qi σ,Jo.qb true] ?_ ?_
  ·iterate 2 (refine jm ?_ ?_;rotate_left)
   refine jm ?_ ?_
   ·rintro wj hJ _ rfl K hK;simp only[Jo.z]at hK|-;go_simp;exact Jo.n1 (nNeg hM (by rw[HX.out])) hK.out
   refine jm ?_ ?_
   ·rintro wj hJ _ rfl _ ⟨K20,s20,M20,E20,rfl,q20⟩ K hK;simp only[Jo.z]at hK|-;go_simp;exact hK.out _ _ ⟨_,2,rfl,Nl.lit2 rfl hM q20.top HX.out q20.rk⟩ (bel1 _ _)
   refine jm ?_ ?_
   ·rintro wj hJ _ ⟨A25,c25,rfl,h25⟩ K hK;simp only[Jo.z]at hK|-;go_simp;exact Jo.n1 (nMost h25 HMX.out) hK.out
   refine jm ?_ ?_
   ·rintro wj hJ K hK;simp only[Jo.z]at hK|-;go_simp;exact Jo.n1 (nOf _ (by decide) (by decide) rfl) hK.out
   refine jm ?_ ?_
   ·rintro wj hJ _ ⟨K21,s21,M21,E21,rfl,q21⟩ _ ⟨K22,s22,M22,E22,rfl,q22⟩ K hK;simp only[Jo.z]at hK|-;go_simp;refine(nCmp (z:=σ) q21.top q22.top (by rw[q21.rk,q22.rk];exact HC.out)).mono ?_;rintro ee wk ⟨rfl,B⟩;exact hK.out _ _ rfl B
   refine jm ?_ ?_
   ·rintro wj hJ _ rfl K hK;simp only[Jo.z]at hK|-;have hc0:=HC0.out;go_simp
    exact hK.out _ _ (by first | rfl | (show Value.bool _=Value.bool _;rw[hc0];rfl) | simp_all) (br _ _)
   exact jo
   all_goals (rintro wj hJ;(repeat rintro _ rfl);intro K hK;simp only[Jo.z]at hK|-;have xX1:=(X1.b hJ).cell;go_simp;exact hK.out _ _ rfl (br _ _))
  rintro w2 hJ _ rfl _ rfl _ ⟨K20,s20,M20,E20,rfl,_⟩ _ ⟨_,_,rfl,_⟩ _ ⟨K21,s21,M21,E21,rfl,_⟩ _ ⟨K22,s22,M22,E22,rfl,_⟩ _ rfl _ rfl -;simp only[Jo.z];replace X1:=X1.b hJ;replace XR:=XR.b hJ;replace hT:=hT.b hJ;replace HB:=Hqb HB hJ;refine jd ?_;clear HC HC0 HMX;clear hT;have xXR:=XR.cell;have zXR0:=XR.frozen
  go_wp2;clear xXR zXR0;have SX:=StN.t2 XR false none 0 0;exact bq (v:= .tuple #[.agg #[.bool false,.slice none 0 0],.bool false]) (by simp[results,Tryz.results157,go_sem,SX.box.cell]) rfl ⟨_,_,_,_,rfl,⟨Nm.zero,rfl⟩,Nat.zero_le _,(SX.below HB.out (by omega))⟩
 ·obtain⟨N,G,hN,hG,nf,hv,n64,g1,g2⟩:=fix_raw hM HX.out HTT.out;obtain⟨bb,hb⟩:∃b,exb D s M E=b:=⟨_,rfl⟩;obtain⟨P,hP⟩:∃P,(mvs (mk N G) 192).1=P:=⟨_,rfl⟩;obtain⟨Q,hQ⟩:∃P,(mvs (mk N G) 192).2=P:=⟨_,rfl⟩;have hfl:=fix_code nf hv n64 g1 g2 HTT.out hP hQ;rw[HZ.out]at hfl;have HFL:=ie hfl;have HPP:=ie hP;have HQQ:=ie hQ;have HBB:=ie hb
  have HNN:=ie hN;have HGG:=ie hG;clear hfl hP hQ hb hN hG nf hv n64 g1 g2 HZ HTT;refine jk [0,1,2,3,4,5,6,7] [some 6,some 7,some 8,some 9,some 10,some 11,some 12,some 13] [[],[],[1],[0,2],[3],[],[4,5],[6]] 8 0 [Jo.q4 D s M E,Jo.q4 D s M E,Jo.Fact.num (-x),Jo.Fact.nl 2 [x,-x],Jo.Fact.num m,Jo.Fact.num (opl 1073741824),Jo.qi σ,Jo.qb false] ?_ ?_
  ·iterate 2 (refine jm ?_ ?_;rotate_left)
   refine jm ?_ ?_
   ·rintro wj hJ _ rfl K hK;simp only[Jo.z]at hK|-;go_simp;exact Jo.n1 (nNeg hM (by rw[HX.out])) hK.out
   refine jm ?_ ?_
   ·rintro wj hJ _ rfl _ ⟨K20,s20,M20,E20,rfl,q20⟩ K hK;simp only[Jo.z]at hK|-;go_simp;exact hK.out _ _ ⟨_,2,rfl,Nl.lit2 rfl hM q20.top HX.out q20.rk⟩ (bel1 _ _)
   refine jm ?_ ?_
   ·rintro wj hJ _ ⟨A25,c25,rfl,h25⟩ K hK;simp only[Jo.z]at hK|-;go_simp;exact Jo.n1 (nMost h25 HMX.out) hK.out
   refine jm ?_ ?_
   ·rintro wj hJ K hK;simp only[Jo.z]at hK|-;go_simp;exact Jo.n1 (nOf _ (by decide) (by decide) rfl) hK.out
   refine jm ?_ ?_
   ·rintro wj hJ _ ⟨K21,s21,M21,E21,rfl,q21⟩ _ ⟨K22,s22,M22,E22,rfl,q22⟩ K hK;simp only[Jo.z]at hK|-;go_simp;refine(nCmp (z:=σ) q21.top q22.top (by rw[q21.rk,q22.rk];exact HC.out)).mono ?_;rintro ee wk ⟨rfl,B⟩;exact hK.out _ _ rfl B
   refine jm ?_ ?_
   ·rintro wj hJ _ rfl K hK;simp only[Jo.z]at hK|-;have hc0:=HC0.out;go_simp
    exact hK.out _ _ (by first | rfl | (show Value.bool _=Value.bool _;rw[hc0];rfl) | simp_all) (br _ _)
   exact jo
   all_goals (rintro wj hJ;(repeat rintro _ rfl);intro K hK;simp only[Jo.z]at hK|-;have xX1:=(X1.b hJ).cell;go_simp;exact hK.out _ _ rfl (br _ _))
  rintro w2 hJ _ rfl _ rfl _ ⟨K20,s20,M20,E20,rfl,_⟩ _ ⟨_,_,rfl,_⟩ _ ⟨K21,s21,M21,E21,rfl,_⟩ _ ⟨K22,s22,M22,E22,rfl,_⟩ _ rfl _ rfl -;simp only[Jo.z];replace X1:=X1.b hJ;replace XR:=XR.b hJ;replace hT:=hT.b hJ;replace HB:=Hqb HB hJ;refine jd ?_;clear HC HC0 HMX;have xX1:=X1.cell
  go_wp2_with fail
  refine(nExact hT h0 hM HBB.out HNN.out HGG.out).mono ?_;rintro ee w3 ⟨s5,A5,n5,c5,rfl,p5,k5,B⟩;clear xX1;replace XR:=XR.b B;replace hT:=hT.b B;replace HB:=Hqb HB B;clear B
  go_upto_region 4 with (fail)
  have nX5XR:=XR.lt;generalize hWn:w3.alloc _=w4 at *;obtain⟨X5,BW⟩:=Bo.nw hWn;clear hWn;replace XR:=XR.b BW;replace hT:=hT.b BW;replace p5:=p5.b BW;replace HB:=Hqb HB BW;clear BW;clear HBB HNN HGG HX;have xX5:=X5.cell
  go_wp2_with fail
  refine(dMove hT p5.wr (by omega) (by decide) (by decide) HPP.out HQQ.out).mono ?_;rintro ee w5 ⟨s6,A6,n6,c6,rfl,p6,k6,B⟩;clear xX5;replace XR:=XR.b B;replace hT:=hT.b B;replace HB:=Hqb HB B;clear B;clear p5
  go_wp2_with fail
  refine(dFloor hT p6.wr (by omega) HFL.out).mono ?_;rintro ee w6 ⟨s20,A20,n20,c20,rfl,p20,k20,B⟩;replace XR:=XR.b B;replace HB:=Hqb HB B;clear B;clear p6 hT;have xXR:=XR.cell;have zXR0:=XR.frozen;go_wp2;clear xXR zXR0;have SX:=StN.t2 XR s20 A20 n20 c20;replace p20:=p20.s SX;exact bq (v:= .tuple #[.agg #[.bool s20,.slice A20 n20 c20],.bool true]) (by simp[results,Tryz.results157,go_sem,SX.box.cell]) rfl ⟨_,_,_,_,rfl,p20,by omega,(SX.below HB.out (by omega))⟩
def Jo.TFact.wn (x:Int)(K:Nat):Jo.TFact #[.bool false,.slice none 0 0] 27:=⟨fun v w=>∃s1 A1 n1 c1,v= .agg #[.bool s1,.slice A1 n1 c1]/\Wn w s1 A1 n1 c1 x/\n1<=K,fun v w w' h b=>by
 obtain⟨s1,A1,n1,c1,e,p,k⟩:=h
 exact⟨s1,A1,n1,c1,e,p.below b,k⟩,fun v w w' g cs h S=>by
 obtain⟨s1,A1,n1,c1,e,p,k⟩:=h;exact⟨s1,A1,n1,c1,e,p.stn S (by simp[no32]),k⟩⟩
end Go.Proofs.YtomikokonmikgaaGreatDoor
namespace Go.Proofs.YtomikokonmikgaaGreatDoor
open Go Go.RowKit
set_option linter.unusedVariables false
theorem half_turn:(PLo:Rat)<=2*qt*SR/\2*qt*SR<=(PHi:Rat):=by decide +kernel
def qI (x:Int):Int:=(2*x+PLo) / (2*PLo)
def rI (x:Int):Int:=if qI x < 0 then x-qI x*PLo else x-qI x*PHi
def tI (x y:Int):Int:=if qI x < 0 then y-qI x*PHi else y-qI x*PLo
end Go.Proofs.YtomikokonmikgaaGreatDoor
namespace Go.Proofs.YtomikokonmikgaaGreatDoor
open Go.RowKit
set_option linter.unusedVariables false
set_option linter.unusedSimpArgs false
set_option maxRecDepth 100000
def ofX (cos:Bool)(g:Int):Int:=if cos then g+PLo/2 else g
theorem StN.mk6{w:World}{g:Nat}{T:TypeId}{a0 a1 a2 a3 a4 a5:Value}(X:Bo w g #[a0,a1,a2,a3,a4,a5] T)(v0 v1 v2 v3 v4 v5:Value):
  StN w ((((((w.setCell ⟨g,0,none⟩ v0).setCell ⟨g,1,none⟩ v1).setCell ⟨g,2,none⟩ v2).setCell ⟨g,3,none⟩ v3).setCell ⟨g,4,none⟩ v4).setCell ⟨g,5,none⟩ v5) g #[a0,a1,a2,a3,a4,a5] #[v0,v1,v2,v3,v4,v5] T:=by
 have t0:StN w (w.setCell ⟨g,0,none⟩ v0) g #[a0,a1,a2,a3,a4,a5] #[v0,a1,a2,a3,a4,a5] T:=StN.at4 X 0 v0
 have s0:=t0
 have t1:StN (w.setCell ⟨g,0,none⟩ v0) ((w.setCell ⟨g,0,none⟩ v0).setCell ⟨g,1,none⟩ v1) g #[v0,a1,a2,a3,a4,a5] #[v0,v1,a2,a3,a4,a5] T:=StN.at4 s0.box 1 v1
 have s1:=s0.trans t1
 have t2:StN ((w.setCell ⟨g,0,none⟩ v0).setCell ⟨g,1,none⟩ v1) (((w.setCell ⟨g,0,none⟩ v0).setCell ⟨g,1,none⟩ v1).setCell ⟨g,2,none⟩ v2) g #[v0,v1,a2,a3,a4,a5] #[v0,v1,v2,a3,a4,a5] T:=StN.at4 s1.box 2 v2
 have s2:=s1.trans t2
 have t3:StN (((w.setCell ⟨g,0,none⟩ v0).setCell ⟨g,1,none⟩ v1).setCell ⟨g,2,none⟩ v2) ((((w.setCell ⟨g,0,none⟩ v0).setCell ⟨g,1,none⟩ v1).setCell ⟨g,2,none⟩ v2).setCell ⟨g,3,none⟩ v3) g #[v0,v1,v2,a3,a4,a5] #[v0,v1,v2,v3,a4,a5] T:=StN.at4 s2.box 3 v3
 have s3:=s2.trans t3
 have t4:StN ((((w.setCell ⟨g,0,none⟩ v0).setCell ⟨g,1,none⟩ v1).setCell ⟨g,2,none⟩ v2).setCell ⟨g,3,none⟩ v3) (((((w.setCell ⟨g,0,none⟩ v0).setCell ⟨g,1,none⟩ v1).setCell ⟨g,2,none⟩ v2).setCell ⟨g,3,none⟩ v3).setCell ⟨g,4,none⟩ v4) g #[v0,v1,v2,v3,a4,a5] #[v0,v1,v2,v3,v4,a5] T:=StN.at4 s3.box 4 v4
 have s4:=s3.trans t4
 have t5:StN (((((w.setCell ⟨g,0,none⟩ v0).setCell ⟨g,1,none⟩ v1).setCell ⟨g,2,none⟩ v2).setCell ⟨g,3,none⟩ v3).setCell ⟨g,4,none⟩ v4) ((((((w.setCell ⟨g,0,none⟩ v0).setCell ⟨g,1,none⟩ v1).setCell ⟨g,2,none⟩ v2).setCell ⟨g,3,none⟩ v3).setCell ⟨g,4,none⟩ v4).setCell ⟨g,5,none⟩ v5) g #[v0,v1,v2,v3,v4,a5] #[v0,v1,v2,v3,v4,v5] T:=StN.at4 s4.box 5 v5
 have s5:=s4.trans t5;exact s5
theorem StN.mk10{w:World}{g:Nat}{T:TypeId}{a0 a1 a2 a3 a4 a5 a6 a7 a8 a9:Value}(X:Bo w g #[a0,a1,a2,a3,a4,a5,a6,a7,a8,a9] T)(v0 v1 v2 v3 v4 v5 v6 v7 v8 v9:Value):
  StN w ((((((((((w.setCell ⟨g,0,none⟩ v0).setCell ⟨g,1,none⟩ v1).setCell ⟨g,2,none⟩ v2).setCell ⟨g,3,none⟩ v3).setCell ⟨g,4,none⟩ v4).setCell ⟨g,5,none⟩ v5).setCell ⟨g,6,none⟩ v6).setCell ⟨g,7,none⟩ v7).setCell ⟨g,8,none⟩ v8).setCell ⟨g,9,none⟩ v9) g #[a0,a1,a2,a3,a4,a5,a6,a7,a8,a9] #[v0,v1,v2,v3,v4,v5,v6,v7,v8,v9] T:=by
 have t0:StN w (w.setCell ⟨g,0,none⟩ v0) g #[a0,a1,a2,a3,a4,a5,a6,a7,a8,a9] #[v0,a1,a2,a3,a4,a5,a6,a7,a8,a9] T:=StN.at4 X 0 v0
 have s0:=t0
 have t1:StN (w.setCell ⟨g,0,none⟩ v0) ((w.setCell ⟨g,0,none⟩ v0).setCell ⟨g,1,none⟩ v1) g #[v0,a1,a2,a3,a4,a5,a6,a7,a8,a9] #[v0,v1,a2,a3,a4,a5,a6,a7,a8,a9] T:=StN.at4 s0.box 1 v1
 have s1:=s0.trans t1
 have t2:StN ((w.setCell ⟨g,0,none⟩ v0).setCell ⟨g,1,none⟩ v1) (((w.setCell ⟨g,0,none⟩ v0).setCell ⟨g,1,none⟩ v1).setCell ⟨g,2,none⟩ v2) g #[v0,v1,a2,a3,a4,a5,a6,a7,a8,a9] #[v0,v1,v2,a3,a4,a5,a6,a7,a8,a9] T:=StN.at4 s1.box 2 v2
 have s2:=s1.trans t2
 have t3:StN (((w.setCell ⟨g,0,none⟩ v0).setCell ⟨g,1,none⟩ v1).setCell ⟨g,2,none⟩ v2) ((((w.setCell ⟨g,0,none⟩ v0).setCell ⟨g,1,none⟩ v1).setCell ⟨g,2,none⟩ v2).setCell ⟨g,3,none⟩ v3) g #[v0,v1,v2,a3,a4,a5,a6,a7,a8,a9] #[v0,v1,v2,v3,a4,a5,a6,a7,a8,a9] T:=StN.at4 s2.box 3 v3
 have s3:=s2.trans t3
 have t4:StN ((((w.setCell ⟨g,0,none⟩ v0).setCell ⟨g,1,none⟩ v1).setCell ⟨g,2,none⟩ v2).setCell ⟨g,3,none⟩ v3) (((((w.setCell ⟨g,0,none⟩ v0).setCell ⟨g,1,none⟩ v1).setCell ⟨g,2,none⟩ v2).setCell ⟨g,3,none⟩ v3).setCell ⟨g,4,none⟩ v4) g #[v0,v1,v2,v3,a4,a5,a6,a7,a8,a9] #[v0,v1,v2,v3,v4,a5,a6,a7,a8,a9] T:=StN.at4 s3.box 4 v4
 have s4:=s3.trans t4
 have t5:StN (((((w.setCell ⟨g,0,none⟩ v0).setCell ⟨g,1,none⟩ v1).setCell ⟨g,2,none⟩ v2).setCell ⟨g,3,none⟩ v3).setCell ⟨g,4,none⟩ v4) ((((((w.setCell ⟨g,0,none⟩ v0).setCell ⟨g,1,none⟩ v1).setCell ⟨g,2,none⟩ v2).setCell ⟨g,3,none⟩ v3).setCell ⟨g,4,none⟩ v4).setCell ⟨g,5,none⟩ v5) g #[v0,v1,v2,v3,v4,a5,a6,a7,a8,a9] #[v0,v1,v2,v3,v4,v5,a6,a7,a8,a9] T:=StN.at4 s4.box 5 v5
 have s5:=s4.trans t5
 have t6:StN ((((((w.setCell ⟨g,0,none⟩ v0).setCell ⟨g,1,none⟩ v1).setCell ⟨g,2,none⟩ v2).setCell ⟨g,3,none⟩ v3).setCell ⟨g,4,none⟩ v4).setCell ⟨g,5,none⟩ v5) (((((((w.setCell ⟨g,0,none⟩ v0).setCell ⟨g,1,none⟩ v1).setCell ⟨g,2,none⟩ v2).setCell ⟨g,3,none⟩ v3).setCell ⟨g,4,none⟩ v4).setCell ⟨g,5,none⟩ v5).setCell ⟨g,6,none⟩ v6) g #[v0,v1,v2,v3,v4,v5,a6,a7,a8,a9] #[v0,v1,v2,v3,v4,v5,v6,a7,a8,a9] T:=StN.at4 s5.box 6 v6
 have s6:=s5.trans t6
 have t7:StN (((((((w.setCell ⟨g,0,none⟩ v0).setCell ⟨g,1,none⟩ v1).setCell ⟨g,2,none⟩ v2).setCell ⟨g,3,none⟩ v3).setCell ⟨g,4,none⟩ v4).setCell ⟨g,5,none⟩ v5).setCell ⟨g,6,none⟩ v6) ((((((((w.setCell ⟨g,0,none⟩ v0).setCell ⟨g,1,none⟩ v1).setCell ⟨g,2,none⟩ v2).setCell ⟨g,3,none⟩ v3).setCell ⟨g,4,none⟩ v4).setCell ⟨g,5,none⟩ v5).setCell ⟨g,6,none⟩ v6).setCell ⟨g,7,none⟩ v7) g #[v0,v1,v2,v3,v4,v5,v6,a7,a8,a9] #[v0,v1,v2,v3,v4,v5,v6,v7,a8,a9] T:=StN.at4 s6.box 7 v7
 have s7:=s6.trans t7
 have t8:StN ((((((((w.setCell ⟨g,0,none⟩ v0).setCell ⟨g,1,none⟩ v1).setCell ⟨g,2,none⟩ v2).setCell ⟨g,3,none⟩ v3).setCell ⟨g,4,none⟩ v4).setCell ⟨g,5,none⟩ v5).setCell ⟨g,6,none⟩ v6).setCell ⟨g,7,none⟩ v7) (((((((((w.setCell ⟨g,0,none⟩ v0).setCell ⟨g,1,none⟩ v1).setCell ⟨g,2,none⟩ v2).setCell ⟨g,3,none⟩ v3).setCell ⟨g,4,none⟩ v4).setCell ⟨g,5,none⟩ v5).setCell ⟨g,6,none⟩ v6).setCell ⟨g,7,none⟩ v7).setCell ⟨g,8,none⟩ v8) g #[v0,v1,v2,v3,v4,v5,v6,v7,a8,a9] #[v0,v1,v2,v3,v4,v5,v6,v7,v8,a9] T:=StN.at4 s7.box 8 v8
 have s8:=s7.trans t8
 have t9:StN (((((((((w.setCell ⟨g,0,none⟩ v0).setCell ⟨g,1,none⟩ v1).setCell ⟨g,2,none⟩ v2).setCell ⟨g,3,none⟩ v3).setCell ⟨g,4,none⟩ v4).setCell ⟨g,5,none⟩ v5).setCell ⟨g,6,none⟩ v6).setCell ⟨g,7,none⟩ v7).setCell ⟨g,8,none⟩ v8) ((((((((((w.setCell ⟨g,0,none⟩ v0).setCell ⟨g,1,none⟩ v1).setCell ⟨g,2,none⟩ v2).setCell ⟨g,3,none⟩ v3).setCell ⟨g,4,none⟩ v4).setCell ⟨g,5,none⟩ v5).setCell ⟨g,6,none⟩ v6).setCell ⟨g,7,none⟩ v7).setCell ⟨g,8,none⟩ v8).setCell ⟨g,9,none⟩ v9) g #[v0,v1,v2,v3,v4,v5,v6,v7,v8,a9] #[v0,v1,v2,v3,v4,v5,v6,v7,v8,v9] T:=StN.at4 s8.box 9 v9
 have s9:=s8.trans t9;exact s9
theorem StN.of6{w w1:World}{g:Nat}{T:TypeId}{a0 a1 a2 a3 a4 a5 v0 v1 v2 v3 v4 v5:Value}(X:Bo w g #[a0,a1,a2,a3,a4,a5] T)(h:(((((w.setCell ⟨g,0,none⟩ v0).setCell ⟨g,1,none⟩ v1).setCell ⟨g,2,none⟩ v2).setCell ⟨g,3,none⟩ v3).setCell ⟨g,4,none⟩ v4).setCell ⟨g,5,none⟩ v5=w1):StN w w1 g #[a0,a1,a2,a3,a4,a5] #[v0,v1,v2,v3,v4,v5] T:=h▸StN.mk6 X v0 v1 v2 v3 v4 v5
theorem StN.of10{w w1:World}{g:Nat}{T:TypeId}{a0 a1 a2 a3 a4 a5 a6 a7 a8 a9 v0 v1 v2 v3 v4 v5 v6 v7 v8 v9:Value}(X:Bo w g #[a0,a1,a2,a3,a4,a5,a6,a7,a8,a9] T)(h:((((((((((w.setCell ⟨g,0,none⟩ v0).setCell ⟨g,1,none⟩ v1).setCell ⟨g,2,none⟩ v2).setCell ⟨g,3,none⟩ v3).setCell ⟨g,4,none⟩ v4).setCell ⟨g,5,none⟩ v5).setCell ⟨g,6,none⟩ v6).setCell ⟨g,7,none⟩ v7).setCell ⟨g,8,none⟩ v8).setCell ⟨g,9,none⟩ v9)=w1):StN w w1 g #[a0,a1,a2,a3,a4,a5,a6,a7,a8,a9] #[v0,v1,v2,v3,v4,v5,v6,v7,v8,v9] T:=h▸StN.mk10 X v0 v1 v2 v3 v4 v5 v6 v7 v8 v9
end Go.Proofs.YtomikokonmikgaaGreatDoor
namespace Go.Proofs.YtomikokonmikgaaGreatDoor
open Go Go.RowKit
set_option linter.unusedVariables false
def wide (x y:Int):Int × Int:=if qI x%2=0 then (si (rI x) 40-(tI x y-rI x+200),si (rI x) 40+(tI x y-rI x+200))else (-(si (rI x) 40+(tI x y-rI x+200)),-(si (rI x) 40-(tI x y-rI x+200)))
def sinU (x:Int)(z:Rat):Rat:=if qI x%2=0 then sinT ((z-(qI x:Rat)*(2*qt*SR)) /SR)else -sinT ((z-(qI x:Rat)*(2*qt*SR)) /SR)
def TG:List Int:=ptr (2*QH) QK TL
def E6:List Int:=padd TG (psc (QK^82) TL)
theorem e6_small:pabs 2 E6*2^190<=(DD*QK^82).natAbs:=Nat.le_of_ble_eq_true (by decide +kernel)
theorem half_on{x:Rat}(h1: -2<=x)(h2:x<=2): -1<=(sinT (x+2*qt)+sinT x)*2^190/\(sinT (x+2*qt)+sinT x)*2^190<=1:=by
 obtain⟨b1,b2⟩:=pev_bd (B:=2) (x:=x) h1 h2 E6;refine small_of (m:=DD*QK^82) (by decide +kernel) e6_small b1 b2 ?_
 have e:pev TG x=sinT (x+2*qt)*((DD:Int):Rat)*((QK:Int):Rat)^82:=by
  unfold TG
  rw[pev_tr (2*QH) QK (Rat.ne_of_gt qk_pos),tl_len,sin_dd]
  have q:((2*QH:Int):Rat) / ((QK:Int):Rat)=2*qt:=by
   unfold qt
   rw[Rat.intCast_mul,Rat.div_def,Rat.div_def,Rat.mul_assoc]
   rfl
  rw[q]
 unfold E6
 rw[pev_add,pev_sc,e,<-sin_dd,Rat.intCast_mul,Rat.intCast_pow];generalize ((QK:Int):Rat)^82=k;generalize ((DD:Int):Rat)=d;generalize sinT x=s;generalize sinT (x+2*qt)=c
 grind
theorem qt_bd:(157/100:Rat)<=qt/\qt<=158/100:=by decide +kernel
theorem c1:((1:Int):Rat)=1:=rfl
theorem c0:((0:Int):Rat)=0:=rfl
theorem cm:((-1:Int):Rat)= -1:=rfl
def pev2:List (List Int)->Rat->Rat->Rat
 | [],_,_=>0
 | p::P,m,h=>pev p m+h*pev2 P m h
def padd2:List (List Int)->List (List Int)->List (List Int)
 | [],Q=>Q
 | p::P,[]=>p::P
 | p::P,q::Q=>padd p q::padd2 P Q
def psc2 (c:Int):List (List Int)->List (List Int)
 | []=>[]
 | p::P=>psc c p::psc2 c P
def mulM:List (List Int)->List (List Int)
 | []=>[]
 | p::P=>(0::p)::mulM P
def shm:List Int->List (List Int)
 | []=>[]
 | a::q=>padd2 [[a]] (padd2 (mulM (shm q)) ([]::shm q))
def flipH:List (List Int)->List (List Int)
 | []=>[]
 | p::P=>p::psc2 (-1) (flipH P)
def outer:List Int->List Int->List (List Int)
 | [],_=>[]
 | a::p,q=>psc a q::outer p q
def pabs2 (B:Nat):List (List Int)->Nat
 | []=>0
 | p::P=>pabs B p+B*pabs2 B P
theorem pev2_add:∀(P Q:List (List Int)) (m h:Rat),pev2 (padd2 P Q) m h=pev2 P m h+pev2 Q m h
 | [],Q,m,h=>by simp only[padd2,pev2];grind
 | p::P,[],m,h=>by simp only[padd2,pev2];grind
 | p::P,q::Q,m,h=>by
  simp only[padd2,pev2];rw[pev2_add P Q m h,pev_add]
  grind
theorem pev2_sc (c:Int):∀(P:List (List Int)) (m h:Rat),pev2 (psc2 c P) m h=(c:Rat)*pev2 P m h
 | [],m,h=>by simp only[psc2,pev2];grind
 | p::P,m,h=>by
  simp only[psc2,pev2];rw[pev2_sc c P m h,pev_sc]
  grind
theorem pev2_m:∀(P:List (List Int)) (m h:Rat),pev2 (mulM P) m h=m*pev2 P m h
 | [],m,h=>by simp only[mulM,pev2];grind
 | p::P,m,h=>by
  simp only[mulM,pev2,pev];rw[pev2_m P m h,c0]
  grind
theorem pev2_sh:∀(p:List Int) (m h:Rat),pev2 (shm p) m h=pev p (m+h)
 | [],m,h=>by simp only[shm,pev2,pev]
 | a::q,m,h=>by
  simp only[shm];rw[pev2_add,pev2_add,pev2_m];simp only[pev2,pev];rw[pev2_sh q m h]
  grind
theorem pev2_flip:∀(P:List (List Int)) (m h:Rat),pev2 (flipH P) m h=pev2 P m (-h)
 | [],m,h=>by simp only[flipH,pev2]
 | p::P,m,h=>by
  simp only[flipH,pev2];rw[pev2_sc,pev2_flip P m h,cm]
  grind
theorem pev2_outer:∀(p q:List Int) (m h:Rat),pev2 (outer p q) m h=pev p h*pev q m
 | [],q,m,h=>by simp only[outer,pev2,pev];grind
 | a::p,q,m,h=>by
  simp only[outer,pev2,pev];rw[pev2_outer p q m h,pev_sc]
  grind
theorem pev2_bd{B:Nat}{m h:Rat}(m1: -(B:Rat)<=m)(m2:m<=(B:Rat))(h1: -(B:Rat)<=h)(h2:h<=(B:Rat)):∀P:List (List Int),-((pabs2 B P:Nat):Rat)<=pev2 P m h/\pev2 P m h<=((pabs2 B P:Nat):Rat)
 | []=>by simp only[pabs2,pev2];constructor <;> grind
 | p::P=>by
  obtain⟨i1,i2⟩:=pev2_bd m1 m2 h1 h2 P;obtain⟨j1,j2⟩:=mul_bd h1 h2 i1 i2;obtain⟨a1,a2⟩:=pev_bd m1 m2 p;simp only[pabs2,pev2];rw[Rat.natCast_add,Rat.natCast_mul]
  constructor <;> grind
def E7:List (List Int):=padd2 (psc2 DD (padd2 (shm TL) (psc2 (-1) (flipH (shm TL))))) (psc2 (-2) (outer TL (pder TL)))
theorem e7_small:pabs2 2 E7*2^200<=(DD*DD).natAbs:=Nat.le_of_ble_eq_true (by decide +kernel)
theorem sin_diff{m h:Rat}(m1: -2<=m)(m2:m<=2)(h1: -2<=h)(h2:h<=2): -1<=(sinT (m+h)-sinT (m-h)-2*(sinT h*cosT m))*2^200/\(sinT (m+h)-sinT (m-h)-2*(sinT h*cosT m))*2^200<=1:=by
 obtain⟨b1,b2⟩:=pev2_bd (B:=2) (m:=m) (h:=h) m1 m2 h1 h2 E7;refine small_of (m:=DD*DD) (by decide +kernel) e7_small b1 b2 ?_
 have e2:((-2:Int):Rat)= -2:=rfl
 unfold E7
 rw[pev2_add,pev2_sc,pev2_sc,pev2_add,pev2_sc,pev2_flip,pev2_sh,pev2_sh,pev2_outer,<-sin_dd,<-sin_dd,<-sin_dd,<-cos_dd,Rat.intCast_mul,cm,e2,show m+ -h=m-h by grind]
 generalize ((DD:Int):Rat)=d;generalize sinT h=s;generalize cosT m=c;generalize sinT (m+h)=u;generalize sinT (m-h)=v
 grind
theorem tt_step{y:Rat}(y0:0<=y)(y2:y<=2)(k:Nat):∃f:Rat,0<=f/\f<=1/\tt 1 y (k+1)= -(f*tt 1 y k):=by
 have np:(0:Rat) < ((((2*((k:Int)+1))*(2*((k:Int)+1)+1):Int)):Rat):=Rat.intCast_lt_intCast.2 (nk_pos k)
 have n6:(6:Int)<=(2*((k:Int)+1))*(2*((k:Int)+1)+1):=by
  have:=Int.mul_le_mul (show (2:Int)<=2*((k:Int)+1) by omega) (show (3:Int)<=2*((k:Int)+1)+1 by omega) (by decide) (by omega)
  omega
 have n6':(6:Rat)<=((((2*((k:Int)+1))*(2*((k:Int)+1)+1):Int)):Rat):=Rat.intCast_le_intCast.2 n6
 obtain⟨_,s⟩:=mul_bd (b:=2) (a:=2) (x:=y) (e:=y) (by grind) y2 (by grind) y2;have s0:=sq_nn y;simp only[tt];generalize ((((2*((k:Int)+1))*(2*((k:Int)+1)+1):Int)):Rat)=n at *
 have e:y*y/n*n=y*y:=Rat.div_mul_cancel (Rat.ne_of_gt np)
 refine⟨y*y/n,?_,?_,?_⟩
 ·exact Rat.le_of_mul_le_mul_right (c:=n) (by rw[e];grind) np
 ·exact Rat.le_of_mul_le_mul_right (c:=n) (by rw[e];grind) np
 ·rw[Rat.div_def,Rat.div_def]
  grind
theorem ss_nn{y:Rat}(y0:0<=y)(y2:y<=2):∀j:Nat,0<=tt 1 y (2*j)/\tt 1 y (2*j)<=ss 1 y (2*j)
 | 0=>by
  simp only[tt,ss]
  constructor <;> grind
 | j+1=>by
  obtain⟨a,b⟩:=ss_nn y0 y2 j;obtain⟨f,f0,f1,ef⟩:=tt_step y0 y2 (2*j);obtain⟨g,g0,g1,eg⟩:=tt_step y0 y2 (2*j+1);have k1:=Rat.mul_nonneg f0 a;have k2:=Rat.mul_nonneg (a:=1-f) (b:=tt 1 y (2*j)) (by grind) a;have k3:=Rat.mul_nonneg g0 k1
  have e1:tt 1 y (2*(j+1))=g*(f*tt 1 y (2*j)):=by
   show tt 1 y (2*j+1+1)=_
   rw[eg,ef]
   grind
  have e2:ss 1 y (2*(j+1))=ss 1 y (2*j)+tt 1 y (2*j+1)+tt 1 y (2*(j+1)):=rfl
  rw[e2,e1,ef]
  constructor <;> grind
theorem sin_nn{y:Rat}(y0:0<=y)(y2:y<=2):0<=sinT y:=by
 rw[sin_ss];obtain⟨a,b⟩:=ss_nn y0 y2 20;exact Rat.le_trans a b
def Df (B:Rat)(f g:Rat->Rat):Prop:=∃C:Rat,0<=C/\(∀x,-B<=x->x<=B->(-C<=f x/\f x<=C)/\(-C<=g x/\g x<=C))/\
 ∀x h,-B<=x->x<=B-> -B<=x+h->x+h<=B-> -(C*(h*h))<=f (x+h)-f x-h*g x/\f (x+h)-f x-h*g x<=C*(h*h)
theorem wide_c{C D h e:Rat}(hC:C<=D)(h1: -(C*(h*h))<=e)(h2:e<=C*(h*h)): -(D*(h*h))<=e/\e<=D*(h*h):=by
 have:=Rat.mul_le_mul_of_nonneg_right hC (sq_nn h)
 constructor <;> grind
theorem Df.poly (p:List Int)(B:Nat):Df (B:Rat) (pev p) (pev (pder p)):=by
 have n1:(0:Rat)<=((pabs B p:Nat):Rat):=Rat.natCast_nonneg
 have n2:(0:Rat)<=((pabs B (pder p):Nat):Rat):=Rat.natCast_nonneg
 have n3:(0:Rat)<=((pab2 B p:Nat):Rat):=Rat.natCast_nonneg
 refine⟨((pabs B p:Nat):Rat)+((pabs B (pder p):Nat):Rat)+((pab2 B p:Nat):Rat),by grind,fun x x1 x2=>?_,fun x h x1 x2 y1 y2=>?_⟩
 ·obtain⟨a,b⟩:=pev_bd x1 x2 p;obtain⟨c,d⟩:=pev_bd x1 x2 (pder p);refine⟨⟨?_,?_⟩,?_,?_⟩ <;> grind
 ·obtain⟨a,b⟩:=prem_bd x1 x2 y1 y2 p
  unfold prem at a b
  exact wide_c (C:=((pab2 B p:Nat):Rat)) (by grind) (by grind) (by grind)
theorem Df.scale{B:Rat}{f g:Rat->Rat}(c:Rat)(H:Df B f g):Df B (fun x=>f x*c) (fun x=>g x*c):=by
 obtain⟨C,C0,b,l⟩:=H
 obtain⟨k,k1,k2,k3⟩:∃k,-k<=c/\c<=k/\0<=k:=by
  by_cases h:0<=c
  ·exact⟨c,by grind,by grind,h⟩
  ·exact⟨-c,by grind,by grind,by grind⟩
 refine⟨C*k,Rat.mul_nonneg C0 k3,fun x x1 x2=>?_,fun x h x1 x2 y1 y2=>?_⟩
 ·obtain⟨⟨a1,a2⟩,a3,a4⟩:=b x x1 x2;exact⟨mul_bd a1 a2 k1 k2,mul_bd a3 a4 k1 k2⟩
 ·obtain⟨a1,a2⟩:=l x h x1 x2 y1 y2;have m:=mul_bd a1 a2 k1 k2
  constructor <;> grind
theorem Df.sub{B:Rat}{f g f' g':Rat->Rat}(H:Df B f g)(K:Df B f' g'):Df B (fun x=>f x-f' x) (fun x=>g x-g' x):=by
 obtain⟨C,C0,b,l⟩:=H;obtain⟨D,D0,b',l'⟩:=K
 refine⟨C+D,by grind,fun x x1 x2=>?_,fun x h x1 x2 y1 y2=>?_⟩
 ·obtain⟨⟨a1,a2⟩,a3,a4⟩:=b x x1 x2;obtain⟨⟨e1,e2⟩,e3,e4⟩:=b' x x1 x2;refine⟨⟨?_,?_⟩,?_,?_⟩ <;> grind
 ·obtain⟨a1,a2⟩:=l x h x1 x2 y1 y2;obtain⟨e1,e2⟩:=l' x h x1 x2 y1 y2
  constructor <;> grind
theorem Df.id (B:Rat)(hB:0<=B):Df B (fun x=>x) (fun _=>1):=by
 refine⟨B+1,by grind,fun x x1 x2=>?_,fun x h x1 x2 y1 y2=>?_⟩
 ·refine⟨⟨?_,?_⟩,?_,?_⟩ <;> grind
 ·have:=Rat.mul_nonneg (show 0<=B+1 by grind) (sq_nn h)
  constructor <;> grind
theorem Df.mul{B:Rat}{f g f' g':Rat->Rat}(hB:0<=B)(H:Df B f g)(K:Df B f' g'):Df B (fun x=>f x*f' x) (fun x=>g x*f' x+f x*g' x):=by
 obtain⟨C,C0,b,l⟩:=H;obtain⟨D,D0,b',l'⟩:=K;have CD:=Rat.mul_nonneg C0 D0;have CDB:=Rat.mul_nonneg CD hB
 refine⟨C*D*(3+2*B),Rat.mul_nonneg CD (by grind),fun x x1 x2=>?_,fun x h x1 x2 y1 y2=>?_⟩
 ·obtain⟨⟨a1,a2⟩,a3,a4⟩:=b x x1 x2;obtain⟨⟨e1,e2⟩,e3,e4⟩:=b' x x1 x2;have m1:=mul_bd a1 a2 e1 e2;have m2:=mul_bd a3 a4 e1 e2;have m3:=mul_bd a1 a2 e3 e4;refine⟨⟨?_,?_⟩,?_,?_⟩ <;> grind
 ·obtain⟨⟨a1,a2⟩,a3,a4⟩:=b x x1 x2;obtain⟨⟨e1,e2⟩,e3,e4⟩:=b' x x1 x2;obtain⟨⟨u1,u2⟩,_,_⟩:=b' (x+h) y1 y2;obtain⟨r1,r2⟩:=l x h x1 x2 y1 y2;obtain⟨t1,t2⟩:=l' x h x1 x2 y1 y2
  have eq:f (x+h)*f' (x+h)-f x*f' x-h*(g x*f' x+f x*g' x)=f x*(f' (x+h)-f' x-h*g' x)+f' (x+h)*(f (x+h)-f x-h*g x)+h*h*(g x*g' x)+h*g x*(f' (x+h)-f' x-h*g' x):=by grind
  show -(C*D*(3+2*B)*(h*h))<=f (x+h)*f' (x+h)-f x*f' x-h*(g x*f' x+f x*g' x)/\f (x+h)*f' (x+h)-f x*f' x-h*(g x*f' x+f x*g' x)<=C*D*(3+2*B)*(h*h)
  rw[eq];have m1:=mul_bd a1 a2 t1 t2;have m2:=mul_bd u1 u2 r1 r2;have m3:=mul_bd a3 a4 e3 e4;have s:=sq_nn h;have m4:=mul_bd (b:=2*B) (x:=h) (by grind) (by grind) a3 a4;have m5:=mul_bd m4.1 m4.2 t1 t2
  have k1:=Rat.mul_nonneg s (show 0<=C*D-g x*g' x by grind)
  have k2:=Rat.mul_nonneg s (show 0<=C*D+g x*g' x by grind)
  generalize f' (x+h)-f' x-h*g' x=E2 at *;generalize f (x+h)-f x-h*g x=E1 at *;generalize h*h=q at *;generalize g x*g' x=gg at *;generalize h*g x=hg at *;generalize f x*E2=A1 at *;generalize f' (x+h)*E1=A2 at *;generalize hg*E2=A3 at *
  constructor <;> grind
theorem Df.comp{B B':Rat}{f g F G:Rat->Rat}(hB:0<=B)(H:Df B f g)(K:Df B' F G)(hin:∀x,-B<=x->x<=B-> -B'<=f x/\f x<=B'):Df B (fun x=>F (f x)) (fun x=>g x*G (f x)):=by
 obtain⟨C,C0,b,l⟩:=H;obtain⟨D,D0,b',l'⟩:=K;obtain⟨Q,hQ⟩:∃Q,Q=C*(1+2*B):=⟨_,rfl⟩
 have Q0:0<=Q:=by rw[hQ];exact Rat.mul_nonneg C0 (by grind)
 have QQ:=Rat.mul_nonneg D0 (Rat.mul_nonneg Q0 Q0);have CD:=Rat.mul_nonneg C0 D0
 refine⟨D*(Q*Q)+C*D+D,by grind,fun x x1 x2=>?_,fun x h x1 x2 y1 y2=>?_⟩
 ·obtain⟨⟨a1,a2⟩,a3,a4⟩:=b x x1 x2;obtain⟨i1,i2⟩:=hin x x1 x2;obtain⟨⟨e1,e2⟩,e3,e4⟩:=b' (f x) i1 i2;have m2:=mul_bd a3 a4 e3 e4;refine⟨⟨?_,?_⟩,?_,?_⟩ <;> grind
 ·obtain⟨⟨a1,a2⟩,a3,a4⟩:=b x x1 x2;obtain⟨i1,i2⟩:=hin x x1 x2;obtain⟨j1,j2⟩:=hin (x+h) y1 y2;obtain⟨⟨e1,e2⟩,e3,e4⟩:=b' (f x) i1 i2;obtain⟨r1,r2⟩:=l x h x1 x2 y1 y2;obtain⟨k,hk⟩:∃k,f (x+h)=f x+k:=⟨f (x+h)-f x,by grind⟩
  show -((D*(Q*Q)+C*D+D)*(h*h))<=F (f (x+h))-F (f x)-h*(g x*G (f x))/\F (f (x+h))-F (f x)-h*(g x*G (f x))<=(D*(Q*Q)+C*D+D)*(h*h)
  rw[hk]at j1 j2 r1 r2|-;obtain⟨t1,t2⟩:=l' (f x) k i1 i2 j1 j2;have s:=sq_nn h
  -- k is of first order
  have kb:k*k<=Q*Q*(h*h):=by
   have m4:(-(2*B)<=h/\h<=2*B):=⟨by grind,by grind⟩
   have hC:=Rat.mul_nonneg C0 s
   by_cases c:0<=h
   ·have p1:=mul_bd (b:=h) (x:=h) (by grind) (by grind) a3 a4
    have p2:=Rat.mul_nonneg (Rat.mul_nonneg C0 c) (show 0<=2*B-h by grind)
    have q: -(Q*h)<=k/\k<=Q*h:=by
     rw[hQ]
     constructor <;> grind
    have n1:=Rat.mul_nonneg (show 0<=Q*h-k by grind) (show 0<=Q*h+k by grind)
    grind
   ·have c':0<= -h:=by grind
    have p1:=mul_bd (b:= -h) (x:=h) (by grind) (by grind) a3 a4
    have p2:=Rat.mul_nonneg (Rat.mul_nonneg C0 c') (show 0<=2*B+h by grind)
    have q: -(Q* -h)<=k/\k<=Q* -h:=by
     rw[hQ]
     constructor <;> grind
    have n1:=Rat.mul_nonneg (show 0<=Q* -h-k by grind) (show 0<=Q* -h+k by grind)
    grind
  have kd:=Rat.mul_nonneg D0 (show 0<=Q*Q*(h*h)-k*k by grind)
  have eq:F (f x+k)-F (f x)-h*(g x*G (f x))=(F (f x+k)-F (f x)-k*G (f x))+G (f x)*(f x+k-f x-h*g x):=by grind
  rw[eq];have m1:=mul_bd e3 e4 r1 r2;have dh:=Rat.mul_nonneg D0 s;generalize F (f x+k)-F (f x)-k*G (f x)=E at *;generalize G (f x)*(f x+k-f x-h*g x)=W at *;generalize h*h=q at *;generalize k*k=kk at *
  constructor <;> grind
theorem no_room{d K:Rat}(h:∀n:Nat,d*2^n<=K):d<=0:=by
 by_cases c:d<=0
 ·exact c
 ·exfalso
  have d0:0 < d:=Rat.not_le.1 c
  obtain⟨n,hn⟩:∃n:Nat,K/d < (n:Rat):=by
   have a:= @Rat.le_ceil (K/d);refine⟨((K/d).ceil).natAbs+1,?_⟩
   have b:(((K/d).ceil:Int):Rat)<=((((K/d).ceil).natAbs:Int):Rat):=Rat.intCast_le_intCast.2 (by omega)
   have e:(((((K/d).ceil).natAbs+1:Nat)):Rat)=((((K/d).ceil).natAbs:Int):Rat)+1:=by
    rw[Rat.natCast_add]
    rfl
   rw[e]
   grind
  have two:∀m:Nat,(m:Rat)<=2^m:=fun m=>by
   induction m with
   | zero=>exact (by decide:((0:Nat):Rat)<=2^0)
   | succ k ih=>
    have p:(1:Rat)<=2^k:=by
     have:∀j:Nat,(1:Rat)<=2^j:=fun j=>by
      induction j with
      | zero=>exact (by decide:(1:Rat)<=2^0)
      | succ j ij=>rw [Rat.pow_succ];grind
     exact this k
    rw[Rat.natCast_add,Rat.pow_succ]
    have e1:((1:Nat):Rat)=1:=rfl
    rw[e1]
    grind
  have q:=h n;have r:=Rat.mul_le_mul_of_nonneg_right (two n) (Rat.le_of_lt d0)
  have s:K < (n:Rat)*d:=by
   have m:=Rat.mul_lt_mul_of_pos_right hn d0;rw[Rat.div_mul_cancel (Rat.ne_of_gt d0)]at m;exact m
  grind
theorem Df.grow{B M:Rat}{f g:Rat->Rat}(H:Df B f g)(hg:∀x,-B<=x->x<=B-> -M<=g x/\g x<=M){x h:Rat}(h0:0<=h)(x1: -B<=x)(x2:x+h<=B): -(M*h)<=f (x+h)-f x/\f (x+h)-f x<=M*h:=by
 obtain⟨C,C0,_,l⟩:=H
 have key:∀n:Nat,∀x h:Rat,0<=h-> -B<=x->x+h<=B->(f (x+h)-f x-M*h)*2^n<=C*(h*h)/\(-(f (x+h)-f x)-M*h)*2^n<=C*(h*h):=fun n=>by
  induction n with
  | zero=>
   intro x h h0 x1 x2
   obtain⟨a,b⟩:=l x h x1 (by grind) (by grind) x2;obtain⟨c,d⟩:=hg x x1 (by grind)
   have m1:=Rat.mul_nonneg h0 (show 0<=M-g x by grind)
   have m2:=Rat.mul_nonneg h0 (show 0<=M+g x by grind)
   rw[Rat.pow_zero]
   constructor <;> grind
  | succ n ih=>
   intro x h h0 x1 x2
   have e:x+h/2+h/2=x+h:=by grind
   obtain⟨a1,a2⟩:=ih x (h/2) (by grind) x1 (by grind);obtain⟨b1,b2⟩:=ih (x+h/2) (h/2) (by grind) (by grind) (by grind);rw[e]at b1 b2;rw[Rat.pow_succ];generalize (2:Rat)^n=p at *;generalize f (x+h/2)=fm at *;generalize f (x+h)=fy at *;generalize f x=fx at *
   constructor <;> grind
 constructor
 ·have:=no_room (fun n=>(key n x h h0 x1 x2).2)
  grind
 ·have:=no_room (fun n=>(key n x h h0 x1 x2).1)
  grind
def E8:List Int:=padd TH (psc (-(QK^82)) (pder TL))
theorem e8_small:pabs 2 E8*2^200<=(DD*QK^82).natAbs:=Nat.le_of_ble_eq_true (by decide +kernel)
theorem cos_sin{x:Rat}(h1: -2<=x)(h2:x<=2): -1<=(sinT (x+qt)-cosT x)*2^200/\(sinT (x+qt)-cosT x)*2^200<=1:=by
 obtain⟨b1,b2⟩:=pev_bd (B:=2) (x:=x) h1 h2 E8;refine small_of (m:=DD*QK^82) (by decide +kernel) e8_small b1 b2 ?_
 unfold E8
 rw[pev_add,pev_sc,th_at,<-cos_dd,Rat.intCast_neg,Rat.intCast_mul,Rat.intCast_pow];generalize ((QK:Int):Rat)^82=k;generalize ((DD:Int):Rat)=d;generalize cosT x=s;generalize sinT (x+qt)=c
 grind
theorem pw (n:Nat):(0:Rat) < 2^n:=Rat.pow_pos (by decide)
theorem tiny_lo{v:Rat}{n:Nat}(h: -1<=v*2^n): -(1/2^n)<=v:=by
 have e:(1/2^n:Rat)*2^n=1:=Rat.div_mul_cancel (Rat.ne_of_gt (pw n))
 exact Rat.le_of_mul_le_mul_right (c:=2^n) (by grind) (pw n)
theorem tiny_hi{v:Rat}{n:Nat}(h:v*2^n<=1):v<=1/2^n:=by
 have e:(1/2^n:Rat)*2^n=1:=Rat.div_mul_cancel (Rat.ne_of_gt (pw n))
 exact Rat.le_of_mul_le_mul_right (c:=2^n) (by grind) (pw n)
theorem sin_bd{x:Rat}(h1: -2<=x)(h2:x<=2): -(1+1/2^240)<=sinT x/\sinT x<=1+1/2^240:=by
 obtain⟨_,b⟩:=circle h1 h2;have c:=tiny_hi b;have s:=sq_nn (sinT (x+qt));refine abs_of_sq (by decide +kernel) (by grind)
theorem sin_nn2{w:Rat}(h1:0<=w)(h2:w<=2*qt): -(1/2^190)<=sinT w:=by
 obtain⟨q1,q2⟩:=qt_bd
 by_cases c:w<=2
 ·have:=sin_nn h1 c
  have p:(0:Rat)<=1/2^190:=by decide +kernel
  grind
 ·have c':=Rat.not_le.1 c
  obtain⟨a,b⟩:=half_on (x:=w-2*qt) (by grind) (by grind);have n:=sin_nn (y:= -(w-2*qt)) (by grind) (by grind);rw[sin_neg]at n
  rw[show w-2*qt+2*qt=w by grind]at a
  have:=tiny_lo a
  grind
theorem cos_nn{m:Rat}(h1: -qt<=m)(h2:m<=qt): -(1/2^189)<=cosT m:=by
 obtain⟨q1,q2⟩:=qt_bd;have a:=sin_nn2 (w:=m+qt) (by grind) (by grind);obtain⟨_,b⟩:=cos_sin (x:=m) (by grind) (by grind);have c:=tiny_hi b
 have e:(1/2^190:Rat)+1/2^200<=1/2^189:=by decide +kernel
 grind
theorem sin_mono{a b:Rat}(h1: -qt<=a)(h2:a<=b)(h3:b<=qt): -(1/2^186)<=sinT b-sinT a:=by
 obtain⟨q1,q2⟩:=qt_bd;obtain⟨m,hm⟩:∃m,m=(a+b) /2:=⟨_,rfl⟩;obtain⟨h,hh⟩:∃h,h=(b-a) /2:=⟨_,rfl⟩
 have e1:m*2=a+b:=by rw[hm];exact Rat.div_mul_cancel (by decide)
 have e2:h*2=b-a:=by rw[hh];exact Rat.div_mul_cancel (by decide)
 obtain⟨d,_⟩:=sin_diff (m:=m) (h:=h) (by grind) (by grind) (by grind) (by grind)
 have d':=tiny_lo d
 rw[show m+h=b by grind,show m-h=a by grind]at d'
 have c:=cos_nn (m:=m) (by grind) (by grind);have n:=sin_nn (y:=h) (by grind) (by grind);obtain⟨_,n2⟩:=sin_bd (x:=h) (by grind) (by grind);have k:=Rat.mul_nonneg n (b:=cosT m+1/2^189) (by grind)
 have p1:(0:Rat)<=1/2^189:=by decide +kernel
 have k2:=Rat.mul_le_mul_of_nonneg_right n2 p1
 have e:2*((1+1/2^240)*(1/2^189):Rat)+1/2^200<=1/2^186:=by decide +kernel
 generalize (1/2^189:Rat)=u at *;generalize (1/2^240:Rat)=v at *;generalize (1/2^200:Rat)=t at *;generalize (1/2^186:Rat)=r at *
 grind
abbrev LL:Int:=556007400341776889366619349950871382564337615372407628299115012691690451646897885188557125
def an:Nat->Nat->List Int
 | 0,_=>[]
 | f+1,j=>0::(if j%2=0 then LL/ (2*j+1)else -(LL/ (2*j+1)))::an f (j+1)
def AL:List Int:=an 111 0
def atT (u:Rat):Rat:=pev AL u*(1/ (LL:Int))
def atD (u:Rat):Rat:=pev (pder AL) u*(1/ (LL:Int))
def zer:Nat->Int->List Int
 | 0,c=>[c]
 | n+1,c=>0::zer n c
theorem pev_zer (c:Int)(u:Rat):∀n,pev (zer n c) u=u^n*(c:Rat)
 | 0=>by simp only[zer,pev];rw[Rat.pow_zero];grind
 | n+1=>by
  simp only[zer,pev];rw[pev_zer c u n,Rat.pow_succ,Rat.intCast_zero]
  grind
theorem al_der:padd (pmul [1,0,1] (pder AL)) [-LL]=padd (zer 222 LL) (zer 223 0):=by decide +kernel
theorem ll_pos:(0:Rat) < ((LL:Int):Rat):=by
 have h:(0:Int) < LL:=by decide
 exact Rat.intCast_lt_intCast.2 h
theorem at_slope (u:Rat):(1+u*u)*atD u=1+u^222:=by
 have h:=congrArg (fun p=>pev p u) al_der
 have h':pev (padd (pmul [1,0,1] (pder AL)) [-LL]) u=pev (padd (zer 222 LL) (zer 223 0)) u:=h
 rw[pev_add,pev_mul,pev_add,pev_zer,pev_zer,Rat.intCast_zero,Rat.mul_zero,Rat.add_zero]at h'
 have e1:pev [1,0,1] u=1+u*u:=by
  simp only[pev]
  rw[Rat.intCast_zero,show ((1:Int):Rat)=1 from rfl]
  grind
 have e2:pev [-LL] u= -((LL:Int):Rat):=by
  simp only[pev];rw[Rat.intCast_neg]
  grind
 rw[e1,e2]at h'
 have e3:(1/ ((LL:Int):Rat))*((LL:Int):Rat)=1:=Rat.div_mul_cancel (Rat.ne_of_gt ll_pos)
 have p:=ll_pos
 unfold atD
 generalize pev (pder AL) u=d at *;generalize ((LL:Int):Rat)=l at *;generalize (1/l:Rat)=i at *;generalize u^222=q at *
 have k:((1+u*u)*(d*i)-(1+q))*l=0:=by grind
 rcases Rat.mul_eq_zero.1 k with g | g
 ·grind
 ·exact absurd g (Rat.ne_of_gt p)
theorem pow_bd{v:Rat}(h0:0<=v)(h1:v<=1/4):∀n:Nat,0<=v^n/\v^n<=(1/4)^n
 | 0=>by rw[Rat.pow_zero,Rat.pow_zero];constructor <;> grind
 | n+1=>by
  obtain⟨a,b⟩:=pow_bd h0 h1 n;rw[Rat.pow_succ,Rat.pow_succ];have m1:=Rat.mul_nonneg a h0;have m2:=Rat.mul_le_mul_of_nonneg_right b h0
  have c:(0:Rat)<=(1/4)^n:=Rat.le_trans a b
  have m3:=Rat.mul_nonneg c (show 0<=1/4-v by grind)
  constructor <;> grind
theorem pow_two (u:Rat):∀n:Nat,u^(2*n)=(u*u)^n
 | 0=>by rw[Nat.mul_zero,Rat.pow_zero,Rat.pow_zero]
 | n+1=>by
  rw[show 2*(n+1)=2*n+1+1 by omega,Rat.pow_succ,Rat.pow_succ,Rat.pow_succ,pow_two u n]
  grind
theorem quart_eq:((1:Rat) /4)^111<=1/2^222:=by decide +kernel
theorem pow_222{u:Rat}(h1: -(1/2)<=u)(h2:u<=1/2):0<=u^222/\u^222<=1/2^222:=by
 have s:0<=u*u:=sq_nn u
 have t:u*u<=1/4:=by
  have:=Rat.mul_nonneg (show 0<=1/2-u by grind) (show 0<=1/2+u by grind)
  grind
 have e:u^222=(u*u)^111:=pow_two u 111
 rw[e];obtain⟨a,b⟩:=pow_bd s t 111;exact⟨a,Rat.le_trans b quart_eq⟩
theorem Df.le{B B':Rat}{f g:Rat->Rat}(H:Df B f g)(h:B'<=B):Df B' f g:=by
 obtain⟨C,C0,b,l⟩:=H
 exact⟨C,C0,fun x x1 x2=>b x (by grind) (by grind),fun x y x1 x2 y1 y2=>l x y (by grind) (by grind) (by grind) (by grind)⟩
theorem at_df:Df (1/2) atT atD:=by
 have h:=(Df.poly AL 1).scale (1/ (LL:Int))
 have e:((1:Nat):Rat)=1:=rfl
 rw[e]at h;exact h.le (by grind)
theorem at_zero:atT 0=0:=by
 have e:pev AL 0=0:=by
  show pev (an 111 0) 0=0
  unfold an
  simp only[pev];rw[Rat.intCast_zero]
  grind
 unfold atT
 rw[e]
 grind
theorem atD_bd{u:Rat}(h1: -(1/2)<=u)(h2:u<=1/2):0<=atD u/\atD u<=1+1/2^222:=by
 have e:=at_slope u;obtain⟨a,b⟩:=pow_222 h1 h2;have s:=sq_nn u;generalize u^222=q at *;generalize (1/2^222:Rat)=t at *;generalize atD u=d at *
 have d0:0<=d:=by
  by_cases c:0<=d
  ·exact c
  ·exfalso
   have:=Rat.mul_nonneg s (show 0<= -d by grind)
   grind
 have m:=Rat.mul_nonneg s d0
 constructor <;> grind
theorem at_bd{u:Rat}(h1: -(1/2)<=u)(h2:u<=1/2): -(2/3)<=atT u/\atT u<=2/3:=by
 have g:=fun x (x1: -(1/2:Rat)<=x) (x2:x<=1/2)=>(show -(4/3)<=atD x/\atD x<=4/3 by
  obtain⟨a,b⟩:=atD_bd x1 x2
  have e:(1/2^222:Rat)<=1/3:=by decide +kernel
  generalize (1/2^222:Rat)=t at *
  constructor <;> grind)
 have z:=at_zero
 by_cases c:0<=u
 ·have k:=at_df.grow g (x:=0) (h:=u) c (by grind) (by grind)
  rw[show (0:Rat)+u=u by grind,z]at k
  constructor <;> grind
 ·have k:=at_df.grow g (x:=u) (h:= -u) (by grind) (by grind) (by grind)
  rw[show u+ -u=0 by grind,z]at k
  constructor <;> grind
def c2T (x:Rat):Rat:=pev (pder (pder TL)) x*(1/ (DD:Int))
theorem e9_small:pabs 2 (padd (pder (pder TL)) TL)*2^280<=DD.natAbs:=Nat.le_of_ble_eq_true (by decide +kernel)
theorem sin_df:Df 2 sinT cosT:=by
 have h:=(Df.poly TL 2).scale (1/ (DD:Int))
 have e:((2:Nat):Rat)=2:=rfl
 rw[e]at h
 have f1:(fun x=>pev TL x*(1/ ((DD:Int):Rat)))=sinT:=by
  funext x
  unfold sinT
  grind
 have f2:(fun x=>pev (pder TL) x*(1/ ((DD:Int):Rat)))=cosT:=by
  funext x
  unfold cosT
  grind
 rw[f1,f2]at h;exact h
theorem cos_df:Df 2 cosT c2T:=by
 have h:=(Df.poly (pder TL) 2).scale (1/ (DD:Int))
 have e:((2:Nat):Rat)=2:=rfl
 rw[e]at h
 have f2:(fun x=>pev (pder TL) x*(1/ ((DD:Int):Rat)))=cosT:=by
  funext x
  unfold cosT
  grind
 rw[f2]at h;exact h
theorem c2_near{x:Rat}(h1: -2<=x)(h2:x<=2): -1<=(c2T x+sinT x)*2^280/\(c2T x+sinT x)*2^280<=1:=by
 have e2:((2:Nat):Rat)=2:=rfl
 obtain⟨a,b⟩:=pev_bd (B:=2) (x:=x) (by rw[e2];exact h1) (by rw[e2];exact h2) (padd (pder (pder TL)) TL);refine small_of (n:=pabs 2 (padd (pder (pder TL)) TL)) (m:=DD) (by decide) e9_small a b ?_;rw[pev_add];have s:=sin_dd x
 have c:(1/ ((DD:Int):Rat))*((DD:Int):Rat)=1:=Rat.div_mul_cancel (Rat.ne_of_gt dd_pos)
 unfold c2T
 generalize (1/ ((DD:Int):Rat))=i at *;generalize ((DD:Int):Rat)=d at *
 grind
def fz (u:Rat):Rat:=sinT (atT u)-u*cosT (atT u)
def gz (u:Rat):Rat:=atD u*cosT (atT u)-(1*cosT (atT u)+u*(atD u*c2T (atT u)))
theorem at_in{x:Rat}(x1: -(1/2)<=x)(x2:x<=1/2): -2<=atT x/\atT x<=2:=by
 obtain⟨a,b⟩:=at_bd x1 x2
 constructor <;> grind
theorem fz_df:Df (1/2) fz gz:=by
 have s:=Df.comp (B:=1/2) (B':=2) (by grind) at_df sin_df (fun x x1 x2=>at_in x1 x2)
 have c:=Df.comp (B:=1/2) (B':=2) (by grind) at_df cos_df (fun x x1 x2=>at_in x1 x2)
 have m:=Df.mul (B:=1/2) (by grind) (Df.id (1/2) (by grind)) c;exact s.sub m
theorem cosT_bd{x:Rat}(h1: -2<=x)(h2:x<=2): -(1+1/2^200)<=cosT x/\cosT x<=1+1/2^200:=by
 obtain⟨a,b⟩:=circleD h1 h2;have c:=tiny_hi b;have s:=sq_nn (sinT x);refine abs_of_sq (by decide +kernel) (by grind)
theorem eps_13:(1/2^222:Rat)*2+1/2^280*2+(1/2^222:Rat)<=1/2^220/\(1/2^200:Rat)<=1/3/\(1/2^240:Rat)<=1/3/\(0:Rat)<=1/2^220/\(0:Rat)<=1/2^280/\(0:Rat)<=1/2^222/\(1/2^222:Rat)<=1/4:=by decide +kernel
theorem gz_bd{u M:Rat}(u1: -(1/2)<=u)(u2:u<=1/2)(f1: -M<=fz u)(f2:fz u<=M): -(M/2+1/2^220)<=gz u/\gz u<=M/2+1/2^220:=by
 have sl:=at_slope u;obtain⟨q1,q2⟩:=pow_222 u1 u2;obtain⟨a1,a2⟩:=at_in u1 u2;obtain⟨t1,t2⟩:=c2_near a1 a2
 have t1':=tiny_lo t1
 have t2':=tiny_hi t2
 obtain⟨b1,b2⟩:=cosT_bd a1 a2;obtain⟨s1,s2⟩:=sin_bd a1 a2;obtain⟨e1,e2,e3,e4,e5,e6,e7⟩:=eps_13
 unfold fz at f1 f2
 unfold gz
 generalize atT u=A at *;generalize atD u=p at *;generalize u^222=q at *;obtain⟨τ,hτ⟩:∃τ,τ=c2T A+sinT A:=⟨_,rfl⟩
 have hc:c2T A=τ-sinT A:=by grind
 rw[<-hτ]at t1' t2';rw[hc];generalize sinT A=s at *;generalize cosT A=c at *;clear t1 t2 hτ hc;generalize (1/2^222:Rat)=d at *;generalize (1/2^280:Rat)=e at *;generalize (1/2^220:Rat)=g at *;generalize (1/2^200:Rat)=v at *;generalize (1/2^240:Rat)=z at *
 -- (1+u u) times the slope
 obtain⟨G,hG⟩:∃G,G=p*c-(1*c+u*(p*(τ-s))):=⟨_,rfl⟩;rw[<-hG]
 have key:(1+u*u)*G=u*(s-u*c)+(q*(c+u*s)-u*(1+q)*τ):=by
  rw[hG]
  have:(1+u*u)*(p*c-(1*c+u*(p*(τ-s))))=((1+u*u)*p)*c-(1+u*u)*c-u*((1+u*u)*p)*(τ-s):=by grind
  rw[this,sl]
  grind
 have M0:0<=M:=by grind
 have m1:=mul_bd u1 u2 f1 f2
 have cs: -2<=c+u*s/\c+u*s<=2:=by
  have:=mul_bd u1 u2 s1 s2
  constructor <;> grind
 have m2:=mul_bd (b:=d) (x:=q) (by grind) q2 cs.1 cs.2;have m3:=mul_bd (b:=1/2) (x:=u) (a:=5/4) (e:=1+q) u1 u2 (by grind) (by grind);have m4:=mul_bd m3.1 m3.2 t1' t2'
 have bd: -(M/2+g)<=(1+u*u)*G/\(1+u*u)*G<=M/2+g:=by
  rw[key];generalize u*(s-u*c)=W1 at *;generalize q*(c+u*s)=W2 at *;generalize u*(1+q)*τ=W3 at *
  constructor <;> grind
 have uu:=sq_nn u
 constructor
 ·by_cases c0:0<=G
  ·grind
  ·have:=Rat.mul_nonneg uu (show 0<= -G by grind)
   grind
 ·by_cases c0:0<=G
  ·have:=Rat.mul_nonneg uu c0
   grind
  ·grind
theorem sin_zero:sinT 0=0:=by
 have h:=sin_neg 0
 rw[show (-0:Rat)=0 from by decide]at h
 grind
theorem fz_zero:fz 0=0:=by
 unfold fz
 rw[at_zero,sin_zero]
 grind
theorem slope_small{u:Rat}(u1: -(1/2)<=u)(u2:u<=1/2): -(1/2^220)<=sinT (atT u)-u*cosT (atT u)/\sinT (atT u)-u*cosT (atT u)<=1/2^220:=by
 obtain⟨e1,e2,e3,e4,e5,e6,e7⟩:=eps_13
 have key:∀n:Nat,∀x:Rat,-(1/2)<=x->x<=1/2->(fz x-1/2^220)*2^n<=2/\(-fz x-1/2^220)*2^n<=2:=fun n=>by
  induction n with
  | zero=>
   intro x x1 x2
   obtain⟨a1,a2⟩:=at_in x1 x2;obtain⟨b1,b2⟩:=cosT_bd a1 a2;obtain⟨s1,s2⟩:=sin_bd a1 a2;have m:=mul_bd x1 x2 b1 b2;generalize (1/2^220:Rat)=g at *;rw[Rat.pow_zero]
   unfold fz
   generalize (1/2^200:Rat)=v at *;generalize (1/2^240:Rat)=z at *
   constructor <;> grind
  | succ n ih=>
   intro x x1 x2
   -- all are bounded by M
   obtain⟨M,hM⟩:∃M:Rat,(M-1/2^220)*2^n=2:=by
    refine⟨2/2^n+1/2^220,?_⟩
    have:=Rat.div_mul_cancel (a:=2) (Rat.ne_of_gt (pw n))
    generalize (2:Rat) /2^n=t at *
    grind
   have pn:=pw n
   have fb:∀y:Rat,-(1/2)<=y->y<=1/2-> -M<=fz y/\fz y<=M:=fun y y1 y2=>by
    obtain⟨k1,k2⟩:=ih y y1 y2
    have h1:fz y-1/2^220<=M-1/2^220:=Rat.le_of_mul_le_mul_right (c:=2^n) (by rw[hM];exact k1) pn
    have h2: -fz y-1/2^220<=M-1/2^220:=Rat.le_of_mul_le_mul_right (c:=2^n) (by rw[hM];exact k2) pn
    generalize (1/2^220:Rat)=g at *
    constructor <;> grind
   have gb:∀y:Rat,-(1/2)<=y->y<=1/2-> -(M/2+1/2^220)<=gz y/\gz y<=M/2+1/2^220:=fun y y1 y2=>gz_bd y1 y2 (fb y y1 y2).1 (fb y y1 y2).2
   have z:=fz_zero
   have M0:0<=M:=by
    have:=fb x x1 x2
    grind
   have r: -(M/4+1/2^220/2)<=fz x/\fz x<=M/4+1/2^220/2:=by
    by_cases c:0<=x
    ·have k:=fz_df.grow gb (x:=0) (h:=x) c (by grind) (by grind)
     rw[show (0:Rat)+x=x by grind,z]at k
     have m:=Rat.mul_nonneg (show 0<=M/2+1/2^220 by grind) (show 0<=1/2-x by grind)
     generalize (1/2^220:Rat)=g at *
     constructor <;> grind
    ·have k:=fz_df.grow gb (x:=x) (h:= -x) (by grind) (by grind) (by grind)
     rw[show x+ -x=0 by grind,z]at k
     have m:=Rat.mul_nonneg (show 0<=M/2+1/2^220 by grind) (show 0<=1/2+x by grind)
     generalize (1/2^220:Rat)=g at *
     constructor <;> grind
   generalize (1/2^220:Rat)=g at *;rw[Rat.pow_succ];generalize (2:Rat)^n=p at *;generalize fz x=f at *
   have m1:=Rat.mul_nonneg (Rat.le_of_lt pn) (show 0<=M/4+g/2-f by grind)
   have m2:=Rat.mul_nonneg (Rat.le_of_lt pn) (show 0<=M/4+g/2+f by grind)
   have m3:=Rat.mul_nonneg (Rat.le_of_lt pn) e4
   constructor <;> grind
 have a:=no_room (fun n=>(key n u u1 u2).1)
 have b:=no_room (fun n=>(key n u u1 u2).2)
 unfold fz at a b
 constructor <;> grind
def aT (m:Int):Nat->Int
 | 0=>m
 | k+1=>aT m k*m/SC*m/SC
def aS (m:Int):Nat->Int
 | 0=>0
 | k+1=>aS m k+(if k%2=1 then -(aT m k/ (2*(k:Int)+1))else aT m k/ (2*(k:Int)+1))
def eT (y:Rat):Nat->Rat
 | 0=>y
 | k+1=>eT y k*y*y
def eS (y:Rat):Nat->Rat
 | 0=>0
 | k+1=>eS y k+(if k%2=1 then -(eT y k/ ((2*(k:Int)+1:Int):Rat))else eT y k/ ((2*(k:Int)+1:Int):Rat))
theorem ll_odd:∀j:Fin 111,LL%(2*(j.val:Int)+1)=0:=by decide +kernel
theorem an_sum (y:Rat):∀f j:Nat,j+f<=111->eT y j*pev (an f j) y=(eS y (j+f)-eS y j)*((LL:Int):Rat)*y
 | 0,j,_=>by
  simp only[an,pev,Nat.add_zero]
  grind
 | f+1,j,hj=>by
  have ih:=an_sum y f (j+1) (by omega);have o:=ll_odd ⟨j,by omega⟩
  simp only at o;obtain⟨L,hL⟩:∃L,LL/ (2*(j:Int)+1)=L:=⟨_,rfl⟩
  have m:L*(2*(j:Int)+1)=LL:=by
   rw[<-hL];exact Int.ediv_mul_cancel (Int.dvd_of_emod_eq_zero o)
  have m':=congrArg (fun z:Int=>(z:Rat)) m
  have m2:((L*(2*(j:Int)+1):Int):Rat)=((LL:Int):Rat):=m'
  rw[Rat.intCast_mul]at m2
  have p:(0:Rat) < ((2*(j:Int)+1:Int):Rat):=Rat.intCast_lt_intCast.2 (show (0:Int) < 2*(j:Int)+1 by omega)
  have d:=Rat.div_mul_cancel (a:=eT y j) (Rat.ne_of_gt p)
  rw[show j+1+f=j+(f+1) by omega]at ih
  have es:eS y (j+1)=eS y j+(if j%2=1 then -(eT y j/ ((2*(j:Int)+1:Int):Rat))else eT y j/ ((2*(j:Int)+1:Int):Rat)):=rfl
  have et:eT y (j+1)=eT y j*y*y:=rfl
  rw[es,et]at ih;simp only[an,pev];rw[hL,Rat.intCast_zero];generalize eS y (j+(f+1))=S2 at *;generalize eS y j=S1 at *;generalize pev (an f (j+1)) y=R at *;generalize ((2*(j:Int)+1:Int):Rat)=q at *;generalize ((LL:Int):Rat)=l at *;generalize eT y j=t at *;generalize t/q=w at *;clear es et m m' o hL hj
  by_cases c:j%2=1
  ·rw[if_pos c]at ih
   rw[if_neg (show ¬j%2=0 by omega),Rat.intCast_neg]
   generalize ((L:Int):Rat)=v at *;rw[<-m2]at ih|-;rw[<-d]at ih|-
   grind
  ·rw[if_neg c]at ih
   rw[if_pos (show j%2=0 by omega)]
   generalize ((L:Int):Rat)=v at *;rw[<-m2]at ih|-;rw[<-d]at ih|-
   grind
theorem at_sum (y:Rat)(h:y≠0):eS y 111=atT y:=by
 have k:=an_sum y 111 0 (by omega)
 have e0:eS y 0=0:=rfl
 have t0:eT y 0=y:=rfl
 rw[Nat.zero_add,e0,t0]at k
 have c:(1/ ((LL:Int):Rat))*((LL:Int):Rat)=1:=Rat.div_mul_cancel (Rat.ne_of_gt ll_pos)
 unfold atT AL
 generalize pev (an 111 0) y=P at *;generalize eS y 111=S at *;generalize (1/ ((LL:Int):Rat))=i at *;generalize ((LL:Int):Rat)=l at *
 have z:y*(P*i-S)=0:=by grind
 rcases Rat.mul_eq_zero.1 z with g | g
 ·exact absurd g h
 ·grind
theorem at_err{m:Int}{y:Rat}(hy:y*SR=(m:Rat))(y1: -(1/2)<=y)(y2:y<=1/2):∀k:Nat,(-2<=((aT m k:Int):Rat)-eT y k*SR/\((aT m k:Int):Rat)-eT y k*SR<=2)/\
  (-(5/3*(k:Rat))<=((aS m k:Int):Rat)-eS y k*SR/\((aS m k:Int):Rat)-eS y k*SR<=5/3*(k:Rat))
 | 0=>by
  have e0:aT m 0=m:=rfl
  have e1:eT y 0=y:=rfl
  have e2:aS m 0=0:=rfl
  have e3:eS y 0=0:=rfl
  rw[e0,e1,e2,e3,Rat.intCast_zero,show ((0:Nat):Rat)=0 from rfl,hy]
  refine⟨⟨?_,?_⟩,?_,?_⟩ <;> grind
 | k+1=>by
  obtain⟨⟨a1,a2⟩,b1,b2⟩:=at_err hy y1 y2 k
  have ea:aT m (k+1)=aT m k*m/SC*m/SC:=rfl
  have et:eT y (k+1)=eT y k*y*y:=rfl
  have es:aS m (k+1)=aS m k+(if k%2=1 then -(aT m k/ (2*(k:Int)+1))else aT m k/ (2*(k:Int)+1)):=rfl
  have ee:eS y (k+1)=eS y k+(if k%2=1 then -(eT y k/ ((2*(k:Int)+1:Int):Rat))else eT y k/ ((2*(k:Int)+1:Int):Rat)):=rfl
  obtain⟨v,hv⟩:∃v,aT m k*m/SC=v:=⟨_,rfl⟩;obtain⟨v1,v2⟩:=fl_div (aT m k*m) SC (by decide) (z:=((aT m k:Int):Rat)*y) (by rw[Rat.intCast_mul,<-hy];grind);rw[hv]at v1 v2;obtain⟨u1,u2⟩:=fl_div (v*m) SC (by decide) (z:=(v:Rat)*y) (by rw[Rat.intCast_mul,<-hy];grind)
  have pq:(0:Rat) < ((2*(k:Int)+1:Int):Rat):=Rat.intCast_lt_intCast.2 (show (0:Int) < 2*(k:Int)+1 by omega)
  obtain⟨w1,w2⟩:=fl_div (aT m k) (2*(k:Int)+1) (by omega) (z:=((aT m k:Int):Rat) / ((2*(k:Int)+1:Int):Rat)) (Rat.div_mul_cancel (Rat.ne_of_gt pq));rw[ea,et,hv]
  have yy:0<=y*y/\y*y<=1/4:=by
   have:=Rat.mul_nonneg (show 0<=1/2-y by grind) (show 0<=1/2+y by grind)
   exact⟨sq_nn y,by grind⟩
  have m1:=mul_bd (b:=2) (x:=((aT m k:Int):Rat)-eT y k*SR) (a:=1/4) (e:=y*y) a1 a2 (by grind) yy.2
  -- the term
  have tb:∀q:Int,aT m k/ (2*(k:Int)+1)=q-> -(5/3)<=(q:Rat)-eT y k/ ((2*(k:Int)+1:Int):Rat)*SR/\(q:Rat)-eT y k/ ((2*(k:Int)+1:Int):Rat)*SR<=5/3:=fun q hq=>by
   rw[hq]at w1 w2;have d1:=Rat.div_mul_cancel (a:=((aT m k:Int):Rat)) (Rat.ne_of_gt pq);have d2:=Rat.div_mul_cancel (a:=eT y k) (Rat.ne_of_gt pq)
   by_cases k0:k=0
   ·subst k0
    have e0:aT m 0=m:=rfl
    have e1:eT y 0=y:=rfl
    have c1:((2*((0:Nat):Int)+1:Int):Rat)=1:=rfl
    rw[c1]at d1 d2 w1 w2|-;rw[e0]at d1 w1 w2;rw[e1]at d2|-;generalize (m:Rat) /1=g1 at *;generalize y/1=g2 at *
    rw[show g2=y by grind,hy]
    constructor <;> grind
   ·have p3:(3:Rat)<=((2*(k:Int)+1:Int):Rat):=Rat.intCast_le_intCast.2 (show (3:Int)<=2*(k:Int)+1 by omega)
    generalize ((2*(k:Int)+1:Int):Rat)=p at *;generalize ((aT m k:Int):Rat) /p=g1 at *;generalize eT y k/p=g2 at *
    have dd:(g1-g2*SR)*p=((aT m k:Int):Rat)-eT y k*SR:=by grind
    have n1:g1-g2*SR<=2/3:=by
     by_cases c:g1-g2*SR<=2/3
     ·exact c
     ·exfalso
      have:=Rat.mul_nonneg (show 0<=p-3 by grind) (show 0<=g1-g2*SR by grind)
      grind
    have n2: -(2/3)<=g1-g2*SR:=by
     by_cases c: -(2/3)<=g1-g2*SR
     ·exact c
     ·exfalso
      have:=Rat.mul_nonneg (show 0<=p-3 by grind) (show 0<= -(g1-g2*SR) by grind)
      grind
    constructor <;> grind
  obtain⟨t1,t2⟩:=tb _ rfl;refine⟨⟨?_,?_⟩,?_⟩
  ·generalize ((aT m k:Int):Rat)=T at *;generalize eT y k=e at *;generalize (((v*m/SC:Int)):Rat)=z at *;generalize (v:Rat)=V at *;have k1:=mul_bd (b:=1/2) (x:=y) (a:=1) (e:=T*y-V) y1 y2 (by grind) (by grind);clear tb w1 w2 t1 t2 b1 b2
   grind
  ·generalize ((aT m k:Int):Rat)=T at *;generalize eT y k=e at *;generalize (((v*m/SC:Int)):Rat)=z at *;generalize (v:Rat)=V at *;have k1:=mul_bd (b:=1/2) (x:=y) (a:=1) (e:=T*y-V) y1 y2 (by grind) (by grind);clear tb w1 w2 t1 t2 b1 b2
   grind
  ·rw[es,ee,Rat.natCast_add,show ((1:Nat):Rat)=1 from rfl]
   clear tb m1 yy u1 u2 v1 v2 w1 w2 a1 a2
   by_cases c:k%2=1
   ·rw[if_pos c,if_pos c,Rat.intCast_add,Rat.intCast_neg]
    constructor <;> grind
   ·rw[if_neg c,if_neg c,Rat.intCast_add]
    constructor <;> grind
theorem at_ser{m:Int}{y:Rat}(hy:y*SR=(m:Rat))(y1: -(1/2)<=y)(y2:y<=1/2): -185<=((aS m 111:Int):Rat)-atT y*SR/\((aS m 111:Int):Rat)-atT y*SR<=185:=by
 by_cases h:y=0
 ·subst h
  have m0:m=0:=by
   rw[Rat.zero_mul]at hy;exact Rat.intCast_inj.1 (hy.symm.trans rfl)
  subst m0
  have z:aS 0 111=0:=by decide +kernel
  rw[z,at_zero];rw[Rat.intCast_zero]
  constructor <;> grind
 ·obtain⟨_,b1,b2⟩:=at_err hy y1 y2 111;rw[at_sum y h]at b1 b2
  have e:((111:Nat):Rat)=111:=rfl
  rw[e]at b1 b2
  constructor <;> grind
def E11:List (List Int):=padd2 (psc2 DD (shm (pder TL))) (padd2 (psc2 (-1) (outer (pder TL) (pder TL))) (outer TL TL))
theorem e11_small:pabs2 2 E11*2^200<=(DD*DD).natAbs:=Nat.le_of_ble_eq_true (by decide +kernel)
theorem cos_add{m h:Rat}(m1: -2<=m)(m2:m<=2)(h1: -2<=h)(h2:h<=2): -1<=(cosT (m+h)-(cosT m*cosT h-sinT m*sinT h))*2^200/\(cosT (m+h)-(cosT m*cosT h-sinT m*sinT h))*2^200<=1:=by
 obtain⟨b1,b2⟩:=pev2_bd (B:=2) (m:=m) (h:=h) m1 m2 h1 h2 E11;refine small_of (m:=DD*DD) (by decide +kernel) e11_small b1 b2 ?_
 unfold E11
 rw[pev2_add,pev2_sc,pev2_add,pev2_sc,pev2_outer,pev2_outer,pev2_sh,<-sin_dd,<-sin_dd,<-cos_dd,<-cos_dd,<-cos_dd,Rat.intCast_mul,cm];generalize ((DD:Int):Rat)=d;generalize sinT h=s;generalize cosT m=c;generalize sinT m=u;generalize cosT h=v;generalize cosT (m+h)=w
 grind
theorem sin_add{m h:Rat}(m1: -2<=m)(m2:m<=2)(h1: -2<=h)(h2:h<=2): -1<=(sinT (m+h)-(sinT m*cosT h+cosT m*sinT h))*2^200/\(sinT (m+h)-(sinT m*cosT h+cosT m*sinT h))*2^200<=1:=by
 obtain⟨a1,a2⟩:=sin_diff m1 m2 h1 h2;obtain⟨b1,b2⟩:=sin_diff h1 h2 m1 m2
 have e:sinT (h-m)= -sinT (m-h):=by
  rw[show h-m= -(m-h) by grind,sin_neg]
 rw[e,show h+m=m+h by grind]at b1 b2
 generalize (2:Rat)^200=p at *;generalize sinT (m+h)=x at *;generalize sinT (m-h)=y at *;generalize sinT h=s at *;generalize cosT m=c at *;generalize sinT m=u at *;generalize cosT h=v at *
 constructor <;> grind
theorem Df.rise{B k:Rat}{f g:Rat->Rat}(hB:0<=B)(H:Df B f g){a x h:Rat}(h0:0<=h)(x1: -B<=x)(x2:x+h<=B)(hx:x+h<=a)(hax: -a<=x)(ha:a<=B)(hg:∀y,-a<=y->y<=a->k<=g y):k*h<=f (x+h)-f x:=by
 obtain⟨C,C0,b,l⟩:=H.le ha
 have K:∃M,∀y,-a<=y->y<=a->g y<=M:=⟨C,fun y y1 y2=>(b y y1 y2).2.2⟩
 obtain⟨M,hM⟩:=K
 have a0:0<=a:=by grind
 have I:=(Df.id a a0).scale ((M+k) /2);have D:=(H.le ha).sub I
 have s:=D.grow (M:=(M-k) /2) (fun y y1 y2=>by
  have p:=hg y y1 y2;have q:=hM y y1 y2
  constructor <;> grind) h0 hax hx
 have s1:=s.1
 grind
theorem cos_low{x:Rat}(h1: -(1/2)<=x)(h2:x<=1/2):2/3<=cosT x:=by
 have cz:99/100<=cosT 0:=by decide +kernel
 have sb:∀y:Rat,-(1/2)<=y->y<=1/2-> -(51/100)<=sinT y/\sinT y<=51/100:=fun y y1 y2=>by
  have g:∀z:Rat,-(1/2)<=z->z<=1/2-> -(101/100)<=cosT z/\cosT z<=101/100:=fun z z1 z2=>by
   obtain⟨a,b⟩:=cosT_bd (x:=z) (by grind) (by grind)
   have e:(1/2^200:Rat)<=1/100:=by decide +kernel
   generalize (1/2^200:Rat)=t at *
   constructor <;> grind
  have z:=sin_zero
  by_cases c:0<=y
  ·have k:=(sin_df.le (show (1/2:Rat)<=2 by grind)).grow g (x:=0) (h:=y) c (by grind) (by grind)
   rw[show (0:Rat)+y=y by grind,z]at k
   constructor <;> grind
  ·have k:=(sin_df.le (show (1/2:Rat)<=2 by grind)).grow g (x:=y) (h:= -y) (by grind) (by grind) (by grind)
   rw[show y+ -y=0 by grind,z]at k
   constructor <;> grind
 have g:∀z:Rat,-(1/2)<=z->z<=1/2-> -(6/10)<=c2T z/\c2T z<=6/10:=fun z z1 z2=>by
  obtain⟨a,b⟩:=sb z z1 z2;obtain⟨c,d⟩:=c2_near (x:=z) (by grind) (by grind)
  have c':=tiny_lo c
  have d':=tiny_hi d
  have e:(1/2^280:Rat)<=1/100:=by decide +kernel
  generalize (1/2^280:Rat)=t at *
  constructor <;> grind
 by_cases c:0<=x
 ·have k:=(cos_df.le (show (1/2:Rat)<=2 by grind)).grow g (x:=0) (h:=x) c (by grind) (by grind)
  rw[show (0:Rat)+x=x by grind]at k
  grind
 ·have k:=(cos_df.le (show (1/2:Rat)<=2 by grind)).grow g (x:=x) (h:= -x) (by grind) (by grind) (by grind)
  rw[show x+ -x=0 by grind]at k
  grind
theorem sin_low{x:Rat}(h1:0<=x)(h2:x<=qt):x/5<=sinT x:=by
 obtain⟨q1,q2⟩:=qt_bd;have z:=sin_zero
 have base:∀y:Rat,0<=y->y<=1/2->2/3*y<=sinT y:=fun y y0 y2=>by
  have k:=Df.rise (B:=2) (k:=2/3) (by grind) sin_df (a:=1/2) (x:=0) (h:=y) y0 (by grind) (by grind) (by grind) (by grind) (by grind) (fun z z1 z2=>cos_low z1 z2)
  rw[show (0:Rat)+y=y by grind,z]at k
  grind
 by_cases c:x<=1/2
 ·have:=base x h1 c
  grind
 ·have a:=base (1/2) (by grind) (by grind);have m:=sin_mono (a:=1/2) (b:=x) (by grind) (by grind) h2
  have e:(1/2^186:Rat)<=1/300:=by decide +kernel
  generalize (1/2^186:Rat)=t at *
  grind
def pU (v:Int):Int:=if SC < v*2 then (v-SC)*SC/ (v+SC)else v
def pA (v:Int):Int:=if SC < v*2 then PLo/4 else 0
def pB (v:Int):Int:=if SC < v*2 then PHi/4+1 else 0
def pL (v:Int):Int:=pA v+aS (pU v) 111+ -400
def pH (v:Int):Int:=pB v+aS (pU v) 111+400
def pAng (v:Int):Rat:=(if SC < v*2 then qt/2 else 0)+atT ((pU v:Rat) /SR)
theorem frac_at (u:Int):(u:Rat) /SR*SR=(u:Rat):=Rat.div_mul_cancel (Rat.ne_of_gt sr_pos)
theorem pU_bd{v:Int}(h0:0<=v)(h1:v<=SC): -(SC/3+1)<=pU v/\2*pU v<=SC:=by
 unfold pU
 by_cases c:SC < v*2
 ·rw[if_pos c]
  have sp:(0:Int) < SC:=by decide
  have hd:0 < v+SC:=by omega
  have a:=Int.ediv_mul_le ((v-SC)*SC) (Int.ne_of_gt hd);have b:=Int.lt_ediv_add_one_mul_self ((v-SC)*SC) hd;generalize (v-SC)*SC/ (v+SC)=u at *
  constructor
  ·rcases Int.lt_or_le u (-(SC/3+1))with k | k
   ·exfalso
    have m:=Int.mul_le_mul_of_nonneg_right (show u+1<= -(SC/3+1) by omega) (Int.le_of_lt hd)
    have n:(SC/3+1)*(v+SC)≥(SC-v)*SC:=by
     have k1:3*(SC/3+1)≥SC:=by omega
     have k2:=Int.mul_le_mul_of_nonneg_right k1 (Int.le_of_lt hd)
     have k3:=Int.mul_le_mul_of_nonneg_right (show 3*(SC-v)<=v+SC by omega) (Int.le_of_lt sp)
     grind
    grind
   ·exact k
  ·rcases Int.lt_or_le 0 u with k | k
   ·exfalso
    have m:=Int.mul_le_mul_of_nonneg_right (show 1<=u by omega) (Int.le_of_lt hd)
    have n:(v-SC)*SC<=0:=by
     have:=Int.mul_nonneg (show 0<=SC-v by omega) (Int.le_of_lt sp)
     grind
    omega
   ·omega
 ·rw[if_neg c]
  omega
theorem frac_bd{v:Int}(h0:0<=v)(h1:v<=SC): -(1/2)<=(pU v:Rat) /SR/\(pU v:Rat) /SR<=1/2:=by
 obtain⟨a,b⟩:=pU_bd h0 h1;have sp:=sr_pos;have e:=frac_at (pU v)
 have a': -(SC:Int)<=2*pU v:=by
  unfold SC at *
  omega
 have a2:=Rat.intCast_le_intCast.2 a';have b2:=Rat.intCast_le_intCast.2 b
 rw[Rat.intCast_mul,Rat.intCast_neg,show ((2:Int):Rat)=2 from rfl]at a2
 rw[Rat.intCast_mul,show ((2:Int):Rat)=2 from rfl]at b2
 generalize (pU v:Rat) /SR=w at *
 constructor
 ·refine Rat.le_of_mul_le_mul_right (c:=SR) ?_ sp
  grind
 ·refine Rat.le_of_mul_le_mul_right (c:=SR) ?_ sp
  grind
theorem ang_within{v:Int}(h0:0<=v)(h1:v<=SC):((pL v+214:Int):Rat)<=pAng v*SR/\pAng v*SR<=((pH v-214:Int):Rat):=by
 obtain⟨f1,f2⟩:=frac_bd h0 h1;obtain⟨s1,s2⟩:=at_ser (frac_at (pU v)) f1 f2;obtain⟨p1,p2⟩:=half_turn
 have ab:((pA v:Int):Rat)<=(if SC < v*2 then qt/2 else 0)*SR/\(if SC < v*2 then qt/2 else 0)*SR<=((pB v:Int):Rat):=by
  unfold pA pB
  by_cases c:SC < v*2
  ·rw[if_pos c,if_pos c,if_pos c]
   have k1:=Rat.intCast_le_intCast.2 (show PLo/4*4<=PLo by decide)
   have k2:=Rat.intCast_le_intCast.2 (show PHi<=(PHi/4+1)*4 by decide)
   rw[Rat.intCast_mul,show ((4:Int):Rat)=4 from rfl]at k1 k2
   constructor <;> grind
  ·rw[if_neg c,if_neg c,if_neg c,Rat.intCast_zero]
   constructor <;> grind
 unfold pL pH pAng
 have e1:((pA v+aS (pU v) 111+ -400+214:Int):Rat)=((pA v:Int):Rat)+((aS (pU v) 111:Int):Rat)-186:=by
  rw[show pA v+aS (pU v) 111+ -400+214=pA v+aS (pU v) 111-186 by omega,Rat.intCast_sub,Rat.intCast_add]
  rfl
 have e2:((pB v+aS (pU v) 111+400-214:Int):Rat)=((pB v:Int):Rat)+((aS (pU v) 111:Int):Rat)+186:=by
  rw[show pB v+aS (pU v) 111+400-214=pB v+aS (pU v) 111+186 by omega,Rat.intCast_add,Rat.intCast_add]
  rfl
 rw[e1,e2];generalize (if SC < v*2 then qt/2 else 0)=k at *;generalize atT ((pU v:Rat) /SR)=t at *
 constructor <;> grind
theorem eighth:(sinT (qt/2)-cosT (qt/2))*2^200<=1/\ -1<=(sinT (qt/2)-cosT (qt/2))*2^200/\sinT (qt/2)<=3/4/\2/3<=sinT (qt/2):=by decide +kernel
end Go.Proofs.YtomikokonmikgaaGreatDoor
namespace Go.Proofs.YtomikokonmikgaaGreatDoor
open Go.RowKit
set_option linter.unusedVariables false
set_option linter.unusedSimpArgs false
set_option maxRecDepth 100000
def serA (m:Int):Int:=if SC < (m.natAbs:Int)then 0 else aS m 111
theorem sc_step{t m:Int}(t1: -SC<=t)(t2:t<=SC)(m1: -SC<=m)(m2:m<=SC): -SC<=t*m/SC/\t*m/SC<=SC:=by
 have a:=Int.mul_nonneg (show 0<=SC-t by omega) (show 0<=SC+m by omega)
 have b:=Int.mul_nonneg (show 0<=SC+t by omega) (show 0<=SC-m by omega)
 have c:=Int.mul_nonneg (show 0<=SC-t by omega) (show 0<=SC-m by omega)
 have d:=Int.mul_nonneg (show 0<=SC+t by omega) (show 0<=SC+m by omega)
 have sp:(0:Int) < SC:=by decide
 constructor
 ·refine(Int.le_ediv_iff_mul_le sp).2 ?_
  grind
 ·refine Int.le_of_lt_add_one ((Int.ediv_lt_iff_lt_mul sp).2 ?_)
  grind
theorem aT_small{m:Int}(m1: -SC<=m)(m2:m<=SC):∀j:Nat,-SC<=aT m j/\aT m j<=SC
 | 0=>⟨m1,m2⟩
 | j+1=>by
  obtain⟨a,b⟩:=aT_small m1 m2 j;obtain⟨c,d⟩:=sc_step a b m1 m2;exact sc_step c d m1 m2
theorem sc_fits{z:Int}(h1: -SC<=z)(h2:z<=SC):z.natAbs < 4294967296^7:=by
 have e:(4294967296:Nat)^7=26959946667150639794667015087019630673637144422540572481103610249216:=by decide
 rw[e]
 unfold SC at *
 omega
end Go.Proofs.YtomikokonmikgaaGreatDoor
namespace Go.Proofs.YtomikokonmikgaaGreatDoor
open Go Go.RowKit
set_option linter.unusedVariables false
theorem eps_g:(1/2^220:Rat)*SR<=1/100/\(1/2^200:Rat)*SR<=1/100/\(0:Rat)<=1/2^220/\(0:Rat)<=1/2^200/\(1/2^200:Rat)<=1/100/\(1/2^220:Rat)<=1/100:=by decide +kernel
theorem turned{w y s c s0 c0 S C d e r:Rat}(y0:0<=y)(y1:y<=1)(hs1: -e<=s-w*c)(hs2:s-w*c<=e)(he:0<=e)(cb1: -(101/100)<=c)(cb2:c<=101/100)(sb1: -(101/100)<=s)(sb2:s<=101/100)
  (a1: -d<=S-(s0*c+c0*s)) (a2:S-(s0*c+c0*s)<=d) (b1: -d<=C-(c0*c-s0*s)) (b2:C-(c0*c-s0*s)<=d) (hd:0<=d) (z1: -d<=s0-c0) (z2:s0-c0<=d) (g1:2/3<=s0) (g2:s0<=3/4)
  (r1: -r<=1-y+w*(1+y)) (r2:1-y+w*(1+y)<=0) (r0:0<=r): -(r+2*e+5*d)<=S-y*C/\S-y*C<=r+2*e+5*d:=by
 obtain⟨q,hq⟩:∃q,q=1-y+w*(1+y):=⟨_,rfl⟩;rw[<-hq]at r1 r2;have m1:=mul_bd (b:=101/100) (x:=c) (a:=r) (e:=q) cb1 cb2 r1 (by grind);have m2:=mul_bd (b:=3/4) (x:=s0) (by grind) g2 m1.1 m1.2;have m3:=mul_bd (b:=2) (x:=1+y) (by grind) (by grind) hs1 hs2;have m4:=mul_bd (b:=3/4) (x:=s0) (by grind) g2 m3.1 m3.2;have m5:=mul_bd (b:=1) (x:=y) (by grind) y1 cb1 cb2
 have m6:=mul_bd (b:=1*(101/100)+101/100) (x:=s-y*c) (by grind) (by grind) z1 z2;have m7:=mul_bd (b:=1) (x:=y) (by grind) y1 b1 b2
 have eq:S-y*C=(S-(s0*c+c0*s))-y*(C-(c0*c-s0*s))+(s0*(c*q)+s0*((1+y)*(s-w*c))-(s-y*c)*(s0-c0)):=by
  rw[hq]
  grind
 rw[eq];generalize S-(s0*c+c0*s)=A1 at *;generalize y*(C-(c0*c-s0*s))=A2 at *;generalize s0*(c*q)=A3 at *;generalize s0*((1+y)*(s-w*c))=A4 at *;generalize (s-y*c)*(s0-c0)=A5 at *
 constructor <;> grind
theorem cs_bd{x:Rat}(h1: -2<=x)(h2:x<=2):(-(101/100)<=cosT x/\cosT x<=101/100)/\ -(101/100)<=sinT x/\sinT x<=101/100:=by
 obtain⟨a,b⟩:=cosT_bd h1 h2;obtain⟨c,d⟩:=sin_bd h1 h2
 have e:(1/2^200:Rat)<=1/100:=by decide +kernel
 have f:(1/2^240:Rat)<=1/100:=by decide +kernel
 generalize (1/2^200:Rat)=t at *;generalize (1/2^240:Rat)=u at *;refine⟨⟨?_,?_⟩,?_,?_⟩ <;> grind
theorem ang_slope{v:Int}(h0:0<=v)(h1:v<=SC): -3<=(sinT (pAng v)-(v:Rat) /SR*cosT (pAng v))*SR/\(sinT (pAng v)-(v:Rat) /SR*cosT (pAng v))*SR<=3:=by
 obtain⟨f1,f2⟩:=frac_bd h0 h1;obtain⟨e1,e2,e3,e4,e5,e6⟩:=eps_g;have sl:=slope_small f1 f2;have sp:=sr_pos
 unfold pAng
 by_cases c:SC < v*2
 ·rw[if_pos c];obtain⟨q1,q2⟩:=qt_bd;obtain⟨i1,i2⟩:=at_bd f1 f2;have ev:=frac_at v;have eu:=frac_at (pU v);have v0:=Rat.intCast_le_intCast.2 h0;have v1:=Rat.intCast_le_intCast.2 h1;rw[Rat.intCast_zero]at v0
  have hU:pU v=(v-SC)*SC/ (v+SC):=if_pos c
  have hd:0 < v+SC:=by
   have:(0:Int) < SC:=by decide
   omega
  have k1:=Int.ediv_mul_le ((v-SC)*SC) (Int.ne_of_gt hd);have k2:=Int.lt_ediv_add_one_mul_self ((v-SC)*SC) hd;rw[<-hU]at k1 k2
  have k1':=Rat.intCast_le_intCast.2 k1
  have k2':=Rat.intCast_le_intCast.2 (Int.le_of_lt k2)
  rw[Rat.intCast_mul,Rat.intCast_mul,Rat.intCast_sub,Rat.intCast_add]at k1'
  rw[Rat.intCast_mul,Rat.intCast_mul,Rat.intCast_sub,Rat.intCast_add,Rat.intCast_add,show ((1:Int):Rat)=1 from rfl]at k2'
  rw[<-ev,<-eu]at k1' k2';rw[<-ev]at v0 v1;generalize (v:Rat) /SR=y at *;generalize (pU v:Rat) /SR=w at *
  have y0:0<=y:=Rat.le_of_mul_le_mul_right (c:=SR) (by rw[Rat.zero_mul];exact v0) sp
  have y1:y<=1:=Rat.le_of_mul_le_mul_right (c:=SR) (by rw[Rat.one_mul];exact v1) sp
  obtain⟨r,hr⟩:∃r,r*SR=2:=⟨2/SR,Rat.div_mul_cancel (Rat.ne_of_gt sp)⟩
  have r2:1-y+w*(1+y)<=0:=by
   refine Rat.le_of_mul_le_mul_right (c:=SR) (Rat.le_of_mul_le_mul_right (c:=SR) ?_ sp) sp
   grind
  have r1: -r<=1-y+w*(1+y):=by
   have ry:=Rat.mul_nonneg (show 0<=1-y by grind) (Rat.le_of_lt sp)
   refine Rat.le_of_mul_le_mul_right (c:=SR) (Rat.le_of_mul_le_mul_right (c:=SR) ?_ sp) sp
   have:r*SR*SR=2*SR:=by rw[hr]
   grind
  have r0:0<=r:=Rat.le_of_mul_le_mul_right (c:=SR) (by rw[hr];grind) sp
  have b:=cs_bd (x:=atT w) (by grind) (by grind);obtain⟨p1,p2⟩:=sin_add (m:=qt/2) (h:=atT w) (by grind) (by grind) (by grind) (by grind);obtain⟨p3,p4⟩:=cos_add (m:=qt/2) (h:=atT w) (by grind) (by grind) (by grind) (by grind);obtain⟨g1,g2,g3,g4⟩:=eighth;have t:=turned y0 y1 sl.1 sl.2 e3 b.1.1 b.1.2 b.2.1 b.2.2 (tiny_lo p1) (tiny_hi p2) (tiny_lo p3) (tiny_hi p4) e4 (tiny_lo g2) (tiny_hi g1) g4 g3 r1 r2 r0
  generalize sinT (qt/2+atT w)-y*cosT (qt/2+atT w)=X at *;generalize (1/2^220:Rat)=e at *;generalize (1/2^200:Rat)=d at *;have n1:=Rat.mul_le_mul_of_nonneg_right t.1 (Rat.le_of_lt sp);have n2:=Rat.mul_le_mul_of_nonneg_right t.2 (Rat.le_of_lt sp)
  constructor <;> grind
 ·rw[if_neg c]
  have hU:pU v=v:=if_neg c
  rw[hU]at sl|-
  rw[show (0:Rat)+atT ((v:Rat) /SR)=atT ((v:Rat) /SR) by grind]
  generalize sinT (atT ((v:Rat) /SR))-(v:Rat) /SR*cosT (atT ((v:Rat) /SR))=X at *;have n1:=Rat.mul_le_mul_of_nonneg_right sl.1 (Rat.le_of_lt sp);have n2:=Rat.mul_le_mul_of_nonneg_right sl.2 (Rat.le_of_lt sp);generalize (1/2^220:Rat)=e at *
  constructor <;> grind
theorem ang_bd13{v:Int}(h0:0<=v)(h1:v<=SC):0<=pAng v/\pAng v<=3/2:=by
 obtain⟨f1,f2⟩:=frac_bd h0 h1;obtain⟨q1,q2⟩:=qt_bd;obtain⟨i1,i2⟩:=at_bd f1 f2
 unfold pAng
 by_cases c:SC < v*2
 ·rw[if_pos c]
  constructor <;> grind
 ·rw[if_neg c]
  have hU:pU v=v:=if_neg c
  have z:=at_zero;have e:=frac_at v;have sp:=sr_pos
  have w0:0<=(v:Rat) /SR:=Rat.le_of_mul_le_mul_right (c:=SR) (by rw[e,Rat.zero_mul];exact Rat.intCast_le_intCast.2 h0) sp
  rw[hU]at i1 i2 f1 f2|-
  have k:=Df.rise (B:=1/2) (k:=0) (by grind) at_df (a:=1/2) (x:=0) (h:=(v:Rat) /SR) w0 (by grind) (by grind) (by grind) (by grind) (by grind) (fun y y1 y2=>(atD_bd y1 y2).1)
  rw[show (0:Rat)+(v:Rat) /SR=(v:Rat) /SR by grind,z]at k
  generalize atT ((v:Rat) /SR)=t at *
  constructor <;> grind
theorem eps_h:(1/2^189:Rat)<=1/1000/\(1/2^200:Rat)<=1/1000/\(3:Rat) /SR<=1/1000/\(1/2^200:Rat)*3<=1/SR/\(1/2^189:Rat)<=8*(1/SR)/\(0:Rat)<=1/2^200/\(1/2^240:Rat)<=1/1000:=by decide +kernel
theorem part_bd{v:Int}(h0:0<=v)(h1:v<=SC):0<=(v:Rat) /SR/\(v:Rat) /SR<=1:=by
 have sp:=sr_pos;have e:=frac_at v;exact⟨Rat.le_of_mul_le_mul_right (c:=SR) (by rw[e,Rat.zero_mul];exact Rat.intCast_le_intCast.2 h0) sp,Rat.le_of_mul_le_mul_right (c:=SR) (by rw[e,Rat.one_mul];exact Rat.intCast_le_intCast.2 h1) sp⟩
theorem slope_e{v:Int}(h0:0<=v)(h1:v<=SC): -(3/SR)<=sinT (pAng v)-(v:Rat) /SR*cosT (pAng v)/\sinT (pAng v)-(v:Rat) /SR*cosT (pAng v)<=3/SR:=by
 obtain⟨a,b⟩:=ang_slope h0 h1;have sp:=sr_pos
 have e:(3:Rat) /SR*SR=3:=Rat.div_mul_cancel (Rat.ne_of_gt sp)
 generalize sinT (pAng v)-(v:Rat) /SR*cosT (pAng v)=X at *;generalize (3:Rat) /SR=t at *
 constructor
 ·exact Rat.le_of_mul_le_mul_right (c:=SR) (by grind) sp
 ·exact Rat.le_of_mul_le_mul_right (c:=SR) (by grind) sp
theorem ang_cos{v:Int}(h0:0<=v)(h1:v<=SC):2/3<=cosT (pAng v):=by
 obtain⟨b1,b2⟩:=ang_bd13 h0 h1;obtain⟨q1,q2⟩:=qt_bd;obtain⟨y0,y1⟩:=part_bd h0 h1;obtain⟨s1,s2⟩:=slope_e h0 h1;obtain⟨e1,e2,e3,e4,e7,e5,e6⟩:=eps_h;have n:=cos_nn (m:=pAng v) (by grind) (by grind);obtain⟨c1,c2⟩:=circleD (x:=pAng v) (by grind) (by grind)
 have c1':=tiny_lo c1
 obtain⟨k1,k2⟩:=cs_bd (x:=pAng v) (by grind) (by grind);generalize sinT (pAng v)=s at *;generalize cosT (pAng v)=c at *;generalize (v:Rat) /SR=y at *;generalize (1/2^189:Rat)=a at *;generalize (1/2^200:Rat)=b at *;generalize (3:Rat) /SR=g at *;clear e4 e7
 by_cases h:2/3<=c
 ·exact h
 ·exfalso
  have cm: -(67/100)<=c/\c<=67/100:=⟨by grind,by grind⟩
  have yc:=mul_bd (b:=1) (x:=y) (by grind) y1 cm.1 cm.2
  have sb: -(68/100)<=s/\s<=68/100:=⟨by grind,by grind⟩
  have ss:=mul_bd sb.1 sb.2 sb.1 sb.2;have cc:=mul_bd cm.1 cm.2 cm.1 cm.2
  grind
theorem apart{y z s c S C k t e g n:Rat}(y0:0<=y)(y1:y<=1)(z0:0<=z)(z1:z<=1)(yz:y<=z)(v1: -(3*g)<=S-y*C)(v2:S-y*C<=3*g)(u1: -(3*g)<=s-z*c)(u2:s-z*c<=3*g)(cu:2/3<=c)
  (k1: -(101/100)<=k) (k2:k<=101/100) (t1: -(101/100)<=t) (t2:t<=101/100) (c2:c<=101/100) (a1: -e<=S-(s*k+c*t)) (a2:S-(s*k+c*t)<=e) (b1: -e<=C-(c*k-s*t)) (b2:C-(c*k-s*t)<=e)
  (he:e*3<=g) (hn:n<=8*g) (e0:0<=e) (g0:0<=g) (kn: -n<=k):t<=30*g:=by
 by_cases sd:t<=0
 ·grind
 have sd':0<=t:=by grind
 have r1:=mul_bd (b:=1) (x:=y) (by grind) y1 b1 b2;have r2:=mul_bd (b:=101/100) (x:=k) k1 k2 u1 u2;have r3:=mul_bd (b:=1) (x:=y) (by grind) y1 u1 u2;have r4:=mul_bd (b:=101/100) (x:=t) t1 t2 r3.1 r3.2
 have eq:S-y*C=(S-(s*k+c*t))-y*(C-(c*k-s*t))+k*(s-z*c)+t*(y*(s-z*c))+c*((z-y)*k)+c*(t*(1+y*z)):=by grind
 have pz:=Rat.mul_nonneg y0 z0;have t3:=Rat.mul_nonneg sd' pz
 have ct:=Rat.mul_nonneg (show 0<=c-2/3 by grind) (show 0<=t*(1+y*z) by grind)
 have zk: -(8*g)<=(z-y)*k:=by
  by_cases k0:0<=k
  ·have:=Rat.mul_nonneg (show 0<=z-y by grind) k0
   grind
  ·have:=Rat.mul_nonneg (show 0<=1-(z-y) by grind) (show 0<= -k by grind)
   grind
 have czk: -(9*g)<=c*((z-y)*k):=by
  have m1:=Rat.mul_nonneg (show 0<=c by grind) (show 0<=(z-y)*k+8*g by grind)
  have m2:=Rat.mul_nonneg (show 0<=101/100-c by grind) g0
  grind
 generalize S-(s*k+c*t)=A1 at *;generalize y*(C-(c*k-s*t))=A3 at *;generalize k*(s-z*c)=A4 at *;generalize t*(y*(s-z*c))=A5 at *;generalize c*((z-y)*k)=A6 at *;generalize S-y*C=A7 at *
 grind
theorem ang_mono{v u:Int}(h0:0<=v)(h:v<=u)(h1:u<=SC):pAng v*SR<=pAng u*SR+150:=by
 by_cases hle:pAng v<=pAng u
 ·have:=Rat.mul_le_mul_of_nonneg_right hle (Rat.le_of_lt sr_pos)
  grind
 obtain⟨d,hd⟩:∃d,pAng v=pAng u+d:=⟨pAng v-pAng u,by grind⟩
 obtain⟨b1,b2⟩:=ang_bd13 h0 (by omega:v<=SC);obtain⟨a1,a2⟩:=ang_bd13 (by omega:0<=u) h1;obtain⟨q1,q2⟩:=qt_bd
 have d0:0<=d:=by grind
 have d2:d<=3/2:=by grind
 have dn:=cos_nn (m:=d) (by grind) (by grind);obtain⟨yv0,yv1⟩:=part_bd h0 (by omega:v<=SC);obtain⟨yu0,yu1⟩:=part_bd (by omega:0<=u) h1
 have yle:(v:Rat) /SR<=(u:Rat) /SR:=Rat.le_of_mul_le_mul_right (c:=SR) (by rw[frac_at,frac_at];exact Rat.intCast_le_intCast.2 h) sr_pos
 obtain⟨sv1,sv2⟩:=slope_e h0 (by omega:v<=SC);obtain⟨su1,su2⟩:=slope_e (by omega:0<=u) h1;have cu:=ang_cos (by omega:0<=u) h1;have cv:=ang_cos h0 (by omega:v<=SC);obtain⟨p1,p2⟩:=sin_add (m:=pAng u) (h:=d) (by grind) (by grind) (by grind) (by grind);obtain⟨p3,p4⟩:=cos_add (m:=pAng u) (h:=d) (by grind) (by grind) (by grind) (by grind);have bu:=cs_bd (x:=pAng u) (by grind) (by grind)
 have bd:=cs_bd (x:=d) (by grind) (by grind);rw[hd]at sv1 sv2 cv
 have p1':=tiny_lo p1
 have p2':=tiny_hi p2
 have p3':=tiny_lo p3
 have p4':=tiny_hi p4
 obtain⟨e1,e2,e3,e4,e7,e5,e6⟩:=eps_h;have sp:=sr_pos
 -- the sine of what they are apart is small
 have key:sinT d<=30*(1/SR):=by
  have o3:(3:Rat) /SR=3*(1/SR):=by
   have o1:(1:Rat) /SR*SR=1:=Rat.div_mul_cancel (Rat.ne_of_gt sp)
   have:(3:Rat) /SR*SR=3:=Rat.div_mul_cancel (Rat.ne_of_gt sp)
   refine Rat.le_antisymm (Rat.le_of_mul_le_mul_right (c:=SR) ?_ sp) (Rat.le_of_mul_le_mul_right (c:=SR) ?_ sp) <;> grind
  have g0:(0:Rat)<=1/SR:=by
   have o1:(1:Rat) /SR*SR=1:=Rat.div_mul_cancel (Rat.ne_of_gt sp)
   refine Rat.le_of_mul_le_mul_right (c:=SR) ?_ sp;rw[o1]
   grind
  rw[o3]at su1 su2 sv1 sv2 e3;exact apart yv0 yv1 yu0 yu1 yle sv1 sv2 su1 su2 cu bd.1.1 bd.1.2 bd.2.1 bd.2.2 bu.1.2 p1' p2' p3' p4' e4 e7 e5 g0 dn
 have low:=sin_low d0 (by grind)
 have o1:(1:Rat) /SR*SR=1:=Rat.div_mul_cancel (Rat.ne_of_gt sp)
 have dd:d<=150*(1/SR):=by grind
 have m:=Rat.mul_le_mul_of_nonneg_right dd (Rat.le_of_lt sp);rw[hd]
 grind
theorem radd{a b c d:Rat}(h:a<=b)(k:c<=d):a+c<=b+d:=by grind
def BR:Rat:=((2^KK:Int):Rat)
theorem br_pos:(0:Rat) < BR:=Rat.intCast_lt_intCast.2 (p2pos KK)
def LoR (v:Rat)(x:Sp):Prop:=match x with
 | none=>False
 | some (a,_)=>a= -19342822337206103650074625\/((vr a:Int):Rat)<=v*BR
def HiR (v:Rat)(x:Sp):Prop:=match x with
 | none=>False
 | some (_,b)=>b=19342822337206103650074625\/v*BR<=((vr b:Int):Rat)
def FinI (x:Sp):Prop:=match x with
 | none=>False
 | some (a,b)=>a<=b/\ -19342822337206103650074625 < a/\b < 19342822337206103650074625
theorem FinI.ok{x:Sp}(h:FinI x):SpOk x:=by
 rcases x with _ | ⟨a,b⟩
 ·exact trivial
 ·obtain⟨h1,h2,h3⟩:=h;exact⟨by omega,h1,by omega,by omega,by omega⟩
theorem LoR.mono{v w:Rat}{x:Sp}(h:LoR v x)(e:v<=w):LoR w x:=by
 rcases x with _ | ⟨a,b⟩
 ·exact h
 ·rcases h with h | h
  ·exact .inl h
  ·exact .inr (Rat.le_trans h (Rat.mul_le_mul_of_nonneg_right e (Rat.le_of_lt br_pos)))
theorem HiR.mono{v w:Rat}{x:Sp}(h:HiR v x)(e:w<=v):HiR w x:=by
 rcases x with _ | ⟨a,b⟩
 ·exact h
 ·rcases h with h | h
  ·exact .inl h
  ·exact .inr (Rat.le_trans (Rat.mul_le_mul_of_nonneg_right e (Rat.le_of_lt br_pos)) h)
theorem ends_le{a d:Int}{v:Rat}(ha: -19342822337206103650074625<=d)(hd:a<=19342822337206103650074625)(h:a= -19342822337206103650074625\/((vr a:Int):Rat)<=v*BR)(k:d=19342822337206103650074625\/v*BR<=((vr d:Int):Rat)):a<=d:=by
 rcases h with h | h
 ·omega
 ·rcases k with k | k
  ·omega
  ·rcases Int.lt_or_le d a with c | c
   ·exfalso
    have e:=vr_lt c;have f:=Rat.intCast_le_intCast.1 (Rat.le_trans h k)
    omega
   ·exact c
theorem meet_R{v:Rat}{x y:Sp}(hx:SpOk x)(hy:SpOk y)(h1:LoR v x)(h2:HiR v x)(k1:LoR v y)(k2:HiR v y):∃a b,meetI x y=some (a,b):=by
 rcases x with _ | ⟨a,b⟩
 ·exact h1.elim
 rcases y with _ | ⟨c,d⟩
 ·exact k1.elim
 obtain⟨A1,A2,A3,A4,A5⟩:=hx;obtain⟨B1,B2,B3,B4,B5⟩:=hy;have e1:=ends_le (by omega) (by omega) h1 k2;have e2:=ends_le (by omega) (by omega) k1 h2;exact⟨_,_,mkI_some (by omega) (by omega) (by omega)⟩
theorem hull_lo{v:Rat}{x y:Sp}(hx:SpOk x)(hy:SpOk y)(fx:x≠none)(fy:y≠none)(h:LoR v x\/LoR v y):LoR v (hullI x y):=by
 rcases x with _ | ⟨a,b⟩
 ·exact absurd rfl fx
 rcases y with _ | ⟨c,d⟩
 ·exact absurd rfl fy
 obtain⟨A1,A2,A3,A4,A5⟩:=hx;obtain⟨B1,B2,B3,B4,B5⟩:=hy
 show LoR v (mkI (min a c) (max b d))
 rw[mkI_some (by omega) (by omega) (by omega)]
 have key:∀t:Int,(t= -19342822337206103650074625\/((vr t:Int):Rat)<=v*BR)->min a c<=t->(min a c= -19342822337206103650074625\/((vr (min a c):Int):Rat)<=v*BR):=fun t ht hm=>by
  rcases ht with ht | ht
  ·left;omega
  ·exact .inr (Rat.le_trans (Rat.intCast_le_intCast.2 (vr_le hm)) ht)
 rcases h with h | h
 ·exact key a h (by omega)
 ·exact key c h (by omega)
theorem hull_hi{v:Rat}{x y:Sp}(hx:SpOk x)(hy:SpOk y)(fx:x≠none)(fy:y≠none)(h:HiR v x\/HiR v y):HiR v (hullI x y):=by
 rcases x with _ | ⟨a,b⟩
 ·exact absurd rfl fx
 rcases y with _ | ⟨c,d⟩
 ·exact absurd rfl fy
 obtain⟨A1,A2,A3,A4,A5⟩:=hx;obtain⟨B1,B2,B3,B4,B5⟩:=hy
 show HiR v (mkI (min a c) (max b d))
 rw[mkI_some (by omega) (by omega) (by omega)]
 have key:∀t:Int,(t=19342822337206103650074625\/v*BR<=((vr t:Int):Rat))->t<=max b d->(max b d=19342822337206103650074625\/v*BR<=((vr (max b d):Int):Rat)):=fun t ht hm=>by
  rcases ht with ht | ht
  ·left;omega
  ·exact .inr (Rat.le_trans ht (Rat.intCast_le_intCast.2 (vr_le hm)))
 rcases h with h | h
 ·exact key b h (by omega)
 ·exact key d h (by omega)
theorem neg_R{v:Rat}{x:Sp}(hx:FinI x):(LoR v x->HiR (-v) (negI x))/\(HiR v x->LoR (-v) (negI x))/\FinI (negI x):=by
 rcases x with _ | ⟨a,b⟩
 ·exact hx.elim
 have ok:=hx.ok;obtain⟨h1,h2,h3⟩:=hx;rw[negI_some ok]
 refine⟨fun h=>?_,fun h=>?_,⟨by omega,by omega,by omega⟩⟩
 ·rcases h with h | h
  ·omega
  ·right
   rw[vr_neg,Rat.intCast_neg,Rat.neg_mul];exact Rat.neg_le_neg h
 ·rcases h with h | h
  ·omega
  ·right
   rw[vr_neg,Rat.intCast_neg,Rat.neg_mul];exact Rat.neg_le_neg h
theorem dn_R{V p:Int}(h:Dn V p):p= -19342822337206103650074625\/((vr p:Int):Rat)<=((V:Int):Rat):=by
 obtain⟨h1,h2,h3,h4⟩:=h
 by_cases c:p= -19342822337206103650074625
 ·exact .inl c
 ·exact .inr (Rat.intCast_le_intCast.2 (h3 (by omega)))
theorem up_R{V p:Int}(h:Up V p):p=19342822337206103650074625\/((V:Int):Rat)<=((vr p:Int):Rat):=by
 obtain⟨h1,h2,h3,h4⟩:=h
 by_cases c:p=19342822337206103650074625
 ·exact .inl c
 ·have:=h3 (by omega)
  rw[vr_neg]at this;exact .inr (Rat.intCast_le_intCast.2 (by omega))
theorem add_R{v w:Rat}{x y:Sp}(hx:FinI x)(hy:FinI y):(LoR v x->LoR w y->LoR (v+w) (addI x y))/\(HiR v x->HiR w y->HiR (v+w) (addI x y))/\SpOk (addI x y):=by
 rcases x with _ | ⟨a,b⟩
 ·exact hx.elim
 rcases y with _ | ⟨c,d⟩
 ·exact hy.elim
 obtain⟨h1,h2,h3⟩:=hx;obtain⟨k1,k2,k3⟩:=hy;have s1:=(addp_spec (x:=a) (y:=c) true (by omega) (by omega) (by omega) (by omega)).1;have s2:=addp_spec (x:=b) (y:=d) true (by omega) (by omega) (by omega) (by omega);have m1:=s1.mono s2.1 (Int.add_le_add (vr_le h1) (vr_le k1));have m2:=dn_le_up s2.1 s2.2;have b1:=s1.1;have b2:=s1.2.1;have b3:=s2.2.1;have b4:=s2.2.2.1
 have e:addI (some (a,b)) (some (c,d))=some (addp false a c,addp true b d):=mkI_some (by omega) (by omega) (by omega)
 rw[e]
 refine⟨fun h k=>?_,fun h k=>?_,⟨by omega,by omega,by omega,by omega,by omega⟩⟩
 ·rcases h with h | h
  ·omega
  rcases k with k | k
  ·omega
  rcases dn_R s1 with g | g
  ·exact .inl g
  ·right
   rw[Rat.intCast_add]at g;rw[Rat.add_mul];exact Rat.le_trans g (radd h k)
 ·rcases h with h | h
  ·omega
  rcases k with k | k
  ·omega
  rcases up_R s2.2 with g | g
  ·exact .inl g
  ·right
   rw[Rat.intCast_add]at g;rw[Rat.add_mul];exact Rat.le_trans (radd h k) g
theorem corner{A B C D x y:Rat}(h1:A<=x)(h2:x<=B)(k1:C<=y)(k2:y<=D):(A*C<=x*y\/A*D<=x*y\/B*C<=x*y\/B*D<=x*y)/\(x*y<=A*C\/x*y<=A*D\/x*y<=B*C\/x*y<=B*D):=by
 have nn:∀{p q s t:Rat},p<=q->s<=t->0<=(q-p)*(t-s):=fun a b=>Rat.mul_nonneg ((Rat.le_iff_sub_nonneg _ _).1 a) ((Rat.le_iff_sub_nonneg _ _).1 b)
 by_cases cy:0<=y
 ·have e1:=nn h1 cy;have e2:=nn h2 cy
  constructor
  ·by_cases cA:0<=A
   ·left
    have:=nn cA k1
    grind
   ·right;left
    have:=nn (Rat.le_of_lt (Rat.not_le.1 cA)) k2
    grind
  ·by_cases cB:0<=B
   ·right;right;right
    have:=nn cB k2
    grind
   ·right;right;left
    have:=nn (Rat.le_of_lt (Rat.not_le.1 cB)) k1
    grind
 ·have cy':=Rat.le_of_lt (Rat.not_le.1 cy)
  have e1:=nn h1 cy';have e2:=nn h2 cy'
  constructor
  ·by_cases cB:0<=B
   ·right;right;left
    have:=nn cB k1
    grind
   ·right;right;right
    have:=nn (Rat.le_of_lt (Rat.not_le.1 cB)) k2
    grind
  ·by_cases cA:0<=A
   ·right;left
    have:=nn cA k2
    grind
   ·left
    have:=nn (Rat.le_of_lt (Rat.not_le.1 cA)) k1
    grind
theorem pro_R{x y:Int}(x1: -19342822337206103650074625 < x)(x2:x < 19342822337206103650074625)(y1: -19342822337206103650074625 < y)(y2:y < 19342822337206103650074625):
  ((vl (ml (ep x) (ep y)):Int):Rat)*BR=((vr x:Int):Rat)*((vr y:Int):Rat):=by
 have h:=(pro_spec x1 x2 y1 y2).2
 unfold BR
 rw[<-Rat.intCast_mul,<-Rat.intCast_mul,h]
theorem under{p:Int}{P v:Rat}{V:Int}(h:p= -19342822337206103650074625\/((vr p:Int):Rat)<=((V:Int):Rat))(e:((V:Int):Rat)*BR=P)(k:P<=v*BR*BR):p= -19342822337206103650074625\/((vr p:Int):Rat)<=v*BR:=by
 rcases h with h | h
 ·exact .inl h
 ·right
  refine Rat.le_trans h (Rat.le_of_mul_le_mul_right (c:=BR) ?_ br_pos);rw[e];exact k
theorem above{p:Int}{P v:Rat}{V:Int}(h:p=19342822337206103650074625\/((V:Int):Rat)<=((vr p:Int):Rat))(e:((V:Int):Rat)*BR=P)(k:v*BR*BR<=P):p=19342822337206103650074625\/v*BR<=((vr p:Int):Rat):=by
 rcases h with h | h
 ·exact .inl h
 ·right
  refine Rat.le_trans (Rat.le_of_mul_le_mul_right (c:=BR) ?_ br_pos) h;rw[e];exact k
theorem lo_less{m p:Int}{v:Rat}(h:p= -19342822337206103650074625\/((vr p:Int):Rat)<=v*BR)(hm:m<=p)(hb: -19342822337206103650074625<=m):m= -19342822337206103650074625\/((vr m:Int):Rat)<=v*BR:=by
 rcases h with h | h
 ·left;omega
 ·exact .inr (Rat.le_trans (Rat.intCast_le_intCast.2 (vr_le hm)) h)
theorem hi_more{m p:Int}{v:Rat}(h:p=19342822337206103650074625\/v*BR<=((vr p:Int):Rat))(hm:p<=m)(hb:m<=19342822337206103650074625):m=19342822337206103650074625\/v*BR<=((vr m:Int):Rat):=by
 rcases h with h | h
 ·left;omega
 ·exact .inr (Rat.le_trans h (Rat.intCast_le_intCast.2 (vr_le hm)))
theorem mul_R{v w:Rat}{x y:Sp}(hx:FinI x)(hy:FinI y)(v1:LoR v x)(v2:HiR v x)(w1:LoR w y)(w2:HiR w y):LoR (v*w) (mulI x y)/\HiR (v*w) (mulI x y)/\SpOk (mulI x y):=by
 rcases x with _ | ⟨a,b⟩
 ·exact hx.elim
 rcases y with _ | ⟨c,d⟩
 ·exact hy.elim
 obtain⟨h1,h2,h3⟩:=hx;obtain⟨k1,k2,k3⟩:=hy;replace v1:=v1.resolve_left (by omega);replace v2:=v2.resolve_left (by omega);replace w1:=w1.resolve_left (by omega);replace w2:=w2.resolve_left (by omega);obtain⟨cl,ch⟩:=corner v1 v2 w1 w2
 have e:v*BR*(w*BR)=v*w*BR*BR:=by grind
 rw[e]at cl ch;have s1:=mulp_spec (x:=a) (y:=c) (by omega) (by omega) (by omega) (by omega);have s2:=mulp_spec (x:=a) (y:=d) (by omega) (by omega) (by omega) (by omega);have s3:=mulp_spec (x:=b) (y:=c) (by omega) (by omega) (by omega) (by omega);have s4:=mulp_spec (x:=b) (y:=d) (by omega) (by omega) (by omega) (by omega);have p1:=pro_R (x:=a) (y:=c) (by omega) (by omega) (by omega) (by omega)
 have p2:=pro_R (x:=a) (y:=d) (by omega) (by omega) (by omega) (by omega);have p3:=pro_R (x:=b) (y:=c) (by omega) (by omega) (by omega) (by omega);have p4:=pro_R (x:=b) (y:=d) (by omega) (by omega) (by omega) (by omega);obtain⟨m,hm,m1,m2,m3,m4,_⟩:=least4 (mulp false a c) (mulp false a d) (mulp false b c) (mulp false b d);obtain⟨M,hM,M1,M2,M3,M4,_⟩:=most4 (mulp true a c) (mulp true a d) (mulp true b c) (mulp true b d)
 have le:=dn_le_up s1.1 s1.2;have t1:=s1.1.2.1;have t2:=s1.2.2.1;have B1:=(mulp_bd (x:=a) (y:=c) false).1;have B2:=(mulp_bd (x:=a) (y:=d) false).1;have B3:=(mulp_bd (x:=b) (y:=c) false).1;have B4:=(mulp_bd (x:=b) (y:=d) false).1;have C1:=(mulp_bd (x:=a) (y:=c) true).2;have C2:=(mulp_bd (x:=a) (y:=d) true).2;have C3:=(mulp_bd (x:=b) (y:=c) true).2
 have C4:=(mulp_bd (x:=b) (y:=d) true).2
 have b1: -19342822337206103650074625<=m:=by omega
 have b2:M<=19342822337206103650074625:=by omega
 have eq:mulI (some (a,b)) (some (c,d))=some (m,M):=by
  show cor mulp a b c d=_
  unfold cor
  rw[hm,hM];exact mkI_some (by omega) (by omega) (by omega)
 rw[eq];refine⟨?_,?_,⟨b1,by omega,b2,by omega,by omega⟩⟩
 ·rcases cl with g | g | g | g
  ·exact lo_less (under (dn_R s1.1) p1 g) m1 b1
  ·exact lo_less (under (dn_R s2.1) p2 g) m2 b1
  ·exact lo_less (under (dn_R s3.1) p3 g) m3 b1
  ·exact lo_less (under (dn_R s4.1) p4 g) m4 b1
 ·rcases ch with g | g | g | g
  ·exact hi_more (above (up_R s1.2) p1 g) M1 b2
  ·exact hi_more (above (up_R s2.2) p2 g) M2 b2
  ·exact hi_more (above (up_R s3.2) p3 g) M3 b2
  ·exact hi_more (above (up_R s4.2) p4 g) M4 b2
theorem rq_sid{up:Bool}{l r:Int}(h:Rq up l SC r):Sid up (l*2^KK) SC r:=by
 rw[rq_some (by decide),show sgi (decide (SC < 0)) SC=SC from rfl,show sgi (decide (SC < 0)) l=l from rfl]at h
 exact h
theorem sc_pos:(0:Int) < SC:=by decide
theorem place_le{up:Bool}{l r p:Int}(h:Rq up l SC r)(p1: -19342822337206103650074625 < p)(p2:p < 19342822337206103650074625)(e:vr p*SC<=l*2^KK):p<=r:=
 Sid.mono (up:=up) (B:=1) (by decide) sc_pos (sid_exact (by decide) p1 p2 (Int.mul_one _)) (rq_sid h) (by rw[Int.mul_one];exact e)
theorem le_place{up:Bool}{l r p:Int}(h:Rq up l SC r)(p1: -19342822337206103650074625 < p)(p2:p < 19342822337206103650074625)(e:l*2^KK<=vr p*SC):r<=p:=
 Sid.mono (up:=up) (D:=1) sc_pos (by decide) (rq_sid h) (sid_exact (by decide) p1 p2 (Int.mul_one _)) (by rw[Int.mul_one];exact e)
theorem one_vr:vr (opl 1)=2^KK:=by rw[opl_vr (by decide) (by decide),Int.one_mul]
theorem one_bd:0 < opl 1/\opl 1 < 19342822337206103650074625:=opl_pos (by decide) (by decide)
theorem rq_unit{up:Bool}{l r:Int}(h:Rq up l SC r)(h1: -SC<=l)(h2:l<=SC): -opl 1<=r/\r<=opl 1:=by
 obtain⟨o1,o2⟩:=one_bd;have hp:=p2pos KK
 constructor
 ·refine place_le h (by omega) (by omega) ?_;rw[vr_neg,one_vr,Int.neg_mul,Int.mul_comm,<-Int.neg_mul];exact Int.mul_le_mul_of_nonneg_right h1 (by omega)
 ·refine le_place h (by omega) (by omega) ?_;rw[one_vr,Int.mul_comm (2^KK)];exact Int.mul_le_mul_of_nonneg_right h2 (by omega)
theorem rq_pair{l h r u:Int}(hr:Rq false l SC r)(hu:Rq true h SC u)(le:l<=h):r<=u:=by
 obtain⟨t,ht⟩:=rq_ex true l SC;have a:=Sid.mono sc_pos sc_pos (rq_sid ht) (rq_sid hu) (Int.mul_le_mul_of_nonneg_right (Int.mul_le_mul_of_nonneg_right le (by have:=p2pos KK;omega)) (Int.le_of_lt sc_pos))
 rcases sid_two sc_pos (rq_sid hr) (rq_sid ht)with ⟨b,_⟩ | ⟨b,_⟩ <;> omega
def SB (σ:Rat)(Z:Sp):Prop:=∃l h r u:Int,Z=some (r,u)/\Rq false l SC r/\Rq true h SC u/\ -SC<=l/\l<=h/\h<=SC/\(l= -SC\/((l+99:Int):Rat)<=σ)/\(h=SC\/σ<=((h-99:Int):Rat))/\σ<=((l+17592186044416:Int):Rat)/\((h-17592186044416:Int):Rat)<=σ
theorem SB.unit{σ:Rat}{Z:Sp}(h:SB σ Z):∃r u,Z=some (r,u)/\ -opl 1<=r/\r<=u/\u<=opl 1:=by
 obtain⟨l,h,r,u,rfl,hr,hu,h1,h2,h3,_⟩:=h;exact⟨r,u,rfl,(rq_unit hr h1 (by omega)).1,rq_pair hr hu h2,(rq_unit hu (by omega) h3).2⟩
theorem SB.fin{σ:Rat}{Z:Sp}(h:SB σ Z):FinI Z:=by
 obtain⟨o1,o2⟩:=one_bd;obtain⟨r,u,rfl,a,b,c⟩:=h.unit;exact⟨b,by omega,by omega⟩
theorem rq_lo{l r:Int}{v:Rat}(h:Rq false l SC r)(e:(l:Rat)<=v*SR):r= -19342822337206103650074625\/((vr r:Int):Rat)<=v*BR:=by
 have s:=rq_sid h;rw[sid_f]at s;obtain⟨_,_,h3,_⟩:=s
 by_cases c:r= -19342822337206103650074625
 ·exact .inl c
 ·right
  have a:=Rat.intCast_le_intCast.2 (h3 (by rename_i h1 _;omega));rw[Rat.intCast_mul,Rat.intCast_mul]at a;refine Rat.le_of_mul_le_mul_right (c:=SR) ?_ sr_pos;have b:=Rat.mul_le_mul_of_nonneg_right e (Rat.le_of_lt br_pos)
  unfold BR at *
  grind
theorem rq_hi{h u:Int}{v:Rat}(k:Rq true h SC u)(e:v*SR<=(h:Rat)):u=19342822337206103650074625\/v*BR<=((vr u:Int):Rat):=by
 have s:=(rq_sid k);rw[sid_t]at s;obtain⟨_,_,h3,_⟩:=s
 by_cases c:u=19342822337206103650074625
 ·exact .inl c
 ·right
  have a:=Rat.intCast_le_intCast.2 (h3 (by rename_i h1 _;omega));rw[vr_neg,Rat.intCast_mul,Rat.intCast_neg,Rat.intCast_neg,Rat.intCast_mul]at a;refine Rat.le_of_mul_le_mul_right (c:=SR) ?_ sr_pos;have b:=Rat.mul_le_mul_of_nonneg_right e (Rat.le_of_lt br_pos)
  unfold BR at *
  grind
theorem SB.lo{σ v:Rat}{Z:Sp}(h:SB σ Z)(v1: -1<=v)(v2:σ<=v*SR+99):LoR v Z:=by
 obtain⟨l,h,r,u,rfl,hr,hu,h1,h2,h3,hl,hh,_⟩:=h;refine rq_lo hr ?_
 rcases hl with rfl | hl
 ·have:=Rat.mul_le_mul_of_nonneg_right v1 (Rat.le_of_lt sr_pos)
  rw[Rat.intCast_neg]
  grind
 ·rw[Rat.intCast_add]at hl
  have e:((99:Int):Rat)=99:=rfl
  rw[e]at hl
  grind
def zp (x:Int):Rat:=((vr x:Int):Rat)*SR/BR
theorem zp_at (x:Int):zp x*BR=((vr x:Int):Rat)*SR:=Rat.div_mul_cancel (Rat.ne_of_gt br_pos)
theorem zp_in{x:Int}(h:fixB x=true):((fixI x:Int):Rat)<=zp x/\zp x<=((fixI x+1:Int):Rat):=by
 obtain⟨a,b⟩:=fix_holds h
 have a':=Rat.intCast_le_intCast.2 a
 have b':=Rat.intCast_lt_intCast.2 b
 rw[Rat.intCast_mul,Rat.intCast_mul]at a' b';have e:=zp_at x;have hp:=br_pos
 have e2:((2^KK:Int):Rat)=BR:=rfl
 rw[e2]at a' b'
 constructor
 ·refine Rat.le_of_mul_le_mul_right (c:=BR) ?_ hp;rw[e];exact a'
 ·refine Rat.le_of_mul_le_mul_right (c:=BR) ?_ hp;rw[e];exact Rat.le_of_lt b'
def zq (cos:Bool)(x:Int):Rat:=if cos then zp x+qt*SR else zp x
def su (cos:Bool)(x:Int):Rat:=sinU (ofX cos (fixI x)) (zq cos x)
def HalfS (Z:Sp):Prop:=∃r u,Rq false (PLo/2) SC r/\Rq true (PHi/2+1) SC u/\Z=mkI r u
def PartS (v:Int)(Z:Sp):Prop:=∃r u,Rq false (pL v) SC r/\Rq true (pH v) SC u/\Z=mkI r u
def AtP (q:Bool->Int->Int->Int)(n:Int)(Z:Sp):Prop:=
 (n=19342822337206103650074625/\HalfS Z)\/(n≠19342822337206103650074625/\n<=opl 1/\PartS (fixI n) Z)\/
 (n≠19342822337206103650074625/\¬n<=opl 1/\∃H l h,HalfS H/\PartS (fixI (q false (opl 1) n)) l/\PartS (fixI (q true (opl 1) n)) h/\Z=subI H (hullI l h))
def AtV (q:Bool->Int->Int->Int)(n:Int)(Z:Sp):Prop:=(n < 0/\∃Y,AtP q (-n) Y/\Z=negI Y)\/(¬n < 0/\AtP q n Z)
theorem two_bd:0 < opl 2/\opl 2 < 19342822337206103650074625:=opl_pos (by decide) (by decide)
theorem rq_two{up:Bool}{l r:Int}(h:Rq up l SC r)(h1: -(2*SC)<=l)(h2:l<=2*SC): -opl 2<=r/\r<=opl 2:=by
 obtain⟨o1,o2⟩:=two_bd;have hp:=p2pos KK
 have e:vr (opl 2)=2*2^KK:=opl_vr (by decide) (by decide)
 constructor
 ·refine place_le h (by omega) (by omega) ?_
  rw[vr_neg,e,show -(2*2^KK)*SC= -(2*SC)*2^KK by rw[Int.neg_mul,Int.neg_mul,Int.mul_assoc,Int.mul_assoc,Int.mul_comm (2^KK)]]
  exact Int.mul_le_mul_of_nonneg_right h1 (by omega)
 ·refine le_place h (by omega) (by omega) ?_
  rw[e,show 2*2^KK*SC=2*SC*2^KK by rw[Int.mul_assoc,Int.mul_assoc,Int.mul_comm (2^KK)]]
  exact Int.mul_le_mul_of_nonneg_right h2 (by omega)
theorem from_to{l h r u:Int}{Z:Sp}(hr:Rq false l SC r)(hu:Rq true h SC u)(hz:Z=mkI r u)(le:l<=h)(h1: -(2*SC)<=l)(h2:h<=2*SC):Z=some (r,u)/\FinI Z/\(∀x:Rat,(l:Rat)<=x*SR->LoR x Z)/\(∀x:Rat,x*SR<=(h:Rat)->HiR x Z):=by
 obtain⟨o1,o2⟩:=two_bd;have a:=rq_two hr h1 (by omega);have b:=rq_two hu (by omega) h2;have c:=rq_pair hr hu le
 have e:Z=some (r,u):=hz.trans (mkI_some c (by omega) (by omega))
 rw[e]
 exact⟨rfl,⟨c,by omega,by omega⟩,fun x hx=>rq_lo hr hx,fun x hx=>rq_hi hu hx⟩
theorem half_units:((PLo/2:Int):Rat)<=qt*SR/\qt*SR<=((PHi/2+1:Int):Rat):=by decide +kernel
theorem HalfS.is{Z:Sp}(h:HalfS Z):FinI Z/\(∀x:Rat,qt<=x->LoR x Z)/\(∀x:Rat,x<=qt->HiR x Z):=by
 obtain⟨r,u,hr,hu,hz⟩:=h;obtain⟨_,f,a,b⟩:=from_to hr hu hz (by decide) (by decide) (by decide);obtain⟨k1,k2⟩:=half_units
 refine⟨f,fun x hx=>a x (Rat.le_trans k1 (Rat.mul_le_mul_of_nonneg_right hx (Rat.le_of_lt sr_pos))),fun x hx=>b x (Rat.le_trans (Rat.mul_le_mul_of_nonneg_right hx (Rat.le_of_lt sr_pos)) k2)⟩
theorem ang_far{v:Int}(h0:0<=v)(h1:v<=SC):pAng v*SR-1500<=((pL v:Int):Rat)/\((pH v:Int):Rat)<=pAng v*SR+1500:=by
 obtain⟨f1,f2⟩:=frac_bd h0 h1;obtain⟨s1,s2⟩:=at_ser (frac_at (pU v)) f1 f2;obtain⟨p1,p2⟩:=half_turn
 have ab:(if SC < v*2 then qt/2 else 0)*SR-400<=((pA v:Int):Rat)/\((pB v:Int):Rat)<=(if SC < v*2 then qt/2 else 0)*SR+400:=by
  unfold pA pB
  by_cases c:SC < v*2
  ·rw[if_pos c,if_pos c,if_pos c]
   have k1:=Rat.intCast_le_intCast.2 (show PHi<=(PLo/4+400)*4 by decide)
   have k2:=Rat.intCast_le_intCast.2 (show (PHi/4+1-400)*4<=PLo by decide)
   rw[Rat.intCast_mul,Rat.intCast_add,show ((4:Int):Rat)=4 from rfl,show ((400:Int):Rat)=400 from rfl]at k1
   rw[Rat.intCast_mul,Rat.intCast_sub,show ((4:Int):Rat)=4 from rfl,show ((400:Int):Rat)=400 from rfl]at k2
   constructor <;> grind
  ·rw[if_neg c,if_neg c,if_neg c,Rat.intCast_zero]
   constructor <;> grind
 unfold pL pH pAng
 have e1:((pA v+aS (pU v) 111+ -400:Int):Rat)=((pA v:Int):Rat)+((aS (pU v) 111:Int):Rat)-400:=by
  rw[show pA v+aS (pU v) 111+ -400=pA v+aS (pU v) 111-400 by omega,Rat.intCast_sub,Rat.intCast_add]
  rfl
 have e2:((pB v+aS (pU v) 111+400:Int):Rat)=((pB v:Int):Rat)+((aS (pU v) 111:Int):Rat)+400:=by
  rw[Rat.intCast_add,Rat.intCast_add]
  rfl
 rw[e1,e2];generalize (if SC < v*2 then qt/2 else 0)=k at *;generalize atT ((pU v:Rat) /SR)=t at *
 constructor <;> grind
theorem ang_one:pAng SC=qt/2:=by
 have u:pU SC=0:=by decide
 unfold pAng
 rw[if_pos (by decide),u,Rat.intCast_zero,show (0:Rat) /SR=0 by grind,at_zero]
 grind
theorem PartS.is{v:Int}{Z:Sp}(h:PartS v Z)(h0:0<=v)(h1:v<=SC):FinI Z/\(∀x:Rat,pAng v*SR<=x*SR+214->LoR x Z)/\(∀x:Rat,x*SR<=pAng v*SR+214->HiR x Z):=by
 obtain⟨r,u,hr,hu,hz⟩:=h;obtain⟨w1,w2⟩:=ang_within h0 h1;obtain⟨f1,f2⟩:=ang_far h0 h1;obtain⟨b1,b2⟩:=ang_bd13 h0 h1;have sp:=sr_pos;have n1:=Rat.mul_le_mul_of_nonneg_right b1 (Rat.le_of_lt sp);have n2:=Rat.mul_le_mul_of_nonneg_right b2 (Rat.le_of_lt sp)
 rw[Rat.intCast_add,show ((214:Int):Rat)=214 from rfl]at w1
 rw[Rat.intCast_sub,show ((214:Int):Rat)=214 from rfl]at w2
 have big:(3000:Rat)<=SR:=by decide +kernel
 have le:pL v<=pH v:=Rat.intCast_le_intCast.1 (by grind)
 have lo: -(2*SC)<=pL v:=Rat.intCast_le_intCast.1 (by
  rw[Rat.intCast_neg,Rat.intCast_mul,show ((2:Int):Rat)=2 from rfl]
  grind)
 have hi:pH v<=2*SC:=Rat.intCast_le_intCast.1 (by
  rw[Rat.intCast_mul,show ((2:Int):Rat)=2 from rfl]
  grind)
 obtain⟨_,f,a,b⟩:=from_to hr hu hz le lo hi
 exact⟨f,fun x hx=>a x (by grind),fun x hx=>b x (by grind)⟩
theorem sub_R{v w:Rat}{x y:Sp}(hx:FinI x)(hy:FinI y):(LoR v x->HiR w y->LoR (v-w) (subI x y))/\(HiR v x->LoR w y->HiR (v-w) (subI x y))/\SpOk (subI x y):=by
 obtain⟨n1,n2,n3⟩:=neg_R (v:=w) hy;obtain⟨a1,a2,a3⟩:=add_R (v:=v) (w:= -w) hx n3
 rw[show v-w=v+ -w by grind]
 exact⟨fun h k=>a1 h (n2 k),fun h k=>a2 h (n1 k),a3⟩
theorem hull_fin{x y:Sp}(hx:FinI x)(hy:FinI y):FinI (hullI x y):=by
 rcases x with _ | ⟨a,b⟩
 ·exact hx.elim
 rcases y with _ | ⟨c,d⟩
 ·exact hy.elim
 have o1:=hx.ok;have o2:=hy.ok;obtain⟨h1,h2,h3⟩:=hx;obtain⟨k1,k2,k3⟩:=hy;rw[hullI_some o1 o2];exact⟨by omega,by omega,by omega⟩
theorem fin_some{x:Sp}(h:FinI x):x≠none:=by
 rcases x with _ | ⟨a,b⟩
 ·exact h.elim
 ·exact Option.some_ne_none _
theorem fix_unit{n:Int}(h0:0<=n)(h1:n<=opl 1):fixB n=true/\0<=fixI n/\fixI n<=SC:=by
 have t:=t30
 have o:opl 1 < opl 1073741824:=by decide
 have f:fixB n=true:=dt ⟨by omega,by omega⟩
 obtain⟨a,b⟩:=fix_holds f;have hp:=p2pos KK;have v0:=vr_le h0;have v1:=vr_le h1;rw[one_vr]at v1
 rw[show vr 0=0 from rfl]at v0
 refine⟨f,?_,?_⟩
 ·rw[fixI_yes f];exact Int.ediv_nonneg (Int.mul_nonneg v0 (Int.le_of_lt sc_pos)) (Int.le_of_lt hp)
 ·refine Int.le_of_mul_le_mul_right (a:=2^KK) ?_ hp
  have:=Int.mul_le_mul_of_nonneg_right v1 (Int.le_of_lt sc_pos)
  rw[Int.mul_comm (2^KK) SC]at this
  omega
theorem fix_up{x y:Int}(fx:fixB x=true)(fy:fixB y=true)(h:x<=y):fixI x<=fixI y:=by
 rw[fixI_yes fx,fixI_yes fy];exact Int.ediv_le_ediv (p2pos KK) (Int.mul_le_mul_of_nonneg_right (vr_le h) (Int.le_of_lt sc_pos))
theorem one_in:In (opl 1):=by
 obtain⟨a,b⟩:=one_bd;exact⟨by omega,by omega⟩
theorem inv_bd{q:Bool->Int->Int->Int}(hq:QF q){n:Int}(h1:¬n<=opl 1)(h2:n < 19342822337206103650074625):0<=q false (opl 1) n/\q false (opl 1) n<=q true (opl 1) n/\q true (opl 1) n<=opl 1:=by
 obtain⟨a,b⟩:=one_bd;refine⟨qt_nn one_in (by omega) (by omega) (by omega) (hq false (opl 1) n),q_side hq _ _ (by omega),?_⟩;exact qt_y one_in (by omega) a (by omega) (by omega) (qt_self (x:=opl 1) (by omega) (by omega) b) (hq true (opl 1) n)
theorem sub_is{H l h Z:Sp}{v1 v2:Int}(hH:HalfS H)(hl:PartS v1 l)(hh:PartS v2 h)(a0:0<=v1)(a1:v1<=v2)(a2:v2<=SC)(hz:Z=subI H (hullI l h)):
  SpOk Z/\(∀x:Rat,(qt-x)*SR<=pAng v2*SR+214->LoR x Z)/\(∀x:Rat,pAng v1*SR<=(qt-x)*SR+214->HiR x Z):=by
 obtain⟨fH,H1,H2⟩:=hH.is;obtain⟨fl,l1,l2⟩:=hl.is a0 (by omega);obtain⟨fh,h1,h2⟩:=hh.is (by omega) a2;have fu:=hull_fin fl fh;subst hz
 refine⟨(sub_R (v:=0) (w:=0) fH fu).2.2,fun x hx=>?_,fun x hx=>?_⟩
 ·have k:=(sub_R (v:=qt) (w:=qt-x) fH fu).1 (H1 _ (by grind)) (hull_hi fl.ok fh.ok (fin_some fl) (fin_some fh) (.inr (h2 _ hx)))
  rw[show qt-(qt-x)=x by grind]at k
  exact k
 ·have k:=(sub_R (v:=qt) (w:=qt-x) fH fu).2.1 (H2 _ (by grind)) (hull_lo fl.ok fh.ok (fin_some fl) (fin_some fh) (.inl (l1 _ hx)))
  rw[show qt-(qt-x)=x by grind]at k
  exact k
theorem u214:(214/SR:Rat)*SR=214:=Rat.div_mul_cancel (Rat.ne_of_gt sr_pos)
theorem big_sr:(10000:Rat)<=SR:=by decide +kernel
theorem AtP.ok{q:Bool->Int->Int->Int}(hq:QF q){n:Int}{Z:Sp}(h:AtP q n Z)(h0:0<=n)(h1:n<=19342822337206103650074625):SpOk Z/\HiR 0 Z:=by
 obtain⟨q1,q2⟩:=qt_bd;have sp:=sr_pos;have bs:=big_sr
 rcases h with⟨_,h⟩ | ⟨_,c,h⟩ | ⟨e,c,H,l,k,hH,hl,hk,hz⟩
 ·exact⟨h.is.1.ok,h.is.2.2 0 (by grind)⟩
 ·obtain⟨_,a,b⟩:=fix_unit h0 c;obtain⟨f,f1,f2⟩:=h.is a b;refine⟨f.ok,f2 0 ?_⟩
  have:=Rat.mul_le_mul_of_nonneg_right (ang_bd13 a b).1 (Rat.le_of_lt sp)
  grind
 ·obtain⟨b1,b2,b3⟩:=inv_bd hq c (by omega);obtain⟨f1,a1,a2⟩:=fix_unit b1 (by omega)
  obtain⟨f2,a3,a4⟩:=fix_unit (show 0<=q true (opl 1) n by omega) b3
  obtain⟨s1,s2,s3⟩:=sub_is hH hl hk a1 (fix_up f1 f2 b2) a4 hz;refine⟨s1,s3 0 ?_⟩;have m:=ang_mono a1 a2 (Int.le_refl SC);rw[ang_one]at m
  have:=Rat.mul_le_mul_of_nonneg_right q1 (Rat.le_of_lt sp)
  grind
theorem AtP.grow{q:Bool->Int->Int->Int}(hq:QF q){a b:Int}{Za Zb:Sp}(ha:AtP q a Za)(hb:AtP q b Zb)(h0:0<=a)(h:a<=b)(h1:b<=19342822337206103650074625):∃x,LoR x Za/\HiR x Zb:=by
 obtain⟨q1,q2⟩:=qt_bd;have sp:=sr_pos;have bs:=big_sr;have u:=u214;have qs:=Rat.mul_le_mul_of_nonneg_right q1 (Rat.le_of_lt sp)
 rcases ha with⟨e,ha⟩ | ⟨_,ca,ha⟩ | ⟨ea,ca,H,l,k,hH,hl,hk,hz⟩
 ·rcases hb with⟨_,hb⟩ | ⟨k,_⟩ | ⟨k,_⟩
  ·exact⟨qt,ha.is.2.1 qt (by grind),hb.is.2.2 qt (by grind)⟩
  ·omega
  ·omega
 ·obtain⟨fa,a0,a1⟩:=fix_unit h0 ca;obtain⟨_,f1,f2⟩:=ha.is a0 a1;have ma:=ang_mono a0 a1 (Int.le_refl SC);rw[ang_one]at ma;refine⟨pAng (fixI a)-214/SR,f1 _ (by grind),?_⟩
  rcases hb with⟨_,hb⟩ | ⟨_,cb,hb⟩ | ⟨eb,cb,H,l,k,hH,hl,hk,hz⟩
  ·refine hb.is.2.2 _ (Rat.le_of_mul_le_mul_right (c:=SR) ?_ sp)
   grind
  ·obtain⟨fb,b0,b1⟩:=fix_unit (by omega:0<=b) cb;obtain⟨_,g1,g2⟩:=hb.is b0 b1;have m:=ang_mono a0 (fix_up fa fb h) b1;exact g2 _ (by grind)
  ·obtain⟨b1,b2,b3⟩:=inv_bd hq cb (by omega);obtain⟨g1,c1,c2⟩:=fix_unit b1 (by omega)
   obtain⟨g2,c3,c4⟩:=fix_unit (show 0<=q true (opl 1) b by omega) b3
   obtain⟨s1,s2,s3⟩:=sub_is hH hl hk c1 (fix_up g1 g2 b2) c4 hz;have m:=ang_mono c1 c2 (Int.le_refl SC);rw[ang_one]at m;exact s3 _ (by grind)
 ·obtain⟨b1,b2,b3⟩:=inv_bd hq ca (by omega);obtain⟨g1,c1,c2⟩:=fix_unit b1 (by omega)
  obtain⟨g2,c3,c4⟩:=fix_unit (show 0<=q true (opl 1) a by omega) b3
  obtain⟨s1,s2,s3⟩:=sub_is hH hl hk c1 (fix_up g1 g2 b2) c4 hz
  rcases hb with⟨_,hb⟩ | ⟨_,cb,hb⟩ | ⟨eb,cb,H',l',k',hH',hl',hk',hz'⟩
  ·refine⟨qt,s2 qt ?_,hb.is.2.2 qt (by grind)⟩
   have:=Rat.mul_le_mul_of_nonneg_right (ang_bd13 c3 c4).1 (Rat.le_of_lt sp)
   grind
  ·omega
  ·obtain⟨d1,d2,d3⟩:=inv_bd hq cb (by omega);obtain⟨k1,e1,e2⟩:=fix_unit d1 (by omega)
   obtain⟨k2,e3,e4⟩:=fix_unit (show 0<=q true (opl 1) b by omega) d3
   obtain⟨t1,t2,t3⟩:=sub_is hH' hl' hk' e1 (fix_up k1 k2 d2) e4 hz';obtain⟨o1,o2⟩:=one_bd;have far:=far_pp hq true (n:=opl 1) (p:=opl 1) (e:=b) (r:=a) o1 (Int.le_refl _) (by omega) h one_in ⟨by omega,by omega⟩
   have m:=ang_mono e1 (fix_up k1 g2 far) c4;refine⟨qt-(pAng (fixI (q false (opl 1) b))-214/SR),s2 _ (by grind),t3 _ (by grind)⟩
theorem AtV.grow{q:Bool->Int->Int->Int}(hq:QF q){a b:Int}{Za Zb:Sp}(ha:AtV q a Za)(hb:AtV q b Zb)(h0: -19342822337206103650074625<=a)(h:a<=b)(h1:b<=19342822337206103650074625):SpOk Za/\SpOk Zb/\∃x,LoR x Za/\HiR x Zb:=by
 have ng:∀{Y:Sp} (h:SpOk Y) (v:Rat),(HiR v Y->LoR (-v) (negI Y))/\(LoR v Y->HiR (-v) (negI Y)):=fun {Y} hY v=>by
  rcases Y with _ | ⟨c,d⟩
  ·exact⟨fun h=>h.elim,fun h=>h.elim⟩
  rw[negI_some hY];obtain⟨A1,A2,A3,A4,A5⟩:=hY
  constructor
  ·intro k
   rcases k with k | k
   ·exact .inl (by omega)
   ·right
    rw[vr_neg,Rat.intCast_neg,Rat.neg_mul];exact Rat.neg_le_neg k
  ·intro k
   rcases k with k | k
   ·exact .inl (by omega)
   ·right
    rw[vr_neg,Rat.intCast_neg,Rat.neg_mul];exact Rat.neg_le_neg k
 rcases ha with⟨na,Ya,ha,rfl⟩ | ⟨na,ha⟩
 ·have oa:=ha.ok hq (by omega) (by omega)
  rcases hb with⟨nb,Yb,hb,rfl⟩ | ⟨nb,hb⟩
  ·have ob:=hb.ok hq (by omega) (by omega);obtain⟨x,x1,x2⟩:=AtP.grow hq hb ha (by omega) (by omega) (by omega);exact⟨negI_ok oa.1,negI_ok ob.1,-x,(ng oa.1 x).1 x2,(ng ob.1 x).2 x1⟩
  ·have ob:=hb.ok hq (by omega) (by omega);refine⟨negI_ok oa.1,ob.1,0,?_,ob.2⟩;have k:=(ng oa.1 0).1 oa.2
   rw[show (-0:Rat)=0 from by decide]at k
   exact k
 ·rcases hb with⟨nb,_⟩ | ⟨nb,hb⟩
  ·omega
  ·have oa:=ha.ok hq (by omega) (by omega);have ob:=hb.ok hq (by omega) (by omega);exact⟨oa.1,ob.1,AtP.grow hq ha hb (by omega) h h1⟩
theorem vr_shifts{r:Int}(h:0 < r):∀k:Nat,vr (r+k*9223372036854775808)=vr r*2^k
 | 0=>by rw[show r+((0:Nat):Int)*9223372036854775808=r by omega,Int.pow_zero,Int.mul_one]
 | k+1=>by
  rw[show r+((k+1:Nat):Int)*9223372036854775808=(r+k*9223372036854775808)+9223372036854775808 by omega,vr_shift (by omega),vr_shifts h k,Int.pow_succ,Int.mul_assoc]
def p60:Int:=9670272082156500260225025
theorem p60_vr:vr p60*2^60=2^KK:=by
 have h:=vr_shifts (r:=p60) (by decide) 60
 have e:p60+((60:Nat):Int)*9223372036854775808=opl 1:=by decide
 rw[e,opl_vr (by decide) (by decide),Int.one_mul]at h;exact h.symm
def UnitS (z:Sp):Prop:=∃r u,z=some (r,u)/\ -opl 1<=r/\r<=u/\u<=opl 1
theorem UnitS.fin{z:Sp}(h:UnitS z):FinI z:=by
 obtain⟨o1,o2⟩:=one_bd;obtain⟨r,u,rfl,a,b,c⟩:=h;exact⟨b,by omega,by omega⟩
theorem p60_R:((vr p60:Int):Rat)*2^60=BR:=by
 have h:((vr p60*2^60:Int):Rat)=((2^KK:Int):Rat):=by rw[p60_vr]
 have e:((2^60:Int):Rat)=2^60:=by decide +kernel
 rw[Rat.intCast_mul,e]at h;exact h
theorem p60_bd:0 < p60/\p60 < 19342822337206103650074625:=by decide
theorem meetL2{x y:Sp}(hx:SpOk x):meetL [x,y]=meetI x y:=by
 show meetI (meetI allI x) y=_
 rw[meet_all hx]
end Go.Proofs.YtomikokonmikgaaGreatDoor
namespace Go.Proofs.YtomikokonmikgaaGreatDoor
set_option maxHeartbeats 8000000
open Go.RowKit
set_option linter.unusedVariables false
set_option linter.unusedSimpArgs false
set_option maxRecDepth 100000
theorem Na.stn{w w':World}{base n c g:Nat}{A:Option Addr}{l:List Int}{a b:Array Value}{T:TypeId}(h:Na w base A n c l)(S:StN w w' g a b T)(hT:(T==24)=false):Na w' base A n c l:=by
 obtain⟨r,h1,h2⟩:=h;refine⟨r,⟨h1.1,?_⟩,h2⟩
 rcases h1.2 with h3 | ⟨g0,cap,cur,hv,hg,hh,q⟩
 ·exact .inl h3
 ·refine .inr ⟨g0,cap,cur,hv,hg,?_,q⟩
  rw[S.2.2.1 g0 (fun e=>?_)]
  ·exact hh
  ·subst e
   have hb:w.heap[g0]?=some (.cells a T (0,0)):=S.1
   rw[hh]at hb
   simp at hb
   rw[<-hb.2]at hT
   simp at hT
theorem Bo.grownN{w w':World}{base n c g:Nat}{A:Option Addr}{l:List Int}{a:Array Value}{T:TypeId}(X:Bo w g a T)(h:Na w base A n c l)(hT:(T==24)=false)(G:w.grownBy w' (ownA A)):Bo w' g a T:=by
 refine X.keep (G.block g X.lt (fun e=>?_))
 obtain⟨r,h1,h2⟩:=h
 rcases h1.2 with⟨h3,_⟩ | ⟨g0,cap,cur,hv,hg,hh,q⟩
 ·injection h3 with h4
  subst h4
  cases e
 ·injection hv with h4
  subst h4
  cases e
  have hb:=X
  unfold Bo at hb
  rw[hh]at hb
  simp at hb
  rw[<-hb.2]at hT
  simp at hT
theorem ne_row{A A2 B B2:Option Addr}{s1 s2:Nat}(hne:∀k,ownA A=some k->ownA B≠some k)(a1:ownA A2=ownA A\/ownA A2=some s1)(a2:ownA B2=ownA B\/ownA B2=some s2)(lB:∀k,ownA B=some k->k < s1)(lA:∀k,ownA A2=some k->k < s2):∀k,ownA A2=some k->ownA B2≠some k:=by
 intro k h c
 have hk:=lA k h
 rcases a2 with e | e
 ·rw[e]at c;have hb:=lB k c
  rcases a1 with f | f
  ·rw[f]at h;exact hne k h c
  ·rw[f]at h
   injection h with h
   omega
 ·rw[e]at c
  injection c with c
  omega
theorem own_ne{A B:Option Addr}(hne:∀k,ownA A=some k->ownA B≠some k):ownA B=none\/ownA B≠ownA A:=by
 rcases h:ownA B with _ | k
 ·exact .inl rfl
 ·exact .inr (fun c=>hne k c.symm h)
theorem own_ne'{A B:Option Addr}(hne:∀k,ownA A=some k->ownA B≠some k):ownA A=none\/ownA A≠ownA B:=by
 rcases h:ownA A with _ | k
 ·exact .inl rfl
 ·exact .inr (fun c=>hne k h c.symm)
def EInv (w:World)(A B:Option Addr)(m c d:Nat)(la lb:List Int)(wr:World):Prop:=
 Na wr w.heap.size A m c la/\Na wr w.heap.size B m d lb/\(∀k,ownA A=some k->ownA B≠some k)/\Below w.heap.size w wr
theorem kvEnds{w:World}{A:Option Addr}{n c m:Nat}{l:List Sp}(h:Il8 w A n c l)(hm:(lowL l).length=m):Calls Tryz.prog 113 #[.slice A n c] w (fun e w'=>∃A1 c1 B1 d1,e= .returned (.tuple #[.slice A1 m c1,.slice B1 m d1])/\Nl w' A1 m c1 (lowL l)/\Nl w' B1 m d1 (highL l)/\Below w.heap.size w w'):=by
 have HM:=ie hm;have HLn:=ie h.1;have hcap:=h.2.1;have hbig:=h.2.2.1;have hD0:=h;clear hm h
 go_enter Tryz.func113,Tryz.ntmps113
 go_wp2
 go_loopw [2,3,8] (fun va vb i wr=>∃k A1 B1 m1 c1 d1,k<=n/\m1<=k/\va= .slice A1 m1 c1/\vb= .slice B1 m1 d1/\i= .int .i64 ((k:Nat):Int)/\EInv w A1 B1 m1 c1 d1 (lowL (l.take k)) (highL (l.take k)) wr) (fun _ _ i _=>n-(intOf i).toNat)
 case atStart=>exact ⟨0,_,_,_,_,_,Nat.zero_le _,Nat.zero_le _,rfl,rfl,rfl,Na.nil _ _,Na.nil _ _,(fun k h=>by cases h),Below.refl _ _⟩
 case round=>
  obtain⟨k,A1,B1,m1,c1,d1,hk,hmk,rfl,rfl,rfl,N1,N2,hne,hB⟩:=hrel;have HB:=ie hB;clear hB
  by_cases hlt:k < n
  ·have tlt:decide ((k:Int) < (n:Int))=true:=by simp;omega
   have h:=hD0.below HB.out;obtain⟨b,o,rfl,hcell⟩:=h.2.2.2 (by omega);obtain⟨e,D,s,M,E,D',s',M',E',x0,x1,x2,x3,x4,x5,x6,x7,x8,hM,hM',hx⟩:=hcell k hlt;clear hcell h hD0
   have i1:(k:Int) < n:=by omega
   have i2:(0:Int)<=k:=by omega
   have hsl:=lowL_take (l:=l) (k:=k) (by rw[HLn.out];exact hlt);have hsh:=highL_take (l:=l) (k:=k) (by rw[HLn.out];exact hlt);rw[<-hx]at hsl hsh;generalize lowL (l.take k)=la at *;generalize highL (l.take k)=lb at *;obtain⟨x,hX⟩:∃x,rkI e D s M E D' s' M' E'=x:=⟨_,rfl⟩;rw[hX]at hsl hsh;have HX:=ie hX;have HSL:=ie hsl;have HSH:=ie hsh
   have HNE:=ie hne;clear hsl hsh hX hx hne;have hsz:=HB.out.size
   go_upto_region 4 with (fail)
   clear x0 x1 x2 x3 x4 x5 x6 x7 x8;generalize hWn:wr.alloc _=w3 at *;obtain⟨X5,BW⟩:=Bo.nw hWn;clear hWn;replace N1:=N1.b BW;replace N2:=N2.b BW;replace HB:=Hqb HB BW;clear BW;have xX5:=X5.cell
   go_wp2_with fail
   refine(kvOrE hM hM' HX.out).mono ?_;rintro ee w4 ⟨e1,K1,s1,M1,E1,K1b,s1b,M1b,E1b,rfl,v1,B⟩;clear xX5;replace X5:=X5.b B;replace N1:=N1.b B;replace N2:=N2.b B;replace HB:=Hqb HB B;clear B;clear HX hM hM';have xX5:=X5.cell;have zX50:=X5.frozen
   go_upto_region 5 with (fail)
   clear xX5 zX50;generalize hS:((((((((w4.setCell _ _).setCell _ _).setCell _ _).setCell _ _).setCell _ _).setCell _ _).setCell _ _).setCell _ _).setCell _ _=w5 at *;have SX:=StN.of9 X5 hS;replace N1:=N1.stn SX (by decide);replace N2:=N2.stn SX (by decide);replace HB:=ie (SX.below HB.out hsz);replace X5:=SX.box;clear SX hS
   rcases x with _ | ⟨xa,xb⟩
   ·obtain⟨rfl,y1,y1b⟩:=v1;have hsl2:=HSL.out;have hsh2:=HSH.out
    have hl0:la ++lo1 none=la:=List.append_nil la
    have hh0:lb ++hi1 none=lb:=List.append_nil lb
    rw[hl0]at hsl2;rw[hh0]at hsh2;clear HSL HSH hl0 hh0
    obtain⟨_,rfl,rfl,rfl,rfl,rfl,rfl,rfl,rfl⟩:=(show Ci true K1 s1 M1 E1 K1b s1b M1b E1b none from ⟨rfl,y1,y1b⟩).uniq Ci.none
    clear y1 y1b;refine jk [0,1,2] [some 14,some 15,some 16] [[],[],[0,1]] 3 0 [Jo.q9 true 0 false 0 0 0 false 0 0,Jo.q9 true 0 false 0 0 0 false 0 0,Jo.qb false] ?_ ?_
    ·refine jm ?_ ?_
     ·rintro wj hJ K hK;simp only[Jo.z]at hK|-;have xX5:=(X5.b hJ).cell;go_simp;exact hK.out _ _ rfl (br _ _)
     refine jm ?_ ?_
     ·rintro wj hJ K hK;simp only[Jo.z]at hK|-;go_simp;refine(kvNoneE).mono ?_;rintro ee wk ⟨rfl,B⟩;exact hK.out _ _ rfl B
     refine jm ?_ ?_
     ·rintro wj hJ _ rfl _ rfl K hK;simp only[Jo.z]at hK|-;go_simp
      repeat' split
      all_goals exact hK.out _ _ (congrArg Value.bool (by first | rfl | (exfalso;simp_all) | simp_all)) (br _ _)
     exact jo
    rintro w6 hJ _ rfl _ rfl _ rfl -;simp only[Jo.z];replace X5:=X5.b hJ;replace N1:=N1.b hJ;replace N2:=N2.b hJ;replace HB:=Hqb HB hJ;refine jd ?_;go_wp2
    go_roundw
    case rel=>exact ⟨k+1,_,_,_,_,_,by omega,by omega,rfl,rfl,by go_num,by rw[hsl2];exact N1,by rw[hsh2];exact N2,HNE.out,HB.out⟩
    case measure=>simp [intOf];omega
   ·obtain⟨rfl,a1,b1,o1,o1l,o1h⟩:=v1
    have hsl2:_=la ++[xa]:=HSL.out
    have hsh2:_=lb ++[xb]:=HSH.out
    clear HSL HSH o1 o1l o1h;refine jk [0,1,2] [some 14,some 15,some 16] [[],[],[0,1]] 3 0 [Jo.q9 false K1 s1 M1 E1 K1b s1b M1b E1b,Jo.q9 true 0 false 0 0 0 false 0 0,Jo.qb true] ?_ ?_
    ·refine jm ?_ ?_
     ·rintro wj hJ K hK;simp only[Jo.z]at hK|-;have xX5:=(X5.b hJ).cell;go_simp;exact hK.out _ _ rfl (br _ _)
     refine jm ?_ ?_
     ·rintro wj hJ K hK;simp only[Jo.z]at hK|-;go_simp;refine(kvNoneE).mono ?_;rintro ee wk ⟨rfl,B⟩;exact hK.out _ _ rfl B
     refine jm ?_ ?_
     ·rintro wj hJ _ rfl _ rfl K hK;simp only[Jo.z]at hK|-;go_simp
      repeat' split
      all_goals exact hK.out _ _ (congrArg Value.bool (by first | rfl | (exfalso;simp_all) | simp_all)) (br _ _)
     exact jo
    rintro w6 hJ _ rfl _ rfl _ rfl -;simp only[Jo.z];replace X5:=X5.b hJ;replace N1:=N1.b hJ;replace N2:=N2.b hJ;replace HB:=Hqb HB hJ;refine jd ?_;have xX5:=X5.cell
    go_wp2_with (at_builtin;refine wpList_na rfl _ _ rfl rfl rfl (N1.below (bel1 _ _)) a1 (Bo.new _ _ _) (by omega) (Nat.le_trans HB.out.size (bel1 _ _).size) ?_)
    intro A2 d2 w7 N1' G1 at1
    clear xX5;have hB2:=bt HB.out (bel1 _ (.cells #[.int .i64 K1,.bool s1,.int .u64 M1,.int .i64 E1] 24));have N1b:=N1.below (bel1 _ (.cells #[.int .i64 K1,.bool s1,.int .u64 M1,.int .i64 E1] 24));have N2b:=N2.below (bel1 _ (.cells #[.int .i64 K1,.bool s1,.int .u64 M1,.int .i64 E1] 24));replace X5:=(X5.below (bel1 _ (.cells #[.int .i64 K1,.bool s1,.int .u64 M1,.int .i64 E1] 24))).grownN N1b (by decide) G1
    replace HB:=ie (hB2.grown G1 hB2.size (fun k hk=>(N1b.own_lt k hk).1))
    have l1:∀k,ownA B1=some k->k < w6.heap.size+1:=fun k hk=>by
     have:=(N2b.own_lt k hk).2
     simpa using this
    replace N2:=N2b.kept G1 (own_ne HNE.out);clear N1 N1b N2b G1 hB2;have xX5:=X5.cell
    go_wp2_with (at_builtin;refine wpList_na rfl _ _ rfl rfl rfl (N2.below (bel1 _ _)) b1 (Bo.new _ _ _) (by omega) (Nat.le_trans HB.out.size (bel1 _ _).size) ?_)
    intro B2 d3 w8 N2' G2 at2
    clear xX5;have hB2:=bt HB.out (bel1 _ (.cells #[.int .i64 K1b,.bool s1b,.int .u64 M1b,.int .i64 E1b] 24));have N2b:=N2.below (bel1 _ (.cells #[.int .i64 K1b,.bool s1b,.int .u64 M1b,.int .i64 E1b] 24));have N1b:=N1'.below (bel1 _ (.cells #[.int .i64 K1b,.bool s1b,.int .u64 M1b,.int .i64 E1b] 24))
    have lA:∀k,ownA A2=some k->k < w7.heap.size+1:=fun k hk=>by
     have:=(N1b.own_lt k hk).2
     simpa using this
    have hne2:∀k,ownA A2=some k->ownA B2≠some k:=ne_row HNE.out at1 at2 l1 lA
    have hne1:∀k,ownA A2=some k->ownA B1≠some k:=ne_row HNE.out at1 (.inl rfl) l1 lA
    replace HB:=ie (hB2.grown G2 hB2.size (fun k hk=>(N2b.own_lt k hk).1))
    replace N1':=N1b.kept G2 (own_ne' hne1)
    clear N1b N2b G2 hB2 hne1 X5 N2 l1 lA at1 at2;go_wp2
    go_roundw
    case rel=>exact ⟨k+1,_,_,_,_,_,by omega,by omega,rfl,rfl,by go_num,by rw[hsl2];exact N1',by rw[hsh2];exact N2',hne2,HB.out⟩
    case measure=>simp [intOf];omega
  ·obtain rfl:k=n:=by omega
   have tlt:decide ((k:Int) < (k:Int))=false:=by simp
   have e1:l.take k=l:=List.take_of_length_le (by rw[HLn.out];omega)
   rw[e1]at N1 N2
   obtain rfl:m1=m:=by rw[<-HM.out];exact N1.len.symm
   have M1:=N1.nl (by omega);have M2:=N2.nl (by omega);clear N1 N2;go_wp2
   go_ret2
   exact⟨_,_,_,_,rfl,M1,M2,HB.out⟩
theorem kvMeet{w:World}{A:Option Addr}{n c:Nat}{l:List Sp}{z:Sp}(h:Il8 w A n c l)(hr:meetL l=z):Calls Tryz.prog 44 #[.slice A n c] w (PV w z):=by
 obtain⟨m,hm⟩:∃m,(lowL l).length=m:=⟨_,rfl⟩;have hln:=h.1;have hle:=len_lo l;have hok:=h.ok;have HM:=ie hm
 go_enter Tryz.func44,Tryz.ntmps44
 go_upto_region 1 with (fail)
 generalize hW1:w.alloc _=w1 at *;obtain⟨XR,HB⟩:=Bo.en1 hW1;replace h:=h.below HB.out;clear hW1
 go_wp2_with fail
 refine(kvEnds h HM.out).mono ?_;rintro ee w2 ⟨A1,c1,B1,d1,rfl,N1,N2,B⟩;replace XR:=XR.b B;replace HB:=Hqb HB B;clear B;clear h
 by_cases hl:m < n
 ·rw[meet_no (by omega)]at hr
  obtain rfl:none=z:=hr
  have tl:decide ((m:Int) < (n:Int))=true:=by simp;omega
  clear hm hle hln hok
  go_wp2_with fail
  refine(kvNoneE).mono ?_;rintro ee w3 ⟨rfl,B⟩;replace XR:=XR.b B;replace N1:=N1.b B;replace N2:=N2.b B;replace HB:=Hqb HB B;clear B;clear N1 N2;have xXR:=XR.cell;have zXR0:=XR.frozen;go_wp2;clear xXR zXR0;have SX:=StN.t9 XR true 0 false 0 0 0 false 0 0
  exact bq (by simp[results,Tryz.results44,go_sem,SX.box.cell]) rfl ⟨_,_,_,_,_,_,_,_,_,rfl,Ci.none,(SX.below HB.out (by omega))⟩
 ·have hr2:=(meet_some (by omega)).symm.trans hr
  have tl:decide ((m:Int) < (n:Int))=false:=by simp;omega
  clear hr;obtain⟨u,hu⟩:∃u,mxp (lowL l)=u:=⟨_,rfl⟩;obtain⟨v,hv⟩:∃v,mnp (highL l)=v:=⟨_,rfl⟩;rw[hu,hv]at hr2;have HU:=ie hu;have HVV:=ie hv;have HR:=ie hr2;clear hu hv hr2 hm hle hln hok
  go_wp2_with fail
  refine(nMost N1 HU.out).mono ?_;rintro ee w3 ⟨K1,s1,M1,E1,rfl,q1,B⟩;replace XR:=XR.b B;replace N2:=N2.b B;replace HB:=Hqb HB B;clear B
  go_wp2_with fail
  refine(nLeast N2 HVV.out).mono ?_;rintro ee w4 ⟨K2,s2,M2,E2,rfl,q2,B⟩;replace XR:=XR.b B;replace HB:=Hqb HB B;clear B
  go_wp2_with fail
  refine(kvMake q1.top q2.top q1.rk q2.rk HR.out).mono ?_;rintro ee w5 ⟨e3,K3,s3,M3,E3,K3b,s3b,M3b,E3b,rfl,v3,B⟩;replace XR:=XR.b B;replace HB:=Hqb HB B;clear B;clear N1 N2;have xXR:=XR.cell;have zXR0:=XR.frozen;go_wp2;clear xXR zXR0;have SX:=StN.t9 XR e3 K3 s3 M3 E3 K3b s3b M3b E3b
  exact bq (by simp[results,Tryz.results44,go_sem,SX.box.cell]) rfl ⟨_,_,_,_,_,_,_,_,_,rfl,v3,(SX.below HB.out (by omega))⟩
theorem kvHull{w:World}{A:Option Addr}{n c:Nat}{l:List Sp}{z:Sp}(h:Il8 w A n c l)(hr:hullL l=z):Calls Tryz.prog 148 #[.slice A n c] w (PV w z):=by
 obtain⟨m,hm⟩:∃m,(lowL l).length=m:=⟨_,rfl⟩;have hln:=h.1;have hle:=len_lo l;have hok:=h.ok;have HM:=ie hm
 go_enter Tryz.func148,Tryz.ntmps148
 go_upto_region 1 with (fail)
 generalize hW1:w.alloc _=w1 at *;obtain⟨XR,HB⟩:=Bo.en1 hW1;replace h:=h.below HB.out;clear hW1
 go_wp2_with fail
 refine(kvEnds h HM.out).mono ?_;rintro ee w2 ⟨A1,c1,B1,d1,rfl,N1,N2,B⟩;replace XR:=XR.b B;replace HB:=Hqb HB B;clear B;clear h;have hr2:=(hull_ends hok).symm.trans hr;clear hr;obtain⟨u,hu⟩:∃u,mnp (lowL l)=u:=⟨_,rfl⟩;obtain⟨v,hv⟩:∃v,mxp (highL l)=v:=⟨_,rfl⟩;rw[hu,hv]at hr2;have HU:=ie hu;have HVV:=ie hv;have HR:=ie hr2
 clear hu hv hr2 hm hle hln hok
 go_wp2_with fail
 refine(nLeast N1 HU.out).mono ?_;rintro ee w3 ⟨K1,s1,M1,E1,rfl,q1,B⟩;replace XR:=XR.b B;replace N2:=N2.b B;replace HB:=Hqb HB B;clear B
 go_wp2_with fail
 refine(nMost N2 HVV.out).mono ?_;rintro ee w4 ⟨K2,s2,M2,E2,rfl,q2,B⟩;replace XR:=XR.b B;replace HB:=Hqb HB B;clear B
 go_wp2_with fail
 refine(kvMake q1.top q2.top q1.rk q2.rk HR.out).mono ?_;rintro ee w5 ⟨e3,K3,s3,M3,E3,K3b,s3b,M3b,E3b,rfl,v3,B⟩;replace XR:=XR.b B;replace HB:=Hqb HB B;clear B;clear N1 N2;have xXR:=XR.cell;have zXR0:=XR.frozen;go_wp2;clear xXR zXR0;have SX:=StN.t9 XR e3 K3 s3 M3 E3 K3b s3b M3b E3b
 exact bq (by simp[results,Tryz.results148,go_sem,SX.box.cell]) rfl ⟨_,_,_,_,_,_,_,_,_,rfl,v3,(SX.below HB.out (by omega))⟩
def Rw (e:Bool)(K:Int)(s:Bool)(M E K':Int)(s':Bool)(M' E':Int)(x:Sp):Prop:=M < 18446744073709551616/\M' < 18446744073709551616/\rkI e K s M E K' s' M' E'=x
theorem Ci.rw{e:Bool}{K M E K' M' E':Int}{s s':Bool}{x:Sp}(h:Ci e K s M E K' s' M' E' x):Rw e K s M E K' s' M' E' x:=⟨h.top.1,h.top.2,h.rk⟩
def Jo.Fact.il8 (n:Nat)(l:List Sp):Jo.Fact:=⟨fun v w=>∃A c,v= .slice A n c/\Il8 w A n c l,fun v w w' h b=>by
 obtain⟨A,c,e,h⟩:=h;exact⟨A,c,e,h.below b⟩⟩
theorem Il8.lit1{W:World}{h:Nat}{K1 M1 E1 G1 P1 Q1:Int}{e1 s1 g1:Bool}{x1:Sp}(hg:W.heap.size=h)(v1:Rw e1 K1 s1 M1 E1 G1 g1 P1 Q1 x1):
  Il8 (W.alloc (.cells #[.bool e1,.int .i64 K1,.bool s1,.int .u64 M1,.int .i64 E1,.int .i64 G1,.bool g1,.int .u64 P1,.int .i64 Q1] 32)) (some ⟨h,0,none⟩) 1 1 [x1]:=by
 subst hg;have hh:=heap_alloc_new W (.cells #[.bool e1,.int .i64 K1,.bool s1,.int .u64 M1,.int .i64 E1,.int .i64 G1,.bool g1,.int .u64 P1,.int .i64 Q1] 32)
 refine⟨rfl,Nat.le_refl _,by decide,fun _=>⟨_,0,rfl,fun k hk=>?_⟩⟩
 obtain rfl:k=0:=by omega
 exact⟨e1,K1,s1,M1,E1,G1,g1,P1,Q1,by rw[cell_of_row _ _ _ _ _ _ hh];rfl,by rw[cell_of_row _ _ _ _ _ _ hh];rfl,by rw[cell_of_row _ _ _ _ _ _ hh];rfl,by rw[cell_of_row _ _ _ _ _ _ hh];rfl,by rw[cell_of_row _ _ _ _ _ _ hh];rfl,by rw[cell_of_row _ _ _ _ _ _ hh];rfl,by rw[cell_of_row _ _ _ _ _ _ hh];rfl,by rw[cell_of_row _ _ _ _ _ _ hh];rfl,by rw[cell_of_row _ _ _ _ _ _ hh];rfl,v1.1,v1.2.1,v1.2.2⟩
theorem Il8.lit2{W:World}{h:Nat}{K1 M1 E1 G1 P1 Q1 K2 M2 E2 G2 P2 Q2:Int}{e1 s1 g1 e2 s2 g2:Bool}{x1 x2:Sp}(hg:W.heap.size=h)(v1:Rw e1 K1 s1 M1 E1 G1 g1 P1 Q1 x1)(v2:Rw e2 K2 s2 M2 E2 G2 g2 P2 Q2 x2):
  Il8 (W.alloc (.cells #[.bool e1,.int .i64 K1,.bool s1,.int .u64 M1,.int .i64 E1,.int .i64 G1,.bool g1,.int .u64 P1,.int .i64 Q1,.bool e2,.int .i64 K2,.bool s2,.int .u64 M2,.int .i64 E2,.int .i64 G2,.bool g2,.int .u64 P2,.int .i64 Q2] 32)) (some ⟨h,0,none⟩) 2 2 [x1,x2]:=by
 subst hg;have hh:=heap_alloc_new W (.cells #[.bool e1,.int .i64 K1,.bool s1,.int .u64 M1,.int .i64 E1,.int .i64 G1,.bool g1,.int .u64 P1,.int .i64 Q1,.bool e2,.int .i64 K2,.bool s2,.int .u64 M2,.int .i64 E2,.int .i64 G2,.bool g2,.int .u64 P2,.int .i64 Q2] 32)
 refine⟨rfl,Nat.le_refl _,by decide,fun _=>⟨_,0,rfl,fun k hk=>?_⟩⟩
 rcases (by omega:k=0\/k=1)with rfl | rfl
 ·exact⟨e1,K1,s1,M1,E1,G1,g1,P1,Q1,by rw[cell_of_row _ _ _ _ _ _ hh];rfl,by rw[cell_of_row _ _ _ _ _ _ hh];rfl,by rw[cell_of_row _ _ _ _ _ _ hh];rfl,by rw[cell_of_row _ _ _ _ _ _ hh];rfl,by rw[cell_of_row _ _ _ _ _ _ hh];rfl,by rw[cell_of_row _ _ _ _ _ _ hh];rfl,by rw[cell_of_row _ _ _ _ _ _ hh];rfl,by rw[cell_of_row _ _ _ _ _ _ hh];rfl,by rw[cell_of_row _ _ _ _ _ _ hh];rfl,v1.1,v1.2.1,v1.2.2⟩
 ·exact⟨e2,K2,s2,M2,E2,G2,g2,P2,Q2,by rw[cell_of_row _ _ _ _ _ _ hh];rfl,by rw[cell_of_row _ _ _ _ _ _ hh];rfl,by rw[cell_of_row _ _ _ _ _ _ hh];rfl,by rw[cell_of_row _ _ _ _ _ _ hh];rfl,by rw[cell_of_row _ _ _ _ _ _ hh];rfl,by rw[cell_of_row _ _ _ _ _ _ hh];rfl,by rw[cell_of_row _ _ _ _ _ _ hh];rfl,by rw[cell_of_row _ _ _ _ _ _ hh];rfl,by rw[cell_of_row _ _ _ _ _ _ hh];rfl,v2.1,v2.2.1,v2.2.2⟩
abbrev V9:=Bool × Int × Bool × Int × Int × Int × Bool × Int × Int
def vrow:List V9->List Value
 | []=>[]
 | (e,K,s,M,E,K',s',M',E')::l=> .bool e:: .int .i64 K:: .bool s:: .int .u64 M:: .int .i64 E:: .int .i64 K':: .bool s':: .int .u64 M':: .int .i64 E'::vrow l
theorem vrow_append:∀l m,vrow (l ++m)=vrow l ++vrow m
 | [],m=>rfl
 | (e,K,s,M,E,K',s',M',E')::l,m=>by
  show _::_::_::_::_::_::_::_::_::vrow (l ++m)=_
  rw[vrow_append l m]
  rfl
theorem vrow_len:∀l,(vrow l).length=l.length*9
 | []=>rfl
 | (e,K,s,M,E,K',s',M',E')::l=>by
  show (vrow l).length+9=(l.length+1)*9
  rw[vrow_len l]
  omega
theorem vrow_one:∀(l:List V9),∀u ∈ vrow l,u.oneCell'=true
 | [],u,h=>by cases h
 | (e,K,s,M,E,K',s',M',E')::l,u,h=>by
  simp only[vrow,List.mem_cons]at h
  rcases h with rfl | rfl | rfl | rfl | rfl | rfl | rfl | rfl | rfl | h
  iterate 9 rfl
  exact vrow_one l u h
theorem vrow_at:∀(l:List V9) (k:Nat) (e:Bool) (K:Int) (s:Bool) (M E K':Int) (s':Bool) (M' E':Int),l[k]?=some (e,K,s,M,E,K',s',M',E')->(vrow l)[k*9]?=some (.bool e)/\(vrow l)[k*9+1]?=some (.int .i64 K)/\(vrow l)[k*9+2]?=some (.bool s)/\(vrow l)[k*9+3]?=some (.int .u64 M)/\(vrow l)[k*9+4]?=some (.int .i64 E)/\(vrow l)[k*9+5]?=some (.int .i64 K')/\(vrow l)[k*9+6]?=some (.bool s')/\(vrow l)[k*9+7]?=some (.int .u64 M')/\(vrow l)[k*9+8]?=some (.int .i64 E')
 | [],k,_,_,_,_,_,_,_,_,_,h=>by cases h
 | (e,K,s,M,E,K',s',M',E')::l,0,_,_,_,_,_,_,_,_,_,h=>by
  cases h
  exact⟨rfl,rfl,rfl,rfl,rfl,rfl,rfl,rfl,rfl⟩
 | (e,K,s,M,E,K',s',M',E')::l,k+1,e2,K2,s2,M2,E2,K2',s2',M2',E2',h=>by
  have:=vrow_at l k e2 K2 s2 M2 E2 K2' s2' M2' E2' h
  have e:(k+1)*9=k*9+9:=by omega
  rw[e];exact this
def Ia (w:World)(base:Nat)(A:Option Addr)(n c:Nat)(l:List Sp):Prop:=
 ∃r:List V9,w.ownsRow base 32 9 (.slice A n c) n (vrow r)/\r.length=n/\l.length=n/\∀k,k < n->∃e K s M E K' s' M' E',r[k]?=some (e,K,s,M,E,K',s',M',E')/\Ci e K s M E K' s' M' E' (l.getD k none)
theorem infoIv:(Tryz.prog.info? 32).map (fun i=>(i.zero,i.size,i.bytes))=some (some (.agg #[.bool false,.int .i64 0,.bool false,.int .u64 0,.int .i64 0,.int .i64 0,.bool false,.int .u64 0,.int .i64 0]),9,72):=by kernel_rfl
section
variable {w w':World} {base n c:Nat} {A:Option Addr} {l:List Sp}
theorem Ia.nil (w:World)(base:Nat):Ia w base none 0 0 []:=⟨[],World.ownsRow_nil w base _ 9,rfl,rfl,fun k h=>absurd h (Nat.not_lt_zero _)⟩
theorem Ia.len (h:Ia w base A n c l):l.length=n:=by
 obtain⟨_,_,_,h,_⟩:=h;exact h
theorem Ia.below (h:Ia w base A n c l)(hb:Below w.heap.size w w'):Ia w' base A n c l:=by
 obtain⟨r,h1,h2⟩:=h;refine⟨r,⟨h1.1,?_⟩,h2⟩
 rcases h1.2 with h3 | ⟨g,cap,cur,hv,hg,hh,q⟩
 ·exact .inl h3
 ·refine .inr ⟨g,cap,cur,hv,hg,?_,q⟩;rw[hb.block g (Array.getElem?_eq_some_iff.1 hh).1];exact hh
abbrev Ia.b:= @Ia.below
theorem Ia.own_lt (h:Ia w base A n c l):∀k,ownA A=some k->base<=k/\k < w.heap.size:=by
 obtain⟨r,h1,h2⟩:=h
 intro k hk
 exact h1.lt k (by rw[own_eq];exact hk)
theorem Ia.cells (h:Ia w base A n c l)(h0:0 < n):∃g,A=some ⟨g,0,none⟩/\n<=c/\∃r:List V9,r.length=n/\(∀k,k < n->∃e K s M E K' s' M' E',r[k]?=some (e,K,s,M,E,K',s',M',E')/\Ci e K s M E K' s' M' E' (l.getD k none))/\∀j v,(vrow r)[j]?=some v->w.cell? ⟨g,0+j,none⟩=some v:=by
 obtain⟨r,h1,h2,h3,h4⟩:=h
 rcases h1.2 with⟨e1,e2⟩ | ⟨g,cap,cur,hv,hg,hh,hc,hm,hs,ht⟩
 ·omega
 ·injection hv with a1 a2 a3
  subst a1;subst a3
  refine⟨g,rfl,hc,r,h2,h4,fun j v hv=>?_⟩
  rw[cell_of_row w g (0+j) _ _ (0,0) hh,Nat.zero_add,<-Array.getElem?_toList];rw[<-ht,List.getElem?_take]at hv
  split at hv
  ·exact hv
  ·cases hv
theorem Ia.il (h:Ia w base A n c l)(hn:n<=1099511627776):Il8 w A n c l:=by
 rcases Nat.eq_zero_or_pos n with h0 | h0
 ·subst h0;have hl:=h.len;obtain⟨r,h1,_⟩:=h
  rcases h1.2 with⟨e1,e2⟩ | ⟨g,cap,cur,hv,hg,hh,hc,hm,hs,ht⟩
  ·injection e1 with a1 a2 a3
   subst a3
   exact⟨hl,Nat.le_refl _,by omega,fun h=>absurd h (Nat.lt_irrefl _)⟩
  ·exact⟨hl,Nat.zero_le _,by omega,fun h=>absurd h (Nat.lt_irrefl _)⟩
 ·obtain⟨g,rfl,hc,r,h2,h4,cell⟩:=h.cells h0
  refine⟨h.len,hc,hn,fun _=>⟨g,0,rfl,fun k hk=>?_⟩⟩
  obtain⟨e,K,s,M,E,K',s',M',E',hr,q⟩:=h4 k hk;obtain⟨c0,c1,c2,c3,c4,c5,c6,c7,c8⟩:=vrow_at r k e K s M E K' s' M' E' hr;refine⟨e,K,s,M,E,K',s',M',E',cell _ _ c0,?_,?_,?_,?_,?_,?_,?_,?_,q.top.1,q.top.2,q.rk⟩
  all_goals rw[Nat.add_assoc]
  ·exact cell _ _ c1
  ·exact cell _ _ c2
  ·exact cell _ _ c3
  ·exact cell _ _ c4
  ·exact cell _ _ c5
  ·exact cell _ _ c6
  ·exact cell _ _ c7
  ·exact cell _ _ c8
theorem Ia.lit{g:Nat}{e s s':Bool}{K M E K' M' E':Int}{x:Sp}(X:Bo w g #[.bool e,.int .i64 K,.bool s,.int .u64 M,.int .i64 E,.int .i64 K',.bool s',.int .u64 M',.int .i64 E'] 32)(q:Ci e K s M E K' s' M' E' x):Ia w g (some ⟨g,0,none⟩) 1 1 [x]:=by
 refine⟨[(e,K,s,M,E,K',s',M',E')],⟨rfl,.inr ⟨g,1,_,rfl,Nat.le_refl _,X,Nat.le_refl _,by decide,rfl,rfl⟩⟩,rfl,rfl,fun k hk=>?_⟩
 obtain rfl:k=0:=by omega
 exact⟨e,K,s,M,E,K',s',M',E',rfl,q⟩
theorem add_at (g j:Nat):(⟨g,0,none⟩:Addr).add j=⟨g,0+j,none⟩:=by
 unfold Addr.add
 split
 ·rename_i h
  subst h
  rfl
 ·rfl
theorem run_ia{ty:TypeId}{base2 m d:Nat}{B:Option Addr}{l2:List Sp}(h:Ia w base A n c l)(k:Ia w base2 B m d l2)(h0:0 < m)(hn:n+m<=1000000)(hb:base<=w.heap.size):
  ∃A2 c2 w',(Builtin.append_ #[84,84] ty #[.slice A n c,.slice B m d]).run Tryz.prog w= .ok (.slice A2 (n+m) c2) w'/\Ia w' base A2 (n+m) c2 (l ++l2)/\w.grownBy w' (ownA A)/\(ownA A2=ownA A\/ownA A2=some w.heap.size):=by
 obtain⟨i,hi,hz,hsi,hby⟩:=info_parts infoIv;have hl2:=k.len;obtain⟨g,rfl,hc,q,q2,q4,cell⟩:=k.cells h0;obtain⟨r,h1,h2,h3,h4⟩:=h
 obtain⟨v',w',hr,ho,hg,_,hat⟩:=run_append_own_at (P:=Tryz.prog) w base 84 ty 32 i _ 9 72 Tryz.underlying84 hi hz hsi hby rfl (by decide) _ n (vrow r) h1 ⟨g,0,none⟩ m d (vrow q) (by rw[vrow_len,q2])
  (fun j u hj=>by rw[add_at];exact cell j u hj) (vrow_one q) (by unfold maxLen;omega) (by omega) hb
 rw[own_eq]at hg hat;rw[<-vrow_append]at ho
 obtain⟨A2,c2,rfl⟩:∃A2 c2,v'= .slice A2 (n+m) c2:=by
  rcases ho.2 with⟨_,h0⟩ | ⟨g',cap',cur',hv,_⟩
  ·omega
  ·exact⟨_,_,hv⟩
 rw[own_eq]at hat
 refine⟨A2,c2,w',hr,⟨_,ho,by rw[List.length_append,h2,q2],by rw[List.length_append,h3,hl2],fun j hj=>?_⟩,hg,hat⟩
 by_cases hjn:j < n
 ·obtain⟨e1,K1,s1,M1,E1,K1',s1',M1',E1',hq,qq⟩:=h4 j hjn;refine⟨e1,K1,s1,M1,E1,K1',s1',M1',E1',by rw[List.getElem?_append_left (by omega)];exact hq,?_⟩
  rw[List.getD_eq_getElem?_getD,List.getElem?_append_left (by omega),<-List.getD_eq_getElem?_getD];exact qq
 ·obtain⟨e1,K1,s1,M1,E1,K1',s1',M1',E1',hq,qq⟩:=q4 (j-n) (by omega);refine⟨e1,K1,s1,M1,E1,K1',s1',M1',E1',by rw[List.getElem?_append_right (by omega),h2];exact hq,?_⟩
  rw[List.getD_eq_getElem?_getD,List.getElem?_append_right (by omega),h3,<-List.getD_eq_getElem?_getD];exact qq
theorem wpList_ia{ops:Array Oper}{rest:List Oper}{o:Oper}{a:Act}{Q:Exit->Act->World->Prop}(hgd:o.guard=none)(s x:Operand)
  (ho:o.op= .call {callee:= .builtin .append,args:= #[s,x],argTypes:= #[84,84]}) {base2 m d:Nat} {B:Option Addr} {l2:List Sp}
  (hs:a.eval s= .slice A n c) (hx:a.eval x= .slice B m d) (h:Ia w base A n c l) (k:Ia w base2 B m d l2) (h0:0 < m) (hn:n+m<=1000000) (hb:base<=w.heap.size)
  (hK:∀A2 c2 w',Ia w' base A2 (n+m) c2 (l ++l2)->w.grownBy w' (ownA A)->(ownA A2=ownA A\/ownA A2=some w.heap.size)->wpList Tryz.prog ops Q rest (a.put o.dst (.slice A2 (n+m) c2)) w'):wpList Tryz.prog ops Q (o::rest) a w:=by
 refine wpList_plain hgd fun K hK2=>?_
 obtain⟨A2,c2,w',hr,h1,h2,h3⟩:=run_ia (ty:=o.type) h k h0 hn hb
 unfold Oper.wp execOp
 simp only[ho,resolve,invoke,builtin,Sem.run_bind,Sem.run_pure,Result.andThen_ok,List.map_toArray,List.map_cons,List.map_nil,hs,hx,hr];exact hK2 _ _ (hK A2 c2 w' h1 h2 h3)
end
theorem cmp_ltE{x y c:Int}(h:cmpI x y=c):decide (c < 0)=decide (x < y):=by
 rw[<-h]
 by_cases e:x < y
 ·rw[dt e]
  exact dt (by rcases cmpI_tri x y with⟨a,b⟩ | ⟨a,b⟩ | ⟨a,b⟩ <;> rw[b] <;> omega)
 ·rw[df e]
  exact df (by rcases cmpI_tri x y with⟨a,b⟩ | ⟨a,b⟩ | ⟨a,b⟩ <;> rw[b] <;> omega)
theorem kvWidth{w:World}{e:Bool}{D M E D' M' E':Int}{s s':Bool}{x:Sp}{r:Int}(hT:Tb w)(hM:LQ M)(hM':LQ M')(hx:rkI e D s M E D' s' M' E'=x)(hr:widI x=r):Calls Tryz.prog 41 #[VI e D s M E D' s' M' E'] w (PN w r):=by
 delta VI
 have HX:=ie hx;clear hx
 go_enter Tryz.func41,Tryz.ntmps41
 go_upto_region 1 with (fail)
 generalize hW1:(w.alloc _).alloc _=w1 at *;obtain⟨X1,XR,HB⟩:=Bo.en2 hW1;replace hT:=hT.below HB.out;clear hW1;have xX1:=X1.cell
 go_wp2_with fail
 refine(kvOrE hM hM' HX.out).mono ?_;rintro ee w2 ⟨e1,K1,s1,M1,E1,K1b,s1b,M1b,E1b,rfl,v1,B⟩;clear xX1;replace X1:=X1.b B;replace XR:=XR.b B;replace hT:=hT.b B;replace HB:=Hqb HB B;clear B;have xX1:=X1.cell;have zX10:=X1.frozen
 go_upto_region 2 with (fail)
 clear xX1 zX10;generalize hS:((((((((w2.setCell _ _).setCell _ _).setCell _ _).setCell _ _).setCell _ _).setCell _ _).setCell _ _).setCell _ _).setCell _ _=w3 at *;have SX:=StN.of9 X1 hS;replace XR:=XR.s SX;replace hT:=hT.s SX;replace HB:=Hqs HB SX (by omega);replace X1:=SX.box;clear SX hS
 clear HX hM hM'
 rcases x with _ | ⟨xa,xb⟩
 ·obtain⟨rfl,y1,y1b⟩:=v1
  obtain rfl:0=r:=hr
  have xX1:=X1.cell
  go_wp2_with fail
  refine(aSub hT y1b.top y1.top y1b.rk (y:=0) (by rw[y1.rk];rfl) (r:=0) (addp_zero true (by omega) (by omega))).mono ?_;rintro ee w4 ⟨K2,s2,M2,E2,rfl,q2,B⟩;clear xX1;replace X1:=X1.b B;replace XR:=XR.b B;replace hT:=hT.b B;replace HB:=Hqb HB B;clear B;have xXR:=XR.cell;have zXR0:=XR.frozen
  go_wp2;clear xXR zXR0;have SX:=StN.t4 XR K2 s2 M2 E2;exact bq (by simp[results,Tryz.results41,go_sem,SX.box.cell]) rfl ⟨_,_,_,_,rfl,q2,(SX.below HB.out (by omega))⟩
 ·obtain⟨rfl,a1,b1,o1,o1l,o1h⟩:=v1
  have HR:=ie (show addp true xb (-xa)=r from hr)
  clear hr o1 o1l o1h;have xX1:=X1.cell
  go_wp2_with fail
  refine(aSub hT b1.top a1.top b1.rk (by rw[a1.rk]) HR.out).mono ?_;rintro ee w4 ⟨K2,s2,M2,E2,rfl,q2,B⟩;clear xX1;replace XR:=XR.b B;replace HB:=Hqb HB B;clear B;have xXR:=XR.cell;have zXR0:=XR.frozen;go_wp2;clear xXR zXR0;have SX:=StN.t4 XR K2 s2 M2 E2
  exact bq (by simp[results,Tryz.results41,go_sem,SX.box.cell]) rfl ⟨_,_,_,_,rfl,q2,(SX.below HB.out (by omega))⟩
theorem kvInflate{w:World}{e:Bool}{D M E D' M' E':Int}{s s':Bool}{G P Q:Int}{g:Bool}{x z:Sp}{y:Int}(hT:Tb w)(hM:LQ M)(hM':LQ M')(hP:LQ P)(hx:rkI e D s M E D' s' M' E'=x)(hy:rk G g P Q=y)(hr:infI x y=z):Calls Tryz.prog 34 #[VI e D s M E D' s' M' E',VQ G g P Q] w (PV w z):=by
 delta VI VQ
 have HX:=ie hx;have HY:=ie hy;clear hx hy
 go_enter Tryz.func34,Tryz.ntmps34
 go_upto_region 1 with (fail)
 generalize hW1:((w.alloc _).alloc _).alloc _=w1 at *;obtain⟨X2,X3,XR,HB⟩:=Bo.en3 hW1;replace hT:=hT.below HB.out;clear hW1;have xX2:=X2.cell
 go_wp2_with fail
 refine(kvOrE hM hM' HX.out).mono ?_;rintro ee w2 ⟨e1,K1,s1,M1,E1,K1b,s1b,M1b,E1b,rfl,v1,B⟩;clear xX2;replace X2:=X2.b B;replace X3:=X3.b B;replace XR:=XR.b B;replace hT:=hT.b B;replace HB:=Hqb HB B;clear B;have xX2:=X2.cell;have zX20:=X2.frozen
 go_upto_region 2 with (fail)
 clear xX2 zX20;generalize hS:((((((((w2.setCell _ _).setCell _ _).setCell _ _).setCell _ _).setCell _ _).setCell _ _).setCell _ _).setCell _ _).setCell _ _=w3 at *;have SX:=StN.of9 X2 hS;replace X3:=X3.s SX;replace XR:=XR.s SX;replace hT:=hT.s SX;replace HB:=Hqs HB SX (by omega)
 replace X2:=SX.box;clear SX hS;clear HX hM hM'
 rcases x with _ | ⟨xa,xb⟩
 ·obtain⟨rfl,y1,y1b⟩:=v1
  obtain rfl:none=z:=hr
  clear HY hP
  obtain⟨_,rfl,rfl,rfl,rfl,rfl,rfl,rfl,rfl⟩:=(show Ci true K1 s1 M1 E1 K1b s1b M1b E1b none from ⟨rfl,y1,y1b⟩).uniq Ci.none
  clear y1 y1b;refine jk [0,1,2,3,4,5,6,7] [some 7,some 8,some 9,some 10,some 11,some 12,some 13,some 14] [[],[],[0,1],[2],[3],[3,4],[3,5],[3,6]] 8 0 [Jo.q9 true 0 false 0 0 0 false 0 0,Jo.q9 true 0 false 0 0 0 false 0 0,Jo.qb true,Jo.qb true,Jo.qu,Jo.qu,Jo.qu,Jo.qb true] ?_ ?_
  ·refine jm ?_ ?_;rotate_left
   refine jm ?_ ?_
   ·rintro wj hJ K hK;simp only[Jo.z]at hK|-;go_simp;refine(kvNoneE).mono ?_;rintro ee wk ⟨rfl,B⟩;exact hK.out _ _ rfl B
   refine jm ?_ ?_
   ·rintro wj hJ _ rfl _ rfl K hK;simp only[Jo.z]at hK|-;go_simp
    repeat' split
    all_goals exact hK.out _ _ (congrArg Value.bool (by first | rfl | (exfalso;simp_all) | simp_all)) (br _ _)
   iterate 5 (refine jm ?_ ?_;rotate_left)
   exact jo
   all_goals (rintro wj hJ;(repeat rintro _ rfl);intro K hK;simp only[Jo.z]at hK|-;have xX2:=(X2.b hJ).cell;go_simp;exact hK.out _ _ rfl (br _ _))
  rintro w4 hJ _ rfl _ rfl _ rfl _ rfl _ rfl _ rfl _ rfl _ rfl -;simp only[Jo.z];replace X2:=X2.b hJ;replace X3:=X3.b hJ;replace XR:=XR.b hJ;replace hT:=hT.b hJ;replace HB:=Hqb HB hJ;refine jd ?_;have xXR:=XR.cell;have zXR0:=XR.frozen;have xX2:=X2.cell
  go_wp2;clear xXR zXR0 xX2;have SX:=StN.t9 XR true 0 false 0 0 0 false 0 0;exact bq (by simp[results,Tryz.results34,go_sem,SX.box.cell]) rfl ⟨_,_,_,_,_,_,_,_,_,rfl,Ci.none,(SX.below HB.out (by omega))⟩
 ·obtain⟨rfl,a1,b1,o1,o1l,o1h⟩:=v1;obtain⟨σ,hσ⟩:∃σ,cmpI y 0=σ:=⟨_,rfl⟩;have ht:=cmp_ltE hσ
  have HS:Hid (cmpI (rk G g P Q) 0=σ):=ie (by rw[HY.out];exact hσ)
  clear hσ
  have hr2:(if y < 0 then some (xa,xb)else mkI (addp false xa (-y)) (addp true xb y))=z:=hr
  clear hr
  by_cases hl:y < 0
  ·rw[dt hl]at ht;have HC0:=ie ht;rw[if_pos hl]at hr2
   obtain rfl:some (xa,xb)=z:=hr2
   clear hl ht;refine jk [0,1,2,3,4,5,6,7] [some 7,some 8,some 9,some 10,some 11,some 12,some 13,some 14] [[],[],[0,1],[2],[3],[3,4],[3,5],[3,6]] 8 0 [Jo.q9 false K1 s1 M1 E1 K1b s1b M1b E1b,Jo.q9 true 0 false 0 0 0 false 0 0,Jo.qb false,Jo.qb false,Jo.q4 G g P Q,Jo.qi σ,Jo.qb true,Jo.qb true] ?_ ?_
   ·refine jm ?_ ?_;rotate_left
    refine jm ?_ ?_
    ·rintro wj hJ K hK;simp only[Jo.z]at hK|-;go_simp;refine(kvNoneE).mono ?_;rintro ee wk ⟨rfl,B⟩;exact hK.out _ _ rfl B
    refine jm ?_ ?_
    ·rintro wj hJ _ rfl _ rfl K hK;simp only[Jo.z]at hK|-;go_simp
     repeat' split
     all_goals exact hK.out _ _ (congrArg Value.bool (by first | rfl | (exfalso;simp_all))) (br _ _)
    iterate 2 (refine jm ?_ ?_;rotate_left)
    refine jm ?_ ?_
    ·rintro wj hJ _ rfl _ rfl K hK;simp only[Jo.z]at hK|-;go_simp;refine(nSign hP HS.out).mono ?_;rintro ee wk ⟨rfl,B⟩;exact hK.out _ _ rfl B
    refine jm ?_ ?_
    ·rintro wj hJ _ rfl _ rfl K hK;simp only[Jo.z]at hK|-;have hc0:=HC0.out;go_simp
     exact hK.out _ _ (by first | rfl | (show Value.bool _=Value.bool _;rw[hc0]) | simp_all) (br _ _)
    refine jm ?_ ?_;rotate_left
    exact jo
    all_goals (rintro wj hJ;(repeat rintro _ rfl);intro K hK;simp only[Jo.z]at hK|-;have xX2:=(X2.b hJ).cell;have xX3:=(X3.b hJ).cell;go_simp;exact hK.out _ _ rfl (br _ _))
   rintro w4 hJ _ rfl _ rfl _ rfl _ rfl _ rfl _ rfl _ rfl _ rfl -;simp only[Jo.z];replace X2:=X2.b hJ;replace X3:=X3.b hJ;replace XR:=XR.b hJ;replace hT:=hT.b hJ;replace HB:=Hqb HB hJ;refine jd ?_;have xXR:=XR.cell;have zXR0:=XR.frozen;have xX2:=X2.cell
   go_wp2;clear xXR zXR0 xX2;have SX:=StN.t9 XR false K1 s1 M1 E1 K1b s1b M1b E1b;exact bq (v:= .agg #[.bool false,.int .i64 K1,.bool s1,.int .u64 M1,.int .i64 E1,.int .i64 K1b,.bool s1b,.int .u64 M1b,.int .i64 E1b]) (by simp[results,Tryz.results34,go_sem,SX.box.cell]) rfl ⟨_,_,_,_,_,_,_,_,_,rfl,⟨rfl,a1,b1,o1,o1l,o1h⟩,(SX.below HB.out (by omega))⟩
  ·rw[df hl]at ht;have HC0:=ie ht;rw[if_neg hl]at hr2;obtain⟨u,hu⟩:∃u,addp false xa (-y)=u:=⟨_,rfl⟩;obtain⟨l,hl2⟩:∃l,addp true xb y=l:=⟨_,rfl⟩;rw[hu,hl2]at hr2;have HU:=ie hu;have HL:=ie hl2;have HR:=ie hr2;clear hl ht hu hl2 hr2 o1 o1l o1h;refine jk [0,1,2,3,4,5,6,7] [some 7,some 8,some 9,some 10,some 11,some 12,some 13,some 14] [[],[],[0,1],[2],[3],[3,4],[3,5],[3,6]] 8 0 [Jo.q9 false K1 s1 M1 E1 K1b s1b M1b E1b,Jo.q9 true 0 false 0 0 0 false 0 0,Jo.qb false,Jo.qb false,Jo.q4 G g P Q,Jo.qi σ,Jo.qb false,Jo.qb false] ?_ ?_
   ·refine jm ?_ ?_;rotate_left
    refine jm ?_ ?_
    ·rintro wj hJ K hK;simp only[Jo.z]at hK|-;go_simp;refine(kvNoneE).mono ?_;rintro ee wk ⟨rfl,B⟩;exact hK.out _ _ rfl B
    refine jm ?_ ?_
    ·rintro wj hJ _ rfl _ rfl K hK;simp only[Jo.z]at hK|-;go_simp
     repeat' split
     all_goals exact hK.out _ _ (congrArg Value.bool (by first | rfl | (exfalso;simp_all))) (br _ _)
    iterate 2 (refine jm ?_ ?_;rotate_left)
    refine jm ?_ ?_
    ·rintro wj hJ _ rfl _ rfl K hK;simp only[Jo.z]at hK|-;go_simp;refine(nSign hP HS.out).mono ?_;rintro ee wk ⟨rfl,B⟩;exact hK.out _ _ rfl B
    refine jm ?_ ?_
    ·rintro wj hJ _ rfl _ rfl K hK;simp only[Jo.z]at hK|-;have hc0:=HC0.out;go_simp
     exact hK.out _ _ (by first | rfl | (show Value.bool _=Value.bool _;rw[hc0]) | simp_all) (br _ _)
    refine jm ?_ ?_;rotate_left
    exact jo
    all_goals (rintro wj hJ;(repeat rintro _ rfl);intro K hK;simp only[Jo.z]at hK|-;have xX2:=(X2.b hJ).cell;have xX3:=(X3.b hJ).cell;go_simp;exact hK.out _ _ rfl (br _ _))
   rintro w4 hJ _ rfl _ rfl _ rfl _ rfl _ rfl _ rfl _ rfl _ rfl -;simp only[Jo.z];replace X2:=X2.b hJ;replace X3:=X3.b hJ;replace XR:=XR.b hJ;replace hT:=hT.b hJ;replace HB:=Hqb HB hJ;refine jd ?_;go_wp2;refine jk [0,1,2,3,4,5,6,7,8] [some 16,some 17,some 18,some 19,some 20,some 21,some 22,some 23,some 24,none] [[],[0],[],[1,2],[],[4],[],[5,6],[3,7],[]] 10 1 [Jo.qp w.heap.size 1,Jo.q4 K1 s1 M1 E1,Jo.q4 G g P Q,Jo.Fact.num u,Jo.qp w.heap.size 5,Jo.q4 K1b s1b M1b E1b,Jo.q4 G g P Q,Jo.Fact.num l,Jo.Fact.iv z,Jo.Fact.any] ?_ ?_
   ·iterate 3 (refine jm ?_ ?_;rotate_left)
    refine jm ?_ ?_
    ·rintro wj hJ _ rfl _ rfl K hK;simp only[Jo.z]at hK|-;go_simp;exact Jo.n1 (aSub (hT.b hJ) a1.top hP a1.rk (by rw[HY.out]) HU.out) hK.out
    iterate 3 (refine jm ?_ ?_;rotate_left)
    refine jm ?_ ?_
    ·rintro wj hJ _ rfl _ rfl K hK;simp only[Jo.z]at hK|-;go_simp;exact Jo.n1 (aAdd (hT.b hJ) b1.top hP b1.rk HY.out HL.out) hK.out
    refine jm ?_ ?_
    ·rintro wj hJ _ ⟨K2,s2,M2,E2,rfl,q2⟩ _ ⟨K3,s3,M3,E3,rfl,q3⟩ K hK;simp only[Jo.z]at hK|-;go_simp;exact Jo.v1 (kvMake q2.top q3.top q2.rk q3.rk HR.out) hK.out
    exact jo
    all_goals (rintro wj hJ;(repeat rintro _ rfl);intro K hK;simp only[Jo.z]at hK|-;have xX2:=(X2.b hJ).cell;have xX3:=(X3.b hJ).cell;go_simp;exact hK.out _ _ rfl (br _ _))
   rintro w8 hJ _ _ _ rfl _ rfl _ ⟨K2,s2,M2,E2,rfl,q2⟩ _ _ _ rfl _ rfl _ ⟨K3,s3,M3,E3,rfl,q3⟩ _ ⟨e4,K4,s4,M4,E4,K4b,s4b,M4b,E4b,rfl,v4⟩ -;simp only[Jo.z];replace XR:=XR.b hJ;replace HB:=Hqb HB hJ;have xXR:=XR.cell;have zXR0:=XR.frozen
   refine jn 9 fun K hK=>?_
   go_simp;refine hK.out _ _ ?_;clear hK K xXR zXR0;have SX:=StN.t9 XR e4 K4 s4 M4 E4 K4b s4b M4b E4b;refine jd ?_;go_wp2;exact bq (by simp[results,Tryz.results34,go_sem,SX.box.cell]) rfl ⟨_,_,_,_,_,_,_,_,_,rfl,v4,(SX.below HB.out (by omega))⟩
end Go.Proofs.YtomikokonmikgaaGreatDoor
namespace Go.Proofs.YtomikokonmikgaaGreatDoor
open Go Go.RowKit
set_option linter.unusedVariables false
theorem apart2{y z s c S C k t e g:Rat}(y0:0<=y)(y1:y<=1)(z0:0<=z)(z1:z<=1)(yz:z<=y)(v1: -(3*g)<=S-y*C)(v2:S-y*C<=3*g)(u1: -(3*g)<=s-z*c)(u2:s-z*c<=3*g)(cu:2/3<=c)
  (k1: -(101/100)<=k) (k2:k<=101/100) (t0:0<=t) (t2:t<=101/100) (a1: -e<=S-(s*k+c*t)) (a2:S-(s*k+c*t)<=e) (b1: -e<=C-(c*k-s*t)) (b2:C-(c*k-s*t)<=e)
  (he:e*3<=g) (e0:0<=e) (g0:0<=g):t<=101/100*(y-z)+20*g:=by
 have r1:=mul_bd (b:=1) (x:=y) (by grind) y1 b1 b2;have r2:=mul_bd (b:=101/100) (x:=k) k1 k2 u1 u2;have r3:=mul_bd (b:=1) (x:=y) (by grind) y1 u1 u2;have r4:=mul_bd (b:=101/100) (x:=t) (by grind) t2 r3.1 r3.2
 have eq:S-y*C=(S-(s*k+c*t))-y*(C-(c*k-s*t))+k*(s-z*c)+t*(y*(s-z*c))-c*((y-z)*k)+c*(t*(1+y*z)):=by grind
 have pz:=Rat.mul_nonneg (show 0<=c by grind) (Rat.mul_nonneg t0 (Rat.mul_nonneg y0 z0))
 have yk:=Rat.mul_nonneg (show 0<=c by grind) (Rat.mul_nonneg (show 0<=y-z by grind) (show 0<=101/100-k by grind))
 obtain⟨X,hX⟩:∃X,X=t-101/100*(y-z):=⟨_,rfl⟩
 have cX:c*X<=10*g:=by
  rw[hX];generalize S-(s*k+c*t)=A1 at *;generalize y*(C-(c*k-s*t))=A3 at *;generalize k*(s-z*c)=A4 at *;generalize t*(y*(s-z*c))=A5 at *;generalize S-y*C=A7 at *
  grind
 by_cases x0:X<=0
 ·grind
 ·have:=Rat.mul_nonneg (show 0<=c-2/3 by grind) (show 0<=X by grind)
  grind
theorem ang_lip{v u:Int}(h0:0<=v)(h:v<=u)(h1:u<=SC)(near:(u-v)*1099511627776<=SC):pAng u*SR<=pAng v*SR+152/100*((u-v:Int):Rat)+40:=by
 have sp:=sr_pos
 have hr:=Rat.intCast_le_intCast.2 (show (0:Int)<=u-v by omega)
 rw[Rat.intCast_zero]at hr
 by_cases hle:pAng u<=pAng v
 ·have:=Rat.mul_le_mul_of_nonneg_right hle (Rat.le_of_lt sp)
  grind
 obtain⟨d,hd⟩:∃d,pAng u=pAng v+d:=⟨pAng u-pAng v,by grind⟩
 obtain⟨b1,b2⟩:=ang_bd13 h0 (by omega:v<=SC);obtain⟨a1,a2⟩:=ang_bd13 (by omega:0<=u) h1;obtain⟨q1,q2⟩:=qt_bd
 have d0:0<=d:=by grind
 have d2:d<=3/2:=by grind
 obtain⟨yv0,yv1⟩:=part_bd h0 (by omega:v<=SC);obtain⟨yu0,yu1⟩:=part_bd (by omega:0<=u) h1
 have yle:(v:Rat) /SR<=(u:Rat) /SR:=Rat.le_of_mul_le_mul_right (c:=SR) (by rw[frac_at,frac_at];exact Rat.intCast_le_intCast.2 h) sp
 obtain⟨sv1,sv2⟩:=slope_e h0 (by omega:v<=SC);obtain⟨su1,su2⟩:=slope_e (by omega:0<=u) h1;have cv:=ang_cos h0 (by omega:v<=SC);obtain⟨p1,p2⟩:=sin_add (m:=pAng v) (h:=d) (by grind) (by grind) (by grind) (by grind);obtain⟨p3,p4⟩:=cos_add (m:=pAng v) (h:=d) (by grind) (by grind) (by grind) (by grind);have bd:=cs_bd (x:=d) (by grind) (by grind);rw[hd]at su1 su2
 have p1':=tiny_lo p1
 have p2':=tiny_hi p2
 have p3':=tiny_lo p3
 have p4':=tiny_hi p4
 obtain⟨e1,e2,e3,e4,e7,e5,e6⟩:=eps_h;have low:=sin_low d0 (by grind)
 have o1:(1:Rat) /SR*SR=1:=Rat.div_mul_cancel (Rat.ne_of_gt sp)
 have g0:(0:Rat)<=1/SR:=by
  refine Rat.le_of_mul_le_mul_right (c:=SR) ?_ sp;rw[o1]
  grind
 have key:sinT d<=101/100*((u:Rat) /SR-(v:Rat) /SR)+20*(1/SR):=by
  have o3:(3:Rat) /SR=3*(1/SR):=by
   have:(3:Rat) /SR*SR=3:=Rat.div_mul_cancel (Rat.ne_of_gt sp)
   refine Rat.le_antisymm (Rat.le_of_mul_le_mul_right (c:=SR) ?_ sp) (Rat.le_of_mul_le_mul_right (c:=SR) ?_ sp) <;> grind
  rw[o3]at su1 su2 sv1 sv2;exact apart2 yu0 yu1 yv0 yv1 yle su1 su2 sv1 sv2 cv bd.1.1 bd.1.2 (by grind) bd.2.2 p1' p2' p3' p4' e4 e5 g0
 -- so it is small,and the sine is two thirds of it at least
 have fu:=frac_at u;have fv:=frac_at v;have nr:=Rat.intCast_le_intCast.2 near
 rw[Rat.intCast_mul,Rat.intCast_sub,show ((1099511627776:Int):Rat)=1099511627776 from rfl]at nr
 have dif:((u:Rat) /SR-(v:Rat) /SR)*SR=((u-v:Int):Rat):=by
  rw[Rat.intCast_sub]
  grind
 have small:(u:Rat) /SR-(v:Rat) /SR<=1/1000:=by
  refine Rat.le_of_mul_le_mul_right (c:=SR) ?_ sp
  grind
 have g1:(1:Rat) /SR<=1/10000:=by
  refine Rat.le_of_mul_le_mul_right (c:=SR) ?_ sp;rw[o1]
  have:=big_sr
  grind
 have dh:d<=1/2:=by grind
 have z:=sin_zero
 have r:=Df.rise (B:=2) (k:=2/3) (by grind) sin_df (a:=1/2) (x:=0) (h:=d) d0 (by grind) (by grind) (by grind) (by grind) (by grind) (fun y y1 y2=>cos_low y1 y2)
 rw[show (0:Rat)+d=d by grind,z]at r
 have fin:d<=152/100*((u:Rat) /SR-(v:Rat) /SR)+30*(1/SR):=by grind
 have m:=Rat.mul_le_mul_of_nonneg_right fin (Rat.le_of_lt sp);rw[hd];rw[<-dif]
 grind
theorem opl_two_eq:opl 2=1+(1048576-62)*9223372036854775808:=by decide
theorem gap_pos{p:Int}(h0:9223372036854775808 < p)(h1:p < opl 2):(vr (p+1)-vr p)*9223372036854775808<=2^KK:=by
 have e2:=opl_two_eq;obtain⟨M,hM⟩:∃M,M=(p-1)%9223372036854775808+9223372036854775808:=⟨_,rfl⟩;obtain⟨E,hE⟩:∃E,E=(p-1) /9223372036854775808-1048576:=⟨_,rfl⟩
 have eq:p=M-9223372036854775808+1+(E+1048576)*9223372036854775808:=by omega
 obtain⟨a,b,_⟩:=vr_gap (M:=M) (E:=E) (by omega) (by omega) (by omega);rw[<-eq]at a b;rw[a,b];have hk:=KK_eq
 have k:(2:Int)^KK=2^(E+KK).toNat*9223372036854775808*2^(-63-E).toNat:=by
  rw[show (9223372036854775808:Int)=2^63 by decide,<-Int.pow_add,<-Int.pow_add]
  congr 1
  omega
 rw[k];have p1:=p2pos (-63-E).toNat;have p2:=p2pos (E+KK).toNat
 have m:=Int.mul_le_mul_of_nonneg_left (show 1<=(2:Int)^(-63-E).toNat by omega) (show 0<=(2:Int)^(E+KK).toNat*9223372036854775808 by omega)
 rw[Int.mul_one]at m;generalize (2:Int)^(E+KK).toNat=x at *
 omega
theorem gap_nn{p:Int}(h0:0<=p)(h1:p < opl 2):(vr (p+1)-vr p)*9223372036854775808<=2^KK:=by
 have e2:=opl_two_eq
 by_cases c:9223372036854775808 < p
 ·exact gap_pos c h1
 ·by_cases z:p=0
  ·subst z;have v1:=vp_one;have hk:=KK_eq
   have e:vr (0+1)=2^(63-1048576+(KK:Int)).toNat:=by
    rw[show vr (0+1)=vp 1 from rfl]
    exact v1
   rw[e,show vr 0=0 from rfl,Int.sub_zero,show (9223372036854775808:Int)=2^63 by decide,<-Int.pow_add]
   obtain⟨n,hn⟩:∃n:Nat,KK=(63-1048576+(KK:Int)).toNat+63+n:=⟨1048576-126,by omega⟩
   have k:(2:Int)^KK=2^((63-1048576+(KK:Int)).toNat+63)*2^n:=by
    rw[<-Int.pow_add,<-hn]
   rw[k];have p1:=p2pos n;have p2:=p2pos ((63-1048576+(KK:Int)).toNat+63)
   have m:=Int.mul_le_mul_of_nonneg_left (show 1<=(2:Int)^n by omega) (Int.le_of_lt p2)
   rw[Int.mul_one]at m;exact m
  ·have s1:=vr_shift (r:=p) (by omega);have s2:=vr_shift (r:=p+1) (by omega);have g:=gap_pos (p:=p+9223372036854775808) (by omega) (by omega)
   have lt:=vr_lt (show p < p+1 by omega)
   rw[show p+9223372036854775808+1=p+1+9223372036854775808 by omega,s1,s2]at g
   omega
theorem gap{p:Int}(h0: -opl 2<=p)(h1:p < opl 2):(vr (p+1)-vr p)*9223372036854775808<=2^KK:=by
 by_cases c:0<=p
 ·exact gap_nn c h1
 ·have g:=gap_nn (p:= -p-1) (by omega) (by omega)
  rw[show -p-1+1= -p by omega,show -p-1= -(p+1) by omega,vr_neg,vr_neg]at g
  omega
def V (p:Int):Rat:=((vr p:Int):Rat) /BR
theorem V_at (p:Int):V p*BR=((vr p:Int):Rat):=Rat.div_mul_cancel (Rat.ne_of_gt br_pos)
theorem V_le{p r:Int}(h:p<=r):V p<=V r:=Rat.le_of_mul_le_mul_right (c:=BR) (by rw[V_at,V_at];exact Rat.intCast_le_intCast.2 (vr_le h)) br_pos
theorem V_gap{p:Int}(h0: -opl 2<=p)(h1:p < opl 2):V (p+1)<=V p+1/9223372036854775808:=by
 have g:=Rat.intCast_le_intCast.2 (gap h0 h1)
 rw[Rat.intCast_mul,Rat.intCast_sub,show ((9223372036854775808:Int):Rat)=9223372036854775808 from rfl,show ((2^KK:Int):Rat)=BR from rfl]at g
 have a:=V_at (p+1);have b:=V_at p;refine Rat.le_of_mul_le_mul_right (c:=BR) ?_ br_pos
 grind
theorem V_neg (p:Int):V (-p)= -V p:=by
 have a:=V_at (-p);have b:=V_at p;rw[vr_neg,Rat.intCast_neg]at a;have hp:=br_pos;refine Rat.le_antisymm (Rat.le_of_mul_le_mul_right (c:=BR) ?_ hp) (Rat.le_of_mul_le_mul_right (c:=BR) ?_ hp) <;> grind
theorem V_dn{l r:Int}(hr:Rq false l SC r)(h1: -(2*SC)<=l)(h2:l < 2*SC):(l:Rat)<=V r*SR+1/9223372036854775808*SR:=by
 obtain⟨o1,o2⟩:=two_bd;have b:=rq_two hr h1 (by omega);have s:=rq_sid hr;rw[sid_f]at s;obtain⟨_,_,s3,s4⟩:=s
 have rl:r < opl 2:=by
  rcases Int.lt_or_le r (opl 2)with c | c
  ·exact c
  ·exfalso
   have e:vr (opl 2)=2*2^KK:=opl_vr (by decide) (by decide)
   have k:=s3 (by omega);have v:=vr_le c;rw[e]at v;have m:=Int.mul_le_mul_of_nonneg_right v (Int.le_of_lt sc_pos);have n:=Int.mul_lt_mul_of_pos_right h2 (p2pos KK)
   rw[show 2*2^KK*SC=2*SC*2^KK by rw[Int.mul_assoc,Int.mul_assoc,Int.mul_comm (2^KK)]]at m
   omega
 have k:=Rat.intCast_le_intCast.2 (Int.le_of_lt (s4 (by omega)))
 rw[Rat.intCast_mul,Rat.intCast_mul,show ((2^KK:Int):Rat)=BR from rfl,<-V_at]at k
 have g:=V_gap b.1 rl;have m:=Rat.mul_le_mul_of_nonneg_right g (Rat.le_of_lt (Rat.mul_pos sr_pos br_pos));refine Rat.le_of_mul_le_mul_right (c:=BR) ?_ br_pos;generalize (1/9223372036854775808:Rat)=e at *
 grind
theorem V_up{h u:Int}(hu:Rq true h SC u)(h1: -(2*SC) < h)(h2:h<=2*SC):V u*SR<=(h:Rat)+1/9223372036854775808*SR:=by
 have n:Rq false (-h) SC (-u):=by
  have s:=(rq_sid hu).neg
  rw[show (!true)=false from rfl,<-Int.neg_mul]at s
  rw[rq_some (by decide),show sgi (decide (SC < 0)) SC=SC from rfl,show sgi (decide (SC < 0)) (-h)= -h from rfl]
  exact s
 have k:=V_dn n (by omega) (by omega);rw[V_neg,Rat.intCast_neg]at k;generalize (1/9223372036854775808:Rat)=e at *
 grind
theorem V_two:V (opl 2)=2:=by
 have e:vr (opl 2)=2*2^KK:=opl_vr (by decide) (by decide)
 have a:=V_at (opl 2)
 rw[e,Rat.intCast_mul,show ((2^KK:Int):Rat)=BR from rfl,show ((2:Int):Rat)=2 from rfl]at a
 have hp:=br_pos;refine Rat.le_antisymm (Rat.le_of_mul_le_mul_right (c:=BR) ?_ hp) (Rat.le_of_mul_le_mul_right (c:=BR) ?_ hp) <;> grind
theorem V_lt{p r:Int}(h:V p < V r):p < r:=by
 rcases Int.lt_or_le p r with c | c
 ·exact c
 ·exact absurd (V_le c) (Rat.not_le.2 h)
theorem V_add_dn{x y p:Int}(h:Dn (vr x+vr y) p)(h1: -2<=V x+V y)(h2:V x+V y < 2):V x+V y<=V p+1/9223372036854775808:=by
 obtain⟨o1,o2⟩:=two_bd;obtain⟨a1,a2,a3,a4⟩:=h;have vt:=V_two;have bp:=br_pos
 have nt:V (-opl 2)= -2:=by rw[V_neg,vt]
 have pu:p < opl 2:=by
  rcases Int.lt_or_le p (opl 2)with c | c
  ·exact c
  ·exfalso
   have k:=Rat.intCast_le_intCast.2 (a3 (by omega));rw[Rat.intCast_add,<-V_at,<-V_at,<-V_at]at k;have m:=Rat.mul_le_mul_of_nonneg_right (V_le c) (Rat.le_of_lt bp);rw[vt]at m;have n:=Rat.mul_lt_mul_of_pos_right h2 bp
   grind
 have pl: -opl 2<=p:=by
  rcases Int.lt_or_le p (-opl 2)with c | c
  ·exfalso
   have k:=Rat.intCast_lt_intCast.2 (a4 (by omega));rw[Rat.intCast_add,<-V_at,<-V_at,<-V_at]at k
   have m:=Rat.mul_le_mul_of_nonneg_right (V_le (show p+1<= -opl 2 by omega)) (Rat.le_of_lt bp)
   rw[nt]at m;have n:=Rat.mul_le_mul_of_nonneg_right h1 (Rat.le_of_lt bp)
   grind
  ·exact c
 have k:=Rat.intCast_lt_intCast.2 (a4 (by omega));rw[Rat.intCast_add,<-V_at,<-V_at,<-V_at]at k;have g:=V_gap pl pu;have m:=Rat.mul_le_mul_of_nonneg_right g (Rat.le_of_lt bp);refine Rat.le_of_mul_le_mul_right (c:=BR) ?_ bp;generalize (1/9223372036854775808:Rat)=e at *
 grind
theorem V_add_up{x y p:Int}(h:Up (vr x+vr y) p)(h1: -2 < V x+V y)(h2:V x+V y<=2):V p<=V x+V y+1/9223372036854775808:=by
 have n:Dn (vr (-x)+vr (-y)) (-p):=by
  rw[vr_neg,vr_neg,show -vr x+ -vr y= -(vr x+vr y) by omega]
  exact h
 have k:=V_add_dn n (by rw[V_neg,V_neg];grind) (by rw[V_neg,V_neg];grind);rw[V_neg,V_neg,V_neg]at k;generalize (1/9223372036854775808:Rat)=e at *
 grind
theorem wid_of{a b:Int}(h1: -opl 2-1<=a)(h2:b<=opl 2+1)(hab:a<=b)(h:V b<=V a+8/9223372036854775808):widI (some (a,b))<=p60:=by
 obtain⟨o1,o2⟩:=two_bd;have e2:=opl_two_eq;have s:=(addp_spec (x:=b) (y:= -a) true (by omega) (by omega) (by omega) (by omega)).2;rw[vr_neg]at s
 have w:vr b-vr a<=vr p60:=by
  refine Rat.intCast_le_intCast.1 ?_;rw[Rat.intCast_sub,<-V_at,<-V_at]
  have q:((vr p60:Int):Rat)*1152921504606846976=BR:=by
   have p:vr p60*1152921504606846976=2^KK:=p60_vr
   have p':=congrArg (fun z:Int=>z) p
   have c:((vr p60*1152921504606846976:Int):Rat)=((2^KK:Int):Rat):=by rw[p]
   rw[Rat.intCast_mul]at c;exact c
  have m:=Rat.mul_le_mul_of_nonneg_right h (Rat.le_of_lt br_pos);generalize ((vr p60:Int):Rat)=W at *
  grind
 exact s.mono (up_self (r:=p60) (by decide) (by decide)) (by omega)
