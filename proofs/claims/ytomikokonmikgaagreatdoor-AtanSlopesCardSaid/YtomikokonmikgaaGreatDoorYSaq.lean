/-
 Contracts that the proof rests on.
-/
import Derived.Test.YtomikokonmikgaaGreatDoorYSao
import Derived.Test.YtomikokonmikgaaGreatDoorYSap
namespace Go.Proofs.YtomikokonmikgaaGreatDoor
set_option maxHeartbeats 16000000
open Go.RowKit
set_option linter.unusedVariables false
set_option linter.unusedSimpArgs false
set_option maxRecDepth 100000
def Pk (w:World)(A:Option Addr)(n c:Nat)(t:Bool)(x:Int)(P:Bool->Bool->Int->Prop):Prop:=
 ∃q d:Nat,Nm w A n c q/\n<=20000/\decide (d=0)=t/\ -3000000<=x/\x<=3000000/\∀σ up,P σ up (rnd up (mk (sgi σ ((stk q d:Nat):Int)) (x-1)).1 (mk (sgi σ ((stk q d:Nat):Int)) (x-1)).2)
theorem Pk.below{w w':World}{A:Option Addr}{n c:Nat}{t:Bool}{x:Int}{P:Bool->Bool->Int->Prop}(h:Pk w A n c t x P)(b:Below w.heap.size w w'):Pk w' A n c t x P:=by
 obtain⟨q,d,h1,h2⟩:=h;exact⟨q,d,h1.below b,h2⟩
abbrev Pk.b:= @Pk.below
def PP7 (w:World)(P:Bool->Bool->Int->Prop)(e:Ending)(w':World):Prop:=∃A n c t x,e= .returned (.agg #[.slice A n c,.bool t,.int .i64 x])/\Pk w' A n c t x P/\Below w.heap.size w w'
def Jo.Fact.pk (P:Bool->Bool->Int->Prop):Jo.Fact:=⟨fun v w=>∃A n c t x,v= .agg #[.slice A n c,.bool t,.int .i64 x]/\Pk w A n c t x P,fun v w w' h b=>by
 obtain⟨A,n,c,t,x,e,p⟩:=h;exact⟨A,n,c,t,x,e,p.below b⟩⟩
def PQ7 (w:World)(Q:Nat)(t:Bool)(x:Int)(e:Ending)(w':World):Prop:=∃A n c,e= .returned (.agg #[.slice A n c,.bool t,.int .i64 x])/\Nm w' A n c Q/\n<=20000/\Below w.heap.size w w'
def MV (α:Nat)(z:Int)(T:Nat)(t:Bool):Prop:=∀(w:World) (A:Option Addr) (n c:Nat),Rd w A n c α->n<=8000->Calls Tryz.prog 250 #[.slice A n c,.int .i64 z] w (P1B w 15000 T t)
theorem qdivided_e{w:World}{A B:Option Addr}{n c m d α β T Q R:Nat}{La Lb z e x:Int}(ha:Rd w A n c α)(hb:Rd w B m d β)(hn:n<=8000)(hβ:β≠0)(hla:((blen α:Nat):Int)=La)(hlb:((blen β:Nat):Int)=Lb)(hz:Lb-La+64=z)(z1: -200000<=z)(z2:z<=200000)(hx:e-z=x)(x1: -3000000<=x)(x2:x<=2097152)
  (hm:MV α z T true) (hQ:T/β=Q) (hR:T%β=R) (h0:R=0):Calls Tryz.prog 215 #[.slice A n c,.slice B m d,.int .i64 e] w (PQ7 w Q true x):=by
 have HM:=ie hm;have HLA:=ie hla;have HLB:=ie hlb;have HQ:=ie hQ;have HRR:=ie hR;have H0:=ie h0;have HB0:=ie hβ
 have e0:Lb-La=z-64:=by omega
 have HW1:Hid (IntKind.i64.wrap (Lb-La)=z-64):=ie (by rw[e0];exact IntWalk.i64_in _ (by omega))
 have HW2:Hid (wrap64 z=z):=ie (IntWalk.wrap64_in _ (by omega))
 have HW4:Hid (wrap64 x=x):=ie (IntWalk.wrap64_in _ (by omega))
 have HW3:Hid (IntKind.i64.wrap (e-z)=x):=ie (by rw[hx];exact IntWalk.i64_in _ (by omega))
 have hz3:z<=2097152:=by omega
 have HMZ:Hid (min z 2097152=z):=ie (by omega)
 have HMX:Hid (min x 2097152=x):=ie (by omega)
 clear hm hla hlb hz e0 hx hQ hR h0 hβ z1 z2 x1
 go_enter Tryz.func215,Tryz.ntmps215
 go_upto_region 1 with (fail)
 generalize hW1:w.alloc _=w1 at *;obtain⟨XR,HB⟩:=Bo.en1 hW1;replace ha:=ha.below HB.out;replace hb:=hb.below HB.out;clear hW1
 go_wp2_with fail
 refine(vLenE hb HLB.out).mono ?_;rintro ee w2 ⟨rfl,B⟩;replace XR:=XR.b B;replace ha:=ha.b B;replace hb:=hb.b B;replace HB:=Hqb HB B;clear B
 go_wp2_with fail
 refine(vLenE ha HLA.out).mono ?_;rintro ee w3 ⟨rfl,B⟩;replace XR:=XR.b B;replace ha:=ha.b B;replace hb:=hb.b B;replace HB:=Hqb HB B;clear B;have hw1:=HW1.out;have hw2:=HW2.out;have hmz:=HMZ.out
 go_wp2_with fail
 refine(HM.out _ _ _ _ ha hn).mono ?_;rintro ee w4 ⟨A4,n4,c4,rfl,p4,k4,B⟩;replace XR:=XR.b B;replace hb:=hb.b B;replace HB:=Hqb HB B;clear B;clear hw1 hw2 hmz
 go_wp2_with fail
 refine(vDivE p4.rd hb (by omega) HB0.out HQ.out HRR.out).mono ?_;rintro ee w5 ⟨A5,n5,c5,B5,m5,d5,rfl,p5,r5,k5,l5,B⟩;replace XR:=XR.b B;replace HB:=Hqb HB B;clear B;clear hb p4
 obtain rfl:m5=0:=by have:=r5.pos;have:=H0.out;omega
 clear r5 H0;have hw3:=HW3.out;have hmx:=HMX.out;have xXR:=XR.cell;have zXR0:=XR.frozen;go_wp2;clear xXR zXR0;have SX:=StN.mk3 XR (.slice A5 n5 c5) (.bool true) (.int .i64 x);replace p5:=p5.s SX;exact bq (v:= .agg #[.slice A5 n5 c5,.bool true,.int .i64 x]) (by simp[results,Tryz.results215,go_sem,SX.box.cell]) rfl ⟨A5,n5,c5,rfl,p5,by omega,(SX.below HB.out (by omega))⟩
theorem qdivided_l{w:World}{A B:Option Addr}{n c m d α β T Q R:Nat}{La Lb z e x:Int}(ha:Rd w A n c α)(hb:Rd w B m d β)(hn:n<=8000)(hβ:β≠0)(hla:((blen α:Nat):Int)=La)(hlb:((blen β:Nat):Int)=Lb)(hz:Lb-La+64=z)(z1: -200000<=z)(z2:z<=200000)(hx:e-z=x)(x1: -3000000<=x)(x2:x<=2097152)
  (hm:MV α z T true) (hQ:T/β=Q) (hR:T%β=R) (h0:R≠0):Calls Tryz.prog 215 #[.slice A n c,.slice B m d,.int .i64 e] w (PQ7 w Q false x):=by
 have HM:=ie hm;have HLA:=ie hla;have HLB:=ie hlb;have HQ:=ie hQ;have HRR:=ie hR;have H0:=ie h0;have HB0:=ie hβ
 have e0:Lb-La=z-64:=by omega
 have HW1:Hid (IntKind.i64.wrap (Lb-La)=z-64):=ie (by rw[e0];exact IntWalk.i64_in _ (by omega))
 have HW2:Hid (wrap64 z=z):=ie (IntWalk.wrap64_in _ (by omega))
 have HW4:Hid (wrap64 x=x):=ie (IntWalk.wrap64_in _ (by omega))
 have HW3:Hid (IntKind.i64.wrap (e-z)=x):=ie (by rw[hx];exact IntWalk.i64_in _ (by omega))
 have hz3:z<=2097152:=by omega
 have HMZ:Hid (min z 2097152=z):=ie (by omega)
 have HMX:Hid (min x 2097152=x):=ie (by omega)
 clear hm hla hlb hz e0 hx hQ hR h0 hβ z1 z2 x1
 go_enter Tryz.func215,Tryz.ntmps215
 go_upto_region 1 with (fail)
 generalize hW1:w.alloc _=w1 at *;obtain⟨XR,HB⟩:=Bo.en1 hW1;replace ha:=ha.below HB.out;replace hb:=hb.below HB.out;clear hW1
 go_wp2_with fail
 refine(vLenE hb HLB.out).mono ?_;rintro ee w2 ⟨rfl,B⟩;replace XR:=XR.b B;replace ha:=ha.b B;replace hb:=hb.b B;replace HB:=Hqb HB B;clear B
 go_wp2_with fail
 refine(vLenE ha HLA.out).mono ?_;rintro ee w3 ⟨rfl,B⟩;replace XR:=XR.b B;replace ha:=ha.b B;replace hb:=hb.b B;replace HB:=Hqb HB B;clear B;have hw1:=HW1.out;have hw2:=HW2.out;have hmz:=HMZ.out
 go_wp2_with fail
 refine(HM.out _ _ _ _ ha hn).mono ?_;rintro ee w4 ⟨A4,n4,c4,rfl,p4,k4,B⟩;replace XR:=XR.b B;replace hb:=hb.b B;replace HB:=Hqb HB B;clear B;clear hw1 hw2 hmz
 go_wp2_with fail
 refine(vDivE p4.rd hb (by omega) HB0.out HQ.out HRR.out).mono ?_;rintro ee w5 ⟨A5,n5,c5,B5,m5,d5,rfl,p5,r5,k5,l5,B⟩;replace XR:=XR.b B;replace HB:=Hqb HB B;clear B;clear hb p4
 have hne:((m5:Int)==0)=false:=by
  have:=r5.pos
  have:=H0.out
  have:(m5:Int)≠0:=by omega
  simpa using this
 have hne2:¬m5=0:=by have:=r5.pos;have:=H0.out;omega
 clear r5 H0;have hw3:=HW3.out;have hmx:=HMX.out;have xXR:=XR.cell;have zXR0:=XR.frozen;go_wp2;clear xXR zXR0;have SX:=StN.mk3 XR (.slice A5 n5 c5) (.bool false) (.int .i64 x);replace p5:=p5.s SX;exact bq (v:= .agg #[.slice A5 n5 c5,.bool false,.int .i64 x]) (by simp[results,Tryz.results215,go_sem,SX.box.cell]) rfl ⟨A5,n5,c5,rfl,p5,by omega,(SX.below HB.out (by omega))⟩
theorem qdivided_n{w:World}{A B:Option Addr}{n c m d α β T Q R:Nat}{La Lb z e x:Int}(ha:Rd w A n c α)(hb:Rd w B m d β)(hn:n<=8000)(hβ:β≠0)(hla:((blen α:Nat):Int)=La)(hlb:((blen β:Nat):Int)=Lb)(hz:Lb-La+64=z)(z1: -200000<=z)(z2:z<=200000)(hx:e-z=x)(x1: -3000000<=x)(x2:x<=2097152)
  (hm:MV α z T false) (hQ:T/β=Q) (hR:T%β=R) (h0:True):Calls Tryz.prog 215 #[.slice A n c,.slice B m d,.int .i64 e] w (PQ7 w Q false x):=by
 have HM:=ie hm;have HLA:=ie hla;have HLB:=ie hlb;have HQ:=ie hQ;have HRR:=ie hR;have H0:=ie h0;have HB0:=ie hβ
 have e0:Lb-La=z-64:=by omega
 have HW1:Hid (IntKind.i64.wrap (Lb-La)=z-64):=ie (by rw[e0];exact IntWalk.i64_in _ (by omega))
 have HW2:Hid (wrap64 z=z):=ie (IntWalk.wrap64_in _ (by omega))
 have HW4:Hid (wrap64 x=x):=ie (IntWalk.wrap64_in _ (by omega))
 have HW3:Hid (IntKind.i64.wrap (e-z)=x):=ie (by rw[hx];exact IntWalk.i64_in _ (by omega))
 have hz3:z<=2097152:=by omega
 have HMZ:Hid (min z 2097152=z):=ie (by omega)
 have HMX:Hid (min x 2097152=x):=ie (by omega)
 clear hm hla hlb hz e0 hx hQ hR h0 hβ z1 z2 x1
 go_enter Tryz.func215,Tryz.ntmps215
 go_upto_region 1 with (fail)
 generalize hW1:w.alloc _=w1 at *;obtain⟨XR,HB⟩:=Bo.en1 hW1;replace ha:=ha.below HB.out;replace hb:=hb.below HB.out;clear hW1
 go_wp2_with fail
 refine(vLenE hb HLB.out).mono ?_;rintro ee w2 ⟨rfl,B⟩;replace XR:=XR.b B;replace ha:=ha.b B;replace hb:=hb.b B;replace HB:=Hqb HB B;clear B
 go_wp2_with fail
 refine(vLenE ha HLA.out).mono ?_;rintro ee w3 ⟨rfl,B⟩;replace XR:=XR.b B;replace ha:=ha.b B;replace hb:=hb.b B;replace HB:=Hqb HB B;clear B;have hw1:=HW1.out;have hw2:=HW2.out;have hmz:=HMZ.out
 go_wp2_with fail
 refine(HM.out _ _ _ _ ha hn).mono ?_;rintro ee w4 ⟨A4,n4,c4,rfl,p4,k4,B⟩;replace XR:=XR.b B;replace hb:=hb.b B;replace HB:=Hqb HB B;clear B;clear hw1 hw2 hmz
 go_wp2_with fail
 refine(vDivE p4.rd hb (by omega) HB0.out HQ.out HRR.out).mono ?_;rintro ee w5 ⟨A5,n5,c5,B5,m5,d5,rfl,p5,r5,k5,l5,B⟩;replace XR:=XR.b B;replace HB:=Hqb HB B;clear B;clear hb p4;clear r5 H0;have hw3:=HW3.out;have hmx:=HMX.out;have xXR:=XR.cell;have zXR0:=XR.frozen;go_wp2;clear xXR zXR0;have SX:=StN.mk3 XR (.slice A5 n5 c5) (.bool false) (.int .i64 x)
 replace p5:=p5.s SX;exact bq (v:= .agg #[.slice A5 n5 c5,.bool false,.int .i64 x]) (by simp[results,Tryz.results215,go_sem,SX.box.cell]) rfl ⟨A5,n5,c5,rfl,p5,by omega,(SX.below HB.out (by omega))⟩
theorem moved_up{α k:Nat}(hk:k<=200000):MV α (k:Int) (α*2^k) true:=fun w A n c h hn=>qmoved_up h hn hk rfl
theorem moved_dn{α k:Nat}{z:Int}(h0:0 < k)(hk:k<=200000)(hz: -z=(k:Int)):MV α z (α/2^k) (decide (α/2^k*2^k=α)):=fun w A n c h hn=>by
 refine qmoved_dn h hn hk h0 hz rfl rfl rfl ?_
 by_cases c:α/2^k*2^k=α
 ·rw[dt c,c,cmpI_self]
  rfl
 ·rw[df c]
  have:¬cmpI ((α/2^k*2^k:Nat):Int) (α:Int)=0:=fun e=>c (by have:=cmpI_zero.1 e;omega)
  simpa using this
theorem qDivided{w:World}{A B:Option Addr}{n c m d α β:Nat}{e:Int}{P:Bool->Bool->Int->Prop}(ha:Rd w A n c α)(hb:Rd w B m d β)(hn:n<=3500)(hm:m<=3500)(hα:0 < α)(hβ:0 < β)(e1: -2200000<=e)(e2:e<=2200000)(e3:e-((blen β:Int)-(blen α:Int)+64)<=2097152)
  (hP:∀σ up r,Sid up (sgi σ ((α:Int)*2^(e+(KK:Int)).toNat)) (β:Int) r->P σ up r):Calls Tryz.prog 215 #[.slice A n c,.slice B m d,.int .i64 e] w (PP7 w P):=by
 have hba:=ha.blen_le;have hbb:=hb.blen_le;obtain⟨z,hz⟩:∃z:Int,(blen β:Int)-(blen α:Int)+64=z:=⟨_,rfl⟩;rw[hz]at e3
 have hn0:β≠0:=by omega
 have fin:∀{Q D:Nat} {t t':Bool},t'=t->decide (D=0)=t->(∀σ up,Sid up (sgi σ ((α:Int)*2^(e+(KK:Int)).toNat)) (β:Int) (rnd up (mk (sgi σ ((stk Q D:Nat):Int)) (e-z-1)).1 (mk (sgi σ ((stk Q D:Nat):Int)) (e-z-1)).2))->∀ee w',PQ7 w Q t' (e-z) ee w'->PP7 w P ee w':=by
  rintro Q D t t' rfl ht hs ee w' ⟨A',n',c',he,hnm,hk,hb'⟩
  exact⟨A',n',c',t',e-z,he,⟨Q,D,hnm,hk,ht,by omega,by omega,fun σ up=>hP σ up _ (hs σ up)⟩,hb'⟩
 rcases Int.lt_or_le z 0 with c0 | c0
 ·obtain⟨k,hk⟩:∃k:Nat,z= -(k:Int):=⟨z.natAbs,by omega⟩
  have mv:=moved_dn (α:=α) (k:=k) (z:=z) (by omega) (by omega) (by omega)
  have hs:=fun {D} (hd:D=0↔(α/2^k*2^k=α/\α/2^k%β=0)) (σ up:Bool)=>part_dn (e:=e) (d:=D) hα hβ (by omega) (by omega) e1 e2 hd σ up
  have ez:e+(k:Int)-1=e-z-1:=by omega
  rw[ez]at hs
  by_cases h1:α/2^k*2^k=α
  ·rw[dt h1]at mv
   by_cases h2:α/2^k%β=0
   ·exact(qdivided_e ha hb (by omega) hn0 rfl rfl hz (by omega) (by omega) rfl (by omega) e3 mv rfl rfl h2).mono (fin (D:=0) rfl rfl (hs ⟨fun _=>⟨h1,h2⟩,fun _=>rfl⟩))
   ·exact(qdivided_l ha hb (by omega) hn0 rfl rfl hz (by omega) (by omega) rfl (by omega) e3 mv rfl rfl h2).mono (fin (D:=1) rfl rfl (hs ⟨fun h=>absurd h (by decide),fun h=>absurd h.2 h2⟩))
  ·rw[df h1]at mv
   exact(qdivided_n ha hb (by omega) hn0 rfl rfl hz (by omega) (by omega) rfl (by omega) e3 mv rfl rfl trivial).mono (fin (D:=1) rfl rfl (hs ⟨fun h=>absurd h (by decide),fun h=>absurd h.1 h1⟩))
 ·obtain⟨k,rfl⟩:∃k:Nat,z=(k:Int):=⟨z.toNat,by omega⟩
  have mv:=moved_up (α:=α) (k:=k) (by omega);have hs:=part_up (e:=e) hα hβ hz (by omega) (by omega) e1 e2
  by_cases h2:α*2^k%β=0
  ·exact(qdivided_e ha hb (by omega) hn0 rfl rfl hz (by omega) (by omega) rfl (by omega) e3 mv rfl rfl h2).mono (fin rfl (dt h2) hs)
  ·exact(qdivided_l ha hb (by omega) hn0 rfl rfl hz (by omega) (by omega) rfl (by omega) e3 mv rfl rfl h2).mono (fin rfl (df h2) hs)
theorem and_one (e:Int):bits .and .i64 e 1=e%2:=by
 have h1:(BitVec.ofInt IntKind.i64.bits e &&& BitVec.ofInt IntKind.i64.bits 1).toNat=(e%18446744073709551616).toNat%2:=by
  rw[BitVec.toNat_and,BitVec.toNat_ofInt,BitVec.toNat_ofInt,show (1%((2^IntKind.i64.bits:Nat):Int)).toNat=1 by decide,Nat.and_one_is_mod]
  rfl
 show IntKind.i64.wrap ((BitVec.ofInt IntKind.i64.bits e &&& BitVec.ofInt IntKind.i64.bits 1).toNat:Int)=e%2
 rw[h1,IntWalk.i64_in _ (by omega)]
 omega
theorem stk_zero7 (q:Nat):stk q 0=q*2^1:=by
 unfold stk
 rw[if_pos rfl]
 omega
theorem stk_one7{q r:Nat}(h:r≠0):stk q r=q*2^1+1:=by
 unfold stk
 rw[if_neg h]
 omega
theorem sg_sgi7 (s:Bool)(a:Nat):sg s a=sgi s (a:Int):=by
 cases s
 ·rw[sg_false,wsg_f]
 ·rw[sg_true,wsg_t]
theorem lit_one7 (W:World):Rd (W.alloc (.cells #[.int .u32 1] 92)) (some ⟨W.heap.size,0,none⟩) 1 1 1:=
 ⟨_,[1],(Own.new W [1]).all (Lim.cons (by decide) Lim.nil) (by simp) (Nat.le_refl _),by decide⟩
theorem qround_e{w:World}{A:Option Addr}{n c q a0 a:Nat}{x r:Int}{σ up:Bool}(hT:Tab w)(h:Nm w A n c q)(hn:n<=20000)(h0:q*2^1=a0)(h1:a0=a)(x1: -3000000<=x)(x2:x<=3000000)(hr:rnd up (mk (sg σ a) (x-1)).1 (mk (sg σ a) (x-1)).2=r):Calls Tryz.prog 217 #[.agg #[.slice A n c,.bool true,.int .i64 x],.bool σ,.bool up] w (PN w r):=by
 have HA:=ie h0;have H1:=ie h1;have HR:=ie hr;have HW:=iw (x-1);clear h0 h1 hr x1 x2
 go_enter Tryz.func217,Tryz.ntmps217
 go_upto_region 1 with (fail)
 generalize hW1:(w.alloc _).alloc _=w1 at *;obtain⟨X3,XR,HB⟩:=Bo.en2 hW1;replace hT:=hT.below HB.out;replace h:=h.below HB.out;clear hW1;have xX3:=X3.cell
 go_wp2_with fail
 refine(vShlE (s:=1) h.rd (by omega) (by decide) HA.out).mono ?_;rintro ee w2 ⟨A2,n2,c2,rfl,p2,k2,B⟩;clear xX3;replace X3:=X3.b B;replace XR:=XR.b B;replace hT:=hT.b B;replace h:=h.b B;replace HB:=Hqb HB B;clear B;clear h
 obtain rfl:=H1.out
 have xX3:=X3.cell
 go_upto_region 4 with (fail)
 clear xX3;refine jk [0,1,2,3,4,5,6,7,8] [some 17,some 18,some 19,some 20,some 21,some 22,some 23,some 24,some 25,none] [[],[],[0,1],[],[3],[4],[2,5],[],[6,7],[]] 10 1 [Jo.qb σ,Jo.Fact.eq (.slice A2 n2 c2),Jo.Fact.wn (sg σ a0) 30000,Jo.qp w.heap.size 2,Jo.qi x,Jo.Fact.eq (.int .i64 (x-1)),Jo.Fact.dy (sg σ a0) (x-1) 30000,Jo.qb up,Jo.Fact.num r,Jo.Fact.any] ?_ ?_
 ·iterate 2 (refine jm ?_ ?_;rotate_left)
  refine jm ?_ ?_
  ·rintro wj hJ _ rfl _ rfl K hK;simp only[Jo.z]at hK|-;go_simp;exact Jo.w1 (wMake σ (p2.b hJ).rd) hK.out
  refine jm ?_ ?_;rotate_left
  refine jm ?_ ?_
  ·rintro wj hJ _ rfl K hK;simp only[Jo.z]at hK|-;have xX32:=(X3.b hJ).a 2 (.int .i64 x) rfl;go_simp;exact hK.out _ _ rfl (br _ _)
  refine jm ?_ ?_
  ·rintro wj hJ _ rfl K hK;simp only[Jo.z]at hK|-;have hw:=HW.out;go_simp
   exact hK.out _ _ (by first | rfl | (show Value.int _ _=Value.int _ _;rw[hw])) (br _ _)
  refine jm ?_ ?_
  ·rintro wj hJ _ ⟨s7,A7,n7,c7,rfl,p7,k7⟩ _ rfl K hK;simp only[Jo.z]at hK|-;go_simp;exact hK.out _ _ ⟨s7,A7,n7,c7,rfl,p7,k7⟩ (br _ _)
  refine jm ?_ ?_;rotate_left
  refine jm ?_ ?_
  ·rintro wj hJ _ ⟨s8,A8,n8,c8,rfl,p8,k8⟩ _ rfl K hK;simp only[Jo.z]at hK|-;go_simp;exact Jo.n1 (nRound (hT.b hJ) p8.wr (by omega) rfl rfl HR.out) hK.out
  exact jo
  all_goals (rintro wj hJ;(repeat rintro _ rfl);intro K hK;simp only[Jo.z]at hK|-;go_simp;exact hK.out _ _ rfl (br _ _))
 rintro w8 hJ _ rfl _ rfl _ ⟨_,_,_,_,rfl,_⟩ _ _ _ rfl _ rfl _ ⟨_,_,_,_,rfl,_⟩ _ rfl _ ⟨K9,s9,M9,E9,rfl,q9⟩ -;simp only[Jo.z];replace XR:=XR.b hJ;replace HB:=Hqb HB hJ;have xXR:=XR.cell;have zXR0:=XR.frozen
 refine jn 9 fun K hK=>?_
 go_simp;refine hK.out _ _ ?_;clear hK K xXR zXR0;have SX:=StN.t4 XR K9 s9 M9 E9;refine jd ?_;go_wp2;exact bq (by simp[results,Tryz.results217,go_sem,SX.box.cell]) rfl ⟨_,_,_,_,rfl,q9,(SX.below HB.out (by omega))⟩
theorem qround_l{w:World}{A:Option Addr}{n c q a0 a:Nat}{x r:Int}{σ up:Bool}(hT:Tab w)(h:Nm w A n c q)(hn:n<=20000)(h0:q*2^1=a0)(h1:a0+1=a)(x1: -3000000<=x)(x2:x<=3000000)(hr:rnd up (mk (sg σ a) (x-1)).1 (mk (sg σ a) (x-1)).2=r):Calls Tryz.prog 217 #[.agg #[.slice A n c,.bool false,.int .i64 x],.bool σ,.bool up] w (PN w r):=by
 have HA:=ie h0;have H1:=ie h1;have HR:=ie hr;have HW:=iw (x-1);clear h0 h1 hr x1 x2
 go_enter Tryz.func217,Tryz.ntmps217
 go_upto_region 1 with (fail)
 generalize hW1:(w.alloc _).alloc _=w1 at *;obtain⟨X3,XR,HB⟩:=Bo.en2 hW1;replace hT:=hT.below HB.out;replace h:=h.below HB.out;clear hW1;have xX3:=X3.cell
 go_wp2_with fail
 refine(vShlE (s:=1) h.rd (by omega) (by decide) HA.out).mono ?_;rintro ee w2 ⟨A2,n2,c2,rfl,p2,k2,B⟩;clear xX3;replace X3:=X3.b B;replace XR:=XR.b B;replace hT:=hT.b B;replace h:=h.b B;replace HB:=Hqb HB B;clear B;clear h;have xX3:=X3.cell
 go_wp2_with fail
 refine(vAddE (p2.below (bel1 _ _)).rd (lit_one7 w2) (by omega) (by decide) H1.out).mono ?_;rintro ee w4 ⟨A4,n4,c4,rfl,p4,k4,B⟩;clear xX3;replace B:=bt (bel1 _ _) B;replace X3:=X3.b B;replace XR:=XR.b B;replace hT:=hT.b B;replace HB:=Hqb HB B;clear B;clear p2;have xX3:=X3.cell
 go_upto_region 4 with (fail)
 clear xX3;refine jk [0,1,2,3,4,5,6,7,8] [some 17,some 18,some 19,some 20,some 21,some 22,some 23,some 24,some 25,none] [[],[],[0,1],[],[3],[4],[2,5],[],[6,7],[]] 10 1 [Jo.qb σ,Jo.Fact.eq (.slice A4 n4 c4),Jo.Fact.wn (sg σ a) 30000,Jo.qp w.heap.size 2,Jo.qi x,Jo.Fact.eq (.int .i64 (x-1)),Jo.Fact.dy (sg σ a) (x-1) 30000,Jo.qb up,Jo.Fact.num r,Jo.Fact.any] ?_ ?_
 ·iterate 2 (refine jm ?_ ?_;rotate_left)
  refine jm ?_ ?_
  ·rintro wj hJ _ rfl _ rfl K hK;simp only[Jo.z]at hK|-;go_simp;exact Jo.w1 (wMake σ (p4.b hJ).rd) hK.out
  refine jm ?_ ?_;rotate_left
  refine jm ?_ ?_
  ·rintro wj hJ _ rfl K hK;simp only[Jo.z]at hK|-;have xX32:=(X3.b hJ).a 2 (.int .i64 x) rfl;go_simp;exact hK.out _ _ rfl (br _ _)
  refine jm ?_ ?_
  ·rintro wj hJ _ rfl K hK;simp only[Jo.z]at hK|-;have hw:=HW.out;go_simp
   exact hK.out _ _ (by first | rfl | (show Value.int _ _=Value.int _ _;rw[hw])) (br _ _)
  refine jm ?_ ?_
  ·rintro wj hJ _ ⟨s7,A7,n7,c7,rfl,p7,k7⟩ _ rfl K hK;simp only[Jo.z]at hK|-;go_simp;exact hK.out _ _ ⟨s7,A7,n7,c7,rfl,p7,k7⟩ (br _ _)
  refine jm ?_ ?_;rotate_left
  refine jm ?_ ?_
  ·rintro wj hJ _ ⟨s8,A8,n8,c8,rfl,p8,k8⟩ _ rfl K hK;simp only[Jo.z]at hK|-;go_simp;exact Jo.n1 (nRound (hT.b hJ) p8.wr (by omega) rfl rfl HR.out) hK.out
  exact jo
  all_goals (rintro wj hJ;(repeat rintro _ rfl);intro K hK;simp only[Jo.z]at hK|-;go_simp;exact hK.out _ _ rfl (br _ _))
 rintro w8 hJ _ rfl _ rfl _ ⟨_,_,_,_,rfl,_⟩ _ _ _ rfl _ rfl _ ⟨_,_,_,_,rfl,_⟩ _ rfl _ ⟨K9,s9,M9,E9,rfl,q9⟩ -;simp only[Jo.z];replace XR:=XR.b hJ;replace HB:=Hqb HB hJ;have xXR:=XR.cell;have zXR0:=XR.frozen
 refine jn 9 fun K hK=>?_
 go_simp;refine hK.out _ _ ?_;clear hK K xXR zXR0;have SX:=StN.t4 XR K9 s9 M9 E9;refine jd ?_;go_wp2;exact bq (by simp[results,Tryz.results217,go_sem,SX.box.cell]) rfl ⟨_,_,_,_,rfl,q9,(SX.below HB.out (by omega))⟩
theorem qRound{w:World}{A:Option Addr}{n c:Nat}{t σ up:Bool}{x r:Int}{P:Bool->Bool->Int->Prop}(hT:Tab w)(h:Pk w A n c t x P)(hr:∀r',P σ up r'->r'=r):Calls Tryz.prog 217 #[.agg #[.slice A n c,.bool t,.int .i64 x],.bool σ,.bool up] w (PN w r):=by
 obtain⟨q,d,hnm,hk,ht,x1,x2,hp⟩:=h;have e:=hr _ (hp σ up);rw[<-sg_sgi7]at e
 by_cases h0:d=0
 ·subst h0
  obtain rfl:true=t:=ht
  rw[stk_zero7]at e;exact qround_e hT hnm hk rfl rfl x1 x2 e
 ·obtain rfl:false=t:=by rw[<-ht];exact(df h0).symm
  rw[stk_one7 h0]at e;exact qround_l hT hnm hk rfl rfl x1 x2 e
theorem ratio_pre{up s t:Bool}{z y r:Int}{α β:Nat}(hz:sg s α=z)(hy:sg t β=y)(hβ:0 < β)(hr:Rq up z y r):
  ∃P:Bool->Bool->Int->Prop,(∀σ up r',Sid up (sgi σ ((α:Int)*2^((0:Int)+(KK:Int)).toNat)) (β:Int) r'->P σ up r')/\(∀r',P (s !=t) up r'->r'=r):=by
 refine⟨_,fun _ _ _ h=>h,fun r' h=>?_⟩
 have:=rq_of hβ h
 rw[<-sg_sgi7,<-sg_sgi7,hz,hy]at this;exact this.uniq hr
theorem rq_nought{up:Bool}{y r:Int}(hy:y≠0)(h:Rq up 0 y r):r=0:=by
 have h1:=(rq_some hy).1 h
 have e:sgi (decide (y < 0)) 0*2^KK=(0:Int):=by
  have:sgi (decide (y < 0)) (0:Int)=0:=by cases decide (y < 0) <;> rfl
  rw[this,Int.zero_mul]
 rw[e]at h1
 exact h1.uniq (sg_pos hy) (sid_exact (r:=0) (sg_pos hy) (by decide) (by decide) (by rw[show vr 0=0 from rfl,Int.zero_mul]))
theorem kRatio0{w:World}{A B:Option Addr}{n c m d:Nat}{s t up:Bool}{z y r:Int}(hT:Tab w)(h:Wr w s A n c z)(k:Wr w t B m d y)(hn:n<=3500)(hm:m<=3500)(hr:Rq up z y r):Calls Tryz.prog 173 #[.agg #[.bool s,.slice A n c],.agg #[.bool t,.slice B m d],.bool up] w (PN w r):=by
 obtain⟨σ,hσ⟩:∃σ,cmpI y 0=σ:=⟨_,rfl⟩;obtain⟨τ,hτ⟩:∃τ,cmpI z 0=τ:=⟨_,rfl⟩;have HS:=ie hσ;have HZ:=ie hτ
 go_enter Tryz.func173,Tryz.ntmps173
 go_upto_region 1 with (fail)
 generalize hW1:((w.alloc _).alloc _).alloc _=w1 at *;obtain⟨X3,X4,XR,HB⟩:=Bo.en3 hW1;replace hT:=hT.below HB.out;replace h:=h.below HB.out;replace k:=k.below HB.out;clear hW1;have xX4:=X4.cell
 go_wp2_with fail
 refine(wSign k HS.out).mono ?_;rintro ee w2 ⟨rfl,B⟩;clear xX4;replace X3:=X3.b B;replace X4:=X4.b B;replace XR:=XR.b B;replace hT:=hT.b B;replace h:=h.b B;replace k:=k.b B;replace HB:=Hqb HB B;clear B
 by_cases hy0:y=0
 ·have hs0:(σ==0)=true:=by rw[<-hσ,cmpI_eq hy0];rfl
  subst hy0;have HRR:=ie (rq_none.1 hr).symm;clear h k hT hr hσ hτ HS HZ
  go_wp2_with fail
  refine(qAway HRR.out).mono ?_;rintro ee w6 ⟨K3,s3,M3,E3,rfl,q3,B⟩;replace X3:=X3.b B;replace X4:=X4.b B;replace XR:=XR.b B;replace HB:=Hqb HB B;clear B;have xXR:=XR.cell;have zXR0:=XR.frozen;go_wp2;clear xXR zXR0;have SX:=StN.t4 XR K3 s3 M3 E3;exact bq (by simp[results,Tryz.results173,go_sem,SX.box.cell]) rfl ⟨_,_,_,_,rfl,q3,(SX.below HB.out (by omega))⟩
 ·have hs0:(σ==0)=false:=by
   have:σ≠0:=fun e=>hy0 (cmpI_zero.1 (hσ.trans e))
   simpa using this
  clear hσ HS;have xX3:=X3.cell
  go_wp2_with fail
  refine(wSign h HZ.out).mono ?_;rintro ee w3 ⟨rfl,B⟩;clear xX3;replace X3:=X3.b B;replace X4:=X4.b B;replace XR:=XR.b B;replace hT:=hT.b B;replace h:=h.b B;replace k:=k.b B;replace HB:=Hqb HB B;clear B
  by_cases hz0:z=0
  ·have hs1:(τ==0)=true:=by rw[<-hτ,cmpI_eq hz0];rfl
   subst hz0
   obtain rfl:=rq_nought hy0 hr
   clear h k hT hr hτ HZ;have xXR:=XR.cell;have zXR0:=XR.frozen;have xX3:=X3.cell;have xX4:=X4.cell;go_wp2;clear xXR zXR0 xX3 xX4;have SX:=StN.t4 XR 0 false 0 0;exact bq (by simp[results,Tryz.results173,go_sem,SX.box.cell]) rfl ⟨_,_,_,_,rfl,Fq.nought,(SX.below HB.out (by omega))⟩
  ·have hs1:(τ==0)=false:=by
    have:τ≠0:=fun e=>hz0 (cmpI_zero.1 (hτ.trans e))
    simpa using this
   clear hτ HZ;obtain⟨α,ha,hz⟩:=h;obtain⟨β,hb,hy⟩:=k
   have α0:0 < α:=by
    rcases Nat.eq_zero_or_pos α with e | e
    ·subst e
     exact absurd (show z=0 by rw[<-hz];cases s <;> rfl) hz0
    ·exact e
   have β0:0 < β:=by
    rcases Nat.eq_zero_or_pos β with e | e
    ·subst e
     exact absurd (show y=0 by rw[<-hy];cases t <;> rfl) hy0
    ·exact e
   obtain⟨P,hP,hPr⟩:=ratio_pre hz hy β0 hr;have hba:=ha.blen_le;have hbb:=hb.blen_le
   have eb3:(0:Int)-((blen β:Int)-(blen α:Int)+64)<=2097152:=by omega
   have HPP:=ie hP;have HPR:=ie hPr;clear hP hPr hr hz hy hz0 hy0 hba hbb
   go_upto_region 5 with (fail)
   refine jk [0,1,2,3,4,5,6,7,8,9,10,11] [some 18,some 19,some 20,some 21,some 22,some 23,some 24,some 25,some 26,some 27,some 28,some 29,none] [[],[0],[],[2],[1,3],[],[5],[],[7],[6,8],[],[4,9,10],[]] 13 1 [Jo.qp w.heap.size 1,Jo.Fact.eq (.slice A n c),Jo.qp (w.heap.size+1) 1,Jo.Fact.eq (.slice B m d),Jo.Fact.pk P,Jo.qp w.heap.size 0,Jo.qb s,Jo.qp (w.heap.size+1) 0,Jo.qb t,Jo.Fact.eq (.bool (s !=t)),Jo.qb up,Jo.Fact.num r,Jo.Fact.any] ?_ ?_
   ·refine jm ?_ ?_;rotate_left
    refine jm ?_ ?_
    ·rintro wj hJ _ rfl K hK;simp only[Jo.z]at hK|-;have xX31:=(X3.b hJ).a 1 (.slice A n c) rfl;go_simp;exact hK.out _ _ rfl (br _ _)
    refine jm ?_ ?_;rotate_left
    refine jm ?_ ?_
    ·rintro wj hJ _ rfl K hK;simp only[Jo.z]at hK|-;have xX41:=(X4.b hJ).a 1 (.slice B m d) rfl;go_simp;exact hK.out _ _ rfl (br _ _)
    refine jm ?_ ?_
    ·rintro wj hJ _ rfl _ rfl K hK;simp only[Jo.z]at hK|-;go_simp;refine(qDivided (ha.b hJ) (hb.b hJ) (by omega) (by omega) α0 β0 (by decide) (by decide) eb3 HPP.out).mono ?_;rintro ee wk ⟨A7,n7,c7,t7,x7,rfl,p7,B⟩;exact hK.out _ _ ⟨A7,n7,c7,t7,x7,rfl,p7⟩ B
    refine jm ?_ ?_;rotate_left
    refine jm ?_ ?_
    ·rintro wj hJ _ rfl K hK;simp only[Jo.z]at hK|-;have xX30:=(X3.b hJ).a 0 (.bool s) rfl;go_simp;exact hK.out _ _ rfl (br _ _)
    refine jm ?_ ?_;rotate_left
    refine jm ?_ ?_
    ·rintro wj hJ _ rfl K hK;simp only[Jo.z]at hK|-;have xX40:=(X4.b hJ).a 0 (.bool t) rfl;go_simp;exact hK.out _ _ rfl (br _ _)
    iterate 2 (refine jm ?_ ?_;rotate_left)
    refine jm ?_ ?_
    ·rintro wj hJ _ ⟨A7,n7,c7,t7,x7,rfl,p7⟩ _ rfl _ rfl K hK;simp only[Jo.z]at hK|-;go_simp;exact Jo.n1 (qRound (hT.b hJ) p7 HPR.out) hK.out
    exact jo
    all_goals (rintro wj hJ;(repeat rintro _ rfl);intro K hK;simp only[Jo.z]at hK|-;go_simp;exact hK.out _ _ rfl (br _ _))
   rintro w8 hJ _ _ _ rfl _ _ _ rfl _ ⟨_,_,_,_,_,rfl,_⟩ _ _ _ rfl _ _ _ rfl _ rfl _ rfl _ ⟨K9,s9,M9,E9,rfl,q9⟩ -;simp only[Jo.z];replace XR:=XR.b hJ;replace HB:=Hqb HB hJ;have xXR:=XR.cell;have zXR0:=XR.frozen
   refine jn 12 fun K hK=>?_
   go_simp;refine hK.out _ _ ?_;clear hK K xXR zXR0;have SX:=StN.t4 XR K9 s9 M9 E9;refine jd ?_;go_wp2;exact bq (by simp[results,Tryz.results173,go_sem,SX.box.cell]) rfl ⟨_,_,_,_,rfl,q9,(SX.below HB.out (by omega))⟩
theorem kRatio{w:World}{A B:Option Addr}{n c m d:Nat}{s t up:Bool}{z y r:Int}(hT:Tab w)(h:Wr w s A n c z)(k:Wr w t B m d y)(hn:n<=20)(hm:m<=20)(hr:Rq up z y r):Calls Tryz.prog 173 #[.agg #[.bool s,.slice A n c],.agg #[.bool t,.slice B m d],.bool up] w (PN w r):=kRatio0 hT h k (by omega) (by omega) hr
def lo1:Sp->List Int
 | none=>[]
 | some (a,_)=>[a]
def hi1:Sp->List Int
 | none=>[]
 | some (_,b)=>[b]
def lowL:List Sp->List Int
 | []=>[]
 | x::l=>lo1 x ++lowL l
def highL:List Sp->List Int
 | []=>[]
 | x::l=>hi1 x ++highL l
theorem lowL_append:∀(l m:List Sp),lowL (l ++m)=lowL l ++lowL m
 | [],m=>rfl
 | x::l,m=>by
  show lo1 x ++lowL (l ++m)=(lo1 x ++lowL l)++lowL m
  rw[lowL_append l m,List.append_assoc]
theorem highL_append:∀(l m:List Sp),highL (l ++m)=highL l ++highL m
 | [],m=>rfl
 | x::l,m=>by
  show hi1 x ++highL (l ++m)=(hi1 x ++highL l)++highL m
  rw[highL_append l m,List.append_assoc]
theorem lowL_take{l:List Sp}{k:Nat}(h:k < l.length):lowL (l.take (k+1))=lowL (l.take k)++lo1 (l.getD k none):=by
 rw[List.take_succ_eq_append_getElem h,lowL_append,List.getD_eq_getElem?_getD,List.getElem?_eq_getElem h];exact congrArg _ (List.append_nil _)
theorem highL_take{l:List Sp}{k:Nat}(h:k < l.length):highL (l.take (k+1))=highL (l.take k)++hi1 (l.getD k none):=by
 rw[List.take_succ_eq_append_getElem h,highL_append,List.getD_eq_getElem?_getD,List.getElem?_eq_getElem h];exact congrArg _ (List.append_nil _)
theorem len_lo:∀l:List Sp,(lowL l).length<=l.length
 | []=>Nat.le_refl _
 | none::l=>Nat.le_succ_of_le (len_lo l)
 | some (a,b)::l=>Nat.succ_le_succ (len_lo l)
theorem meetI_mk (A B a b:Int):meetI (mkI A B) (some (a,b))=mkI (max A a) (min B b):=by
 by_cases h:A<=B/\A < 19342822337206103650074625/\ -19342822337206103650074625 < B
 ·rw[mkI_some h.1 h.2.1 h.2.2]
  rfl
 ·rw[mkI_none h,mkI_none (fun c=>h (by omega))]
  rfl
theorem meet_fold:∀(l:List Sp) (A B:Int),(lowL l).length=l.length->l.foldl meetI (mkI A B)=mkI ((lowL l).foldl max A) ((highL l).foldl min B)
 | [],A,B,_=>rfl
 | none::l,A,B,h=>by
  have h1:(lowL l).length=l.length+1:=h
  have h2:=len_lo l
  omega
 | some (a,b)::l,A,B,h=>by
  show l.foldl meetI (meetI (mkI A B) (some (a,b)))=_
  rw[meetI_mk];exact meet_fold l (max A a) (min B b) (Nat.succ_inj.1 h)
theorem meet_some{l:List Sp}(h:(lowL l).length=l.length):meetL l=mkI (mxp (lowL l)) (mnp (highL l)):=by
 have e:allI=mkI (-19342822337206103650074625) 19342822337206103650074625:=(mkI_some (by omega) (by omega) (by omega)).symm
 unfold meetL mxp mnp
 rw[e,TP_eq];exact meet_fold l _ _ h
theorem meet_gone:∀(l:List Sp) (x:Sp),(lowL l).length < l.length->l.foldl meetI x=none
 | [],x,h=>absurd h (Nat.lt_irrefl _)
 | none::l,x,h=>by
  show l.foldl meetI (meetI x none)=none
  rw[meetI_none];exact meet_stuck l
 | some (a,b)::l,x,h=>meet_gone l _ (Nat.lt_of_succ_lt_succ h)
theorem meet_no{l:List Sp}(h:(lowL l).length < l.length):meetL l=none:=meet_gone l allI h
theorem hullI_mk{A B a b:Int}(h:A=19342822337206103650074625/\B= -19342822337206103650074625\/A<=B/\A < 19342822337206103650074625/\ -19342822337206103650074625 < B)(k:SpOk (some (a,b))):
  hullI (mkI A B) (some (a,b))=mkI (min A a) (max B b)/\(min A a<=max B b/\min A a < 19342822337206103650074625/\ -19342822337206103650074625 < max B b):=by
 obtain⟨k1,k2,k3,k4,k5⟩:=k;refine⟨?_,by omega,by omega,by omega⟩
 rcases h with⟨rfl,rfl⟩ | ⟨h1,h2,h3⟩
 ·rw[mkI_none (by omega),mkI_some (by omega) (by omega) (by omega)]
  have e1:min 19342822337206103650074625 a=a:=by omega
  have e2:max (-19342822337206103650074625) b=b:=by omega
  rw[e1,e2]
  rfl
 ·rw[mkI_some h1 h2 h3]
  rfl
theorem hull_fold:∀(l:List Sp) (A B:Int),(A=19342822337206103650074625/\B= -19342822337206103650074625\/A<=B/\A < 19342822337206103650074625/\ -19342822337206103650074625 < B)->(∀y ∈ l,SpOk y)->l.foldl hullI (mkI A B)=mkI ((lowL l).foldl min A) ((highL l).foldl max B)
 | [],A,B,_,_=>rfl
 | none::l,A,B,h,k=>by
  show l.foldl hullI (hullI (mkI A B) none)=_
  rw[hullI_none]
  exact hull_fold l A B h (fun y hy=>k y (List.mem_cons_of_mem _ hy))
 | some (a,b)::l,A,B,h,k=>by
  obtain⟨e,g⟩:=hullI_mk h (k _ (List.mem_cons_self ..))
  show l.foldl hullI (hullI (mkI A B) (some (a,b)))=_
  rw[e]
  exact hull_fold l _ _ (.inr g) (fun y hy=>k y (List.mem_cons_of_mem _ hy))
theorem hull_ends{l:List Sp}(h:∀y ∈ l,SpOk y):hullL l=mkI (mnp (lowL l)) (mxp (highL l)):=by
 have e:(none:Sp)=mkI 19342822337206103650074625 (-19342822337206103650074625):=(mkI_none (by omega)).symm
 unfold hullL mxp mnp
 rw[e,TP_eq];exact hull_fold l _ _ (.inl ⟨rfl,rfl⟩) h
def nrow:List (Int × Bool × Int × Int)->List Value
 | []=>[]
 | (K,s,M,E)::l=> .int .i64 K:: .bool s:: .int .u64 M:: .int .i64 E::nrow l
theorem nrow_append:∀l m,nrow (l ++m)=nrow l ++nrow m
 | [],m=>rfl
 | (K,s,M,E)::l,m=>by
  show _::_::_::_::nrow (l ++m)=_
  rw[nrow_append l m]
  rfl
theorem nrow_at:∀(l:List (Int × Bool × Int × Int)) (k:Nat) (K:Int) (s:Bool) (M E:Int),l[k]?=some (K,s,M,E)->(nrow l)[k*4]?=some (.int .i64 K)/\(nrow l)[k*4+1]?=some (.bool s)/\(nrow l)[k*4+2]?=some (.int .u64 M)/\(nrow l)[k*4+3]?=some (.int .i64 E)
 | [],k,_,_,_,_,h=>by cases h
 | (K,s,M,E)::l,0,_,_,_,_,h=>by
  cases h
  exact⟨rfl,rfl,rfl,rfl⟩
 | (K,s,M,E)::l,k+1,K2,s2,M2,E2,h=>by
  have:=nrow_at l k K2 s2 M2 E2 h
  have e:(k+1)*4=k*4+4:=by omega
  rw[e];exact this
def Na (w:World)(base:Nat)(A:Option Addr)(n c:Nat)(l:List Int):Prop:=
 ∃r:List (Int × Bool × Int × Int),w.ownsRow base 24 4 (.slice A n c) n (nrow r)/\r.length=n/\l.length=n/\∀k,k < n->∃K s M E,r[k]?=some (K,s,M,E)/\Fq K s M E (l.getD k 0)
theorem Na.nil (w:World)(base:Nat):Na w base none 0 0 []:=⟨[],World.ownsRow_nil w base _ 4,rfl,rfl,fun k h=>absurd h (Nat.not_lt_zero _)⟩
theorem Na.len{w:World}{base n c:Nat}{A:Option Addr}{l:List Int}(h:Na w base A n c l):l.length=n:=by
 obtain⟨_,_,_,h,_⟩:=h;exact h
theorem Na.below{w w':World}{base n c:Nat}{A:Option Addr}{l:List Int}(h:Na w base A n c l)(hb:Below w.heap.size w w'):Na w' base A n c l:=by
 obtain⟨r,h1,h2⟩:=h;refine⟨r,⟨h1.1,?_⟩,h2⟩
 rcases h1.2 with h3 | ⟨g,cap,cur,hv,hg,hh,q⟩
 ·exact .inl h3
 ·refine .inr ⟨g,cap,cur,hv,hg,?_,q⟩;rw[hb.block g (Array.getElem?_eq_some_iff.1 hh).1];exact hh
abbrev Na.b:= @Na.below
theorem Na.nl{w:World}{base n c:Nat}{A:Option Addr}{l:List Int}(h:Na w base A n c l)(hn:n<=1099511627776):Nl w A n c l:=by
 obtain⟨r,h1,h2,h3,h4⟩:=h
 rcases h1.2 with⟨e1,e2⟩ | ⟨g,cap,cur,hv,hg,hh,hc,hm,hs,ht⟩
 ·injection e1 with a1 a2 a3
  subst a1;subst a2;subst a3
  exact⟨h3,Nat.le_refl _,by omega,fun h=>absurd h (Nat.lt_irrefl _)⟩
 ·injection hv with a1 a2 a3
  subst a1;subst a3
  refine⟨h3,hc,hn,fun _=>⟨g,0,rfl,fun k hk=>?_⟩⟩
  obtain⟨K,s,M,E,hr,q⟩:=h4 k hk;obtain⟨c0,c1,c2,c3⟩:=nrow_at r k K s M E hr
  have cell:∀j v,(nrow r)[j]?=some v->w.cell? ⟨g,0+j,none⟩=some v:=by
   intro j v hv
   rw[cell_of_row w g (0+j) _ _ (0,0) hh,Nat.zero_add,<-Array.getElem?_toList];rw[<-ht,List.getElem?_take]at hv
   split at hv
   ·exact hv
   ·cases hv
  exact⟨K,s,M,E,cell _ _ c0,by rw[Nat.add_assoc];exact cell _ _ c1,by rw[Nat.add_assoc];exact cell _ _ c2,by rw[Nat.add_assoc];exact cell _ _ c3,q.top,q.rk⟩
theorem infoNum:(Tryz.prog.info? 24).map (fun i=>(i.zero,i.size,i.bytes))=some (some (.agg #[.int .i64 0,.bool false,.int .u64 0,.int .i64 0]),4,32):=by kernel_rfl
section
variable {w w':World} {base n c:Nat} {A:Option Addr} {l:List Int}
def ownA (A:Option Addr):Option Nat:=A.map (·.block)
theorem own_eq (A:Option Addr)(n c:Nat):(Value.slice A n c).ownBlock=ownA A:=by cases A <;> rfl
theorem Na.kept{row:Option Nat}(h:Na w base A n c l)(hg:w.grownBy w' row)(hne:ownA A=none\/ownA A≠row):Na w' base A n c l:=by
 obtain⟨r,h1,h2⟩:=h;exact⟨r,h1.kept hg (by rw[own_eq];exact hne),h2⟩
theorem Na.own_lt (h:Na w base A n c l):∀k,ownA A=some k->base<=k/\k < w.heap.size:=by
 obtain⟨r,h1,h2⟩:=h
 intro k hk
 exact h1.lt k (by rw[own_eq];exact hk)
theorem run_na{ty:TypeId}{g:Nat}{K M E a:Int}{s:Bool}(h:Na w base A n c l)(q:Fq K s M E a)(X:Bo w g #[.int .i64 K,.bool s,.int .u64 M,.int .i64 E] 24)(hn:n+1<=1099511627776)(hb:base<=w.heap.size):
  ∃A2 c2 w',(Builtin.append_ #[85,85] ty #[.slice A n c,.slice (some ⟨g,0,none⟩) 1 1]).run Tryz.prog w= .ok (.slice A2 (n+1) c2) w'/\Na w' base A2 (n+1) c2 (l ++[a])/\w.grownBy w' (ownA A)/\(ownA A2=ownA A\/ownA A2=some w.heap.size):=by
 obtain⟨i,hi,hz,hsi,hby⟩:=info_parts infoNum;obtain⟨r,h1,h2,h3,h4⟩:=h
 obtain⟨v',w',hr,ho,hg,_,hat⟩:=run_append_own_at (P:=Tryz.prog) w base 85 ty 24 i _ 4 32 Tryz.underlying85 hi hz hsi hby rfl (by decide) _ n (nrow r) h1 ⟨g,0,none⟩ 1 1 (nrow [(K,s,M,E)]) rfl (by
  intro j u hj
  have hc:=X.cell
  rcases j with _ | _ | _ | _ | j
  ·cases hj
   exact hc 0
  ·cases hj
   exact hc 1
  ·cases hj
   exact hc 2
  ·cases hj
   exact hc 3
  ·cases hj) (by
  intro u hu
  simp only[nrow,List.mem_cons,List.not_mem_nil,or_false]at hu
  rcases hu with rfl | rfl | rfl | rfl <;> rfl) (by unfold maxLen;omega) (by omega) hb
 rw[own_eq]at hg hat;rw[<-nrow_append]at ho
 obtain⟨A2,c2,rfl⟩:∃A2 c2,v'= .slice A2 (n+1) c2:=by
  rcases ho.2 with⟨_,h0⟩ | ⟨g',cap',cur',hv,_⟩
  ·omega
  ·exact⟨_,_,hv⟩
 rw[own_eq]at hat
 refine⟨A2,c2,w',hr,⟨_,ho,by rw[List.length_append,h2];rfl,by rw[List.length_append,h3];rfl,fun k hk=>?_⟩,hg,hat⟩
 by_cases hkn:k < n
 ·obtain⟨K1,s1,M1,E1,hq,qq⟩:=h4 k hkn;refine⟨K1,s1,M1,E1,by rw[List.getElem?_append_left (by omega)];exact hq,?_⟩
  rw[List.getD_eq_getElem?_getD,List.getElem?_append_left (by omega),<-List.getD_eq_getElem?_getD];exact qq
 ·obtain rfl:k=n:=by omega
  refine⟨K,s,M,E,by rw[List.getElem?_append_right (by omega),h2];simp,?_⟩
  rw[List.getD_eq_getElem?_getD,List.getElem?_append_right (by omega),h3]
  simpa using q
theorem wpList_na{ops:Array Oper}{rest:List Oper}{o:Oper}{a:Act}{Q:Exit->Act->World->Prop}(hgd:o.guard=none)(s x:Operand)
  (ho:o.op= .call {callee:= .builtin .append,args:= #[s,x],argTypes:= #[85,85]}) {g:Nat} {K M E p:Int} {b:Bool}
  (hs:a.eval s= .slice A n c) (hx:a.eval x= .slice (some ⟨g,0,none⟩) 1 1) (h:Na w base A n c l) (q:Fq K b M E p) (X:Bo w g #[.int .i64 K,.bool b,.int .u64 M,.int .i64 E] 24) (hn:n+1<=1099511627776) (hb:base<=w.heap.size)
  (hK:∀A2 c2 w',Na w' base A2 (n+1) c2 (l ++[p])->w.grownBy w' (ownA A)->(ownA A2=ownA A\/ownA A2=some w.heap.size)->wpList Tryz.prog ops Q rest (a.put o.dst (.slice A2 (n+1) c2)) w'):wpList Tryz.prog ops Q (o::rest) a w:=by
 refine wpList_plain hgd fun K hK2=>?_
 obtain⟨A2,c2,w',hr,h1,h2,h3⟩:=run_na (ty:=o.type) h q X hn hb
 unfold Oper.wp execOp
 simp only[ho,resolve,invoke,builtin,Sem.run_bind,Sem.run_pure,Result.andThen_ok,List.map_toArray,List.map_cons,List.map_nil,hs,hx,hr];exact hK2 _ _ (hK A2 c2 w' h1 h2 h3)
end
theorem nInfE{w:World}(s:Bool):Calls Tryz.prog 79 #[.bool s] w (fun e w'=>e= .returned (.agg #[.int .i64 2,.bool s,.int .u64 0,.int .i64 0])/\Below w.heap.size w w'):=by
 refine(nInf (s:=s) rfl).mono ?_;rintro ee w2 ⟨K,s1,M,E,rfl,q,B⟩;obtain⟨rfl,rfl,rfl,rfl⟩:=q.uniq (fq_inf2 s);exact⟨rfl,B⟩
theorem cmp_gtE{x y c:Int}(h:cmpI x y=c):decide (0 < c)=decide (y < x):=by
 rw[<-h]
 by_cases e:y < x
 ·rw[dt e]
  exact dt (by rcases cmpI_tri x y with⟨a,b⟩ | ⟨a,b⟩ | ⟨a,b⟩ <;> rw[b] <;> omega)
 ·rw[df e]
  exact df (by rcases cmpI_tri x y with⟨a,b⟩ | ⟨a,b⟩ | ⟨a,b⟩ <;> rw[b] <;> omega)
theorem kvNone{w:World}:Calls Tryz.prog 90 #[] w (PV w none):=by
 go_enter Tryz.func90,Tryz.ntmps90
 go_upto_region 1 with (fail)
 generalize hW1:w.alloc _=w1 at *;obtain⟨XR,HB⟩:=Bo.en1 hW1;clear hW1;have xXR:=XR.cell;have zXR0:=XR.frozen;go_wp2;clear xXR zXR0;have SX:=StN.t9 XR true 0 false 0 0 0 false 0 0;exact bq (by simp[results,Tryz.results90,go_sem,SX.box.cell]) rfl ⟨_,_,_,_,_,_,_,_,_,rfl,Ci.none,(SX.below HB.out (by omega))⟩
theorem kvNoneE{w:World}:Calls Tryz.prog 90 #[] w (fun e w'=>e= .returned (.agg #[.bool true,.int .i64 0,.bool false,.int .u64 0,.int .i64 0,.int .i64 0,.bool false,.int .u64 0,.int .i64 0])/\Below w.heap.size w w'):=by
 refine kvNone.mono ?_;rintro ee w2 ⟨e1,K1,s1,M1,E1,K1b,s1b,M1b,E1b,rfl,v1,B⟩;obtain⟨rfl,rfl,rfl,rfl,rfl,rfl,rfl,rfl,rfl⟩:=v1.uniq Ci.none;exact⟨rfl,B⟩
theorem kvOrN{w:World}{D M E:Int}{s:Bool}{r:Int}(hM:LQ M)(hr:rk D s M E=r):Calls Tryz.prog 107 #[VQ D s M E] w (PN w r):=by
 delta VQ
 by_cases hm:MayQ D s M E
 ·have HQ:=rk_fq hM hm;rw[hr]at HQ
  have HC:=ie (show decide (MayQ D s M E)=true from dt hm)
  clear hm hr hM
  go_enter Tryz.func107,Tryz.ntmps107
  go_upto_region 1 with (fail)
  generalize hW1:(w.alloc _).alloc _=w1 at *;obtain⟨X1,XR,HB⟩:=Bo.en2 hW1;clear hW1;have xX1:=X1.cell
  go_wp2_with fail
  refine(nMay HC.out).mono ?_;rintro ee w2 ⟨rfl,B⟩;clear xX1;replace X1:=X1.b B;replace XR:=XR.b B;replace HB:=Hqb HB B;clear B;have xXR:=XR.cell;have zXR0:=XR.frozen;have xX1:=X1.cell;go_wp2;clear xXR zXR0 xX1;have SX:=StN.t4 XR D s M E
  exact bq (by simp[results,Tryz.results107,go_sem,SX.box.cell]) rfl ⟨D,s,M,E,rfl,HQ,(SX.below HB.out (by omega))⟩
 ·rw[rk_not hm]at hr;subst hr
  have HC:=ie (show decide (MayQ D s M E)=false from df hm)
  clear hm hM
  go_enter Tryz.func107,Tryz.ntmps107
  go_upto_region 1 with (fail)
  generalize hW1:(w.alloc _).alloc _=w1 at *;obtain⟨X1,XR,HB⟩:=Bo.en2 hW1;clear hW1;have xX1:=X1.cell
  go_wp2_with fail
  refine(nMay HC.out).mono ?_;rintro ee w2 ⟨rfl,B⟩;clear xX1;replace X1:=X1.b B;replace XR:=XR.b B;replace HB:=Hqb HB B;clear B;have xXR:=XR.cell;have zXR0:=XR.frozen;have xX1:=X1.cell;go_wp2;clear xXR zXR0 xX1;have SX:=StN.t4 XR 0 false 0 0
  exact bq (by simp[results,Tryz.results107,go_sem,SX.box.cell]) rfl ⟨_,_,_,_,rfl,Fq.nought,(SX.below HB.out (by omega))⟩
theorem kvMake{w:World}{D D' M M' E E':Int}{s s':Bool}{a b:Int}{x:Sp}(hM:LQ M)(hM':LQ M')(ha:rk D s M E=a)(hb:rk D' s' M' E'=b)(hx:mkI a b=x):Calls Tryz.prog 35 #[VQ D s M E,VQ D' s' M' E'] w (PV w x):=by
 delta VQ
 have HA:=ie ha;have HBB:=ie hb;clear ha hb
 go_enter Tryz.func35,Tryz.ntmps35
 go_upto_region 1 with (fail)
 generalize hW1:((w.alloc _).alloc _).alloc _=w1 at *;obtain⟨X2,X3,XR,HB⟩:=Bo.en3 hW1;clear hW1;refine jk [0,1,2,3] [some 5,some 6,some 7,some 8,none,none] [[],[0],[],[2],[],[]] 6 2 [Jo.q4 D s M E,Jo.Fact.num a,Jo.q4 D' s' M' E',Jo.Fact.num b,Jo.Fact.any,Jo.Fact.any] ?_ ?_
 ·refine jm ?_ ?_;rotate_left
  refine jm ?_ ?_
  ·rintro wj hJ _ rfl K hK;simp only[Jo.z]at hK|-;go_simp;exact Jo.n1 (kvOrN hM HA.out) hK.out
  refine jm ?_ ?_;rotate_left
  refine jm ?_ ?_
  ·rintro wj hJ _ rfl K hK;simp only[Jo.z]at hK|-;go_simp;exact Jo.n1 (kvOrN hM' HBB.out) hK.out
  exact jo
  all_goals (rintro wj hJ;(repeat rintro _ rfl);intro K hK;simp only[Jo.z]at hK|-;have xX2:=(X2.b hJ).cell;have xX3:=(X3.b hJ).cell;go_simp;exact hK.out _ _ rfl (br _ _))
 rintro w2 hJ _ rfl _ ⟨K1,s1,M1,E1,rfl,q1⟩ _ rfl _ ⟨K2,s2,M2,E2,rfl,q2⟩ -;simp only[Jo.z];replace X2:=X2.b hJ;replace X3:=X3.b hJ;replace XR:=XR.b hJ;replace HB:=Hqb HB hJ;have xX2:=X2.cell;have zX20:=X2.frozen
 refine jn 4 fun K hK=>?_
 go_simp;refine hK.out _ _ ?_;clear hK K xX2 zX20;generalize hS:(((w2.setCell _ _).setCell _ _).setCell _ _).setCell _ _=w3 at *;have SX:=StN.of4 X2 hS;replace X3:=X3.s SX;replace XR:=XR.s SX;replace HB:=Hqs HB SX (by omega);replace X2:=SX.box;clear SX hS;have xX3:=X3.cell;have zX30:=X3.frozen
 refine jn 5 fun K hK=>?_
 go_simp;refine hK.out _ _ ?_;clear hK K xX3 zX30;generalize hS:(((w3.setCell _ _).setCell _ _).setCell _ _).setCell _ _=w4 at *;have SX:=StN.of4 X3 hS;replace X2:=X2.s SX;replace XR:=XR.s SX;replace HB:=Hqs HB SX (by omega);replace X3:=SX.box;clear SX hS;refine jd ?_;clear HA HBB hM hM';obtain⟨c,hc⟩:∃c,cmpI a b=c:=⟨_,rfl⟩
 have hg:=cmp_gtE hc
 have HC:Hid (cmpI (rk K1 s1 M1 E1) (rk K2 s2 M2 E2)=c):=ie (by rw[q1.rk,q2.rk];exact hc)
 clear hc
 by_cases hgt:b < a
 ·rw[mkI_none (by omega)]at hx
  obtain rfl:none=x:=hx
  rw[dt hgt]at hg;have HC0:=ie hg;clear hg hgt;go_wp2;refine jk [0,1,2,3,4,5,6,7,8,9,10,11,12,13] [some 9,some 10,some 11,some 12,some 13,some 14,some 15,some 16,some 17,some 18,some 19,some 20,some 21,some 22] [[],[],[0,1],[2],[3],[4],[4],[4,5,6],[4,7],[8],[9],[9],[9,10,11],[9,12]] 14 0 [Jo.q4 K1 s1 M1 E1,Jo.q4 K2 s2 M2 E2,Jo.qi c,Jo.qb true,Jo.qb true,Jo.qu,Jo.qu,Jo.qu,Jo.qb true,Jo.qb true,Jo.qu,Jo.qu,Jo.qu,Jo.qb true] ?_ ?_
  ·iterate 2 (refine jm ?_ ?_;rotate_left)
   refine jm ?_ ?_
   ·rintro wj hJ _ rfl _ rfl K hK;simp only[Jo.z]at hK|-;go_simp;refine(nCmp q1.top q2.top HC.out).mono ?_;rintro ee wk ⟨rfl,B⟩;exact hK.out _ _ rfl B
   refine jm ?_ ?_
   ·rintro wj hJ _ rfl K hK;simp only[Jo.z]at hK|-;have hc0:=HC0.out;go_simp
    exact hK.out _ _ (by first | rfl | (show Value.bool _=Value.bool _;rw[hc0]) | simp_all) (br _ _)
   iterate 10 (refine jm ?_ ?_;rotate_left)
   exact jo
   all_goals (rintro wj hJ;(repeat rintro _ rfl);intro K hK;simp only[Jo.z]at hK|-;have xX2:=(X2.b hJ).cell;have xX3:=(X3.b hJ).cell;go_simp;exact hK.out _ _ rfl (br _ _))
  rintro w8 hJ _ rfl _ rfl _ rfl _ rfl _ rfl _ rfl _ rfl _ rfl _ rfl _ rfl _ rfl _ rfl _ rfl _ rfl -;simp only[Jo.z];replace X2:=X2.b hJ;replace X3:=X3.b hJ;replace XR:=XR.b hJ;replace HB:=Hqb HB hJ;refine jd ?_
  go_wp2_with fail
  refine(kvNoneE).mono ?_;rintro ee w9 ⟨rfl,B⟩;replace X2:=X2.b B;replace X3:=X3.b B;replace XR:=XR.b B;replace HB:=Hqb HB B;clear B;have xXR:=XR.cell;have zXR0:=XR.frozen;go_wp2;clear xXR zXR0;have SX:=StN.t9 XR true 0 false 0 0 0 false 0 0
  exact bq (by simp[results,Tryz.results35,go_sem,SX.box.cell]) rfl ⟨_,_,_,_,_,_,_,_,_,rfl,Ci.none,(SX.below HB.out (by omega))⟩
 ·rw[df hgt]at hg;have HC0:=ie hg;clear hg
  by_cases ht:a=19342822337206103650074625
  ·subst ht;rw[mkI_none (by omega)]at hx
   obtain rfl:none=x:=hx
   obtain⟨rfl,rfl,rfl,rfl⟩:=q1.uniq (show Fq 2 false 0 0 19342822337206103650074625 from fq_inf2 false)
   clear hgt;go_wp2;refine jk [0,1,2,3,4,5,6,7,8,9,10,11,12,13] [some 9,some 10,some 11,some 12,some 13,some 14,some 15,some 16,some 17,some 18,some 19,some 20,some 21,some 22] [[],[],[0,1],[2],[3],[4],[4],[4,5,6],[4,7],[8],[9],[9],[9,10,11],[9,12]] 14 0 [Jo.q4 2 false 0 0,Jo.q4 K2 s2 M2 E2,Jo.qi c,Jo.qb false,Jo.qb false,Jo.q4 2 false 0 0,Jo.q4 2 false 0 0,Jo.qb true,Jo.qb true,Jo.qb true,Jo.qu,Jo.qu,Jo.qu,Jo.qb true] ?_ ?_
   ·iterate 2 (refine jm ?_ ?_;rotate_left)
    refine jm ?_ ?_
    ·rintro wj hJ _ rfl _ rfl K hK;simp only[Jo.z]at hK|-;go_simp;refine(nCmp q1.top q2.top HC.out).mono ?_;rintro ee wk ⟨rfl,B⟩;exact hK.out _ _ rfl B
    refine jm ?_ ?_
    ·rintro wj hJ _ rfl K hK;simp only[Jo.z]at hK|-;have hc0:=HC0.out;go_simp
     exact hK.out _ _ (by first | rfl | (show Value.bool _=Value.bool _;rw[hc0]) | simp_all) (br _ _)
    iterate 2 (refine jm ?_ ?_;rotate_left)
    refine jm ?_ ?_
    ·rintro wj hJ _ rfl K hK;simp only[Jo.z]at hK|-;go_simp;refine(nInfE false).mono ?_;rintro ee wk ⟨rfl,B⟩;exact hK.out _ _ rfl B
    refine jm ?_ ?_
    ·rintro wj hJ _ rfl _ rfl _ rfl K hK;simp only[Jo.z]at hK|-;go_simp
     repeat' split
     all_goals exact hK.out _ _ (congrArg Value.bool (by first | rfl | (exfalso;simp_all) | simp_all)) (br _ _)
    iterate 6 (refine jm ?_ ?_;rotate_left)
    exact jo
    all_goals (rintro wj hJ;(repeat rintro _ rfl);intro K hK;simp only[Jo.z]at hK|-;have xX2:=(X2.b hJ).cell;have xX3:=(X3.b hJ).cell;go_simp;exact hK.out _ _ rfl (br _ _))
   rintro w8 hJ _ rfl _ rfl _ rfl _ rfl _ rfl _ rfl _ rfl _ rfl _ rfl _ rfl _ rfl _ rfl _ rfl _ rfl -;simp only[Jo.z];replace X2:=X2.b hJ;replace X3:=X3.b hJ;replace XR:=XR.b hJ;replace HB:=Hqb HB hJ;refine jd ?_
   go_wp2_with fail
   refine(kvNoneE).mono ?_;rintro ee w9 ⟨rfl,B⟩;replace X2:=X2.b B;replace X3:=X3.b B;replace XR:=XR.b B;replace HB:=Hqb HB B;clear B;have xXR:=XR.cell;have zXR0:=XR.frozen;go_wp2;clear xXR zXR0;have SX:=StN.t9 XR true 0 false 0 0 0 false 0 0
   exact bq (by simp[results,Tryz.results35,go_sem,SX.box.cell]) rfl ⟨_,_,_,_,_,_,_,_,_,rfl,Ci.none,(SX.below HB.out (by omega))⟩
  ·have HN1:Hid (¬(K1=2/\s1=false/\M1=0/\E1=0)):=ie (by
    rintro ⟨rfl,rfl,rfl,rfl⟩;exact ht (by rw[<-q1.rk];exact(fq_inf2 false).rk))
   by_cases hb:b= -19342822337206103650074625
   ·subst hb;rw[mkI_none (by omega)]at hx
    obtain rfl:none=x:=hx
    obtain⟨rfl,rfl,rfl,rfl⟩:=q2.uniq (show Fq 2 true 0 0 (-19342822337206103650074625)from fq_inf2 true)
    clear hgt ht;go_wp2;refine jk [0,1,2,3,4,5,6,7,8,9,10,11,12,13] [some 9,some 10,some 11,some 12,some 13,some 14,some 15,some 16,some 17,some 18,some 19,some 20,some 21,some 22] [[],[],[0,1],[2],[3],[4],[4],[4,5,6],[4,7],[8],[9],[9],[9,10,11],[9,12]] 14 0 [Jo.q4 K1 s1 M1 E1,Jo.q4 2 true 0 0,Jo.qi c,Jo.qb false,Jo.qb false,Jo.q4 K1 s1 M1 E1,Jo.q4 2 false 0 0,Jo.qb false,Jo.qb false,Jo.qb false,Jo.q4 2 true 0 0,Jo.q4 2 true 0 0,Jo.qb true,Jo.qb true] ?_ ?_
    ·iterate 2 (refine jm ?_ ?_;rotate_left)
     refine jm ?_ ?_
     ·rintro wj hJ _ rfl _ rfl K hK;simp only[Jo.z]at hK|-;go_simp;refine(nCmp q1.top q2.top HC.out).mono ?_;rintro ee wk ⟨rfl,B⟩;exact hK.out _ _ rfl B
     refine jm ?_ ?_
     ·rintro wj hJ _ rfl K hK;simp only[Jo.z]at hK|-;have hc0:=HC0.out;go_simp
      exact hK.out _ _ (by first | rfl | (show Value.bool _=Value.bool _;rw[hc0]) | simp_all) (br _ _)
     iterate 2 (refine jm ?_ ?_;rotate_left)
     refine jm ?_ ?_
     ·rintro wj hJ _ rfl K hK;simp only[Jo.z]at hK|-;go_simp;refine(nInfE false).mono ?_;rintro ee wk ⟨rfl,B⟩;exact hK.out _ _ rfl B
     refine jm ?_ ?_
     ·rintro wj hJ _ rfl _ rfl _ rfl K hK;simp only[Jo.z]at hK|-;have hne:=HN1.out;go_simp
      repeat' split
      all_goals exact hK.out _ _ (congrArg Value.bool (by first | rfl | (exfalso;simp_all))) (br _ _)
     iterate 3 (refine jm ?_ ?_;rotate_left)
     refine jm ?_ ?_
     ·rintro wj hJ _ rfl K hK;simp only[Jo.z]at hK|-;go_simp;refine(nInfE true).mono ?_;rintro ee wk ⟨rfl,B⟩;exact hK.out _ _ rfl B
     refine jm ?_ ?_
     ·rintro wj hJ _ rfl _ rfl _ rfl K hK;simp only[Jo.z]at hK|-;go_simp
      repeat' split
      all_goals exact hK.out _ _ (congrArg Value.bool (by first | rfl | (exfalso;simp_all) | simp_all)) (br _ _)
     refine jm ?_ ?_;rotate_left
     exact jo
     all_goals (rintro wj hJ;(repeat rintro _ rfl);intro K hK;simp only[Jo.z]at hK|-;have xX2:=(X2.b hJ).cell;have xX3:=(X3.b hJ).cell;go_simp;exact hK.out _ _ rfl (br _ _))
    rintro w8 hJ _ rfl _ rfl _ rfl _ rfl _ rfl _ rfl _ rfl _ rfl _ rfl _ rfl _ rfl _ rfl _ rfl _ rfl -;simp only[Jo.z];replace X2:=X2.b hJ;replace X3:=X3.b hJ;replace XR:=XR.b hJ;replace HB:=Hqb HB hJ;refine jd ?_
    go_wp2_with fail
    refine(kvNoneE).mono ?_;rintro ee w9 ⟨rfl,B⟩;replace X2:=X2.b B;replace X3:=X3.b B;replace XR:=XR.b B;replace HB:=Hqb HB B;clear B;have xXR:=XR.cell;have zXR0:=XR.frozen;go_wp2;clear xXR zXR0;have SX:=StN.t9 XR true 0 false 0 0 0 false 0 0
    exact bq (by simp[results,Tryz.results35,go_sem,SX.box.cell]) rfl ⟨_,_,_,_,_,_,_,_,_,rfl,Ci.none,(SX.below HB.out (by omega))⟩
   ·have HN2:Hid (¬(K2=2/\s2=true/\M2=0/\E2=0)):=ie (by
     rintro ⟨rfl,rfl,rfl,rfl⟩;exact hb (by rw[<-q2.rk];exact(fq_inf2 true).rk))
    have g1:=q1.bd;have g2:=q2.bd
    have g3:a<=b:=by omega
    have g4:a < 19342822337206103650074625:=by omega
    have g5: -19342822337206103650074625 < b:=by omega
    rw[mkI_some g3 g4 g5]at hx
    obtain rfl:some (a,b)=x:=hx
    have HV:Ci false K1 s1 M1 E1 K2 s2 M2 E2 (some (a,b)):=⟨rfl,q1,q2,g3,g4,g5⟩
    clear hgt ht hb g1 g2 g3 g4 g5;go_wp2;refine jk [0,1,2,3,4,5,6,7,8,9,10,11,12,13] [some 9,some 10,some 11,some 12,some 13,some 14,some 15,some 16,some 17,some 18,some 19,some 20,some 21,some 22] [[],[],[0,1],[2],[3],[4],[4],[4,5,6],[4,7],[8],[9],[9],[9,10,11],[9,12]] 14 0 [Jo.q4 K1 s1 M1 E1,Jo.q4 K2 s2 M2 E2,Jo.qi c,Jo.qb false,Jo.qb false,Jo.q4 K1 s1 M1 E1,Jo.q4 2 false 0 0,Jo.qb false,Jo.qb false,Jo.qb false,Jo.q4 K2 s2 M2 E2,Jo.q4 2 true 0 0,Jo.qb false,Jo.qb false] ?_ ?_
    ·iterate 2 (refine jm ?_ ?_;rotate_left)
     refine jm ?_ ?_
     ·rintro wj hJ _ rfl _ rfl K hK;simp only[Jo.z]at hK|-;go_simp;refine(nCmp q1.top q2.top HC.out).mono ?_;rintro ee wk ⟨rfl,B⟩;exact hK.out _ _ rfl B
     refine jm ?_ ?_
     ·rintro wj hJ _ rfl K hK;simp only[Jo.z]at hK|-;have hc0:=HC0.out;go_simp
      exact hK.out _ _ (by first | rfl | (show Value.bool _=Value.bool _;rw[hc0]) | simp_all) (br _ _)
     iterate 2 (refine jm ?_ ?_;rotate_left)
     refine jm ?_ ?_
     ·rintro wj hJ _ rfl K hK;simp only[Jo.z]at hK|-;go_simp;refine(nInfE false).mono ?_;rintro ee wk ⟨rfl,B⟩;exact hK.out _ _ rfl B
     refine jm ?_ ?_
     ·rintro wj hJ _ rfl _ rfl _ rfl K hK;simp only[Jo.z]at hK|-;have hne:=HN1.out;go_simp
      repeat' split
      all_goals exact hK.out _ _ (congrArg Value.bool (by first | rfl | (exfalso;simp_all))) (br _ _)
     iterate 3 (refine jm ?_ ?_;rotate_left)
     refine jm ?_ ?_
     ·rintro wj hJ _ rfl K hK;simp only[Jo.z]at hK|-;go_simp;refine(nInfE true).mono ?_;rintro ee wk ⟨rfl,B⟩;exact hK.out _ _ rfl B
     refine jm ?_ ?_
     ·rintro wj hJ _ rfl _ rfl _ rfl K hK;simp only[Jo.z]at hK|-;have hne:=HN2.out;go_simp
      repeat' split
      all_goals exact hK.out _ _ (congrArg Value.bool (by first | rfl | (exfalso;simp_all))) (br _ _)
     refine jm ?_ ?_;rotate_left
     exact jo
     all_goals (rintro wj hJ;(repeat rintro _ rfl);intro K hK;simp only[Jo.z]at hK|-;have xX2:=(X2.b hJ).cell;have xX3:=(X3.b hJ).cell;go_simp;exact hK.out _ _ rfl (br _ _))
    rintro w8 hJ _ rfl _ rfl _ rfl _ rfl _ rfl _ rfl _ rfl _ rfl _ rfl _ rfl _ rfl _ rfl _ rfl _ rfl -;simp only[Jo.z];replace X2:=X2.b hJ;replace X3:=X3.b hJ;replace XR:=XR.b hJ;replace HB:=Hqb HB hJ;refine jd ?_;have xXR:=XR.cell;have zXR0:=XR.frozen;have xX2:=X2.cell
    have xX3:=X3.cell;go_wp2;clear xXR zXR0 xX2 xX3;have SX:=StN.t9 XR false K1 s1 M1 E1 K2 s2 M2 E2;exact bq (by simp[results,Tryz.results35,go_sem,SX.box.cell]) rfl ⟨_,_,_,_,_,_,_,_,_,rfl,HV,(SX.below HB.out (by omega))⟩
theorem kvPoint{w:World}{D M E:Int}{s:Bool}{a:Int}{x:Sp}(hM:LQ M)(ha:rk D s M E=a)(hx:mkI a a=x):Calls Tryz.prog 46 #[VQ D s M E] w (PV w x):=by
 delta VQ
 have HA:=ie ha;have HX:=ie hx;clear ha hx
 go_enter Tryz.func46,Tryz.ntmps46
 go_upto_region 1 with (fail)
 generalize hW1:(w.alloc _).alloc _=w1 at *;obtain⟨X1,XR,HB⟩:=Bo.en2 hW1;clear hW1;have xX1:=X1.cell
 go_wp2_with fail
 refine(kvMake hM hM HA.out HA.out HX.out).mono ?_;rintro ee w2 ⟨e2,K2,s2,M2,E2,K2b,s2b,M2b,E2b,rfl,v2,B⟩;clear xX1;replace XR:=XR.b B;replace HB:=Hqb HB B;clear B;have xXR:=XR.cell;have zXR0:=XR.frozen;go_wp2;clear xXR zXR0;have SX:=StN.t9 XR e2 K2 s2 M2 E2 K2b s2b M2b E2b
 exact bq (by simp[results,Tryz.results46,go_sem,SX.box.cell]) rfl ⟨_,_,_,_,_,_,_,_,_,rfl,v2,(SX.below HB.out (by omega))⟩
theorem may_make{e:Bool}{D M E D' M' E':Int}{s s':Bool}{e4:Bool}{K4 M4 E4 K4b M4b E4b:Int}{s4 s4b:Bool}(hM:LQ M)(hM':LQ M')(v:Ci e4 K4 s4 M4 E4 K4b s4b M4b E4b (mkI (rk D s M E) (rk D' s' M' E')))(h1:¬(e=true/\D=0/\s=false/\M=0/\E=0/\D'=0/\s'=false/\M'=0/\E'=0)):(e=e4/\D=K4/\s=s4/\M=M4/\E=E4/\D'=K4b/\s'=s4b/\M'=M4b/\E'=E4b)↔mayI e D s M E D' s' M' E'=true:=by
 constructor
 ·rintro ⟨rfl,rfl,rfl,rfl,rfl,rfl,rfl,rfl,rfl⟩;exact v.may
 ·intro h
  have c:=mayI_ci hM hM' h
  cases e
  ·have h2:decide (rkI false D s M E D' s' M' E'≠none)=true:=h
   rw[rkI_f]at c;rw[decide_eq_true_iff,rkI_f]at h2
   by_cases hq:MayQ D s M E/\MayQ D' s' M' E'
   ·rw[if_pos hq]at c;exact c.uniq v
   ·rw[if_neg hq]at h2;exact absurd rfl h2
  ·rw[rkI_t]at c;exact absurd (c.uniq Ci.none) h1
theorem kvMay{w:World}{e:Bool}{D M E D' M' E':Int}{s s':Bool}{r:Bool}(hM:LQ M)(hM':LQ M')(hr:mayI e D s M E D' s' M' E'=r):Calls Tryz.prog 176 #[VI e D s M E D' s' M' E'] w (PB w r):=by
 delta VI
 by_cases h1:e=true/\D=0/\s=false/\M=0/\E=0/\D'=0/\s'=false/\M'=0/\E'=0
 ·obtain⟨rfl,rfl,rfl,rfl,rfl,rfl,rfl,rfl,rfl⟩:=h1
  obtain rfl:true=r:=Ci.none.may.symm.trans hr
  clear hr
  go_enter Tryz.func176,Tryz.ntmps176
  go_upto_region 1 with (fail)
  generalize hW1:w.alloc _=w1 at *;obtain⟨X1,HB⟩:=Bo.en1 hW1;clear hW1;refine jk [0,1,2,3,4,5,6,7,8,9,10,11,12] [some 3,some 4,some 5,some 6,some 7,some 8,some 9,some 10,some 11,some 12,some 13,some 14,some 2] [[],[],[0,1],[2],[3],[3],[3,5],[3],[3,7],[3,6,8],[3,4,9],[3,10],[11]] 13 0 [Jo.q9 true 0 false 0 0 0 false 0 0,Jo.q9 true 0 false 0 0 0 false 0 0,Jo.qb true,Jo.qb true,Jo.qu,Jo.qu,Jo.qu,Jo.qu,Jo.qu,Jo.qu,Jo.qu,Jo.qb true,Jo.qb true] ?_ ?_
  ·refine jm ?_ ?_;rotate_left
   refine jm ?_ ?_
   ·rintro wj hJ K hK;simp only[Jo.z]at hK|-;go_simp;refine(kvNoneE).mono ?_;rintro ee wk ⟨rfl,B⟩;exact hK.out _ _ rfl B
   refine jm ?_ ?_
   ·rintro wj hJ _ rfl _ rfl K hK;simp only[Jo.z]at hK|-;go_simp
    repeat' split
    all_goals exact hK.out _ _ (congrArg Value.bool (by first | rfl | (exfalso;simp_all) | simp_all)) (br _ _)
   iterate 10 (refine jm ?_ ?_;rotate_left)
   exact jo
   all_goals (rintro wj hJ;(repeat rintro _ rfl);intro K hK;simp only[Jo.z]at hK|-;have xX1:=(X1.b hJ).cell;go_simp;exact hK.out _ _ rfl (br _ _))
  rintro w8 hJ _ rfl _ rfl _ rfl _ rfl _ rfl _ rfl _ rfl _ rfl _ rfl _ rfl _ rfl _ rfl _ rfl -;simp only[Jo.z];replace X1:=X1.b hJ;replace HB:=Hqb HB hJ;refine jd ?_;go_wp2
  go_ret
  exact⟨rfl,HB.out⟩
 ·have HN1:=ie h1
  have HY:Hid (∀{e4 K4 s4 M4 E4 K4b s4b M4b E4b},Ci e4 K4 s4 M4 E4 K4b s4b M4b E4b (mkI (rk D s M E) (rk D' s' M' E'))->((e=e4/\D=K4/\s=s4/\M=M4/\E=E4/\D'=K4b/\s'=s4b/\M'=M4b/\E'=E4b)↔r=true)):=ie (fun v=>by rw[<-hr];exact may_make hM hM' v h1)
  clear hr h1
  cases r
  ·go_enter Tryz.func176,Tryz.ntmps176
   go_upto_region 1 with (fail)
   generalize hW1:w.alloc _=w1 at *;obtain⟨X1,HB⟩:=Bo.en1 hW1;clear hW1;refine jk [0,1,2,3,4,5,6,7,8,9,10,11,12] [some 3,some 4,some 5,some 6,some 7,some 8,some 9,some 10,some 11,some 12,some 13,some 14,some 2] [[],[],[0,1],[2],[3],[3],[3,5],[3],[3,7],[3,6,8],[3,4,9],[3,10],[11]] 13 0 [Jo.q9 e D s M E D' s' M' E',Jo.q9 true 0 false 0 0 0 false 0 0,Jo.qb false,Jo.qb false,Jo.q9 e D s M E D' s' M' E',Jo.qp w.heap.size 1,Jo.q4 D s M E,Jo.qp w.heap.size 5,Jo.q4 D' s' M' E',Jo.Fact.iv (mkI (rk D s M E) (rk D' s' M' E')),Jo.qb false,Jo.qb false,Jo.qb false] ?_ ?_
   ·refine jm ?_ ?_;rotate_left
    refine jm ?_ ?_
    ·rintro wj hJ K hK;simp only[Jo.z]at hK|-;go_simp;refine(kvNoneE).mono ?_;rintro ee wk ⟨rfl,B⟩;exact hK.out _ _ rfl B
    refine jm ?_ ?_
    ·rintro wj hJ _ rfl _ rfl K hK;simp only[Jo.z]at hK|-;have hne:=HN1.out;go_simp
     repeat' split
     all_goals exact hK.out _ _ (congrArg Value.bool (by first | rfl | (exfalso;simp_all))) (br _ _)
    iterate 6 (refine jm ?_ ?_;rotate_left)
    refine jm ?_ ?_
    ·rintro wj hJ _ rfl _ rfl _ rfl K hK;simp only[Jo.z]at hK|-;go_simp;exact Jo.v1 (kvMake hM hM' rfl rfl rfl) hK.out
    refine jm ?_ ?_
    ·rintro wj hJ _ rfl _ rfl _ ⟨e9,K9,s9,M9,E9,K9b,s9b,M9b,E9b,rfl,v9⟩ K hK;simp only[Jo.z]at hK|-
     have hne:=fun c=>ff ((HY.out v9).1 c)
     go_simp
     repeat' split
     all_goals exact hK.out _ _ (congrArg Value.bool (by first | rfl | (exfalso;simp_all))) (br _ _)
    iterate 2 (refine jm ?_ ?_;rotate_left)
    exact jo
    all_goals (rintro wj hJ;(repeat rintro _ rfl);intro K hK;simp only[Jo.z]at hK|-;have xX1:=(X1.b hJ).cell;go_simp;exact hK.out _ _ rfl (br _ _))
   rintro w8 hJ _ rfl _ rfl _ rfl _ rfl _ rfl _ _ _ rfl _ _ _ rfl _ ⟨e9,K9,s9,M9,E9,K9b,s9b,M9b,E9b,rfl,v9⟩ _ rfl _ rfl _ rfl -;simp only[Jo.z];replace X1:=X1.b hJ;replace HB:=Hqb HB hJ;refine jd ?_;go_wp2
   go_ret
   exact⟨rfl,HB.out⟩
  ·go_enter Tryz.func176,Tryz.ntmps176
   go_upto_region 1 with (fail)
   generalize hW1:w.alloc _=w1 at *;obtain⟨X1,HB⟩:=Bo.en1 hW1;clear hW1;refine jk [0,1,2,3,4,5,6,7,8,9,10,11,12] [some 3,some 4,some 5,some 6,some 7,some 8,some 9,some 10,some 11,some 12,some 13,some 14,some 2] [[],[],[0,1],[2],[3],[3],[3,5],[3],[3,7],[3,6,8],[3,4,9],[3,10],[11]] 13 0 [Jo.q9 e D s M E D' s' M' E',Jo.q9 true 0 false 0 0 0 false 0 0,Jo.qb false,Jo.qb false,Jo.q9 e D s M E D' s' M' E',Jo.qp w.heap.size 1,Jo.q4 D s M E,Jo.qp w.heap.size 5,Jo.q4 D' s' M' E',Jo.Fact.iv (mkI (rk D s M E) (rk D' s' M' E')),Jo.qb true,Jo.qb true,Jo.qb true] ?_ ?_
   ·refine jm ?_ ?_;rotate_left
    refine jm ?_ ?_
    ·rintro wj hJ K hK;simp only[Jo.z]at hK|-;go_simp;refine(kvNoneE).mono ?_;rintro ee wk ⟨rfl,B⟩;exact hK.out _ _ rfl B
    refine jm ?_ ?_
    ·rintro wj hJ _ rfl _ rfl K hK;simp only[Jo.z]at hK|-;have hne:=HN1.out;go_simp
     repeat' split
     all_goals exact hK.out _ _ (congrArg Value.bool (by first | rfl | (exfalso;simp_all))) (br _ _)
    iterate 6 (refine jm ?_ ?_;rotate_left)
    refine jm ?_ ?_
    ·rintro wj hJ _ rfl _ rfl _ rfl K hK;simp only[Jo.z]at hK|-;go_simp;exact Jo.v1 (kvMake hM hM' rfl rfl rfl) hK.out
    refine jm ?_ ?_
    ·rintro wj hJ _ rfl _ rfl _ ⟨e9,K9,s9,M9,E9,K9b,s9b,M9b,E9b,rfl,v9⟩ K hK;simp only[Jo.z]at hK|-;obtain⟨rfl,rfl,rfl,rfl,rfl,rfl,rfl,rfl,rfl⟩:=(HY.out v9).2 rfl;go_simp
     repeat' split
     all_goals exact hK.out _ _ (congrArg Value.bool (by first | rfl | (exfalso;simp_all) | simp_all)) (br _ _)
    iterate 2 (refine jm ?_ ?_;rotate_left)
    exact jo
    all_goals (rintro wj hJ;(repeat rintro _ rfl);intro K hK;simp only[Jo.z]at hK|-;have xX1:=(X1.b hJ).cell;go_simp;exact hK.out _ _ rfl (br _ _))
   rintro w8 hJ _ rfl _ rfl _ rfl _ rfl _ rfl _ _ _ rfl _ _ _ rfl _ ⟨e9,K9,s9,M9,E9,K9b,s9b,M9b,E9b,rfl,v9⟩ _ rfl _ rfl _ rfl -;simp only[Jo.z];replace HB:=Hqb HB hJ;refine jd ?_;go_wp2
   go_ret
   exact⟨rfl,HB.out⟩
theorem kvOrE{w:World}{e:Bool}{D M E D' M' E':Int}{s s':Bool}{x:Sp}(hM:LQ M)(hM':LQ M')(hr:rkI e D s M E D' s' M' E'=x):Calls Tryz.prog 104 #[VI e D s M E D' s' M' E'] w (PV w x):=by
 delta VI
 cases hm:mayI e D s M E D' s' M' E'
 ·obtain rfl:none=x:=(mayI_no hm).symm.trans hr
  have HM:=ie hm;clear hm hr
  go_enter Tryz.func104,Tryz.ntmps104
  go_upto_region 1 with (fail)
  generalize hW1:(w.alloc _).alloc _=w1 at *;obtain⟨X1,XR,HB⟩:=Bo.en2 hW1;clear hW1;have xX1:=X1.cell
  go_wp2_with fail
  refine(kvMay hM hM' HM.out).mono ?_;rintro ee w2 ⟨rfl,B⟩;clear xX1;replace X1:=X1.b B;replace XR:=XR.b B;replace HB:=Hqb HB B;clear B;clear HM hM hM'
  go_wp2_with fail
  refine(kvNoneE).mono ?_;rintro ee w3 ⟨rfl,B⟩;replace X1:=X1.b B;replace XR:=XR.b B;replace HB:=Hqb HB B;clear B;have xXR:=XR.cell;have zXR0:=XR.frozen;go_wp2;clear xXR zXR0;have SX:=StN.t9 XR true 0 false 0 0 0 false 0 0
  exact bq (by simp[results,Tryz.results104,go_sem,SX.box.cell]) rfl ⟨_,_,_,_,_,_,_,_,_,rfl,Ci.none,(SX.below HB.out (by omega))⟩
 ·have hv:=mayI_ci hM hM' hm;rw[hr]at hv;have HM:=ie hm;clear hm hr
  go_enter Tryz.func104,Tryz.ntmps104
  go_upto_region 1 with (fail)
  generalize hW1:(w.alloc _).alloc _=w1 at *;obtain⟨X1,XR,HB⟩:=Bo.en2 hW1;clear hW1;have xX1:=X1.cell
  go_wp2_with fail
  refine(kvMay hM hM' HM.out).mono ?_;rintro ee w2 ⟨rfl,B⟩;clear xX1;replace X1:=X1.b B;replace XR:=XR.b B;replace HB:=Hqb HB B;clear B;clear HM hM hM';have xXR:=XR.cell;have zXR0:=XR.frozen;have xX1:=X1.cell;go_wp2
  clear xXR zXR0 xX1;have SX:=StN.t9 XR e D s M E D' s' M' E';exact bq (by simp[results,Tryz.results104,go_sem,SX.box.cell]) rfl ⟨_,_,_,_,_,_,_,_,_,rfl,hv,(SX.below HB.out (by omega))⟩
theorem cinv_lo{w:World}{n:Int}(h:n < 2):Calls Tryz.prog 174 #[.int .i64 n] w (W2 w 1000000 0 0):=by
 have t1:decide (n < 2)=true:=dt h
 go_enter Tryz.func174,Tryz.ntmps174
 go_upto_region 1 with (fail)
 generalize hW1:(w.alloc _).alloc _=w1 at *;obtain⟨XR,XS,HB⟩:=Bo.en2 hW1;clear hW1;have xXR:=XR.cell;have zXR0:=XR.frozen;have xXS:=XS.cell;have zXS0:=XS.frozen;go_wp2;clear xXR zXR0 xXS zXS0;generalize hS:(w1.setCell _ _).setCell _ _=w2 at *;have SX:=StN.of2 XR hS;replace XS:=XS.s SX;replace HB:=Hqs HB SX (by omega)
 replace XR:=SX.box;clear SX hS;generalize hS:(w2.setCell _ _).setCell _ _=w3 at *;have SX:=StN.of2 XS hS;replace XR:=XR.s SX;replace HB:=Hqs HB SX (by omega);replace XS:=SX.box;clear SX hS;exact bq (v:= .tuple #[.agg #[.bool false,.slice none 0 0],.agg #[.bool false,.slice none 0 0]]) (by simp[results,Tryz.results174,go_sem,XR.cell,XS.cell]) rfl ⟨_,_,_,_,_,_,_,_,rfl,⟨Nm.zero,rfl⟩,⟨Nm.zero,rfl⟩,Nat.zero_le _,Nat.zero_le _,HB.out⟩
theorem cinv_hi{w:World}{n:Int}(h:1000 < n):Calls Tryz.prog 174 #[.int .i64 n] w (W2 w 1000000 0 0):=by
 have t1:decide (n < 2)=false:=df (by omega)
 have t2:decide (1000 < n)=true:=dt h
 go_enter Tryz.func174,Tryz.ntmps174
 go_upto_region 1 with (fail)
 generalize hW1:(w.alloc _).alloc _=w1 at *;obtain⟨XR,XS,HB⟩:=Bo.en2 hW1;clear hW1;have xXR:=XR.cell;have zXR0:=XR.frozen;have xXS:=XS.cell;have zXS0:=XS.frozen;go_wp2;clear xXR zXR0 xXS zXS0;generalize hS:(w1.setCell _ _).setCell _ _=w2 at *;have SX:=StN.of2 XR hS;replace XS:=XS.s SX;replace HB:=Hqs HB SX (by omega)
 replace XR:=SX.box;clear SX hS;generalize hS:(w2.setCell _ _).setCell _ _=w3 at *;have SX:=StN.of2 XS hS;replace XR:=XR.s SX;replace HB:=Hqs HB SX (by omega);replace XS:=SX.box;clear SX hS;exact bq (v:= .tuple #[.agg #[.bool false,.slice none 0 0],.agg #[.bool false,.slice none 0 0]]) (by simp[results,Tryz.results174,go_sem,XR.cell,XS.cell]) rfl ⟨_,_,_,_,_,_,_,_,rfl,⟨Nm.zero,rfl⟩,⟨Nm.zero,rfl⟩,Nat.zero_le _,Nat.zero_le _,HB.out⟩
theorem cinv_in{w:World}{n:Int}(h1:2<=n)(h2:n<=1000){a b:Int}(hr:invP n=(a,b)):Calls Tryz.prog 174 #[.int .i64 n] w (W2 w 1000000 a b):=by
 have t1:decide (n < 2)=false:=df (by omega)
 have t2:decide (1000 < n)=false:=df (by omega)
 obtain⟨R,hR⟩:∃R,invG n 200 0 0 n=R:=⟨_,rfl⟩
 have hans:R.1-((R.2:Int)+1)=a/\R.1+((R.2:Int)+1)=b:=by
  unfold invP at hr
  rw[if_neg (by omega),hR]at hr
  injection hr with e1 e2
  exact⟨by omega,e2⟩
 have HR:=ie hR;have HA:=ie hans.1;have HBB:=ie hans.2;clear hr hR hans
 go_enter Tryz.func174,Tryz.ntmps174
 go_upto_region 1 with (fail)
 generalize hW1:(w.alloc _).alloc _=w1 at *;obtain⟨XR,XS,HB⟩:=Bo.en2 hW1;clear hW1;have G0:=XS.lt
 go_wp2_with fail
 refine(cTerms h1 h2).mono ?_;rintro ee w2 ⟨gp,go,gb,s6,A6,n6,c6,s7,A7,n7,c7,rfl,XP,XO,XB,p6,p7,k6,k7,hpo,hpb,hob,hg1,hg2,B⟩;replace XR:=XR.b B;replace XS:=XS.b B;replace HB:=Hqb HB B;clear B;clear t1 t2;have hsz:=HB.out.size;have ltXR:=XR.lt;have ltXS:=XS.lt
 go_wp2_with fail
 refine(cAlt XP XO XB p6 p7 k6 k7 hpo hpb hob h1 h2 HR.out).mono ?_;rintro ee w3 ⟨s4,A4,n4,c4,rfl,p4,k4,hk,B⟩;replace XR:=XR.duo B (by omega) (by omega);replace XS:=XS.duo B (by omega) (by omega);replace HB:=ie (B.below HB.out (by omega) (by omega) (by omega));clear B XP XO XB p6 p7 HR;clear hg1 hg2 hpo hpb hob ltXR ltXS hsz G0;obtain⟨R1,R2⟩:=R;simp only at p4 hk HA HBB|-
 go_upto_region 4 with (fail)
 have nX4XR:=XR.lt;have nX4XS:=XS.lt;generalize hWn:w3.alloc _=w4 at *;obtain⟨X4,BW⟩:=Bo.nw hWn;clear hWn;replace XR:=XR.b BW;replace XS:=XS.b BW;replace p4:=p4.b BW;replace HB:=Hqb HB BW;clear BW;have HW1:=iw ((R2:Int)+1);have HW2:=jw ((R2:Int)+1);have hw1:=HW1.out;have hw2:=HW2.out
 go_wp2_with fail
 refine(wFrom ((R2:Int)+1) _ (by omega) (by omega)).mono ?_;rintro ee w5 ⟨s5,A5,n5,c5,rfl,p5,k5,B⟩;replace XR:=XR.b B;replace XS:=XS.b B;replace X4:=X4.b B;replace p4:=p4.b B;replace HB:=Hqb HB B;clear B;clear hw1 hw2 HW1 HW2;have hsz:=HB.out.size
 go_upto_region 5 with (fail)
 have nX6XR:=XR.lt;have nX6XS:=XS.lt;have nX6X4:=X4.lt;generalize hWn:w5.alloc _=w6 at *;obtain⟨X6,BW⟩:=Bo.nw hWn;clear hWn;replace XR:=XR.b BW;replace XS:=XS.b BW;replace X4:=X4.b BW;replace p4:=p4.b BW;replace p5:=p5.b BW;replace HB:=Hqb HB BW;clear BW;have ltXR:=XR.lt;have ltXS:=XS.lt;have ltX4:=X4.lt;have ltX6:=X6.lt
 refine jk [0,1,2,3,4,5] [some 24,some 25,some 26,some 27,some 28,some 29,none,none] [[],[],[0,1],[],[],[3,4],[],[]] 8 2 [Jo.Fact.eq (.agg #[.bool s4,.slice A4 n4 c4]),Jo.Fact.eq (.agg #[.bool s5,.slice A5 n5 c5]),Jo.Fact.wn (a) (1000000),Jo.Fact.eq (.agg #[.bool s4,.slice A4 n4 c4]),Jo.Fact.eq (.agg #[.bool s5,.slice A5 n5 c5]),Jo.Fact.wn (b) (1000000),Jo.Fact.any,Jo.Fact.any] ?_ ?_
 ·iterate 2 (refine jm ?_ ?_;rotate_left)
  refine jm ?_ ?_
  ·rintro wj hJ _ rfl _ rfl K hK;simp only[Jo.z]at hK|-;go_simp;exact Jo.w1 (wSub (p4.b hJ).wr (p5.b hJ).wr (by omega) (by omega) HA.out) hK.out
  iterate 2 (refine jm ?_ ?_;rotate_left)
  refine jm ?_ ?_
  ·rintro wj hJ _ rfl _ rfl K hK;simp only[Jo.z]at hK|-;go_simp;exact Jo.w1 (wAdd (p4.b hJ).wr (p5.b hJ).wr (by omega) (by omega) HBB.out) hK.out
  exact jo
  all_goals (rintro wj hJ;(repeat rintro _ rfl);intro K hK;simp only[Jo.z]at hK|-;have xX4:=(X4.b hJ).cell;have xX6:=(X6.b hJ).cell;go_simp;exact hK.out _ _ rfl (br _ _))
 rintro w9 hJ _ rfl _ rfl _ ⟨s31,A31,n31,c31,rfl,p31,k31⟩ _ rfl _ rfl _ ⟨s33,A33,n33,c33,rfl,p33,k33⟩ -;simp only[Jo.z];replace XR:=XR.b hJ;replace XS:=XS.b hJ;replace HB:=Hqb HB hJ;have xXR:=XR.cell;have zXR0:=XR.frozen
 refine jn 6 fun K hK=>?_
 go_simp;refine hK.out _ _ ?_;clear hK K xXR zXR0;generalize hS:(w9.setCell _ _).setCell _ _=wA at *;have SX:=StN.of2 XR hS;replace XS:=XS.s SX;replace p31:=p31.s SX;replace p33:=p33.s SX;replace HB:=Hqs HB SX (by omega);replace XR:=SX.box;clear SX hS;have xXS:=XS.cell;have zXS0:=XS.frozen
 refine jn 7 fun K hK=>?_
 go_simp;refine hK.out _ _ ?_;clear hK K xXS zXS0;generalize hS:(wA.setCell _ _).setCell _ _=wB at *;have SX:=StN.of2 XS hS;replace XR:=XR.s SX;replace p31:=p31.s SX;replace p33:=p33.s SX;replace HB:=Hqs HB SX (by omega);replace XS:=SX.box;clear SX hS;refine jd ?_;go_wp2;exact bq (v:= .tuple #[.agg #[.bool s31,.slice A31 n31 c31],.agg #[.bool s33,.slice A33 n33 c33]]) (by simp[results,Tryz.results174,go_sem,XR.cell,XS.cell]) rfl ⟨s31,A31,n31,c31,s33,A33,n33,c33,rfl,p31,p33,k31,k33,HB.out⟩
theorem cInv{w:World}{n a b:Int}(hr:invP n=(a,b)):Calls Tryz.prog 174 #[.int .i64 n] w (W2 w 1000000 a b):=by
 by_cases h1:n < 2
 ·unfold invP at hr
  rw[if_pos (.inl h1)]at hr
  injection hr with e1 e2
  subst e1;subst e2;exact cinv_lo h1
 ·by_cases h2:1000 < n
  ·unfold invP at hr
   rw[if_pos (.inr h2)]at hr
   injection hr with e1 e2
   subst e1;subst e2;exact cinv_hi h2
  ·exact cinv_in (by omega) (by omega) hr
theorem cFour{w:World}{A:Option Addr}{n c:Nat}{s:Bool}{x:Int}{B:Option Addr}{m d:Nat}{t:Bool}{y:Int}{r:Int}(h:Wr w s A n c x)(k:Wr w t B m d y)(hn:n<=1000000)(hm:m<=1000000)(hr:16*x-4*y=r):Calls Tryz.prog 175 #[.agg #[.bool s,.slice A n c],.agg #[.bool t,.slice B m d]] w (W1 w 10000000 r):=by
 have HR:=ie hr
 have H1:Hid (prd [16,x]=16*x):=ie (by show 1*16*x=_;rw[Int.one_mul])
 have H2:Hid (prd [4,y]=4*y):=ie (by show 1*4*y=_;rw[Int.one_mul])
 clear hr
 go_enter Tryz.func175,Tryz.ntmps175
 go_upto_region 1 with (fail)
 generalize hW1:((w.alloc _).alloc _).alloc _=w1 at *;obtain⟨X2,X3,XR,HB⟩:=Bo.en3 hW1;replace h:=h.below HB.out;replace k:=k.below HB.out;clear hW1;have ltX2:=X2.lt;have ltX3:=X3.lt;have ltXR:=XR.lt;refine jk [0,1,2,3,4,5,6,7,8] [some 5,some 6,some 7,some 8,some 9,some 10,some 11,some 12,some 13,none] [[],[],[0,1],[2],[],[],[4,5],[6],[3,7],[]] 10 1 [Jo.Fact.wn (16) (2),Jo.Fact.eq (.agg #[.bool s,.slice A n c]),Jo.Fact.wl 1000000 2 [16,x],Jo.Fact.wn (16*x) (2000001),Jo.Fact.wn (4) (2),Jo.Fact.eq (.agg #[.bool t,.slice B m d]),Jo.Fact.wl 1000000 2 [4,y],Jo.Fact.wn (4*y) (2000001),Jo.Fact.wn (r) (10000000),Jo.Fact.any] ?_ ?_
 ·refine jm ?_ ?_
  ·rintro wj hJ K hK;simp only[Jo.z]at hK|-;go_simp;exact Jo.w1 (wFrom 16 _ (by decide) (by decide)) hK.out
  refine jm ?_ ?_;rotate_left
  refine jm ?_ ?_
  ·rintro wj hJ _ ⟨s20,A20,n20,c20,rfl,p20,k20⟩ _ rfl K hK;simp only[Jo.z]at hK|-;go_simp;exact hK.out _ _ ⟨_,_,rfl,Wl.lit2 rfl p20.wr (h.b hJ) (by omega) (by omega)⟩ (bel1 _ _)
  refine jm ?_ ?_
  ·rintro wj hJ _ ⟨A21,c21,rfl,h21⟩ K hK;simp only[Jo.z]at hK|-;go_simp;exact Jo.w1 (wMul h21 (by decide) H1.out) hK.out
  refine jm ?_ ?_
  ·rintro wj hJ K hK;simp only[Jo.z]at hK|-;go_simp;exact Jo.w1 (wFrom 4 _ (by decide) (by decide)) hK.out
  refine jm ?_ ?_;rotate_left
  refine jm ?_ ?_
  ·rintro wj hJ _ ⟨s23,A23,n23,c23,rfl,p23,k23⟩ _ rfl K hK;simp only[Jo.z]at hK|-;go_simp;exact hK.out _ _ ⟨_,_,rfl,Wl.lit2 rfl p23.wr (k.b hJ) (by omega) (by omega)⟩ (bel1 _ _)
  refine jm ?_ ?_
  ·rintro wj hJ _ ⟨A24,c24,rfl,h24⟩ K hK;simp only[Jo.z]at hK|-;go_simp;exact Jo.w1 (wMul h24 (by decide) H2.out) hK.out
  refine jm ?_ ?_
  ·rintro wj hJ _ ⟨s22,A22,n22,c22,rfl,p22,k22⟩ _ ⟨s25,A25,n25,c25,rfl,p25,k25⟩ K hK;simp only[Jo.z]at hK|-;go_simp;exact Jo.w1 (wSub p22.wr p25.wr (by omega) (by omega) HR.out) hK.out
  exact jo
  all_goals (rintro wj hJ;(repeat rintro _ rfl);intro K hK;simp only[Jo.z]at hK|-;have xX2:=(X2.b hJ).cell;have xX3:=(X3.b hJ).cell;go_simp;exact hK.out _ _ rfl (br _ _))
 rintro w2 hJ _ ⟨s20,A20,n20,c20,rfl,p20,k20⟩ _ rfl _ ⟨_,_,rfl,_⟩ _ ⟨s22,A22,n22,c22,rfl,p22,k22⟩ _ ⟨s23,A23,n23,c23,rfl,p23,k23⟩ _ rfl _ ⟨_,_,rfl,_⟩ _ ⟨s25,A25,n25,c25,rfl,p25,k25⟩ _ ⟨s26,A26,n26,c26,rfl,p26,k26⟩ -;simp only[Jo.z];replace XR:=XR.b hJ;replace HB:=Hqb HB hJ;clear h k;have xXR:=XR.cell;have zXR0:=XR.frozen
 refine jn 9 fun K hK=>?_
 go_simp;refine hK.out _ _ ?_;clear hK K xXR zXR0;have SX:=StN.t2 XR s26 A26 n26 c26;replace p26:=p26.s SX;refine jd ?_;go_wp2;exact bq (v:= .agg #[.bool s26,.slice A26 n26 c26]) (by simp[results,Tryz.results175,go_sem,SX.box.cell]) rfl ⟨s26,A26,n26,c26,rfl,p26,k26,(SX.below HB.out (by omega))⟩
theorem cBounds{w:World}:Calls Tryz.prog 103 #[] w (W2 w 7 PLo PHi):=by
 obtain⟨b1,b2⟩:=bounds_are;obtain⟨a,b,h5⟩:∃a b,invP 5=(a,b):=⟨_,_,rfl⟩;obtain⟨c,d,h239⟩:∃a b,invP 239=(a,b):=⟨_,_,rfl⟩;rw[h5,h239]at b1 b2;have H5:=ie h5;have H239:=ie h239
 have HB1:Hid (16*a-4*d=PLo):=ie (by rw[<-b1];omega)
 have HB2:Hid (16*b-4*c=PHi):=ie (by rw[<-b2];omega)
 clear h5 h239 b1 b2
 go_enter Tryz.func103,Tryz.ntmps103
 go_upto_region 1 with (fail)
 generalize hW1:(w.alloc _).alloc _=w1 at *;obtain⟨XR,XS,HB⟩:=Bo.en2 hW1;clear hW1
 go_wp2_with fail
 refine(cInv H5.out).mono ?_;rintro ee w2 ⟨s2,A2,n2,c2,s3,A3,n3,c3,rfl,p2,p3,k2,k3,B⟩;replace XR:=XR.b B;replace XS:=XS.b B;replace HB:=Hqb HB B;clear B;have hsz2:=HB.out.size
 go_upto_region 2 with (fail)
 have e4X3:(World.alloc w2 (.cells #[.bool s2,.slice A2 n2 c2] 27)).heap.size=w2.heap.size+1:=by simp
 have nX2XR:=XR.lt;have nX2XS:=XS.lt;have BX:=bel1 w2 (.cells #[.bool s2,.slice A2 n2 c2] 27);replace XR:=XR.b BX;replace XS:=XS.b BX;replace p2:=p2.b BX;replace p3:=p3.b BX;replace HB:=ie (bt HB.out BX)
 have X2:=Bo.new w2 #[.bool s2,.slice A2 n2 c2] 27;generalize hWn:World.alloc w2 (.cells #[.bool s2,.slice A2 n2 c2] 27)=w3 at *;clear hWn;have nX3XR:=XR.lt;have nX3XS:=XS.lt;have nX3X2:=X2.lt;generalize hWn:w3.alloc _=w4 at *;obtain⟨X3,BW⟩:=Bo.nw hWn;clear hWn;replace XR:=XR.b BW;replace XS:=XS.b BW;replace X2:=X2.b BW;replace p2:=p2.b BW
 replace p3:=p3.b BW;replace HB:=Hqb HB BW;clear BW;rw[e4X3]at X3;clear e4X3
 go_wp2_with fail
 refine(cInv H239.out).mono ?_;rintro ee w5 ⟨s4,A4,n4,c4,s5,A5,n5,c5,rfl,p4,p5,k4,k5,B⟩;replace XR:=XR.b B;replace XS:=XS.b B;replace X2:=X2.b B;replace X3:=X3.b B;replace p2:=p2.b B;replace p3:=p3.b B;replace HB:=Hqb HB B;clear B;have hsz4:=HB.out.size
 go_upto_region 3 with (fail)
 have e4X5:(World.alloc w5 (.cells #[.bool s4,.slice A4 n4 c4] 27)).heap.size=w5.heap.size+1:=by simp
 have nX4XR:=XR.lt;have nX4XS:=XS.lt;have nX4X2:=X2.lt;have nX4X3:=X3.lt;have BX:=bel1 w5 (.cells #[.bool s4,.slice A4 n4 c4] 27);replace XR:=XR.b BX;replace XS:=XS.b BX;replace X2:=X2.b BX;replace X3:=X3.b BX;replace p2:=p2.b BX
 replace p3:=p3.b BX;replace p4:=p4.b BX;replace p5:=p5.b BX;replace HB:=ie (bt HB.out BX);have X4:=Bo.new w5 #[.bool s4,.slice A4 n4 c4] 27;generalize hWn:World.alloc w5 (.cells #[.bool s4,.slice A4 n4 c4] 27)=w6 at *
 clear hWn;have nX5XR:=XR.lt;have nX5XS:=XS.lt;have nX5X2:=X2.lt;have nX5X3:=X3.lt;have nX5X4:=X4.lt;generalize hWn:w6.alloc _=w7 at *;obtain⟨X5,BW⟩:=Bo.nw hWn;clear hWn;replace XR:=XR.b BW;replace XS:=XS.b BW;replace X2:=X2.b BW;replace X3:=X3.b BW;replace X4:=X4.b BW;replace p2:=p2.b BW;replace p3:=p3.b BW;replace p4:=p4.b BW
 replace p5:=p5.b BW;replace HB:=Hqb HB BW;clear BW;rw[e4X5]at X5;clear e4X5;have ltXR:=XR.lt;have ltXS:=XS.lt;have ltX2:=X2.lt;have ltX3:=X3.lt;have ltX4:=X4.lt;have ltX5:=X5.lt;refine jk [0,1,2,3,4,5] [some 14,some 15,some 16,some 17,some 18,some 19,none,none] [[],[],[0,1],[],[],[3,4],[],[]] 8 2 [Jo.Fact.eq (.agg #[.bool s2,.slice A2 n2 c2]),Jo.Fact.eq (.agg #[.bool s5,.slice A5 n5 c5]),Jo.Fact.wn (PLo) (7),Jo.Fact.eq (.agg #[.bool s3,.slice A3 n3 c3]),Jo.Fact.eq (.agg #[.bool s4,.slice A4 n4 c4]),Jo.Fact.wn (PHi) (7),Jo.Fact.any,Jo.Fact.any] ?_ ?_
 ·iterate 2 (refine jm ?_ ?_;rotate_left)
  refine jm ?_ ?_
  ·rintro wj hJ _ rfl _ rfl K hK;simp only[Jo.z]at hK|-;go_simp;refine(cFour (p2.b hJ).wr (p5.b hJ).wr k2 k5 HB1.out).mono ?_;rintro ee wk ⟨s22,A22,n22,c22,rfl,p22,k22,B⟩;exact hK.out _ _ ⟨s22,A22,n22,c22,rfl,p22,p22.fits (by decide)⟩ B
  iterate 2 (refine jm ?_ ?_;rotate_left)
  refine jm ?_ ?_
  ·rintro wj hJ _ rfl _ rfl K hK;simp only[Jo.z]at hK|-;go_simp;refine(cFour (p3.b hJ).wr (p4.b hJ).wr k3 k4 HB2.out).mono ?_;rintro ee wk ⟨s25,A25,n25,c25,rfl,p25,k25,B⟩;exact hK.out _ _ ⟨s25,A25,n25,c25,rfl,p25,p25.fits (by decide)⟩ B
  exact jo
  all_goals (rintro wj hJ;(repeat rintro _ rfl);intro K hK;simp only[Jo.z]at hK|-;have xX2:=(X2.b hJ).cell;have xX5:=(X5.b hJ).cell;have xX3:=(X3.b hJ).cell;have xX4:=(X4.b hJ).cell;go_simp;exact hK.out _ _ rfl (br _ _))
 rintro w8 hJ _ rfl _ rfl _ ⟨s22,A22,n22,c22,rfl,p22,k22⟩ _ rfl _ rfl _ ⟨s25,A25,n25,c25,rfl,p25,k25⟩ -;simp only[Jo.z];replace XR:=XR.b hJ;replace XS:=XS.b hJ;replace HB:=Hqb HB hJ;clear p2 p3 p4 p5;have xXR:=XR.cell;have zXR0:=XR.frozen
 refine jn 6 fun K hK=>?_
 go_simp;refine hK.out _ _ ?_;clear hK K xXR zXR0;generalize hS:(w8.setCell _ _).setCell _ _=w9 at *;have SX:=StN.of2 XR hS;replace XS:=XS.s SX;replace p22:=p22.s SX;replace p25:=p25.s SX;replace HB:=Hqs HB SX (by omega);replace XR:=SX.box;clear SX hS;have xXS:=XS.cell;have zXS0:=XS.frozen
 refine jn 7 fun K hK=>?_
 go_simp;refine hK.out _ _ ?_;clear hK K xXS zXS0;generalize hS:(w9.setCell _ _).setCell _ _=wA at *;have SX:=StN.of2 XS hS;replace XR:=XR.s SX;replace p22:=p22.s SX;replace p25:=p25.s SX;replace HB:=Hqs HB SX (by omega);replace XS:=SX.box;clear SX hS;refine jd ?_;go_wp2;exact bq (v:= .tuple #[.agg #[.bool s22,.slice A22 n22 c22],.agg #[.bool s25,.slice A25 n25 c25]]) (by simp[results,Tryz.results103,go_sem,XR.cell,XS.cell]) rfl ⟨s22,A22,n22,c22,s25,A25,n25,c25,rfl,p22,p25,k22,k25,HB.out⟩
theorem cPart{w:World}{A:Option Addr}{n c:Nat}{s:Bool}{x:Int}{B:Option Addr}{m d:Nat}{t:Bool}{y:Int}{r u:Int}{z:Sp}(hT:Tab w)(h:Wr w s A n c x)(k:Wr w t B m d y)(hn:n<=20)(hm:m<=20)(hr:Rq false x SC r)(hu:Rq true y SC u)(hz:mkI r u=z):Calls Tryz.prog 102 #[.agg #[.bool s,.slice A n c],.agg #[.bool t,.slice B m d]] w (PV w z):=by
 have HR:=ie hr;have HU:=ie hu;have HZ:=ie hz;clear hr hu hz
 go_enter Tryz.func102,Tryz.ntmps102
 go_upto_region 1 with (fail)
 generalize hW1:((w.alloc _).alloc _).alloc _=w1 at *;obtain⟨X2,X3,XR,HB⟩:=Bo.en3 hW1;replace hT:=hT.below HB.out;replace h:=h.below HB.out;replace k:=k.below HB.out;clear hW1;have ltX2:=X2.lt;have ltX3:=X3.lt;have ltXR:=XR.lt;refine jk [0,1,2,3,4,5,6] [some 5,some 6,some 7,some 8,some 9,some 10,some 11,none] [[],[],[0,1],[],[],[3,4],[2,5],[]] 8 1 [Jo.Fact.eq (.agg #[.bool s,.slice A n c]),Jo.Fact.wn (SC) (8),Jo.Fact.num r,Jo.Fact.eq (.agg #[.bool t,.slice B m d]),Jo.Fact.wn (SC) (8),Jo.Fact.num u,Jo.Fact.iv z,Jo.Fact.any] ?_ ?_
 ·refine jm ?_ ?_;rotate_left
  refine jm ?_ ?_
  ·rintro wj hJ K hK;simp only[Jo.z]at hK|-;go_simp;exact Jo.w1 (cScale) hK.out
  refine jm ?_ ?_
  ·rintro wj hJ _ rfl _ ⟨s20,A20,n20,c20,rfl,p20,k20⟩ K hK;simp only[Jo.z]at hK|-;go_simp;exact Jo.n1 (kRatio (hT.b hJ) (h.b hJ) p20.wr hn (by omega) HR.out) hK.out
  refine jm ?_ ?_;rotate_left
  refine jm ?_ ?_
  ·rintro wj hJ K hK;simp only[Jo.z]at hK|-;go_simp;exact Jo.w1 (cScale) hK.out
  refine jm ?_ ?_
  ·rintro wj hJ _ rfl _ ⟨s22,A22,n22,c22,rfl,p22,k22⟩ K hK;simp only[Jo.z]at hK|-;go_simp;exact Jo.n1 (kRatio (hT.b hJ) (k.b hJ) p22.wr hm (by omega) HU.out) hK.out
  refine jm ?_ ?_
  ·rintro wj hJ _ ⟨K21,s21,M21,E21,rfl,q21⟩ _ ⟨K23,s23,M23,E23,rfl,q23⟩ K hK;simp only[Jo.z]at hK|-;go_simp;exact Jo.v1 (kvMake q21.top q23.top q21.rk q23.rk HZ.out) hK.out
  exact jo
  all_goals (rintro wj hJ;(repeat rintro _ rfl);intro K hK;simp only[Jo.z]at hK|-;have xX2:=(X2.b hJ).cell;have xX3:=(X3.b hJ).cell;go_simp;exact hK.out _ _ rfl (br _ _))
 rintro w2 hJ _ rfl _ ⟨s20,A20,n20,c20,rfl,p20,k20⟩ _ ⟨K21,s21,M21,E21,rfl,q21⟩ _ rfl _ ⟨s22,A22,n22,c22,rfl,p22,k22⟩ _ ⟨K23,s23,M23,E23,rfl,q23⟩ _ ⟨e24,K24,s24,M24,E24,K24b,s24b,M24b,E24b,rfl,v24⟩ -;simp only[Jo.z];replace XR:=XR.b hJ;replace HB:=Hqb HB hJ;clear h k hT;have xXR:=XR.cell
 have zXR0:=XR.frozen
 refine jn 7 fun K hK=>?_
 go_simp;refine hK.out _ _ ?_;clear hK K xXR zXR0;have SX:=StN.t9 XR e24 K24 s24 M24 E24 K24b s24b M24b E24b;refine jd ?_;go_wp2;exact bq (by simp[results,Tryz.results102,go_sem,SX.box.cell]) rfl ⟨_,_,_,_,_,_,_,_,_,rfl,v24,(SX.below HB.out (by omega))⟩
theorem cPi{w:World}(hT:Tab w):Calls Tryz.prog 33 #[] w (PV w (some (PIL,PIL+1))):=by
 have HZ:Hid (mkI PIL (PIL+1)=some (PIL,PIL+1)):=ie (mkI_some (by omega) (by decide) (by decide))
 go_enter Tryz.func33,Tryz.ntmps33
 go_upto_region 1 with (fail)
 generalize hW1:w.alloc _=w1 at *;obtain⟨XR,HB⟩:=Bo.en1 hW1;replace hT:=hT.below HB.out;clear hW1
 go_wp2_with fail
 refine(cBounds).mono ?_;rintro ee w2 ⟨s2,A2,n2,c2,s3,A3,n3,c3,rfl,p2,p3,k2,k3,B⟩;replace XR:=XR.b B;replace hT:=hT.b B;replace HB:=Hqb HB B;clear B
 go_wp2_with fail
 refine(cPart hT p2.wr p3.wr (by omega) (by omega) pi_lo pi_hi HZ.out).mono ?_;rintro ee w5 ⟨e4,K4,s4,M4,E4,K4b,s4b,M4b,E4b,rfl,v4,B⟩;replace XR:=XR.b B;replace HB:=Hqb HB B;clear B;clear p2 p3 hT;have xXR:=XR.cell;have zXR0:=XR.frozen;go_wp2;clear xXR zXR0;have SX:=StN.t9 XR e4 K4 s4 M4 E4 K4b s4b M4b E4b
 exact bq (by simp[results,Tryz.results33,go_sem,SX.box.cell]) rfl ⟨_,_,_,_,_,_,_,_,_,rfl,v4,(SX.below HB.out (by omega))⟩
theorem cFix{w:World}{D M E:Int}{s:Bool}{x z:Int}{t:Bool}(hT:Tab w)(h0:0<=M)(hM:LQ M)(hx:rk D s M E=x)(hz:fixI x=z)(ht:fixB x=t):Calls Tryz.prog 157 #[VQ D s M E] w (WB w 140000 z t):=by
 delta VQ
 obtain⟨m,hm⟩:∃m,mxp [x,-x]=m:=⟨_,rfl⟩;obtain⟨σ,hσ⟩:∃σ,cmpI m (opl 1073741824)=σ:=⟨_,rfl⟩;have hc0:=fixB_max ((mxp_opp (hx▸(rk_bd hM).1)).symm.trans hm) hσ;rw[ht]at hc0;have HX:=ie hx;have HZ:=ie hz;have HTT:=ie ht;have HMX:=ie hm;have HC:=ie hσ;have HC0:=ie hc0;clear hx hz ht hm hσ hc0
 go_enter Tryz.func157,Tryz.ntmps157
 go_upto_region 1 with (fail)
 generalize hW1:(w.alloc _).alloc _=w1 at *;obtain⟨X1,XR,HB⟩:=Bo.en2 hW1;replace hT:=hT.below HB.out;clear hW1;have ltX1:=X1.lt;have ltXR:=XR.lt
 cases t
 ·obtain rfl:0=z:=by rw[<-HZ.out,fixI_no HTT.out]
  clear HZ HTT;refine jk [0,1,2,3,4,5,6,7] [some 6,some 7,some 8,some 9,some 10,some 11,some 12,some 13] [[],[],[1],[0,2],[3],[],[4,5],[6]] 8 0 [Jo.q4 D s M E,Jo.q4 D s M E,Jo.Fact.num (-x),Jo.Fact.nl 2 [x,-x],Jo.Fact.num m,Jo.Fact.num (opl 1073741824),Jo.qi σ,Jo.qb true] ?_ ?_
  ·iterate 2 (refine jm ?_ ?_;rotate_left)
   refine jm ?_ ?_
   ·rintro wj hJ _ rfl K hK;simp only[Jo.z]at hK|-;go_simp;exact Jo.n1 (nNeg hM (by rw[HX.out])) hK.out
   refine jm ?_ ?_
   ·rintro wj hJ _ rfl _ ⟨K20,s20,M20,E20,rfl,q20⟩ K hK;simp only[Jo.z]at hK|-;go_simp;exact hK.out _ _ ⟨_,2,rfl,Nl.lit2 rfl hM q20.top HX.out q20.rk⟩ (bel1 _ _)
   refine jm ?_ ?_
   ·rintro wj hJ _ ⟨A25,c25,rfl,h25⟩ K hK;simp only[Jo.z]at hK|-;go_simp;exact Jo.n1 (nMost h25 HMX.out) hK.out
   refine jm ?_ ?_
   ·rintro wj hJ K hK;simp only[Jo.z]at hK|-;go_simp;exact Jo.n1 (nOf _ (by decide) (by decide) rfl) hK.out
   refine jm ?_ ?_
   ·rintro wj hJ _ ⟨K21,s21,M21,E21,rfl,q21⟩ _ ⟨K22,s22,M22,E22,rfl,q22⟩ K hK;simp only[Jo.z]at hK|-;go_simp;refine(nCmp (z:=σ) q21.top q22.top (by rw[q21.rk,q22.rk];exact HC.out)).mono ?_;rintro ee wk ⟨rfl,B⟩;exact hK.out _ _ rfl B
   refine jm ?_ ?_
   ·rintro wj hJ _ rfl K hK;simp only[Jo.z]at hK|-;have hc0:=HC0.out;go_simp
    exact hK.out _ _ (by first | rfl | (show Value.bool _=Value.bool _;rw[hc0];rfl) | simp_all) (br _ _)
   exact jo
   all_goals (rintro wj hJ;(repeat rintro _ rfl);intro K hK;simp only[Jo.z]at hK|-;have xX1:=(X1.b hJ).cell;go_simp;exact hK.out _ _ rfl (br _ _))
  rintro w2 hJ _ rfl _ rfl _ ⟨K20,s20,M20,E20,rfl,_⟩ _ ⟨_,_,rfl,_⟩ _ ⟨K21,s21,M21,E21,rfl,_⟩ _ ⟨K22,s22,M22,E22,rfl,_⟩ _ rfl _ rfl -;simp only[Jo.z];replace X1:=X1.b hJ;replace XR:=XR.b hJ;replace hT:=hT.b hJ;replace HB:=Hqb HB hJ;refine jd ?_;clear HC HC0 HMX;clear hT;have xXR:=XR.cell;have zXR0:=XR.frozen
  go_wp2;clear xXR zXR0;have SX:=StN.t2 XR false none 0 0;exact bq (v:= .tuple #[.agg #[.bool false,.slice none 0 0],.bool false]) (by simp[results,Tryz.results157,go_sem,SX.box.cell]) rfl ⟨_,_,_,_,rfl,⟨Nm.zero,rfl⟩,Nat.zero_le _,(SX.below HB.out (by omega))⟩
 ·obtain⟨N,G,hN,hG,nf,hv,n64,g1,g2⟩:=fix_raw hM HX.out HTT.out;obtain⟨bb,hb⟩:∃b,exb D s M E=b:=⟨_,rfl⟩;obtain⟨P,hP⟩:∃P,(mvs (mk N G) 192).1=P:=⟨_,rfl⟩;obtain⟨Q,hQ⟩:∃P,(mvs (mk N G) 192).2=P:=⟨_,rfl⟩;have hfl:=fix_code nf hv n64 g1 g2 HTT.out hP hQ;rw[HZ.out]at hfl;have HFL:=ie hfl;have HPP:=ie hP;have HQQ:=ie hQ;have HBB:=ie hb
  have HNN:=ie hN;have HGG:=ie hG;clear hfl hP hQ hb hN hG nf hv n64 g1 g2 HZ HTT;refine jk [0,1,2,3,4,5,6,7] [some 6,some 7,some 8,some 9,some 10,some 11,some 12,some 13] [[],[],[1],[0,2],[3],[],[4,5],[6]] 8 0 [Jo.q4 D s M E,Jo.q4 D s M E,Jo.Fact.num (-x),Jo.Fact.nl 2 [x,-x],Jo.Fact.num m,Jo.Fact.num (opl 1073741824),Jo.qi σ,Jo.qb false] ?_ ?_
  ·iterate 2 (refine jm ?_ ?_;rotate_left)
   refine jm ?_ ?_
   ·rintro wj hJ _ rfl K hK;simp only[Jo.z]at hK|-;go_simp;exact Jo.n1 (nNeg hM (by rw[HX.out])) hK.out
   refine jm ?_ ?_
   ·rintro wj hJ _ rfl _ ⟨K20,s20,M20,E20,rfl,q20⟩ K hK;simp only[Jo.z]at hK|-;go_simp;exact hK.out _ _ ⟨_,2,rfl,Nl.lit2 rfl hM q20.top HX.out q20.rk⟩ (bel1 _ _)
   refine jm ?_ ?_
   ·rintro wj hJ _ ⟨A25,c25,rfl,h25⟩ K hK;simp only[Jo.z]at hK|-;go_simp;exact Jo.n1 (nMost h25 HMX.out) hK.out
   refine jm ?_ ?_
   ·rintro wj hJ K hK;simp only[Jo.z]at hK|-;go_simp;exact Jo.n1 (nOf _ (by decide) (by decide) rfl) hK.out
   refine jm ?_ ?_
   ·rintro wj hJ _ ⟨K21,s21,M21,E21,rfl,q21⟩ _ ⟨K22,s22,M22,E22,rfl,q22⟩ K hK;simp only[Jo.z]at hK|-;go_simp;refine(nCmp (z:=σ) q21.top q22.top (by rw[q21.rk,q22.rk];exact HC.out)).mono ?_;rintro ee wk ⟨rfl,B⟩;exact hK.out _ _ rfl B
   refine jm ?_ ?_
   ·rintro wj hJ _ rfl K hK;simp only[Jo.z]at hK|-;have hc0:=HC0.out;go_simp
    exact hK.out _ _ (by first | rfl | (show Value.bool _=Value.bool _;rw[hc0];rfl) | simp_all) (br _ _)
   exact jo
   all_goals (rintro wj hJ;(repeat rintro _ rfl);intro K hK;simp only[Jo.z]at hK|-;have xX1:=(X1.b hJ).cell;go_simp;exact hK.out _ _ rfl (br _ _))
  rintro w2 hJ _ rfl _ rfl _ ⟨K20,s20,M20,E20,rfl,_⟩ _ ⟨_,_,rfl,_⟩ _ ⟨K21,s21,M21,E21,rfl,_⟩ _ ⟨K22,s22,M22,E22,rfl,_⟩ _ rfl _ rfl -;simp only[Jo.z];replace X1:=X1.b hJ;replace XR:=XR.b hJ;replace hT:=hT.b hJ;replace HB:=Hqb HB hJ;refine jd ?_;clear HC HC0 HMX;have xX1:=X1.cell
  go_wp2_with fail
  refine(nExact hT h0 hM HBB.out HNN.out HGG.out).mono ?_;rintro ee w3 ⟨s5,A5,n5,c5,rfl,p5,k5,B⟩;clear xX1;replace XR:=XR.b B;replace hT:=hT.b B;replace HB:=Hqb HB B;clear B
  go_upto_region 4 with (fail)
  have nX5XR:=XR.lt;generalize hWn:w3.alloc _=w4 at *;obtain⟨X5,BW⟩:=Bo.nw hWn;clear hWn;replace XR:=XR.b BW;replace hT:=hT.b BW;replace p5:=p5.b BW;replace HB:=Hqb HB BW;clear BW;clear HBB HNN HGG HX;have xX5:=X5.cell
  go_wp2_with fail
  refine(dMove hT p5.wr (by omega) (by decide) (by decide) HPP.out HQQ.out).mono ?_;rintro ee w5 ⟨s6,A6,n6,c6,rfl,p6,k6,B⟩;clear xX5;replace XR:=XR.b B;replace hT:=hT.b B;replace HB:=Hqb HB B;clear B;clear p5
  go_wp2_with fail
  refine(dFloor hT p6.wr (by omega) HFL.out).mono ?_;rintro ee w6 ⟨s20,A20,n20,c20,rfl,p20,k20,B⟩;replace XR:=XR.b B;replace HB:=Hqb HB B;clear B;clear p6 hT;have xXR:=XR.cell;have zXR0:=XR.frozen;go_wp2;clear xXR zXR0;have SX:=StN.t2 XR s20 A20 n20 c20;replace p20:=p20.s SX;exact bq (v:= .tuple #[.agg #[.bool s20,.slice A20 n20 c20],.bool true]) (by simp[results,Tryz.results157,go_sem,SX.box.cell]) rfl ⟨_,_,_,_,rfl,p20,by omega,(SX.below HB.out (by omega))⟩
theorem tDown{w:World}{A:Option Addr}{n c:Nat}{s:Bool}{x:Int}{B:Option Addr}{m d:Nat}{t:Bool}{y:Int}{q:Int}(h:Wr w s A n c x)(k:Wr w t B m d y)(hn:n<=268435456)(hm:m<=268435456)(h0:y≠0)(hq:x.fdiv y=q):Calls Tryz.prog 59 #[.agg #[.bool s,.slice A n c],.agg #[.bool t,.slice B m d]] w (W1 w (n+m+4) q):=by
 go_enter Tryz.func59,Tryz.ntmps59
 go_upto_region 1 with (fail)
 generalize hW1:((w.alloc _).alloc _).alloc _=w1 at *;obtain⟨X2,X3,XR,HB⟩:=Bo.en3 hW1;replace h:=h.below HB.out;replace k:=k.below HB.out;clear hW1;have xX2:=X2.cell;have xX3:=X3.cell
 go_wp2_with fail
 refine(wDiv h k (by omega) (by omega) h0 hq rfl).mono ?_;rintro ee w2 ⟨s8,A8,n8,c8,s9,A9,n9,c9,rfl,p8,p9,k8,k9,B⟩;clear xX2 xX3;replace XR:=XR.b B;replace HB:=Hqb HB B;clear B;clear h k;clear X2 X3
 go_upto_region 2 with (fail)
 have e4X6:(World.alloc w2 (.cells #[.bool s8,.slice A8 n8 c8] 27)).heap.size=w2.heap.size+1:=by simp
 have nX5XR:=XR.lt;have BX:=bel1 w2 (.cells #[.bool s8,.slice A8 n8 c8] 27);replace XR:=XR.b BX;replace p8:=p8.b BX;replace HB:=ie (bt HB.out BX);have X5:=Bo.new w2 #[.bool s8,.slice A8 n8 c8] 27;generalize hWn:World.alloc w2 (.cells #[.bool s8,.slice A8 n8 c8] 27)=w3 at *;clear hWn
 have nX6XR:=XR.lt;have nX6X5:=X5.lt;generalize hWn:w3.alloc _=w4 at *;obtain⟨X6,BW⟩:=Bo.nw hWn;clear hWn;replace XR:=XR.b BW;replace X5:=X5.b BW;replace p8:=p8.b BW;replace HB:=Hqb HB BW;clear BW;rw[e4X6]at X6;clear e4X6;clear p9;have xXR:=XR.cell;have zXR0:=XR.frozen;have xX5:=X5.cell;go_wp2;clear xXR zXR0 xX5
 have SX:=StN.t2 XR s8 A8 n8 c8;replace p8:=p8.s SX;exact bq (v:= .agg #[.bool s8,.slice A8 n8 c8]) (by simp[results,Tryz.results59,go_sem,SX.box.cell]) rfl ⟨s8,A8,n8,c8,rfl,p8,by omega,(SX.below HB.out (by omega))⟩
def Jo.TFact.w2t (x y:Int):Jo.TFact #[.bool false,.slice none 0 0] 27:=⟨fun v w=>∃s1 A1 n1 c1 s2 A2 n2 c2,v= .tuple #[.agg #[.bool s1,.slice A1 n1 c1],.agg #[.bool s2,.slice A2 n2 c2],.bool true]/\Wn w s1 A1 n1 c1 x/\Wn w s2 A2 n2 c2 y/\n1<=1000000000/\n2<=1000000000,fun v w w' h b=>by
 obtain⟨s1,A1,n1,c1,s2,A2,n2,c2,e,p,q,k,l⟩:=h
 exact⟨s1,A1,n1,c1,s2,A2,n2,c2,e,p.below b,q.below b,k,l⟩,fun v w w' g cs h S=>by
 obtain⟨s1,A1,n1,c1,s2,A2,n2,c2,e,p,q,k,l⟩:=h;exact⟨s1,A1,n1,c1,s2,A2,n2,c2,e,p.stn S (by simp[no32]),q.stn S (by simp[no32]),k,l⟩⟩
def Jo.TFact.wn (x:Int)(K:Nat):Jo.TFact #[.bool false,.slice none 0 0] 27:=⟨fun v w=>∃s1 A1 n1 c1,v= .agg #[.bool s1,.slice A1 n1 c1]/\Wn w s1 A1 n1 c1 x/\n1<=K,fun v w w' h b=>by
 obtain⟨s1,A1,n1,c1,e,p,k⟩:=h
 exact⟨s1,A1,n1,c1,e,p.below b,k⟩,fun v w w' g cs h S=>by
 obtain⟨s1,A1,n1,c1,e,p,k⟩:=h;exact⟨s1,A1,n1,c1,e,p.stn S (by simp[no32]),k⟩⟩
theorem odd_cmp{x:Int}{b:Bool}(h:decide (x%2=1)=b):(cmpI (x.fmod 2) 0 !=0)=b:=by
 rw[<-h,Int.fmod_eq_emod_of_nonneg _ (by decide)]
 rcases Int.emod_two_eq x with e | e <;> rw[e] <;> rfl
theorem tOdd{w:World}{A:Option Addr}{n c:Nat}{s:Bool}{x:Int}{b:Bool}(h:Wr w s A n c x)(hn:n<=1000000)(hb:decide (x%2=1)=b):Calls Tryz.prog 198 #[.agg #[.bool s,.slice A n c]] w (PB w b):=by
 obtain⟨r,hr⟩:∃r,x.fmod 2=r:=⟨_,rfl⟩;obtain⟨σ,hσ⟩:∃σ,cmpI r 0=σ:=⟨_,rfl⟩;have hc:=odd_cmp hb;rw[hr,hσ]at hc;have HR:=ie hr;have HS:=ie hσ;have HC:=ie hc;clear hr hσ hc
 go_enter Tryz.func198,Tryz.ntmps198
 go_upto_region 1 with (fail)
 generalize hW1:w.alloc _=w1 at *;obtain⟨X1,HB⟩:=Bo.en1 hW1;replace h:=h.below HB.out;clear hW1;have ltX1:=X1.lt;have hszp:=HB.out.size
 refine Jo.region_quad (old:= #[.bool false,.slice none 0 0]) (R:=27) (T:=[0,1,2,3,4,5,6,7,8,9,10]) (ds:=[some 7,some 8,some 9,some 6,some 10,some 11,some 12,some 3,some 4,none,none,some 5]) (ls:=[[],[],[0,1],[2],[3],[3],[3],[],[],[4,7,8],[5,7,8],[]]) (k:=12) (L:=[(some 7,0),(some 8,1),(some 9,2),(some 6,3),(some 10,4),(some 11,5),(some 12,6),(some 3,7),(some 4,8),(none,9),(none,10)]) (fuel:=1) (w1:=w1) (p:=7) (q:=8) (s:=9) (e:=4) (s2:=10) (e2:=5)
  (F:=[Jo.TFact.eq (.agg #[.bool s,.slice A n c]),Jo.TFact.wn (2) (2),Jo.TFact.w2t (x.fdiv 2) r,Jo.TFact.w2t (x.fdiv 2) r,Jo.TFact.wn (x.fdiv 2) (1000000000),Jo.TFact.wn (r) (1000000000),Jo.TFact.eq (.bool true),Jo.TFact.any,Jo.TFact.any,Jo.TFact.any,Jo.TFact.any,Jo.TFact.any])
  (by decide) (by decide) (by decide) (by decide) (by kernel_rfl) (by kernel_rfl) (by decide) rfl rfl ?_ (fun vs w2 hJ hd hpq=>?_)
 ·refine Jo.xcons (i:=0) (o:=⟨some 7,_,_,_,_,_⟩) (di:=some 7) (L:=[]) (f:=Jo.TFact.eq (.agg #[.bool s,.slice A n c])) (by decide) (by decide) (by decide) (by decide) rfl rfl rfl rfl (fun vs wj hJ hd K hK=>?_) ?_
  ·clear hd;simp only[Jo.putl,Jo.ze,Act.put,Jo.za,Jo.zb,Jo.zc]at hK|-
   have xX10:World.cell? wj ⟨w.heap.size,0,none⟩=some (.bool s):=(X1.b hJ).cell 0
   have xX11:World.cell? wj ⟨w.heap.size,1,none⟩=some (.slice A n c):=(X1.b hJ).cell 1
   go_simp;exact hK.out _ _ rfl (br _ _)
  refine Jo.xcons (i:=1) (o:=⟨some 8,_,_,_,_,_⟩) (di:=some 8) (L:=[]) (f:=Jo.TFact.wn (2) (2)) (by decide) (by decide) (by decide) (by decide) rfl rfl rfl rfl (fun vs wj hJ hd K hK=>?_) ?_
  ·clear hd;simp only[Jo.putl,Jo.ze,Act.put,Jo.za,Jo.zb,Jo.zc]at hK|-;go_simp;exact Jo.w1 (wFrom 2 _ (by decide) (by decide)) hK.out
  refine Jo.xcons (i:=2) (o:=⟨some 9,_,_,_,_,_⟩) (di:=some 9) (L:=[(some 7,0),(some 8,1)]) (f:=Jo.TFact.w2t (x.fdiv 2) r) (by decide) (by decide) (by decide) (by decide) rfl rfl rfl rfl (fun vs wj hJ hd K hK=>?_) ?_
  ·have d0:(Jo.TFact.eq (.agg #[.bool s,.slice A n c]):Jo.TFact #[.bool false,.slice none 0 0] 27).P (vs 0) wj:=hd 0 (by decide)
   have d1:(Jo.TFact.wn (2) (2):Jo.TFact #[.bool false,.slice none 0 0] 27).P (vs 1) wj:=hd 1 (by decide)
   simp only[Jo.putl,Jo.zd,Jo.ze,Act.put,Jo.za,Jo.zb,Jo.zc]at hK|-;clear hd;generalize vs 0=u0 at hK d0|-;generalize vs 1=u1 at hK d1|-
   replace d0:u0=_:=d0
   subst d0;obtain⟨s20,A20,n20,c20,rfl,p20,k20⟩:=d1;go_simp;refine(wDiv (h.b hJ) p20.wr (by omega) (by omega) (by decide) rfl HR.out).mono ?_;rintro ee wk ⟨s8,A8,n8,c8,s9,A9,n9,c9,rfl,p8,p9,k8,k9,B⟩;exact hK.out _ _ ⟨s8,A8,n8,c8,s9,A9,n9,c9,rfl,p8,p9,by omega,by omega⟩ B
  refine Jo.xcons (i:=3) (o:=⟨some 6,_,_,_,_,_⟩) (di:=some 6) (L:=[(some 9,2)]) (f:=Jo.TFact.w2t (x.fdiv 2) r) (by decide) (by decide) (by decide) (by decide) rfl rfl rfl rfl (fun vs wj hJ hd K hK=>?_) ?_
  ·have d2:(Jo.TFact.w2t (x.fdiv 2) r:Jo.TFact #[.bool false,.slice none 0 0] 27).P (vs 2) wj:=hd 2 (by decide)
   clear hd;simp only[Jo.putl,Jo.zd,Jo.ze,Act.put,Jo.za,Jo.zb,Jo.zc]at hK|-;generalize vs 2=u2 at hK d2|-;obtain⟨s8,A8,n8,c8,s9,A9,n9,c9,rfl,p8,p9,k8,k9⟩:=d2;go_simp;exact hK.out _ _ ⟨s8,A8,n8,c8,s9,A9,n9,c9,rfl,p8,p9,by omega,by omega⟩ (br _ _)
  refine Jo.xcons (i:=4) (o:=⟨some 10,_,_,_,_,_⟩) (di:=some 10) (L:=[(some 6,3)]) (f:=Jo.TFact.wn (x.fdiv 2) (1000000000)) (by decide) (by decide) (by decide) (by decide) rfl rfl rfl rfl (fun vs wj hJ hd K hK=>?_) ?_
  ·have d3:(Jo.TFact.w2t (x.fdiv 2) r:Jo.TFact #[.bool false,.slice none 0 0] 27).P (vs 3) wj:=hd 3 (by decide)
   clear hd;simp only[Jo.putl,Jo.zd,Jo.ze,Act.put,Jo.za,Jo.zb,Jo.zc]at hK|-;generalize vs 3=u3 at hK d3|-;obtain⟨s8,A8,n8,c8,s9,A9,n9,c9,rfl,p8,p9,k8,k9⟩:=d3;go_simp;exact hK.out _ _ ⟨s8,A8,n8,c8,rfl,p8,k8⟩ (br _ _)
  refine Jo.xcons (i:=5) (o:=⟨some 11,_,_,_,_,_⟩) (di:=some 11) (L:=[(some 6,3)]) (f:=Jo.TFact.wn (r) (1000000000)) (by decide) (by decide) (by decide) (by decide) rfl rfl rfl rfl (fun vs wj hJ hd K hK=>?_) ?_
  ·have d3:(Jo.TFact.w2t (x.fdiv 2) r:Jo.TFact #[.bool false,.slice none 0 0] 27).P (vs 3) wj:=hd 3 (by decide)
   clear hd;simp only[Jo.putl,Jo.zd,Jo.ze,Act.put,Jo.za,Jo.zb,Jo.zc]at hK|-;generalize vs 3=u3 at hK d3|-;obtain⟨s8,A8,n8,c8,s9,A9,n9,c9,rfl,p8,p9,k8,k9⟩:=d3;go_simp;exact hK.out _ _ ⟨s9,A9,n9,c9,rfl,p9,k9⟩ (br _ _)
  refine Jo.xcons (i:=6) (o:=⟨some 12,_,_,_,_,_⟩) (di:=some 12) (L:=[(some 6,3)]) (f:=Jo.TFact.eq (.bool true)) (by decide) (by decide) (by decide) (by decide) rfl rfl rfl rfl (fun vs wj hJ hd K hK=>?_) ?_
  ·have d3:(Jo.TFact.w2t (x.fdiv 2) r:Jo.TFact #[.bool false,.slice none 0 0] 27).P (vs 3) wj:=hd 3 (by decide)
   clear hd;simp only[Jo.putl,Jo.zd,Jo.ze,Act.put,Jo.za,Jo.zb,Jo.zc]at hK|-;generalize vs 3=u3 at hK d3|-;obtain⟨s8,A8,n8,c8,s9,A9,n9,c9,rfl,p8,p9,k8,k9⟩:=d3;go_simp;exact hK.out _ _ rfl (br _ _)
  refine Jo.xnew (i:=7) (o:=⟨some 3,_,_,_,_,_⟩) (di:=some 3) (L:=[]) (by decide) (by decide) (by decide) (by decide) rfl rfl rfl rfl (fun vs wj K hK=>?_) ?_
  ·simp only[Jo.putl,Jo.ze,Act.put,Jo.za,Jo.zb,Jo.zc]at hK|-;go_simp;exact hK.out
  refine Jo.xnew (i:=8) (o:=⟨some 4,_,_,_,_,_⟩) (di:=some 4) (L:=[]) (by decide) (by decide) (by decide) (by decide) rfl rfl rfl rfl (fun vs wj K hK=>?_) ?_
  ·simp only[Jo.putl,Jo.ze,Act.put,Jo.za,Jo.zb,Jo.zc]at hK|-;go_simp;exact hK.out
  refine Jo.xsto (o:=⟨none,_,_,_,_,_⟩) (di:=none) (L:=[(some 10,4),(some 3,7),(some 4,8)]) (by decide) (by decide) (by decide) (by decide) rfl rfl rfl rfl (fun vs wj hJ hd g hg X K hK=>?_) ?_
  ·have d4:(Jo.TFact.wn (x.fdiv 2) (1000000000):Jo.TFact #[.bool false,.slice none 0 0] 27).P (vs 4) wj:=hd 4 (by decide)
   clear hd;simp only[Jo.putl,Jo.zd,Jo.ze,Act.put,Jo.za,Jo.zb,Jo.zc]at hK|-;simp only[hg]at hK|-;clear hg;generalize vs 4=u4 at hK d4|-;generalize vs 8=u8 at hK|-;obtain⟨s28,A28,n28,c28,rfl,p28,k28⟩:=d4;have xX:=X.cell;have zX:=X.frozen;go_simp;have SX:=StN.t2 X s28 A28 n28 c28;exact hK.out undef _ _ rfl SX
  refine Jo.xsto2 (o:=⟨none,_,_,_,_,_⟩) (di:=none) (L:=[(some 11,5),(some 3,7),(some 4,8)]) (by decide) (by decide) (by decide) (by decide) rfl rfl rfl rfl (fun vs wj hJ hd g hg X K hK=>?_) ?_
  ·have d5:(Jo.TFact.wn (r) (1000000000):Jo.TFact #[.bool false,.slice none 0 0] 27).P (vs 5) wj:=hd 5 (by decide)
   clear hd;simp only[Jo.putl,Jo.zd,Jo.ze,Act.put,Jo.za,Jo.zb,Jo.zc]at hK|-;simp only[hg]at hK|-;clear hg;generalize vs 5=u5 at hK d5|-;generalize vs 7=u7 at hK|-;obtain⟨s29,A29,n29,c29,rfl,p29,k29⟩:=d5;have xX:=X.cell;have zX:=X.frozen;go_simp;have SX:=StN.t2 X s29 A29 n29 c29;exact hK.out undef _ _ rfl SX
  exact Jo.StepsI.nil
 have d0:(Jo.TFact.eq (.agg #[.bool s,.slice A n c]):Jo.TFact #[.bool false,.slice none 0 0] 27).P (vs 0) w2:=hd 0 (by decide)
 have d1:(Jo.TFact.wn (2) (2):Jo.TFact #[.bool false,.slice none 0 0] 27).P (vs 1) w2:=hd 1 (by decide)
 have d2:(Jo.TFact.w2t (x.fdiv 2) r:Jo.TFact #[.bool false,.slice none 0 0] 27).P (vs 2) w2:=hd 2 (by decide)
 have d3:(Jo.TFact.w2t (x.fdiv 2) r:Jo.TFact #[.bool false,.slice none 0 0] 27).P (vs 3) w2:=hd 3 (by decide)
 have d4:(Jo.TFact.wn (x.fdiv 2) (1000000000):Jo.TFact #[.bool false,.slice none 0 0] 27).P (vs 4) w2:=hd 4 (by decide)
 have d5:(Jo.TFact.wn (r) (1000000000):Jo.TFact #[.bool false,.slice none 0 0] 27).P (vs 5) w2:=hd 5 (by decide)
 have d6:(Jo.TFact.eq (.bool true):Jo.TFact #[.bool false,.slice none 0 0] 27).P (vs 6) w2:=hd 6 (by decide)
 clear hd;obtain⟨g3,g4,csp,csq,ep,eq_,hg3,hg4,hneg3,ee,ff,X3,X4⟩:=hpq;simp only[Jo.putl,Jo.zd,Jo.ze,Act.put,Jo.za,Jo.zb,Jo.zc];simp only[ep,eq_];clear ep eq_;generalize vs 0=u0 at d0|-;generalize vs 1=u1 at d1|-;generalize vs 2=u2 at d2|-;generalize vs 3=u3 at d3|-;generalize vs 4=u4 at d4 ee|-;generalize vs 5=u5 at d5 ff|-;generalize vs 6=u6 at d6|-
 generalize vs 9=u9 at|-;generalize vs 10=u10 at|-;clear vs
 replace d0:u0=_:=d0
 subst d0;obtain⟨s20,A20,n20,c20,rfl,p20,k20⟩:=d1
 obtain- :=d2
 obtain- :=d3
 obtain⟨s28,A28,n28,c28,rfl,p28,k28⟩:=d4;obtain⟨s29,A29,n29,c29,rfl,p29,k29⟩:=d5
 replace d6:u6=_:=d6
 subst d6
 injection ee with ee
 subst ee
 injection ff with ff
 subst ff;replace HB:=Hqb HB hJ;clear h p28;clear X1
 refine jn 11 fun K hK=>?_
 go_simp;refine hK.out _ _ ?_;clear hK K;refine jd ?_
 go_upto_region 2 with (fail)
 have xX4:=X4.cell
 go_wp2_with fail
 refine(wSign p29.wr HS.out).mono ?_;rintro ee w5 ⟨rfl,B⟩;clear xX4;replace HB:=Hqb HB B;clear B;have hc:=HC.out;go_wp2
 go_ret
 exact⟨by first | rfl | (show Ending.returned (Value.bool _)=_;rw[hc]),HB.out⟩
theorem ti_up{x:Int}(hx: -(4*SC)<=x/\x<=4*SC):∀j:Nat,-(4*SC*16^j)<=ti x j/\ti x j<=4*SC*16^j
 | 0=>by
  show -(4*SC*1)<=x/\x<=4*SC*1
  omega
 | j+1=>by
  obtain⟨a,b⟩:=ti_up hx j
  have e:(4*SC*16^(j+1):Int)=4*SC*16^j*16:=by rw[Int.pow_succ,<-Int.mul_assoc]
  have step:∀t T:Int,-T<=t/\t<=T->0<=T-> -(T*4)<=t*x/SC/\t*x/SC<=T*4:=by
   intro t T h hT
   have m:(t*x).natAbs<=T.natAbs*(4*SC).natAbs:=by
    rw[Int.natAbs_mul];exact Nat.mul_le_mul (by omega) (by omega)
   rw[<-Int.natAbs_mul]at m
   have k:0<=T*(4*SC):=Int.mul_nonneg hT (by decide)
   have k2:T*(4*SC)=T*4*SC:=(Int.mul_assoc _ _ _).symm
   have m1: -(T*4)*SC<=t*x:=by rw[Int.neg_mul,<-k2];omega
   have m2:t*x<=T*4*SC:=by rw[<-k2];omega
   exact⟨Int.le_ediv_of_mul_le (by decide) m1,Int.ediv_le_of_le_mul (by decide) m2⟩
  have p0:(0:Int)<=4*SC*16^j:=Int.mul_nonneg (by decide) (Int.le_of_lt (Int.pow_pos (by decide)))
  have s1:=step _ _ ⟨a,b⟩ p0;have s2:=step _ _ s1 (by omega)
  have f:∀u d:Int,(u/d).natAbs<=u.natAbs:=fun u d=>Int.natAbs_ediv_le_natAbs u d
  rw[e];have g:=f (ti x j*x/SC*x/SC) (2*((j:Int)+1)*(2*((j:Int)+1)+1))
  show -(4*SC*16^j*16)<= -(ti x j*x/SC*x/SC/ (2*((j:Int)+1)*(2*((j:Int)+1)+1)))/\ -(ti x j*x/SC*x/SC/ (2*((j:Int)+1)*(2*((j:Int)+1)+1)))<=4*SC*16^j*16
  generalize 4*SC*16^j=T at *;generalize ti x j*x/SC*x/SC/ (2*((j:Int)+1)*(2*((j:Int)+1)+1))=q at *;generalize ti x j*x/SC*x/SC=u at *
  omega
theorem ti_fits{x:Int}(hx: -(4*SC)<=x/\x<=4*SC){j:Nat}(hj:j<=40):(ti x j).natAbs < 4294967296^12:=by
 obtain⟨a,b⟩:=ti_up hx j
 have m:(16:Int)^j<=16^40:=by
  have q:=Nat.pow_le_pow_right (n:=16) (by decide) hj
  exact_mod_cast q
 have n:4*SC*16^j<=4*SC*16^40:=Int.mul_le_mul_of_nonneg_left m (by decide)
 have e:(4*SC*16^40:Int) < 4294967296^12:=by decide
 have e2:((4294967296:Nat)^12:Nat)=(4294967296^12:Int).toNat:=by decide
 rw[e2];generalize (4294967296^12:Int)=Z at *;generalize 4*SC*16^j=T at *;generalize (4*SC*16^40:Int)=U at *
 omega
def TInv (w:World)(x:Int)(g3 g5 g6:Nat)(s3:Bool)(A3:Option Addr)(n3 c3:Nat)(s9:Bool)(A9:Option Addr)(n9 c9:Nat)(j:Nat)(wr:World):Prop:=∃(s5:Bool) (A5:Option Addr) (n5 c5:Nat) (s6:Bool) (A6:Option Addr) (n6 c6:Nat),Bo wr w.heap.size #[.bool s3,.slice A3 n3 c3] 27/\Bo wr (w.heap.size+1) #[.bool false,.slice none 0 0] 27/\Bo wr g3 #[.bool s9,.slice A9 n9 c9] 27/\Bo wr g5 #[.bool s5,.slice A5 n5 c5] 27/\Bo wr g6 #[.bool s6,.slice A6 n6 c6] 27/\Wn wr s3 A3 n3 c3 x/\Wn wr s9 A9 n9 c9 SC/\Wn wr s6 A6 n6 c6 (ti x j)/\Wn wr s5 A5 n5 c5 (si x j)/\n5<=7+13*j/\j<=40/\Below w.heap.size w wr
theorem tser_hi{w:World}{A:Option Addr}{n c a:Nat}{s:Bool}{x:Int}(h:Rd w A n c a)(hx:sg s a=x)(hn:n<=100000)(hf:(4*SC) < x):Calls Tryz.prog 13 #[.agg #[.bool s,.slice A n c]] w (W1 w 300000 0):=by
 obtain⟨σ,hσ⟩:∃σ,cmpI x (4*SC)=σ:=⟨_,rfl⟩;obtain⟨τ,hτ⟩:∃σ,cmpI x (-(4*SC))=σ:=⟨_,rfl⟩;have e0:=(cmp_lt12 hσ).2;have e1:=(cmp_lt12 hτ).1;have HS:=ie hσ;have HT:=ie hτ;clear hσ hτ;rw[dt hf]at e0
 have HC0:=ie e0;have HC1:=ie e1;clear e0 e1
 go_enter Tryz.func13,Tryz.ntmps13
 go_upto_region 1 with (fail)
 generalize hW1:(w.alloc _).alloc _=w1 at *;obtain⟨X1,XR,HB⟩:=Bo.en2 hW1;replace h:=h.below HB.out;clear hW1
 go_wp2_with fail
 refine(cScale).mono ?_;rintro ee w2 ⟨s9,A9,n9,c9,rfl,p9,k9,B⟩;replace X1:=X1.b B;replace XR:=XR.b B;replace h:=h.b B;replace HB:=Hqb HB B;clear B
 go_upto_region 2 with (fail)
 have nX3X1:=X1.lt;have nX3XR:=XR.lt;generalize hWn:w2.alloc _=w3 at *;obtain⟨X3,BW⟩:=Bo.nw hWn;clear hWn;replace X1:=X1.b BW;replace XR:=XR.b BW;replace h:=h.b BW;replace p9:=p9.b BW;replace HB:=Hqb HB BW;clear BW;have ltX1:=X1.lt;have ltXR:=XR.lt;have ltX3:=X3.lt;have hszA:=HB.out.size;refine jk [0,1,2,3,4] [some 11,some 12,some 13,some 14,some 4,none] [[],[],[0,1],[2],[],[]] 6 1 [Jo.Fact.wn (4) (2),Jo.Fact.eq (.agg #[.bool s9,.slice A9 n9 c9]),Jo.Fact.wl 8 2 [4,SC],Jo.Fact.wn ((4*SC)) (17),Jo.Fact.bo w3.heap.size #[.bool false,.slice none 0 0] 27,Jo.Fact.any] ?_ ?_
 ·refine jm ?_ ?_
  ·rintro wj hJ K hK;simp only[Jo.z]at hK|-;go_simp;exact Jo.w1 (wFrom 4 _ (by decide) (by decide)) hK.out
  refine jm ?_ ?_
  ·rintro wj hJ K hK;simp only[Jo.z]at hK|-;have xX3:=(X3.b hJ).cell;go_simp;exact hK.out _ _ rfl (br _ _)
  refine jm ?_ ?_
  ·rintro wj hJ _ ⟨s20,A20,n20,c20,rfl,p20,k20⟩ _ rfl K hK;simp only[Jo.z]at hK|-;go_simp;exact hK.out _ _ ⟨_,_,rfl,Wl.lit2 rfl p20.wr (p9.b hJ).wr (by omega) (by omega)⟩ (bel1 _ _)
  refine jm ?_ ?_
  ·rintro wj hJ _ ⟨A21,c21,rfl,h21⟩ K hK;simp only[Jo.z]at hK|-;go_simp;exact Jo.w1 (wMul (r:=4*SC) h21 (by decide) (by decide)) hK.out
  refine jm ?_ ?_
  ·rintro wj hJ K hK;simp only[Jo.z]at hK|-;go_simp;exact hK.out _ _ ⟨_,rfl,hJ.size,Bo.new _ _ _⟩ (bel1 _ _)
  exact jo
 rintro w4 hJ _ ⟨s20,A20,n20,c20,rfl,p20,k20⟩ _ rfl _ ⟨_,_,rfl,_⟩ _ ⟨s22,A22,n22,c22,rfl,p22,k22⟩ _ ⟨g4,rfl,hg4,X4⟩ -;simp only[Jo.z];replace X1:=X1.b hJ;replace XR:=XR.b hJ;replace h:=h.b hJ;replace HB:=Hqb HB hJ;clear p20;have xX4:=X4.cell;have zX40:=X4.frozen
 refine jn 5 fun K hK=>?_
 go_simp;refine hK.out _ _ ?_;clear hK K xX4 zX40;generalize hS:(w4.setCell _ _).setCell _ _=w5 at *;have SX:=StN.of2 X4 hS;replace X1:=X1.s SX;replace XR:=XR.s SX;replace h:=h.s SX;replace p22:=p22.s SX;replace HB:=Hqs HB SX (by omega);replace X4:=SX.box;clear SX hS;refine jd ?_
 go_upto_region 3 with (fail)
 refine jk [0,1,2,3,4,5,6,7,8,9,10] [some 15,some 16,some 17,some 18,some 19,some 20,some 21,some 22,some 23,some 24,some 25] [[],[],[0,1],[2],[3],[4],[4],[4,6],[4,5,7],[4,8],[4,9]] 11 0 [Jo.Fact.eq (.agg #[.bool s,.slice A n c]),Jo.Fact.eq (.agg #[.bool s22,.slice A22 n22 c22]),Jo.qi σ,Jo.qb true,Jo.qb true,Jo.qu,Jo.qu,Jo.qu,Jo.qu,Jo.qu,Jo.qb true] ?_ ?_
 ·iterate 2 (refine jm ?_ ?_;rotate_left)
  refine jm ?_ ?_
  ·rintro wj hJ _ rfl _ rfl K hK;simp only[Jo.z]at hK|-;go_simp;refine(wCmp (r:=σ) ⟨_,h.b hJ,hx⟩ (p22.b hJ).wr HS.out).mono ?_;rintro ee wk ⟨rfl,B⟩;exact hK.out _ _ rfl B
  refine jm ?_ ?_
  ·rintro wj hJ _ rfl K hK;simp only[Jo.z]at hK|-;have hc0:=HC0.out;go_simp
   exact hK.out _ _ (by first | rfl | (show Value.bool _=Value.bool _;rw[hc0]) | simp_all) (br _ _)
  iterate 7 (refine jm ?_ ?_;rotate_left)
  exact jo
  all_goals (rintro wj hJ;(repeat rintro _ rfl);intro K hK;simp only[Jo.z]at hK|-;have xX1:=(X1.b hJ).cell;have xX4:=(X4.b hJ).cell;go_simp;exact hK.out _ _ rfl (br _ _))
 rintro w6 hJ _ rfl _ rfl _ rfl _ rfl _ rfl _ rfl _ rfl _ rfl _ rfl _ rfl _ rfl -;simp only[Jo.z];replace XR:=XR.b hJ;replace HB:=Hqb HB hJ;refine jd ?_;clear p22 HS HC0 HT HC1;clear X4;clear h p9;have xXR:=XR.cell;have zXR0:=XR.frozen;go_wp2;clear xXR zXR0;have SX:=StN.t2 XR false none 0 0;exact bq (v:= .agg #[.bool false,.slice none 0 0]) (by simp[results,Tryz.results13,go_sem,SX.box.cell]) rfl ⟨_,_,_,_,rfl,⟨Nm.zero,rfl⟩,Nat.zero_le _,(SX.below HB.out (by omega))⟩
theorem tser_lo{w:World}{A:Option Addr}{n c a:Nat}{s:Bool}{x:Int}(h:Rd w A n c a)(hx:sg s a=x)(hn:n<=100000)(hf0:¬(4*SC) < x)(hf:x < -(4*SC)):Calls Tryz.prog 13 #[.agg #[.bool s,.slice A n c]] w (W1 w 300000 0):=by
 obtain⟨σ,hσ⟩:∃σ,cmpI x (4*SC)=σ:=⟨_,rfl⟩;obtain⟨τ,hτ⟩:∃σ,cmpI x (-(4*SC))=σ:=⟨_,rfl⟩;have e0:=(cmp_lt12 hσ).2;have e1:=(cmp_lt12 hτ).1;have HS:=ie hσ;have HT:=ie hτ;clear hσ hτ;rw[df hf0]at e0;rw[dt hf]at e1;have HC0:=ie e0;have HC1:=ie e1;clear e0 e1
 go_enter Tryz.func13,Tryz.ntmps13
 go_upto_region 1 with (fail)
 generalize hW1:(w.alloc _).alloc _=w1 at *;obtain⟨X1,XR,HB⟩:=Bo.en2 hW1;replace h:=h.below HB.out;clear hW1
 go_wp2_with fail
 refine(cScale).mono ?_;rintro ee w2 ⟨s9,A9,n9,c9,rfl,p9,k9,B⟩;replace X1:=X1.b B;replace XR:=XR.b B;replace h:=h.b B;replace HB:=Hqb HB B;clear B
 go_upto_region 2 with (fail)
 have nX3X1:=X1.lt;have nX3XR:=XR.lt;generalize hWn:w2.alloc _=w3 at *;obtain⟨X3,BW⟩:=Bo.nw hWn;clear hWn;replace X1:=X1.b BW;replace XR:=XR.b BW;replace h:=h.b BW;replace p9:=p9.b BW;replace HB:=Hqb HB BW;clear BW;have ltX1:=X1.lt;have ltXR:=XR.lt;have ltX3:=X3.lt;have hszA:=HB.out.size;refine jk [0,1,2,3,4] [some 11,some 12,some 13,some 14,some 4,none] [[],[],[0,1],[2],[],[]] 6 1 [Jo.Fact.wn (4) (2),Jo.Fact.eq (.agg #[.bool s9,.slice A9 n9 c9]),Jo.Fact.wl 8 2 [4,SC],Jo.Fact.wn ((4*SC)) (17),Jo.Fact.bo w3.heap.size #[.bool false,.slice none 0 0] 27,Jo.Fact.any] ?_ ?_
 ·refine jm ?_ ?_
  ·rintro wj hJ K hK;simp only[Jo.z]at hK|-;go_simp;exact Jo.w1 (wFrom 4 _ (by decide) (by decide)) hK.out
  refine jm ?_ ?_
  ·rintro wj hJ K hK;simp only[Jo.z]at hK|-;have xX3:=(X3.b hJ).cell;go_simp;exact hK.out _ _ rfl (br _ _)
  refine jm ?_ ?_
  ·rintro wj hJ _ ⟨s20,A20,n20,c20,rfl,p20,k20⟩ _ rfl K hK;simp only[Jo.z]at hK|-;go_simp;exact hK.out _ _ ⟨_,_,rfl,Wl.lit2 rfl p20.wr (p9.b hJ).wr (by omega) (by omega)⟩ (bel1 _ _)
  refine jm ?_ ?_
  ·rintro wj hJ _ ⟨A21,c21,rfl,h21⟩ K hK;simp only[Jo.z]at hK|-;go_simp;exact Jo.w1 (wMul (r:=4*SC) h21 (by decide) (by decide)) hK.out
  refine jm ?_ ?_
  ·rintro wj hJ K hK;simp only[Jo.z]at hK|-;go_simp;exact hK.out _ _ ⟨_,rfl,hJ.size,Bo.new _ _ _⟩ (bel1 _ _)
  exact jo
 rintro w4 hJ _ ⟨s20,A20,n20,c20,rfl,p20,k20⟩ _ rfl _ ⟨_,_,rfl,_⟩ _ ⟨s22,A22,n22,c22,rfl,p22,k22⟩ _ ⟨g4,rfl,hg4,X4⟩ -;simp only[Jo.z];replace X1:=X1.b hJ;replace XR:=XR.b hJ;replace h:=h.b hJ;replace HB:=Hqb HB hJ;clear p20;have xX4:=X4.cell;have zX40:=X4.frozen
 refine jn 5 fun K hK=>?_
 go_simp;refine hK.out _ _ ?_;clear hK K xX4 zX40;generalize hS:(w4.setCell _ _).setCell _ _=w5 at *;have SX:=StN.of2 X4 hS;replace X1:=X1.s SX;replace XR:=XR.s SX;replace h:=h.s SX;replace p22:=p22.s SX;replace HB:=Hqs HB SX (by omega);replace X4:=SX.box;clear SX hS;refine jd ?_
 go_upto_region 3 with (fail)
 refine jk [0,1,2,3,4,5,6,7,8,9,10] [some 15,some 16,some 17,some 18,some 19,some 20,some 21,some 22,some 23,some 24,some 25] [[],[],[0,1],[2],[3],[4],[4],[4,6],[4,5,7],[4,8],[4,9]] 11 0 [Jo.Fact.eq (.agg #[.bool s,.slice A n c]),Jo.Fact.eq (.agg #[.bool s22,.slice A22 n22 c22]),Jo.qi σ,Jo.qb false,Jo.qb false,Jo.Fact.eq (.agg #[.bool s,.slice A n c]),Jo.Fact.eq (.agg #[.bool s22,.slice A22 n22 c22]),Jo.Fact.wn (-(4*SC)) (17),Jo.qi τ,Jo.qb true,Jo.qb true] ?_ ?_
 ·iterate 2 (refine jm ?_ ?_;rotate_left)
  refine jm ?_ ?_
  ·rintro wj hJ _ rfl _ rfl K hK;simp only[Jo.z]at hK|-;go_simp;refine(wCmp (r:=σ) ⟨_,h.b hJ,hx⟩ (p22.b hJ).wr HS.out).mono ?_;rintro ee wk ⟨rfl,B⟩;exact hK.out _ _ rfl B
  refine jm ?_ ?_
  ·rintro wj hJ _ rfl K hK;simp only[Jo.z]at hK|-;have hc0:=HC0.out;go_simp
   exact hK.out _ _ (by first | rfl | (show Value.bool _=Value.bool _;rw[hc0]) | simp_all) (br _ _)
  iterate 3 (refine jm ?_ ?_;rotate_left)
  refine jm ?_ ?_
  ·rintro wj hJ _ rfl _ rfl K hK;simp only[Jo.z]at hK|-;go_simp;exact Jo.w1 (wNeg (p22.b hJ).wr rfl) hK.out
  refine jm ?_ ?_
  ·rintro wj hJ _ rfl _ rfl _ ⟨s30,A30,n30,c30,rfl,p30,k30⟩ K hK;simp only[Jo.z]at hK|-;go_simp;refine(wCmp (r:=τ) ⟨_,h.b hJ,hx⟩ p30.wr HT.out).mono ?_;rintro ee wk ⟨rfl,B⟩;exact hK.out _ _ rfl B
  refine jm ?_ ?_
  ·rintro wj hJ _ rfl _ rfl K hK;simp only[Jo.z]at hK|-;have hc0:=HC1.out;go_simp
   exact hK.out _ _ (by first | rfl | (show Value.bool _=Value.bool _;rw[hc0]) | simp_all) (br _ _)
  refine jm ?_ ?_;rotate_left
  exact jo
  all_goals (rintro wj hJ;(repeat rintro _ rfl);intro K hK;simp only[Jo.z]at hK|-;have xX1:=(X1.b hJ).cell;have xX4:=(X4.b hJ).cell;go_simp;exact hK.out _ _ rfl (br _ _))
 rintro w6 hJ _ rfl _ rfl _ rfl _ rfl _ rfl _ rfl _ rfl _ ⟨s30,A30,n30,c30,rfl,p30,k30⟩ _ rfl _ rfl _ rfl -;simp only[Jo.z];replace XR:=XR.b hJ;replace HB:=Hqb HB hJ;refine jd ?_;clear p22 HS HC0 HT HC1;clear X4;clear h p9;have xXR:=XR.cell;have zXR0:=XR.frozen;go_wp2;clear xXR zXR0;have SX:=StN.t2 XR false none 0 0
 exact bq (v:= .agg #[.bool false,.slice none 0 0]) (by simp[results,Tryz.results13,go_sem,SX.box.cell]) rfl ⟨_,_,_,_,rfl,⟨Nm.zero,rfl⟩,Nat.zero_le _,(SX.below HB.out (by omega))⟩
theorem tser_near{w:World}{A:Option Addr}{n c a:Nat}{s:Bool}{x:Int}(h:Rd w A n c a)(hx:sg s a=x)(hn:n<=100000)(hf0:¬(4*SC) < x)(hf:¬x < -(4*SC)):Calls Tryz.prog 13 #[.agg #[.bool s,.slice A n c]] w (W1 w 300000 (si x 40)):=by
 have hfit:x.natAbs < 4294967296^7:=by
  have e:(4294967296:Nat)^7=26959946667150639794667015087019630673637144422540572481103610249216:=by decide
  rw[e]
  unfold SC at hf hf0
  omega
 have HFT:=ie hfit
 have HXB:Hid (-(4*SC)<=x/\x<=4*SC):=ie ⟨by omega,by omega⟩
 clear hfit;obtain⟨σ,hσ⟩:∃σ,cmpI x (4*SC)=σ:=⟨_,rfl⟩;obtain⟨τ,hτ⟩:∃σ,cmpI x (-(4*SC))=σ:=⟨_,rfl⟩;have e0:=(cmp_lt12 hσ).2;have e1:=(cmp_lt12 hτ).1;have HS:=ie hσ;have HT:=ie hτ;clear hσ hτ;rw[df hf0]at e0;rw[df hf]at e1;have HC0:=ie e0;have HC1:=ie e1;clear e0 e1 hf hf0
 go_enter Tryz.func13,Tryz.ntmps13
 go_upto_region 1 with (fail)
 generalize hW1:(w.alloc _).alloc _=w1 at *;obtain⟨X1,XR,HB⟩:=Bo.en2 hW1;replace h:=h.below HB.out;clear hW1
 go_wp2_with fail
 refine(cScale).mono ?_;rintro ee w2 ⟨s9,A9,n9,c9,rfl,p9,k9,B⟩;replace X1:=X1.b B;replace XR:=XR.b B;replace h:=h.b B;replace HB:=Hqb HB B;clear B
 go_upto_region 2 with (fail)
 have nX3X1:=X1.lt;have nX3XR:=XR.lt;generalize hWn:w2.alloc _=w3 at *;obtain⟨X3,BW⟩:=Bo.nw hWn;clear hWn;replace X1:=X1.b BW;replace XR:=XR.b BW;replace h:=h.b BW;replace p9:=p9.b BW;replace HB:=Hqb HB BW;clear BW;have ltX1:=X1.lt;have ltXR:=XR.lt;have ltX3:=X3.lt;have hszA:=HB.out.size;refine jk [0,1,2,3,4] [some 11,some 12,some 13,some 14,some 4,none] [[],[],[0,1],[2],[],[]] 6 1 [Jo.Fact.wn (4) (2),Jo.Fact.eq (.agg #[.bool s9,.slice A9 n9 c9]),Jo.Fact.wl 8 2 [4,SC],Jo.Fact.wn ((4*SC)) (17),Jo.Fact.bo w3.heap.size #[.bool false,.slice none 0 0] 27,Jo.Fact.any] ?_ ?_
 ·refine jm ?_ ?_
  ·rintro wj hJ K hK;simp only[Jo.z]at hK|-;go_simp;exact Jo.w1 (wFrom 4 _ (by decide) (by decide)) hK.out
  refine jm ?_ ?_
  ·rintro wj hJ K hK;simp only[Jo.z]at hK|-;have xX3:=(X3.b hJ).cell;go_simp;exact hK.out _ _ rfl (br _ _)
  refine jm ?_ ?_
  ·rintro wj hJ _ ⟨s20,A20,n20,c20,rfl,p20,k20⟩ _ rfl K hK;simp only[Jo.z]at hK|-;go_simp;exact hK.out _ _ ⟨_,_,rfl,Wl.lit2 rfl p20.wr (p9.b hJ).wr (by omega) (by omega)⟩ (bel1 _ _)
  refine jm ?_ ?_
  ·rintro wj hJ _ ⟨A21,c21,rfl,h21⟩ K hK;simp only[Jo.z]at hK|-;go_simp;exact Jo.w1 (wMul (r:=4*SC) h21 (by decide) (by decide)) hK.out
  refine jm ?_ ?_
  ·rintro wj hJ K hK;simp only[Jo.z]at hK|-;go_simp;exact hK.out _ _ ⟨_,rfl,hJ.size,Bo.new _ _ _⟩ (bel1 _ _)
  exact jo
 rintro w4 hJ _ ⟨s20,A20,n20,c20,rfl,p20,k20⟩ _ rfl _ ⟨_,_,rfl,_⟩ _ ⟨s22,A22,n22,c22,rfl,p22,k22⟩ _ ⟨g4,rfl,hg4,X4⟩ -;simp only[Jo.z];replace X1:=X1.b hJ;replace XR:=XR.b hJ;replace X3:=X3.b hJ;replace h:=h.b hJ;replace p9:=p9.b hJ;replace HB:=Hqb HB hJ;clear p20;have xX4:=X4.cell;have zX40:=X4.frozen
 refine jn 5 fun K hK=>?_
 go_simp;refine hK.out _ _ ?_;clear hK K xX4 zX40;generalize hS:(w4.setCell _ _).setCell _ _=w5 at *;have SX:=StN.of2 X4 hS;replace X1:=X1.s SX;replace XR:=XR.s SX;replace X3:=X3.s SX;replace h:=h.s SX;replace p9:=p9.s SX;replace p22:=p22.s SX;replace HB:=Hqs HB SX (by omega)
 replace X4:=SX.box;clear SX hS;refine jd ?_
 go_upto_region 3 with (fail)
 refine jk [0,1,2,3,4,5,6,7,8,9,10] [some 15,some 16,some 17,some 18,some 19,some 20,some 21,some 22,some 23,some 24,some 25] [[],[],[0,1],[2],[3],[4],[4],[4,6],[4,5,7],[4,8],[4,9]] 11 0 [Jo.Fact.eq (.agg #[.bool s,.slice A n c]),Jo.Fact.eq (.agg #[.bool s22,.slice A22 n22 c22]),Jo.qi σ,Jo.qb false,Jo.qb false,Jo.Fact.eq (.agg #[.bool s,.slice A n c]),Jo.Fact.eq (.agg #[.bool s22,.slice A22 n22 c22]),Jo.Fact.wn (-(4*SC)) (17),Jo.qi τ,Jo.qb false,Jo.qb false] ?_ ?_
 ·iterate 2 (refine jm ?_ ?_;rotate_left)
  refine jm ?_ ?_
  ·rintro wj hJ _ rfl _ rfl K hK;simp only[Jo.z]at hK|-;go_simp;refine(wCmp (r:=σ) ⟨_,h.b hJ,hx⟩ (p22.b hJ).wr HS.out).mono ?_;rintro ee wk ⟨rfl,B⟩;exact hK.out _ _ rfl B
  refine jm ?_ ?_
  ·rintro wj hJ _ rfl K hK;simp only[Jo.z]at hK|-;have hc0:=HC0.out;go_simp
   exact hK.out _ _ (by first | rfl | (show Value.bool _=Value.bool _;rw[hc0]) | simp_all) (br _ _)
  iterate 3 (refine jm ?_ ?_;rotate_left)
  refine jm ?_ ?_
  ·rintro wj hJ _ rfl _ rfl K hK;simp only[Jo.z]at hK|-;go_simp;exact Jo.w1 (wNeg (p22.b hJ).wr rfl) hK.out
  refine jm ?_ ?_
  ·rintro wj hJ _ rfl _ rfl _ ⟨s30,A30,n30,c30,rfl,p30,k30⟩ K hK;simp only[Jo.z]at hK|-;go_simp;refine(wCmp (r:=τ) ⟨_,h.b hJ,hx⟩ p30.wr HT.out).mono ?_;rintro ee wk ⟨rfl,B⟩;exact hK.out _ _ rfl B
  refine jm ?_ ?_
  ·rintro wj hJ _ rfl _ rfl K hK;simp only[Jo.z]at hK|-;have hc0:=HC1.out;go_simp
   exact hK.out _ _ (by first | rfl | (show Value.bool _=Value.bool _;rw[hc0]) | simp_all) (br _ _)
  refine jm ?_ ?_;rotate_left
  exact jo
  all_goals (rintro wj hJ;(repeat rintro _ rfl);intro K hK;simp only[Jo.z]at hK|-;have xX1:=(X1.b hJ).cell;have xX4:=(X4.b hJ).cell;go_simp;exact hK.out _ _ rfl (br _ _))
 rintro w6 hJ _ rfl _ rfl _ rfl _ rfl _ rfl _ rfl _ rfl _ ⟨s30,A30,n30,c30,rfl,p30,k30⟩ _ rfl _ rfl _ rfl -;simp only[Jo.z];replace X1:=X1.b hJ;replace XR:=XR.b hJ;replace X3:=X3.b hJ;replace h:=h.b hJ;replace p9:=p9.b hJ;replace p22:=p22.b hJ;replace HB:=Hqb HB hJ;refine jd ?_;clear p22 HS HC0 HT HC1;clear X4
 have xX1:=X1.cell
 go_wp2_with fail
 refine(wMake s h).mono ?_;rintro ee w7 ⟨s3,A3,n3,c3,rfl,p3,k3,B⟩;clear xX1;replace X1:=X1.b B;replace XR:=XR.b B;replace X3:=X3.b B;replace h:=h.b B;replace p9:=p9.b B;replace HB:=Hqb HB B;clear B;clear h;replace p3:=hx▸p3;clear hx;have few:=p3.fits HFT.out;clear HFT;have xX1:=X1.cell;have zX10:=X1.frozen
 go_upto_region 6 with (fail)
 clear xX1 zX10;generalize hS:(w7.setCell _ _).setCell _ _=w8 at *;have SX:=StN.of2 X1 hS;replace XR:=XR.s SX;replace X3:=X3.s SX;replace p9:=p9.s SX;replace p3:=p3.s SX;replace HB:=Hqs HB SX (by omega);replace X1:=SX.box;clear SX hS;have ltX1:=X1.lt;have ltXR:=XR.lt;have ltX3:=X3.lt
 have hszp:=HB.out.size
 refine Jo.region_trip (old:= #[.bool false,.slice none 0 0]) (R:=27) (T:=[0,1,2,3,4]) (ds:=[some 32,some 33,some 5,some 6,none,none]) (ls:=[[],[],[],[],[0,2,3],[]]) (k:=6) (L:=[(some 32,0),(some 33,1),(some 5,2),(some 6,3),(none,4)]) (fuel:=1) (w1:=w8) (p:=2) (q:=3) (s:=4) (e:=0) (s2:=999) (e2:=999)
  (F:=[Jo.TFact.eq (.agg #[.bool s3,.slice A3 n3 c3]),Jo.TFact.eq (.agg #[.bool s3,.slice A3 n3 c3]),Jo.TFact.any,Jo.TFact.any,Jo.TFact.any,Jo.TFact.any])
  (by decide) (by decide) (by decide) (by decide) (by kernel_rfl) (by kernel_rfl) (by decide) rfl rfl ?_ (fun vs w9 hJ hd hpq=>?_)
 ·refine Jo.xcons (i:=0) (o:=⟨some 32,_,_,_,_,_⟩) (di:=some 32) (L:=[]) (f:=Jo.TFact.eq (.agg #[.bool s3,.slice A3 n3 c3])) (by decide) (by decide) (by decide) (by decide) rfl rfl rfl rfl (fun vs wj hJ hd K hK=>?_) ?_
  ·clear hd;simp only[Jo.putl,Jo.ze,Act.put,Jo.za,Jo.zb,Jo.zc]at hK|-
   have xX10:World.cell? wj ⟨w.heap.size,0,none⟩=some (.bool s3):=(X1.b hJ).cell 0
   have xX11:World.cell? wj ⟨w.heap.size,1,none⟩=some (.slice A3 n3 c3):=(X1.b hJ).cell 1
   go_simp;exact hK.out _ _ rfl (br _ _)
  refine Jo.xcons (i:=1) (o:=⟨some 33,_,_,_,_,_⟩) (di:=some 33) (L:=[]) (f:=Jo.TFact.eq (.agg #[.bool s3,.slice A3 n3 c3])) (by decide) (by decide) (by decide) (by decide) rfl rfl rfl rfl (fun vs wj hJ hd K hK=>?_) ?_
  ·clear hd;simp only[Jo.putl,Jo.ze,Act.put,Jo.za,Jo.zb,Jo.zc]at hK|-
   have xX10:World.cell? wj ⟨w.heap.size,0,none⟩=some (.bool s3):=(X1.b hJ).cell 0
   have xX11:World.cell? wj ⟨w.heap.size,1,none⟩=some (.slice A3 n3 c3):=(X1.b hJ).cell 1
   go_simp;exact hK.out _ _ rfl (br _ _)
  refine Jo.xnew (i:=2) (o:=⟨some 5,_,_,_,_,_⟩) (di:=some 5) (L:=[]) (by decide) (by decide) (by decide) (by decide) rfl rfl rfl rfl (fun vs wj K hK=>?_) ?_
  ·simp only[Jo.putl,Jo.ze,Act.put,Jo.za,Jo.zb,Jo.zc]at hK|-;go_simp;exact hK.out
  refine Jo.xnew (i:=3) (o:=⟨some 6,_,_,_,_,_⟩) (di:=some 6) (L:=[]) (by decide) (by decide) (by decide) (by decide) rfl rfl rfl rfl (fun vs wj K hK=>?_) ?_
  ·simp only[Jo.putl,Jo.ze,Act.put,Jo.za,Jo.zb,Jo.zc]at hK|-;go_simp;exact hK.out
  refine Jo.xsto (o:=⟨none,_,_,_,_,_⟩) (di:=none) (L:=[(some 32,0),(some 5,2),(some 6,3)]) (by decide) (by decide) (by decide) (by decide) rfl rfl rfl rfl (fun vs wj hJ hd g hg X K hK=>?_) ?_
  ·have d0:(Jo.TFact.eq (.agg #[.bool s3,.slice A3 n3 c3]):Jo.TFact #[.bool false,.slice none 0 0] 27).P (vs 0) wj:=hd 0 (by decide)
   clear hd;simp only[Jo.putl,Jo.zd,Jo.ze,Act.put,Jo.za,Jo.zb,Jo.zc]at hK|-;simp only[hg]at hK|-;clear hg;generalize vs 0=u0 at hK d0|-;generalize vs 3=u3 at hK|-
   replace d0:u0=_:=d0
   subst d0;have xX:=X.cell;have zX:=X.frozen;go_simp;have SX:=StN.t2 X s3 A3 n3 c3;exact hK.out undef _ _ rfl SX
  exact Jo.StepsI.nil
 have d0:(Jo.TFact.eq (.agg #[.bool s3,.slice A3 n3 c3]):Jo.TFact #[.bool false,.slice none 0 0] 27).P (vs 0) w9:=hd 0 (by decide)
 have d1:(Jo.TFact.eq (.agg #[.bool s3,.slice A3 n3 c3]):Jo.TFact #[.bool false,.slice none 0 0] 27).P (vs 1) w9:=hd 1 (by decide)
 clear hd;obtain⟨g5,g6,csp,ep,eq_,hg5,hg6,hneg5,ee,X5,X6⟩:=hpq;simp only[Jo.putl,Jo.zd,Jo.ze,Act.put,Jo.za,Jo.zb,Jo.zc];simp only[ep,eq_];clear ep eq_;generalize vs 0=u0 at d0 ee|-;generalize vs 1=u1 at d1|-;generalize vs 4=u4 at|-;clear vs
 replace d0:u0=_:=d0
 subst d0
 replace d1:u1=_:=d1
 subst d1
 injection ee with ee
 subst ee;replace X1:=X1.b hJ;replace XR:=XR.b hJ;replace X3:=X3.b hJ;replace p9:=p9.b hJ;replace p3:=p3.b hJ;replace HB:=Hqb HB hJ;have xX6:=X6.cell;have zX60:=X6.frozen
 refine jn 5 fun K hK=>?_
 go_simp;refine hK.out _ _ ?_;clear hK K xX6 zX60;generalize hS:(w9.setCell _ _).setCell _ _=wB at *;have SX:=StN.of2 X6 hS;replace X1:=X1.s SX;replace XR:=XR.s SX;replace X3:=X3.s SX;replace X5:=X5.s SX;replace p9:=p9.s SX;replace p3:=p3.s SX;replace HB:=Hqs HB SX (by omega)
 replace X6:=SX.box;clear SX hS;refine jd ?_
 go_upto_region 7 with (fail)
 generalize hg3:w2.heap.size=g3 at *
 have G1:w.heap.size+1 < g3/\g3 < g5/\g3 < g6/\g5≠g6:=⟨by omega,by omega,by omega,hneg5⟩
 have hI0:TInv w x g3 g5 g6 s3 A3 n3 c3 s9 A9 n9 c9 0 wB:=⟨_,_,_,_,_,_,_,_,X1,XR,X3,X5,X6,p3,p9,p3,p3,by omega,by decide,HB.out⟩
 have HI0:=ie hI0;clear hI0 XR X1 X3 X5 X6 p3 p9 HB;go_wp2
 go_loopw [7] (fun i wr=>∃j:Nat,i= .int .i64 ((j:Int)+1)/\TInv w x g3 g5 g6 s3 A3 n3 c3 s9 A9 n9 c9 j wr) (fun i _=>41-(intOf i).toNat)
 case atStart=>exact ⟨0,rfl,HI0.out⟩
 case round=>
  obtain⟨j,rfl,s5,A5,n5,c5,s6,A6,n6,c6,X1,XR,X3,X5,X6,p3,p9,p6,p5,k5,hj,hB⟩:=hrel;have HB:=ie hB;have few6:=p6.fits (ti_fits HXB.out hj);clear hB HI0
  by_cases hlt:j < 40
  ·have tlt:decide ((j:Int)+1<=40)=true:=dt (by omega)
   have HW1:=iw (2*((j:Int)+1));have HW2:=iw (2*((j:Int)+1)+1);have HW3:=jw (2*((j:Int)+1)+1)
   have hb4:0<=2*((j:Int)+1)*(2*((j:Int)+1)+1)/\2*((j:Int)+1)*(2*((j:Int)+1)+1)<=80*81/\2*((j:Int)+1)*(2*((j:Int)+1)+1)≠0:=by
    have a:0 < 2*((j:Int)+1)*(2*((j:Int)+1)+1):=Int.mul_pos (by omega) (by omega)
    exact⟨Int.le_of_lt a,Int.mul_le_mul (by omega) (by omega) (by omega) (by omega),by omega⟩
   have HW4:=iw (2*((j:Int)+1)*(2*((j:Int)+1)+1));have HTI:=ie (ti_step x j);have HB4:=ie hb4;clear hb4
   have HSI:Hid (si x j+ti x (j+1)=si x (j+1)):=ie rfl
   have HFB:=ie (ti_fits HXB.out (show j+1<=40 by omega))
   generalize hv:ti x (j+1)=T at *;have HV:=ie hv;clear hv;obtain⟨v,hv⟩:∃v,ti x j*x/SC=v:=⟨_,rfl⟩;obtain⟨u,hu⟩:∃u,v*x/SC=u:=⟨_,rfl⟩
   have HP1:Hid (prd [ti x j,x]=ti x j*x):=ie (by show 1*ti x j*x=_;rw[Int.one_mul])
   have HP2:Hid (prd [v,x]=v*x):=ie (by show 1*v*x=_;rw[Int.one_mul])
   have HD1:Hid ((ti x j*x).fdiv SC=v):=ie (by rw[Int.fdiv_eq_ediv_of_nonneg _ (by decide)];exact hv)
   have HD2:Hid ((v*x).fdiv SC=u):=ie (by rw[Int.fdiv_eq_ediv_of_nonneg _ (by decide)];exact hu)
   have HTJ:Hid (u.fdiv (2*((j:Int)+1)*(2*((j:Int)+1)+1))= -T):=ie (by have q:=HTI.out;rw[hv,hu]at q;exact q)
   clear HTI hv hu
   go_upto_region 10 with (fail)
   clear tlt;have ltX1:=X1.lt;have ltXR:=XR.lt;have ltX3:=X3.lt;have ltX5:=X5.lt;have ltX6:=X6.lt;have hszB:=HB.out.size;refine jk [0,1,2,3,4,5,6] [some 38,some 39,some 40,some 41,some 42,some 43,some 8,none] [[],[],[0,1],[2],[],[3,4],[],[]] 8 1 [Jo.Fact.eq (.agg #[.bool s6,.slice A6 n6 c6]),Jo.Fact.eq (.agg #[.bool s3,.slice A3 n3 c3]),Jo.Fact.wl 12 2 [ti x j,x],Jo.Fact.wn (ti x j*x) (25),Jo.Fact.eq (.agg #[.bool s9,.slice A9 n9 c9]),Jo.Fact.wn (v) (40),Jo.Fact.bo wr.heap.size #[.bool false,.slice none 0 0] 27,Jo.Fact.any] ?_ ?_
   ·iterate 2 (refine jm ?_ ?_;rotate_left)
    refine jm ?_ ?_
    ·rintro wj hJ _ rfl _ rfl K hK;simp only[Jo.z]at hK|-;go_simp;exact hK.out _ _ ⟨_,_,rfl,Wl.lit2 rfl (p6.b hJ).wr (p3.b hJ).wr (by omega) (by omega)⟩ (bel1 _ _)
    refine jm ?_ ?_
    ·rintro wj hJ _ ⟨A20,c20,rfl,h20⟩ K hK;simp only[Jo.z]at hK|-;go_simp;exact Jo.w1 (wMul h20 (by decide) HP1.out) hK.out
    refine jm ?_ ?_;rotate_left
    refine jm ?_ ?_
    ·rintro wj hJ _ ⟨s21,A21,n21,c21,rfl,p21,k21⟩ _ rfl K hK;simp only[Jo.z]at hK|-;go_simp;exact Jo.w1 (tDown p21.wr (p9.b hJ).wr (by omega) (by omega) (by decide) HD1.out) hK.out
    refine jm ?_ ?_
    ·rintro wj hJ K hK;simp only[Jo.z]at hK|-;go_simp;exact hK.out _ _ ⟨_,rfl,hJ.size,Bo.new _ _ _⟩ (bel1 _ _)
    exact jo
    all_goals (rintro wj hJ;(repeat rintro _ rfl);intro K hK;simp only[Jo.z]at hK|-;have xX6:=(X6.b hJ).cell;have xX1:=(X1.b hJ).cell;have xX3:=(X3.b hJ).cell;go_simp;exact hK.out _ _ rfl (br _ _))
   rintro wb hJ _ rfl _ rfl _ ⟨_,_,rfl,_⟩ _ ⟨s21,A21,n21,c21,rfl,p21,k21⟩ _ rfl _ ⟨s22,A22,n22,c22,rfl,p22,k22⟩ _ ⟨g8,rfl,hg8,X8⟩ -;simp only[Jo.z];replace X1:=X1.b hJ;replace XR:=XR.b hJ;replace X3:=X3.b hJ;replace X5:=X5.b hJ;replace X6:=X6.b hJ;replace p3:=p3.b hJ;replace p5:=p5.b hJ;replace p9:=p9.b hJ;replace HB:=Hqb HB hJ
   clear p21;have xX8:=X8.cell;have zX80:=X8.frozen
   refine jn 7 fun K hK=>?_
   go_simp;refine hK.out _ _ ?_;clear hK K xX8 zX80;generalize hS:(wb.setCell _ _).setCell _ _=wc at *;have SX:=StN.of2 X8 hS;replace X1:=X1.s SX;replace XR:=XR.s SX;replace X3:=X3.s SX;replace X5:=X5.s SX;replace X6:=X6.s SX;replace p3:=p3.s SX;replace p5:=p5.s SX
   replace p9:=p9.s SX;replace p22:=p22.s SX;replace HB:=Hqs HB SX (by omega);replace X8:=SX.box;clear SX hS;refine jd ?_
   go_upto_region 11 with (fail)
   have ltX1:=X1.lt;have ltXR:=XR.lt;have ltX3:=X3.lt;have ltX5:=X5.lt;have ltX6:=X6.lt;have ltX8:=X8.lt;have hszC:=HB.out.size;refine jk [0,1,2,3,4,5,6] [some 44,some 45,some 46,some 47,some 48,some 49,some 9,none] [[],[],[0,1],[2],[],[3,4],[],[]] 8 1 [Jo.Fact.eq (.agg #[.bool s22,.slice A22 n22 c22]),Jo.Fact.eq (.agg #[.bool s3,.slice A3 n3 c3]),Jo.Fact.wl 40 2 [v,x],Jo.Fact.wn (v*x) (81),Jo.Fact.eq (.agg #[.bool s9,.slice A9 n9 c9]),Jo.Fact.wn (u) (100),Jo.Fact.bo wc.heap.size #[.bool false,.slice none 0 0] 27,Jo.Fact.any] ?_ ?_
   ·iterate 2 (refine jm ?_ ?_;rotate_left)
    refine jm ?_ ?_
    ·rintro wj hJ _ rfl _ rfl K hK;simp only[Jo.z]at hK|-;go_simp;exact hK.out _ _ ⟨_,_,rfl,Wl.lit2 rfl (p22.b hJ).wr (p3.b hJ).wr (by omega) (by omega)⟩ (bel1 _ _)
    refine jm ?_ ?_
    ·rintro wj hJ _ ⟨A30,c30,rfl,h30⟩ K hK;simp only[Jo.z]at hK|-;go_simp;exact Jo.w1 (wMul h30 (by decide) HP2.out) hK.out
    refine jm ?_ ?_;rotate_left
    refine jm ?_ ?_
    ·rintro wj hJ _ ⟨s31,A31,n31,c31,rfl,p31,k31⟩ _ rfl K hK;simp only[Jo.z]at hK|-;go_simp;exact Jo.w1 (tDown p31.wr (p9.b hJ).wr (by omega) (by omega) (by decide) HD2.out) hK.out
    refine jm ?_ ?_
    ·rintro wj hJ K hK;simp only[Jo.z]at hK|-;go_simp;exact hK.out _ _ ⟨_,rfl,hJ.size,Bo.new _ _ _⟩ (bel1 _ _)
    exact jo
    all_goals (rintro wj hJ;(repeat rintro _ rfl);intro K hK;simp only[Jo.z]at hK|-;have xX8:=(X8.b hJ).cell;have xX1:=(X1.b hJ).cell;have xX3:=(X3.b hJ).cell;go_simp;exact hK.out _ _ rfl (br _ _))
   rintro wd hJ _ rfl _ rfl _ ⟨_,_,rfl,_⟩ _ ⟨s31,A31,n31,c31,rfl,p31,k31⟩ _ rfl _ ⟨s32,A32,n32,c32,rfl,p32,k32⟩ _ ⟨g9,rfl,hg9,X9⟩ -;simp only[Jo.z];replace X1:=X1.b hJ;replace XR:=XR.b hJ;replace X3:=X3.b hJ;replace X5:=X5.b hJ;replace X6:=X6.b hJ;replace p3:=p3.b hJ;replace p5:=p5.b hJ;replace p9:=p9.b hJ;replace HB:=Hqb HB hJ
   clear p31 p22 X8;have xX9:=X9.cell;have zX90:=X9.frozen
   refine jn 7 fun K hK=>?_
   go_simp;refine hK.out _ _ ?_;clear hK K xX9 zX90;generalize hS:(wd.setCell _ _).setCell _ _=we at *;have SX:=StN.of2 X9 hS;replace X1:=X1.s SX;replace XR:=XR.s SX;replace X3:=X3.s SX;replace X5:=X5.s SX;replace X6:=X6.s SX;replace p3:=p3.s SX;replace p5:=p5.s SX
   replace p9:=p9.s SX;replace p32:=p32.s SX;replace HB:=Hqs HB SX (by omega);replace X9:=SX.box;clear SX hS;refine jd ?_
   go_upto_region 12 with (fail)
   have ltX1:=X1.lt;have ltXR:=XR.lt;have ltX3:=X3.lt;have ltX5:=X5.lt;have ltX6:=X6.lt;have ltX9:=X9.lt;have hszE:=HB.out.size;refine jk [0,1,2,3,4,5,6,7,8,9] [some 50,some 51,some 52,some 53,some 54,some 55,some 56,some 57,some 58,some 59,none] [[],[],[1],[],[3],[4],[2,5],[6],[0,7],[8],[]] 11 1 [Jo.Fact.eq (.agg #[.bool s32,.slice A32 n32 c32]),Jo.Fact.eq (.int .i64 ((j:Int)+1)),Jo.Fact.eq (.int .i64 (2*((j:Int)+1))),Jo.Fact.eq (.int .i64 ((j:Int)+1)),Jo.Fact.eq (.int .i64 (2*((j:Int)+1))),Jo.Fact.eq (.int .i64 (2*((j:Int)+1)+1)),Jo.Fact.eq (.int .i64 (2*((j:Int)+1)*(2*((j:Int)+1)+1))),Jo.Fact.wn (2*((j:Int)+1)*(2*((j:Int)+1)+1)) (2),Jo.Fact.wn (-T) (106),Jo.Fact.wn (T) (106),Jo.Fact.any] ?_ ?_
   ·iterate 2 (refine jm ?_ ?_;rotate_left)
    refine jm ?_ ?_
    ·rintro wj hJ _ rfl K hK;simp only[Jo.z]at hK|-;have hw:=HW1.out;go_simp
     exact hK.out _ _ (by first | rfl | (show Value.int _ _=Value.int _ _;simp_all)) (br _ _)
    refine jm ?_ ?_;rotate_left
    refine jm ?_ ?_
    ·rintro wj hJ _ rfl K hK;simp only[Jo.z]at hK|-;have hw:=HW1.out;go_simp
     exact hK.out _ _ (by first | rfl | (show Value.int _ _=Value.int _ _;simp_all)) (br _ _)
    refine jm ?_ ?_
    ·rintro wj hJ _ rfl K hK;simp only[Jo.z]at hK|-;have hw:=HW2.out;have hw3:=HW3.out;go_simp
     exact hK.out _ _ (by first | rfl | (show Value.int _ _=Value.int _ _;simp_all)) (br _ _)
    refine jm ?_ ?_
    ·rintro wj hJ _ rfl _ rfl K hK;simp only[Jo.z]at hK|-;have hw:=HW4.out;go_simp
     exact hK.out _ _ (by first | rfl | (show Value.int _ _=Value.int _ _;simp_all)) (br _ _)
    refine jm ?_ ?_
    ·rintro wj hJ _ rfl K hK;simp only[Jo.z]at hK|-;go_simp;exact Jo.w1 (wFrom _ _ (Int.le_trans (by decide) HB4.out.1) (Int.le_trans HB4.out.2.1 (by decide))) hK.out
    refine jm ?_ ?_
    ·rintro wj hJ _ rfl _ ⟨s40,A40,n40,c40,rfl,p40,k40⟩ K hK;simp only[Jo.z]at hK|-;go_simp;exact Jo.w1 (tDown (p32.b hJ).wr p40.wr (by omega) (by omega) HB4.out.2.2 HTJ.out) hK.out
    refine jm ?_ ?_
    ·rintro wj hJ _ ⟨s41,A41,n41,c41,rfl,p41,k41⟩ K hK;simp only[Jo.z]at hK|-;go_simp;exact Jo.w1 (wNeg p41.wr (Int.neg_neg T)) hK.out
    exact jo
    all_goals (rintro wj hJ;(repeat rintro _ rfl);intro K hK;simp only[Jo.z]at hK|-;have xX9:=(X9.b hJ).cell;go_simp;exact hK.out _ _ rfl (br _ _))
   rintro wf hJ _ rfl _ rfl _ rfl _ rfl _ rfl _ rfl _ rfl _ ⟨s40,A40,n40,c40,rfl,p40,k40⟩ _ ⟨s41,A41,n41,c41,rfl,p41,k41⟩ _ ⟨s42,A42,n42,c42,rfl,p42,k42⟩ -;simp only[Jo.z];replace X1:=X1.b hJ;replace XR:=XR.b hJ;replace X3:=X3.b hJ;replace X5:=X5.b hJ;replace X6:=X6.b hJ;replace p3:=p3.b hJ;replace p5:=p5.b hJ;replace p9:=p9.b hJ
   replace HB:=Hqb HB hJ;clear p32 p40 p41 p6 X9;have few42:=p42.fits HFB.out;have xX6:=X6.cell;have zX60:=X6.frozen
   refine jn 10 fun K hK=>?_
   go_simp;refine hK.out _ _ ?_;clear hK K xX6 zX60;generalize hS:(wf.setCell _ _).setCell _ _=wg at *;have SX:=StN.of2 X6 hS;replace X1:=X1.s SX;replace XR:=XR.s SX;replace X3:=X3.s SX;replace X5:=X5.s SX;replace p3:=p3.s SX;replace p5:=p5.s SX;replace p9:=p9.s SX
   replace p42:=p42.s SX;replace HB:=Hqs HB SX (by omega);replace X6:=SX.box;clear SX hS;refine jd ?_
   go_upto_region 13 with (fail)
   have xX5:=X5.cell;have xX6:=X6.cell
   go_wp2_with fail
   refine(wAdd p5.wr p42.wr (by omega) (by omega) HSI.out).mono ?_;rintro ee wh ⟨s43,A43,n43,c43,rfl,p43,k43,B⟩;clear xX5 xX6;replace X1:=X1.b B;replace XR:=XR.b B;replace X3:=X3.b B;replace X5:=X5.b B;replace X6:=X6.b B;replace p3:=p3.b B;replace p5:=p5.b B;replace p9:=p9.b B;replace p42:=p42.b B;replace HB:=Hqb HB B
   clear B;clear p5;have xX5:=X5.cell;have zX50:=X5.frozen
   go_upto_region 9 with (fail)
   clear xX5 zX50;generalize hS:(wh.setCell _ _).setCell _ _=wi at *;have SX:=StN.of2 X5 hS;replace X1:=X1.s SX;replace XR:=XR.s SX;replace X3:=X3.s SX;replace X6:=X6.s SX;replace p3:=p3.s SX;replace p9:=p9.s SX;replace p42:=p42.s SX;replace p43:=p43.s SX
   replace HB:=Hqs HB SX (by omega);replace X5:=SX.box;clear SX hS;have HW5:=iw ((j:Int)+1+1);have HW6:=jw ((j:Int)+1+1);have hw5:=HW5.out;have hw6:=HW6.out;have hT:=HV.out;subst hT;go_wp2;clear hw5 hw6
   go_roundw
   case rel=>exact ⟨j+1,by go_num,_,_,_,_,_,_,_,_,X1,XR,X3,X5,X6,p3,p9,p42,p43,by omega,by omega,HB.out⟩
   case measure=>simp [intOf];omega
  ·obtain rfl:j=40:=by omega
   have tlt:decide (((40:Nat):Int)+1<=40)=false:=by decide
   clear p3 p6 p9;have xXR:=XR.cell;have zXR0:=XR.frozen;have xX5:=X5.cell;go_wp2;clear xXR zXR0 xX5;have SX:=StN.t2 XR s5 A5 n5 c5;replace p5:=p5.s SX;exact bq (v:= .agg #[.bool s5,.slice A5 n5 c5]) (by simp[results,Tryz.results13,go_sem,SX.box.cell]) rfl ⟨_,_,_,_,rfl,p5,by omega,(SX.below HB.out (by omega))⟩
theorem tSer{w:World}{A:Option Addr}{n c:Nat}{s:Bool}{x r:Int}(h:Wr w s A n c x)(hn:n<=100000)(hr:serI x=r):Calls Tryz.prog 13 #[.agg #[.bool s,.slice A n c]] w (W1 w 300000 r):=by
 obtain⟨a,h,hx⟩:=h
 unfold serI at hr
 by_cases h1:(4*SC) < x
 ·rw[if_pos (by omega)]at hr;subst hr;exact tser_hi h hx hn h1
 ·by_cases h2:x < -(4*SC)
  ·rw[if_pos (by omega)]at hr;subst hr;exact tser_lo h hx hn h1 h2
  ·rw[if_neg (by omega)]at hr;subst hr;exact tser_near h hx hn h1 h2
end Go.Proofs.YtomikokonmikgaaGreatDoor
namespace Go.Proofs.YtomikokonmikgaaGreatDoor
open Go Go.RowKit
set_option linter.unusedVariables false
theorem core{r:Int}{z W:Rat}(r1: -(8/5)*SR<=(r:Rat))(r2:(r:Rat)<=8/5*SR)(h1:(r:Rat)<=z)(h2:z-r<=W)(hW:W<=2^60):
  -(W+101)<=sinT (z/SR)*SR-((si r 40:Int):Rat)/\sinT (z/SR)*SR-((si r 40:Int):Rat)<=W+101:=by
 have sp:=sr_pos;have sn:=Rat.ne_of_gt sp
 have ey:(r:Rat) /SR*SR=r:=Rat.div_mul_cancel sn
 have ez:z/SR*SR=z:=Rat.div_mul_cancel sn
 obtain⟨y,hy⟩:∃y,(r:Rat) /SR=y:=⟨_,rfl⟩;obtain⟨f,hf⟩:∃f,z/SR=f:=⟨_,rfl⟩;rw[hy]at ey;rw[hf]at ez|-
 have y1: -(8/5)<=y:=Rat.le_of_mul_le_mul_right (c:=SR) (by rw[ey];exact r1) sp
 have y2:y<=8/5:=Rat.le_of_mul_le_mul_right (c:=SR) (by rw[ey];exact r2) sp
 obtain⟨d,hd⟩:∃d,f-y=d:=⟨_,rfl⟩
 have eg:d*SR=z-r:=by rw[<-hd];grind
 have d0:0<=d:=Rat.le_of_mul_le_mul_right (c:=SR) (by rw[eg];grind) sp
 have big:(2^60:Rat)*4000<=SR:=by decide +kernel
 have big2:(100*2^60*2^60:Rat)*4<=SR:=by decide +kernel
 have d1:d<=1/4:=Rat.le_of_mul_le_mul_right (c:=SR) (by rw[eg];grind) sp
 have e1:y+d=f:=by grind
 obtain⟨n1,n2⟩:=sin_near (x:=y) (d:=d) (by grind) (by grind) (by grind) (by grind) d0;obtain⟨s1,s2⟩:=ser_sin ey y1 y2;rw[e1]at n1 n2;obtain⟨ε,hε⟩:∃ε,(1/2^200:Rat)=ε:=⟨_,rfl⟩
 have ε1:ε*2^60<=1/4:=by rw[<-hε];decide +kernel
 have ε0:0<=ε:=by rw[<-hε];decide +kernel
 rw[hε]at n1 n2
 have g0:0<=z-r:=by grind
 have g1:z-r<=2^60:=by grind
 have a1:(z-r)*ε<=1/4:=by
  have:=Rat.mul_le_mul_of_nonneg_right g1 ε0
  grind
 have a2:100*2^60*d<=1/4:=Rat.le_of_mul_le_mul_right (c:=SR) (by
  have e:100*2^60*d*SR=100*2^60*(z-r):=by rw[<-eg];grind
  rw[e]
  grind) sp
 have a3:100*(z-r)*d<=1/4:=by
  have:=Rat.mul_le_mul_of_nonneg_right g1 d0
  grind
 have b1:(sinT f-sinT y)*SR<=(d*(1+ε)+100*(d*d))*SR:=Rat.mul_le_mul_of_nonneg_right n2 (Rat.le_of_lt sp)
 have b2: -(d*(1+ε)+100*(d*d))*SR<=(sinT f-sinT y)*SR:=Rat.mul_le_mul_of_nonneg_right n1 (Rat.le_of_lt sp)
 have c:(d*(1+ε)+100*(d*d))*SR=(z-r)+(z-r)*ε+100*(z-r)*d:=by rw[<-eg];grind
 rw[Rat.neg_mul,c]at b2;rw[c]at b1
 constructor <;> grind
theorem half_turn:(PLo:Rat)<=2*qt*SR/\2*qt*SR<=(PHi:Rat):=by decide +kernel
def qI (x:Int):Int:=(2*x+PLo) / (2*PLo)
def rI (x:Int):Int:=if qI x < 0 then x-qI x*PLo else x-qI x*PHi
def tI (x y:Int):Int:=if qI x < 0 then y-qI x*PHi else y-qI x*PLo
theorem qI_bd (x:Int): -PLo<=2*(x-qI x*PLo)/\2*(x-qI x*PLo) < PLo:=by
 have h1:=Int.ediv_mul_le (2*x+PLo) (show (2*PLo:Int)≠0 by decide)
 have h2:=Int.lt_ediv_add_one_mul_self (2*x+PLo) (show (0:Int) < 2*PLo by decide)
 unfold qI
 generalize (2*x+PLo) / (2*PLo)=q at *
 unfold PLo at *
 omega
theorem turns{x y:Int}{z:Rat}(h1:(x:Rat)<=z)(h2:z<=(y:Rat)):((rI x:Int):Rat)<=z-(qI x:Rat)*(2*qt*SR)/\z-(qI x:Rat)*(2*qt*SR)<=((tI x y:Int):Rat):=by
 obtain⟨p1,p2⟩:=half_turn
 unfold rI tI
 generalize qI x=q;generalize 2*qt*SR=p at *
 by_cases c:q < 0
 ·rw[if_pos c,if_pos c,Rat.intCast_sub,Rat.intCast_sub,Rat.intCast_mul,Rat.intCast_mul]
  have hq:(q:Rat)<=0:=Rat.intCast_le_intCast.2 (Int.le_of_lt c)
  have k1:=Rat.mul_nonneg (a:= -(q:Rat)) (b:=p-(PLo:Rat)) (by grind) (by grind);have k2:=Rat.mul_nonneg (a:= -(q:Rat)) (b:=(PHi:Rat)-p) (by grind) (by grind)
  constructor <;> grind
 ·rw[if_neg c,if_neg c,Rat.intCast_sub,Rat.intCast_sub,Rat.intCast_mul,Rat.intCast_mul]
  have hq:(0:Rat)<=(q:Rat):=Rat.intCast_le_intCast.2 (show 0<=q by omega)
  have k1:=Rat.mul_nonneg (a:=(q:Rat)) (b:=p-(PLo:Rat)) (by grind) (by grind);have k2:=Rat.mul_nonneg (a:=(q:Rat)) (b:=(PHi:Rat)-p) (by grind) (by grind)
  constructor <;> grind
end Go.Proofs.YtomikokonmikgaaGreatDoor
namespace Go.Proofs.YtomikokonmikgaaGreatDoor
set_option maxHeartbeats 16000000
open Go.RowKit
set_option linter.unusedVariables false
set_option linter.unusedSimpArgs false
set_option maxRecDepth 100000
def btL (x y:Int):Int:=if qI x%2=0 then serI (rI x)-(tI x y-rI x+200)else -(serI (rI x)+(tI x y-rI x+200))
def btH (x y:Int):Int:=if qI x%2=0 then serI (rI x)+(tI x y-rI x+200)else -(serI (rI x)-(tI x y-rI x+200))
theorem bnd_fits (a:Int):(bndI a (-SC) SC).natAbs < 4294967296^7:=by
 have e:(4294967296:Nat)^7=26959946667150639794667015087019630673637144422540572481103610249216:=by decide
 rw[e]
 unfold bndI SC
 split
 ·decide
 ·split
  ·decide
  ·omega
def meetsB (z x y:Int):Bool:=if z < 0 then decide (PHi*z<=y) && decide (x<=PLo*z)else decide (PLo*z<=y) && decide (x<=PHi*z)
theorem cmp_le12{x y c:Int}(h:cmpI x y=c):decide (c<=0)=decide (x<=y):=by
 rw[<-h]
 rcases cmpI_tri x y with⟨a,b⟩ | ⟨a,b⟩ | ⟨a,b⟩ <;> rw[b]
 ·rw[dt (show x<=y by omega)];rfl
 ·rw[dt (show x<=y by omega)];rfl
 ·rw[df (show ¬x<=y by omega)];rfl
def PSp (w:World)(K:Nat)(x y:Int)(e:Ending)(w':World):Prop:=∃s1 A1 n1 c1 s2 A2 n2 c2,e= .returned (.agg #[.bool s1,.slice A1 n1 c1,.bool s2,.slice A2 n2 c2])/\Wn w' s1 A1 n1 c1 x/\Wn w' s2 A2 n2 c2 y/\n1<=K/\n2<=K/\Below w.heap.size w w'
def Jo.Fact.sp (x y:Int)(K:Nat):Jo.Fact:=⟨fun v w=>∃s1 A1 n1 c1 s2 A2 n2 c2,v= .agg #[.bool s1,.slice A1 n1 c1,.bool s2,.slice A2 n2 c2]/\Wn w s1 A1 n1 c1 x/\Wn w s2 A2 n2 c2 y/\n1<=K/\n2<=K,fun v w w' h b=>by
 obtain⟨s1,A1,n1,c1,s2,A2,n2,c2,e,p,q,k,l⟩:=h;exact⟨s1,A1,n1,c1,s2,A2,n2,c2,e,p.below b,q.below b,k,l⟩⟩
theorem tPlus{w:World}{A:Option Addr}{n c:Nat}{s:Bool}{x:Int}{B:Option Addr}{m d:Nat}{t:Bool}{y:Int}{A':Option Addr}{n' c':Nat}{s':Bool}{x':Int}{B':Option Addr}{m' d':Nat}{t':Bool}{y':Int}{Z:Nat}{u v:Int}(h:Wn w s A n c x)(k:Wn w t B m d y)(h':Wn w s' A' n' c' x')(k':Wn w t' B' m' d' y')(hn:n<=1000000)(hm:m<=1000000)(hn':n'<=1000000)(hm':m'<=1000000)(hK1:n+n'+1<=Z)(hK2:m+m'+1<=Z)(hu:x+x'=u)(hv:y+y'=v):Calls Tryz.prog 139 #[.agg #[.bool s,.slice A n c,.bool t,.slice B m d],.agg #[.bool s',.slice A' n' c',.bool t',.slice B' m' d']] w (PSp w Z u v):=by
 have HU:=ie hu;have HV:=ie hv;clear hu hv
 go_enter Tryz.func139,Tryz.ntmps139
 go_upto_region 1 with (fail)
 generalize hW1:((w.alloc _).alloc _).alloc _=w1 at *;obtain⟨X2,X3,XR,HB⟩:=Bo.en3 hW1;replace h:=h.below HB.out;replace k:=k.below HB.out
 replace h':=h'.below HB.out
 replace k':=k'.below HB.out
 clear hW1;have ltX2:=X2.lt;have ltX3:=X3.lt;have ltXR:=XR.lt;refine jk [0,1,2,3,4,5,6,7,8,9,10] [some 5,some 6,some 7,some 8,some 9,some 10,some 11,some 12,some 13,some 14,some 15,none] [[],[0],[],[2],[1,3],[],[5],[],[7],[6,8],[4,9],[]] 12 1 [Jo.qp w.heap.size 0,Jo.Fact.eq (.agg #[.bool s,.slice A n c]),Jo.qp (w.heap.size+1) 0,Jo.Fact.eq (.agg #[.bool s',.slice A' n' c']),Jo.Fact.wn (u) (Z),Jo.qp w.heap.size 2,Jo.Fact.eq (.agg #[.bool t,.slice B m d]),Jo.qp (w.heap.size+1) 2,Jo.Fact.eq (.agg #[.bool t',.slice B' m' d']),Jo.Fact.wn (v) (Z),Jo.Fact.sp (u) (v) (Z),Jo.Fact.any] ?_ ?_
 ·iterate 4 (refine jm ?_ ?_;rotate_left)
  refine jm ?_ ?_
  ·rintro wj hJ _ rfl _ rfl K hK;simp only[Jo.z]at hK|-;go_simp;exact Jo.w1 (wAdd (h.b hJ).wr (h'.b hJ).wr (by omega) (by omega) HU.out) hK.out
  refine jm ?_ ?_;rotate_left
  refine jm ?_ ?_
  ·rintro wj hJ _ rfl K hK;simp only[Jo.z]at hK|-;have xX22:=(X2.b hJ).a 2 (.bool t) rfl;have xX23:=(X2.b hJ).a 3 (.slice B m d) rfl;go_simp;exact hK.out _ _ rfl (br _ _)
  refine jm ?_ ?_;rotate_left
  refine jm ?_ ?_
  ·rintro wj hJ _ rfl K hK;simp only[Jo.z]at hK|-;have xX32:=(X3.b hJ).a 2 (.bool t') rfl;have xX33:=(X3.b hJ).a 3 (.slice B' m' d') rfl;go_simp;exact hK.out _ _ rfl (br _ _)
  refine jm ?_ ?_
  ·rintro wj hJ _ rfl _ rfl K hK;simp only[Jo.z]at hK|-;go_simp;exact Jo.w1 (wAdd (k.b hJ).wr (k'.b hJ).wr (by omega) (by omega) HV.out) hK.out
  refine jm ?_ ?_
  ·rintro wj hJ _ ⟨s20,A20,n20,c20,rfl,p20,k20⟩ _ ⟨s21,A21,n21,c21,rfl,p21,k21⟩ K hK;simp only[Jo.z]at hK|-;go_simp;exact hK.out _ _ ⟨_,_,_,_,_,_,_,_,rfl,p20,p21,by omega,by omega⟩ (br _ _)
  exact jo
  all_goals (rintro wj hJ;(repeat rintro _ rfl);intro K hK;simp only[Jo.z]at hK|-;have xX2:=(X2.b hJ).cell;have xX3:=(X3.b hJ).cell;go_simp;exact hK.out _ _ rfl (br _ _))
 rintro w2 hJ _ _ _ rfl _ _ _ rfl _ ⟨s20,A20,n20,c20,rfl,p20,k20⟩ _ _ _ rfl _ _ _ rfl _ ⟨s21,A21,n21,c21,rfl,p21,k21⟩ _ ⟨s22,A22,n22,c22,s23,A23,n23,c23,rfl,p22,p23,k22,k23⟩ -;simp only[Jo.z];replace XR:=XR.b hJ;replace HB:=Hqb HB hJ;clear h k h' k' p20 p21;have xXR:=XR.cell;have zXR0:=XR.frozen
 refine jn 11 fun K hK=>?_
 go_simp;refine hK.out _ _ ?_;clear hK K xXR zXR0;have SX:=StN.mk4 XR (.bool s22) (.slice A22 n22 c22) (.bool s23) (.slice A23 n23 c23);replace p22:=p22.s SX;replace p23:=p23.s SX;refine jd ?_;go_wp2;exact bq (v:= .agg #[.bool s22,.slice A22 n22 c22,.bool s23,.slice A23 n23 c23]) (by simp[results,Tryz.results139,go_sem,SX.box.cell]) rfl ⟨s22,A22,n22,c22,s23,A23,n23,c23,rfl,p22,p23,k22,k23,(SX.below HB.out (by omega))⟩
theorem tMinus{w:World}{A:Option Addr}{n c:Nat}{s:Bool}{x:Int}{B:Option Addr}{m d:Nat}{t:Bool}{y:Int}{A':Option Addr}{n' c':Nat}{s':Bool}{x':Int}{B':Option Addr}{m' d':Nat}{t':Bool}{y':Int}{Z:Nat}{u v:Int}(h:Wn w s A n c x)(k:Wn w t B m d y)(h':Wn w s' A' n' c' x')(k':Wn w t' B' m' d' y')(hn:n<=1000000)(hm:m<=1000000)(hn':n'<=1000000)(hm':m'<=1000000)(hK1:n+m'+1<=Z)(hK2:m+n'+1<=Z)(hu:x-y'=u)(hv:y-x'=v):Calls Tryz.prog 197 #[.agg #[.bool s,.slice A n c,.bool t,.slice B m d],.agg #[.bool s',.slice A' n' c',.bool t',.slice B' m' d']] w (PSp w Z u v):=by
 have HU:=ie hu;have HV:=ie hv;clear hu hv
 go_enter Tryz.func197,Tryz.ntmps197
 go_upto_region 1 with (fail)
 generalize hW1:((w.alloc _).alloc _).alloc _=w1 at *;obtain⟨X2,X3,XR,HB⟩:=Bo.en3 hW1;replace h:=h.below HB.out;replace k:=k.below HB.out
 replace h':=h'.below HB.out
 replace k':=k'.below HB.out
 clear hW1;have ltX2:=X2.lt;have ltX3:=X3.lt;have ltXR:=XR.lt;refine jk [0,1,2,3,4,5,6,7,8,9,10] [some 5,some 6,some 7,some 8,some 9,some 10,some 11,some 12,some 13,some 14,some 15,none] [[],[0],[],[2],[1,3],[],[5],[],[7],[6,8],[4,9],[]] 12 1 [Jo.qp w.heap.size 0,Jo.Fact.eq (.agg #[.bool s,.slice A n c]),Jo.qp (w.heap.size+1) 2,Jo.Fact.eq (.agg #[.bool t',.slice B' m' d']),Jo.Fact.wn (u) (Z),Jo.qp w.heap.size 2,Jo.Fact.eq (.agg #[.bool t,.slice B m d]),Jo.qp (w.heap.size+1) 0,Jo.Fact.eq (.agg #[.bool s',.slice A' n' c']),Jo.Fact.wn (v) (Z),Jo.Fact.sp (u) (v) (Z),Jo.Fact.any] ?_ ?_
 ·iterate 3 (refine jm ?_ ?_;rotate_left)
  refine jm ?_ ?_
  ·rintro wj hJ _ rfl K hK;simp only[Jo.z]at hK|-;have xX32:=(X3.b hJ).a 2 (.bool t') rfl;have xX33:=(X3.b hJ).a 3 (.slice B' m' d') rfl;go_simp;exact hK.out _ _ rfl (br _ _)
  refine jm ?_ ?_
  ·rintro wj hJ _ rfl _ rfl K hK;simp only[Jo.z]at hK|-;go_simp;exact Jo.w1 (wSub (h.b hJ).wr (k'.b hJ).wr (by omega) (by omega) HU.out) hK.out
  refine jm ?_ ?_;rotate_left
  refine jm ?_ ?_
  ·rintro wj hJ _ rfl K hK;simp only[Jo.z]at hK|-;have xX22:=(X2.b hJ).a 2 (.bool t) rfl;have xX23:=(X2.b hJ).a 3 (.slice B m d) rfl;go_simp;exact hK.out _ _ rfl (br _ _)
  iterate 2 (refine jm ?_ ?_;rotate_left)
  refine jm ?_ ?_
  ·rintro wj hJ _ rfl _ rfl K hK;simp only[Jo.z]at hK|-;go_simp;exact Jo.w1 (wSub (k.b hJ).wr (h'.b hJ).wr (by omega) (by omega) HV.out) hK.out
  refine jm ?_ ?_
  ·rintro wj hJ _ ⟨s20,A20,n20,c20,rfl,p20,k20⟩ _ ⟨s21,A21,n21,c21,rfl,p21,k21⟩ K hK;simp only[Jo.z]at hK|-;go_simp;exact hK.out _ _ ⟨_,_,_,_,_,_,_,_,rfl,p20,p21,by omega,by omega⟩ (br _ _)
  exact jo
  all_goals (rintro wj hJ;(repeat rintro _ rfl);intro K hK;simp only[Jo.z]at hK|-;have xX2:=(X2.b hJ).cell;have xX3:=(X3.b hJ).cell;go_simp;exact hK.out _ _ rfl (br _ _))
 rintro w2 hJ _ _ _ rfl _ _ _ rfl _ ⟨s20,A20,n20,c20,rfl,p20,k20⟩ _ _ _ rfl _ _ _ rfl _ ⟨s21,A21,n21,c21,rfl,p21,k21⟩ _ ⟨s22,A22,n22,c22,s23,A23,n23,c23,rfl,p22,p23,k22,k23⟩ -;simp only[Jo.z];replace XR:=XR.b hJ;replace HB:=Hqb HB hJ;clear h k h' k' p20 p21;have xXR:=XR.cell;have zXR0:=XR.frozen
 refine jn 11 fun K hK=>?_
 go_simp;refine hK.out _ _ ?_;clear hK K xXR zXR0;have SX:=StN.mk4 XR (.bool s22) (.slice A22 n22 c22) (.bool s23) (.slice A23 n23 c23);replace p22:=p22.s SX;replace p23:=p23.s SX;refine jd ?_;go_wp2;exact bq (v:= .agg #[.bool s22,.slice A22 n22 c22,.bool s23,.slice A23 n23 c23]) (by simp[results,Tryz.results197,go_sem,SX.box.cell]) rfl ⟨s22,A22,n22,c22,s23,A23,n23,c23,rfl,p22,p23,k22,k23,(SX.below HB.out (by omega))⟩
theorem tOpp{w:World}{A:Option Addr}{n c:Nat}{s:Bool}{x:Int}{B:Option Addr}{m d:Nat}{t:Bool}{y:Int}{Z:Nat}{u v:Int}(h:Wn w s A n c x)(k:Wn w t B m d y)(hn:n<=Z)(hm:m<=Z)(hu: -y=u)(hv: -x=v):Calls Tryz.prog 199 #[.agg #[.bool s,.slice A n c,.bool t,.slice B m d]] w (PSp w Z u v):=by
 have HU:=ie hu;have HV:=ie hv;clear hu hv
 go_enter Tryz.func199,Tryz.ntmps199
 go_upto_region 1 with (fail)
 generalize hW1:(w.alloc _).alloc _=w1 at *;obtain⟨X1,XR,HB⟩:=Bo.en2 hW1;replace h:=h.below HB.out;replace k:=k.below HB.out;clear hW1;have ltX1:=X1.lt;have ltXR:=XR.lt;refine jk [0,1,2,3,4,5,6] [some 3,some 4,some 5,some 6,some 7,some 8,some 9,none] [[],[0],[1],[],[3],[4],[2,5],[]] 8 1 [Jo.qp w.heap.size 2,Jo.Fact.eq (.agg #[.bool t,.slice B m d]),Jo.Fact.wn (u) (Z),Jo.qp w.heap.size 0,Jo.Fact.eq (.agg #[.bool s,.slice A n c]),Jo.Fact.wn (v) (Z),Jo.Fact.sp (u) (v) (Z),Jo.Fact.any] ?_ ?_
 ·refine jm ?_ ?_;rotate_left
  refine jm ?_ ?_
  ·rintro wj hJ _ rfl K hK;simp only[Jo.z]at hK|-;have xX12:=(X1.b hJ).a 2 (.bool t) rfl;have xX13:=(X1.b hJ).a 3 (.slice B m d) rfl;go_simp;exact hK.out _ _ rfl (br _ _)
  refine jm ?_ ?_
  ·rintro wj hJ _ rfl K hK;simp only[Jo.z]at hK|-;go_simp;exact Jo.w1 (wNeg (k.b hJ).wr HU.out) hK.out
  iterate 2 (refine jm ?_ ?_;rotate_left)
  refine jm ?_ ?_
  ·rintro wj hJ _ rfl K hK;simp only[Jo.z]at hK|-;go_simp;exact Jo.w1 (wNeg (h.b hJ).wr HV.out) hK.out
  refine jm ?_ ?_
  ·rintro wj hJ _ ⟨s20,A20,n20,c20,rfl,p20,k20⟩ _ ⟨s21,A21,n21,c21,rfl,p21,k21⟩ K hK;simp only[Jo.z]at hK|-;go_simp;exact hK.out _ _ ⟨_,_,_,_,_,_,_,_,rfl,p20,p21,by omega,by omega⟩ (br _ _)
  exact jo
  all_goals (rintro wj hJ;(repeat rintro _ rfl);intro K hK;simp only[Jo.z]at hK|-;have xX1:=(X1.b hJ).cell;go_simp;exact hK.out _ _ rfl (br _ _))
 rintro w2 hJ _ _ _ rfl _ ⟨s20,A20,n20,c20,rfl,p20,k20⟩ _ _ _ rfl _ ⟨s21,A21,n21,c21,rfl,p21,k21⟩ _ ⟨s22,A22,n22,c22,s23,A23,n23,c23,rfl,p22,p23,k22,k23⟩ -;simp only[Jo.z];replace XR:=XR.b hJ;replace HB:=Hqb HB hJ;clear h k p20 p21;have xXR:=XR.cell;have zXR0:=XR.frozen
 refine jn 7 fun K hK=>?_
 go_simp;refine hK.out _ _ ?_;clear hK K xXR zXR0;have SX:=StN.mk4 XR (.bool s22) (.slice A22 n22 c22) (.bool s23) (.slice A23 n23 c23);replace p22:=p22.s SX;replace p23:=p23.s SX;refine jd ?_;go_wp2;exact bq (v:= .agg #[.bool s22,.slice A22 n22 c22,.bool s23,.slice A23 n23 c23]) (by simp[results,Tryz.results199,go_sem,SX.box.cell]) rfl ⟨s22,A22,n22,c22,s23,A23,n23,c23,rfl,p22,p23,k22,k23,(SX.below HB.out (by omega))⟩
theorem prd_two{z x:Int}:prd [z,x]=z*x:=by
 show 1*z*x=_
 rw[Int.one_mul]
theorem tTimes{w:World}{A:Option Addr}{n c:Nat}{s:Bool}{x:Int}{B:Option Addr}{m d:Nat}{t:Bool}{y:Int}{C:Option Addr}{l f:Nat}{q:Bool}{z:Int}{L Z:Nat}{u v:Int}(h:Wn w s A n c x)(k:Wn w t B m d y)(g:Wn w q C l f z)(hn:n<=L)(hm:m<=L)(hl:l<=L)(hL:L<=1000000)(hK:1+2*L<=Z)(hu:(if z < 0 then z*y else z*x)=u)(hv:(if z < 0 then z*x else z*y)=v):Calls Tryz.prog 147 #[.agg #[.bool s,.slice A n c,.bool t,.slice B m d],.agg #[.bool q,.slice C l f]] w (PSp w Z u v):=by
 obtain⟨σ,hσ⟩:∃σ,cmpI z 0=σ:=⟨_,rfl⟩;have e1:=(cmp_lt12 hσ).1;have HU:=ie hu;have HV:=ie hv;have HS:=ie hσ;have E1:=ie e1;clear hu hv hσ e1
 go_enter Tryz.func147,Tryz.ntmps147
 go_upto_region 1 with (fail)
 generalize hW1:((w.alloc _).alloc _).alloc _=w1 at *;obtain⟨X2,X3,XR,HB⟩:=Bo.en3 hW1;replace h:=h.below HB.out;replace k:=k.below HB.out;replace g:=g.below HB.out;clear hW1;have ltX2:=X2.lt;have ltX3:=X3.lt;have ltXR:=XR.lt;have hszp:=HB.out.size
 refine Jo.region_twin (T:=[0,1,2,3,4,5,6,7,8,9,10,11]) (ds:=[some 7,some 8,some 9,some 10,some 11,some 12,some 13,some 14,some 15,some 16,some 5,some 6,none,none]) (ls:=[[],[],[1],[0,2],[3],[],[],[6],[5,7],[8],[],[],[],[]]) (k:=14) (L:=[(some 7,0),(some 8,1),(some 9,2),(some 10,3),(some 11,4),(some 12,5),(some 13,6),(some 14,7),(some 15,8),(some 16,9),(some 5,10),(some 6,11)]) (fuel:=2) (w1:=w1) (p:=10) (q:=11) (old:= #[.bool false,.slice none 0 0]) (R:=27)
  (F:=[Jo.Fact.eq (.agg #[.bool q,.slice C l f]),Jo.qp w.heap.size 0,Jo.Fact.eq (.agg #[.bool s,.slice A n c]),Jo.Fact.wl L 2 [z,x],Jo.Fact.wn (z*x) (Z),Jo.Fact.eq (.agg #[.bool q,.slice C l f]),Jo.qp w.heap.size 2,Jo.Fact.eq (.agg #[.bool t,.slice B m d]),Jo.Fact.wl L 2 [z,y],Jo.Fact.wn (z*y) (Z),Jo.Fact.any,Jo.Fact.any,Jo.Fact.any,Jo.Fact.any])
  (by decide) (by decide) (by kernel_rfl) (by kernel_rfl) (by decide) rfl rfl ?_ (fun vs w2 hJ hd hpq=>?_)
 ·refine Jo.tcons (i:=0) (o:=⟨some 7,_,_,_,_,_⟩) (di:=some 7) (L:=[]) (f:=Jo.Fact.eq (.agg #[.bool q,.slice C l f])) (by decide) (by decide) rfl rfl rfl rfl (fun vs wj hJ hd K hK=>?_) ?_
  ·clear hd;simp only[Jo.putl,Jo.ze,Act.put,Jo.za,Jo.zb,Jo.zc]at hK|-
   have xX30:World.cell? wj ⟨w.heap.size+1,0,none⟩=some (.bool q):=(X3.b hJ).cell 0
   have xX31:World.cell? wj ⟨w.heap.size+1,1,none⟩=some (.slice C l f):=(X3.b hJ).cell 1
   go_simp;exact hK.out _ _ rfl (br _ _)
  refine Jo.tcons (i:=1) (o:=⟨some 8,_,_,_,_,_⟩) (di:=some 8) (L:=[]) (f:=Jo.qp w.heap.size 0) (by decide) (by decide) rfl rfl rfl rfl (fun vs wj hJ hd K hK=>?_) ?_
  ·clear hd;simp only[Jo.putl,Jo.ze,Act.put,Jo.za,Jo.zb,Jo.zc]at hK|-;go_simp;exact hK.out _ _ rfl (br _ _)
  refine Jo.tcons (i:=2) (o:=⟨some 9,_,_,_,_,_⟩) (di:=some 9) (L:=[(some 8,1)]) (f:=Jo.Fact.eq (.agg #[.bool s,.slice A n c])) (by decide) (by decide) rfl rfl rfl rfl (fun vs wj hJ hd K hK=>?_) ?_
  ·have d1:(Jo.qp w.heap.size 0).P (vs 1) wj:=hd 1 (by decide)
   clear hd;simp only[Jo.putl,Jo.zd,Jo.ze,Act.put,Jo.za,Jo.zb,Jo.zc]at hK|-;generalize vs 1=u1 at hK d1|-
   replace d1:u1=_:=d1
   subst d1
   have xX20:World.cell? wj ⟨w.heap.size,0,none⟩=some (.bool s):=(X2.b hJ).cell 0
   have xX21:World.cell? wj ⟨w.heap.size,1,none⟩=some (.slice A n c):=(X2.b hJ).cell 1
   go_simp;exact hK.out _ _ rfl (br _ _)
  refine Jo.tcons (i:=3) (o:=⟨some 10,_,_,_,_,_⟩) (di:=some 10) (L:=[(some 7,0),(some 9,2)]) (f:=Jo.Fact.wl L 2 [z,x]) (by decide) (by decide) rfl rfl rfl rfl (fun vs wj hJ hd K hK=>?_) ?_
  ·have d0:(Jo.Fact.eq (.agg #[.bool q,.slice C l f])).P (vs 0) wj:=hd 0 (by decide)
   have d2:(Jo.Fact.eq (.agg #[.bool s,.slice A n c])).P (vs 2) wj:=hd 2 (by decide)
   simp only[Jo.putl,Jo.zd,Jo.ze,Act.put,Jo.za,Jo.zb,Jo.zc]at hK|-;clear hd;generalize vs 0=u0 at hK d0|-;generalize vs 2=u2 at hK d2|-
   replace d0:u0=_:=d0
   subst d0
   replace d2:u2=_:=d2
   subst d2;go_simp;exact hK.out _ _ ⟨_,_,rfl,Wl.lit2 rfl (g.b hJ).wr (h.b hJ).wr (by omega) (by omega)⟩ (bel1 _ _)
  refine Jo.tcons (i:=4) (o:=⟨some 11,_,_,_,_,_⟩) (di:=some 11) (L:=[(some 10,3)]) (f:=Jo.Fact.wn (z*x) (Z)) (by decide) (by decide) rfl rfl rfl rfl (fun vs wj hJ hd K hK=>?_) ?_
  ·have d3:(Jo.Fact.wl L 2 [z,x]).P (vs 3) wj:=hd 3 (by decide)
   clear hd;simp only[Jo.putl,Jo.zd,Jo.ze,Act.put,Jo.za,Jo.zb,Jo.zc]at hK|-;generalize vs 3=u3 at hK d3|-;obtain⟨A20,c20,rfl,h20⟩:=d3;go_simp;exact Jo.w1 (wMul h20 (by omega) prd_two) hK.out
  refine Jo.tcons (i:=5) (o:=⟨some 12,_,_,_,_,_⟩) (di:=some 12) (L:=[]) (f:=Jo.Fact.eq (.agg #[.bool q,.slice C l f])) (by decide) (by decide) rfl rfl rfl rfl (fun vs wj hJ hd K hK=>?_) ?_
  ·clear hd;simp only[Jo.putl,Jo.ze,Act.put,Jo.za,Jo.zb,Jo.zc]at hK|-
   have xX30:World.cell? wj ⟨w.heap.size+1,0,none⟩=some (.bool q):=(X3.b hJ).cell 0
   have xX31:World.cell? wj ⟨w.heap.size+1,1,none⟩=some (.slice C l f):=(X3.b hJ).cell 1
   go_simp;exact hK.out _ _ rfl (br _ _)
  refine Jo.tcons (i:=6) (o:=⟨some 13,_,_,_,_,_⟩) (di:=some 13) (L:=[]) (f:=Jo.qp w.heap.size 2) (by decide) (by decide) rfl rfl rfl rfl (fun vs wj hJ hd K hK=>?_) ?_
  ·clear hd;simp only[Jo.putl,Jo.ze,Act.put,Jo.za,Jo.zb,Jo.zc]at hK|-;go_simp;exact hK.out _ _ rfl (br _ _)
  refine Jo.tcons (i:=7) (o:=⟨some 14,_,_,_,_,_⟩) (di:=some 14) (L:=[(some 13,6)]) (f:=Jo.Fact.eq (.agg #[.bool t,.slice B m d])) (by decide) (by decide) rfl rfl rfl rfl (fun vs wj hJ hd K hK=>?_) ?_
  ·have d6:(Jo.qp w.heap.size 2).P (vs 6) wj:=hd 6 (by decide)
   clear hd;simp only[Jo.putl,Jo.zd,Jo.ze,Act.put,Jo.za,Jo.zb,Jo.zc]at hK|-;generalize vs 6=u6 at hK d6|-
   replace d6:u6=_:=d6
   subst d6
   have xX22:World.cell? wj ⟨w.heap.size,2,none⟩=some (.bool t):=(X2.b hJ).cell 2
   have xX23:World.cell? wj ⟨w.heap.size,3,none⟩=some (.slice B m d):=(X2.b hJ).cell 3
   go_simp;exact hK.out _ _ rfl (br _ _)
  refine Jo.tcons (i:=8) (o:=⟨some 15,_,_,_,_,_⟩) (di:=some 15) (L:=[(some 12,5),(some 14,7)]) (f:=Jo.Fact.wl L 2 [z,y]) (by decide) (by decide) rfl rfl rfl rfl (fun vs wj hJ hd K hK=>?_) ?_
  ·have d5:(Jo.Fact.eq (.agg #[.bool q,.slice C l f])).P (vs 5) wj:=hd 5 (by decide)
   have d7:(Jo.Fact.eq (.agg #[.bool t,.slice B m d])).P (vs 7) wj:=hd 7 (by decide)
   simp only[Jo.putl,Jo.zd,Jo.ze,Act.put,Jo.za,Jo.zb,Jo.zc]at hK|-;clear hd;generalize vs 5=u5 at hK d5|-;generalize vs 7=u7 at hK d7|-
   replace d5:u5=_:=d5
   subst d5
   replace d7:u7=_:=d7
   subst d7;go_simp;exact hK.out _ _ ⟨_,_,rfl,Wl.lit2 rfl (g.b hJ).wr (k.b hJ).wr (by omega) (by omega)⟩ (bel1 _ _)
  refine Jo.tcons (i:=9) (o:=⟨some 16,_,_,_,_,_⟩) (di:=some 16) (L:=[(some 15,8)]) (f:=Jo.Fact.wn (z*y) (Z)) (by decide) (by decide) rfl rfl rfl rfl (fun vs wj hJ hd K hK=>?_) ?_
  ·have d8:(Jo.Fact.wl L 2 [z,y]).P (vs 8) wj:=hd 8 (by decide)
   clear hd;simp only[Jo.putl,Jo.zd,Jo.ze,Act.put,Jo.za,Jo.zb,Jo.zc]at hK|-;generalize vs 8=u8 at hK d8|-;obtain⟨A22,c22,rfl,h22⟩:=d8;go_simp;exact Jo.w1 (wMul h22 (by omega) prd_two) hK.out
  refine Jo.tnew (i:=10) (o:=⟨some 5,_,_,_,_,_⟩) (di:=some 5) (L:=[]) (by decide) (by decide) rfl rfl rfl rfl (fun vs wj K hK=>?_) ?_
  ·simp only[Jo.putl,Jo.ze,Act.put,Jo.za,Jo.zb,Jo.zc]at hK|-;go_simp;exact hK.out
  refine Jo.tnew (i:=11) (o:=⟨some 6,_,_,_,_,_⟩) (di:=some 6) (L:=[]) (by decide) (by decide) rfl rfl rfl rfl (fun vs wj K hK=>?_) ?_
  ·simp only[Jo.putl,Jo.ze,Act.put,Jo.za,Jo.zb,Jo.zc]at hK|-;go_simp;exact hK.out
  exact Jo.StepsI.nil
 have d0:(Jo.Fact.eq (.agg #[.bool q,.slice C l f])).P (vs 0) w2:=hd 0 (by decide)
 have d1:(Jo.qp w.heap.size 0).P (vs 1) w2:=hd 1 (by decide)
 have d2:(Jo.Fact.eq (.agg #[.bool s,.slice A n c])).P (vs 2) w2:=hd 2 (by decide)
 have d3:(Jo.Fact.wl L 2 [z,x]).P (vs 3) w2:=hd 3 (by decide)
 have d4:(Jo.Fact.wn (z*x) (Z)).P (vs 4) w2:=hd 4 (by decide)
 have d5:(Jo.Fact.eq (.agg #[.bool q,.slice C l f])).P (vs 5) w2:=hd 5 (by decide)
 have d6:(Jo.qp w.heap.size 2).P (vs 6) w2:=hd 6 (by decide)
 have d7:(Jo.Fact.eq (.agg #[.bool t,.slice B m d])).P (vs 7) w2:=hd 7 (by decide)
 have d8:(Jo.Fact.wl L 2 [z,y]).P (vs 8) w2:=hd 8 (by decide)
 have d9:(Jo.Fact.wn (z*y) (Z)).P (vs 9) w2:=hd 9 (by decide)
 clear hd;obtain⟨g5,g6,ep,eq_,hg5,hg6,hneg5,X5,X6⟩:=hpq;simp only[Jo.putl,Jo.zd,Jo.ze,Act.put,Jo.za,Jo.zb,Jo.zc];simp only[ep,eq_];clear ep eq_;generalize vs 0=u0 at d0|-;generalize vs 1=u1 at d1|-;generalize vs 2=u2 at d2|-;generalize vs 3=u3 at d3|-;generalize vs 4=u4 at d4|-;generalize vs 5=u5 at d5|-;generalize vs 6=u6 at d6|-;generalize vs 7=u7 at d7|-
 generalize vs 8=u8 at d8|-;generalize vs 9=u9 at d9|-;clear vs
 replace d0:u0=_:=d0
 subst d0
 replace d1:u1=_:=d1
 subst d1
 replace d2:u2=_:=d2
 subst d2;obtain⟨_,_,rfl,_⟩:=d3;obtain⟨s21,A21,n21,c21,rfl,p21,k21⟩:=d4
 replace d5:u5=_:=d5
 subst d5
 replace d6:u6=_:=d6
 subst d6
 replace d7:u7=_:=d7
 subst d7;obtain⟨_,_,rfl,_⟩:=d8;obtain⟨s23,A23,n23,c23,rfl,p23,k23⟩:=d9;replace X3:=X3.b hJ;replace XR:=XR.b hJ;replace g:=g.b hJ;replace HB:=Hqb HB hJ;clear h k;clear X2;have xX5:=X5.cell;have zX50:=X5.frozen
 refine jn 12 fun K hK=>?_
 go_simp;refine hK.out _ _ ?_;clear hK K xX5 zX50;generalize hS:(w2.setCell _ _).setCell _ _=w3 at *;have SX:=StN.of2 X5 hS;replace X3:=X3.s SX;replace XR:=XR.s SX;replace X6:=X6.s SX;replace g:=g.s SX;replace p21:=p21.s SX;replace p23:=p23.s SX;replace HB:=Hqs HB SX (by omega)
 replace X5:=SX.box;clear SX hS;have xX6:=X6.cell;have zX60:=X6.frozen
 refine jn 13 fun K hK=>?_
 go_simp;refine hK.out _ _ ?_;clear hK K xX6 zX60;generalize hS:(w3.setCell _ _).setCell _ _=w4 at *;have SX:=StN.of2 X6 hS;replace X3:=X3.s SX;replace XR:=XR.s SX;replace X5:=X5.s SX;replace g:=g.s SX;replace p21:=p21.s SX;replace p23:=p23.s SX;replace HB:=Hqs HB SX (by omega)
 replace X6:=SX.box;clear SX hS;refine jd ?_
 go_upto_region 2 with (fail)
 have xX3:=X3.cell
 go_wp2_with fail
 refine(wSign g.wr HS.out).mono ?_;rintro ee w5 ⟨rfl,B⟩;clear xX3;replace XR:=XR.b B;replace X5:=X5.b B;replace X6:=X6.b B;replace p21:=p21.b B;replace p23:=p23.b B;replace HB:=Hqb HB B;clear B;clear g;have e1:=E1.out;have hu:=HU.out;have hv:=HV.out
 by_cases hz:z < 0
 ·rw[dt hz]at e1;rw[if_pos hz]at hu hv;rw[hv]at p21;rw[hu]at p23;have xXR:=XR.cell;have zXR0:=XR.frozen;have xX5:=X5.cell;have xX6:=X6.cell;go_wp2;clear xXR zXR0 xX5 xX6;have SX:=StN.mk4 XR (.bool s23) (.slice A23 n23 c23) (.bool s21) (.slice A21 n21 c21);replace p21:=p21.s SX
  replace p23:=p23.s SX;exact bq (v:= .agg #[.bool s23,.slice A23 n23 c23,.bool s21,.slice A21 n21 c21]) (by simp[results,Tryz.results147,go_sem,SX.box.cell]) rfl ⟨s23,A23,n23,c23,s21,A21,n21,c21,rfl,p23,p21,k23,k21,(SX.below HB.out (by omega))⟩
 ·rw[df hz]at e1;rw[if_neg hz]at hu hv;rw[hu]at p21;rw[hv]at p23;have xXR:=XR.cell;have zXR0:=XR.frozen;have xX5:=X5.cell;have xX6:=X6.cell;go_wp2;clear xXR zXR0 xX5 xX6;have SX:=StN.mk4 XR (.bool s21) (.slice A21 n21 c21) (.bool s23) (.slice A23 n23 c23);replace p21:=p21.s SX
  replace p23:=p23.s SX;exact bq (v:= .agg #[.bool s21,.slice A21 n21 c21,.bool s23,.slice A23 n23 c23]) (by simp[results,Tryz.results147,go_sem,SX.box.cell]) rfl ⟨s21,A21,n21,c21,s23,A23,n23,c23,rfl,p21,p23,k21,k23,(SX.below HB.out (by omega))⟩
theorem tMeets{w:World}{A:Option Addr}{n c:Nat}{s:Bool}{x:Int}{B:Option Addr}{m d:Nat}{t:Bool}{y:Int}{A':Option Addr}{n' c':Nat}{s':Bool}{x':Int}{B':Option Addr}{m' d':Nat}{t':Bool}{y':Int}{p q:Bool}(h:Wn w s A n c x)(k:Wn w t B m d y)(h':Wn w s' A' n' c' x')(k':Wn w t' B' m' d' y')(hp:decide (x<=y')=p)(hq:decide (x'<=y)=q):Calls Tryz.prog 208 #[.agg #[.bool s,.slice A n c,.bool t,.slice B m d],.agg #[.bool s',.slice A' n' c',.bool t',.slice B' m' d']] w (PB w (p && q)):=by
 obtain⟨σ,hσ⟩:∃σ,cmpI x y'=σ:=⟨_,rfl⟩;obtain⟨τ,hτ⟩:∃σ,cmpI x' y=σ:=⟨_,rfl⟩;have e1:=cmp_le12 hσ;have e2:=cmp_le12 hτ;rw[hp]at e1;rw[hq]at e2;have H1:=ie hσ;have H2:=ie hτ;clear hσ hτ;clear hp hq
 go_enter Tryz.func208,Tryz.ntmps208
 go_upto_region 1 with (fail)
 generalize hW1:(w.alloc _).alloc _=w1 at *;obtain⟨X2,X3,HB⟩:=Bo.en2 hW1;replace h:=h.below HB.out;replace k:=k.below HB.out
 replace h':=h'.below HB.out
 replace k':=k'.below HB.out
 clear hW1;have xX2:=X2.cell;have xX3:=X3.cell
 go_wp2_with fail
 refine(wCmp h.wr k'.wr H1.out).mono ?_;rintro ee w2 ⟨rfl,B⟩;clear xX2 xX3;replace X2:=X2.b B;replace X3:=X3.b B;replace k:=k.b B
 replace h':=h'.b B
 replace HB:=Hqb HB B;clear B
 cases p
 ·clear e2;go_wp2
  go_ret
  exact⟨rfl,HB.out⟩
 ·have xX2:=X2.cell;have xX3:=X3.cell
  go_wp2_with fail
  refine(wCmp h'.wr k.wr H2.out).mono ?_;rintro ee w3 ⟨rfl,B⟩;clear xX2 xX3;replace HB:=Hqb HB B;clear B;go_wp2
  go_ret
  exact⟨rfl,HB.out⟩
theorem bnd_hi{a:Int}(h:SC < a):bndI a (-SC) SC=SC:=by
 unfold bndI
 have:(0:Int) < SC:=by decide
 rw[if_neg (by omega),if_pos h]
theorem bnd_lo{a:Int}(h:a < -SC):bndI a (-SC) SC= -SC:=by
 unfold bndI
 rw[if_pos h]
theorem bnd_mid{a:Int}(h1:¬SC < a)(h2:¬a < -SC):bndI a (-SC) SC=a:=by
 unfold bndI
 rw[if_neg h2,if_neg h1]
theorem tBounded{w:World}{A:Option Addr}{n c:Nat}{s:Bool}{x:Int}{r:Int}(h:Wn w s A n c x)(hr:bndI x (-SC) SC=r):Calls Tryz.prog 244 #[.agg #[.bool s,.slice A n c]] w (W1 w 7 r):=by
 obtain⟨σ,hσ⟩:∃σ,cmpI x SC=σ:=⟨_,rfl⟩;obtain⟨τ,hτ⟩:∃σ,cmpI x (-SC)=σ:=⟨_,rfl⟩;have e1:=(cmp_lt12 hσ).2;have e2:=(cmp_lt12 hτ).1;have hf:=bnd_fits x;rw[hr]at hf;have H1:=ie hσ;have H2:=ie hτ;have HF:=ie hf;clear hσ hτ hf
 go_enter Tryz.func244,Tryz.ntmps244
 go_upto_region 1 with (fail)
 generalize hW1:(w.alloc _).alloc _=w1 at *;obtain⟨X1,XR,HB⟩:=Bo.en2 hW1;replace h:=h.below HB.out;clear hW1
 go_wp2_with fail
 refine(cScale).mono ?_;rintro ee w2 ⟨s9,A9,n9,c9,rfl,p9,k9,B⟩;replace X1:=X1.b B;replace XR:=XR.b B;replace h:=h.b B;replace HB:=Hqb HB B;clear B
 go_upto_region 2 with (fail)
 have nX3X1:=X1.lt;have nX3XR:=XR.lt;generalize hWn:w2.alloc _=w3 at *;obtain⟨X3,BW⟩:=Bo.nw hWn;clear hWn;replace X1:=X1.b BW;replace XR:=XR.b BW;replace h:=h.b BW;replace p9:=p9.b BW;replace HB:=Hqb HB BW;clear BW;have xX1:=X1.cell;have xX3:=X3.cell
 go_wp2_with fail
 refine(wCmp h.wr p9.wr H1.out).mono ?_;rintro ee w4 ⟨rfl,B⟩;clear xX1 xX3;replace X1:=X1.b B;replace XR:=XR.b B;replace X3:=X3.b B;replace h:=h.b B;replace p9:=p9.b B;replace HB:=Hqb HB B;clear B
 by_cases c1:SC < x
 ·rw[dt c1]at e1
  obtain rfl:SC=r:=(bnd_hi (by omega)).symm.trans hr
  clear h e2 hr;have xXR:=XR.cell;have zXR0:=XR.frozen;have xX3:=X3.cell;go_wp2;clear xXR zXR0 xX3;have SX:=StN.t2 XR s9 A9 n9 c9;replace p9:=p9.s SX;exact bq (v:= .agg #[.bool s9,.slice A9 n9 c9]) (by simp[results,Tryz.results244,go_sem,SX.box.cell]) rfl ⟨_,_,_,_,rfl,p9,p9.fits HF.out,(SX.below HB.out (by omega))⟩
 ·rw[df c1]at e1;have xX3:=X3.cell
  go_wp2_with fail
  refine(wNeg p9.wr rfl).mono ?_;rintro ee w5 ⟨s4,A4,n4,c4,rfl,p4,k4,B⟩;clear xX3;replace X1:=X1.b B;replace XR:=XR.b B;replace h:=h.b B;replace HB:=Hqb HB B;clear B;clear p9
  go_upto_region 5 with (fail)
  have nX4X1:=X1.lt;have nX4XR:=XR.lt;generalize hWn:w5.alloc _=w6 at *;obtain⟨X4,BW⟩:=Bo.nw hWn;clear hWn;replace X1:=X1.b BW;replace XR:=XR.b BW;replace h:=h.b BW;replace p4:=p4.b BW;replace HB:=Hqb HB BW;clear BW;clear e1;have xX1:=X1.cell;have xX4:=X4.cell
  go_wp2_with fail
  refine(wCmp h.wr p4.wr H2.out).mono ?_;rintro ee w7 ⟨rfl,B⟩;clear xX1 xX4;replace X1:=X1.b B;replace XR:=XR.b B;replace X4:=X4.b B;replace h:=h.b B;replace p4:=p4.b B;replace HB:=Hqb HB B;clear B
  by_cases c2:x < -SC
  ·rw[dt c2]at e2
   obtain rfl: -SC=r:=(bnd_lo (by omega)).symm.trans hr
   clear h hr;have xXR:=XR.cell;have zXR0:=XR.frozen;have xX4:=X4.cell;go_wp2;clear xXR zXR0 xX4;have SX:=StN.t2 XR s4 A4 n4 c4;replace p4:=p4.s SX;exact bq (v:= .agg #[.bool s4,.slice A4 n4 c4]) (by simp[results,Tryz.results244,go_sem,SX.box.cell]) rfl ⟨_,_,_,_,rfl,p4,p4.fits HF.out,(SX.below HB.out (by omega))⟩
  ·rw[df c2]at e2
   obtain rfl:x=r:=(bnd_mid (by omega) (by omega)).symm.trans hr
   clear p4 hr;have xXR:=XR.cell;have zXR0:=XR.frozen;have xX1:=X1.cell;go_wp2;clear xXR zXR0 xX1;have SX:=StN.t2 XR s A n c;replace h:=h.s SX;exact bq (v:= .agg #[.bool s,.slice A n c]) (by simp[results,Tryz.results244,go_sem,SX.box.cell]) rfl ⟨_,_,_,_,rfl,h,h.fits HF.out,(SX.below HB.out (by omega))⟩
theorem tCut{w:World}{A:Option Addr}{n c:Nat}{s:Bool}{x:Int}{B:Option Addr}{m d:Nat}{t:Bool}{y:Int}{u v:Int}(h:Wn w s A n c x)(k:Wn w t B m d y)(hu:bndI x (-SC) SC=u)(hv:bndI y (-SC) SC=v):Calls Tryz.prog 200 #[.agg #[.bool s,.slice A n c,.bool t,.slice B m d]] w (PSp w 7 u v):=by
 have HU:=ie hu;have HV:=ie hv;clear hu hv
 go_enter Tryz.func200,Tryz.ntmps200
 go_upto_region 1 with (fail)
 generalize hW1:(w.alloc _).alloc _=w1 at *;obtain⟨X1,XR,HB⟩:=Bo.en2 hW1;replace h:=h.below HB.out;replace k:=k.below HB.out;clear hW1;have ltX1:=X1.lt;have ltXR:=XR.lt;refine jk [0,1,2,3,4,5,6] [some 3,some 4,some 5,some 6,some 7,some 8,some 9,none] [[],[0],[1],[],[3],[4],[2,5],[]] 8 1 [Jo.qp w.heap.size 0,Jo.Fact.eq (.agg #[.bool s,.slice A n c]),Jo.Fact.wn (u) (7),Jo.qp w.heap.size 2,Jo.Fact.eq (.agg #[.bool t,.slice B m d]),Jo.Fact.wn (v) (7),Jo.Fact.sp (u) (v) (7),Jo.Fact.any] ?_ ?_
 ·iterate 2 (refine jm ?_ ?_;rotate_left)
  refine jm ?_ ?_
  ·rintro wj hJ _ rfl K hK;simp only[Jo.z]at hK|-;go_simp;exact Jo.w1 (tBounded (h.b hJ) HU.out) hK.out
  refine jm ?_ ?_;rotate_left
  refine jm ?_ ?_
  ·rintro wj hJ _ rfl K hK;simp only[Jo.z]at hK|-;have xX12:=(X1.b hJ).a 2 (.bool t) rfl;have xX13:=(X1.b hJ).a 3 (.slice B m d) rfl;go_simp;exact hK.out _ _ rfl (br _ _)
  refine jm ?_ ?_
  ·rintro wj hJ _ rfl K hK;simp only[Jo.z]at hK|-;go_simp;exact Jo.w1 (tBounded (k.b hJ) HV.out) hK.out
  refine jm ?_ ?_
  ·rintro wj hJ _ ⟨s20,A20,n20,c20,rfl,p20,k20⟩ _ ⟨s21,A21,n21,c21,rfl,p21,k21⟩ K hK;simp only[Jo.z]at hK|-;go_simp;exact hK.out _ _ ⟨_,_,_,_,_,_,_,_,rfl,p20,p21,by omega,by omega⟩ (br _ _)
  exact jo
  all_goals (rintro wj hJ;(repeat rintro _ rfl);intro K hK;simp only[Jo.z]at hK|-;have xX1:=(X1.b hJ).cell;go_simp;exact hK.out _ _ rfl (br _ _))
 rintro w2 hJ _ _ _ rfl _ ⟨s20,A20,n20,c20,rfl,p20,k20⟩ _ _ _ rfl _ ⟨s21,A21,n21,c21,rfl,p21,k21⟩ _ ⟨s22,A22,n22,c22,s23,A23,n23,c23,rfl,p22,p23,k22,k23⟩ -;simp only[Jo.z];replace XR:=XR.b hJ;replace HB:=Hqb HB hJ;clear h k p20 p21;have xXR:=XR.cell;have zXR0:=XR.frozen
 refine jn 7 fun K hK=>?_
 go_simp;refine hK.out _ _ ?_;clear hK K xXR zXR0;have SX:=StN.mk4 XR (.bool s22) (.slice A22 n22 c22) (.bool s23) (.slice A23 n23 c23);replace p22:=p22.s SX;replace p23:=p23.s SX;refine jd ?_;go_wp2;exact bq (v:= .agg #[.bool s22,.slice A22 n22 c22,.bool s23,.slice A23 n23 c23]) (by simp[results,Tryz.results200,go_sem,SX.box.cell]) rfl ⟨s22,A22,n22,c22,s23,A23,n23,c23,rfl,p22,p23,k22,k23,(SX.below HB.out (by omega))⟩
theorem tsine_core{w:World}{A:Option Addr}{n c:Nat}{s:Bool}{x:Int}{B:Option Addr}{m d:Nat}{t:Bool}{y:Int}{A':Option Addr}{n' c':Nat}{s':Bool}{B':Option Addr}{m' d':Nat}{t':Bool}{q a b r u v e l g:Int}{o:Bool}(h:Wn w s A n c x)(k:Wn w t B m d y)(h':Wn w s' A' n' c' PLo)(k':Wn w t' B' m' d' PHi)(hn':n'<=7)(hm':m'<=7)(hn:n<=1000)(hm:m<=1000)(hq:(2*x+PLo).fdiv (2*PLo)=q)(ha:(if q < 0 then q*PHi else q*PLo)=a)(hb:(if q < 0 then q*PLo else q*PHi)=b)(hr:x-b=r)(hu:y-a=u)(hv:serI r=v)(he:u-r+200=e)(ho:decide (q%2=1)=o)
  (hl0:o=false->bndI (v-e) (-SC) SC=l) (hg0:o=false->bndI (v+e) (-SC) SC=g) (hl1:o=true->bndI (-(v+e)) (-SC) SC=l) (hg1:o=true->bndI (-(v-e)) (-SC) SC=g):Calls Tryz.prog 140 #[.agg #[.bool s,.slice A n c,.bool t,.slice B m d],.agg #[.bool s',.slice A' n' c',.bool t',.slice B' m' d']] w (PSp w 7 l g):=by
 have HP1:=ie (prd_two (z:=2) (x:=x));have HP2:=ie (prd_two (z:=2) (x:=PLo));have HQ:=ie hq;have HA:=ie ha;have HBB:=ie hb;have HR:=ie hr;have HU:=ie hu;have HV:=ie hv;have HE:=ie he;have HO:=ie ho;have HL0:=ie hl0;have HG0:=ie hg0;have HL1:=ie hl1;have HG1:=ie hg1;clear hq ha hb hr hu hv he ho hl0 hg0 hl1 hg1
 go_enter Tryz.func140,Tryz.ntmps140
 go_upto_region 1 with (fail)
 generalize hW1:((w.alloc _).alloc _).alloc _=w1 at *;obtain⟨X2,X3,XR,HB⟩:=Bo.en3 hW1;replace h:=h.below HB.out;replace k:=k.below HB.out
 replace h':=h'.below HB.out
 replace k':=k'.below HB.out
 clear hW1
 go_wp2_with fail
 refine(wFrom 2 _ (by decide) (by decide)).mono ?_;rintro ee w2 ⟨s30,A30,n30,c30,rfl,p30,k30,B⟩;replace X2:=X2.b B;replace X3:=X3.b B;replace XR:=XR.b B;replace h:=h.b B;replace k:=k.b B
 replace h':=h'.b B
 replace k':=k'.b B
 replace HB:=Hqb HB B;clear B
 go_upto_region 2 with (fail)
 have nX5X2:=X2.lt;have nX5X3:=X3.lt;have nX5XR:=XR.lt;generalize hWn:w2.alloc _=w3 at *;obtain⟨X5,BW⟩:=Bo.nw hWn;clear hWn;replace X2:=X2.b BW;replace X3:=X3.b BW;replace XR:=XR.b BW;replace h:=h.b BW;replace k:=k.b BW
 replace h':=h'.b BW
 replace k':=k'.b BW
 replace p30:=p30.b BW;replace HB:=Hqb HB BW;clear BW;have ltX2:=X2.lt;have ltX3:=X3.lt;have ltXR:=XR.lt;have ltX5:=X5.lt;have hszA:=HB.out.size;refine jk [0,1,2,3,4,5,6,7,8,9,10,11,12,13,14] [some 12,some 13,some 14,some 15,some 16,some 17,some 18,some 19,some 20,some 21,some 22,some 23,some 24,some 25,some 6,none] [[],[],[1],[0,2],[3],[],[5],[4,6],[],[],[9],[8,10],[11],[7,12],[],[]] 16 1 [Jo.Fact.eq (.agg #[.bool s30,.slice A30 n30 c30]),Jo.qp w.heap.size 0,Jo.Fact.eq (.agg #[.bool s,.slice A n c]),Jo.Fact.wl 1000 2 [2,x],Jo.Fact.wn (2*x) (2001),Jo.qp (w.heap.size+1) 0,Jo.Fact.eq (.agg #[.bool s',.slice A' n' c']),Jo.Fact.wn (2*x+PLo) (2009),Jo.Fact.eq (.agg #[.bool s30,.slice A30 n30 c30]),Jo.qp (w.heap.size+1) 0,Jo.Fact.eq (.agg #[.bool s',.slice A' n' c']),Jo.Fact.wl 7 2 [2,PLo],Jo.Fact.wn (2*PLo) (15),Jo.Fact.wn (q) (2028),Jo.Fact.bo w3.heap.size #[.bool false,.slice none 0 0] 27,Jo.Fact.any] ?_ ?_
 ·iterate 3 (refine jm ?_ ?_;rotate_left)
  refine jm ?_ ?_
  ·rintro wj hJ _ rfl _ rfl K hK;simp only[Jo.z]at hK|-;go_simp;exact hK.out _ _ ⟨_,_,rfl,Wl.lit2 rfl (p30.b hJ).wr (h.b hJ).wr (by omega) (by omega)⟩ (bel1 _ _)
  refine jm ?_ ?_
  ·rintro wj hJ _ ⟨A20,c20,rfl,h20⟩ K hK;simp only[Jo.z]at hK|-;go_simp;exact Jo.w1 (wMul h20 (by decide) HP1.out) hK.out
  iterate 2 (refine jm ?_ ?_;rotate_left)
  refine jm ?_ ?_
  ·rintro wj hJ _ ⟨s21,A21,n21,c21,rfl,p21,k21⟩ _ rfl K hK;simp only[Jo.z]at hK|-;go_simp;exact Jo.w1 (wAdd p21.wr (h'.b hJ).wr (by omega) (by omega) rfl) hK.out
  iterate 3 (refine jm ?_ ?_;rotate_left)
  refine jm ?_ ?_
  ·rintro wj hJ _ rfl _ rfl K hK;simp only[Jo.z]at hK|-;go_simp;exact hK.out _ _ ⟨_,_,rfl,Wl.lit2 rfl (p30.b hJ).wr (h'.b hJ).wr (by omega) (by omega)⟩ (bel1 _ _)
  refine jm ?_ ?_
  ·rintro wj hJ _ ⟨A23,c23,rfl,h23⟩ K hK;simp only[Jo.z]at hK|-;go_simp;exact Jo.w1 (wMul h23 (by decide) HP2.out) hK.out
  refine jm ?_ ?_
  ·rintro wj hJ _ ⟨s22,A22,n22,c22,rfl,p22,k22⟩ _ ⟨s24,A24,n24,c24,rfl,p24,k24⟩ K hK;simp only[Jo.z]at hK|-;go_simp;exact Jo.w1 (tDown p22.wr p24.wr (by omega) (by omega) (by decide) HQ.out) hK.out
  refine jm ?_ ?_
  ·rintro wj hJ K hK;simp only[Jo.z]at hK|-;go_simp;exact hK.out _ _ ⟨_,rfl,hJ.size,Bo.new _ _ _⟩ (bel1 _ _)
  exact jo
  all_goals (rintro wj hJ;(repeat rintro _ rfl);intro K hK;simp only[Jo.z]at hK|-;have xX5:=(X5.b hJ).cell;have xX2:=(X2.b hJ).cell;have xX3:=(X3.b hJ).cell;go_simp;exact hK.out _ _ rfl (br _ _))
 rintro w4 hJ _ rfl _ _ _ rfl _ ⟨_,_,rfl,_⟩ _ ⟨s21,A21,n21,c21,rfl,p21,k21⟩ _ _ _ rfl _ ⟨s22,A22,n22,c22,rfl,p22,k22⟩ _ rfl _ _ _ rfl _ ⟨_,_,rfl,_⟩ _ ⟨s24,A24,n24,c24,rfl,p24,k24⟩ _ ⟨s25,A25,n25,c25,rfl,p25,k25⟩ _ ⟨g6,rfl,hg6,X6⟩ -;simp only[Jo.z];replace X2:=X2.b hJ;replace X3:=X3.b hJ;replace XR:=XR.b hJ;replace h:=h.b hJ;replace k:=k.b hJ
 replace h':=h'.b hJ
 replace k':=k'.b hJ
 replace HB:=Hqb HB hJ;clear p21 p22 p24 p30 X5;have xX6:=X6.cell;have zX60:=X6.frozen
 refine jn 15 fun K hK=>?_
 go_simp;refine hK.out _ _ ?_;clear hK K xX6 zX60;generalize hS:(w4.setCell _ _).setCell _ _=w5 at *;have SX:=StN.of2 X6 hS;replace X2:=X2.s SX;replace X3:=X3.s SX;replace XR:=XR.s SX;replace h:=h.s SX;replace k:=k.s SX
 replace h':=h'.s SX
 replace k':=k'.s SX
 replace p25:=p25.s SX;replace HB:=Hqs HB SX (by omega);replace X6:=SX.box;clear SX hS;refine jd ?_
 go_upto_region 3 with (fail)
 have ltX2:=X2.lt;have ltX3:=X3.lt;have ltXR:=XR.lt;have ltX6:=X6.lt;have hszB:=HB.out.size;refine jk [0,1,2,3,4,5] [some 26,some 27,some 28,some 29,some 30,some 7,none] [[],[],[],[1,2],[0,3],[],[]] 7 1 [Jo.Fact.eq (.agg #[.bool s,.slice A n c,.bool t,.slice B m d]),Jo.Fact.eq (.agg #[.bool s',.slice A' n' c',.bool t',.slice B' m' d']),Jo.Fact.eq (.agg #[.bool s25,.slice A25 n25 c25]),Jo.Fact.sp (a) (b) (4057),Jo.Fact.sp (r) (u) (5058),Jo.Fact.bo w5.heap.size #[.bool false,.slice none 0 0,.bool false,.slice none 0 0] 67,Jo.Fact.any] ?_ ?_
 ·iterate 3 (refine jm ?_ ?_;rotate_left)
  refine jm ?_ ?_
  ·rintro wj hJ _ rfl _ rfl K hK;simp only[Jo.z]at hK|-;go_simp;refine(tTimes (L:=2028) (Z:=4057) (h'.b hJ) (k'.b hJ) (p25.b hJ) (by omega) (by omega) (by omega) (by omega) (by omega) HA.out HBB.out).mono ?_;rintro ee wk ⟨s31,A31,n31,c31,s32,A32,n32,c32,rfl,p31,p32,k31,k32,B⟩;exact hK.out _ _ ⟨s31,A31,n31,c31,s32,A32,n32,c32,rfl,p31,p32,k31,k32⟩ B
  refine jm ?_ ?_
  ·rintro wj hJ _ rfl _ ⟨s31,A31,n31,c31,s32,A32,n32,c32,rfl,p31,p32,k31,k32⟩ K hK;simp only[Jo.z]at hK|-;go_simp;refine(tMinus (Z:=5058) (h.b hJ) (k.b hJ) p31 p32 (by omega) (by omega) (by omega) (by omega) (by omega) (by omega) HR.out HU.out).mono ?_;rintro ee wk ⟨s33,A33,n33,c33,s34,A34,n34,c34,rfl,p33,p34,k33,k34,B⟩;exact hK.out _ _ ⟨s33,A33,n33,c33,s34,A34,n34,c34,rfl,p33,p34,k33,k34⟩ B
  refine jm ?_ ?_
  ·rintro wj hJ K hK;simp only[Jo.z]at hK|-;go_simp;exact hK.out _ _ ⟨_,rfl,hJ.size,Bo.new _ _ _⟩ (bel1 _ _)
  exact jo
  all_goals (rintro wj hJ;(repeat rintro _ rfl);intro K hK;simp only[Jo.z]at hK|-;have xX2:=(X2.b hJ).cell;have xX3:=(X3.b hJ).cell;have xX6:=(X6.b hJ).cell;go_simp;exact hK.out _ _ rfl (br _ _))
 rintro w6 hJ _ rfl _ rfl _ rfl _ ⟨s31,A31,n31,c31,s32,A32,n32,c32,rfl,p31,p32,k31,k32⟩ _ ⟨s33,A33,n33,c33,s34,A34,n34,c34,rfl,p33,p34,k33,k34⟩ _ ⟨g7,rfl,hg7,X7⟩ -;simp only[Jo.z];replace XR:=XR.b hJ;replace X6:=X6.b hJ;replace h:=h.b hJ;replace k:=k.b hJ;replace p25:=p25.b hJ;replace HB:=Hqb HB hJ;clear p31 p32 h k h' k' X2 X3
 have xX7:=X7.cell;have zX70:=X7.frozen
 refine jn 6 fun K hK=>?_
 go_simp;refine hK.out _ _ ?_;clear hK K xX7 zX70;generalize hS:(((w6.setCell _ _).setCell _ _).setCell _ _).setCell _ _=w7 at *;have SX:=StN.of4 X7 hS;replace XR:=XR.s SX;replace X6:=X6.s SX;replace p25:=p25.s SX;replace p33:=p33.s SX;replace p34:=p34.s SX;replace HB:=Hqs HB SX (by omega)
 replace X7:=SX.box;clear SX hS;refine jd ?_
 go_upto_region 4 with (fail)
 have xX7:=X7.cell
 go_wp2_with fail
 refine(tSer p33.wr (by omega) HV.out).mono ?_;rintro ee w8 ⟨s40,A40,n40,c40,rfl,p40,k40,B⟩;clear xX7;replace XR:=XR.b B;replace X6:=X6.b B;replace X7:=X7.b B;replace p25:=p25.b B;replace p33:=p33.b B;replace p34:=p34.b B;replace HB:=Hqb HB B;clear B
 go_upto_region 5 with (fail)
 have nX8XR:=XR.lt;have nX8X6:=X6.lt;have nX8X7:=X7.lt;generalize hWn:w8.alloc _=w9 at *;obtain⟨X8,BW⟩:=Bo.nw hWn;clear hWn;replace XR:=XR.b BW;replace X6:=X6.b BW;replace X7:=X7.b BW;replace p25:=p25.b BW;replace p33:=p33.b BW;replace p34:=p34.b BW;replace p40:=p40.b BW;replace HB:=Hqb HB BW;clear BW;have xX7:=X7.cell
 go_wp2_with fail
 refine(wSub p34.wr p33.wr (by omega) (by omega) rfl).mono ?_;rintro ee wA ⟨s41,A41,n41,c41,rfl,p41,k41,B⟩;clear xX7;replace XR:=XR.b B;replace X6:=X6.b B;replace X8:=X8.b B;replace p25:=p25.b B;replace p40:=p40.b B;replace HB:=Hqb HB B;clear B;clear p33 p34
 go_wp2_with fail
 refine(wFrom 200 _ (by decide) (by decide)).mono ?_;rintro ee wB ⟨s42,A42,n42,c42,rfl,p42,k42,B⟩;replace XR:=XR.b B;replace X6:=X6.b B;replace X8:=X8.b B;replace p25:=p25.b B;replace p40:=p40.b B;replace p41:=p41.b B;replace HB:=Hqb HB B;clear B
 go_wp2_with fail
 refine(wAdd p41.wr p42.wr (by omega) (by omega) HE.out).mono ?_;rintro ee wC ⟨s43,A43,n43,c43,rfl,p43,k43,B⟩;replace XR:=XR.b B;replace X6:=X6.b B;replace X8:=X8.b B;replace p25:=p25.b B;replace p40:=p40.b B;replace HB:=Hqb HB B;clear B;clear p41 p42
 go_upto_region 6 with (fail)
 have nX9XR:=XR.lt;have nX9X6:=X6.lt;have nX9X8:=X8.lt;generalize hWn:wC.alloc _=wD at *;obtain⟨X9,BW⟩:=Bo.nw hWn;clear hWn;replace XR:=XR.b BW;replace X6:=X6.b BW;replace X8:=X8.b BW;replace p25:=p25.b BW;replace p40:=p40.b BW;replace p43:=p43.b BW;replace HB:=Hqb HB BW;clear BW;have ltXR:=XR.lt;have ltX6:=X6.lt;have ltX8:=X8.lt
 have ltX9:=X9.lt;have hszC:=HB.out.size;refine jk [0,1,2,3,4,5,6,7] [some 41,some 42,some 43,some 44,some 45,some 46,some 47,some 10,none] [[],[],[0,1],[],[],[3,4],[2,5],[],[]] 9 1 [Jo.Fact.eq (.agg #[.bool s40,.slice A40 n40 c40]),Jo.Fact.eq (.agg #[.bool s43,.slice A43 n43 c43]),Jo.Fact.wn (v-e) (320000),Jo.Fact.eq (.agg #[.bool s40,.slice A40 n40 c40]),Jo.Fact.eq (.agg #[.bool s43,.slice A43 n43 c43]),Jo.Fact.wn (v+e) (320000),Jo.Fact.sp (v-e) (v+e) (320000),Jo.Fact.bo wD.heap.size #[.bool false,.slice none 0 0,.bool false,.slice none 0 0] 67,Jo.Fact.any] ?_ ?_
 ·iterate 2 (refine jm ?_ ?_;rotate_left)
  refine jm ?_ ?_
  ·rintro wj hJ _ rfl _ rfl K hK;simp only[Jo.z]at hK|-;go_simp;exact Jo.w1 (wSub (p40.b hJ).wr (p43.b hJ).wr (by omega) (by omega) rfl) hK.out
  iterate 2 (refine jm ?_ ?_;rotate_left)
  refine jm ?_ ?_
  ·rintro wj hJ _ rfl _ rfl K hK;simp only[Jo.z]at hK|-;go_simp;exact Jo.w1 (wAdd (p40.b hJ).wr (p43.b hJ).wr (by omega) (by omega) rfl) hK.out
  refine jm ?_ ?_
  ·rintro wj hJ _ ⟨s44,A44,n44,c44,rfl,p44,k44⟩ _ ⟨s45,A45,n45,c45,rfl,p45,k45⟩ K hK;simp only[Jo.z]at hK|-;go_simp;exact hK.out _ _ ⟨_,_,_,_,_,_,_,_,rfl,p44,p45,by omega,by omega⟩ (br _ _)
  refine jm ?_ ?_
  ·rintro wj hJ K hK;simp only[Jo.z]at hK|-;go_simp;exact hK.out _ _ ⟨_,rfl,hJ.size,Bo.new _ _ _⟩ (bel1 _ _)
  exact jo
  all_goals (rintro wj hJ;(repeat rintro _ rfl);intro K hK;simp only[Jo.z]at hK|-;have xX8:=(X8.b hJ).cell;have xX9:=(X9.b hJ).cell;go_simp;exact hK.out _ _ rfl (br _ _))
 rintro wE hJ _ rfl _ rfl _ ⟨s44,A44,n44,c44,rfl,p44,k44⟩ _ rfl _ rfl _ ⟨s45,A45,n45,c45,rfl,p45,k45⟩ _ ⟨s46,A46,n46,c46,s47,A47,n47,c47,rfl,p46,p47,k46,k47⟩ _ ⟨g10,rfl,hg10,X10⟩ -;simp only[Jo.z];replace XR:=XR.b hJ;replace X6:=X6.b hJ;replace p25:=p25.b hJ;replace HB:=Hqb HB hJ;clear p40 p43 p44 p45 X7 X8 X9;have xX10:=X10.cell
 have zX100:=X10.frozen
 refine jn 8 fun K hK=>?_
 go_simp;refine hK.out _ _ ?_;clear hK K xX10 zX100;generalize hS:(((wE.setCell _ _).setCell _ _).setCell _ _).setCell _ _=wF at *;have SX:=StN.of4 X10 hS;replace XR:=XR.s SX;replace X6:=X6.s SX;replace p25:=p25.s SX;replace p46:=p46.s SX;replace p47:=p47.s SX;replace HB:=Hqs HB SX (by omega)
 replace X10:=SX.box;clear SX hS;refine jd ?_
 go_upto_region 7 with (fail)
 have xX6:=X6.cell
 go_wp2_with fail
 refine(tOdd p25.wr (by omega) HO.out).mono ?_;rintro ee wG ⟨rfl,B⟩;clear xX6;replace XR:=XR.b B;replace X10:=X10.b B;replace p46:=p46.b B;replace p47:=p47.b B;replace HB:=Hqb HB B;clear B;clear p25 X6
 cases o
 ·have xX10:=X10.cell
  go_wp2_with fail
  refine(tCut p46 p47 (HL0.out (by first | rfl | trivial)) (HG0.out (by first | rfl | trivial))).mono ?_
  rintro ee wH ⟨s50,A50,n50,c50,s51,A51,n51,c51,rfl,p50,p51,k50,k51,B⟩;clear xX10;replace XR:=XR.b B;replace X10:=X10.b B;replace p46:=p46.b B;replace p47:=p47.b B;replace HB:=Hqb HB B;clear B;clear p46 p47;have xXR:=XR.cell;have zXR0:=XR.frozen;have xX10:=X10.cell
  go_wp2;clear xXR zXR0 xX10;have SX:=StN.mk4 XR (.bool s50) (.slice A50 n50 c50) (.bool s51) (.slice A51 n51 c51);replace p50:=p50.s SX;replace p51:=p51.s SX;exact bq (v:= .agg #[.bool s50,.slice A50 n50 c50,.bool s51,.slice A51 n51 c51]) (by simp[results,Tryz.results140,go_sem,SX.box.cell]) rfl ⟨s50,A50,n50,c50,s51,A51,n51,c51,rfl,p50,p51,k50,k51,(SX.below HB.out (by omega))⟩
 ·go_upto_region 8 with (fail)
  have xX10:=X10.cell
  go_wp2_with fail
  refine(tOpp (Z:=320000) p46 p47 (by omega) (by omega) rfl rfl).mono ?_;rintro ee wH ⟨s48,A48,n48,c48,s49,A49,n49,c49,rfl,p48,p49,k48,k49,B⟩;clear xX10;replace XR:=XR.b B;replace X10:=X10.b B;replace HB:=Hqb HB B;clear B;clear p46 p47;have xX10:=X10.cell;have zX100:=X10.frozen
  go_upto_region 9 with (fail)
  clear xX10 zX100;generalize hS:(((wH.setCell _ _).setCell _ _).setCell _ _).setCell _ _=wI at *;have SX:=StN.of4 X10 hS;replace XR:=XR.s SX;replace p48:=p48.s SX;replace p49:=p49.s SX;replace HB:=Hqs HB SX (by omega);replace X10:=SX.box;clear SX hS;have xX10:=X10.cell
  go_wp2_with fail
  refine(tCut p48 p49 (HL1.out (by first | rfl | trivial)) (HG1.out (by first | rfl | trivial))).mono ?_
  rintro ee wJ ⟨s50,A50,n50,c50,s51,A51,n51,c51,rfl,p50,p51,k50,k51,B⟩;clear xX10;replace XR:=XR.b B;replace X10:=X10.b B;replace HB:=Hqb HB B;clear B;clear p48 p49;have xXR:=XR.cell;have zXR0:=XR.frozen;have xX10:=X10.cell;go_wp2;clear xXR zXR0 xX10
  have SX:=StN.mk4 XR (.bool s50) (.slice A50 n50 c50) (.bool s51) (.slice A51 n51 c51);replace p50:=p50.s SX;replace p51:=p51.s SX;exact bq (v:= .agg #[.bool s50,.slice A50 n50 c50,.bool s51,.slice A51 n51 c51]) (by simp[results,Tryz.results140,go_sem,SX.box.cell]) rfl ⟨s50,A50,n50,c50,s51,A51,n51,c51,rfl,p50,p51,k50,k51,(SX.below HB.out (by omega))⟩
theorem tSine{w:World}{A:Option Addr}{n c:Nat}{s:Bool}{x:Int}{B:Option Addr}{m d:Nat}{t:Bool}{y:Int}{A':Option Addr}{n' c':Nat}{s':Bool}{B':Option Addr}{m' d':Nat}{t':Bool}{l g:Int}(h:Wn w s A n c x)(k:Wn w t B m d y)(h':Wn w s' A' n' c' PLo)(k':Wn w t' B' m' d' PHi)(hn':n'<=7)(hm':m'<=7)(hn:n<=1000)(hm:m<=1000)(hl:bndI (btL x y) (-SC) SC=l)(hg:bndI (btH x y) (-SC) SC=g):Calls Tryz.prog 140 #[.agg #[.bool s,.slice A n c,.bool t,.slice B m d],.agg #[.bool s',.slice A' n' c',.bool t',.slice B' m' d']] w (PSp w 7 l g):=by
 have hq:(2*x+PLo).fdiv (2*PLo)=qI x:=Int.fdiv_eq_ediv_of_nonneg _ (by decide)
 have hr:x-(if qI x < 0 then qI x*PLo else qI x*PHi)=rI x:=by
  unfold rI
  split <;> rfl
 have hu:y-(if qI x < 0 then qI x*PHi else qI x*PLo)=tI x y:=by
  unfold tI
  split <;> rfl
 unfold btL at hl
 unfold btH at hg
 refine tsine_core h k h' k' hn' hm' hn hm hq rfl rfl hr hu rfl rfl rfl (fun c=>?_) (fun c=>?_) (fun c=>?_) (fun c=>?_)
 ·rw[if_pos (by have:=of_decide_eq_false c;omega)]at hl;exact hl
 ·rw[if_pos (by have:=of_decide_eq_false c;omega)]at hg;exact hg
 ·rw[if_neg (by have:=of_decide_eq_true c;omega)]at hl;exact hl
 ·rw[if_neg (by have:=of_decide_eq_true c;omega)]at hg;exact hg
def ofX (cos:Bool)(g:Int):Int:=if cos then g+PLo/2 else g
def ofY (cos:Bool)(g:Int):Int:=if cos then g+1+(PHi+1) /2 else g+1
def ofL (cos:Bool)(g:Int):Int:=bndI (btL (ofX cos g) (ofY cos g)) (-SC) SC
def ofH (cos:Bool)(g:Int):Int:=bndI (btH (ofX cos g) (ofY cos g)) (-SC) SC
def Sv (cos:Bool)(x:Int)(z:Sp):Prop:=(fixB x=false/\unitI=z)\/(fixB x=true/\∃r u,Rq false (ofL cos (fixI x)) SC r/\Rq true (ofH cos (fixI x)) SC u/\mkI r u=z)
theorem sv_ex (cos:Bool)(x:Int):∃z,Sv cos x z:=by
 cases hf:fixB x
 ·exact⟨_,Or.inl ⟨hf,rfl⟩⟩
 ·obtain⟨r,hr⟩:=rq_ex false (ofL cos (fixI x)) SC;obtain⟨u,hu⟩:=rq_ex true (ofH cos (fixI x)) SC;exact⟨_,Or.inr ⟨hf,r,u,hr,hu,rfl⟩⟩
theorem StN.mk6{w:World}{g:Nat}{T:TypeId}{a0 a1 a2 a3 a4 a5:Value}(X:Bo w g #[a0,a1,a2,a3,a4,a5] T)(v0 v1 v2 v3 v4 v5:Value):
  StN w ((((((w.setCell ⟨g,0,none⟩ v0).setCell ⟨g,1,none⟩ v1).setCell ⟨g,2,none⟩ v2).setCell ⟨g,3,none⟩ v3).setCell ⟨g,4,none⟩ v4).setCell ⟨g,5,none⟩ v5) g #[a0,a1,a2,a3,a4,a5] #[v0,v1,v2,v3,v4,v5] T:=by
 have t0:StN w (w.setCell ⟨g,0,none⟩ v0) g #[a0,a1,a2,a3,a4,a5] #[v0,a1,a2,a3,a4,a5] T:=StN.at4 X 0 v0
 have s0:=t0
 have t1:StN (w.setCell ⟨g,0,none⟩ v0) ((w.setCell ⟨g,0,none⟩ v0).setCell ⟨g,1,none⟩ v1) g #[v0,a1,a2,a3,a4,a5] #[v0,v1,a2,a3,a4,a5] T:=StN.at4 s0.box 1 v1
 have s1:=s0.trans t1
 have t2:StN ((w.setCell ⟨g,0,none⟩ v0).setCell ⟨g,1,none⟩ v1) (((w.setCell ⟨g,0,none⟩ v0).setCell ⟨g,1,none⟩ v1).setCell ⟨g,2,none⟩ v2) g #[v0,v1,a2,a3,a4,a5] #[v0,v1,v2,a3,a4,a5] T:=StN.at4 s1.box 2 v2
 have s2:=s1.trans t2
 have t3:StN (((w.setCell ⟨g,0,none⟩ v0).setCell ⟨g,1,none⟩ v1).setCell ⟨g,2,none⟩ v2) ((((w.setCell ⟨g,0,none⟩ v0).setCell ⟨g,1,none⟩ v1).setCell ⟨g,2,none⟩ v2).setCell ⟨g,3,none⟩ v3) g #[v0,v1,v2,a3,a4,a5] #[v0,v1,v2,v3,a4,a5] T:=StN.at4 s2.box 3 v3
 have s3:=s2.trans t3
 have t4:StN ((((w.setCell ⟨g,0,none⟩ v0).setCell ⟨g,1,none⟩ v1).setCell ⟨g,2,none⟩ v2).setCell ⟨g,3,none⟩ v3) (((((w.setCell ⟨g,0,none⟩ v0).setCell ⟨g,1,none⟩ v1).setCell ⟨g,2,none⟩ v2).setCell ⟨g,3,none⟩ v3).setCell ⟨g,4,none⟩ v4) g #[v0,v1,v2,v3,a4,a5] #[v0,v1,v2,v3,v4,a5] T:=StN.at4 s3.box 4 v4
 have s4:=s3.trans t4
 have t5:StN (((((w.setCell ⟨g,0,none⟩ v0).setCell ⟨g,1,none⟩ v1).setCell ⟨g,2,none⟩ v2).setCell ⟨g,3,none⟩ v3).setCell ⟨g,4,none⟩ v4) ((((((w.setCell ⟨g,0,none⟩ v0).setCell ⟨g,1,none⟩ v1).setCell ⟨g,2,none⟩ v2).setCell ⟨g,3,none⟩ v3).setCell ⟨g,4,none⟩ v4).setCell ⟨g,5,none⟩ v5) g #[v0,v1,v2,v3,v4,a5] #[v0,v1,v2,v3,v4,v5] T:=StN.at4 s4.box 5 v5
 have s5:=s4.trans t5;exact s5
theorem StN.mk10{w:World}{g:Nat}{T:TypeId}{a0 a1 a2 a3 a4 a5 a6 a7 a8 a9:Value}(X:Bo w g #[a0,a1,a2,a3,a4,a5,a6,a7,a8,a9] T)(v0 v1 v2 v3 v4 v5 v6 v7 v8 v9:Value):
  StN w ((((((((((w.setCell ⟨g,0,none⟩ v0).setCell ⟨g,1,none⟩ v1).setCell ⟨g,2,none⟩ v2).setCell ⟨g,3,none⟩ v3).setCell ⟨g,4,none⟩ v4).setCell ⟨g,5,none⟩ v5).setCell ⟨g,6,none⟩ v6).setCell ⟨g,7,none⟩ v7).setCell ⟨g,8,none⟩ v8).setCell ⟨g,9,none⟩ v9) g #[a0,a1,a2,a3,a4,a5,a6,a7,a8,a9] #[v0,v1,v2,v3,v4,v5,v6,v7,v8,v9] T:=by
 have t0:StN w (w.setCell ⟨g,0,none⟩ v0) g #[a0,a1,a2,a3,a4,a5,a6,a7,a8,a9] #[v0,a1,a2,a3,a4,a5,a6,a7,a8,a9] T:=StN.at4 X 0 v0
 have s0:=t0
 have t1:StN (w.setCell ⟨g,0,none⟩ v0) ((w.setCell ⟨g,0,none⟩ v0).setCell ⟨g,1,none⟩ v1) g #[v0,a1,a2,a3,a4,a5,a6,a7,a8,a9] #[v0,v1,a2,a3,a4,a5,a6,a7,a8,a9] T:=StN.at4 s0.box 1 v1
 have s1:=s0.trans t1
 have t2:StN ((w.setCell ⟨g,0,none⟩ v0).setCell ⟨g,1,none⟩ v1) (((w.setCell ⟨g,0,none⟩ v0).setCell ⟨g,1,none⟩ v1).setCell ⟨g,2,none⟩ v2) g #[v0,v1,a2,a3,a4,a5,a6,a7,a8,a9] #[v0,v1,v2,a3,a4,a5,a6,a7,a8,a9] T:=StN.at4 s1.box 2 v2
 have s2:=s1.trans t2
 have t3:StN (((w.setCell ⟨g,0,none⟩ v0).setCell ⟨g,1,none⟩ v1).setCell ⟨g,2,none⟩ v2) ((((w.setCell ⟨g,0,none⟩ v0).setCell ⟨g,1,none⟩ v1).setCell ⟨g,2,none⟩ v2).setCell ⟨g,3,none⟩ v3) g #[v0,v1,v2,a3,a4,a5,a6,a7,a8,a9] #[v0,v1,v2,v3,a4,a5,a6,a7,a8,a9] T:=StN.at4 s2.box 3 v3
 have s3:=s2.trans t3
 have t4:StN ((((w.setCell ⟨g,0,none⟩ v0).setCell ⟨g,1,none⟩ v1).setCell ⟨g,2,none⟩ v2).setCell ⟨g,3,none⟩ v3) (((((w.setCell ⟨g,0,none⟩ v0).setCell ⟨g,1,none⟩ v1).setCell ⟨g,2,none⟩ v2).setCell ⟨g,3,none⟩ v3).setCell ⟨g,4,none⟩ v4) g #[v0,v1,v2,v3,a4,a5,a6,a7,a8,a9] #[v0,v1,v2,v3,v4,a5,a6,a7,a8,a9] T:=StN.at4 s3.box 4 v4
 have s4:=s3.trans t4
 have t5:StN (((((w.setCell ⟨g,0,none⟩ v0).setCell ⟨g,1,none⟩ v1).setCell ⟨g,2,none⟩ v2).setCell ⟨g,3,none⟩ v3).setCell ⟨g,4,none⟩ v4) ((((((w.setCell ⟨g,0,none⟩ v0).setCell ⟨g,1,none⟩ v1).setCell ⟨g,2,none⟩ v2).setCell ⟨g,3,none⟩ v3).setCell ⟨g,4,none⟩ v4).setCell ⟨g,5,none⟩ v5) g #[v0,v1,v2,v3,v4,a5,a6,a7,a8,a9] #[v0,v1,v2,v3,v4,v5,a6,a7,a8,a9] T:=StN.at4 s4.box 5 v5
 have s5:=s4.trans t5
 have t6:StN ((((((w.setCell ⟨g,0,none⟩ v0).setCell ⟨g,1,none⟩ v1).setCell ⟨g,2,none⟩ v2).setCell ⟨g,3,none⟩ v3).setCell ⟨g,4,none⟩ v4).setCell ⟨g,5,none⟩ v5) (((((((w.setCell ⟨g,0,none⟩ v0).setCell ⟨g,1,none⟩ v1).setCell ⟨g,2,none⟩ v2).setCell ⟨g,3,none⟩ v3).setCell ⟨g,4,none⟩ v4).setCell ⟨g,5,none⟩ v5).setCell ⟨g,6,none⟩ v6) g #[v0,v1,v2,v3,v4,v5,a6,a7,a8,a9] #[v0,v1,v2,v3,v4,v5,v6,a7,a8,a9] T:=StN.at4 s5.box 6 v6
 have s6:=s5.trans t6
 have t7:StN (((((((w.setCell ⟨g,0,none⟩ v0).setCell ⟨g,1,none⟩ v1).setCell ⟨g,2,none⟩ v2).setCell ⟨g,3,none⟩ v3).setCell ⟨g,4,none⟩ v4).setCell ⟨g,5,none⟩ v5).setCell ⟨g,6,none⟩ v6) ((((((((w.setCell ⟨g,0,none⟩ v0).setCell ⟨g,1,none⟩ v1).setCell ⟨g,2,none⟩ v2).setCell ⟨g,3,none⟩ v3).setCell ⟨g,4,none⟩ v4).setCell ⟨g,5,none⟩ v5).setCell ⟨g,6,none⟩ v6).setCell ⟨g,7,none⟩ v7) g #[v0,v1,v2,v3,v4,v5,v6,a7,a8,a9] #[v0,v1,v2,v3,v4,v5,v6,v7,a8,a9] T:=StN.at4 s6.box 7 v7
 have s7:=s6.trans t7
 have t8:StN ((((((((w.setCell ⟨g,0,none⟩ v0).setCell ⟨g,1,none⟩ v1).setCell ⟨g,2,none⟩ v2).setCell ⟨g,3,none⟩ v3).setCell ⟨g,4,none⟩ v4).setCell ⟨g,5,none⟩ v5).setCell ⟨g,6,none⟩ v6).setCell ⟨g,7,none⟩ v7) (((((((((w.setCell ⟨g,0,none⟩ v0).setCell ⟨g,1,none⟩ v1).setCell ⟨g,2,none⟩ v2).setCell ⟨g,3,none⟩ v3).setCell ⟨g,4,none⟩ v4).setCell ⟨g,5,none⟩ v5).setCell ⟨g,6,none⟩ v6).setCell ⟨g,7,none⟩ v7).setCell ⟨g,8,none⟩ v8) g #[v0,v1,v2,v3,v4,v5,v6,v7,a8,a9] #[v0,v1,v2,v3,v4,v5,v6,v7,v8,a9] T:=StN.at4 s7.box 8 v8
 have s8:=s7.trans t8
 have t9:StN (((((((((w.setCell ⟨g,0,none⟩ v0).setCell ⟨g,1,none⟩ v1).setCell ⟨g,2,none⟩ v2).setCell ⟨g,3,none⟩ v3).setCell ⟨g,4,none⟩ v4).setCell ⟨g,5,none⟩ v5).setCell ⟨g,6,none⟩ v6).setCell ⟨g,7,none⟩ v7).setCell ⟨g,8,none⟩ v8) ((((((((((w.setCell ⟨g,0,none⟩ v0).setCell ⟨g,1,none⟩ v1).setCell ⟨g,2,none⟩ v2).setCell ⟨g,3,none⟩ v3).setCell ⟨g,4,none⟩ v4).setCell ⟨g,5,none⟩ v5).setCell ⟨g,6,none⟩ v6).setCell ⟨g,7,none⟩ v7).setCell ⟨g,8,none⟩ v8).setCell ⟨g,9,none⟩ v9) g #[v0,v1,v2,v3,v4,v5,v6,v7,v8,a9] #[v0,v1,v2,v3,v4,v5,v6,v7,v8,v9] T:=StN.at4 s8.box 9 v9
 have s9:=s8.trans t9;exact s9
theorem StN.of6{w w1:World}{g:Nat}{T:TypeId}{a0 a1 a2 a3 a4 a5 v0 v1 v2 v3 v4 v5:Value}(X:Bo w g #[a0,a1,a2,a3,a4,a5] T)(h:(((((w.setCell ⟨g,0,none⟩ v0).setCell ⟨g,1,none⟩ v1).setCell ⟨g,2,none⟩ v2).setCell ⟨g,3,none⟩ v3).setCell ⟨g,4,none⟩ v4).setCell ⟨g,5,none⟩ v5=w1):StN w w1 g #[a0,a1,a2,a3,a4,a5] #[v0,v1,v2,v3,v4,v5] T:=h▸StN.mk6 X v0 v1 v2 v3 v4 v5
theorem StN.of10{w w1:World}{g:Nat}{T:TypeId}{a0 a1 a2 a3 a4 a5 a6 a7 a8 a9 v0 v1 v2 v3 v4 v5 v6 v7 v8 v9:Value}(X:Bo w g #[a0,a1,a2,a3,a4,a5,a6,a7,a8,a9] T)(h:((((((((((w.setCell ⟨g,0,none⟩ v0).setCell ⟨g,1,none⟩ v1).setCell ⟨g,2,none⟩ v2).setCell ⟨g,3,none⟩ v3).setCell ⟨g,4,none⟩ v4).setCell ⟨g,5,none⟩ v5).setCell ⟨g,6,none⟩ v6).setCell ⟨g,7,none⟩ v7).setCell ⟨g,8,none⟩ v8).setCell ⟨g,9,none⟩ v9)=w1):StN w w1 g #[a0,a1,a2,a3,a4,a5,a6,a7,a8,a9] #[v0,v1,v2,v3,v4,v5,v6,v7,v8,v9] T:=h▸StN.mk10 X v0 v1 v2 v3 v4 v5 v6 v7 v8 v9
end Go.Proofs.YtomikokonmikgaaGreatDoor
namespace Go.Proofs.YtomikokonmikgaaGreatDoor
open Go Go.RowKit
set_option linter.unusedVariables false
theorem qI_abs{x:Int}(h1: -2147483648*SC<=x)(h2:x<=2147483648*SC): -2147483648<=qI x/\qI x<=2147483648:=by
 obtain⟨a,b⟩:=qI_bd x;generalize qI x=q at *
 unfold SC PLo at *
 omega
theorem rI_bd{x:Int}(h1: -2147483648*SC<=x)(h2:x<=2147483648*SC): -(8*SC)<=5*rI x/\5*rI x<=8*SC:=by
 obtain⟨a,b⟩:=qI_bd x;obtain⟨c,d⟩:=qI_abs h1 h2
 unfold rI
 generalize qI x=q at *
 by_cases e:q < 0
 ·rw[if_pos e]
  unfold SC PLo at *
  omega
 ·rw[if_neg e]
  unfold SC PLo PHi at *
  omega
theorem tI_bd{x y:Int}(h1: -2147483648*SC<=x)(h2:x<=2147483648*SC)(h3:x<=y)(h4:y-x<=2000000):0<=tI x y-rI x/\tI x y-rI x<=4398046511104:=by
 obtain⟨c,d⟩:=qI_abs h1 h2
 unfold rI tI
 generalize qI x=q at *
 by_cases e:q < 0
 ·rw[if_pos e,if_pos e]
  unfold SC PLo PHi at *
  omega
 ·rw[if_neg e,if_neg e]
  unfold SC PLo PHi at *
  omega
theorem left_sin{x y:Int}{z:Rat}(h1: -2147483648*SC<=x)(h2:x<=2147483648*SC)(h3:x<=y)(h4:y-x<=2000000)(z1:(x:Rat)<=z)(z2:z<=(y:Rat)):
  ((si (rI x) 40-(tI x y-rI x+101):Int):Rat)<=sinT ((z-(qI x:Rat)*(2*qt*SR)) /SR)*SR/\sinT ((z-(qI x:Rat)*(2*qt*SR)) /SR)*SR<=((si (rI x) 40+(tI x y-rI x+101):Int):Rat):=by
 obtain⟨a,b⟩:=rI_bd h1 h2;obtain⟨c,d⟩:=tI_bd h1 h2 h3 h4;obtain⟨e,f⟩:=turns z1 z2
 have a':=Rat.intCast_le_intCast.2 a
 have b':=Rat.intCast_le_intCast.2 b
 have d':=Rat.intCast_le_intCast.2 d
 rw[Rat.intCast_neg,Rat.intCast_mul,Rat.intCast_mul]at a';rw[Rat.intCast_mul,Rat.intCast_mul]at b';rw[Rat.intCast_sub]at d'
 have l5:((5:Int):Rat)=5:=rfl
 have l8:((8:Int):Rat)=8:=rfl
 have lb:((4398046511104:Int):Rat)<=2^60:=by decide +kernel
 have l1:((101:Int):Rat)=101:=rfl
 rw[l5,l8]at a' b';obtain⟨k1,k2⟩:=core (r:=rI x) (z:=z-(qI x:Rat)*(2*qt*SR)) (W:=((tI x y:Int):Rat)-((rI x:Int):Rat)) (by grind) (by grind) e (by grind) (by grind);rw[Rat.intCast_sub,Rat.intCast_add,Rat.intCast_add,Rat.intCast_sub,l1]
 constructor <;> grind
def wide (x y:Int):Int × Int:=if qI x%2=0 then (si (rI x) 40-(tI x y-rI x+200),si (rI x) 40+(tI x y-rI x+200))else (-(si (rI x) 40+(tI x y-rI x+200)),-(si (rI x) 40-(tI x y-rI x+200)))
def sinU (x:Int)(z:Rat):Rat:=if qI x%2=0 then sinT ((z-(qI x:Rat)*(2*qt*SR)) /SR)else -sinT ((z-(qI x:Rat)*(2*qt*SR)) /SR)
theorem wide_sin{x y:Int}{z:Rat}(h1: -2147483648*SC<=x)(h2:x<=2147483648*SC)(h3:x<=y)(h4:y-x<=2000000)(z1:(x:Rat)<=z)(z2:z<=(y:Rat)):
  (((wide x y).1+99:Int):Rat)<=sinU x z*SR/\sinU x z*SR<=(((wide x y).2-99:Int):Rat):=by
 obtain⟨a,b⟩:=left_sin h1 h2 h3 h4 z1 z2
 unfold wide sinU
 by_cases c:qI x%2=0
 ·rw[if_pos c,if_pos c];simp only[]
  rw[show si (rI x) 40-(tI x y-rI x+200)+99=si (rI x) 40-(tI x y-rI x+101) by omega,show si (rI x) 40+(tI x y-rI x+200)-99=si (rI x) 40+(tI x y-rI x+101) by omega]
  exact⟨a,b⟩
 ·rw[if_neg c,if_neg c];simp only[]
  rw[show -(si (rI x) 40+(tI x y-rI x+200))+99= -(si (rI x) 40+(tI x y-rI x+101)) by omega,show -(si (rI x) 40-(tI x y-rI x+200))-99= -(si (rI x) 40-(tI x y-rI x+101)) by omega,Rat.intCast_neg,Rat.intCast_neg]
  constructor <;> grind
def TG:List Int:=ptr (2*QH) QK TL
def E6:List Int:=padd TG (psc (QK^82) TL)
theorem e6_small:pabs 2 E6*2^190<=(DD*QK^82).natAbs:=Nat.le_of_ble_eq_true (by decide +kernel)
theorem half_on{x:Rat}(h1: -2<=x)(h2:x<=2): -1<=(sinT (x+2*qt)+sinT x)*2^190/\(sinT (x+2*qt)+sinT x)*2^190<=1:=by
 obtain⟨b1,b2⟩:=pev_bd (B:=2) (x:=x) h1 h2 E6;refine small_of (m:=DD*QK^82) (by decide +kernel) e6_small b1 b2 ?_
 have e:pev TG x=sinT (x+2*qt)*((DD:Int):Rat)*((QK:Int):Rat)^82:=by
  unfold TG
  rw[pev_tr (2*QH) QK (Rat.ne_of_gt qk_pos),tl_len,sin_dd]
  have q:((2*QH:Int):Rat) / ((QK:Int):Rat)=2*qt:=by
   unfold qt
   rw[Rat.intCast_mul,Rat.div_def,Rat.div_def,Rat.mul_assoc]
   rfl
  rw[q]
 unfold E6
 rw[pev_add,pev_sc,e,<-sin_dd,Rat.intCast_mul,Rat.intCast_pow];generalize ((QK:Int):Rat)^82=k;generalize ((DD:Int):Rat)=d;generalize sinT x=s;generalize sinT (x+2*qt)=c
 grind
def ang (x:Int)(z:Rat):Rat:=(z-(qI x:Rat)*(2*qt*SR)) /SR
theorem ang_at (x:Int)(z:Rat):ang x z*SR=z-(qI x:Rat)*(2*qt*SR):=Rat.div_mul_cancel (Rat.ne_of_gt sr_pos)
theorem qt_bd:(157/100:Rat)<=qt/\qt<=158/100:=by decide +kernel
theorem ang_bd{x y:Int}{z:Rat}(h1: -2147483648*SC<=x)(h2:x<=2147483648*SC)(h3:x<=y)(h4:y-x<=2000000)(z1:(x:Rat)<=z)(z2:z<=(y:Rat)): -(17/10)<=ang x z/\ang x z<=17/10:=by
 obtain⟨a,b⟩:=rI_bd h1 h2;obtain⟨c,d⟩:=tI_bd h1 h2 h3 h4;obtain⟨e,f⟩:=turns z1 z2;rw[<-ang_at]at e f
 have u1: -(17*SC)<=10*rI x:=by unfold SC at *;omega
 have u2:10*tI x y<=17*SC:=by unfold SC at *;omega
 have u1':=Rat.intCast_le_intCast.2 u1
 have u2':=Rat.intCast_le_intCast.2 u2
 rw[Rat.intCast_neg,Rat.intCast_mul,Rat.intCast_mul]at u1';rw[Rat.intCast_mul,Rat.intCast_mul]at u2'
 have l1:((17:Int):Rat)=17:=rfl
 have l2:((10:Int):Rat)=10:=rfl
 rw[l1,l2]at u1' u2';have sp:=sr_pos;exact⟨Rat.le_of_mul_le_mul_right (c:=SR) (by grind) sp,Rat.le_of_mul_le_mul_right (c:=SR) (by grind) sp⟩
theorem sinU_ang (x:Int)(z:Rat):sinU x z=if qI x%2=0 then sinT (ang x z)else -sinT (ang x z):=rfl
theorem kbd{k:Int}(h1: -(51/10)<=(k:Rat)*(2*qt))(h2:(k:Rat)*(2*qt)<=51/10):k=0\/k=1\/k= -1:=by
 obtain⟨q1,q2⟩:=qt_bd
 have k1:k < 2:=by
  by_cases c:k < 2
  ·exact c
  ·exfalso
   have d:(2:Rat)<=(k:Rat):=Rat.intCast_le_intCast.2 (show 2<=k by omega)
   have:=Rat.mul_le_mul_of_nonneg_right d (show (0:Rat)<=2*qt by grind)
   grind
 have k2: -2 < k:=by
  by_cases c: -2 < k
  ·exact c
  ·exfalso
   have d:(k:Rat)<= -2:=Rat.intCast_le_intCast.2 (show k<= -2 by omega)
   have:=Rat.mul_le_mul_of_nonneg_right d (show (0:Rat)<=2*qt by grind)
   grind
 omega
theorem c1:((1:Int):Rat)=1:=rfl
theorem c0:((0:Int):Rat)=0:=rfl
theorem cm:((-1:Int):Rat)= -1:=rfl
def pev2:List (List Int)->Rat->Rat->Rat
 | [],_,_=>0
 | p::P,m,h=>pev p m+h*pev2 P m h
def padd2:List (List Int)->List (List Int)->List (List Int)
 | [],Q=>Q
 | p::P,[]=>p::P
 | p::P,q::Q=>padd p q::padd2 P Q
def psc2 (c:Int):List (List Int)->List (List Int)
 | []=>[]
 | p::P=>psc c p::psc2 c P
def mulM:List (List Int)->List (List Int)
 | []=>[]
 | p::P=>(0::p)::mulM P
def shm:List Int->List (List Int)
 | []=>[]
 | a::q=>padd2 [[a]] (padd2 (mulM (shm q)) ([]::shm q))
def flipH:List (List Int)->List (List Int)
 | []=>[]
 | p::P=>p::psc2 (-1) (flipH P)
def outer:List Int->List Int->List (List Int)
 | [],_=>[]
 | a::p,q=>psc a q::outer p q
def pabs2 (B:Nat):List (List Int)->Nat
 | []=>0
 | p::P=>pabs B p+B*pabs2 B P
theorem pev2_add:∀(P Q:List (List Int)) (m h:Rat),pev2 (padd2 P Q) m h=pev2 P m h+pev2 Q m h
 | [],Q,m,h=>by simp only[padd2,pev2];grind
 | p::P,[],m,h=>by simp only[padd2,pev2];grind
 | p::P,q::Q,m,h=>by
  simp only[padd2,pev2];rw[pev2_add P Q m h,pev_add]
  grind
theorem pev2_sc (c:Int):∀(P:List (List Int)) (m h:Rat),pev2 (psc2 c P) m h=(c:Rat)*pev2 P m h
 | [],m,h=>by simp only[psc2,pev2];grind
 | p::P,m,h=>by
  simp only[psc2,pev2];rw[pev2_sc c P m h,pev_sc]
  grind
theorem pev2_m:∀(P:List (List Int)) (m h:Rat),pev2 (mulM P) m h=m*pev2 P m h
 | [],m,h=>by simp only[mulM,pev2];grind
 | p::P,m,h=>by
  simp only[mulM,pev2,pev];rw[pev2_m P m h,c0]
  grind
theorem pev2_sh:∀(p:List Int) (m h:Rat),pev2 (shm p) m h=pev p (m+h)
 | [],m,h=>by simp only[shm,pev2,pev]
 | a::q,m,h=>by
  simp only[shm];rw[pev2_add,pev2_add,pev2_m];simp only[pev2,pev];rw[pev2_sh q m h]
  grind
theorem pev2_flip:∀(P:List (List Int)) (m h:Rat),pev2 (flipH P) m h=pev2 P m (-h)
 | [],m,h=>by simp only[flipH,pev2]
 | p::P,m,h=>by
  simp only[flipH,pev2];rw[pev2_sc,pev2_flip P m h,cm]
  grind
theorem pev2_outer:∀(p q:List Int) (m h:Rat),pev2 (outer p q) m h=pev p h*pev q m
 | [],q,m,h=>by simp only[outer,pev2,pev];grind
 | a::p,q,m,h=>by
  simp only[outer,pev2,pev];rw[pev2_outer p q m h,pev_sc]
  grind
theorem pev2_bd{B:Nat}{m h:Rat}(m1: -(B:Rat)<=m)(m2:m<=(B:Rat))(h1: -(B:Rat)<=h)(h2:h<=(B:Rat)):∀P:List (List Int),-((pabs2 B P:Nat):Rat)<=pev2 P m h/\pev2 P m h<=((pabs2 B P:Nat):Rat)
 | []=>by simp only[pabs2,pev2];constructor <;> grind
 | p::P=>by
  obtain⟨i1,i2⟩:=pev2_bd m1 m2 h1 h2 P;obtain⟨j1,j2⟩:=mul_bd h1 h2 i1 i2;obtain⟨a1,a2⟩:=pev_bd m1 m2 p;simp only[pabs2,pev2];rw[Rat.natCast_add,Rat.natCast_mul]
  constructor <;> grind
def E7:List (List Int):=padd2 (psc2 DD (padd2 (shm TL) (psc2 (-1) (flipH (shm TL))))) (psc2 (-2) (outer TL (pder TL)))
theorem e7_small:pabs2 2 E7*2^200<=(DD*DD).natAbs:=Nat.le_of_ble_eq_true (by decide +kernel)
theorem sin_diff{m h:Rat}(m1: -2<=m)(m2:m<=2)(h1: -2<=h)(h2:h<=2): -1<=(sinT (m+h)-sinT (m-h)-2*(sinT h*cosT m))*2^200/\(sinT (m+h)-sinT (m-h)-2*(sinT h*cosT m))*2^200<=1:=by
 obtain⟨b1,b2⟩:=pev2_bd (B:=2) (m:=m) (h:=h) m1 m2 h1 h2 E7;refine small_of (m:=DD*DD) (by decide +kernel) e7_small b1 b2 ?_
 have e2:((-2:Int):Rat)= -2:=rfl
 unfold E7
 rw[pev2_add,pev2_sc,pev2_sc,pev2_add,pev2_sc,pev2_flip,pev2_sh,pev2_sh,pev2_outer,<-sin_dd,<-sin_dd,<-sin_dd,<-cos_dd,Rat.intCast_mul,cm,e2,show m+ -h=m-h by grind]
 generalize ((DD:Int):Rat)=d;generalize sinT h=s;generalize cosT m=c;generalize sinT (m+h)=u;generalize sinT (m-h)=v
 grind
theorem tt_step{y:Rat}(y0:0<=y)(y2:y<=2)(k:Nat):∃f:Rat,0<=f/\f<=1/\tt 1 y (k+1)= -(f*tt 1 y k):=by
 have np:(0:Rat) < ((((2*((k:Int)+1))*(2*((k:Int)+1)+1):Int)):Rat):=Rat.intCast_lt_intCast.2 (nk_pos k)
 have n6:(6:Int)<=(2*((k:Int)+1))*(2*((k:Int)+1)+1):=by
  have:=Int.mul_le_mul (show (2:Int)<=2*((k:Int)+1) by omega) (show (3:Int)<=2*((k:Int)+1)+1 by omega) (by decide) (by omega)
  omega
 have n6':(6:Rat)<=((((2*((k:Int)+1))*(2*((k:Int)+1)+1):Int)):Rat):=Rat.intCast_le_intCast.2 n6
 obtain⟨_,s⟩:=mul_bd (b:=2) (a:=2) (x:=y) (e:=y) (by grind) y2 (by grind) y2;have s0:=sq_nn y;simp only[tt];generalize ((((2*((k:Int)+1))*(2*((k:Int)+1)+1):Int)):Rat)=n at *
 have e:y*y/n*n=y*y:=Rat.div_mul_cancel (Rat.ne_of_gt np)
 refine⟨y*y/n,?_,?_,?_⟩
 ·exact Rat.le_of_mul_le_mul_right (c:=n) (by rw[e];grind) np
 ·exact Rat.le_of_mul_le_mul_right (c:=n) (by rw[e];grind) np
 ·rw[Rat.div_def,Rat.div_def]
  grind
theorem ss_nn{y:Rat}(y0:0<=y)(y2:y<=2):∀j:Nat,0<=tt 1 y (2*j)/\tt 1 y (2*j)<=ss 1 y (2*j)
 | 0=>by
  simp only[tt,ss]
  constructor <;> grind
 | j+1=>by
  obtain⟨a,b⟩:=ss_nn y0 y2 j;obtain⟨f,f0,f1,ef⟩:=tt_step y0 y2 (2*j);obtain⟨g,g0,g1,eg⟩:=tt_step y0 y2 (2*j+1);have k1:=Rat.mul_nonneg f0 a;have k2:=Rat.mul_nonneg (a:=1-f) (b:=tt 1 y (2*j)) (by grind) a;have k3:=Rat.mul_nonneg g0 k1
  have e1:tt 1 y (2*(j+1))=g*(f*tt 1 y (2*j)):=by
   show tt 1 y (2*j+1+1)=_
   rw[eg,ef]
   grind
  have e2:ss 1 y (2*(j+1))=ss 1 y (2*j)+tt 1 y (2*j+1)+tt 1 y (2*(j+1)):=rfl
  rw[e2,e1,ef]
  constructor <;> grind
theorem sin_nn{y:Rat}(y0:0<=y)(y2:y<=2):0<=sinT y:=by
 rw[sin_ss];obtain⟨a,b⟩:=ss_nn y0 y2 20;exact Rat.le_trans a b
def Df (B:Rat)(f g:Rat->Rat):Prop:=∃C:Rat,0<=C/\(∀x,-B<=x->x<=B->(-C<=f x/\f x<=C)/\(-C<=g x/\g x<=C))/\
 ∀x h,-B<=x->x<=B-> -B<=x+h->x+h<=B-> -(C*(h*h))<=f (x+h)-f x-h*g x/\f (x+h)-f x-h*g x<=C*(h*h)
theorem wide_c{C D h e:Rat}(hC:C<=D)(h1: -(C*(h*h))<=e)(h2:e<=C*(h*h)): -(D*(h*h))<=e/\e<=D*(h*h):=by
 have:=Rat.mul_le_mul_of_nonneg_right hC (sq_nn h)
 constructor <;> grind
theorem Df.poly (p:List Int)(B:Nat):Df (B:Rat) (pev p) (pev (pder p)):=by
 have n1:(0:Rat)<=((pabs B p:Nat):Rat):=Rat.natCast_nonneg
 have n2:(0:Rat)<=((pabs B (pder p):Nat):Rat):=Rat.natCast_nonneg
 have n3:(0:Rat)<=((pab2 B p:Nat):Rat):=Rat.natCast_nonneg
 refine⟨((pabs B p:Nat):Rat)+((pabs B (pder p):Nat):Rat)+((pab2 B p:Nat):Rat),by grind,fun x x1 x2=>?_,fun x h x1 x2 y1 y2=>?_⟩
 ·obtain⟨a,b⟩:=pev_bd x1 x2 p;obtain⟨c,d⟩:=pev_bd x1 x2 (pder p);refine⟨⟨?_,?_⟩,?_,?_⟩ <;> grind
 ·obtain⟨a,b⟩:=prem_bd x1 x2 y1 y2 p
  unfold prem at a b
  exact wide_c (C:=((pab2 B p:Nat):Rat)) (by grind) (by grind) (by grind)
theorem Df.scale{B:Rat}{f g:Rat->Rat}(c:Rat)(H:Df B f g):Df B (fun x=>f x*c) (fun x=>g x*c):=by
 obtain⟨C,C0,b,l⟩:=H
 obtain⟨k,k1,k2,k3⟩:∃k,-k<=c/\c<=k/\0<=k:=by
  by_cases h:0<=c
  ·exact⟨c,by grind,by grind,h⟩
  ·exact⟨-c,by grind,by grind,by grind⟩
 refine⟨C*k,Rat.mul_nonneg C0 k3,fun x x1 x2=>?_,fun x h x1 x2 y1 y2=>?_⟩
 ·obtain⟨⟨a1,a2⟩,a3,a4⟩:=b x x1 x2;exact⟨mul_bd a1 a2 k1 k2,mul_bd a3 a4 k1 k2⟩
 ·obtain⟨a1,a2⟩:=l x h x1 x2 y1 y2;have m:=mul_bd a1 a2 k1 k2
  constructor <;> grind
theorem Df.sub{B:Rat}{f g f' g':Rat->Rat}(H:Df B f g)(K:Df B f' g'):Df B (fun x=>f x-f' x) (fun x=>g x-g' x):=by
 obtain⟨C,C0,b,l⟩:=H;obtain⟨D,D0,b',l'⟩:=K
 refine⟨C+D,by grind,fun x x1 x2=>?_,fun x h x1 x2 y1 y2=>?_⟩
 ·obtain⟨⟨a1,a2⟩,a3,a4⟩:=b x x1 x2;obtain⟨⟨e1,e2⟩,e3,e4⟩:=b' x x1 x2;refine⟨⟨?_,?_⟩,?_,?_⟩ <;> grind
 ·obtain⟨a1,a2⟩:=l x h x1 x2 y1 y2;obtain⟨e1,e2⟩:=l' x h x1 x2 y1 y2
  constructor <;> grind
theorem Df.id (B:Rat)(hB:0<=B):Df B (fun x=>x) (fun _=>1):=by
 refine⟨B+1,by grind,fun x x1 x2=>?_,fun x h x1 x2 y1 y2=>?_⟩
 ·refine⟨⟨?_,?_⟩,?_,?_⟩ <;> grind
 ·have:=Rat.mul_nonneg (show 0<=B+1 by grind) (sq_nn h)
  constructor <;> grind
theorem Df.mul{B:Rat}{f g f' g':Rat->Rat}(hB:0<=B)(H:Df B f g)(K:Df B f' g'):Df B (fun x=>f x*f' x) (fun x=>g x*f' x+f x*g' x):=by
 obtain⟨C,C0,b,l⟩:=H;obtain⟨D,D0,b',l'⟩:=K;have CD:=Rat.mul_nonneg C0 D0;have CDB:=Rat.mul_nonneg CD hB
 refine⟨C*D*(3+2*B),Rat.mul_nonneg CD (by grind),fun x x1 x2=>?_,fun x h x1 x2 y1 y2=>?_⟩
 ·obtain⟨⟨a1,a2⟩,a3,a4⟩:=b x x1 x2;obtain⟨⟨e1,e2⟩,e3,e4⟩:=b' x x1 x2;have m1:=mul_bd a1 a2 e1 e2;have m2:=mul_bd a3 a4 e1 e2;have m3:=mul_bd a1 a2 e3 e4;refine⟨⟨?_,?_⟩,?_,?_⟩ <;> grind
 ·obtain⟨⟨a1,a2⟩,a3,a4⟩:=b x x1 x2;obtain⟨⟨e1,e2⟩,e3,e4⟩:=b' x x1 x2;obtain⟨⟨u1,u2⟩,_,_⟩:=b' (x+h) y1 y2;obtain⟨r1,r2⟩:=l x h x1 x2 y1 y2;obtain⟨t1,t2⟩:=l' x h x1 x2 y1 y2
  have eq:f (x+h)*f' (x+h)-f x*f' x-h*(g x*f' x+f x*g' x)=f x*(f' (x+h)-f' x-h*g' x)+f' (x+h)*(f (x+h)-f x-h*g x)+h*h*(g x*g' x)+h*g x*(f' (x+h)-f' x-h*g' x):=by grind
  show -(C*D*(3+2*B)*(h*h))<=f (x+h)*f' (x+h)-f x*f' x-h*(g x*f' x+f x*g' x)/\f (x+h)*f' (x+h)-f x*f' x-h*(g x*f' x+f x*g' x)<=C*D*(3+2*B)*(h*h)
  rw[eq];have m1:=mul_bd a1 a2 t1 t2;have m2:=mul_bd u1 u2 r1 r2;have m3:=mul_bd a3 a4 e3 e4;have s:=sq_nn h;have m4:=mul_bd (b:=2*B) (x:=h) (by grind) (by grind) a3 a4;have m5:=mul_bd m4.1 m4.2 t1 t2
  have k1:=Rat.mul_nonneg s (show 0<=C*D-g x*g' x by grind)
  have k2:=Rat.mul_nonneg s (show 0<=C*D+g x*g' x by grind)
  generalize f' (x+h)-f' x-h*g' x=E2 at *;generalize f (x+h)-f x-h*g x=E1 at *;generalize h*h=q at *;generalize g x*g' x=gg at *;generalize h*g x=hg at *;generalize f x*E2=A1 at *;generalize f' (x+h)*E1=A2 at *;generalize hg*E2=A3 at *
  constructor <;> grind
theorem Df.comp{B B':Rat}{f g F G:Rat->Rat}(hB:0<=B)(H:Df B f g)(K:Df B' F G)(hin:∀x,-B<=x->x<=B-> -B'<=f x/\f x<=B'):Df B (fun x=>F (f x)) (fun x=>g x*G (f x)):=by
 obtain⟨C,C0,b,l⟩:=H;obtain⟨D,D0,b',l'⟩:=K;obtain⟨Q,hQ⟩:∃Q,Q=C*(1+2*B):=⟨_,rfl⟩
 have Q0:0<=Q:=by rw[hQ];exact Rat.mul_nonneg C0 (by grind)
 have QQ:=Rat.mul_nonneg D0 (Rat.mul_nonneg Q0 Q0);have CD:=Rat.mul_nonneg C0 D0
 refine⟨D*(Q*Q)+C*D+D,by grind,fun x x1 x2=>?_,fun x h x1 x2 y1 y2=>?_⟩
 ·obtain⟨⟨a1,a2⟩,a3,a4⟩:=b x x1 x2;obtain⟨i1,i2⟩:=hin x x1 x2;obtain⟨⟨e1,e2⟩,e3,e4⟩:=b' (f x) i1 i2;have m2:=mul_bd a3 a4 e3 e4;refine⟨⟨?_,?_⟩,?_,?_⟩ <;> grind
 ·obtain⟨⟨a1,a2⟩,a3,a4⟩:=b x x1 x2;obtain⟨i1,i2⟩:=hin x x1 x2;obtain⟨j1,j2⟩:=hin (x+h) y1 y2;obtain⟨⟨e1,e2⟩,e3,e4⟩:=b' (f x) i1 i2;obtain⟨r1,r2⟩:=l x h x1 x2 y1 y2;obtain⟨k,hk⟩:∃k,f (x+h)=f x+k:=⟨f (x+h)-f x,by grind⟩
  show -((D*(Q*Q)+C*D+D)*(h*h))<=F (f (x+h))-F (f x)-h*(g x*G (f x))/\F (f (x+h))-F (f x)-h*(g x*G (f x))<=(D*(Q*Q)+C*D+D)*(h*h)
  rw[hk]at j1 j2 r1 r2|-;obtain⟨t1,t2⟩:=l' (f x) k i1 i2 j1 j2;have s:=sq_nn h
  -- k is of first order
  have kb:k*k<=Q*Q*(h*h):=by
   have m4:(-(2*B)<=h/\h<=2*B):=⟨by grind,by grind⟩
   have hC:=Rat.mul_nonneg C0 s
   by_cases c:0<=h
   ·have p1:=mul_bd (b:=h) (x:=h) (by grind) (by grind) a3 a4
    have p2:=Rat.mul_nonneg (Rat.mul_nonneg C0 c) (show 0<=2*B-h by grind)
    have q: -(Q*h)<=k/\k<=Q*h:=by
     rw[hQ]
     constructor <;> grind
    have n1:=Rat.mul_nonneg (show 0<=Q*h-k by grind) (show 0<=Q*h+k by grind)
    grind
   ·have c':0<= -h:=by grind
    have p1:=mul_bd (b:= -h) (x:=h) (by grind) (by grind) a3 a4
    have p2:=Rat.mul_nonneg (Rat.mul_nonneg C0 c') (show 0<=2*B+h by grind)
    have q: -(Q* -h)<=k/\k<=Q* -h:=by
     rw[hQ]
     constructor <;> grind
    have n1:=Rat.mul_nonneg (show 0<=Q* -h-k by grind) (show 0<=Q* -h+k by grind)
    grind
  have kd:=Rat.mul_nonneg D0 (show 0<=Q*Q*(h*h)-k*k by grind)
  have eq:F (f x+k)-F (f x)-h*(g x*G (f x))=(F (f x+k)-F (f x)-k*G (f x))+G (f x)*(f x+k-f x-h*g x):=by grind
  rw[eq];have m1:=mul_bd e3 e4 r1 r2;have dh:=Rat.mul_nonneg D0 s;generalize F (f x+k)-F (f x)-k*G (f x)=E at *;generalize G (f x)*(f x+k-f x-h*g x)=W at *;generalize h*h=q at *;generalize k*k=kk at *
  constructor <;> grind
theorem no_room{d K:Rat}(h:∀n:Nat,d*2^n<=K):d<=0:=by
 by_cases c:d<=0
 ·exact c
 ·exfalso
  have d0:0 < d:=Rat.not_le.1 c
  obtain⟨n,hn⟩:∃n:Nat,K/d < (n:Rat):=by
   have a:= @Rat.le_ceil (K/d);refine⟨((K/d).ceil).natAbs+1,?_⟩
   have b:(((K/d).ceil:Int):Rat)<=((((K/d).ceil).natAbs:Int):Rat):=Rat.intCast_le_intCast.2 (by omega)
   have e:(((((K/d).ceil).natAbs+1:Nat)):Rat)=((((K/d).ceil).natAbs:Int):Rat)+1:=by
    rw[Rat.natCast_add]
    rfl
   rw[e]
   grind
  have two:∀m:Nat,(m:Rat)<=2^m:=fun m=>by
   induction m with
   | zero=>exact (by decide:((0:Nat):Rat)<=2^0)
   | succ k ih=>
    have p:(1:Rat)<=2^k:=by
     have:∀j:Nat,(1:Rat)<=2^j:=fun j=>by
      induction j with
      | zero=>exact (by decide:(1:Rat)<=2^0)
      | succ j ij=>rw [Rat.pow_succ];grind
     exact this k
    rw[Rat.natCast_add,Rat.pow_succ]
    have e1:((1:Nat):Rat)=1:=rfl
    rw[e1]
    grind
  have q:=h n;have r:=Rat.mul_le_mul_of_nonneg_right (two n) (Rat.le_of_lt d0)
  have s:K < (n:Rat)*d:=by
   have m:=Rat.mul_lt_mul_of_pos_right hn d0;rw[Rat.div_mul_cancel (Rat.ne_of_gt d0)]at m;exact m
  grind
theorem Df.grow{B M:Rat}{f g:Rat->Rat}(H:Df B f g)(hg:∀x,-B<=x->x<=B-> -M<=g x/\g x<=M){x h:Rat}(h0:0<=h)(x1: -B<=x)(x2:x+h<=B): -(M*h)<=f (x+h)-f x/\f (x+h)-f x<=M*h:=by
 obtain⟨C,C0,_,l⟩:=H
 have key:∀n:Nat,∀x h:Rat,0<=h-> -B<=x->x+h<=B->(f (x+h)-f x-M*h)*2^n<=C*(h*h)/\(-(f (x+h)-f x)-M*h)*2^n<=C*(h*h):=fun n=>by
  induction n with
  | zero=>
   intro x h h0 x1 x2
   obtain⟨a,b⟩:=l x h x1 (by grind) (by grind) x2;obtain⟨c,d⟩:=hg x x1 (by grind)
   have m1:=Rat.mul_nonneg h0 (show 0<=M-g x by grind)
   have m2:=Rat.mul_nonneg h0 (show 0<=M+g x by grind)
   rw[Rat.pow_zero]
   constructor <;> grind
  | succ n ih=>
   intro x h h0 x1 x2
   have e:x+h/2+h/2=x+h:=by grind
   obtain⟨a1,a2⟩:=ih x (h/2) (by grind) x1 (by grind);obtain⟨b1,b2⟩:=ih (x+h/2) (h/2) (by grind) (by grind) (by grind);rw[e]at b1 b2;rw[Rat.pow_succ];generalize (2:Rat)^n=p at *;generalize f (x+h/2)=fm at *;generalize f (x+h)=fy at *;generalize f x=fx at *
   constructor <;> grind
 constructor
 ·have:=no_room (fun n=>(key n x h h0 x1 x2).2)
  grind
 ·have:=no_room (fun n=>(key n x h h0 x1 x2).1)
  grind
def E8:List Int:=padd TH (psc (-(QK^82)) (pder TL))
theorem e8_small:pabs 2 E8*2^200<=(DD*QK^82).natAbs:=Nat.le_of_ble_eq_true (by decide +kernel)
theorem cos_sin{x:Rat}(h1: -2<=x)(h2:x<=2): -1<=(sinT (x+qt)-cosT x)*2^200/\(sinT (x+qt)-cosT x)*2^200<=1:=by
 obtain⟨b1,b2⟩:=pev_bd (B:=2) (x:=x) h1 h2 E8;refine small_of (m:=DD*QK^82) (by decide +kernel) e8_small b1 b2 ?_
 unfold E8
 rw[pev_add,pev_sc,th_at,<-cos_dd,Rat.intCast_neg,Rat.intCast_mul,Rat.intCast_pow];generalize ((QK:Int):Rat)^82=k;generalize ((DD:Int):Rat)=d;generalize cosT x=s;generalize sinT (x+qt)=c
 grind
theorem pw (n:Nat):(0:Rat) < 2^n:=Rat.pow_pos (by decide)
theorem tiny_lo{v:Rat}{n:Nat}(h: -1<=v*2^n): -(1/2^n)<=v:=by
 have e:(1/2^n:Rat)*2^n=1:=Rat.div_mul_cancel (Rat.ne_of_gt (pw n))
 exact Rat.le_of_mul_le_mul_right (c:=2^n) (by grind) (pw n)
theorem tiny_hi{v:Rat}{n:Nat}(h:v*2^n<=1):v<=1/2^n:=by
 have e:(1/2^n:Rat)*2^n=1:=Rat.div_mul_cancel (Rat.ne_of_gt (pw n))
 exact Rat.le_of_mul_le_mul_right (c:=2^n) (by grind) (pw n)
theorem sin_bd{x:Rat}(h1: -2<=x)(h2:x<=2): -(1+1/2^240)<=sinT x/\sinT x<=1+1/2^240:=by
 obtain⟨_,b⟩:=circle h1 h2;have c:=tiny_hi b;have s:=sq_nn (sinT (x+qt));refine abs_of_sq (by decide +kernel) (by grind)
theorem sin_nn2{w:Rat}(h1:0<=w)(h2:w<=2*qt): -(1/2^190)<=sinT w:=by
 obtain⟨q1,q2⟩:=qt_bd
 by_cases c:w<=2
 ·have:=sin_nn h1 c
  have p:(0:Rat)<=1/2^190:=by decide +kernel
  grind
 ·have c':=Rat.not_le.1 c
  obtain⟨a,b⟩:=half_on (x:=w-2*qt) (by grind) (by grind);have n:=sin_nn (y:= -(w-2*qt)) (by grind) (by grind);rw[sin_neg]at n
  rw[show w-2*qt+2*qt=w by grind]at a
  have:=tiny_lo a
  grind
theorem cos_nn{m:Rat}(h1: -qt<=m)(h2:m<=qt): -(1/2^189)<=cosT m:=by
 obtain⟨q1,q2⟩:=qt_bd;have a:=sin_nn2 (w:=m+qt) (by grind) (by grind);obtain⟨_,b⟩:=cos_sin (x:=m) (by grind) (by grind);have c:=tiny_hi b
 have e:(1/2^190:Rat)+1/2^200<=1/2^189:=by decide +kernel
 grind
theorem sin_mono{a b:Rat}(h1: -qt<=a)(h2:a<=b)(h3:b<=qt): -(1/2^186)<=sinT b-sinT a:=by
 obtain⟨q1,q2⟩:=qt_bd;obtain⟨m,hm⟩:∃m,m=(a+b) /2:=⟨_,rfl⟩;obtain⟨h,hh⟩:∃h,h=(b-a) /2:=⟨_,rfl⟩
 have e1:m*2=a+b:=by rw[hm];exact Rat.div_mul_cancel (by decide)
 have e2:h*2=b-a:=by rw[hh];exact Rat.div_mul_cancel (by decide)
 obtain⟨d,_⟩:=sin_diff (m:=m) (h:=h) (by grind) (by grind) (by grind) (by grind)
 have d':=tiny_lo d
 rw[show m+h=b by grind,show m-h=a by grind]at d'
 have c:=cos_nn (m:=m) (by grind) (by grind);have n:=sin_nn (y:=h) (by grind) (by grind);obtain⟨_,n2⟩:=sin_bd (x:=h) (by grind) (by grind);have k:=Rat.mul_nonneg n (b:=cosT m+1/2^189) (by grind)
 have p1:(0:Rat)<=1/2^189:=by decide +kernel
 have k2:=Rat.mul_le_mul_of_nonneg_right n2 p1
 have e:2*((1+1/2^240)*(1/2^189):Rat)+1/2^200<=1/2^186:=by decide +kernel
 generalize (1/2^189:Rat)=u at *;generalize (1/2^240:Rat)=v at *;generalize (1/2^200:Rat)=t at *;generalize (1/2^186:Rat)=r at *
 grind
abbrev LL:Int:=556007400341776889366619349950871382564337615372407628299115012691690451646897885188557125
def an:Nat->Nat->List Int
 | 0,_=>[]
 | f+1,j=>0::(if j%2=0 then LL/ (2*j+1)else -(LL/ (2*j+1)))::an f (j+1)
def AL:List Int:=an 111 0
def atT (u:Rat):Rat:=pev AL u*(1/ (LL:Int))
def atD (u:Rat):Rat:=pev (pder AL) u*(1/ (LL:Int))
def zer:Nat->Int->List Int
 | 0,c=>[c]
 | n+1,c=>0::zer n c
theorem pev_zer (c:Int)(u:Rat):∀n,pev (zer n c) u=u^n*(c:Rat)
 | 0=>by simp only[zer,pev];rw[Rat.pow_zero];grind
 | n+1=>by
  simp only[zer,pev];rw[pev_zer c u n,Rat.pow_succ,Rat.intCast_zero]
  grind
theorem al_der:padd (pmul [1,0,1] (pder AL)) [-LL]=padd (zer 222 LL) (zer 223 0):=by decide +kernel
theorem ll_pos:(0:Rat) < ((LL:Int):Rat):=by
 have h:(0:Int) < LL:=by decide
 exact Rat.intCast_lt_intCast.2 h
theorem at_slope (u:Rat):(1+u*u)*atD u=1+u^222:=by
 have h:=congrArg (fun p=>pev p u) al_der
 have h':pev (padd (pmul [1,0,1] (pder AL)) [-LL]) u=pev (padd (zer 222 LL) (zer 223 0)) u:=h
 rw[pev_add,pev_mul,pev_add,pev_zer,pev_zer,Rat.intCast_zero,Rat.mul_zero,Rat.add_zero]at h'
 have e1:pev [1,0,1] u=1+u*u:=by
  simp only[pev]
  rw[Rat.intCast_zero,show ((1:Int):Rat)=1 from rfl]
  grind
 have e2:pev [-LL] u= -((LL:Int):Rat):=by
  simp only[pev];rw[Rat.intCast_neg]
  grind
 rw[e1,e2]at h'
 have e3:(1/ ((LL:Int):Rat))*((LL:Int):Rat)=1:=Rat.div_mul_cancel (Rat.ne_of_gt ll_pos)
 have p:=ll_pos
 unfold atD
 generalize pev (pder AL) u=d at *;generalize ((LL:Int):Rat)=l at *;generalize (1/l:Rat)=i at *;generalize u^222=q at *
 have k:((1+u*u)*(d*i)-(1+q))*l=0:=by grind
 rcases Rat.mul_eq_zero.1 k with g | g
 ·grind
 ·exact absurd g (Rat.ne_of_gt p)
theorem pow_bd{v:Rat}(h0:0<=v)(h1:v<=1/4):∀n:Nat,0<=v^n/\v^n<=(1/4)^n
 | 0=>by rw[Rat.pow_zero,Rat.pow_zero];constructor <;> grind
 | n+1=>by
  obtain⟨a,b⟩:=pow_bd h0 h1 n;rw[Rat.pow_succ,Rat.pow_succ];have m1:=Rat.mul_nonneg a h0;have m2:=Rat.mul_le_mul_of_nonneg_right b h0
  have c:(0:Rat)<=(1/4)^n:=Rat.le_trans a b
  have m3:=Rat.mul_nonneg c (show 0<=1/4-v by grind)
  constructor <;> grind
theorem pow_two (u:Rat):∀n:Nat,u^(2*n)=(u*u)^n
 | 0=>by rw[Nat.mul_zero,Rat.pow_zero,Rat.pow_zero]
 | n+1=>by
  rw[show 2*(n+1)=2*n+1+1 by omega,Rat.pow_succ,Rat.pow_succ,Rat.pow_succ,pow_two u n]
  grind
theorem quart_eq:((1:Rat) /4)^111<=1/2^222:=by decide +kernel
theorem pow_222{u:Rat}(h1: -(1/2)<=u)(h2:u<=1/2):0<=u^222/\u^222<=1/2^222:=by
 have s:0<=u*u:=sq_nn u
 have t:u*u<=1/4:=by
  have:=Rat.mul_nonneg (show 0<=1/2-u by grind) (show 0<=1/2+u by grind)
  grind
 have e:u^222=(u*u)^111:=pow_two u 111
 rw[e];obtain⟨a,b⟩:=pow_bd s t 111;exact⟨a,Rat.le_trans b quart_eq⟩
theorem Df.le{B B':Rat}{f g:Rat->Rat}(H:Df B f g)(h:B'<=B):Df B' f g:=by
 obtain⟨C,C0,b,l⟩:=H
 exact⟨C,C0,fun x x1 x2=>b x (by grind) (by grind),fun x y x1 x2 y1 y2=>l x y (by grind) (by grind) (by grind) (by grind)⟩
theorem at_df:Df (1/2) atT atD:=by
 have h:=(Df.poly AL 1).scale (1/ (LL:Int))
 have e:((1:Nat):Rat)=1:=rfl
 rw[e]at h;exact h.le (by grind)
theorem at_zero:atT 0=0:=by
 have e:pev AL 0=0:=by
  show pev (an 111 0) 0=0
  unfold an
  simp only[pev];rw[Rat.intCast_zero]
  grind
 unfold atT
 rw[e]
 grind
theorem atD_bd{u:Rat}(h1: -(1/2)<=u)(h2:u<=1/2):0<=atD u/\atD u<=1+1/2^222:=by
 have e:=at_slope u;obtain⟨a,b⟩:=pow_222 h1 h2;have s:=sq_nn u;generalize u^222=q at *;generalize (1/2^222:Rat)=t at *;generalize atD u=d at *
 have d0:0<=d:=by
  by_cases c:0<=d
  ·exact c
  ·exfalso
   have:=Rat.mul_nonneg s (show 0<= -d by grind)
   grind
 have m:=Rat.mul_nonneg s d0
 constructor <;> grind
theorem at_bd{u:Rat}(h1: -(1/2)<=u)(h2:u<=1/2): -(2/3)<=atT u/\atT u<=2/3:=by
 have g:=fun x (x1: -(1/2:Rat)<=x) (x2:x<=1/2)=>(show -(4/3)<=atD x/\atD x<=4/3 by
  obtain⟨a,b⟩:=atD_bd x1 x2
  have e:(1/2^222:Rat)<=1/3:=by decide +kernel
  generalize (1/2^222:Rat)=t at *
  constructor <;> grind)
 have z:=at_zero
 by_cases c:0<=u
 ·have k:=at_df.grow g (x:=0) (h:=u) c (by grind) (by grind)
  rw[show (0:Rat)+u=u by grind,z]at k
  constructor <;> grind
 ·have k:=at_df.grow g (x:=u) (h:= -u) (by grind) (by grind) (by grind)
  rw[show u+ -u=0 by grind,z]at k
  constructor <;> grind
def c2T (x:Rat):Rat:=pev (pder (pder TL)) x*(1/ (DD:Int))
theorem e9_small:pabs 2 (padd (pder (pder TL)) TL)*2^280<=DD.natAbs:=Nat.le_of_ble_eq_true (by decide +kernel)
theorem sin_df:Df 2 sinT cosT:=by
 have h:=(Df.poly TL 2).scale (1/ (DD:Int))
 have e:((2:Nat):Rat)=2:=rfl
 rw[e]at h
 have f1:(fun x=>pev TL x*(1/ ((DD:Int):Rat)))=sinT:=by
  funext x
  unfold sinT
  grind
 have f2:(fun x=>pev (pder TL) x*(1/ ((DD:Int):Rat)))=cosT:=by
  funext x
  unfold cosT
  grind
 rw[f1,f2]at h;exact h
theorem cos_df:Df 2 cosT c2T:=by
 have h:=(Df.poly (pder TL) 2).scale (1/ (DD:Int))
 have e:((2:Nat):Rat)=2:=rfl
 rw[e]at h
 have f2:(fun x=>pev (pder TL) x*(1/ ((DD:Int):Rat)))=cosT:=by
  funext x
  unfold cosT
  grind
 rw[f2]at h;exact h
theorem c2_near{x:Rat}(h1: -2<=x)(h2:x<=2): -1<=(c2T x+sinT x)*2^280/\(c2T x+sinT x)*2^280<=1:=by
 have e2:((2:Nat):Rat)=2:=rfl
 obtain⟨a,b⟩:=pev_bd (B:=2) (x:=x) (by rw[e2];exact h1) (by rw[e2];exact h2) (padd (pder (pder TL)) TL);refine small_of (n:=pabs 2 (padd (pder (pder TL)) TL)) (m:=DD) (by decide) e9_small a b ?_;rw[pev_add];have s:=sin_dd x
 have c:(1/ ((DD:Int):Rat))*((DD:Int):Rat)=1:=Rat.div_mul_cancel (Rat.ne_of_gt dd_pos)
 unfold c2T
 generalize (1/ ((DD:Int):Rat))=i at *;generalize ((DD:Int):Rat)=d at *
 grind
def fz (u:Rat):Rat:=sinT (atT u)-u*cosT (atT u)
def gz (u:Rat):Rat:=atD u*cosT (atT u)-(1*cosT (atT u)+u*(atD u*c2T (atT u)))
theorem at_in{x:Rat}(x1: -(1/2)<=x)(x2:x<=1/2): -2<=atT x/\atT x<=2:=by
 obtain⟨a,b⟩:=at_bd x1 x2
 constructor <;> grind
theorem fz_df:Df (1/2) fz gz:=by
 have s:=Df.comp (B:=1/2) (B':=2) (by grind) at_df sin_df (fun x x1 x2=>at_in x1 x2)
 have c:=Df.comp (B:=1/2) (B':=2) (by grind) at_df cos_df (fun x x1 x2=>at_in x1 x2)
 have m:=Df.mul (B:=1/2) (by grind) (Df.id (1/2) (by grind)) c;exact s.sub m
theorem cosT_bd{x:Rat}(h1: -2<=x)(h2:x<=2): -(1+1/2^200)<=cosT x/\cosT x<=1+1/2^200:=by
 obtain⟨a,b⟩:=circleD h1 h2;have c:=tiny_hi b;have s:=sq_nn (sinT x);refine abs_of_sq (by decide +kernel) (by grind)
theorem eps_13:(1/2^222:Rat)*2+1/2^280*2+(1/2^222:Rat)<=1/2^220/\(1/2^200:Rat)<=1/3/\(1/2^240:Rat)<=1/3/\(0:Rat)<=1/2^220/\(0:Rat)<=1/2^280/\(0:Rat)<=1/2^222/\(1/2^222:Rat)<=1/4:=by decide +kernel
theorem gz_bd{u M:Rat}(u1: -(1/2)<=u)(u2:u<=1/2)(f1: -M<=fz u)(f2:fz u<=M): -(M/2+1/2^220)<=gz u/\gz u<=M/2+1/2^220:=by
 have sl:=at_slope u;obtain⟨q1,q2⟩:=pow_222 u1 u2;obtain⟨a1,a2⟩:=at_in u1 u2;obtain⟨t1,t2⟩:=c2_near a1 a2
 have t1':=tiny_lo t1
 have t2':=tiny_hi t2
 obtain⟨b1,b2⟩:=cosT_bd a1 a2;obtain⟨s1,s2⟩:=sin_bd a1 a2;obtain⟨e1,e2,e3,e4,e5,e6,e7⟩:=eps_13
 unfold fz at f1 f2
 unfold gz
 generalize atT u=A at *;generalize atD u=p at *;generalize u^222=q at *;obtain⟨τ,hτ⟩:∃τ,τ=c2T A+sinT A:=⟨_,rfl⟩
 have hc:c2T A=τ-sinT A:=by grind
 rw[<-hτ]at t1' t2';rw[hc];generalize sinT A=s at *;generalize cosT A=c at *;clear t1 t2 hτ hc;generalize (1/2^222:Rat)=d at *;generalize (1/2^280:Rat)=e at *;generalize (1/2^220:Rat)=g at *;generalize (1/2^200:Rat)=v at *;generalize (1/2^240:Rat)=z at *
 -- (1+u u) times the slope
 obtain⟨G,hG⟩:∃G,G=p*c-(1*c+u*(p*(τ-s))):=⟨_,rfl⟩;rw[<-hG]
 have key:(1+u*u)*G=u*(s-u*c)+(q*(c+u*s)-u*(1+q)*τ):=by
  rw[hG]
  have:(1+u*u)*(p*c-(1*c+u*(p*(τ-s))))=((1+u*u)*p)*c-(1+u*u)*c-u*((1+u*u)*p)*(τ-s):=by grind
  rw[this,sl]
  grind
 have M0:0<=M:=by grind
 have m1:=mul_bd u1 u2 f1 f2
 have cs: -2<=c+u*s/\c+u*s<=2:=by
  have:=mul_bd u1 u2 s1 s2
  constructor <;> grind
 have m2:=mul_bd (b:=d) (x:=q) (by grind) q2 cs.1 cs.2;have m3:=mul_bd (b:=1/2) (x:=u) (a:=5/4) (e:=1+q) u1 u2 (by grind) (by grind);have m4:=mul_bd m3.1 m3.2 t1' t2'
 have bd: -(M/2+g)<=(1+u*u)*G/\(1+u*u)*G<=M/2+g:=by
  rw[key];generalize u*(s-u*c)=W1 at *;generalize q*(c+u*s)=W2 at *;generalize u*(1+q)*τ=W3 at *
  constructor <;> grind
 have uu:=sq_nn u
 constructor
 ·by_cases c0:0<=G
  ·grind
  ·have:=Rat.mul_nonneg uu (show 0<= -G by grind)
   grind
 ·by_cases c0:0<=G
  ·have:=Rat.mul_nonneg uu c0
   grind
  ·grind
theorem sin_zero:sinT 0=0:=by
 have h:=sin_neg 0
 rw[show (-0:Rat)=0 from by decide]at h
 grind
theorem fz_zero:fz 0=0:=by
 unfold fz
 rw[at_zero,sin_zero]
 grind
theorem slope_small{u:Rat}(u1: -(1/2)<=u)(u2:u<=1/2): -(1/2^220)<=sinT (atT u)-u*cosT (atT u)/\sinT (atT u)-u*cosT (atT u)<=1/2^220:=by
 obtain⟨e1,e2,e3,e4,e5,e6,e7⟩:=eps_13
 have key:∀n:Nat,∀x:Rat,-(1/2)<=x->x<=1/2->(fz x-1/2^220)*2^n<=2/\(-fz x-1/2^220)*2^n<=2:=fun n=>by
  induction n with
  | zero=>
   intro x x1 x2
   obtain⟨a1,a2⟩:=at_in x1 x2;obtain⟨b1,b2⟩:=cosT_bd a1 a2;obtain⟨s1,s2⟩:=sin_bd a1 a2;have m:=mul_bd x1 x2 b1 b2;generalize (1/2^220:Rat)=g at *;rw[Rat.pow_zero]
   unfold fz
   generalize (1/2^200:Rat)=v at *;generalize (1/2^240:Rat)=z at *
   constructor <;> grind
  | succ n ih=>
   intro x x1 x2
   -- all are bounded by M
   obtain⟨M,hM⟩:∃M:Rat,(M-1/2^220)*2^n=2:=by
    refine⟨2/2^n+1/2^220,?_⟩
    have:=Rat.div_mul_cancel (a:=2) (Rat.ne_of_gt (pw n))
    generalize (2:Rat) /2^n=t at *
    grind
   have pn:=pw n
   have fb:∀y:Rat,-(1/2)<=y->y<=1/2-> -M<=fz y/\fz y<=M:=fun y y1 y2=>by
    obtain⟨k1,k2⟩:=ih y y1 y2
    have h1:fz y-1/2^220<=M-1/2^220:=Rat.le_of_mul_le_mul_right (c:=2^n) (by rw[hM];exact k1) pn
    have h2: -fz y-1/2^220<=M-1/2^220:=Rat.le_of_mul_le_mul_right (c:=2^n) (by rw[hM];exact k2) pn
    generalize (1/2^220:Rat)=g at *
    constructor <;> grind
   have gb:∀y:Rat,-(1/2)<=y->y<=1/2-> -(M/2+1/2^220)<=gz y/\gz y<=M/2+1/2^220:=fun y y1 y2=>gz_bd y1 y2 (fb y y1 y2).1 (fb y y1 y2).2
   have z:=fz_zero
   have M0:0<=M:=by
    have:=fb x x1 x2
    grind
   have r: -(M/4+1/2^220/2)<=fz x/\fz x<=M/4+1/2^220/2:=by
    by_cases c:0<=x
    ·have k:=fz_df.grow gb (x:=0) (h:=x) c (by grind) (by grind)
     rw[show (0:Rat)+x=x by grind,z]at k
     have m:=Rat.mul_nonneg (show 0<=M/2+1/2^220 by grind) (show 0<=1/2-x by grind)
     generalize (1/2^220:Rat)=g at *
     constructor <;> grind
    ·have k:=fz_df.grow gb (x:=x) (h:= -x) (by grind) (by grind) (by grind)
     rw[show x+ -x=0 by grind,z]at k
     have m:=Rat.mul_nonneg (show 0<=M/2+1/2^220 by grind) (show 0<=1/2+x by grind)
     generalize (1/2^220:Rat)=g at *
     constructor <;> grind
   generalize (1/2^220:Rat)=g at *;rw[Rat.pow_succ];generalize (2:Rat)^n=p at *;generalize fz x=f at *
   have m1:=Rat.mul_nonneg (Rat.le_of_lt pn) (show 0<=M/4+g/2-f by grind)
   have m2:=Rat.mul_nonneg (Rat.le_of_lt pn) (show 0<=M/4+g/2+f by grind)
   have m3:=Rat.mul_nonneg (Rat.le_of_lt pn) e4
   constructor <;> grind
 have a:=no_room (fun n=>(key n u u1 u2).1)
 have b:=no_room (fun n=>(key n u u1 u2).2)
 unfold fz at a b
 constructor <;> grind
def aT (m:Int):Nat->Int
 | 0=>m
 | k+1=>aT m k*m/SC*m/SC
def aS (m:Int):Nat->Int
 | 0=>0
 | k+1=>aS m k+(if k%2=1 then -(aT m k/ (2*(k:Int)+1))else aT m k/ (2*(k:Int)+1))
def eT (y:Rat):Nat->Rat
 | 0=>y
 | k+1=>eT y k*y*y
def eS (y:Rat):Nat->Rat
 | 0=>0
 | k+1=>eS y k+(if k%2=1 then -(eT y k/ ((2*(k:Int)+1:Int):Rat))else eT y k/ ((2*(k:Int)+1:Int):Rat))
theorem ll_odd:∀j:Fin 111,LL%(2*(j.val:Int)+1)=0:=by decide +kernel
theorem an_sum (y:Rat):∀f j:Nat,j+f<=111->eT y j*pev (an f j) y=(eS y (j+f)-eS y j)*((LL:Int):Rat)*y
 | 0,j,_=>by
  simp only[an,pev,Nat.add_zero]
  grind
 | f+1,j,hj=>by
  have ih:=an_sum y f (j+1) (by omega);have o:=ll_odd ⟨j,by omega⟩
  simp only at o;obtain⟨L,hL⟩:∃L,LL/ (2*(j:Int)+1)=L:=⟨_,rfl⟩
  have m:L*(2*(j:Int)+1)=LL:=by
   rw[<-hL];exact Int.ediv_mul_cancel (Int.dvd_of_emod_eq_zero o)
  have m':=congrArg (fun z:Int=>(z:Rat)) m
  have m2:((L*(2*(j:Int)+1):Int):Rat)=((LL:Int):Rat):=m'
  rw[Rat.intCast_mul]at m2
  have p:(0:Rat) < ((2*(j:Int)+1:Int):Rat):=Rat.intCast_lt_intCast.2 (show (0:Int) < 2*(j:Int)+1 by omega)
  have d:=Rat.div_mul_cancel (a:=eT y j) (Rat.ne_of_gt p)
  rw[show j+1+f=j+(f+1) by omega]at ih
  have es:eS y (j+1)=eS y j+(if j%2=1 then -(eT y j/ ((2*(j:Int)+1:Int):Rat))else eT y j/ ((2*(j:Int)+1:Int):Rat)):=rfl
  have et:eT y (j+1)=eT y j*y*y:=rfl
  rw[es,et]at ih;simp only[an,pev];rw[hL,Rat.intCast_zero];generalize eS y (j+(f+1))=S2 at *;generalize eS y j=S1 at *;generalize pev (an f (j+1)) y=R at *;generalize ((2*(j:Int)+1:Int):Rat)=q at *;generalize ((LL:Int):Rat)=l at *;generalize eT y j=t at *;generalize t/q=w at *;clear es et m m' o hL hj
  by_cases c:j%2=1
  ·rw[if_pos c]at ih
   rw[if_neg (show ¬j%2=0 by omega),Rat.intCast_neg]
   generalize ((L:Int):Rat)=v at *;rw[<-m2]at ih|-;rw[<-d]at ih|-
   grind
  ·rw[if_neg c]at ih
   rw[if_pos (show j%2=0 by omega)]
   generalize ((L:Int):Rat)=v at *;rw[<-m2]at ih|-;rw[<-d]at ih|-
   grind
theorem at_sum (y:Rat)(h:y≠0):eS y 111=atT y:=by
 have k:=an_sum y 111 0 (by omega)
 have e0:eS y 0=0:=rfl
 have t0:eT y 0=y:=rfl
 rw[Nat.zero_add,e0,t0]at k
 have c:(1/ ((LL:Int):Rat))*((LL:Int):Rat)=1:=Rat.div_mul_cancel (Rat.ne_of_gt ll_pos)
 unfold atT AL
 generalize pev (an 111 0) y=P at *;generalize eS y 111=S at *;generalize (1/ ((LL:Int):Rat))=i at *;generalize ((LL:Int):Rat)=l at *
 have z:y*(P*i-S)=0:=by grind
 rcases Rat.mul_eq_zero.1 z with g | g
 ·exact absurd g h
 ·grind
theorem at_err{m:Int}{y:Rat}(hy:y*SR=(m:Rat))(y1: -(1/2)<=y)(y2:y<=1/2):∀k:Nat,(-2<=((aT m k:Int):Rat)-eT y k*SR/\((aT m k:Int):Rat)-eT y k*SR<=2)/\
  (-(5/3*(k:Rat))<=((aS m k:Int):Rat)-eS y k*SR/\((aS m k:Int):Rat)-eS y k*SR<=5/3*(k:Rat))
 | 0=>by
  have e0:aT m 0=m:=rfl
  have e1:eT y 0=y:=rfl
  have e2:aS m 0=0:=rfl
  have e3:eS y 0=0:=rfl
  rw[e0,e1,e2,e3,Rat.intCast_zero,show ((0:Nat):Rat)=0 from rfl,hy]
  refine⟨⟨?_,?_⟩,?_,?_⟩ <;> grind
 | k+1=>by
  obtain⟨⟨a1,a2⟩,b1,b2⟩:=at_err hy y1 y2 k
  have ea:aT m (k+1)=aT m k*m/SC*m/SC:=rfl
  have et:eT y (k+1)=eT y k*y*y:=rfl
  have es:aS m (k+1)=aS m k+(if k%2=1 then -(aT m k/ (2*(k:Int)+1))else aT m k/ (2*(k:Int)+1)):=rfl
  have ee:eS y (k+1)=eS y k+(if k%2=1 then -(eT y k/ ((2*(k:Int)+1:Int):Rat))else eT y k/ ((2*(k:Int)+1:Int):Rat)):=rfl
  obtain⟨v,hv⟩:∃v,aT m k*m/SC=v:=⟨_,rfl⟩;obtain⟨v1,v2⟩:=fl_div (aT m k*m) SC (by decide) (z:=((aT m k:Int):Rat)*y) (by rw[Rat.intCast_mul,<-hy];grind);rw[hv]at v1 v2;obtain⟨u1,u2⟩:=fl_div (v*m) SC (by decide) (z:=(v:Rat)*y) (by rw[Rat.intCast_mul,<-hy];grind)
  have pq:(0:Rat) < ((2*(k:Int)+1:Int):Rat):=Rat.intCast_lt_intCast.2 (show (0:Int) < 2*(k:Int)+1 by omega)
  obtain⟨w1,w2⟩:=fl_div (aT m k) (2*(k:Int)+1) (by omega) (z:=((aT m k:Int):Rat) / ((2*(k:Int)+1:Int):Rat)) (Rat.div_mul_cancel (Rat.ne_of_gt pq));rw[ea,et,hv]
  have yy:0<=y*y/\y*y<=1/4:=by
   have:=Rat.mul_nonneg (show 0<=1/2-y by grind) (show 0<=1/2+y by grind)
   exact⟨sq_nn y,by grind⟩
  have m1:=mul_bd (b:=2) (x:=((aT m k:Int):Rat)-eT y k*SR) (a:=1/4) (e:=y*y) a1 a2 (by grind) yy.2
  -- the term
  have tb:∀q:Int,aT m k/ (2*(k:Int)+1)=q-> -(5/3)<=(q:Rat)-eT y k/ ((2*(k:Int)+1:Int):Rat)*SR/\(q:Rat)-eT y k/ ((2*(k:Int)+1:Int):Rat)*SR<=5/3:=fun q hq=>by
   rw[hq]at w1 w2;have d1:=Rat.div_mul_cancel (a:=((aT m k:Int):Rat)) (Rat.ne_of_gt pq);have d2:=Rat.div_mul_cancel (a:=eT y k) (Rat.ne_of_gt pq)
   by_cases k0:k=0
   ·subst k0
    have e0:aT m 0=m:=rfl
    have e1:eT y 0=y:=rfl
    have c1:((2*((0:Nat):Int)+1:Int):Rat)=1:=rfl
    rw[c1]at d1 d2 w1 w2|-;rw[e0]at d1 w1 w2;rw[e1]at d2|-;generalize (m:Rat) /1=g1 at *;generalize y/1=g2 at *
    rw[show g2=y by grind,hy]
    constructor <;> grind
   ·have p3:(3:Rat)<=((2*(k:Int)+1:Int):Rat):=Rat.intCast_le_intCast.2 (show (3:Int)<=2*(k:Int)+1 by omega)
    generalize ((2*(k:Int)+1:Int):Rat)=p at *;generalize ((aT m k:Int):Rat) /p=g1 at *;generalize eT y k/p=g2 at *
    have dd:(g1-g2*SR)*p=((aT m k:Int):Rat)-eT y k*SR:=by grind
    have n1:g1-g2*SR<=2/3:=by
     by_cases c:g1-g2*SR<=2/3
     ·exact c
     ·exfalso
      have:=Rat.mul_nonneg (show 0<=p-3 by grind) (show 0<=g1-g2*SR by grind)
      grind
    have n2: -(2/3)<=g1-g2*SR:=by
     by_cases c: -(2/3)<=g1-g2*SR
     ·exact c
     ·exfalso
      have:=Rat.mul_nonneg (show 0<=p-3 by grind) (show 0<= -(g1-g2*SR) by grind)
      grind
    constructor <;> grind
  obtain⟨t1,t2⟩:=tb _ rfl;refine⟨⟨?_,?_⟩,?_⟩
  ·generalize ((aT m k:Int):Rat)=T at *;generalize eT y k=e at *;generalize (((v*m/SC:Int)):Rat)=z at *;generalize (v:Rat)=V at *;have k1:=mul_bd (b:=1/2) (x:=y) (a:=1) (e:=T*y-V) y1 y2 (by grind) (by grind);clear tb w1 w2 t1 t2 b1 b2
   grind
  ·generalize ((aT m k:Int):Rat)=T at *;generalize eT y k=e at *;generalize (((v*m/SC:Int)):Rat)=z at *;generalize (v:Rat)=V at *;have k1:=mul_bd (b:=1/2) (x:=y) (a:=1) (e:=T*y-V) y1 y2 (by grind) (by grind);clear tb w1 w2 t1 t2 b1 b2
   grind
  ·rw[es,ee,Rat.natCast_add,show ((1:Nat):Rat)=1 from rfl]
   clear tb m1 yy u1 u2 v1 v2 w1 w2 a1 a2
   by_cases c:k%2=1
   ·rw[if_pos c,if_pos c,Rat.intCast_add,Rat.intCast_neg]
    constructor <;> grind
   ·rw[if_neg c,if_neg c,Rat.intCast_add]
    constructor <;> grind
theorem at_ser{m:Int}{y:Rat}(hy:y*SR=(m:Rat))(y1: -(1/2)<=y)(y2:y<=1/2): -185<=((aS m 111:Int):Rat)-atT y*SR/\((aS m 111:Int):Rat)-atT y*SR<=185:=by
 by_cases h:y=0
 ·subst h
  have m0:m=0:=by
   rw[Rat.zero_mul]at hy;exact Rat.intCast_inj.1 (hy.symm.trans rfl)
  subst m0
  have z:aS 0 111=0:=by decide +kernel
  rw[z,at_zero];rw[Rat.intCast_zero]
  constructor <;> grind
 ·obtain⟨_,b1,b2⟩:=at_err hy y1 y2 111;rw[at_sum y h]at b1 b2
  have e:((111:Nat):Rat)=111:=rfl
  rw[e]at b1 b2
  constructor <;> grind
def E11:List (List Int):=padd2 (psc2 DD (shm (pder TL))) (padd2 (psc2 (-1) (outer (pder TL) (pder TL))) (outer TL TL))
theorem e11_small:pabs2 2 E11*2^200<=(DD*DD).natAbs:=Nat.le_of_ble_eq_true (by decide +kernel)
theorem cos_add{m h:Rat}(m1: -2<=m)(m2:m<=2)(h1: -2<=h)(h2:h<=2): -1<=(cosT (m+h)-(cosT m*cosT h-sinT m*sinT h))*2^200/\(cosT (m+h)-(cosT m*cosT h-sinT m*sinT h))*2^200<=1:=by
 obtain⟨b1,b2⟩:=pev2_bd (B:=2) (m:=m) (h:=h) m1 m2 h1 h2 E11;refine small_of (m:=DD*DD) (by decide +kernel) e11_small b1 b2 ?_
 unfold E11
 rw[pev2_add,pev2_sc,pev2_add,pev2_sc,pev2_outer,pev2_outer,pev2_sh,<-sin_dd,<-sin_dd,<-cos_dd,<-cos_dd,<-cos_dd,Rat.intCast_mul,cm];generalize ((DD:Int):Rat)=d;generalize sinT h=s;generalize cosT m=c;generalize sinT m=u;generalize cosT h=v;generalize cosT (m+h)=w
 grind
theorem sin_add{m h:Rat}(m1: -2<=m)(m2:m<=2)(h1: -2<=h)(h2:h<=2): -1<=(sinT (m+h)-(sinT m*cosT h+cosT m*sinT h))*2^200/\(sinT (m+h)-(sinT m*cosT h+cosT m*sinT h))*2^200<=1:=by
 obtain⟨a1,a2⟩:=sin_diff m1 m2 h1 h2;obtain⟨b1,b2⟩:=sin_diff h1 h2 m1 m2
 have e:sinT (h-m)= -sinT (m-h):=by
  rw[show h-m= -(m-h) by grind,sin_neg]
 rw[e,show h+m=m+h by grind]at b1 b2
 generalize (2:Rat)^200=p at *;generalize sinT (m+h)=x at *;generalize sinT (m-h)=y at *;generalize sinT h=s at *;generalize cosT m=c at *;generalize sinT m=u at *;generalize cosT h=v at *
 constructor <;> grind
theorem Df.rise{B k:Rat}{f g:Rat->Rat}(hB:0<=B)(H:Df B f g){a x h:Rat}(h0:0<=h)(x1: -B<=x)(x2:x+h<=B)(hx:x+h<=a)(hax: -a<=x)(ha:a<=B)(hg:∀y,-a<=y->y<=a->k<=g y):k*h<=f (x+h)-f x:=by
 obtain⟨C,C0,b,l⟩:=H.le ha
 have K:∃M,∀y,-a<=y->y<=a->g y<=M:=⟨C,fun y y1 y2=>(b y y1 y2).2.2⟩
 obtain⟨M,hM⟩:=K
 have a0:0<=a:=by grind
 have I:=(Df.id a a0).scale ((M+k) /2);have D:=(H.le ha).sub I
 have s:=D.grow (M:=(M-k) /2) (fun y y1 y2=>by
  have p:=hg y y1 y2;have q:=hM y y1 y2
  constructor <;> grind) h0 hax hx
 have s1:=s.1
 grind
theorem cos_low{x:Rat}(h1: -(1/2)<=x)(h2:x<=1/2):2/3<=cosT x:=by
 have cz:99/100<=cosT 0:=by decide +kernel
 have sb:∀y:Rat,-(1/2)<=y->y<=1/2-> -(51/100)<=sinT y/\sinT y<=51/100:=fun y y1 y2=>by
  have g:∀z:Rat,-(1/2)<=z->z<=1/2-> -(101/100)<=cosT z/\cosT z<=101/100:=fun z z1 z2=>by
   obtain⟨a,b⟩:=cosT_bd (x:=z) (by grind) (by grind)
   have e:(1/2^200:Rat)<=1/100:=by decide +kernel
   generalize (1/2^200:Rat)=t at *
   constructor <;> grind
  have z:=sin_zero
  by_cases c:0<=y
  ·have k:=(sin_df.le (show (1/2:Rat)<=2 by grind)).grow g (x:=0) (h:=y) c (by grind) (by grind)
   rw[show (0:Rat)+y=y by grind,z]at k
   constructor <;> grind
  ·have k:=(sin_df.le (show (1/2:Rat)<=2 by grind)).grow g (x:=y) (h:= -y) (by grind) (by grind) (by grind)
   rw[show y+ -y=0 by grind,z]at k
   constructor <;> grind
 have g:∀z:Rat,-(1/2)<=z->z<=1/2-> -(6/10)<=c2T z/\c2T z<=6/10:=fun z z1 z2=>by
  obtain⟨a,b⟩:=sb z z1 z2;obtain⟨c,d⟩:=c2_near (x:=z) (by grind) (by grind)
  have c':=tiny_lo c
  have d':=tiny_hi d
  have e:(1/2^280:Rat)<=1/100:=by decide +kernel
  generalize (1/2^280:Rat)=t at *
  constructor <;> grind
 by_cases c:0<=x
 ·have k:=(cos_df.le (show (1/2:Rat)<=2 by grind)).grow g (x:=0) (h:=x) c (by grind) (by grind)
  rw[show (0:Rat)+x=x by grind]at k
  grind
 ·have k:=(cos_df.le (show (1/2:Rat)<=2 by grind)).grow g (x:=x) (h:= -x) (by grind) (by grind) (by grind)
  rw[show x+ -x=0 by grind]at k
  grind
theorem sin_low{x:Rat}(h1:0<=x)(h2:x<=qt):x/5<=sinT x:=by
 obtain⟨q1,q2⟩:=qt_bd;have z:=sin_zero
 have base:∀y:Rat,0<=y->y<=1/2->2/3*y<=sinT y:=fun y y0 y2=>by
  have k:=Df.rise (B:=2) (k:=2/3) (by grind) sin_df (a:=1/2) (x:=0) (h:=y) y0 (by grind) (by grind) (by grind) (by grind) (by grind) (fun z z1 z2=>cos_low z1 z2)
  rw[show (0:Rat)+y=y by grind,z]at k
  grind
 by_cases c:x<=1/2
 ·have:=base x h1 c
  grind
 ·have a:=base (1/2) (by grind) (by grind);have m:=sin_mono (a:=1/2) (b:=x) (by grind) (by grind) h2
  have e:(1/2^186:Rat)<=1/300:=by decide +kernel
  generalize (1/2^186:Rat)=t at *
  grind
def pU (v:Int):Int:=if SC < v*2 then (v-SC)*SC/ (v+SC)else v
def pA (v:Int):Int:=if SC < v*2 then PLo/4 else 0
def pB (v:Int):Int:=if SC < v*2 then PHi/4+1 else 0
def pL (v:Int):Int:=pA v+aS (pU v) 111+ -400
def pH (v:Int):Int:=pB v+aS (pU v) 111+400
def pAng (v:Int):Rat:=(if SC < v*2 then qt/2 else 0)+atT ((pU v:Rat) /SR)
theorem frac_at (u:Int):(u:Rat) /SR*SR=(u:Rat):=Rat.div_mul_cancel (Rat.ne_of_gt sr_pos)
theorem pU_bd{v:Int}(h0:0<=v)(h1:v<=SC): -(SC/3+1)<=pU v/\2*pU v<=SC:=by
 unfold pU
 by_cases c:SC < v*2
 ·rw[if_pos c]
  have sp:(0:Int) < SC:=by decide
  have hd:0 < v+SC:=by omega
  have a:=Int.ediv_mul_le ((v-SC)*SC) (Int.ne_of_gt hd);have b:=Int.lt_ediv_add_one_mul_self ((v-SC)*SC) hd;generalize (v-SC)*SC/ (v+SC)=u at *
  constructor
  ·rcases Int.lt_or_le u (-(SC/3+1))with k | k
   ·exfalso
    have m:=Int.mul_le_mul_of_nonneg_right (show u+1<= -(SC/3+1) by omega) (Int.le_of_lt hd)
    have n:(SC/3+1)*(v+SC)≥(SC-v)*SC:=by
     have k1:3*(SC/3+1)≥SC:=by omega
     have k2:=Int.mul_le_mul_of_nonneg_right k1 (Int.le_of_lt hd)
     have k3:=Int.mul_le_mul_of_nonneg_right (show 3*(SC-v)<=v+SC by omega) (Int.le_of_lt sp)
     grind
    grind
   ·exact k
  ·rcases Int.lt_or_le 0 u with k | k
   ·exfalso
    have m:=Int.mul_le_mul_of_nonneg_right (show 1<=u by omega) (Int.le_of_lt hd)
    have n:(v-SC)*SC<=0:=by
     have:=Int.mul_nonneg (show 0<=SC-v by omega) (Int.le_of_lt sp)
     grind
    omega
   ·omega
 ·rw[if_neg c]
  omega
theorem frac_bd{v:Int}(h0:0<=v)(h1:v<=SC): -(1/2)<=(pU v:Rat) /SR/\(pU v:Rat) /SR<=1/2:=by
 obtain⟨a,b⟩:=pU_bd h0 h1;have sp:=sr_pos;have e:=frac_at (pU v)
 have a': -(SC:Int)<=2*pU v:=by
  unfold SC at *
  omega
 have a2:=Rat.intCast_le_intCast.2 a';have b2:=Rat.intCast_le_intCast.2 b
 rw[Rat.intCast_mul,Rat.intCast_neg,show ((2:Int):Rat)=2 from rfl]at a2
 rw[Rat.intCast_mul,show ((2:Int):Rat)=2 from rfl]at b2
 generalize (pU v:Rat) /SR=w at *
 constructor
 ·refine Rat.le_of_mul_le_mul_right (c:=SR) ?_ sp
  grind
 ·refine Rat.le_of_mul_le_mul_right (c:=SR) ?_ sp
  grind
theorem ang_within{v:Int}(h0:0<=v)(h1:v<=SC):((pL v+214:Int):Rat)<=pAng v*SR/\pAng v*SR<=((pH v-214:Int):Rat):=by
 obtain⟨f1,f2⟩:=frac_bd h0 h1;obtain⟨s1,s2⟩:=at_ser (frac_at (pU v)) f1 f2;obtain⟨p1,p2⟩:=half_turn
 have ab:((pA v:Int):Rat)<=(if SC < v*2 then qt/2 else 0)*SR/\(if SC < v*2 then qt/2 else 0)*SR<=((pB v:Int):Rat):=by
  unfold pA pB
  by_cases c:SC < v*2
  ·rw[if_pos c,if_pos c,if_pos c]
   have k1:=Rat.intCast_le_intCast.2 (show PLo/4*4<=PLo by decide)
   have k2:=Rat.intCast_le_intCast.2 (show PHi<=(PHi/4+1)*4 by decide)
   rw[Rat.intCast_mul,show ((4:Int):Rat)=4 from rfl]at k1 k2
   constructor <;> grind
  ·rw[if_neg c,if_neg c,if_neg c,Rat.intCast_zero]
   constructor <;> grind
 unfold pL pH pAng
 have e1:((pA v+aS (pU v) 111+ -400+214:Int):Rat)=((pA v:Int):Rat)+((aS (pU v) 111:Int):Rat)-186:=by
  rw[show pA v+aS (pU v) 111+ -400+214=pA v+aS (pU v) 111-186 by omega,Rat.intCast_sub,Rat.intCast_add]
  rfl
 have e2:((pB v+aS (pU v) 111+400-214:Int):Rat)=((pB v:Int):Rat)+((aS (pU v) 111:Int):Rat)+186:=by
  rw[show pB v+aS (pU v) 111+400-214=pB v+aS (pU v) 111+186 by omega,Rat.intCast_add,Rat.intCast_add]
  rfl
 rw[e1,e2];generalize (if SC < v*2 then qt/2 else 0)=k at *;generalize atT ((pU v:Rat) /SR)=t at *
 constructor <;> grind
theorem eighth:(sinT (qt/2)-cosT (qt/2))*2^200<=1/\ -1<=(sinT (qt/2)-cosT (qt/2))*2^200/\sinT (qt/2)<=3/4/\2/3<=sinT (qt/2):=by decide +kernel
