/-
 Contracts that the proof rests on.
-/
import Derived.Test.YteigedaefgmojaaGreatDoorYUau
namespace Go.Proofs.YteigedaefgmojaaGreatDoor
open Go.Proofs.Tryz
set_option maxHeartbeats 8000000
open Go.RowKit
set_option linter.unusedVariables false
set_option linter.unusedSimpArgs false
set_option maxRecDepth 100000
def I9 (w:World)(n:Int)(R:Int × Nat)(gp go gb gs:Nat)(s7:Bool)(A7:Option Addr)(n7 c7 k gt:Nat)(wr:World):Prop:=∃(s p T:Int) (s4:Bool) (A4:Option Addr) (n4 c4:Nat) (s5:Bool) (A5:Option Addr) (n5 c5:Nat) (s6:Bool) (A6:Option Addr) (n6 c6:Nat),
 Bo wr w.heap.size #[.bool false,.slice none 0 0] 43/\Bo wr gs #[.bool s4,.slice A4 n4 c4] 43/\Bo wr gt #[.bool s5,.slice A5 n5 c5] 43/\Bo wr gp #[.bool s6,.slice A6 n6 c6] 43/\Bo wr go #[.int .i64 (2*(k:Int)+3)] 3/\Bo wr gb #[.bool s7,.slice A7 n7 c7] 43/\
 Wn wr s4 A4 n4 c4 s/\Wn wr s5 A5 n5 c5 T/\Wn wr s6 A6 n6 c6 (p*(n*n))/\Wn wr s7 A7 n7 c7 n/\n4<=1000*k/\n5<=8/\n6<=10/\k<=100/\w.heap.size < gt/\gs≠gt/\(2:Int)^(2*k+1)<=p/\p<=SC*1000000/\io n (200-k) k s p=R/\SC.fdiv (p*(2*(k:Int)+1))=T/\Duo gp go w wr
def Lc (w:World)(gp go:Nat)(R:Int × Nat)(e:Ending)(w':World):Prop:=∃s A m c,e= .returned (.tuple #[.agg #[.bool s,.slice A m c],.int .i64 (R.2:Int)])/\Wn w' s A m c R.1/\m<=200000/\R.2<=100/\Duo gp go w w'
theorem mO{k:Nat}{p:Int}(h:(2:Int)^(2*k+1)<=p):0 < p:=Int.lt_of_lt_of_le (Int.pow_pos (by decide)) h
theorem Fl{p n T:Int}{k:Nat}(hp:(2:Int)^(2*k+1)<=p)(hT:SC.fdiv (p*(2*(k:Int)+1))=T)(h1:2<=n)(h2:n<=1000)(hc:T≠0):p*(n*n)<=SC*1000000:=by
 have a:=mO hp;have b:=F5 a hT hc
 have d:n*n<=1000*1000:=Int.mul_le_mul h2 h2 (by omega) (by decide)
 exact Int.mul_le_mul b (by omega) (Int.mul_nonneg (by omega) (by omega)) (by decide)
theorem DB{R:Int × Nat}{n p s T:Int}{k f:Nat}(h:io n f (k+1) (if k%2=1 then s+ -T else s+T) p=R):(k%2=1->io n f (k+1) (s-T) p=R)/\(¬k%2=1->io n f (k+1) (s+T) p=R):=by
 constructor <;> intro c
 ·rw[if_pos c]at h;exact h
 ·rw[if_neg c]at h;exact h
theorem KC{w:World}{gp go gb:Nat}{s6 s7:Bool}{A6 A7:Option Addr}{n6 c6 n7 c7:Nat}{n:Int}{R:Int × Nat}(XP:Bo w gp #[.bool s6,.slice A6 n6 c6] 43)(XO:Bo w go #[.int .i64 1] 3)(XB:Bo w gb #[.bool s7,.slice A7 n7 c7] 43)(p6:Wn w s6 A6 n6 c6 n)(p7:Wn w s7 A7 n7 c7 n)(k6:n6<=2)(k7:n7<=2)(hpo:gp≠go)(hpb:gp≠gb)(hob:go≠gb)(h1:2<=n)(h2:n<=1000)(hR:io n 200 0 0 n=R):
  Calls prog 207 #[.func (.func 237) #[] #[.pointer (some ⟨gp,0,none⟩),.pointer (some ⟨go,0,none⟩),.pointer (some ⟨gb,0,none⟩)]] w (Lc w gp go R):=by
 have HR:=ie hR;have G1:=XP.lt;have G2:=XO.lt;have G3:=XB.lt;obtain⟨T0,hX⟩:∃T0,SC.fdiv (n*(2*((0:Nat):Int)+1))=T0:=⟨_,rfl⟩;have bC:=ie hX;clear hX;clear hR
 go_enter func207,ntmps207
 go_upto_region 1 with fail
 have d:=Bo.newAt w (g:=w.heap.size) rfl #[.bool false,.slice none 0 0] 43
 have f:Hid (Duo gp go w (World.alloc w (.cells #[.bool false,.slice none 0 0] 43))):=ie (.of (af w (.cells #[.bool false,.slice none 0 0] 43)))
 replace XP:=XP.below (af w (.cells #[.bool false,.slice none 0 0] 43));replace XO:=XO.below (af w (.cells #[.bool false,.slice none 0 0] 43));replace XB:=XB.below (af w (.cells #[.bool false,.slice none 0 0] 43));replace p6:=p6.below (af w (.cells #[.bool false,.slice none 0 0] 43));replace p7:=p7.below (af w (.cells #[.bool false,.slice none 0 0] 43));generalize HI:World.alloc w (.cells #[.bool false,.slice none 0 0] 43)=w1 at *
 clear HI
 go_upto_region 2 with fail
 have V:=XP.lt;have U:=XO.lt;have S:=XB.lt;have W:=d.lt;generalize o:w1.alloc _=w2 at *;obtain⟨c,e⟩:=Bo.nw o;clear o;replace XP:=XP.b e;replace XO:=XO.b e;replace XB:=XB.b e;replace d:=d.b e;replace p6:=p6.b e;replace p7:=p7.b e;replace f:=ie (f.out.mv e);clear e;have J:=XP.lt;have I:=XO.lt
 have H:=XB.lt;have L:=d.lt;have Q:=c.lt
 have gS:w.heap.size < w1.heap.size:=W
 have gO:go < w1.heap.size:=U
 have gP:gp < w1.heap.size:=V
 have gB:gb < w1.heap.size:=S
 clear W U V S L I J H;generalize w1.heap.size=gs at *
 have u:Bo w2 go #[.int .i64 (2*((0:Nat):Int)+1)] 3:=XO
 clear XO;have XO:=u;clear u;have HL:=f.out.size
 go_wp2_with fail
 refine(z7 (k:=0) XP XO XB p6 p7 (by omega) k7 hpo hpb hob (by decide) (by omega) (Int.le_trans h2 (by decide)) h1 h2 bC.out).mono ?_;rintro ee w3 ⟨zX,hI,qT,hN,BX,hJ,xX,hP,rfl,l,O,YP,m,P,YO,B⟩;replace XB:=XB.duo B (by omega) (by omega);replace d:=d.duo B (by omega) (by omega);replace c:=c.duo B (by omega) (by omega);replace p6:=p6.duo XP XO (by simp[no32]) (by simp[no32]) B
 replace p7:=p7.duo XP XO (by simp[no32]) (by simp[no32]) B;replace f:=ie (f.out.trans B);have bB:=B.size;clear B p6 XP XO;have XP:=YP;have XO:=YO;clear YP YO
 go_upto_region 3 with fail
 have hC:=XP.lt;have hA:=XO.lt;have fP:=XB.lt;have hD:=d.lt;have HP:=c.lt;generalize o:w3.alloc _=w4 at *;obtain⟨j,e⟩:=Bo.nw o;clear o;replace XP:=XP.b e;replace XO:=XO.b e;replace XB:=XB.b e;replace d:=d.b e;replace c:=c.b e;replace p7:=p7.b e;replace l:=l.b e;replace m:=m.b e
 replace f:=ie (f.out.mv e);clear e;clear hD hC hA fP
 have hU:I9 w n R gp go gb gs s7 A7 n7 c7 0 w3.heap.size w4:=⟨0,n,_,_,_,_,_,_,_,_,_,_,_,_,_,d,c,j,XP,XO,XB,⟨Nm.zero,rfl⟩,l,m,p7,Nat.zero_le _,O,P,by decide,by omega,by omega,by simpa using h1,Int.le_trans h2 (by decide),HR.out,bC.out,f.out⟩
 have hK:=ie hU;clear hU d c j XP XO XB p7 l m f HR bC;go_wp2
 go_loopw [5,6] (fun i pt wr=>∃k gt:Nat,i= .int .i64 k/\pt= .pointer (some ⟨gt,0,none⟩)/\I9 w n R gp go gb gs s7 A7 n7 c7 k gt wr) (fun i _ _=>200-(intOf i).toNat)
 case atStart=>exact ⟨0,_,rfl,rfl,hK.out⟩
 case round=>
  obtain⟨k,gt,rfl,rfl,s,p,T,s4,A4,n4,c4,s5,A5,n5,c5,s6,A6,n6,c6,d,c,j,XP,XO,XB,M,x,p6,p7,k4,k5,k6,hk,HX,HY,hp,iV,hG,hT,hB⟩:=hrel;have f:=ie hB;obtain⟨T',hV,HJ,HH,hz,hZ⟩:=qO h1 hk hp hG
  obtain rfl:T'=T:=hV.symm.trans hT
  have HT:=ie hT;have HZ:=ie hz;have bH:=ie hZ
  have bD:Hid (T'≠0->p*(n*n)<=SC*1000000):=ie (fun hc=>Fl hp hT h1 h2 hc)
  clear hB hK hG hT hV hz hZ HJ;have HL:=f.out.size;have J:=XP.lt;have I:=XO.lt;have H:=XB.lt;have L:=d.lt;have Q:=c.lt;have HW:=j.lt
  by_cases hc:T'=0
  ·have HS:Hid (ag T' 0=0):=ie (by rw[hc];decide)
   have HK:=HZ.out hc;subst HK;clear HZ bH bD hp iV;have q:=j.cell
   go_wp2_with fail
   refine(jN x.wr HS.out).mono ?_;rintro ee w5 ⟨rfl,B⟩;clear q;replace XP:=XP.b B;replace XO:=XO.b B;replace XB:=XB.b B;replace d:=d.b B;replace c:=c.b B;replace j:=j.b B;replace M:=M.b B;replace x:=x.b B;replace p6:=p6.b B;replace p7:=p7.b B;replace f:=ie (f.out.mv B);clear B;clear x p6 p7
   clear j XP XO XB;have r:=c.cell;have HV:=d.cell;have CD:=d.frozen;go_wp2;clear r HV CD;generalize F:(w5.setCell _ _).setCell _ _=w6 at *;have a:=ac.of2 d F;replace c:=c.s a;replace M:=M.s a;replace f:=ie (f.out.stn a (by omega));replace d:=a.box;clear a F;exact bq (v:= .tuple #[.agg #[.bool s4,.slice A4 n4 c4],.int .i64 (k:Int)]) (by simp[results,results207,go_sem,d.cell]) rfl ⟨s4,A4,n4,c4,rfl,M,by omega,hk,f.out⟩
  ·have HS:Hid (ag T' 0=1):=ie (aC (by omega))
   obtain⟨hW,iU,hQ⟩:=bH.out hc;have Z:=ie iU;have bA:=ie (bD.out hc);obtain⟨ho,he⟩:=DB hQ;have HO:=ie ho;have HE:=ie he;have hL:=iw ((k:Int)+1);have hM:=jw ((k:Int)+1);clear HZ bH bD iU hQ HH ho he hp iV;have q:=j.cell
   go_wp2_with fail
   refine(jN x.wr HS.out).mono ?_;rintro ee w5 ⟨rfl,B⟩;clear q;replace XP:=XP.b B;replace XO:=XO.b B;replace XB:=XB.b B;replace d:=d.b B;replace c:=c.b B;replace j:=j.b B;replace M:=M.b B;replace x:=x.b B;replace p6:=p6.b B;replace p7:=p7.b B;replace f:=ie (f.out.mv B);clear B
   by_cases G:k%2=1
   ·have HF:=ie (HO.out G);clear HO HE
    have t9:(Int.tmod (k:Int) 2==0)=false:=by
     rw[show Int.tmod (k:Int) 2=1 by rw[Int.tmod_eq_emod_of_nonneg (by omega)];omega]
     rfl
    have r:=c.cell;have q:=j.cell
    go_wp2_with fail
    refine(DW M.wr x.wr (by omega) (by omega) rfl).mono ?_;rintro ee w6 ⟨HQ,DS,HN,ET,rfl,h,HM,B⟩;clear r q;replace XP:=XP.b B;replace XO:=XO.b B;replace XB:=XB.b B;replace d:=d.b B;replace c:=c.b B;replace j:=j.b B;replace M:=M.b B;replace x:=x.b B;replace p6:=p6.b B;replace p7:=p7.b B
    replace f:=ie (f.out.mv B);clear B;clear M t9 G;have r:=c.cell;have X:=c.frozen
    go_upto_region 9 with fail
    clear r X;generalize F:(w6.setCell _ _).setCell _ _=E at *;have a:=ac.of2 c F;replace XP:=XP.s a;replace XO:=XO.s a;replace XB:=XB.s a;replace d:=d.s a;replace j:=j.s a;replace x:=x.s a;replace p6:=p6.s a;replace p7:=p7.s a
    replace h:=h.s a;replace f:=ie (f.out.stn a (by omega));replace c:=a.box;clear a F;have bN:=hL.out;have fH:=hM.out;have q:=j.cell
    go_upto_region 4 with fail
    clear q;clear bN fH j;have C:=XP.lt;have A:=XO.lt;have z:=XB.lt;have D:=d.lt;have y:=c.lt;generalize o:E.alloc _=hE at *;obtain⟨t,e⟩:=Bo.nw o;clear o;replace XP:=XP.b e;replace XO:=XO.b e;replace XB:=XB.b e;replace d:=d.b e;replace c:=c.b e;replace x:=x.b e;replace p6:=p6.b e
    replace p7:=p7.b e;replace h:=h.b e;replace f:=ie (f.out.mv e);clear e;have J:=XP.lt;have I:=XO.lt;have H:=XB.lt;have L:=d.lt;have Q:=c.lt;have lB:=t.lt;have lA:=f.out.size
    have g7:gs < E.heap.size:=y
    have HD:gp < E.heap.size:=C
    have HC:go < E.heap.size:=A
    have HA:gb < E.heap.size:=z
    have HG:w.heap.size < E.heap.size:=D
    clear x
    have u:Bo hE go #[.int .i64 (2*((k+1:Nat):Int)+1)] 3:=by
     rw[show 2*((k+1:Nat):Int)+1=2*(k:Int)+3 by omega]
     exact XO
    clear XO;have XO:=u;clear u;obtain⟨T2,N⟩:∃T2,SC.fdiv (p*(n*n)*(2*((k+1:Nat):Int)+1))=T2:=⟨_,rfl⟩
    go_wp2_with fail
    refine(z7 (k:=k+1) XP XO XB p6 p7 k6 k7 hpo hpb hob (by omega) (mO Z.out) bA.out h1 h2 N).mono ?_;rintro ee hF ⟨zX,hI,qT,hN,BX,hJ,xX,hP,rfl,l,O,YP,m,P,YO,B⟩;replace XB:=XB.duo B (by omega) (by omega);replace d:=d.duo B (by omega) (by omega);replace c:=c.duo B (by omega) (by omega);replace t:=t.duo B (by omega) (by omega)
    replace h:=h.duo XP XO (by simp[no32]) (by simp[no32]) B;replace p6:=p6.duo XP XO (by simp[no32]) (by simp[no32]) B;replace p7:=p7.duo XP XO (by simp[no32]) (by simp[no32]) B;replace f:=ie (f.out.trans B);have bB:=B.size;clear B p6 XP XO;have XP:=YP;have XO:=YO;clear YP YO;have hH:=t.cell;have Y:=t.frozen;go_wp2;clear hH Y
    generalize F:(hF.setCell _ _).setCell _ _=HU at *;have a:=ac.of2 t F;replace XP:=XP.s a;replace XO:=XO.s a;replace XB:=XB.s a;replace d:=d.s a;replace c:=c.s a;replace h:=h.s a;replace p7:=p7.s a;replace l:=l.s a
    replace m:=m.s a;replace f:=ie (f.out.stn a (by omega));replace t:=a.box;clear a F
    go_roundw
    case rel=>exact ⟨k+1,E.heap.size,by go_num,rfl,_,_,_,_,_,_,_,_,_,_,_,_,_,_,_,d,c,t,XP,XO,XB,h,l,m,p7,by omega,O,P,hW,by omega,by omega,Z.out,bA.out,HF.out,N,f.out⟩
    case measure=>simp [intOf];omega
   ·have HF:=ie (HE.out G);clear HO HE
    have t9:(Int.tmod (k:Int) 2==0)=true:=by
     rw[show Int.tmod (k:Int) 2=0 by rw[Int.tmod_eq_emod_of_nonneg (by omega)];omega]
     rfl
    have r:=c.cell;have q:=j.cell
    go_wp2_with fail
    refine(pZ M.wr x.wr (by omega) (by omega) rfl).mono ?_;rintro ee w6 ⟨HQ,DS,HN,ET,rfl,h,HM,B⟩;clear r q;replace XP:=XP.b B;replace XO:=XO.b B;replace XB:=XB.b B;replace d:=d.b B;replace c:=c.b B;replace j:=j.b B;replace p6:=p6.b B;replace p7:=p7.b B;replace f:=ie (f.out.mv B);clear B
    clear M t9 G;have r:=c.cell;have X:=c.frozen
    go_upto_region 9 with fail
    clear r X;generalize F:(w6.setCell _ _).setCell _ _=E at *;have a:=ac.of2 c F;replace XP:=XP.s a;replace XO:=XO.s a;replace XB:=XB.s a;replace d:=d.s a;replace j:=j.s a;replace p6:=p6.s a;replace p7:=p7.s a;replace h:=h.s a
    replace f:=ie (f.out.stn a (by omega));replace c:=a.box;clear a F;have bN:=hL.out;have fH:=hM.out;have q:=j.cell
    go_upto_region 4 with fail
    clear q;clear bN fH j;have C:=XP.lt;have A:=XO.lt;have z:=XB.lt;have D:=d.lt;have y:=c.lt;generalize o:E.alloc _=hE at *;obtain⟨t,e⟩:=Bo.nw o;clear o;replace XP:=XP.b e;replace XO:=XO.b e;replace XB:=XB.b e;replace d:=d.b e;replace c:=c.b e;replace p6:=p6.b e;replace p7:=p7.b e
    replace h:=h.b e;replace f:=ie (f.out.mv e);clear e;have J:=XP.lt;have I:=XO.lt;have H:=XB.lt;have L:=d.lt;have Q:=c.lt;have lB:=t.lt;have lA:=f.out.size
    have g7:gs < E.heap.size:=y
    have HD:gp < E.heap.size:=C
    have HC:go < E.heap.size:=A
    have HA:gb < E.heap.size:=z
    have HG:w.heap.size < E.heap.size:=D
    clear x
    have u:Bo hE go #[.int .i64 (2*((k+1:Nat):Int)+1)] 3:=by
     rw[show 2*((k+1:Nat):Int)+1=2*(k:Int)+3 by omega]
     exact XO
    clear XO;have XO:=u;clear u;obtain⟨T2,N⟩:∃T2,SC.fdiv (p*(n*n)*(2*((k+1:Nat):Int)+1))=T2:=⟨_,rfl⟩
    go_wp2_with fail
    refine(z7 (k:=k+1) XP XO XB p6 p7 k6 k7 hpo hpb hob (by omega) (mO Z.out) bA.out h1 h2 N).mono ?_;rintro ee hF ⟨zX,hI,qT,hN,BX,hJ,xX,hP,rfl,l,O,YP,m,P,YO,B⟩;replace XB:=XB.duo B (by omega) (by omega);replace d:=d.duo B (by omega) (by omega);replace c:=c.duo B (by omega) (by omega);replace t:=t.duo B (by omega) (by omega)
    replace h:=h.duo XP XO (by simp[no32]) (by simp[no32]) B;replace p7:=p7.duo XP XO (by simp[no32]) (by simp[no32]) B;replace f:=ie (f.out.trans B);have bB:=B.size;clear B p6 XP XO;have XP:=YP;have XO:=YO;clear YP YO;have hH:=t.cell;have Y:=t.frozen;go_wp2;clear hH Y;generalize F:(hF.setCell _ _).setCell _ _=HU at *
    have a:=ac.of2 t F;replace XP:=XP.s a;replace XO:=XO.s a;replace XB:=XB.s a;replace d:=d.s a;replace c:=c.s a;replace h:=h.s a;replace p7:=p7.s a;replace l:=l.s a;replace m:=m.s a;replace f:=ie (f.out.stn a (by omega))
    replace t:=a.box;clear a F
    go_roundw
    case rel=>exact ⟨k+1,E.heap.size,by go_num,rfl,_,_,_,_,_,_,_,_,_,_,_,_,_,_,_,d,c,t,XP,XO,XB,h,l,m,p7,by omega,O,P,hW,by omega,by omega,Z.out,bA.out,HF.out,N,f.out⟩
    case measure=>simp [intOf];omega
theorem EY (W:World):Rd (W.alloc (.cells #[.int .u32 1] 103)) (some ⟨W.heap.size,0,none⟩) 1 1 1:=
 ⟨_,[1],(du.new W [1]).all (aV.cons (by decide) aV.nil) (by simp) (Nat.le_refl _),by decide⟩
theorem Dw (q:Nat):gD q 0=q*2^(1:Int).toNat:=by
 unfold gD
 rw[if_pos rfl]
 show 2*q+0=q*2
 omega
theorem FZ{q r:Nat}(h:r≠0):gD q r=q*2^(1:Int).toNat+1:=by
 unfold gD
 rw[if_neg h]
 show 2*q+1=q*2+1
 omega
theorem tC (s:Bool)(a:Nat):sg s a=aj s (a:Int):=by
 cases s
 ·rw[kz,aK]
 ·rw[wJ,aN]
theorem xV{w:World}{A:Option Addr}{n c a r:Nat}(h:Rd w A n c a)(hn:n<=100000)(hr:a*2^(1:Int).toNat=r):Calls prog 165 #[.slice A n c,.bool false] w (P1 w (n+5) r):=by
 have b:=ie hr;obtain⟨d,hd⟩:∃d,a*2^(1:Int).toNat=d:=⟨_,rfl⟩;have f:=ie hd;rw[hd]at b;clear hr hd
 go_enter func165,ntmps165
 go_wp2_with fail
 refine(jL (z:=1) h (by omega) (by decide) (by decide) f.out).mono ?_;rintro k l ⟨A1,n1,c1,rfl,j,i,e⟩
 have g:n1<=n+2:=by
  have:(1:Int).toNat/32=0:=rfl
  omega
 clear h i
 obtain rfl:d=r:=b.out
 go_wp2
 go_ret
 exact⟨A1,n1,c1,rfl,j,by omega,e⟩
theorem xW{w:World}{A:Option Addr}{n c a r:Nat}(h:Rd w A n c a)(hn:n<=100000)(hr:a*2^(1:Int).toNat+1=r):Calls prog 165 #[.slice A n c,.bool true] w (P1 w (n+5) r):=by
 have b:=ie hr;obtain⟨d,hd⟩:∃d,a*2^(1:Int).toNat=d:=⟨_,rfl⟩;have g:=ie hd;rw[hd]at b;clear hr hd
 go_enter func165,ntmps165
 go_wp2_with fail
 refine(jL (z:=1) h (by omega) (by decide) (by decide) g.out).mono ?_;rintro i m ⟨A1,n1,c1,rfl,l,k,e⟩
 have j:n1<=n+2:=by
  have:(1:Int).toNat/32=0:=rfl
  omega
 clear h k
 go_wp2_with fail
 refine(kx (l.below (af _ _)).rd (EY m) (by omega) (by decide) b.out).mono ?_;rintro i p ⟨A2,n2,c2,rfl,p2,o,f⟩;go_wp2
 go_ret
 exact⟨A2,n2,c2,rfl,p2,by omega,bt e (bt (af _ _) f)⟩
theorem vQ{w:World}{A:Option Addr}{n c a d r:Nat}{cut:Bool}(h:Rd w A n c a)(hn:n<=100000)(hc:decide (d≠0)=cut)(hr:gD a d=r):Calls prog 165 #[.slice A n c,.bool cut] w (P1 w (n+5) r):=by
 by_cases b:d=0
 ·subst b
  obtain rfl:false=cut:=hc
  exact xV h hn (by rw[<-Dw];exact hr)
 ·obtain rfl:true=cut:=by rw[<-hc];exact(dt b).symm
  exact xW h hn (by rw[<-FZ b];exact hr)
theorem Gv{w:World}{A1 A2:Option Addr}{n m c1 c2 a d q r:Nat}(h1:Rd w A1 n c1 a)(h2:Rd w A2 m c2 d)(hn:n<=268435456)(hm:m<=268435456)(hd:d≠0)(hq:a/d=q)(hr:a%d=r):
  Calls prog 163 #[.slice A1 n c1,.slice A2 m c2] w (P3 w n q r):=hq▸hr▸FJ h1 h2 hn hm hd
def Jo.Fact.dv (q r K:Nat):Jo.Fact:=⟨fun v w=>∃A n c B m d,v= .tuple #[.slice A n c,.slice B m d,.bool true]/\Nm w A n c q/\Nm w B m d r/\n<=K,fun v w w' h b=>by
 obtain⟨A,n,c,B,m,d,e,p,k,l⟩:=h;exact⟨A,n,c,B,m,d,e,p.below b,k.below b,l⟩⟩
def Jo.Fact.nmA (a:Nat):Jo.Fact:=⟨fun v w=>∃A n c,v= .slice A n c/\Nm w A n c a,fun v w w' h b=>by
 obtain⟨A,n,c,e,p⟩:=h;exact⟨A,n,c,e,p.below b⟩⟩
theorem oK{α β κ n:Nat}{N M:Nat}(hβ:0 < β)(hn:n=70+ae β)(hα:α < 4294967296^N)(hβ2:β < 4294967296^M)(hN:N<=3500)(hM:M<=3500)(hκ:κ=500000):gD (α*2^n/β) (α*2^n%β) < 2^κ:=by
 have a:∀k:Nat,(4294967296:Nat)^k=2^(32*k):=fun k=>by rw[show (4294967296:Nat)=2^32 by decide,<-Nat.pow_mul]
 rw[a]at hα hβ2
 have d:ae β<=32*M:=ai hβ2
 have e:α*2^n/β<=α*2^n:=Nat.div_le_self _ _
 have b:α*2^n < 2^(32*N)*2^n:=Nat.mul_lt_mul_of_pos_right hα (Nat.pow_pos (by decide))
 rw[<-Nat.pow_add]at b
 have f:gD (α*2^n/β) (α*2^n%β)<=2*(α*2^n/β)+1:=by
  unfold gD
  split <;> omega
 have c:2^(32*N+n+1)<=2^κ:=Nat.pow_le_pow_right (by decide) (by omega)
 rw[Nat.pow_succ]at c
 omega
theorem Bm{w:World}{A B:Option Addr}{n c m d α β:Nat}{s t up:Bool}{e r:Int}(ha:Rd w A n c α)(hb:Rd w B m d β)(hn:n<=3500)(hm:m<=3500)(e1: -2200000<=e)(e2:e<=2200000)(h0:β=0)(hr:aj (!up) TP=r):Calls prog 108 #[.agg #[.bool s,.slice A n c],.agg #[.bool t,.slice B m d],.int .i64 e,.bool up] w (PN w r):=by
 subst h0;have o:=ie hr
 have p:Hid (ag (sg t 0) 0=0):=ie (be (fO t))
 clear hr
 go_enter func108,ntmps108
 go_upto_region 1 with fail
 generalize g:((w.alloc _).alloc _).alloc _=w1 at *;obtain⟨z,v,a,f⟩:=Bo.en3 g;replace hb:=hb.below f.out;clear g;have i:=v.cell
 go_wp2_with fail
 refine(jK (hb.wr t) p.out).mono ?_;rintro x C ⟨rfl,B⟩;clear i;replace a:=a.b B;replace f:=ak f B;clear B;clear hb
 go_wp2_with fail
 refine(nV (s:=!up) o.out).mono ?_;rintro x D ⟨q,s1,u,l,rfl,y,B⟩;replace a:=a.b B;replace f:=ak f B;clear B;have j:=a.cell;have h:=a.frozen;go_wp2;clear j h;have k:=ac.t4 a q s1 u l;exact bq (by simp[results,results108,go_sem,k.box.cell]) rfl ⟨_,_,_,_,rfl,y,(k.below f.out (by omega))⟩
theorem Bl{w:World}{A B:Option Addr}{n c m d α β:Nat}{s t up:Bool}{e r:Int}(ha:Rd w A n c α)(hb:Rd w B m d β)(hn:n<=3500)(hm:m<=3500)(e1: -2200000<=e)(e2:e<=2200000){Q R:Nat}(h0:0 < β)(hQ:α*2^(70+ae β) /β=Q)(hR:α*2^(70+ae β)%β=R)(hz:R≠0)(hr:fQ up (aj (s !=t) ((α:Int)*2^(e+(KK:Int)).toNat)) (β:Int) r):Calls prog 108 #[.agg #[.bool s,.slice A n c],.agg #[.bool t,.slice B m d],.int .i64 e,.bool up] w (PN w r):=by
 have gO:=hb.blen_le;obtain⟨D,y⟩:∃k:Nat,70+ae β=k:=⟨_,rfl⟩;obtain⟨κ,hκ⟩:∃κ:Nat,κ=500000:=⟨_,rfl⟩;have o:=oK h0 y.symm ha.bound hb.bound hn hm hκ;have u:=mW (σ:=(s !=t)) (up:=up) (e:=e) h0 y.symm hκ o (by omega) (by omega);have q:=u.uniq (by omega) hr;rw[y]at hQ hR;rw[hQ,hR]at q;obtain⟨S,hS⟩:∃S,gD Q R=S:=⟨_,rfl⟩
 rw[hS,<-tC]at q;obtain⟨X,hX⟩:∃X,α*2^D=X:=⟨_,rfl⟩;rw[hX]at hQ hR;obtain⟨b,V⟩:∃b:Int,(D:Int)=b:=⟨_,rfl⟩;rw[V]at q;obtain⟨L,hL⟩:∃L:Int,((ae β:Nat):Int)=L:=⟨_,rfl⟩
 have N:70+L=b:=by omega
 have hU:70<=b/\b<=200000:=by omega
 obtain⟨P,O⟩:∃P,mk (sg (s !=t) S) (e-b-1)=P:=⟨_,rfl⟩;rw[O]at q
 have T:mk P.1 P.2=P:=by rw[<-O];exact fJ _ _
 have bD:=ie (show eI up (mk P.1 P.2).1 (mk P.1 P.2).2=r by rw[T];exact q)
 have bA:Hid ((mk (sg (!(s==t)) S) (e-b-1)).1=P.1):=ie (by rw[<-O];rfl)
 have bB:Hid ((mk (sg (!(s==t)) S) (e-b-1)).2=P.2):=ie (by rw[<-O];rfl)
 have HL:=ie hL
 have bN:Hid (IntKind.i64.wrap (70+L)=b):=ie (by rw[N];exact IntWalk.i64_in _ (by omega))
 have fH:=iw (e-b);have fP:=iw (e-b-1)
 have W:b.toNat=D:=by omega
 have HX:Hid (α*2^b.toNat=X):=ie (by rw[W];exact hX)
 have HQ:=ie hQ;have bC:=ie hR;have bH:=ie hS
 have gP:β≠0:=by omega
 obtain⟨σ,hσ⟩:∃σ,ag (sg t β) 0=σ:=⟨_,rfl⟩
 have hW:(σ==0)=false:=by
  have:σ≠0:=by
   rw[<-hσ]
   rcases dK t β with⟨a,_⟩ | ⟨_,_,a⟩ | ⟨_,_,a⟩
   ·omega
   ·rw[a];decide
   ·rw[a];decide
  simpa using this
 have HS:=ie hσ
 have gB:n+b.toNat/32+1<=20000:=by omega
 clear u hr q o gO hL N hX V O T hQ hR hS y hκ W hσ
 go_enter func108,ntmps108
 go_upto_region 1 with fail
 generalize U:((w.alloc _).alloc _).alloc _=w1 at *;obtain⟨p,j,h,g⟩:=Bo.en3 U;replace ha:=ha.below g.out;replace hb:=hb.below g.out;clear U;have v:=j.cell
 go_wp2_with fail
 refine(jK (hb.wr t) HS.out).mono ?_;rintro E w2 ⟨rfl,B⟩;clear v;refine gv ?_ p j h ha hb g B;clear p j h ha hb g B;intro p j h ha hb g;have v:=j.cell
 go_wp2_with fail
 refine(nQ hb HL.out).mono ?_;rintro E w3 ⟨rfl,B⟩;clear v;refine gv ?_ p j h ha hb g B;clear p j h ha hb g B;intro p j h ha hb g;have gS:=bN.out
 go_upto_region 4 with fail
 clear gS;refine bF [0,1,2,3,4,5,6,7,8,9,10,11,12,13] [26,27,28,29,30,31,32,25,33,34,35,11,12,13] [[],[0],[],[1,2],[],[4],[3,5],[6],[7],[7],[7],[8],[9],[10]] 14 0 [Jo.qp w.heap.size 1,Jo.Fact.eq (.slice A n c),Jo.qi b,Jo.Fact.nm X 20000,Jo.qp (w.heap.size+1) 1,Jo.Fact.eq (.slice B m d),Jo.Fact.dv Q R 20000,Jo.Fact.dv Q R 20000,Jo.Fact.nm Q 20000,Jo.Fact.nmA R,Jo.qb true,Jo.Fact.nm Q 20000,Jo.Fact.nmA R,Jo.qb true] ?_ ?_
 ·refine jm ?_ ?_;rotate_left
  refine jm ?_ ?_
  ·rintro x i _ rfl K f;have hG:=(p.b i).a 1 (.slice A n c) rfl;go_simp;exact f.out _ _ rfl (br _ _)
  refine jm ?_ ?_;rotate_left
  refine jm ?_ ?_
  ·rintro x i _ rfl _ rfl K f;go_simp;refine(jL (z:=b) (ha.b i) (by omega) (by omega) (by omega) HX.out).mono ?_;rintro E wk ⟨A3,n3,c3,rfl,p3,k3,B⟩;exact f.out _ _ ⟨A3,n3,c3,rfl,p3,Nat.le_trans k3 gB⟩ B
  refine jm ?_ ?_;rotate_left
  refine jm ?_ ?_
  ·rintro x i _ rfl K f;have hH:=(j.b i).a 1 (.slice B m d) rfl;go_simp;exact f.out _ _ rfl (br _ _)
  refine jm ?_ ?_
  ·rintro x i _ ⟨A3,n3,c3,rfl,p3,k3⟩ _ rfl K f;go_simp;refine(Gv p3.rd (hb.b i) (by omega) (by omega) gP HQ.out bC.out).mono ?_;rintro E wk ⟨A6,n6,c6,C,G,l,rfl,J,M,F,l6,B⟩;exact f.out _ _ ⟨A6,n6,c6,C,G,l,rfl,J,M,Nat.le_trans F k3⟩ B
  refine jm ?_ ?_
  ·rintro x i _ ⟨A6,n6,c6,C,G,l,rfl,J,M,F⟩ K f;go_simp;exact f.out _ _ ⟨A6,n6,c6,C,G,l,rfl,J,M,F⟩ (br _ _)
  refine jm ?_ ?_
  ·rintro x i _ ⟨A6,n6,c6,C,G,l,rfl,J,M,F⟩ K f;go_simp;exact f.out _ _ ⟨A6,n6,c6,rfl,J,F⟩ (br _ _)
  refine jm ?_ ?_
  ·rintro x i _ ⟨A6,n6,c6,C,G,l,rfl,J,M,F⟩ K f;go_simp;exact f.out _ _ ⟨C,G,l,rfl,M⟩ (br _ _)
  refine jm ?_ ?_
  ·rintro x i _ ⟨A6,n6,c6,C,G,l,rfl,J,M,F⟩ K f;go_simp;exact f.out _ _ rfl (br _ _)
  refine jm ?_ ?_
  ·rintro x i _ ⟨A8,n8,c8,rfl,p8,k8⟩ K f;go_simp;exact f.out _ _ ⟨A8,n8,c8,rfl,p8,k8⟩ (br _ _)
  refine jm ?_ ?_
  ·rintro x i _ ⟨A9,n9,c9,rfl,p9⟩ K f;go_simp;exact f.out _ _ ⟨A9,n9,c9,rfl,p9⟩ (br _ _)
  refine jm ?_ ?_;rotate_left
  exact jo
  all_goals (rintro x i;(repeat rintro _ rfl);intro K f;go_simp;exact f.out _ _ rfl (br _ _))
 rintro w4 i _ _ _ rfl _ rfl _ ⟨_,_,_,rfl,_⟩ _ _ _ rfl _ ⟨_,_,_,_,_,_,rfl,_⟩ _ ⟨_,_,_,_,_,_,rfl,_⟩ _ ⟨_,_,_,rfl,_⟩ _ ⟨_,_,_,rfl,_⟩ _ rfl _ ⟨hI,iU,hN,rfl,Y,hZ⟩ _ ⟨hM,H,hT,rfl,I⟩ _ rfl -;simp only[Jo.z];replace p:=p.b i;replace j:=j.b i;replace h:=h.b i;replace g:=ak g i;refine jd ?_
 clear ha hb
 have hF:0 < H:=by have:=I.pos;omega
 have hV:(0:Int) < H:=by omega
 have hE:H<=1099511627776:=I.rd.big
 clear I
 go_wp2_with fail
 refine(vQ (d:=R) (cut:=true) Y.rd (by omega) (dt hz) bH.out).mono ?_;rintro E w5 ⟨A5,n5,c5,rfl,p5,k5,B⟩;refine aR ?_ p j h g B;clear p j h g B;intro p j h g;clear Y;have hC:=p.cell;have v:=j.cell
 go_wp2_with fail
 refine(dk (!(s==t)) p5.rd).mono ?_;rintro E w6 ⟨s7,A7,n7,c7,rfl,p7,k7,B⟩;clear hC v;replace h:=h.b B;replace g:=ak g B;clear B;clear p5;have hA:=fH.out;have hB:=fP.out
 go_wp2_with fail
 refine(bT p7.wr (by omega) bA.out bB.out).mono ?_;rintro E w7 ⟨s8,A8,n8,c8,rfl,p8,k8,B⟩;replace h:=h.b B;replace g:=ak g B;clear B;clear p7 hA hB
 go_wp2_with fail
 refine(qc p8.wr (by omega) rfl rfl bD.out).mono ?_;rintro E w8 ⟨K9,s9,M9,E9,rfl,q9,B⟩;replace h:=h.b B;replace g:=ak g B;clear B;have hD:=h.cell;have Z:=h.frozen;go_wp2;clear hD Z;have SX:=ac.t4 h K9 s9 M9 E9;exact bq (by simp[results,results108,go_sem,SX.box.cell]) rfl ⟨_,_,_,_,rfl,q9,(SX.below g.out (by omega))⟩
theorem Bk{w:World}{A B:Option Addr}{n c m d α β:Nat}{s t up:Bool}{e r:Int}(ha:Rd w A n c α)(hb:Rd w B m d β)(hn:n<=3500)(hm:m<=3500)(e1: -2200000<=e)(e2:e<=2200000){Q R:Nat}(h0:0 < β)(hQ:α*2^(70+ae β) /β=Q)(hR:α*2^(70+ae β)%β=R)(hz:R=0)(hr:fQ up (aj (s !=t) ((α:Int)*2^(e+(KK:Int)).toNat)) (β:Int) r):Calls prog 108 #[.agg #[.bool s,.slice A n c],.agg #[.bool t,.slice B m d],.int .i64 e,.bool up] w (PN w r):=by
 have gB:=hb.blen_le;obtain⟨D,y⟩:∃k:Nat,70+ae β=k:=⟨_,rfl⟩;obtain⟨κ,hκ⟩:∃κ:Nat,κ=500000:=⟨_,rfl⟩;have o:=oK h0 y.symm ha.bound hb.bound hn hm hκ;have u:=mW (σ:=(s !=t)) (up:=up) (e:=e) h0 y.symm hκ o (by omega) (by omega);have q:=u.uniq (by omega) hr;rw[y]at hQ hR;rw[hQ,hR]at q;obtain⟨S,hS⟩:∃S,gD Q R=S:=⟨_,rfl⟩
 rw[hS,<-tC]at q;obtain⟨X,hX⟩:∃X,α*2^D=X:=⟨_,rfl⟩;rw[hX]at hQ hR;obtain⟨b,T⟩:∃b:Int,(D:Int)=b:=⟨_,rfl⟩;rw[T]at q;obtain⟨L,hL⟩:∃L:Int,((ae β:Nat):Int)=L:=⟨_,rfl⟩
 have J:70+L=b:=by omega
 have hN:70<=b/\b<=200000:=by omega
 obtain⟨P,M⟩:∃P,mk (sg (s !=t) S) (e-b-1)=P:=⟨_,rfl⟩;rw[M]at q
 have N:mk P.1 P.2=P:=by rw[<-M];exact fJ _ _
 have bC:=ie (show eI up (mk P.1 P.2).1 (mk P.1 P.2).2=r by rw[N];exact q)
 have Z:Hid ((mk (sg (!(s==t)) S) (e-b-1)).1=P.1):=ie (by rw[<-M];rfl)
 have bA:Hid ((mk (sg (!(s==t)) S) (e-b-1)).2=P.2):=ie (by rw[<-M];rfl)
 have HL:=ie hL
 have bH:Hid (IntKind.i64.wrap (70+L)=b):=ie (by rw[J];exact IntWalk.i64_in _ (by omega))
 have bN:=iw (e-b);have fH:=iw (e-b-1)
 have U:b.toNat=D:=by omega
 have HX:Hid (α*2^b.toNat=X):=ie (by rw[U];exact hX)
 have HQ:=ie hQ;have bB:=ie hR;have bD:=ie hS
 have gO:β≠0:=by omega
 obtain⟨σ,hσ⟩:∃σ,ag (sg t β) 0=σ:=⟨_,rfl⟩
 have hT:(σ==0)=false:=by
  have:σ≠0:=by
   rw[<-hσ]
   rcases dK t β with⟨a,_⟩ | ⟨_,_,a⟩ | ⟨_,_,a⟩
   ·omega
   ·rw[a];decide
   ·rw[a];decide
  simpa using this
 have HS:=ie hσ
 have fP:n+b.toNat/32+1<=20000:=by omega
 clear u hr q o gB hL J hX T M N hQ hR hS y hκ U hσ
 go_enter func108,ntmps108
 go_upto_region 1 with fail
 generalize O:((w.alloc _).alloc _).alloc _=w1 at *;obtain⟨p,j,h,g⟩:=Bo.en3 O;replace ha:=ha.below g.out;replace hb:=hb.below g.out;clear O;have v:=j.cell
 go_wp2_with fail
 refine(jK (hb.wr t) HS.out).mono ?_;rintro E w2 ⟨rfl,B⟩;clear v;refine gv ?_ p j h ha hb g B;clear p j h ha hb g B;intro p j h ha hb g;have v:=j.cell
 go_wp2_with fail
 refine(nQ hb HL.out).mono ?_;rintro E w3 ⟨rfl,B⟩;clear v;refine gv ?_ p j h ha hb g B;clear p j h ha hb g B;intro p j h ha hb g;have gP:=bH.out
 go_upto_region 4 with fail
 clear gP;refine bF [0,1,2,3,4,5,6,7,8,9,10,11,12,13] [26,27,28,29,30,31,32,25,33,34,35,11,12,13] [[],[0],[],[1,2],[],[4],[3,5],[6],[7],[7],[7],[8],[9],[10]] 14 0 [Jo.qp w.heap.size 1,Jo.Fact.eq (.slice A n c),Jo.qi b,Jo.Fact.nm X 20000,Jo.qp (w.heap.size+1) 1,Jo.Fact.eq (.slice B m d),Jo.Fact.dv Q R 20000,Jo.Fact.dv Q R 20000,Jo.Fact.nm Q 20000,Jo.Fact.nmA R,Jo.qb true,Jo.Fact.nm Q 20000,Jo.Fact.nmA R,Jo.qb true] ?_ ?_
 ·refine jm ?_ ?_;rotate_left
  refine jm ?_ ?_
  ·rintro x i _ rfl K f;have hE:=(p.b i).a 1 (.slice A n c) rfl;go_simp;exact f.out _ _ rfl (br _ _)
  refine jm ?_ ?_;rotate_left
  refine jm ?_ ?_
  ·rintro x i _ rfl _ rfl K f;go_simp;refine(jL (z:=b) (ha.b i) (by omega) (by omega) (by omega) HX.out).mono ?_;rintro E wk ⟨A3,n3,c3,rfl,p3,k3,B⟩;exact f.out _ _ ⟨A3,n3,c3,rfl,p3,Nat.le_trans k3 fP⟩ B
  refine jm ?_ ?_;rotate_left
  refine jm ?_ ?_
  ·rintro x i _ rfl K f;have hF:=(j.b i).a 1 (.slice B m d) rfl;go_simp;exact f.out _ _ rfl (br _ _)
  refine jm ?_ ?_
  ·rintro x i _ ⟨A3,n3,c3,rfl,p3,k3⟩ _ rfl K f;go_simp;refine(Gv p3.rd (hb.b i) (by omega) (by omega) gO HQ.out bB.out).mono ?_;rintro E wk ⟨A6,n6,c6,C,G,l,rfl,H,I,F,l6,B⟩;exact f.out _ _ ⟨A6,n6,c6,C,G,l,rfl,H,I,Nat.le_trans F k3⟩ B
  refine jm ?_ ?_
  ·rintro x i _ ⟨A6,n6,c6,C,G,l,rfl,H,I,F⟩ K f;go_simp;exact f.out _ _ ⟨A6,n6,c6,C,G,l,rfl,H,I,F⟩ (br _ _)
  refine jm ?_ ?_
  ·rintro x i _ ⟨A6,n6,c6,C,G,l,rfl,H,I,F⟩ K f;go_simp;exact f.out _ _ ⟨A6,n6,c6,rfl,H,F⟩ (br _ _)
  refine jm ?_ ?_
  ·rintro x i _ ⟨A6,n6,c6,C,G,l,rfl,H,I,F⟩ K f;go_simp;exact f.out _ _ ⟨C,G,l,rfl,I⟩ (br _ _)
  refine jm ?_ ?_
  ·rintro x i _ ⟨A6,n6,c6,C,G,l,rfl,H,I,F⟩ K f;go_simp;exact f.out _ _ rfl (br _ _)
  refine jm ?_ ?_
  ·rintro x i _ ⟨A8,n8,c8,rfl,p8,k8⟩ K f;go_simp;exact f.out _ _ ⟨A8,n8,c8,rfl,p8,k8⟩ (br _ _)
  refine jm ?_ ?_
  ·rintro x i _ ⟨A9,n9,c9,rfl,p9⟩ K f;go_simp;exact f.out _ _ ⟨A9,n9,c9,rfl,p9⟩ (br _ _)
  refine jm ?_ ?_;rotate_left
  exact jo
  all_goals (rintro x i;(repeat rintro _ rfl);intro K f;go_simp;exact f.out _ _ rfl (br _ _))
 rintro w4 i _ _ _ rfl _ rfl _ ⟨_,_,_,rfl,_⟩ _ _ _ rfl _ ⟨_,_,_,_,_,_,rfl,_⟩ _ ⟨_,_,_,_,_,_,rfl,_⟩ _ ⟨_,_,_,rfl,_⟩ _ ⟨_,_,_,rfl,_⟩ _ rfl _ ⟨hG,hV,hI,rfl,V,hU⟩ _ ⟨hH,hB,hM,rfl,W⟩ _ rfl -;simp only[Jo.z];replace p:=p.b i;replace j:=j.b i;replace h:=h.b i;replace g:=ak g i;refine jd ?_
 clear ha hb;subst hz
 obtain rfl:hB=0:=by have:=W.pos;omega
 clear W
 go_wp2_with fail
 refine(vQ (d:=0) (cut:=false) V.rd (by omega) (by decide) bD.out).mono ?_;rintro E w5 ⟨A5,n5,c5,rfl,p5,k5,B⟩;refine aR ?_ p j h g B;clear p j h g B;intro p j h g;clear V;have hC:=p.cell;have v:=j.cell
 go_wp2_with fail
 refine(dk (!(s==t)) p5.rd).mono ?_;rintro E w6 ⟨s7,A7,n7,c7,rfl,p7,k7,B⟩;clear hC v;replace h:=h.b B;replace g:=ak g B;clear B;clear p5;have gS:=bN.out;have hA:=fH.out
 go_wp2_with fail
 refine(bT p7.wr (by omega) Z.out bA.out).mono ?_;rintro E w7 ⟨s8,A8,n8,c8,rfl,p8,k8,B⟩;replace h:=h.b B;replace g:=ak g B;clear B;clear p7 gS hA
 go_wp2_with fail
 refine(qc p8.wr (by omega) rfl rfl bC.out).mono ?_;rintro E w8 ⟨K9,s9,M9,E9,rfl,q9,B⟩;replace h:=h.b B;replace g:=ak g B;clear B;have hD:=h.cell;have Y:=h.frozen;go_wp2;clear hD Y;have SX:=ac.t4 h K9 s9 M9 E9;exact bq (by simp[results,results108,go_sem,SX.box.cell]) rfl ⟨_,_,_,_,rfl,q9,(SX.below g.out (by omega))⟩
theorem vP{w:World}{A B:Option Addr}{n c m d α β:Nat}{s t up:Bool}{e r:Int}(ha:Rd w A n c α)(hb:Rd w B m d β)(hn:n<=3500)(hm:m<=3500)(e1: -2200000<=e)(e2:e<=2200000)(h0:0 < β)(hr:fQ up (aj (s !=t) ((α:Int)*2^(e+(KK:Int)).toNat)) (β:Int) r):Calls prog 108 #[.agg #[.bool s,.slice A n c],.agg #[.bool t,.slice B m d],.int .i64 e,.bool up] w (PN w r):=by
 by_cases hz:α*2^(70+ae β)%β=0
 ·exact Bk ha hb hn hm e1 e2 h0 rfl rfl hz hr
 ·exact Bl ha hb hn hm e1 e2 h0 rfl rfl hz hr
theorem Be{w:World}{A B:Option Addr}{n c m d:Nat}{s t up:Bool}{z y r:Int}(h:Wr w s A n c z)(k:Wr w t B m d y)(hn:n<=3500)(hm:m<=3500)(hr:Rq up z y r):Calls prog 157 #[.agg #[.bool s,.slice A n c],.agg #[.bool t,.slice B m d],.bool up] w (PN w r):=by
 obtain⟨α,i,hz⟩:=h;obtain⟨β,hb,hy⟩:=k
 have j:(β=0/\aj (!up) TP=r)\/(0 < β/\fQ up (aj (s !=t) ((α:Int)*2^(0+(KK:Int)).toNat)) (β:Int) r):=by
  rw[tC]at hz hy
  rcases Nat.eq_zero_or_pos β with e | e
  ·left
   subst e
   have:y=0:=by rw[<-hy];cases t <;> rfl
   subst this;exact⟨rfl,(ky.1 hr).symm⟩
  ·right
   obtain⟨M,C⟩:=nd up (aj (s !=t) ((α:Int)*2^(0+(KK:Int)).toNat)) (show (0:Int) < (β:Int) by omega)
   have:=GK e C
   rw[hz,hy]at this;rw[hr.uniq this];exact⟨e,C⟩
 clear hz hy hr
 go_enter func157,ntmps157
 go_upto_region 1 with fail
 generalize x:((w.alloc _).alloc _).alloc _=w1 at *;obtain⟨u,v,a,g⟩:=Bo.en3 x;replace i:=i.below g.out;replace hb:=hb.below g.out;clear x
 rcases j with⟨G,hr⟩ | ⟨G,hr⟩
 ·have l:=u.cell;have o:=v.cell
  go_wp2_with fail
  refine(Bm i hb hn hm (by decide) (by decide) G hr).mono ?_;rintro J L ⟨E,s1,F,D,rfl,H,B⟩;clear l o;refine gv ?_ u v a i hb g B;clear u v a i hb g B;intro u v a i hb g;have p:=a.cell;have f:=a.frozen;go_wp2;clear p f
  have q:=ac.t4 a E s1 F D;exact bq (by simp[results,results157,go_sem,q.box.cell]) rfl ⟨_,_,_,_,rfl,H,(q.below g.out (by omega))⟩
 ·have I:=ie hr;clear hr;have l:=u.cell;have o:=v.cell
  go_wp2_with fail
  refine(vP i hb hn hm (by decide) (by decide) G I.out).mono ?_;rintro J L ⟨E,s1,F,D,rfl,H,B⟩;clear l o;replace a:=a.b B;replace g:=ak g B;clear B;have p:=a.cell;have f:=a.frozen;go_wp2;clear p f;have q:=ac.t4 a E s1 F D
  exact bq (by simp[results,results157,go_sem,q.box.cell]) rfl ⟨_,_,_,_,rfl,H,(q.below g.out (by omega))⟩
theorem o9{w:World}:Calls prog 73 #[] w (W2 w 7 iP iO):=by
 obtain⟨b1,b2⟩:=mj;obtain⟨a,b,h5⟩:∃a b,gU 5=(a,b):=⟨_,_,rfl⟩;obtain⟨c,d,r⟩:∃a b,gU 239=(a,b):=⟨_,_,rfl⟩;rw[h5,r]at b1 b2;have H5:=ie h5;have N:=ie r
 have bH:Hid (a*16-d*4=iP):=ie b1
 have bN:Hid (b*16-c*4=iO):=ie b2
 clear h5 r b1 b2
 go_enter func73,ntmps73
 go_upto_region 1 with fail
 generalize P:(w.alloc _).alloc _=w1 at *;obtain⟨e,f,g⟩:=Bo.en2 P;clear P
 go_wp2_with fail
 refine(JD H5.out).mono ?_;rintro ee W ⟨s2,A2,n2,c2,s3,A3,n3,c3,rfl,p2,o,k2,k3,B⟩;refine aF ?_ e f g B;clear e f g B;intro e f g
 go_upto_region 2 with fail
 have F:(World.alloc W (.cells #[.bool s2,.slice A2 n2 c2] 43)).heap.size=W.heap.size+1:=by simp
 have hG:=e.lt;have hH:=f.lt;have n:=af W (.cells #[.bool s2,.slice A2 n2 c2] 43);replace e:=e.b n;replace f:=f.b n;replace p2:=p2.b n;replace o:=o.b n;replace g:=ie (bt g.out n)
 have m:=Bo.new W #[.bool s2,.slice A2 n2 c2] 43;generalize i:World.alloc W (.cells #[.bool s2,.slice A2 n2 c2] 43)=w3 at *;clear i;have hL:=e.lt;have hM:=f.lt;have hI:=m.lt;generalize i:w3.alloc _=w4 at *;obtain⟨q,M⟩:=Bo.nw i;clear i;refine gv ?_ e f m p2 o g M;clear e f m p2 o g M;intro e f m p2 o g;rw[F]at q;clear F
 go_wp2_with fail
 refine(JD N.out).mono ?_;rintro ee X ⟨s4,A4,n4,c4,s5,A5,n5,c5,rfl,H,I,k4,k5,B⟩;refine oG ?_ e f m q p2 o g B;clear e f m q p2 o g B;intro e f m q p2 o g
 go_upto_region 3 with fail
 have G:(World.alloc X (.cells #[.bool s4,.slice A4 n4 c4] 43)).heap.size=X.heap.size+1:=by simp
 have hQ:=e.lt;have hR:=f.lt;have hN:=m.lt;have hP:=q.lt;have n:=af X (.cells #[.bool s4,.slice A4 n4 c4] 43);replace e:=e.b n;replace f:=f.b n;replace m:=m.b n;replace q:=q.b n;replace p2:=p2.b n
 replace o:=o.b n;replace H:=H.b n;replace I:=I.b n;replace g:=ie (bt g.out n);have J:=Bo.new X #[.bool s4,.slice A4 n4 c4] 43;generalize i:World.alloc X (.cells #[.bool s4,.slice A4 n4 c4] 43)=w6 at *
 clear i;have hW:=e.lt;have hX:=f.lt;have hT:=m.lt;have hU:=q.lt;have hV:=J.lt;generalize i:w6.alloc _=w7 at *;obtain⟨X5,M⟩:=Bo.nw i;clear i;refine sX ?_ e f m q J p2 o H I g M;clear e f m q J p2 o H I g M;intro e f m q J p2 o H I g;rw[G]at X5;clear G;have ET:=e.lt;have HA:=f.lt;have xX:=m.lt;have zX:=q.lt;have CD:=J.lt;have DS:=X5.lt;refine bF [0,1,2,3,4,5,6,7,8,9] [15,16,17,18,19,20,21,22,23,24,0,0] [[],[0],[],[2],[1,3],[],[5],[],[7],[6,8],[],[]] 12 2 [Jo.Fact.eq (.agg #[.bool s2,.slice A2 n2 c2]),Jo.Fact.wn (a*16) (1000002),Jo.Fact.eq (.agg #[.bool s5,.slice A5 n5 c5]),Jo.Fact.wn (d*4) (1000002),Jo.Fact.wn (iP) (7),Jo.Fact.eq (.agg #[.bool s3,.slice A3 n3 c3]),Jo.Fact.wn (b*16) (1000002),Jo.Fact.eq (.agg #[.bool s4,.slice A4 n4 c4]),Jo.Fact.wn (c*4) (1000002),Jo.Fact.wn (iO) (7),Jo.Fact.any,Jo.Fact.any] ?_ ?_
 ·refine jm ?_ ?_;rotate_left
  refine jm ?_ ?_
  ·rintro L j _ rfl K h;go_simp;exact Jo.w1 (ip (p2.b j).wr (by omega) (by omega) (by omega) rfl) h.out
  refine jm ?_ ?_;rotate_left
  refine jm ?_ ?_
  ·rintro L j _ rfl K h;go_simp;exact Jo.w1 (ip (I.b j).wr (by omega) (by omega) (by omega) rfl) h.out
  refine jm ?_ ?_
  ·rintro L j _ ⟨hZ,bA,hC,fH,rfl,S,gP⟩ _ ⟨iU,bB,hD,fP,rfl,T,gS⟩ K h;go_simp;refine(FD S.wr T.wr (by omega) (by omega) bH.out).mono ?_;rintro ee wk ⟨D,t,A,x,rfl,k,Q,B⟩;exact h.out _ _ ⟨D,t,A,x,rfl,k,k.fits (by decide)⟩ B
  refine jm ?_ ?_;rotate_left
  refine jm ?_ ?_
  ·rintro L j _ rfl K h;go_simp;exact Jo.w1 (ip (o.b j).wr (by omega) (by omega) (by omega) rfl) h.out
  refine jm ?_ ?_;rotate_left
  refine jm ?_ ?_
  ·rintro L j _ rfl K h;go_simp;exact Jo.w1 (ip (H.b j).wr (by omega) (by omega) (by omega) rfl) h.out
  refine jm ?_ ?_
  ·rintro L j _ ⟨iV,bC,hE,gB,rfl,U,hA⟩ _ ⟨lA,bD,hF,gO,rfl,V,hB⟩ K h;go_simp;refine(FD U.wr V.wr (by omega) (by omega) bN.out).mono ?_;rintro ee wk ⟨E,u,C,y,rfl,l,R,B⟩;exact h.out _ _ ⟨E,u,C,y,rfl,l,l.fits (by decide)⟩ B
  exact jo
  all_goals (rintro L j;(repeat rintro _ rfl);intro K h;have HC:=(m.b j).cell;have HF:=(X5.b j).cell;have HD:=(q.b j).cell;have HE:=(J.b j).cell;go_simp;exact h.out _ _ rfl (br _ _))
 rintro w8 j _ rfl _ ⟨hZ,bA,hC,fH,rfl,S,gP⟩ _ rfl _ ⟨iU,bB,hD,fP,rfl,T,gS⟩ _ ⟨D,t,A,x,rfl,k,Q⟩ _ rfl _ ⟨iV,bC,hE,gB,rfl,U,hA⟩ _ rfl _ ⟨lA,bD,hF,gO,rfl,V,hB⟩ _ ⟨E,u,C,y,rfl,l,R⟩ -;simp only[Jo.z];replace e:=e.b j;replace f:=f.b j;replace g:=ak g j;clear p2 o H I;have lB:=e.cell
 have Y:=e.frozen
 refine jn 10 fun K h=>?_
 go_simp;refine h.out _ _ ?_;clear h K lB Y;generalize O:(w8.setCell _ _).setCell _ _=w9 at *;have p:=ac.of2 e O;replace f:=f.s p;replace k:=k.s p;replace l:=l.s p;replace g:=bi g p (by omega);replace e:=p.box;clear p O;have qT:=f.cell;have Z:=f.frozen
 refine jn 11 fun K h=>?_
 go_simp;refine h.out _ _ ?_;clear h K qT Z;generalize O:(w9.setCell _ _).setCell _ _=wA at *;have p:=ac.of2 f O;replace e:=e.s p;replace k:=k.s p;replace l:=l.s p;replace g:=bi g p (by omega);replace f:=p.box;clear p O;refine jd ?_;go_wp2;exact bq (v:= .tuple #[.agg #[.bool D,.slice t A x],.agg #[.bool E,.slice u C y]]) (by simp[results,results73,go_sem,e.cell,f.cell]) rfl ⟨D,t,A,x,E,u,C,y,rfl,k,l,Q,R,g.out⟩
theorem vO{w:World}{A:Option Addr}{n c:Nat}{s:Bool}{x:Int}{B:Option Addr}{m d:Nat}{t:Bool}{y:Int}{r u:Int}{z:Sp}(h:Wr w s A n c x)(k:Wr w t B m d y)(hn:n<=3500)(hm:m<=3500)(hr:Rq false x SC r)(hu:Rq true y SC u)(hz:eH r u=z):Calls prog 100 #[.agg #[.bool s,.slice A n c],.agg #[.bool t,.slice B m d]] w (PV w z):=by
 have HR:=ie hr;have HU:=ie hu;have HZ:=ie hz;clear hr hu hz
 go_enter func100,ntmps100
 go_upto_region 1 with fail
 generalize q:((w.alloc _).alloc _).alloc _=w1 at *;obtain⟨X2,X3,i,l⟩:=Bo.en3 q;replace h:=h.below l.out;replace k:=k.below l.out;clear q;have fH:=X2.lt;have fP:=X3.lt;have gB:=i.lt;refine bF [0,1,2,3,4,5,6] [6,7,8,9,10,11,12,0] [[],[],[0,1],[],[],[3,4],[2,5],[]] 8 1 [Jo.Fact.eq (.agg #[.bool s,.slice A n c]),Jo.Fact.wn (SC) (8),Jo.Fact.num r,Jo.Fact.eq (.agg #[.bool t,.slice B m d]),Jo.Fact.wn (SC) (8),Jo.Fact.num u,Jo.Fact.iv z,Jo.Fact.any] ?_ ?_
 ·refine jm ?_ ?_;rotate_left
  refine jm ?_ ?_
  ·rintro E e K a;go_simp;exact Jo.w1 (i9) a.out
  refine jm ?_ ?_
  ·rintro E e _ rfl _ ⟨Z,G,X,S,rfl,v,V⟩ K a;go_simp;exact Jo.n1 (Be (h.b e) v.wr (by omega) (by omega) HR.out) a.out
  refine jm ?_ ?_;rotate_left
  refine jm ?_ ?_
  ·rintro E e K a;go_simp;exact Jo.w1 (i9) a.out
  refine jm ?_ ?_
  ·rintro E e _ rfl _ ⟨bB,H,Y,T,rfl,C,W⟩ K a;go_simp;exact Jo.n1 (Be (k.b e) C.wr (by omega) (by omega) HU.out) a.out
  refine jm ?_ ?_
  ·rintro E e _ ⟨M,bA,P,I,rfl,f⟩ _ ⟨N,bC,Q,J,rfl,g⟩ K a;go_simp;exact Jo.v1 (pd f.top g.top f.rk g.rk HZ.out) a.out
  exact jo
  all_goals (rintro E e;(repeat rintro _ rfl);intro K a;have gO:=(X2.b e).cell;have gP:=(X3.b e).cell;go_simp;exact a.out _ _ rfl (br _ _))
 rintro w2 e _ rfl _ ⟨Z,G,X,S,rfl,v,V⟩ _ ⟨M,bA,P,I,rfl,f⟩ _ rfl _ ⟨bB,H,Y,T,rfl,C,W⟩ _ ⟨N,bC,Q,J,rfl,g⟩ _ ⟨U,O,bD,R,L,o,D,p,j,rfl,bH⟩ -;simp only[Jo.z];replace i:=i.b e;replace l:=ak l e;clear h k;have bN:=i.cell;have F:=i.frozen
 refine jn 7 fun K a=>?_
 go_simp;refine a.out _ _ ?_;clear a K bN F;have SX:=ac.t9 i U O bD R L o D p j;refine jd ?_;go_wp2;exact bq (by simp[results,results100,go_sem,SX.box.cell]) rfl ⟨_,_,_,_,_,_,_,_,_,rfl,bH,(SX.below l.out (by omega))⟩
theorem K0{w:World}:Calls prog 43 #[] w (PV w (some (eM,eM+1))):=by
 have z:Hid (eH eM (eM+1)=some (eM,eM+1)):=ie (aI (by omega) (by decide) (by decide))
 go_enter func43,ntmps43
 go_upto_region 1 with fail
 generalize h:w.alloc _=w1 at *;obtain⟨a,c⟩:=Bo.en1 h;clear h
 go_wp2_with fail
 refine(o9).mono ?_;rintro E i ⟨s2,A2,n2,c2,s3,A3,n3,c3,rfl,p2,f,H,I,B⟩;replace a:=a.b B;replace c:=ak c B;clear B
 go_upto_region 2 with fail
 have e:(World.alloc i (.cells #[.bool s2,.slice A2 n2 c2] 43)).heap.size=i.heap.size+1:=by simp
 have o:=a.lt;have k:=af i (.cells #[.bool s2,.slice A2 n2 c2] 43);replace a:=a.b k;replace p2:=p2.b k;replace f:=f.b k;replace c:=ie (bt c.out k);have g:=Bo.new i #[.bool s2,.slice A2 n2 c2] 43;generalize d:World.alloc i (.cells #[.bool s2,.slice A2 n2 c2] 43)=G at *
 clear d;have q:=a.lt;have p:=g.lt;generalize d:G.alloc _=J at *;obtain⟨y,v⟩:=Bo.nw d;clear d;refine dW ?_ a g p2 f c v;clear a g p2 f c v;intro a g p2 f c;rw[e]at y;clear e;have s:=g.cell;have t:=y.cell
 go_wp2_with fail
 refine(vO p2.wr f.wr (by omega) (by omega) CE CC z.out).mono ?_;rintro E L ⟨D,A,s4,C,E4,m,r,n,l,rfl,F,B⟩;clear s t;replace a:=a.b B;replace c:=ak c B;clear B;clear p2 f;have u:=a.cell;have j:=a.frozen;go_wp2;clear u j
 have x:=ac.t9 a D A s4 C E4 m r n l;exact bq (by simp[results,results43,go_sem,x.box.cell]) rfl ⟨_,_,_,_,_,_,_,_,_,rfl,F,(x.below c.out (by omega))⟩
def In (x:Int):Prop:= -19342822337206103650074625<=x/\x<=19342822337206103650074625
theorem BL{a b:Int}(ha:In a)(hb:In b):aZ (eH a b):=BM ha.1 hb.2
theorem aZ.in1{a b:Int}(h:aZ (some (a,b))):In a/\In b:=by
 obtain⟨h1,h2,c,h4,d⟩:=h;exact⟨⟨by omega,by omega⟩,⟨by omega,by omega⟩⟩
def ga (x:Sp):Sp:=match x with
 | none=>none
 | some (a,b)=>eH (-b) (-a)
def fL (x y:Sp):Sp:=match x,y with
 | some (a,b),some (c,d)=>eH (ay false a c) (ay true b d)
 | _,_=>none
def Ea (l:List Sp):Sp:=match l with
 | []=>some (0,0)
 | x::l=>l.foldl fL x
def kC (x y:Sp):Sp:=fL x (ga y)
def zm (f:Bool->Int->Int->Int)(a b c d:Int):Sp:=eH (min (min (f false a c) (f false a d)) (min (f false b c) (f false b d))) (max (max (f true a c) (f true a d)) (max (f true b c) (f true b d)))
def lF (x y:Sp):Sp:=match x,y with
 | some (a,b),some (c,d)=>zm eN a b c d
 | _,_=>none
theorem eW{a b:Int}(h:aZ (some (a,b))):ga (some (a,b))=some (-b,-a):=by
 obtain⟨h1,h2,c,h4,d⟩:=h;exact aI (by omega) (by omega) (by omega)
theorem lU{x:Sp}(h:aZ x):aZ (ga x):=by
 rcases x with _ | ⟨a,b⟩
 ·exact trivial
 ·obtain⟨⟨h1,h2⟩,c,h4⟩:=h.in1;exact BL ⟨by omega,by omega⟩ ⟨by omega,by omega⟩
theorem neg_neg{x:Sp}(h:aZ x):ga (ga x)=x:=by
 rcases x with _ | ⟨a,b⟩
 ·rfl
 ·have k:=lU h;rw[eW h]at k|-;rw[eW k,Int.neg_neg,Int.neg_neg]
theorem zE (x:Sp):fL x none=none:=by cases x <;> rfl
theorem add_comm (x y:Sp):fL x y=fL y x:=by
 rcases x with _ | ⟨a,b⟩ <;> rcases y with _ | ⟨c,d⟩ <;> first | rfl | skip
 show eH _ _=eH _ _
 rw[dM (x:=a),dM (x:=b)]
theorem zF{x y z t:Int}(up:Bool)(hx:In x)(hy:In y)(hz:In z)(ht:In t)(h:x<=y)(k:z<=t):ay up x z<=ay up y t:=by
 refine Int.le_trans (od up hx.1 hx.2 hy.1 hy.2 hz.1 hz.2 h) ?_;rw[dM (x:=y),dM (x:=y)];exact od up hz.1 hz.2 ht.1 ht.2 hy.1 hy.2 k
theorem Hg{f:Bool->Int->Int->Int}(hf:∀up x y,In (f up x y))(a b c d:Int):aZ (zm f a b c d):=by
 have h1:=hf false a c;have h2:=hf false a d;have e:=hf false b c;have h4:=hf false b d;have g:=hf true a c;have h:=hf true a d;have i:=hf true b c;have j:=hf true b d
 unfold In at *
 exact BL ⟨by omega,by omega⟩ ⟨by omega,by omega⟩
theorem Ie{x y:Sp}:aZ (lF x y):=by
 rcases x with _ | ⟨a,b⟩
 ·exact trivial
 rcases y with _ | ⟨c,d⟩
 ·exact trivial
 show aZ (zm eN a b c d)
 exact Hg (f:=eN) (fun up _ _=>fc up) a b c d
theorem mul_comm (x y:Sp):lF x y=lF y x:=by
 rcases x with _ | ⟨a,b⟩ <;> rcases y with _ | ⟨c,d⟩ <;> first | rfl | skip
 show zm eN a b c d=zm eN c d a b
 unfold zm
 simp only[oF (x:=c),oF (x:=d)]
 congr 1 <;> omega
def QF (q:Bool->Int->Int->Int):Prop:=∀up x y,Qt up x y (q up x y)
theorem JU:∃q,QF q:=by
 have h:∀p:Bool × Int × Int,∃r,Qt p.1 p.2.1 p.2.2 r:=fun p=>JV p.1 p.2.1 p.2.2
 exact⟨fun up x y=>Classical.choose (h (up,x,y)),fun up x y=>Classical.choose_spec (h (up,x,y))⟩
theorem QF.in{q:Bool->Int->Int->Int}(hq:QF q)(up:Bool)(x y:Int):In (q up x y):=(hq up x y).bd
theorem kZ{up:Bool}{x y r:Int}(h:Qt up x y r)(hy:0 < y)(hx:ax x=false)(hi:ax y=false):fQ up (vr x*2^KK) (vr y) r:=by
 by_cases a:x=0
 ·have:r=0:=(bR (by omega) (.inl a)).1 h
  subst this;subst a;refine hO (iF hy) (by decide) (by decide) ?_
  rw[show vr 0=0 from rfl,Int.zero_mul,Int.zero_mul]
 ·have:=(iC (by omega) (by simp[a,hi]) hx).1 h
  rw[df (show ¬y < 0 by omega),aK,aK]at this
  exact this
theorem pE{up:Bool}{x y r:Int}(h:Qt up x y r)(hy:0 < y)(hi:ax y=false)(hx:ax x=true):r=x:=by
 have a:=dq;have h2:=bP hx
 have:=(iD (by omega) (fun e=>e.elim (fun e=>by omega) (fun e=>by rw[hi]at e;cases e)) hx).1 h
 rw[this,df (show ¬y < 0 by omega)]
 rcases h2 with rfl | rfl
 ·rw[df (by decide),show (false !=false)=false from rfl,aK,a]
 ·rw[dt (by decide),show (true !=false)=true from rfl,aN,a]
theorem JW{up:Bool}{x x2 y r r2:Int}(hx:In x)(hx2:In x2)(hy:0 < y)(hyi:y<=19342822337206103650074625)(h:x<=x2)(a:Qt up x y r)(b:Qt up x2 y r2):r<=r2:=by
 have c:=a.bd;have d:=b.bd
 cases hi:ax y
 ·cases h1:ax x
  ·cases h2:ax x2
   ·refine(kZ a hy h1 hi).mono (iF hy) (iF hy) (kZ b hy h2 hi) ?_;exact Int.mul_le_mul_of_nonneg_right (Int.mul_le_mul_of_nonneg_right (bM h) (Int.le_of_lt (aE KK))) (DU (Int.le_of_lt hy))
   ·have:=pE b hy hi h2
    rcases bP h2 with e | e
    ·omega
    ·have:=bn hx.1 hx.2 h1
     omega
  ·have:=pE a hy hi h1
   rcases bP h1 with e | e
   ·have e2:x2=x:=by have:=hx2.2;omega
    subst e2
    have:=pE b hy hi h1
    omega
   ·omega
 ·have e1:=(bR (by omega) (.inr hi)).1 a;have e2:=(bR (by omega) (.inr hi)).1 b
  omega
theorem GH{up:Bool}{x y r:Int}(hx:In x)(h0:0<=x)(hy:0 < y)(hyi:y<=19342822337206103650074625)(h:Qt up x y r):0<=r:=
 JW (x:=0) ⟨by decide,by decide⟩ hx hy hyi h0 ((bR (by omega) (.inl rfl)).2 rfl) h
theorem JX{up:Bool}{x y y2 r r2:Int}(hx:In x)(h0:0<=x)(hy:0 < y)(h:y<=y2)(hyi:y2<=19342822337206103650074625)(a:Qt up x y r)(b:Qt up x y2 r2):r2<=r:=by
 have c:=b.bd
 cases hi:ax y2
 ·obtain⟨_,d⟩:=bn (by omega) hyi hi
  have zn:ax y=false:=bz (by omega) (by omega)
  cases h1:ax x
  ·refine(kZ b (by omega) h1 hi).mono (iF (by omega)) (iF hy) (kZ a hy h1 zn) ?_;exact Int.mul_le_mul_of_nonneg_left (bM h) (Int.mul_nonneg (DU h0) (Int.le_of_lt (aE KK)))
  ·have:=pE a hy zn h1
   rcases bP h1 with e | e
   ·omega
   ·omega
 ·have e2:=(bR (by omega) (.inr hi)).1 b
  have:=GH hx h0 hy (by omega) a
  omega
section
variable {q:Bool->Int->Int->Int}
theorem JT (hq:QF q)(up:Bool){n p e r:Int}(hn:0 < n)(hp:n<=p)(hr:0 < r)(he:r<=e)(p2:In p)(e2:In e):q up n e<=q up p r:=by
 have N:In n:=⟨by omega,by have:=p2.2;omega⟩
 have:=JW N p2 (by omega) e2.2 hp (hq up n e) (hq up p e)
 have:=JX p2 (by omega) hr he e2.2 (hq up p r) (hq up p e)
 omega
theorem CS (hq:QF q)(x y:Int)(hy:y≠0):q false x y<=q true x y:=by
 have A:=hq false x y;have B:=hq true x y
 by_cases h:x=0\/ax y=true
 ·have e1:=(bR hy h).1 A;have e2:=(bR hy h).1 B
  omega
 ·cases hx:ax x
  ·have a:=(iC hy h hx).1 A;have b:=(iC hy h hx).1 B
   rcases pR (jC hy) a b with h | h <;> omega
  ·have e1:=(iD hy h hx).1 A;have e2:=(iD hy h hx).1 B
   omega
theorem Hn (hq:QF q)(up:Bool){n p e r:Int}(hn:0 < n)(hp:n<=p)(hr:0 < r)(he:r<=e)(p2:In p)(e2:In e):q false n e<=q up p r:=by
 have:=JT hq false hn hp hr he p2 e2
 have:=CS hq p r (by omega)
 cases up <;> omega
end
theorem o0{s:Bool}{M:Int}(h1:9223372036854775808<=M):mt 1 s M 0=true:=by
 have:au 1 s M 0:=Or.inr (Or.inl ⟨rfl,h1,by decide,by decide⟩)
 unfold mt
 rw[dt this]
 rfl
theorem vA{s:Bool}{M:Int}(h1:9223372036854775808<=M)(h2:LQ M):∃(α:Nat) (v:Nat),(jG 1 s M 0).1=aj s (α:Int)/\(jG 1 s M 0).2=(v:Int)/\M=(α:Int)*2^v/\0 < α/\α < 18446744073709551616/\v < 64:=by
 obtain⟨α,v,a,b,c,d,_,e,f⟩:=Cr h1 h2
 have hx:jG 1 s M 0=mk (aj s M) 0:=by
  unfold jG
  rw[if_pos (o0 h1)]
 refine⟨α,v,?_,?_,c,d,e,f⟩
 ·rw[hx]
  cases s
  ·rw[aK,aK,a]
  ·rw[aN,aN,kX,a]
 ·rw[hx]
  cases s
  ·rw[aK,b]
  ·rw[aN,kX,b]
theorem GS{w:World}{s t:Bool}{A:Option Addr}{n c α:Nat}(h:Wn w t A n c (aj s (α:Int)))(h0:0 < α):Rd w A n c α/\t=s:=by
 have e:(aj s (α:Int)).natAbs=α:=by rw[l7 s (by omega)];omega
 have h1:=h.1.rd;rw[e]at h1;refine⟨h1,?_⟩;rw[h.2]
 cases s
 ·rw[aK];exact df (by omega)
 ·rw[aN];exact dt (by omega)
theorem qQ{w:World}{D D' M M' E E':Int}{s s':Bool}{up:Bool}{x y r:Int}(hM:LQ M)(hM':LQ M')(hx:rk D s M E=x)(hy:rk D' s' M' E'=y)(hr:Qt up x y r):Calls prog 41 #[VQ D s M E,VQ D' s' M' E',.bool up] w (PN w r):=by
 delta VQ
 have HX:=ie hx;have HY:=ie hy;clear hx hy
 go_enter func41,ntmps41
 go_upto_region 1 with fail
 generalize T:((w.alloc _).alloc _).alloc _=w1 at *;obtain⟨X1,N,d,g⟩:=Bo.en3 T;clear T;have hU:=X1.cell
 go_wp2_with fail
 refine(kj hM HX.out).mono ?_;rintro P w2 ⟨K1,s1,M1,S,rfl,z,B⟩;clear hU;refine aF ?_ N d g B;clear N d g B;intro N d g
 go_upto_region 2 with fail
 have hK:=N.lt;have hL:=d.lt;generalize q:w2.alloc _=w3 at *;obtain⟨i,G⟩:=Bo.nw q;clear q;refine aF ?_ N d g G;clear N d g G;intro N d g;have hW:=N.cell
 go_wp2_with fail
 refine(kj hM' HY.out).mono ?_;rintro P w4 ⟨K2,s2,M2,E2,rfl,A,B⟩;clear hW;refine aF ?_ d i g B;clear d i g B;intro d i g
 go_upto_region 3 with fail
 have hP:=d.lt;have hN:=i.lt;generalize q:w4.alloc _=w5 at *;obtain⟨m,G⟩:=Bo.nw q;clear q;refine aF ?_ d i g G;clear d i g G;intro d i g;clear HX HY hM hM';have i1:=gH z;have i2:=gH A;have F:=z.zero_iff;have u:=A.zero_iff
 have hJ:K1=2\/K1=0\/K1=1:=by rcases z.cases with⟨h,_⟩ | ⟨h,_⟩ | ⟨h,_⟩ <;> omega
 have R:K2=2\/K2=0\/K2=1:=by rcases A.cases with⟨h,_⟩ | ⟨h,_⟩ | ⟨h,_⟩ <;> omega
 rcases hJ with rfl | rfl | rfl
 ·rcases R with rfl | rfl | rfl
  ·have o:y≠0:=fun c=>absurd (u.2 c) (by decide)
   have l:r=0:=(bR o (.inr i2)).1 hr
   subst l;clear i1 i2 F u z A hr o;have n:=d.cell;have f:=d.frozen;have j:=i.cell;have k:=m.cell;go_wp2;clear n f j k;have p:=ac.t4 d 0 false 0 0;exact bq (by simp[results,results41,go_sem,p.box.cell]) rfl ⟨_,_,_,_,rfl,Fq.nought,(p.below g.out (by omega))⟩
  ·have l:aj (!up) TP=r:=by
    rw[u.1 rfl]at hr;exact(fg.1 hr).symm
   have t:=ie l;clear i1 i2 F u z A hr l;have j:=i.cell;have k:=m.cell
   go_wp2_with fail
   refine(nV (s:=!up) t.out).mono ?_;rintro P W ⟨I,s3,J,E3,rfl,L,B⟩;clear j k;refine aR ?_ d i m g B;clear d i m g B;intro d i m g;have n:=d.cell;have f:=d.frozen;go_wp2;clear n f;have p:=ac.t4 d I s3 J E3
   exact bq (by simp[results,results41,go_sem,p.box.cell]) rfl ⟨_,_,_,_,rfl,L,(p.below g.out (by omega))⟩
  ·have o:y≠0:=fun c=>absurd (u.2 c) (by decide)
   have Z:¬(x=0\/ax y=true):=by
    rw[i2];rintro (c | c)
    ·exact absurd (F.2 c) (by decide)
    ·exact absurd c (by decide)
   have sx:decide (x < 0)=s1:=by
    rcases z.three with⟨a,_⟩ | ⟨_,rfl,b⟩ | ⟨_,rfl,b⟩
    ·exact absurd a (by decide)
    ·exact df (by omega)
    ·exact dt b
   have sy:decide (y < 0)=s2:=by
    rcases A.three with⟨a,_⟩ | ⟨_,rfl,b⟩ | ⟨_,rfl,b⟩
    ·exact absurd a (by decide)
    ·exact df (by omega)
    ·exact dt b
   have l:aj (s1 !=s2) TP=r:=by
    have:=(iD o Z i1).1 hr
    rw[sx,sy]at this;exact this.symm
   have t:=ie l;clear i1 i2 F u z A hr l sx sy Z o;have j:=i.cell;have k:=m.cell
   go_wp2_with fail
   refine(nV (s:=s1 !=s2) t.out).mono ?_;rintro P W ⟨I,s3,J,E3,rfl,L,B⟩;clear j k;refine aR ?_ d i m g B;clear d i m g B;intro d i m g;have n:=d.cell;have f:=d.frozen;go_wp2;clear n f;have p:=ac.t4 d I s3 J E3
   exact bq (by simp[results,results41,go_sem,p.box.cell]) rfl ⟨_,_,_,_,rfl,L,(p.below g.out (by omega))⟩
 ·rcases R with rfl | rfl | rfl
  ·have o:y≠0:=fun c=>absurd (u.2 c) (by decide)
   have l:r=0:=(bR o (.inl (F.1 rfl))).1 hr
   subst l;clear i1 i2 F u z A hr o;have n:=d.cell;have f:=d.frozen;have j:=i.cell;have k:=m.cell;go_wp2;clear n f j k;have p:=ac.t4 d 0 false 0 0;exact bq (by simp[results,results41,go_sem,p.box.cell]) rfl ⟨_,_,_,_,rfl,Fq.nought,(p.below g.out (by omega))⟩
  ·have l:aj (!up) TP=r:=by
    rw[u.1 rfl]at hr;exact(fg.1 hr).symm
   have t:=ie l;clear i1 i2 F u z A hr l;have j:=i.cell;have k:=m.cell
   go_wp2_with fail
   refine(nV (s:=!up) t.out).mono ?_;rintro P W ⟨I,s3,J,E3,rfl,L,B⟩;clear j k;refine aR ?_ d i m g B;clear d i m g B;intro d i m g;have n:=d.cell;have f:=d.frozen;go_wp2;clear n f;have p:=ac.t4 d I s3 J E3
   exact bq (by simp[results,results41,go_sem,p.box.cell]) rfl ⟨_,_,_,_,rfl,L,(p.below g.out (by omega))⟩
  ·have o:y≠0:=fun c=>absurd (u.2 c) (by decide)
   have l:r=0:=(bR o (.inl (F.1 rfl))).1 hr
   subst l;clear i1 i2 F u z A hr o;have n:=d.cell;have f:=d.frozen;have j:=i.cell;have k:=m.cell;go_wp2;clear n f j k;have p:=ac.t4 d 0 false 0 0;exact bq (by simp[results,results41,go_sem,p.box.cell]) rfl ⟨_,_,_,_,rfl,Fq.nought,(p.below g.out (by omega))⟩
 ·rcases R with rfl | rfl | rfl
  ·have o:y≠0:=fun c=>absurd (u.2 c) (by decide)
   have l:r=0:=(bR o (.inr i2)).1 hr
   subst l;clear i1 i2 F u z A hr o;have n:=d.cell;have f:=d.frozen;have j:=i.cell;have k:=m.cell;go_wp2;clear n f j k;have p:=ac.t4 d 0 false 0 0;exact bq (by simp[results,results41,go_sem,p.box.cell]) rfl ⟨_,_,_,_,rfl,Fq.nought,(p.below g.out (by omega))⟩
  ·have l:aj (!up) TP=r:=by
    rw[u.1 rfl]at hr;exact(fg.1 hr).symm
   have t:=ie l;clear i1 i2 F u z A hr l;have j:=i.cell;have k:=m.cell
   go_wp2_with fail
   refine(nV (s:=!up) t.out).mono ?_;rintro P W ⟨I,s3,J,E3,rfl,L,B⟩;clear j k;refine aR ?_ d i m g B;clear d i m g B;intro d i m g;have n:=d.cell;have f:=d.frozen;go_wp2;clear n f;have p:=ac.t4 d I s3 J E3
   exact bq (by simp[results,results41,go_sem,p.box.cell]) rfl ⟨_,_,_,_,rfl,L,(p.below g.out (by omega))⟩
  ·have o:y≠0:=fun c=>absurd (u.2 c) (by decide)
   have Z:¬(x=0\/ax y=true):=by
    rw[i2];rintro (c | c)
    ·exact absurd (F.2 c) (by decide)
    ·exact absurd c (by decide)
   obtain⟨a1,a2,a3,a4,_⟩:=eV z;obtain⟨b1,b2,b3,b4,_⟩:=eV A;obtain⟨α,v,u1,u2,u3,u4,u5,u6⟩:=vA (s:=s1) a1 a2;obtain⟨β,v',t1,t2,t3,t4,t5,t6⟩:=vA (s:=s2) b1 b2
   obtain⟨r',C⟩:=nd up (aj (s1 !=s2) ((α:Int)*2^(S-E2+v-v'+(KK:Int)).toNat)) (show (0:Int) < (β:Int) by omega)
   have hq:=qC z A u3 t3 t4 u6 t6 C;have U:=hr.uniq hq;rw[<-U]at C;obtain⟨V,hV⟩:∃V:Int,(v:Int)=V:=⟨_,rfl⟩;obtain⟨Y,Q⟩:∃V:Int,(v':Int)=V:=⟨_,rfl⟩;rw[hV]at u2;rw[Q]at t2;rw[hV,Q]at C
   have hT:0<=V/\V < 64/\0<=Y/\Y < 64:=by omega
   obtain⟨e,he⟩:∃e,S-E2+V-Y=e:=⟨_,rfl⟩;rw[he]at C;have gO:=ie u1;have gP:=ie u2;have gS:=ie t1;have hA:=ie t2;have bH:=ie (o0 (s:=s1) a1);have bN:=ie (o0 (s:=s2) b1);have t:=ie C;have fH:=iw (S-E2);have fP:=iw (S-E2+V)
   have gB:Hid (IntKind.i64.wrap (S-E2+V-Y)=e):=ie (by rw[he];exact IntWalk.i64_in _ (by omega))
   have hC: -2200000<=e:=by omega
   have hD:e<=2200000:=by omega
   have m1:0<=M1:=by omega
   have m2:0<=M2:=by omega
   clear i1 i2 F u hr Z o a1 a3 a4 b1 b3 b4 u1 u2 u3 u5 u6 t1 t2 t3 t5 t6 hq U C he hV Q hT z A;have j:=i.cell;have k:=m.cell
   go_wp2_with fail
   refine(iG m1 a2 bH.out gO.out gP.out).mono ?_;rintro P W ⟨sa,Aa,na,ca,rfl,pa,ka,B⟩;clear j k;refine aR ?_ d i m g B;clear d i m g B;intro d i m g;obtain⟨H,hE⟩:=GS pa u4;subst hE;clear pa
   go_upto_region 10 with fail
   have hS:=d.lt;have hQ:=i.lt;have hR:=m.lt;generalize q:W.alloc _=w7 at *;obtain⟨O,G⟩:=Bo.nw q;clear q;refine dW ?_ d i m H g G;clear d i m H g G;intro d i m H g;have j:=i.cell;have k:=m.cell
   go_wp2_with fail
   refine(iG m2 b2 bN.out gS.out hA.out).mono ?_;rintro P w8 ⟨sb,Ab,nb,cb,rfl,pb,kb,B⟩;clear j k;refine gv ?_ d i m O H g B;clear d i m O H g B;intro d i m O H g;obtain⟨rb,hF⟩:=GS pb t4;subst hF;clear pb
   go_upto_region 11 with fail
   have bD:=d.lt;have bA:=i.lt;have bB:=m.lt;have bC:=O.lt;generalize q:w8.alloc _=w9 at *;obtain⟨hB,G⟩:=Bo.nw q;clear q;refine oG ?_ d i m O H rb g G;clear d i m O H rb g G;intro d i m O H rb g;have j:=i.cell
   have k:=m.cell;have hX:=O.cell;have X:=hB.cell;have hG:=fH.out;have hH:=fP.out;have hI:=gB.out
   go_wp2_with fail
   refine(vP H rb (by omega) (by omega) hC hD t4 t.out).mono ?_;rintro P wA ⟨I,s3,J,E3,rfl,L,B⟩;clear j k hX X;replace d:=d.b B;replace g:=ak g B;clear B;clear hG hH hI;have n:=d.cell;have f:=d.frozen;go_wp2;clear n f;have p:=ac.t4 d I s3 J E3
   exact bq (by simp[results,results41,go_sem,p.box.cell]) rfl ⟨_,_,_,_,rfl,L,(p.below g.out (by omega))⟩
def Ro (up:Bool)(x r:Int)(t:Bool):Prop:=if x < 0 then r=0/\t=false else if x=0\/ax x=true then r=x/\t=true else Rt up (vr x*2^KK) r/\t=true
theorem Da{up:Bool}{x r:Int}{t:Bool}(h:x < 0):Ro up x r t↔(r=0/\t=false):=by
 unfold Ro
 rw[if_pos h]
theorem wD{up:Bool}{x r:Int}{t:Bool}(h:¬x < 0)(h2:x=0\/ax x=true):Ro up x r t↔(r=x/\t=true):=by
 unfold Ro
 rw[if_neg h,if_pos h2]
theorem tA{up:Bool}{x r:Int}{t:Bool}(h:¬x < 0)(h2:¬(x=0\/ax x=true)):Ro up x r t↔(Rt up (vr x*2^KK) r/\t=true):=by
 unfold Ro
 rw[if_neg h,if_neg h2]
theorem Ro.uniq{up:Bool}{x r r':Int}{t t':Bool}(h:Ro up x r t)(k:Ro up x r' t'):r=r'/\t=t':=by
 by_cases c:x < 0
 ·obtain⟨a,b⟩:=(Da c).1 h;obtain⟨d,e⟩:=(Da c).1 k;exact⟨a.trans d.symm,b.trans e.symm⟩
 ·by_cases c2:x=0\/ax x=true
  ·obtain⟨a,b⟩:=(wD c c2).1 h;obtain⟨d,e⟩:=(wD c c2).1 k;exact⟨a.trans d.symm,b.trans e.symm⟩
  ·obtain⟨a,b⟩:=(tA c c2).1 h;obtain⟨d,e⟩:=(tA c c2).1 k;exact⟨a.uniq d,b.trans e.symm⟩
def RF (r:Bool->Int->Int):Prop:=∀up x,0<=x->Ro up x (r up x) true
theorem Rt.mono9{up:Bool}{X Y r t:Int}(h:Rt up X r)(k:Rt up Y t)(hXY:X<=Y):r<=t:=by
 rcases Int.lt_or_le t r with c | c
 ·exfalso
  cases up
  ·obtain⟨h1,h2,f,h4⟩:=Dd.1 h;obtain⟨g,i,d,e⟩:=Dd.1 k;have a:=e (by omega);have b:=wY (r:=t+1) (t:=r) (by omega) (by omega)
   omega
  ·obtain⟨h1,h2,f,h4⟩:=De.1 h;obtain⟨g,i,d,e⟩:=De.1 k;have a:=d (by omega);have b:=wY (r:=t) (t:=r-1) (by omega) (by omega)
   omega
 ·exact c
theorem Ba:ax 19342822337206103650074625=true:=by decide
section
variable {r:Bool->Int->Int}
theorem RF.zero (hr:RF r)(up:Bool):r up 0=0:=((wD (by decide) (.inl rfl)).1 (hr up 0 (by decide))).1
theorem RF.top (hr:RF r)(up:Bool):r up 19342822337206103650074625=19342822337206103650074625:=((wD (by decide) (.inr Ba)).1 (hr up _ (by decide))).1
theorem RF.fin (hr:RF r)(up:Bool){x:Int}(h0:0 < x)(h1:x < 19342822337206103650074625):Rt up (vr x*2^KK) (r up x):=
 ((tA (by omega) (by rw[bz (by omega) h1];simp;omega)).1 (hr up x (by omega))).1
theorem RF.in (hr:RF r)(up:Bool){x:Int}(h0:0<=x)(h1:x<=19342822337206103650074625):0<=r up x/\r up x<=19342822337206103650074625:=by
 by_cases c:x=0
 ·subst c;rw[hr.zero]
  decide
 ·by_cases d:x=19342822337206103650074625
  ·subst d;rw[hr.top]
   decide
  ·have:=hr.fin up (x:=x) (by omega) (by omega)
   cases up
   ·have:=Dd.1 this
    omega
   ·have:=De.1 this
    omega
theorem RF.mono (hr:RF r)(up:Bool){x y:Int}(h0:0<=x)(h:x<=y)(h1:y<=19342822337206103650074625):r up x<=r up y:=by
 have X:=hr.in up h0 (by omega)
 have Y:=hr.in up (show 0<=y by omega) h1
 by_cases c:x=0
 ·subst c;rw[hr.zero]
  omega
 ·by_cases d:y=19342822337206103650074625
  ·subst d;rw[hr.top]
   omega
  ·exact(hr.fin up (by omega) (by omega)).mono9 (hr.fin up (by omega) (by omega)) (Int.mul_le_mul_of_nonneg_right (bM h) (Int.le_of_lt (aE KK)))
end
section
variable {r:Bool->Int->Int}
end
theorem jA{x y:Int}(x1: -19342822337206103650074625 < x)(x2:x < 19342822337206103650074625)(y1: -19342822337206103650074625 < y)(y2:y < 19342822337206103650074625):Dn (vl (ml (ep x) (ep y))) (eN false x y)/\Up (vl (ml (ep x) (ep y))) (eN true x y):=by
 obtain⟨a,v⟩:=mP x1 x2 y1 y2
 by_cases h:x=0\/y=0
 ·rw[dQ false h,dQ true h]
  have e:vl (ml (ep x) (ep y))=vr 0:=by
   have hz:vr x*vr y=0:=by rcases h with e | e <;> rw[e,show vr 0=0 from rfl] <;> simp
   rw[hz]at v
   rcases Int.mul_eq_zero.1 v with e | e
   ·rw[e];rfl
   ·have:=aE KK
    omega
  rw[e];exact⟨gn (by decide) (by decide),gE (by decide) (by decide)⟩
 ·have hm:¬(ax x=true\/ax y=true):=by rw[bz x1 x2,bz y1 y2];simp
  rw[gV false h hm,gV true h hm];exact dl a
theorem In.fin{x:Int}(h1: -19342822337206103650074625 < x)(h2:x < 19342822337206103650074625):In x:=⟨by omega,by omega⟩
theorem Fr{a:Int}(h1: -9223372036854775807<=a)(h2:a<=9223372036854775807): -19342822337206103650074625 < al a/\al a < 19342822337206103650074625:=by
 rcases Int.lt_or_le 0 a with c | c
 ·have:=ku c h2
  omega
 ·by_cases d:a=0
  ·subst d
   decide
  ·have:=ku (n:= -a) (by omega) (by omega)
   rw[Fs]at this
   omega
theorem Hx (p q r s:Int):∃m,min (min p q) (min r s)=m/\m<=p/\m<=q/\m<=r/\m<=s/\∀t,t<=p->t<=q->t<=r->t<=s->t<=m:=⟨_,rfl,by omega,by omega,by omega,by omega,fun t _ _ _ _=>by omega⟩
theorem JJ (p q r s:Int):∃m,max (max p q) (max r s)=m/\p<=m/\q<=m/\r<=m/\s<=m/\∀t,p<=t->q<=t->r<=t->s<=t->m<=t:=⟨_,rfl,by omega,by omega,by omega,by omega,fun t _ _ _ _=>by omega⟩
end Go.Proofs.YteigedaefgmojaaGreatDoor
namespace Go.Proofs.YteigedaefgmojaaGreatDoor
open Go.Proofs.Tryz
open Go Go.RowKit
set_option linter.unusedVariables false
def gG (x:Int):Bool:=decide (-al 1073741824 < x/\x < al 1073741824)
def dC (x:Int):Int:=if gG x=true then vr x*SC/2^KK else 0
theorem mu{a b q:Int}(hb:0 < b)(h1:q*b<=a)(h2:a < (q+1)*b):a/b=q:=
 Int.le_antisymm (Int.lt_add_one_iff.1 (Int.ediv_lt_of_lt_mul hb h2)) (Int.le_ediv_of_mul_le hb h1)
theorem ID:SC=2^192:=by decide
theorem om{N F:Int}(nf:mk N F=(N,F))(hN:N.natAbs < 2^128)(h1: -2900000<=F)(h2:F<=2900000):
  sD (mv N F 192).1 (mv N F 192).2=N*2^(F+KK).toNat*SC/2^KK:=by
 have e:mv N F 192=mk N (F+192):=by
  unfold mv
  rw[if_neg (by omega),nf]
 rw[e];obtain⟨a,b⟩:=Hq (fJ N (F+192));have v:=BO hN (e:=F+192) (by omega) (by omega)
 rw[v,show (F+192+(KK:Int)).toNat=(F+KK).toNat+192 by rw[dT];omega,Int.pow_add,<-Int.mul_assoc,<-ID]at a b
 exact(mu (aE KK) a b).symm
theorem eZ{x:Int}(h:gG x=true):dC x=vr x*SC/2^KK:=if_pos h
theorem o6{x:Int}(h:gG x=false):dC x=0:=if_neg (by rw[h];decide)
theorem J5:al 1073741824 < 19342822337206103650074625/\0 < al 1073741824:=by
 have a:=Fr (a:=1073741824) (by decide) (by decide);have b:=fd (n:=1073741824) (by decide) (by decide);refine⟨a.2,?_⟩
 rcases Int.lt_or_le 0 (al 1073741824)with h | h
 ·exact h
 ·exfalso
  have c:=bM h
  rw[b,show vr 0=0 from rfl]at c
  have:=aE KK
  omega
theorem Ex{x N F:Int}(hv:vr x=N*2^(F+KK).toNat)(hN:N.natAbs < 2^64)(h1: -2900000<=F)(hF:F < -3000):vr x*SC/2^KK=if N < 0 then -1 else 0:=by
 have hp:=aE (F+KK).toNat
 have k:(2:Int)^KK=2^(F+KK).toNat*2^(-F).toNat:=by rw[<-Int.pow_add];congr 1;rw[dT];omega
 obtain⟨m,hm⟩:∃m,(-F).toNat=256+m:=⟨(-F).toNat-256,by omega⟩
 have a:(2:Int)^(-F).toNat=2^256*2^m:=by rw[hm,Int.pow_add]
 have b:=aE m
 have n1: -2^64 < N:=by omega
 have n2:N < 2^64:=by omega
 have s1:N*SC < 2^(-F).toNat/\ -2^(-F).toNat<=N*SC:=by
  rw[a];generalize (2:Int)^m=u at *
  constructor
  ·have:(2:Int)^256*1<=2^256*u:=Int.mul_le_mul_of_nonneg_left (by omega) (by decide)
   rw[show (2:Int)^64=18446744073709551616 from rfl]at n2
   have c:N*SC < 2^256:=by
    rw[show (2:Int)^256=18446744073709551616*SC by decide]
    exact Int.mul_lt_mul_of_pos_right n2 (by decide)
   omega
  ·have:(2:Int)^256*1<=2^256*u:=Int.mul_le_mul_of_nonneg_left (by omega) (by decide)
   rw[show (2:Int)^64=18446744073709551616 from rfl]at n1
   have c: -(2^256)<=N*SC:=by
    rw[show -(2:Int)^256= -18446744073709551616*SC by decide]
    exact Int.mul_le_mul_of_nonneg_right (Int.le_of_lt n1) (by decide)
   omega
 have e:vr x*SC=2^(F+KK).toNat*(N*SC):=by
  rw[hv,Int.mul_comm N,Int.mul_assoc]
 have hq:=aE (-F).toNat;rw[e,k];generalize (2:Int)^(F+KK).toNat=u at *;generalize (2:Int)^(-F).toNat=t at *
 by_cases c:N < 0
 ·rw[if_pos c]
  have c2:N*SC < 0:=Int.mul_neg_of_neg_of_pos c (by decide)
  refine mu (Int.mul_pos hp hq) ?_ ?_
  ·rw[show -1*(u*t)=u* -t by rw[Int.mul_neg,Int.neg_mul,Int.one_mul]]
   exact Int.mul_le_mul_of_nonneg_left s1.2 (by omega)
  ·rw[show (-1+1:Int)*(u*t)=0 by rw[show (-1+1:Int)=0 from rfl,Int.zero_mul]]
   exact Int.mul_neg_of_pos_of_neg hp c2
 ·rw[if_neg c]
  have c2:0<=N*SC:=Int.mul_nonneg (by omega) (by decide)
  refine mu (Int.mul_pos hp hq) ?_ ?_
  ·rw[Int.zero_mul];exact Int.mul_nonneg (by omega) c2
  ·rw[Int.zero_add,Int.one_mul];exact Int.mul_lt_mul_of_pos_left s1.1 hp
theorem ol{x:Int}(h:gG x=true):dC x*2^KK<=vr x*SC/\vr x*SC < (dC x+1)*2^KK:=by
 rw[eZ h];have hp:=aE KK;exact⟨Int.ediv_mul_le _ (by omega),Int.lt_ediv_add_one_mul_self _ hp⟩
theorem vD{s:Bool}{M E x:Int}(q:Fq 1 s M E x):∃N F,mt 1 s M E=true/\(jG 1 s M E).1=N/\(jG 1 s M E).2=F/\mk N F=(N,F)/\vr x=N*2^(F+KK).toNat/\N.natAbs < 2^64/\ -2900000<=F/\F<=2900000/\(N < 0↔s=true):=by
 obtain⟨h1,h2,f,h4,g⟩:9223372036854775808<=M/\M < 18446744073709551616/\ -1048576<=E/\E<=1048576/\(-19342822337206103650074625 < x/\x < 19342822337206103650074625):=by
  rcases q.cases with⟨c,_⟩ | ⟨_,h1,h2,f,h4,⟨_,j⟩ | ⟨_,j⟩⟩ | ⟨c,_⟩
  ·omega
  ·exact⟨h1,h2,f,h4,by omega,by omega⟩
  ·exact⟨h1,h2,f,h4,by omega,by omega⟩
  ·omega
 obtain⟨hb,i⟩:=sB q g.1 g.2
 have he:jG 1 s M E=mk (aj s M) E:=if_pos hb
 have hz:aj s M≠0/\(aj s M).natAbs=M.natAbs/\(aj s M < 0↔s=true):=by
  cases s
  ·rw[show aj false M=M from if_neg (by decide)]
   exact⟨by omega,rfl,by constructor <;> intro h <;> first | omega | cases h⟩
  ·rw[show aj true M= -M from if_pos rfl]
   exact⟨by omega,by omega,by constructor <;> intro h <;> first | omega | rfl⟩
 obtain⟨o,t,p⟩:=hz;rw[he]at i;rw[he];generalize aj s M=z at *;obtain⟨e1,_⟩:=fB z.natAbs (by omega)
 have hm:z.natAbs < 2^64:=by omega
 have n:v2 z.natAbs < 64:=by
  rcases Nat.lt_or_ge (v2 z.natAbs) 64 with c | c
  ·exact c
  ·exfalso
   have a:2^64<=2^v2 z.natAbs:=Nat.pow_le_pow_right (by decide) c
   have b:0 < z.natAbs/2^v2 z.natAbs:=by
    rcases Nat.eq_zero_or_pos (z.natAbs/2^v2 z.natAbs)with d | d
    ·rw[d,Nat.zero_mul]at e1
     omega
    ·exact d
   have d:=Nat.mul_le_mul b (Nat.le_refl (2^v2 z.natAbs))
   omega
 obtain⟨r,k,l,_,_⟩:=iH (z:=z) (e:=E) o (by omega) (by omega);have m:=fJ z E;refine⟨_,_,hb,rfl,rfl,m,i.symm,?_,by omega,by omega,l.trans p⟩
 rw[k];exact Nat.lt_of_le_of_lt (Nat.div_le_self _ _) hm
theorem Hr{K:Int}{s:Bool}{M E x:Int}(q:Fq K s M E x)(hK:K≠0):Fq K false M E (if s=true then -x else x):=by
 cases s
 ·exact q
 ·exact tz q hK
theorem qG{s:Bool}{x c:Int}(hs:s=true↔x < 0)(h:ag (if s=true then -x else x) (al 1073741824)=c):decide (0<=c)=!(gG x):=by
 have t:=J5
 unfold gG
 rw[<-h]
 cases s
 ·have hx:¬x < 0:=fun e=>by cases hs.2 e
  rw[if_neg (by decide)]
  by_cases g:x < al 1073741824
  ·rw[av g,dt (show -al 1073741824 < x/\x < al 1073741824 from ⟨by omega,g⟩)]
   rfl
  ·rw[df (show ¬(-al 1073741824 < x/\x < al 1073741824)from fun e=>g e.2)]
   rcases aU x (al 1073741824)with ⟨a,b⟩ | ⟨a,b⟩ | ⟨a,b⟩ <;> rw[b] <;> first | rfl | omega
 ·have hx:x < 0:=hs.1 rfl
  rw[if_pos rfl]
  by_cases g: -x < al 1073741824
  ·rw[av g,dt (show -al 1073741824 < x/\x < al 1073741824 from ⟨by omega,by omega⟩)]
   rfl
  ·rw[df (show ¬(-al 1073741824 < x/\x < al 1073741824)from fun e=>g (by omega))]
   rcases aU (-x) (al 1073741824)with ⟨a,b⟩ | ⟨a,b⟩ | ⟨a,b⟩ <;> rw[b] <;> first | rfl | omega
theorem AG:gG 0=true/\dC 0=0:=by
 have t:=J5
 have h:gG 0=true:=dt ⟨by omega,by omega⟩
 refine⟨h,?_⟩
 rw[eZ h,show vr 0=0 from rfl,Int.zero_mul,Int.zero_ediv]
theorem vE{s:Bool}{M E x:Int}(q:Fq 2 s M E x):gG x=false/\dC x=0/\mt 2 s M E=false:=by
 have t:=J5
 have h:gG x=false:=by
  refine df ?_
  rcases q.cases with⟨c,_⟩ | ⟨c,_⟩ | ⟨_,_,_,⟨_,a⟩ | ⟨_,a⟩⟩
  ·omega
  ·omega
  ·omega
  ·omega
 exact⟨h,o6 h,by unfold mt;simp⟩
theorem vG{K:Int}{s:Bool}{M E x:Int}(q:Fq K s M E x):s=true↔x < 0:=by
 rcases q.three with⟨a,b⟩ | ⟨a,rfl,b⟩ | ⟨a,rfl,b⟩
 ·rcases q.cases with⟨_,rfl,_⟩ | ⟨c,_⟩ | ⟨c,_⟩
  ·constructor
   ·intro h;cases h
   ·intro h;omega
  ·omega
  ·omega
 ·constructor
  ·intro h;cases h
  ·intro h;omega
 ·exact⟨fun _=>b,fun _=>rfl⟩
theorem Gr{K:Int}{s:Bool}{M E x:Int}(q:Fq K s M E x):0<=M:=by
 rcases q.cases with⟨_,_,rfl,_⟩ | ⟨_,h1,_⟩ | ⟨_,rfl,_⟩ <;> omega
theorem vF{K:Int}{s:Bool}{M E x:Int}(q:Fq K s M E x):(K=0/\x=0)\/K=1\/K=2:=by
 rcases q.cases with⟨a,_,_,_,b⟩ | ⟨a,_⟩ | ⟨a,_⟩
 ·exact .inl ⟨a,b⟩
 ·exact .inr (.inl a)
 ·exact .inr (.inr a)
end Go.Proofs.YteigedaefgmojaaGreatDoor
namespace Go.Proofs.YteigedaefgmojaaGreatDoor
open Go.Proofs.Tryz
open Go.RowKit
set_option linter.unusedVariables false
set_option linter.unusedSimpArgs false
set_option maxRecDepth 100000
def WB (w:World)(K:Nat)(z:Int)(t:Bool)(e:Ending)(w':World):Prop:=∃s A n c,e= .returned (.tuple #[.agg #[.bool s,.slice A n c],.bool t])/\Wn w' s A n c z/\n<=K/\Below w.heap.size w w'
set_option maxHeartbeats 8000000 in
theorem JC{w:World}{D M E:Int}{s:Bool}{x z:Int}{t:Bool}(hM:LQ M)(hx:rk D s M E=x)(hz:dC x=z)(ht:gG x=t):Calls prog 64 #[VQ D s M E] w (WB w 140000 z t):=by
 delta VQ
 have HX:=ie hx;have HZ:=ie hz;have u:=ie ht;clear hx hz ht
 go_enter func64,ntmps64
 go_upto_region 1 with fail
 generalize bN:(w.alloc _).alloc _=w1 at *;obtain⟨X1,d,f⟩:=Bo.en2 bN;clear bN;have hB:=X1.cell
 go_wp2_with fail
 refine(kj hM HX.out).mono ?_;rintro X w2 ⟨K1,s1,M1,E1,rfl,S,B⟩;clear hB;replace d:=d.b B;replace f:=ak f B;clear B
 go_upto_region 2 with fail
 have hA:=d.lt;generalize h:w2.alloc _=w3 at *;obtain⟨g,r⟩:=Bo.nw h;clear h;replace d:=d.b r;replace f:=ak f r;clear r;clear HX hM;clear X1
 rcases vF S with⟨rfl,rfl⟩ | rfl | rfl
 ·obtain⟨fb,fi⟩:=AG
  obtain rfl:true=t:=by rw[<-u.out,fb]
  obtain rfl:0=z:=by rw[<-HZ.out,fi]
  obtain⟨_,rfl,rfl,rfl⟩:=S.uniq Fq.nought
  have hb:mt 0 false 0 0=true:=by decide
  obtain⟨N,hN⟩:∃N,(jG 0 false 0 0).1=N:=⟨_,rfl⟩;obtain⟨G,hG⟩:∃N,(jG 0 false 0 0).2=N:=⟨_,rfl⟩
  have m0:(0:Int)<=0:=by decide
  obtain⟨σ,hσ⟩:∃σ,ag (if false=true then -0 else (0:Int)) (al 1073741824)=σ:=⟨_,rfl⟩;have n:=qG (vG S) hσ;rw[fb]at n
  have y:Hid (decide (0<=σ)=false):=ie n
  have HC:Hid (ag 0 (al 1073741824)=σ):=ie hσ
  clear u HZ fb fi hσ n;have i:=g.cell
  go_wp2_with fail
  refine(iG m0 (by decide) hb hN hG).mono ?_;rintro X w4 ⟨s5,A5,n5,c5,rfl,q,k5,B⟩;clear i;refine aF ?_ d g f B;clear d g f B;intro d g f;clear hN hG hb m0 q
  go_upto_region 3 with fail
  have R:=d.lt;have bB:=g.lt;generalize h:w4.alloc _=w5 at *;obtain⟨l,r⟩:=Bo.nw h;clear h;refine aF ?_ d g f r;clear d g f r;intro d g f;have i:=g.cell
  go_upto_region 6 with fail
  clear i;have bH:=d.lt;have bC:=g.lt;have bD:=l.lt;generalize h:w5.alloc _=w6 at *;obtain⟨C,r⟩:=Bo.nw h;clear h;refine aR ?_ d g l f r;clear d g l f r;intro d g l f;have H:=C.cell;have W:=C.frozen
  go_upto_region 7 with fail
  clear H W
  have k:ac w6 (World.setCell w6 ⟨w5.heap.size,1,none⟩ (.bool false)) _ _ #[.int .i64 0,.bool false,.int .u64 0,.int .i64 0] _:=ac.at4 C 1 (.bool false)
  replace d:=d.s k;replace g:=g.s k;replace l:=l.s k;replace f:=bi f k (by omega);replace C:=k.box;clear k;generalize World.setCell w6 ⟨w5.heap.size,1,none⟩ (.bool false)=w7 at *;refine bF [0,1,2,3] [21,22,23,24] [[],[],[0,1],[2]] 4 0 [Jo.q4 0 false 0 0,Jo.Fact.num (al 1073741824),Jo.qi σ,Jo.qb false] ?_ ?_
  ·refine jm ?_ ?_
   ·rintro U m K o;have H:=(C.b m).cell;go_simp;exact o.out _ _ rfl (br _ _)
   refine jm ?_ ?_
   ·rintro U m K o;go_simp;exact Jo.n1 (Kk _ (by decide) (by decide) rfl) o.out
   refine jm ?_ ?_
   ·rintro U m _ rfl _ ⟨K9,s9,M9,E9,rfl,q9⟩ K o;go_simp;refine(nA (z:=σ) (by decide) q9.top (by rw[Fq.nought.rk,q9.rk];exact HC.out)).mono ?_;rintro X wk ⟨rfl,B⟩;exact o.out _ _ rfl B
   refine jm ?_ ?_
   ·rintro U m _ rfl K o;have n:=y.out;go_simp
    exact o.out _ _ (by first | rfl | (show Value.bool _=Value.bool _;rw[n]) | simp_all) (br _ _)
   exact jo
  rintro w8 m _ rfl _ ⟨K9,s9,M9,E9,rfl,_⟩ _ rfl _ rfl -;simp only[Jo.z];replace d:=d.b m;replace g:=g.b m;replace l:=l.b m;replace C:=C.b m;replace f:=ak f m;refine jd ?_;clear HC y;have i:=g.cell;have p:=d.cell;have j:=d.frozen;go_wp2;clear i p j
  have k:=ac.t2 d false none 0 0;exact bq (v:= .tuple #[.agg #[.bool false,.slice none 0 0],.bool true]) (by simp[results,results64,go_sem,k.box.cell]) rfl ⟨_,_,_,_,rfl,⟨Nm.zero,rfl⟩,Nat.zero_le _,(k.below f.out (by omega))⟩
 ·obtain⟨N,G,hb,hN,hG,nf,hv,O,g1,g2,Z⟩:=vD S;have m0:=Gr S;have qa:=Hr S (by decide);obtain⟨a,ha⟩:∃a,(if s1=true then -x else x)=a:=⟨_,rfl⟩;obtain⟨σ,hσ⟩:∃σ,ag (if s1=true then -x else x) (al 1073741824)=σ:=⟨_,rfl⟩;have n:=qG (vG S) hσ;rw[u.out]at n;rw[ha]at hσ qa
  have HC:Hid (ag a (al 1073741824)=σ):=ie hσ
  clear hσ ha;have i:=g.cell
  go_wp2_with fail
  refine(iG m0 S.top hb hN hG).mono ?_;rintro X w4 ⟨s5,A5,n5,c5,rfl,q,k5,B⟩;clear i;refine aF ?_ d g f B;clear d g f B;intro d g f;clear hN hG hb m0
  go_upto_region 3 with fail
  have R:=d.lt;have bB:=g.lt;generalize h:w4.alloc _=w5 at *;obtain⟨l,r⟩:=Bo.nw h;clear h;refine aR ?_ d g q f r;clear d g q f r;intro d g q f;have i:=g.cell
  go_upto_region 6 with fail
  clear i;have bH:=d.lt;have bC:=g.lt;have bD:=l.lt;generalize h:w5.alloc _=w6 at *;obtain⟨C,r⟩:=Bo.nw h;clear h;refine dW ?_ d g l q f r;clear d g l q f r;intro d g l q f;have H:=C.cell;have W:=C.frozen
  go_upto_region 7 with fail
  clear H W
  have k:ac w6 (World.setCell w6 ⟨w5.heap.size,1,none⟩ (.bool false)) _ _ #[.int .i64 1,.bool false,.int .u64 M1,.int .i64 E1] _:=ac.at4 C 1 (.bool false)
  replace d:=d.s k;replace g:=g.s k;replace l:=l.s k;replace q:=q.s k;replace f:=bi f k (by omega);replace C:=k.box;clear k;generalize World.setCell w6 ⟨w5.heap.size,1,none⟩ (.bool false)=w7 at *
  cases t
  ·have y:Hid (decide (0<=σ)=true):=ie n
   obtain rfl:0=z:=by rw[<-HZ.out,o6 u.out]
   clear n HZ u hv nf O Z q;refine bF [0,1,2,3] [21,22,23,24] [[],[],[0,1],[2]] 4 0 [Jo.q4 1 false M1 E1,Jo.Fact.num (al 1073741824),Jo.qi σ,Jo.qb true] ?_ ?_
   ·refine jm ?_ ?_
    ·rintro U m K o;have H:=(C.b m).cell;go_simp;exact o.out _ _ rfl (br _ _)
    refine jm ?_ ?_
    ·rintro U m K o;go_simp;exact Jo.n1 (Kk _ (by decide) (by decide) rfl) o.out
    refine jm ?_ ?_
    ·rintro U m _ rfl _ ⟨K9,s9,M9,E9,rfl,q9⟩ K o;go_simp;refine(nA (z:=σ) qa.top q9.top (by rw[qa.rk,q9.rk];exact HC.out)).mono ?_;rintro X wk ⟨rfl,B⟩;exact o.out _ _ rfl B
    refine jm ?_ ?_
    ·rintro U m _ rfl K o;have n:=y.out;go_simp
     exact o.out _ _ (by first | rfl | (show Value.bool _=Value.bool _;rw[n]) | simp_all) (br _ _)
    exact jo
   rintro w8 m _ rfl _ ⟨K9,s9,M9,E9,rfl,_⟩ _ rfl _ rfl -;simp only[Jo.z];replace d:=d.b m;replace g:=g.b m;replace l:=l.b m;replace C:=C.b m;replace f:=ak f m;refine jd ?_;clear HC y;have p:=d.cell;have j:=d.frozen;go_wp2;clear p j;have k:=ac.t2 d false none 0 0
   exact bq (v:= .tuple #[.agg #[.bool false,.slice none 0 0],.bool false]) (by simp[results,results64,go_sem,k.box.cell]) rfl ⟨_,_,_,_,rfl,⟨Nm.zero,rfl⟩,Nat.zero_le _,(k.below f.out (by omega))⟩
  ·have y:Hid (decide (0<=σ)=false):=ie n
   have A:=HZ.out;rw[eZ u.out]at A;clear n HZ u;refine bF [0,1,2,3] [21,22,23,24] [[],[],[0,1],[2]] 4 0 [Jo.q4 1 false M1 E1,Jo.Fact.num (al 1073741824),Jo.qi σ,Jo.qb false] ?_ ?_
   ·refine jm ?_ ?_
    ·rintro U m K o;have H:=(C.b m).cell;go_simp;exact o.out _ _ rfl (br _ _)
    refine jm ?_ ?_
    ·rintro U m K o;go_simp;exact Jo.n1 (Kk _ (by decide) (by decide) rfl) o.out
    refine jm ?_ ?_
    ·rintro U m _ rfl _ ⟨K9,s9,M9,E9,rfl,q9⟩ K o;go_simp;refine(nA (z:=σ) qa.top q9.top (by rw[qa.rk,q9.rk];exact HC.out)).mono ?_;rintro X wk ⟨rfl,B⟩;exact o.out _ _ rfl B
    refine jm ?_ ?_
    ·rintro U m _ rfl K o;have n:=y.out;go_simp
     exact o.out _ _ (by first | rfl | (show Value.bool _=Value.bool _;rw[n]) | simp_all) (br _ _)
    exact jo
   rintro w8 m _ rfl _ ⟨K9,s9,M9,E9,rfl,_⟩ _ rfl _ rfl -;simp only[Jo.z];replace d:=d.b m;replace g:=g.b m;replace l:=l.b m;replace q:=q.b m;replace f:=ak f m;refine jd ?_;clear HC y
   by_cases hf:G < -3000
   ·rw[Ex hv O g1 hf]at A
    have tf:decide (G < -3000)=true:=dt hf
    clear hf hv nf O q
    by_cases hs:s1=true
    ·subst hs;rw[if_pos (Z.2 rfl)]at A
     obtain rfl: -1=z:=A
     have i:=g.cell;have V:=l.cell
     go_wp2_with fail
     refine(gy (-1) _ (by decide) (by decide)).mono ?_;rintro X wA ⟨T,I,L,J,rfl,F,gS,B⟩;clear i V;refine aR ?_ d g l f B;clear d g l f B;intro d g l f;clear tf;have p:=d.cell;have j:=d.frozen;go_wp2;clear p j;have k:=ac.t2 d T I L J
     replace F:=F.s k;exact bq (v:= .tuple #[.agg #[.bool T,.slice I L J],.bool true]) (by simp[results,results64,go_sem,k.box.cell]) rfl ⟨_,_,_,_,rfl,F,by omega,(k.below f.out (by omega))⟩
    ·have gP:s1=false:=by simpa using hs
     subst gP
     rw[if_neg (fun c=>by cases Z.1 c)]at A
     obtain rfl:0=z:=A
     have i:=g.cell;have V:=l.cell;have p:=d.cell;have j:=d.frozen;go_wp2;clear i V p j;have k:=ac.t2 d false none 0 0;exact bq (v:= .tuple #[.agg #[.bool false,.slice none 0 0],.bool true]) (by simp[results,results64,go_sem,k.box.cell]) rfl ⟨_,_,_,_,rfl,⟨Nm.zero,rfl⟩,Nat.zero_le _,(k.below f.out (by omega))⟩
   ·have tf:decide (G < -3000)=false:=df hf
    have bA:N.natAbs < 2^128:=Nat.lt_trans O (by decide)
    have Y:=om nf bA g1 g2;rw[<-hv,A]at Y;obtain⟨P,hP⟩:∃P,(mv N G 192).1=P:=⟨_,rfl⟩;obtain⟨Q,hQ⟩:∃P,(mv N G 192).2=P:=⟨_,rfl⟩
    have fH:mk P Q=(P,Q):=by
     have e:Nf (mv N G 192):=by
      unfold mv
      split
      ·exact dg 0
      ·exact fJ _ _
     rw[<-hP,<-hQ];exact e
    rw[hP,hQ]at Y
    have fP:Hid (sD (mk P Q).1 (mk P Q).2=z):=ie (by rw[fH];exact Y)
    have gB:=ie hP;have gO:=ie hQ;clear Y hP hQ fH A hv nf O bA Z hf;have i:=g.cell;have V:=l.cell
    go_wp2_with fail
    refine(Is q.wr (by omega) gB.out gO.out).mono ?_;rintro X wA ⟨s6,A6,n6,c6,rfl,p6,k6,B⟩;clear i V;refine dW ?_ d g l q f B;clear d g l q f B;intro d g l q f;clear q tf
    go_wp2_with fail
    refine(Fy p6.wr (by omega) fP.out).mono ?_;rintro X wB ⟨T,I,L,J,rfl,F,gS,B⟩;refine aR ?_ d g l f B;clear d g l f B;intro d g l f;clear p6;have p:=d.cell;have j:=d.frozen;go_wp2;clear p j;have k:=ac.t2 d T I L J;replace F:=F.s k
    exact bq (v:= .tuple #[.agg #[.bool T,.slice I L J],.bool true]) (by simp[results,results64,go_sem,k.box.cell]) rfl ⟨_,_,_,_,rfl,F,by omega,(k.below f.out (by omega))⟩
 ·obtain⟨fb,fi,hb⟩:=vE S
  obtain rfl:false=t:=by rw[<-u.out,fb]
  obtain rfl:0=z:=by rw[<-HZ.out,fi]
  obtain⟨N,hN⟩:∃N,(jG 2 s1 M1 E1).1=N:=⟨_,rfl⟩;obtain⟨G,hG⟩:∃N,(jG 2 s1 M1 E1).2=N:=⟨_,rfl⟩;have m0:=Gr S;have i:=g.cell
  go_wp2_with fail
  refine(iG m0 S.top hb hN hG).mono ?_;rintro X w4 ⟨s5,A5,n5,c5,rfl,q,k5,B⟩;clear i;replace d:=d.b B;replace f:=ak f B;clear B;clear hN hG hb HZ u fb fi m0 q
  go_upto_region 3 with fail
  have R:=d.lt;generalize h:w4.alloc _=w5 at *;obtain⟨l,r⟩:=Bo.nw h;clear h;replace d:=d.b r;replace f:=ak f r;clear r;have p:=d.cell;have j:=d.frozen;go_wp2;clear p j;have k:=ac.t2 d false none 0 0;exact bq (v:= .tuple #[.agg #[.bool false,.slice none 0 0],.bool false]) (by simp[results,results64,go_sem,k.box.cell]) rfl ⟨_,_,_,_,rfl,⟨Nm.zero,rfl⟩,Nat.zero_le _,(k.below f.out (by omega))⟩
