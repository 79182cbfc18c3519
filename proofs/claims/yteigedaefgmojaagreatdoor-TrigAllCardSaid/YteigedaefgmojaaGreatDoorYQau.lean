/-
 Contracts that the proof rests on.
-/
import Derived.Test.YteigedaefgmojaaGreatDoorYQat
namespace Go.Proofs.YteigedaefgmojaaGreatDoor
open Go.Proofs.Tryz
open Go Go.RowKit
set_option linter.unusedVariables false
theorem IS{k:Int}(h1: -(51/10)<=(k:Rat)*(2*qt))(h2:(k:Rat)*(2*qt)<=51/10):k=0\/k=1\/k= -1:=by
 obtain⟨e,f⟩:=mE
 have a:k < 2:=by
  by_cases c:k < 2
  ·exact c
  ·exfalso
   have d:(2:Rat)<=(k:Rat):=Rat.intCast_le_intCast.2 (show 2<=k by omega)
   have:=Rat.mul_le_mul_of_nonneg_right d (show (0:Rat)<=2*qt by grind)
   grind
 have b: -2 < k:=by
  by_cases c: -2 < k
  ·exact c
  ·exfalso
   have d:(k:Rat)<= -2:=Rat.intCast_le_intCast.2 (show k<= -2 by omega)
   have:=Rat.mul_le_mul_of_nonneg_right d (show (0:Rat)<=2*qt by grind)
   grind
 omega
theorem c1:((1:Int):Rat)=1:=rfl
theorem c0:((0:Int):Rat)=0:=rfl
theorem cm:((-1:Int):Rat)= -1:=rfl
theorem I1{t:Rat}{k:Int}(h1: -2<=t)(h2:t<=2)(hk:k=0\/k=1\/k= -1):
  -1<=(aC (-t+(k:Rat)*(2*qt))+(if k%2=0 then aC t else -aC t))*2^190/\(aC (-t+(k:Rat)*(2*qt))+(if k%2=0 then aC t else -aC t))*2^190<=1:=by
 rcases hk with rfl | rfl | rfl
 ·rw[if_pos (by decide),c0,show -t+0*(2*qt)= -t by grind,ki]
  constructor <;> grind
 ·rw[if_neg (by decide),c1];have h:=iM (x:= -t) (by grind) (by grind)
  rw[ki,show -t+2*qt= -t+1*(2*qt) by grind]at h
  exact h
 ·rw[if_neg (by decide),cm];have h:=iM (x:=t) h1 h2
  rw[show -t+ -1*(2*qt)= -(t+2*qt) by grind,ki]
  constructor <;> grind
theorem It{x x':Int}{z:Rat}(a: -(17/10)<=fz x z/\fz x z<=17/10)(b: -(17/10)<=fz x' (-z)/\fz x' (-z)<=17/10):
  -1<=(fJ x' (-z)+fJ x z)*2^190/\(fJ x' (-z)+fJ x z)*2^190<=1:=by
 obtain⟨k,g⟩:∃k,k= -(qI x+qI x'):=⟨_,rfl⟩
 have e:fz x' (-z)= -fz x z+(k:Rat)*(2*qt):=by
  have p:=ko x z;have q:=ko x' (-z);have f:=dS;rw[g,Rat.intCast_neg,Rat.intCast_add];refine Rat.le_antisymm (Rat.le_of_mul_le_mul_right (c:=SR) ?_ f) (Rat.le_of_mul_le_mul_right (c:=SR) ?_ f) <;> grind
 have h:=I1 (t:=fz x z) (by grind) (by grind) (IS (k:=k) (by grind) (by grind));rw[<-e]at h;rw[ja,ja]
 by_cases c:qI x'%2=0
 ·rw[if_pos c]
  by_cases d:qI x%2=0
  ·rw[if_pos (by omega)]at h;rw[if_pos d];exact h
  ·rw[if_neg (by omega)]at h;rw[if_neg d];exact h
 ·rw[if_neg c]
  by_cases d:qI x%2=0
  ·rw[if_neg (by omega)]at h;rw[if_pos d]
   constructor <;> grind
  ·rw[if_pos (by omega)]at h;rw[if_neg d]
   constructor <;> grind
def dP:List (List Int)->Rat->Rat->Rat
 | [],_,_=>0
 | p::P,m,h=>dg p m+h*dP P m h
def iW:List (List Int)->List (List Int)->List (List Int)
 | [],Q=>Q
 | p::P,[]=>p::P
 | p::P,q::Q=>gm p q::iW P Q
def oS (c:Int):List (List Int)->List (List Int)
 | []=>[]
 | p::P=>qo c p::oS c P
def yE:List (List Int)->List (List Int)
 | []=>[]
 | p::P=>(0::p)::yE P
def Fy:List Int->List (List Int)
 | []=>[]
 | a::q=>iW [[a]] (iW (yE (Fy q)) ([]::Fy q))
def om:List (List Int)->List (List Int)
 | []=>[]
 | p::P=>p::oS (-1) (om P)
def oR:List Int->List Int->List (List Int)
 | [],_=>[]
 | a::p,q=>qo a q::oR p q
def mB (B:Nat):List (List Int)->Nat
 | []=>0
 | p::P=>iV B p+B*mB B P
theorem gq:∀(P Q:List (List Int)) (m h:Rat),dP (iW P Q) m h=dP P m h+dP Q m h
 | [],Q,m,h=>by simp only[iW,dP];grind
 | p::P,[],m,h=>by simp only[iW,dP];grind
 | p::P,q::Q,m,h=>by
  simp only[iW,dP];rw[gq P Q m h,dH]
  grind
theorem iX (c:Int):∀(P:List (List Int)) (m h:Rat),dP (oS c P) m h=(c:Rat)*dP P m h
 | [],m,h=>by simp only[oS,dP];grind
 | p::P,m,h=>by
  simp only[oS,dP];rw[iX c P m h,fR]
  grind
theorem zm:∀(P:List (List Int)) (m h:Rat),dP (yE P) m h=m*dP P m h
 | [],m,h=>by simp only[yE,dP];grind
 | p::P,m,h=>by
  simp only[yE,dP,dg];rw[zm P m h,c0]
  grind
theorem nv:∀(p:List Int) (m h:Rat),dP (Fy p) m h=dg p (m+h)
 | [],m,h=>by simp only[Fy,dP,dg]
 | a::q,m,h=>by
  simp only[Fy];rw[gq,gq,zm];simp only[dP,dg];rw[nv q m h]
  grind
theorem mC:∀(P:List (List Int)) (m h:Rat),dP (om P) m h=dP P m (-h)
 | [],m,h=>by simp only[om,dP]
 | p::P,m,h=>by
  simp only[om,dP];rw[iX,mC P m h,cm]
  grind
theorem kP:∀(p q:List Int) (m h:Rat),dP (oR p q) m h=dg p h*dg q m
 | [],q,m,h=>by simp only[oR,dP,dg];grind
 | a::p,q,m,h=>by
  simp only[oR,dP,dg];rw[kP p q m h,fR]
  grind
theorem rS{B:Nat}{m h:Rat}(m1: -(B:Rat)<=m)(m2:m<=(B:Rat))(h1: -(B:Rat)<=h)(h2:h<=(B:Rat)):∀P:List (List Int),-((mB B P:Nat):Rat)<=dP P m h/\dP P m h<=((mB B P:Nat):Rat)
 | []=>by simp only[mB,dP];constructor <;> grind
 | p::P=>by
  obtain⟨i1,i2⟩:=rS m1 m2 h1 h2 P;obtain⟨a,b⟩:=iy h1 h2 i1 i2;obtain⟨a1,a2⟩:=iB m1 m2 p;simp only[mB,dP];rw[Rat.natCast_add,Rat.natCast_mul]
  constructor <;> grind
def E7:List (List Int):=iW (oS DD (iW (Fy TL) (oS (-1) (om (Fy TL))))) (oS (-2) (oR TL (ft TL)))
theorem xv:mB 2 E7*2^200<=(DD*DD).natAbs:=Nat.le_of_ble_eq_true (by decide +kernel)
theorem z9{m h:Rat}(m1: -2<=m)(m2:m<=2)(h1: -2<=h)(h2:h<=2): -1<=(aC (m+h)-aC (m-h)-2*(aC h*fs m))*2^200/\(aC (m+h)-aC (m-h)-2*(aC h*fs m))*2^200<=1:=by
 obtain⟨a,b⟩:=rS (B:=2) (m:=m) (h:=h) m1 m2 h1 h2 E7;refine gC (m:=DD*DD) (by decide +kernel) xv a b ?_
 have e2:((-2:Int):Rat)= -2:=rfl
 unfold E7
 rw[gq,iX,iX,gq,iX,mC,nv,nv,kP,<-eA,<-eA,<-eA,<-mQ,Rat.intCast_mul,cm,e2,show m+ -h=m-h by grind]
 generalize ((DD:Int):Rat)=d;generalize aC h=s;generalize fs m=c;generalize aC (m+h)=u;generalize aC (m-h)=v
 grind
theorem sm{y:Rat}(y0:0<=y)(y2:y<=2)(k:Nat):∃f:Rat,0<=f/\f<=1/\tt 1 y (k+1)= -(f*tt 1 y k):=by
 have d:(0:Rat) < ((((2*((k:Int)+1))*(2*((k:Int)+1)+1):Int)):Rat):=Rat.intCast_lt_intCast.2 (qh k)
 have n6:(6:Int)<=(2*((k:Int)+1))*(2*((k:Int)+1)+1):=by
  have:=Int.mul_le_mul (show (2:Int)<=2*((k:Int)+1) by omega) (show (3:Int)<=2*((k:Int)+1)+1 by omega) (by decide) (by omega)
  omega
 have g:(6:Rat)<=((((2*((k:Int)+1))*(2*((k:Int)+1)+1):Int)):Rat):=Rat.intCast_le_intCast.2 n6
 obtain⟨_,s⟩:=iy (b:=2) (a:=2) (x:=y) (e:=y) (by grind) y2 (by grind) y2;have h:=lv y;simp only[tt];generalize ((((2*((k:Int)+1))*(2*((k:Int)+1)+1):Int)):Rat)=n at *
 have e:y*y/n*n=y*y:=Rat.div_mul_cancel (Rat.ne_of_gt d)
 refine⟨y*y/n,?_,?_,?_⟩
 ·exact Rat.le_of_mul_le_mul_right (c:=n) (by rw[e];grind) d
 ·exact Rat.le_of_mul_le_mul_right (c:=n) (by rw[e];grind) d
 ·rw[Rat.div_def,Rat.div_def]
  grind
theorem DX{y:Rat}(y0:0<=y)(y2:y<=2):∀j:Nat,0<=tt 1 y (2*j)/\tt 1 y (2*j)<=ss 1 y (2*j)
 | 0=>by
  simp only[tt,ss]
  constructor <;> grind
 | j+1=>by
  obtain⟨a,b⟩:=DX y0 y2 j;obtain⟨f,e,k,c⟩:=sm y0 y2 (2*j);obtain⟨g,h,g1,d⟩:=sm y0 y2 (2*j+1);have i:=Rat.mul_nonneg e a;have l:=Rat.mul_nonneg (a:=1-f) (b:=tt 1 y (2*j)) (by grind) a;have m:=Rat.mul_nonneg h i
  have e1:tt 1 y (2*(j+1))=g*(f*tt 1 y (2*j)):=by
   show tt 1 y (2*j+1+1)=_
   rw[d,c]
   grind
  have e2:ss 1 y (2*(j+1))=ss 1 y (2*j)+tt 1 y (2*j+1)+tt 1 y (2*(j+1)):=rfl
  rw[e2,e1,c]
  constructor <;> grind
theorem qL{y:Rat}(y0:0<=y)(y2:y<=2):0<=aC y:=by
 rw[Af];obtain⟨a,b⟩:=DX y0 y2 20;exact Rat.le_trans a b
def E8:List Int:=gm TH (qo (-(QK^82)) (ft TL))
theorem xw:iV 2 E8*2^200<=(DD*QK^82).natAbs:=Nat.le_of_ble_eq_true (by decide +kernel)
theorem BB{x:Rat}(h1: -2<=x)(h2:x<=2): -1<=(aC (x+qt)-fs x)*2^200/\(aC (x+qt)-fs x)*2^200<=1:=by
 obtain⟨a,b⟩:=iB (B:=2) (x:=x) h1 h2 E8;refine gC (m:=DD*QK^82) (by decide +kernel) xw a b ?_
 unfold E8
 rw[dH,fR,D3,<-mQ,Rat.intCast_neg,Rat.intCast_mul,Rat.intCast_pow];generalize ((QK:Int):Rat)^82=k;generalize ((DD:Int):Rat)=d;generalize fs x=s;generalize aC (x+qt)=c
 grind
theorem pw (n:Nat):(0:Rat) < 2^n:=Rat.pow_pos (by decide)
theorem jf{v:Rat}{n:Nat}(h: -1<=v*2^n): -(1/2^n)<=v:=by
 have e:(1/2^n:Rat)*2^n=1:=Rat.div_mul_cancel (Rat.ne_of_gt (pw n))
 exact Rat.le_of_mul_le_mul_right (c:=2^n) (by grind) (pw n)
theorem je{v:Rat}{n:Nat}(h:v*2^n<=1):v<=1/2^n:=by
 have e:(1/2^n:Rat)*2^n=1:=Rat.div_mul_cancel (Rat.ne_of_gt (pw n))
 exact Rat.le_of_mul_le_mul_right (c:=2^n) (by grind) (pw n)
theorem z8{x:Rat}(h1: -2<=x)(h2:x<=2): -(1+1/2^240)<=aC x/\aC x<=1+1/2^240:=by
 obtain⟨_,b⟩:=En h1 h2;have c:=je b;have s:=lv (aC (x+qt));refine lV (by decide +kernel) (by grind)
theorem Dc{w:Rat}(h1:0<=w)(h2:w<=2*qt): -(1/2^190)<=aC w:=by
 obtain⟨d,e⟩:=mE
 by_cases c:w<=2
 ·have:=qL h1 c
  have p:(0:Rat)<=1/2^190:=by decide +kernel
  grind
 ·have c':=Rat.not_le.1 c
  obtain⟨a,b⟩:=iM (x:=w-2*qt) (by grind) (by grind);have n:=qL (y:= -(w-2*qt)) (by grind) (by grind);rw[ki]at n
  rw[show w-2*qt+2*qt=w by grind]at a
  have:=jf a
  grind
theorem Eq{m:Rat}(h1: -qt<=m)(h2:m<=qt): -(1/2^189)<=fs m:=by
 obtain⟨d,f⟩:=mE;have a:=Dc (w:=m+qt) (by grind) (by grind);obtain⟨_,b⟩:=BB (x:=m) (by grind) (by grind);have c:=je b
 have e:(1/2^190:Rat)+1/2^200<=1/2^189:=by decide +kernel
 grind
theorem o9{a b:Rat}(h1: -qt<=a)(h2:a<=b)(h3:b<=qt): -(1/2^186)<=aC b-aC a:=by
 obtain⟨i,j⟩:=mE;obtain⟨m,hm⟩:∃m,m=(a+b) /2:=⟨_,rfl⟩;obtain⟨h,hh⟩:∃h,h=(b-a) /2:=⟨_,rfl⟩
 have e1:m*2=a+b:=by rw[hm];exact Rat.div_mul_cancel (by decide)
 have e2:h*2=b-a:=by rw[hh];exact Rat.div_mul_cancel (by decide)
 obtain⟨d,_⟩:=z9 (m:=m) (h:=h) (by grind) (by grind) (by grind) (by grind)
 have d':=jf d
 rw[show m+h=b by grind,show m-h=a by grind]at d'
 have c:=Eq (m:=m) (by grind) (by grind);have n:=qL (y:=h) (by grind) (by grind);obtain⟨_,n2⟩:=z8 (x:=h) (by grind) (by grind);have k:=Rat.mul_nonneg n (b:=fs m+1/2^189) (by grind)
 have f:(0:Rat)<=1/2^189:=by decide +kernel
 have g:=Rat.mul_le_mul_of_nonneg_right n2 f
 have e:2*((1+1/2^240)*(1/2^189):Rat)+1/2^200<=1/2^186:=by decide +kernel
 generalize (1/2^189:Rat)=u at *;generalize (1/2^240:Rat)=v at *;generalize (1/2^200:Rat)=t at *;generalize (1/2^186:Rat)=r at *
 grind
def He (q:Int)(v:Rat):Rat:=if q%2=0 then v else -v
theorem Iv{x q:Int}{z f:Rat}(a: -(17/10)<=fz x z/\fz x z<=17/10)(hf:f*SR=z-(q:Rat)*(2*qt*SR))(f1: -(17/10)<=f)(f2:f<=17/10):
  -1<=(fJ x z-He q (aC f))*2^190/\(fJ x z-He q (aC f))*2^190<=1:=by
 obtain⟨k,g⟩:∃k,k=qI x-q:=⟨_,rfl⟩
 have e:f=fz x z+(k:Rat)*(2*qt):=by
  have p:=ko x z;have d:=dS;rw[g,Rat.intCast_sub];refine Rat.le_antisymm (Rat.le_of_mul_le_mul_right (c:=SR) ?_ d) (Rat.le_of_mul_le_mul_right (c:=SR) ?_ d) <;> grind
 have b:=IS (k:=k) (by grind) (by grind);rw[ja]
 unfold He
 rcases b with rfl | rfl | rfl
 ·rw[c0]at e
  rw[show f=fz x z by grind]
  by_cases c:q%2=0
  ·rw[if_pos c,if_pos (by omega)]
   constructor <;> grind
  ·rw[if_neg c,if_neg (by omega)]
   constructor <;> grind
 ·rw[c1]at e;obtain⟨h1,h2⟩:=iM (x:=fz x z) (by grind) (by grind)
  rw[show fz x z+2*qt=f by grind]at h1 h2
  by_cases c:q%2=0
  ·rw[if_pos c,if_neg (by omega)]
   constructor <;> grind
  ·rw[if_neg c,if_pos (by omega)]
   constructor <;> grind
 ·rw[cm]at e;obtain⟨h1,h2⟩:=iM (x:=f) (by grind) (by grind)
  rw[show f+2*qt=fz x z by grind]at h1 h2
  by_cases c:q%2=0
  ·rw[if_pos c,if_neg (by omega)]
   constructor <;> grind
  ·rw[if_neg c,if_pos (by omega)]
   constructor <;> grind
theorem Gv{x:Int}{z:Rat}(a: -(17/10)<=fz x z/\fz x z<=17/10):∃(q:Int) (f:Rat),f*SR=z-(q:Rat)*(2*qt*SR)/\ -qt<=f/\f<=qt:=by
 obtain⟨b,e⟩:=mE;have p:=ko x z
 by_cases c:fz x z<=qt
 ·by_cases d: -qt<=fz x z
  ·exact⟨qI x,fz x z,p,d,c⟩
  ·have d':=Rat.not_le.1 d
   refine⟨qI x-1,fz x z+2*qt,?_,by grind,by grind⟩
   rw[Rat.intCast_sub,c1]
   grind
 ·have c':=Rat.not_le.1 c
  refine⟨qI x+1,fz x z-2*qt,?_,by grind,by grind⟩
  rw[Rat.intCast_add,c1]
  grind
theorem rU (z:Rat)(q:Int):∃f:Rat,f*SR=z-(q:Rat)*(2*qt*SR):=⟨(z-(q:Rat)*(2*qt*SR)) /SR,Rat.div_mul_cancel (Rat.ne_of_gt dS)⟩
theorem pf{f g u v:Rat}(hf:f*SR=u)(hg:g*SR=v)(h:u<=v):f<=g:=Rat.le_of_mul_le_mul_right (c:=SR) (by rw[hf,hg];exact h) dS
theorem BI:(1/2^186:Rat)+1/2^190+1/2^190<=72/2^192:=by decide +kernel
theorem lower{x x1 x2:Int}{z z1 z2:Rat}(a: -(17/10)<=fz x z/\fz x z<=17/10)(a1: -(17/10)<=fz x1 z1/\fz x1 z1<=17/10)(a2: -(17/10)<=fz x2 z2/\fz x2 z2<=17/10)(h1:z1<=z)(h2:z<=z2):
  (∃i:Int,i%2≠0/\z1<=(2*(i:Rat)+1)*(qt*SR)/\(2*(i:Rat)+1)*(qt*SR)<=z2)\/fJ x1 z1<=fJ x z+72/2^192\/fJ x2 z2<=fJ x z+72/2^192:=by
 obtain⟨o,p⟩:=mE;obtain⟨q,f,hf,j,k⟩:=Gv a;obtain⟨b,e⟩:=Iv a hf (by grind) (by grind);have h:=dS;have ep:=BI
 by_cases c:q%2=0
 ·by_cases d:z1<=(2*((q-1:Int):Rat)+1)*(qt*SR)
  ·refine .inl ⟨q-1,by omega,d,?_⟩
   have:=Rat.mul_le_mul_of_nonneg_right j (Rat.le_of_lt h)
   rw[Rat.intCast_sub,c1]
   grind
  ·have d':=Rat.not_le.1 d
   rw[Rat.intCast_sub,c1]at d';obtain⟨g,hg⟩:=rU z1 q
   have g1:g<=f:=pf hg hf (by grind)
   have g2: -qt<=g:=Rat.le_of_mul_le_mul_right (c:=SR) (by rw[hg];grind) h
   obtain⟨s1,s2⟩:=Iv a1 hg (by grind) (by grind);have m:=o9 g2 g1 k
   unfold He at b e s1 s2
   rw[if_pos c]at b e s1 s2;have l:=jf b;have n:=je s2;exact .inr (.inl (by grind))
 ·by_cases d:(2*(q:Rat)+1)*(qt*SR)<=z2
  ·refine .inl ⟨q,c,?_,d⟩
   have:=Rat.mul_le_mul_of_nonneg_right k (Rat.le_of_lt h)
   grind
  ·have d':=Rat.not_le.1 d
   obtain⟨g,hg⟩:=rU z2 q
   have g1:f<=g:=pf hf hg (by grind)
   have g2:g<=qt:=Rat.le_of_mul_le_mul_right (c:=SR) (by rw[hg];grind) h
   obtain⟨s1,s2⟩:=Iv a2 hg (by grind) (by grind);have m:=o9 j g1 g2
   unfold He at b e s1 s2
   rw[if_neg c]at b e s1 s2;have l:=jf b;have n:=je s2;exact .inr (.inr (by grind))
end Go.Proofs.YteigedaefgmojaaGreatDoor
namespace Go.Proofs.YteigedaefgmojaaGreatDoor
open Go.Proofs.Tryz
set_option maxHeartbeats 2000000
open Go.RowKit
set_option linter.unusedVariables false
set_option linter.unusedSimpArgs false
set_option maxRecDepth 100000
def W2 (w:World)(K:Nat)(q r:Int)(e:Ending)(w':World):Prop:=∃s1 A1 n1 c1 s2 A2 n2 c2,e= .returned (.tuple #[.agg #[.bool s1,.slice A1 n1 c1],.agg #[.bool s2,.slice A2 n2 c2]])/\Wn w' s1 A1 n1 c1 q/\Wn w' s2 A2 n2 c2 r/\n1<=K/\n2<=K/\Below w.heap.size w w'
theorem Wn.fits{w:World}{A:Option Addr}{n c K:Nat}{s:Bool}{z:Int}(h:Wn w s A n c z)(hz:z.natAbs < 4294967296^K):n<=K:=by
 have h1:=h.1.len;have h2:=az hz
 omega
theorem ix{w:World}:Calls prog 158 #[] w (W1 w 8 SC):=by
 go_enter func158,ntmps158
 go_upto_region 1 with fail
 generalize e:w.alloc _=w1 at *;obtain⟨c,d⟩:=Bo.en1 e;clear e
 go_wp2_with fail
 refine(G9 (a:=1) 192 ⟨_,[1],iT w1,rfl⟩ (by decide) (by decide) (by decide)).mono ?_;rintro j n ⟨A2,n2,c2,rfl,p2,l,B⟩;replace B:=bt (ab _ (.cells #[.int .u32 1] 103)) B;replace c:=c.b B;replace d:=aj d B;clear B
 go_wp2_with fail
 refine(bO false p2.rd).mono ?_;rintro j k ⟨s3,A3,n3,c3,rfl,f,m,B⟩;replace c:=c.b B;replace d:=aj d B;clear B;clear p2
 replace f:Wn k s3 A3 n3 c3 SC:=by rw[show SC=sg false (1*2^192) by decide];exact f
 have i:=c.cell;have g:=c.frozen;go_wp2;clear i g;have h:=ae.t2 c s3 A3 n3 c3;replace f:=f.s h;exact bq (v:= .agg #[.bool s3,.slice A3 n3 c3]) (by simp[results,results158,go_sem,h.box.cell]) rfl ⟨s3,A3,n3,c3,rfl,f,by omega,(h.below d.out (by omega))⟩
theorem kB{w:World}{A:Option Addr}{n c:Nat}{s:Bool}{x:Int}{B:Option Addr}{m d:Nat}{t:Bool}{y:Int}{q:Int}(h:Wr w s A n c x)(k:Wr w t B m d y)(hn:n<=268435456)(hm:m<=268435456)(h0:y≠0)(hq:x.fdiv y=q):Calls prog 75 #[.agg #[.bool s,.slice A n c],.agg #[.bool t,.slice B m d]] w (W1 w (n+m+4) q):=by
 go_enter func75,ntmps75
 go_upto_region 1 with fail
 generalize u:((w.alloc _).alloc _).alloc _=w1 at *;obtain⟨O,P,a,e⟩:=Bo.en3 u;replace h:=h.below e.out;replace k:=k.below e.out;clear u;have I:=O.cell;have J:=P.cell
 go_wp2_with fail
 refine(G4 h k hn hm h0 hq rfl).mono ?_;rintro U z ⟨p,j,o,l,s9,A9,n9,c9,rfl,i,S,R,V,B⟩;clear I J;replace a:=a.b B;replace e:=aj e B;clear B;clear h k;clear O P
 go_upto_region 2 with fail
 have g:(World.alloc z (.cells #[.bool p,.slice j o l] 43)).heap.size=z.heap.size+1:=by simp
 have F:=a.lt;have D:=ab z (.cells #[.bool p,.slice j o l] 43);replace a:=a.b D;replace i:=i.b D;replace e:=ie (bt e.out D);have r:=Bo.new z #[.bool p,.slice j o l] 43;generalize f:World.alloc z (.cells #[.bool p,.slice j o l] 43)=T at *;clear f
 have H:=a.lt;have G:=r.lt;generalize f:T.alloc _=W at *;obtain⟨Q,N⟩:=Bo.nw f;clear f;refine dk ?_ a r i e N;clear a r i e N;intro a r i e;rw[g]at Q;clear g;clear S;have M:=a.cell;have C:=a.frozen;have L:=r.cell;go_wp2;clear M C L
 have E:=ae.t2 a p j o l;replace i:=i.s E;exact bq (v:= .agg #[.bool p,.slice j o l]) (by simp[results,results75,go_sem,E.box.cell]) rfl ⟨p,j,o,l,rfl,i,R,(E.below e.out (by omega))⟩
theorem dr{w:World}{A:Option Addr}{n c:Nat}{s:Bool}{x:Int}{z r:Int}(h:Wr w s A n c x)(hn:n<=268435456)(h1: -9223372036854775808<=z)(h2:z<=9223372036854775807)(hr:x*z=r):Calls prog 70 #[.agg #[.bool s,.slice A n c],.int .i64 z] w (W1 w (n+2) r):=by
 go_enter func70,ntmps70
 go_upto_region 1 with fail
 generalize f:(w.alloc _).alloc _=w1 at *;obtain⟨p,e,i⟩:=Bo.en2 f;replace h:=h.below i.out;clear f;refine aV [0,1,2,3] [6,7,8,9,0] [[],[],[1],[0,2],[]] 5 1 [Jo.Fact.eq (.agg #[.bool s,.slice A n c]),Jo.qi z,Jo.Fact.wn (z) (2),Jo.Fact.wn (r) (n+2),Jo.Fact.any] ?_ ?_
 ·iterate 2 (refine jm ?_ ?_;rotate_left)
  refine jm ?_ ?_
  ·rintro o d _ rfl K a;go_simp;exact Jo.w1 (fk z _ h1 h2) a.out
  refine jm ?_ ?_
  ·rintro o d _ rfl _ ⟨s3,A3,n3,c3,rfl,m,q⟩ K a;go_simp;exact Jo.w1 (vh (h.b d) m.wr hn (by omega) hr) a.out
  exact jo
  all_goals (rintro o d;(repeat rintro _ rfl);intro K a;have u:=(p.b d).cell;go_simp;exact a.out _ _ rfl (br _ _))
 rintro y d _ rfl _ rfl _ ⟨s3,A3,n3,c3,rfl,m,q⟩ _ ⟨s4,A4,n4,c4,rfl,k,t⟩ -;simp only[Jo.z];replace e:=e.b d;replace i:=aj i d;clear h;have l:=e.cell;have g:=e.frozen
 refine jn 4 fun K a=>?_
 go_simp;refine a.out _ _ ?_;clear a K l g;have j:=ae.t2 e s4 A4 n4 c4;replace k:=k.s j;refine jd ?_;go_wp2;exact bq (v:= .agg #[.bool s4,.slice A4 n4 c4]) (by simp[results,results70,go_sem,j.box.cell]) rfl ⟨s4,A4,n4,c4,rfl,k,t,(j.below i.out (by omega))⟩
theorem ae.trans{w w' w'':World}{g:Nat}{a b c:Array Value}{T:TypeId}(h:ae w w' g a b T)(k:ae w' w'' g b c T):ae w w'' g a c T:=
 ⟨h.1,k.2.1,fun j hj=>(k.2.2.1 j hj).trans (h.2.2.1 j hj),fun B x hB hb=>k.2.2.2 B x hB (h.2.2.2 B x hB hb)⟩
theorem ae.mk9{w:World}{g:Nat}{T:TypeId}{a0 a1 a2 a3 a4 a5 a6 a7 a8:Value}(X:Bo w g #[a0,a1,a2,a3,a4,a5,a6,a7,a8] T)(v0 v1 v2 v3 v4 v5 v6 v7 v8:Value):
  ae w (((((((((w.setCell ⟨g,0,none⟩ v0).setCell ⟨g,1,none⟩ v1).setCell ⟨g,2,none⟩ v2).setCell ⟨g,3,none⟩ v3).setCell ⟨g,4,none⟩ v4).setCell ⟨g,5,none⟩ v5).setCell ⟨g,6,none⟩ v6).setCell ⟨g,7,none⟩ v7).setCell ⟨g,8,none⟩ v8) g #[a0,a1,a2,a3,a4,a5,a6,a7,a8] #[v0,v1,v2,v3,v4,v5,v6,v7,v8] T:=by
 have c:ae w (w.setCell ⟨g,0,none⟩ v0) g #[a0,a1,a2,a3,a4,a5,a6,a7,a8] #[v0,a1,a2,a3,a4,a5,a6,a7,a8] T:=ae.at4 X 0 v0
 have a:=c
 have d:ae (w.setCell ⟨g,0,none⟩ v0) ((w.setCell ⟨g,0,none⟩ v0).setCell ⟨g,1,none⟩ v1) g #[v0,a1,a2,a3,a4,a5,a6,a7,a8] #[v0,v1,a2,a3,a4,a5,a6,a7,a8] T:=ae.at4 a.box 1 v1
 have s1:=a.trans d
 have e:ae ((w.setCell ⟨g,0,none⟩ v0).setCell ⟨g,1,none⟩ v1) (((w.setCell ⟨g,0,none⟩ v0).setCell ⟨g,1,none⟩ v1).setCell ⟨g,2,none⟩ v2) g #[v0,v1,a2,a3,a4,a5,a6,a7,a8] #[v0,v1,v2,a3,a4,a5,a6,a7,a8] T:=ae.at4 s1.box 2 v2
 have s2:=s1.trans e
 have f:ae (((w.setCell ⟨g,0,none⟩ v0).setCell ⟨g,1,none⟩ v1).setCell ⟨g,2,none⟩ v2) ((((w.setCell ⟨g,0,none⟩ v0).setCell ⟨g,1,none⟩ v1).setCell ⟨g,2,none⟩ v2).setCell ⟨g,3,none⟩ v3) g #[v0,v1,v2,a3,a4,a5,a6,a7,a8] #[v0,v1,v2,v3,a4,a5,a6,a7,a8] T:=ae.at4 s2.box 3 v3
 have s3:=s2.trans f
 have h:ae ((((w.setCell ⟨g,0,none⟩ v0).setCell ⟨g,1,none⟩ v1).setCell ⟨g,2,none⟩ v2).setCell ⟨g,3,none⟩ v3) (((((w.setCell ⟨g,0,none⟩ v0).setCell ⟨g,1,none⟩ v1).setCell ⟨g,2,none⟩ v2).setCell ⟨g,3,none⟩ v3).setCell ⟨g,4,none⟩ v4) g #[v0,v1,v2,v3,a4,a5,a6,a7,a8] #[v0,v1,v2,v3,v4,a5,a6,a7,a8] T:=ae.at4 s3.box 4 v4
 have s4:=s3.trans h
 have i:ae (((((w.setCell ⟨g,0,none⟩ v0).setCell ⟨g,1,none⟩ v1).setCell ⟨g,2,none⟩ v2).setCell ⟨g,3,none⟩ v3).setCell ⟨g,4,none⟩ v4) ((((((w.setCell ⟨g,0,none⟩ v0).setCell ⟨g,1,none⟩ v1).setCell ⟨g,2,none⟩ v2).setCell ⟨g,3,none⟩ v3).setCell ⟨g,4,none⟩ v4).setCell ⟨g,5,none⟩ v5) g #[v0,v1,v2,v3,v4,a5,a6,a7,a8] #[v0,v1,v2,v3,v4,v5,a6,a7,a8] T:=ae.at4 s4.box 5 v5
 have s5:=s4.trans i
 have j:ae ((((((w.setCell ⟨g,0,none⟩ v0).setCell ⟨g,1,none⟩ v1).setCell ⟨g,2,none⟩ v2).setCell ⟨g,3,none⟩ v3).setCell ⟨g,4,none⟩ v4).setCell ⟨g,5,none⟩ v5) (((((((w.setCell ⟨g,0,none⟩ v0).setCell ⟨g,1,none⟩ v1).setCell ⟨g,2,none⟩ v2).setCell ⟨g,3,none⟩ v3).setCell ⟨g,4,none⟩ v4).setCell ⟨g,5,none⟩ v5).setCell ⟨g,6,none⟩ v6) g #[v0,v1,v2,v3,v4,v5,a6,a7,a8] #[v0,v1,v2,v3,v4,v5,v6,a7,a8] T:=ae.at4 s5.box 6 v6
 have s6:=s5.trans j
 have k:ae (((((((w.setCell ⟨g,0,none⟩ v0).setCell ⟨g,1,none⟩ v1).setCell ⟨g,2,none⟩ v2).setCell ⟨g,3,none⟩ v3).setCell ⟨g,4,none⟩ v4).setCell ⟨g,5,none⟩ v5).setCell ⟨g,6,none⟩ v6) ((((((((w.setCell ⟨g,0,none⟩ v0).setCell ⟨g,1,none⟩ v1).setCell ⟨g,2,none⟩ v2).setCell ⟨g,3,none⟩ v3).setCell ⟨g,4,none⟩ v4).setCell ⟨g,5,none⟩ v5).setCell ⟨g,6,none⟩ v6).setCell ⟨g,7,none⟩ v7) g #[v0,v1,v2,v3,v4,v5,v6,a7,a8] #[v0,v1,v2,v3,v4,v5,v6,v7,a8] T:=ae.at4 s6.box 7 v7
 have s7:=s6.trans k
 have l:ae ((((((((w.setCell ⟨g,0,none⟩ v0).setCell ⟨g,1,none⟩ v1).setCell ⟨g,2,none⟩ v2).setCell ⟨g,3,none⟩ v3).setCell ⟨g,4,none⟩ v4).setCell ⟨g,5,none⟩ v5).setCell ⟨g,6,none⟩ v6).setCell ⟨g,7,none⟩ v7) (((((((((w.setCell ⟨g,0,none⟩ v0).setCell ⟨g,1,none⟩ v1).setCell ⟨g,2,none⟩ v2).setCell ⟨g,3,none⟩ v3).setCell ⟨g,4,none⟩ v4).setCell ⟨g,5,none⟩ v5).setCell ⟨g,6,none⟩ v6).setCell ⟨g,7,none⟩ v7).setCell ⟨g,8,none⟩ v8) g #[v0,v1,v2,v3,v4,v5,v6,v7,a8] #[v0,v1,v2,v3,v4,v5,v6,v7,v8] T:=ae.at4 s7.box 8 v8
 have b:=s7.trans l;exact b
def Ci (e:Bool)(K:Int)(s:Bool)(M E K':Int)(s':Bool)(M' E':Int):Sp->Prop
 | none=>e=true/\Fq K s M E 0/\Fq K' s' M' E' 0
 | some (a,b)=>e=false/\Fq K s M E a/\Fq K' s' M' E' b/\a<=b/\a < 19342822337206103650074625/\ -19342822337206103650074625 < b
section
variable {e e2:Bool} {K M E K' M' E' K2 M2 E2 K2' M2' E2':Int} {s s' s2 s2':Bool} {x y:Sp}
theorem Ci.top (h:Ci e K s M E K' s' M' E' x):M < 18446744073709551616/\M' < 18446744073709551616:=by
 rcases x with _ | ⟨a,b⟩
 ·exact⟨h.2.1.top,h.2.2.top⟩
 ·exact⟨h.2.1.top,h.2.2.1.top⟩
theorem Ci.uniq (h:Ci e K s M E K' s' M' E' x)(k:Ci e2 K2 s2 M2 E2 K2' s2' M2' E2' x):e=e2/\K=K2/\s=s2/\M=M2/\E=E2/\K'=K2'/\s'=s2'/\M'=M2'/\E'=E2':=by
 rcases x with _ | ⟨a,b⟩
 ·obtain⟨h1,l,m⟩:=h;obtain⟨i,j,p2⟩:=k;obtain⟨c1,c2,c3,c4⟩:=l.uniq j;obtain⟨c,d,f,g⟩:=m.uniq p2;exact⟨h1.trans i.symm,c1,c2,c3,c4,c,d,f,g⟩
 ·obtain⟨h1,l,m,_⟩:=h;obtain⟨i,j,p2,_⟩:=k;obtain⟨c1,c2,c3,c4⟩:=l.uniq j;obtain⟨c,d,f,g⟩:=m.uniq p2;exact⟨h1.trans i.symm,c1,c2,c3,c4,c,d,f,g⟩
end
theorem Ci.none:Ci true 0 false 0 0 0 false 0 0 none:=⟨rfl,Fq.nought,Fq.nought⟩
def fG (e:Bool)(K:Int)(s:Bool)(M E K':Int)(s':Bool)(M' E':Int):Sp:=if e=true then none else if aG K s M E/\aG K' s' M' E' then du (rk K s M E) (rk K' s' M' E')else none
def jC (e:Bool)(K:Int)(s:Bool)(M E K':Int)(s':Bool)(M' E':Int):Bool:=if e=true then (decide (K=0/\s=false/\M=0/\E=0) && decide (K'=0/\s'=false/\M'=0/\E'=0))else decide (fG e K s M E K' s' M' E'≠none)
section
variable {e:Bool} {K M E K' M' E':Int} {s s':Bool} {x:Sp}
theorem zI:fG true K s M E K' s' M' E'=none:=if_pos rfl
theorem li:fG false K s M E K' s' M' E'=if aG K s M E/\aG K' s' M' E' then du (rk K s M E) (rk K' s' M' E')else none:=if_neg ff
theorem lj (hM:LQ M)(hM':LQ M'):dc (fG e K s M E K' s' M' E'):=by
 cases e
 ·rw[li]
  by_cases h:aG K s M E/\aG K' s' M' E'
  ·rw[if_pos h];exact qd (dX hM h.1).bd.1 (dX hM' h.2).bd.2
  ·rw[if_neg h];exact trivial
 ·exact trivial
theorem ni (hM:LQ M)(hM':LQ M')(h:jC e K s M E K' s' M' E'=true):Ci e K s M E K' s' M' E' (fG e K s M E K' s' M' E'):=by
 unfold jC at h
 cases e
 ·rw[if_neg ff,decide_eq_true_iff]at h;rw[li]at h|-
  by_cases hq:aG K s M E/\aG K' s' M' E'
  ·rw[if_pos hq]at h|-
   by_cases a:rk K s M E<=rk K' s' M' E'/\rk K s M E < 19342822337206103650074625/\ -19342822337206103650074625 < rk K' s' M' E'
   ·rw[bj a.1 a.2.1 a.2.2];exact⟨rfl,dX hM hq.1,dX hM' hq.2,a⟩
   ·exact absurd (bT a) h
  ·rw[if_neg hq]at h;exact absurd rfl h
 ·rw[if_pos rfl,Bool.and_eq_true,decide_eq_true_iff,decide_eq_true_iff]at h;obtain⟨⟨rfl,rfl,rfl,rfl⟩,rfl,rfl,rfl,rfl⟩:=h;exact Ci.none
theorem rE (h:jC e K s M E K' s' M' E'=false):fG e K s M E K' s' M' E'=none:=by
 cases e
 ·unfold jC at h
  rw[if_neg ff,decide_eq_false_iff_not]at h;exact Decidable.not_not.1 h
 ·exact zI
theorem Ci.rk (h:Ci e K s M E K' s' M' E' x):fG e K s M E K' s' M' E'=x:=by
 rcases x with _ | ⟨a,b⟩
 ·obtain⟨rfl,_⟩:=h;exact zI
 ·obtain⟨rfl,c,d,h1,h2,f⟩:=h;rw[li,if_pos ⟨c.1,d.1⟩,c.rk,d.rk,bj h1 h2 f]
theorem Ci.may (h:Ci e K s M E K' s' M' E' x):jC e K s M E K' s' M' E'=true:=by
 have c:=h.rk
 unfold jC
 rcases x with _ | ⟨a,b⟩
 ·obtain⟨rfl,d,f⟩:=h;obtain⟨rfl,rfl,rfl,rfl⟩:=d.uniq Fq.nought;obtain⟨rfl,rfl,rfl,rfl⟩:=f.uniq Fq.nought
  rfl
 ·obtain⟨rfl,_⟩:=h;rw[if_neg ff,c]
  rfl
end
def PV (w:World)(x:Sp)(e:Ending)(w':World):Prop:=∃e0 K s M E K' s' M' E',e= .returned (.agg #[.bool e0,.int .i64 K,.bool s,.int .u64 M,.int .i64 E,.int .i64 K',.bool s',.int .u64 M',.int .i64 E'])/\Ci e0 K s M E K' s' M' E' x/\Below w.heap.size w w'
def Jo.Fact.iv (x:Sp):Jo.Fact:=⟨fun v w=>∃e0 K s M E K' s' M' E',v= .agg #[.bool e0,.int .i64 K,.bool s,.int .u64 M,.int .i64 E,.int .i64 K',.bool s',.int .u64 M',.int .i64 E']/\Ci e0 K s M E K' s' M' E' x,fun v w w' h b=>h⟩
def mL (w:World)(A:Option Addr)(n c:Nat)(l:List Sp):Prop:=
 l.length=n/\n<=c/\n<=1099511627776/\(0 < n->∃b o,A=some ⟨b,o,none⟩/\∀k,k < n->∃e K s M E K' s' M' E',w.cell? ⟨b,o+k*9,none⟩=some (.bool e)/\w.cell? ⟨b,o+k*9+1,none⟩=some (.int .i64 K)/\w.cell? ⟨b,o+k*9+2,none⟩=some (.bool s)/\w.cell? ⟨b,o+k*9+3,none⟩=some (.int .u64 M)/\w.cell? ⟨b,o+k*9+4,none⟩=some (.int .i64 E)/\w.cell? ⟨b,o+k*9+5,none⟩=some (.int .i64 K')/\w.cell? ⟨b,o+k*9+6,none⟩=some (.bool s')/\w.cell? ⟨b,o+k*9+7,none⟩=some (.int .u64 M')/\w.cell? ⟨b,o+k*9+8,none⟩=some (.int .i64 E')/\M < 18446744073709551616/\M' < 18446744073709551616/\fG e K s M E K' s' M' E'=l.getD k none)
theorem mL.below{w w':World}{A:Option Addr}{n c:Nat}{l:List Sp}(h:mL w A n c l)(hb:Below w.heap.size w w'):mL w' A n c l:=by
 obtain⟨h1,h2,f,h4⟩:=h
 refine⟨h1,h2,f,fun hn=>?_⟩
 obtain⟨b,o,e,j⟩:=h4 hn
 refine⟨b,o,e,fun k hk=>?_⟩
 obtain⟨e,K,s,M,E,K',s',M',E',c0,c1,c2,c3,c4,c5,c6,c7,d,g,a,m⟩:=j k hk
 have t:∀{i:Nat} {v:Value},w.cell? ⟨b,i,none⟩=some v->w'.cell? ⟨b,i,none⟩=some v:=fun c=>(hb.cell (p:=⟨b,_,none⟩) (block_lt_of_cell c)).trans c
 exact⟨e,K,s,M,E,K',s',M',E',t c0,t c1,t c2,t c3,t c4,t c5,t c6,t c7,t d,g,a,m⟩
abbrev mL.b:= @mL.below
instance {w w':World} {A:Option Addr} {n c:Nat} {l:List Sp}:Mv (mL w A n c l) w w' (mL w' A n c l):=⟨fun h b=>h.below b⟩
theorem mL.ok{w:World}{A:Option Addr}{n c:Nat}{l:List Sp}(h:mL w A n c l):∀y ∈ l,dc y:=by
 intro y hy
 obtain⟨k,g,e⟩:=List.getElem_of_mem hy;obtain⟨h1,h2,j,h4⟩:=h;obtain⟨b,o,_,f⟩:=h4 (by omega);obtain⟨e0,K,s,M,E,K',s',M',E',_,_,_,_,_,_,_,_,_,d,a,i⟩:=f k (by omega)
 have:l.getD k none=y:=by
  rw[List.getD_eq_getElem?_getD,List.getElem?_eq_getElem g,e]
  rfl
 rw[<-this,<-i];exact lj d a
end Go.Proofs.YteigedaefgmojaaGreatDoor
namespace Go.Proofs.YteigedaefgmojaaGreatDoor
open Go.Proofs.Tryz
open Go.RowKit
set_option linter.unusedVariables false
theorem ae.of9{w w1:World}{g:Nat}{T:TypeId}{a0 a1 a2 a3 a4 a5 a6 a7 a8 v0 v1 v2 v3 v4 v5 v6 v7 v8:Value}(X:Bo w g #[a0,a1,a2,a3,a4,a5,a6,a7,a8] T)(h:((((((((w.setCell ⟨g,0,none⟩ v0).setCell ⟨g,1,none⟩ v1).setCell ⟨g,2,none⟩ v2).setCell ⟨g,3,none⟩ v3).setCell ⟨g,4,none⟩ v4).setCell ⟨g,5,none⟩ v5).setCell ⟨g,6,none⟩ v6).setCell ⟨g,7,none⟩ v7).setCell ⟨g,8,none⟩ v8=w1):ae w w1 g #[a0,a1,a2,a3,a4,a5,a6,a7,a8] #[v0,v1,v2,v3,v4,v5,v6,v7,v8] T:=h▸ae.mk9 X v0 v1 v2 v3 v4 v5 v6 v7 v8
open Go in
theorem Jo.v1{P:Program}{f:FuncId}{a:Array Value}{w:World}{Q:Ending->World->Prop}{R:Value->World->Prop}{z:Sp}(h:Calls P f a w (PV w z))(hR:∀v w',(Jo.Fact.iv z).P v w'->Jo.Grow w w'->R v w')(hQ:∀v w',R v w'->Q (.returned v) w':=by exact fun _ _ h=>h):Calls P f a w Q:=by
 refine h.mono ?_
 rintro e w' ⟨e0,K,s,M,E,K',s',M',E',rfl,p,B⟩
 exact hQ _ _ (hR _ _ ⟨e0,K,s,M,E,K',s',M',E',rfl,p⟩ B)
theorem ae.t9{w:World}{g:Nat}{T:TypeId}{a0 a1 a2 a3 a4 a5 a6 a7 a8:Value}(X:Bo w g #[a0,a1,a2,a3,a4,a5,a6,a7,a8] T)(e:Bool)(K:Int)(s:Bool)(M E K':Int)(s':Bool)(M' E':Int):ae w (((((((((w.setCell ⟨g,0,none⟩ (.bool e)).setCell ⟨g,1,none⟩ (.int .i64 K)).setCell ⟨g,2,none⟩ (.bool s)).setCell ⟨g,3,none⟩ (.int .u64 M)).setCell ⟨g,4,none⟩ (.int .i64 E)).setCell ⟨g,5,none⟩ (.int .i64 K')).setCell ⟨g,6,none⟩ (.bool s')).setCell ⟨g,7,none⟩ (.int .u64 M')).setCell ⟨g,8,none⟩ (.int .i64 E')) g #[a0,a1,a2,a3,a4,a5,a6,a7,a8] #[.bool e,.int .i64 K,.bool s,.int .u64 M,.int .i64 E,.int .i64 K',.bool s',.int .u64 M',.int .i64 E'] T:=ae.mk9 X _ _ _ _ _ _ _ _ _
end Go.Proofs.YteigedaefgmojaaGreatDoor
namespace Go.Proofs.YteigedaefgmojaaGreatDoor
open Go.Proofs.Tryz
set_option maxHeartbeats 8000000
open Go.RowKit
set_option linter.unusedVariables false
set_option linter.unusedSimpArgs false
set_option maxRecDepth 100000
theorem fg (s:Bool):Fq 2 s 0 0 (an s TP):=⟨.inr (.inr ⟨rfl,rfl,rfl⟩),by decide,by
 cases s <;> rfl⟩
theorem pz{w:World}(s:Bool):Calls prog 106 #[.bool s] w (fun e w'=>e= .returned (.agg #[.int .i64 2,.bool s,.int .u64 0,.int .i64 0])/\Below w.heap.size w w'):=by
 refine(vL (s:=s) rfl).mono ?_;rintro a b ⟨K,s1,M,E,rfl,q,B⟩;obtain⟨rfl,rfl,rfl,rfl⟩:=q.uniq (fg s);exact⟨rfl,B⟩
theorem EI{w:World}:Calls prog 35 #[] w (PV w none):=by
 go_enter func35,ntmps35
 go_upto_region 1 with fail
 generalize a:w.alloc _=w1 at *;obtain⟨c,f⟩:=Bo.en1 a;clear a;have d:=c.cell;have b:=c.frozen;go_wp2;clear d b;have e:=ae.t9 c true 0 false 0 0 0 false 0 0;exact bq (by simp[results,results35,go_sem,e.box.cell]) rfl ⟨_,_,_,_,_,_,_,_,_,rfl,Ci.none,(e.below f.out (by omega))⟩
theorem rz{w:World}:Calls prog 35 #[] w (fun e w'=>e= .returned (.agg #[.bool true,.int .i64 0,.bool false,.int .u64 0,.int .i64 0,.int .i64 0,.bool false,.int .u64 0,.int .i64 0])/\Below w.heap.size w w'):=by
 refine EI.mono ?_;rintro j k ⟨e1,h,s1,i,g,b,d,c,a,rfl,f,B⟩;obtain⟨rfl,rfl,rfl,rfl,rfl,rfl,rfl,rfl,rfl⟩:=f.uniq Ci.none;exact⟨rfl,B⟩
theorem Ck{w:World}{D M E D' M' E':Int}{s s':Bool}{r:Bool}(hr:jC true D s M E D' s' M' E'=r):Calls prog 110 #[VI true D s M E D' s' M' E'] w (PB w r):=by
 delta VI
 have i:=ie hr;clear hr
 go_enter func110,ntmps110
 go_upto_region 1 with fail
 generalize d:w.alloc _=w1 at *;obtain⟨g,f⟩:=Bo.en1 d;clear d;have e:=g.cell
 go_upto_region 2 with fail
 clear e;refine aV [0,1,2,3] [8,9,10,3] [[],[],[0,1],[2]] 4 0 [Jo.q9 true D s M E D' s' M' E',Jo.q9 true 0 false 0 0 0 false 0 0,Jo.qb r,Jo.qb r] ?_ ?_
 ·refine jm ?_ ?_;rotate_left
  refine jm ?_ ?_
  ·rintro h a K c;go_simp;refine(rz).mono ?_;rintro j l ⟨rfl,B⟩;exact c.out _ _ rfl B
  refine jm ?_ ?_
  ·rintro h a _ rfl _ rfl K c;go_simp
   repeat' split
   all_goals exact c.out _ _ (congrArg Value.bool (by rw[<-i.out];unfold jC;simp[*])) (br _ _)
  refine jm ?_ ?_;rotate_left
  exact jo
  all_goals (rintro h a;(repeat rintro _ rfl);intro K c;have e:=(g.b a).cell;go_simp;exact c.out _ _ rfl (br _ _))
 rintro k a _ rfl _ rfl _ rfl _ rfl -;simp only[Jo.z];replace f:=aj f a;refine jd ?_;go_wp2
 go_ret
 exact⟨rfl,f.out⟩
theorem x9{w:World}{D M E D' M' E':Int}{s s':Bool}(hM:(M:Int) < 18446744073709551616)(hM':(M':Int) < 18446744073709551616)(hp:decide (aG D s M E)=false){q:Bool}(hq:decide (aG D' s' M' E')=q):Calls prog 110 #[VI false D s M E D' s' M' E'] w (PB w false):=by
 delta VI
 have g:=ie hp;have h:=ie hq;clear hp hq
 go_enter func110,ntmps110
 go_upto_region 1 with fail
 generalize e:w.alloc _=w1 at *;obtain⟨d,c⟩:=Bo.en1 e;clear e;have a:=d.cell
 go_wp2_with fail
 refine(fM g.out).mono ?_;rintro i k ⟨rfl,B⟩;clear a;replace d:=d.b B;replace c:=aj c B;clear B;have a:=d.cell
 go_wp2_with fail
 refine(fM h.out).mono ?_;rintro i l ⟨rfl,B⟩;clear a;replace d:=d.b B;replace c:=aj c B;clear B;have a:=d.cell
 go_upto_region 5 with fail
 clear a;refine aV [0,1,2,3,4,5,6,7,8,9,10,11,12,13,14,15,16,17,18,19,20,21,22,23,24] [17,18,19,20,21,22,23,24,25,26,27,28,29,30,31,32,33,34,35,36,37,38,39,40,3] [[],[0],[1],[1,2],[3],[4],[4,5],[4],[4,7],[4,6,8],[4,9],[4,10],[11],[12],[12,13],[12],[12,14,15],[12,16],[17],[18],[18,19],[18],[18,20,21],[18,22],[23]] 25 0 [Jo.qb false,Jo.qb false,Jo.qu,Jo.qb false,Jo.qb false,Jo.qu,Jo.qu,Jo.qu,Jo.qu,Jo.qu,Jo.qu,Jo.qb false,Jo.qb false,Jo.qu,Jo.qu,Jo.qu,Jo.qu,Jo.qb false,Jo.qb false,Jo.qu,Jo.qu,Jo.qu,Jo.qu,Jo.qb false,Jo.qb false] ?_ ?_
 ·iterate 25 (refine jm ?_ ?_;rotate_left)
  exact jo
  all_goals (rintro n f;(repeat rintro _ rfl);intro K j;go_simp;exact j.out _ _ rfl (br _ _))
 rintro m f _ rfl _ rfl _ rfl _ rfl _ rfl _ rfl _ rfl _ rfl _ rfl _ rfl _ rfl _ rfl _ rfl _ rfl _ rfl _ rfl _ rfl _ rfl _ rfl _ rfl _ rfl _ rfl _ rfl _ rfl _ rfl -;simp only[Jo.z];replace c:=aj c f;refine jd ?_;go_wp2
 go_ret
 exact⟨rfl,c.out⟩
theorem yc{w:World}{D M E D' M' E':Int}{s s':Bool}(hM:(M:Int) < 18446744073709551616)(hM':(M':Int) < 18446744073709551616)(hp:decide (aG D s M E)=true)(hq:decide (aG D' s' M' E')=false):Calls prog 110 #[VI false D s M E D' s' M' E'] w (PB w false):=by
 delta VI
 have g:=ie hp;have h:=ie hq;clear hp hq
 go_enter func110,ntmps110
 go_upto_region 1 with fail
 generalize e:w.alloc _=w1 at *;obtain⟨d,c⟩:=Bo.en1 e;clear e;have a:=d.cell
 go_wp2_with fail
 refine(fM g.out).mono ?_;rintro i k ⟨rfl,B⟩;clear a;replace d:=d.b B;replace c:=aj c B;clear B;have a:=d.cell
 go_wp2_with fail
 refine(fM h.out).mono ?_;rintro i l ⟨rfl,B⟩;clear a;replace d:=d.b B;replace c:=aj c B;clear B;have a:=d.cell
 go_upto_region 5 with fail
 clear a;refine aV [0,1,2,3,4,5,6,7,8,9,10,11,12,13,14,15,16,17,18,19,20,21,22,23,24] [17,18,19,20,21,22,23,24,25,26,27,28,29,30,31,32,33,34,35,36,37,38,39,40,3] [[],[0],[1],[1,2],[3],[4],[4,5],[4],[4,7],[4,6,8],[4,9],[4,10],[11],[12],[12,13],[12],[12,14,15],[12,16],[17],[18],[18,19],[18],[18,20,21],[18,22],[23]] 25 0 [Jo.qb true,Jo.qb true,Jo.qb false,Jo.qb false,Jo.qb false,Jo.qu,Jo.qu,Jo.qu,Jo.qu,Jo.qu,Jo.qu,Jo.qb false,Jo.qb false,Jo.qu,Jo.qu,Jo.qu,Jo.qu,Jo.qb false,Jo.qb false,Jo.qu,Jo.qu,Jo.qu,Jo.qu,Jo.qb false,Jo.qb false] ?_ ?_
 ·iterate 25 (refine jm ?_ ?_;rotate_left)
  exact jo
  all_goals (rintro n f;(repeat rintro _ rfl);intro K j;go_simp;exact j.out _ _ rfl (br _ _))
 rintro m f _ rfl _ rfl _ rfl _ rfl _ rfl _ rfl _ rfl _ rfl _ rfl _ rfl _ rfl _ rfl _ rfl _ rfl _ rfl _ rfl _ rfl _ rfl _ rfl _ rfl _ rfl _ rfl _ rfl _ rfl _ rfl -;simp only[Jo.z];replace c:=aj c f;refine jd ?_;go_wp2
 go_ret
 exact⟨rfl,c.out⟩
theorem xZ{w:World}{D M E D' M' E' c:Int}{s s':Bool}(hM:(M:Int) < 18446744073709551616)(hM':(M':Int) < 18446744073709551616)(hp:decide (aG D s M E)=true)(hq:decide (aG D' s' M' E')=true)(hc:ah (rk D s M E) (rk D' s' M' E')=c)(hc0:decide (c<=0)=false):Calls prog 110 #[VI false D s M E D' s' M' E'] w (PB w false):=by
 delta VI
 have m:=ie hp;have n:=ie hq;have l:=ie hc;have i:=ie hc0;clear hp hq hc hc0
 go_enter func110,ntmps110
 go_upto_region 1 with fail
 generalize h:w.alloc _=w1 at *;obtain⟨d,e⟩:=Bo.en1 h;clear h;have a:=d.cell
 go_wp2_with fail
 refine(fM m.out).mono ?_;rintro j o ⟨rfl,B⟩;clear a;replace d:=d.b B;replace e:=aj e B;clear B;have a:=d.cell
 go_wp2_with fail
 refine(fM n.out).mono ?_;rintro j p ⟨rfl,B⟩;clear a;replace d:=d.b B;replace e:=aj e B;clear B;have a:=d.cell
 go_upto_region 5 with fail
 clear a;refine aV [0,1,2,3,4,5,6,7,8,9,10,11,12,13,14,15,16,17,18,19,20,21,22,23,24] [17,18,19,20,21,22,23,24,25,26,27,28,29,30,31,32,33,34,35,36,37,38,39,40,3] [[],[0],[1],[1,2],[3],[4],[4,5],[4],[4,7],[4,6,8],[4,9],[4,10],[11],[12],[12,13],[12],[12,14,15],[12,16],[17],[18],[18,19],[18],[18,20,21],[18,22],[23]] 25 0 [Jo.qb true,Jo.qb true,Jo.qb true,Jo.qb true,Jo.qb true,Jo.qp w.heap.size 1,Jo.q4 D s M E,Jo.qp w.heap.size 5,Jo.q4 D' s' M' E',Jo.qi c,Jo.qb false,Jo.qb false,Jo.qb false,Jo.qu,Jo.qu,Jo.qu,Jo.qu,Jo.qb false,Jo.qb false,Jo.qu,Jo.qu,Jo.qu,Jo.qu,Jo.qb false,Jo.qb false] ?_ ?_
 ·iterate 9 (refine jm ?_ ?_;rotate_left)
  refine jm ?_ ?_
  ·rintro k f _ rfl _ rfl _ rfl K g;go_simp;refine(lF hM hM' l.out).mono ?_;rintro j r ⟨rfl,B⟩;exact g.out _ _ rfl B
  refine jm ?_ ?_
  ·rintro k f _ rfl _ rfl K g;have hc0:=i.out;go_simp
   exact g.out _ _ (by first | rfl | (show Value.bool _=Value.bool _;rw[hc0]) | simp_all) (br _ _)
  iterate 14 (refine jm ?_ ?_;rotate_left)
  exact jo
  all_goals (rintro k f;(repeat rintro _ rfl);intro K g;have a:=(d.b f).cell;go_simp;exact g.out _ _ rfl (br _ _))
 rintro q f _ rfl _ rfl _ rfl _ rfl _ rfl _ _ _ rfl _ _ _ rfl _ rfl _ rfl _ rfl _ rfl _ rfl _ rfl _ rfl _ rfl _ rfl _ rfl _ rfl _ rfl _ rfl _ rfl _ rfl _ rfl -;simp only[Jo.z];replace e:=aj e f;refine jd ?_;go_wp2
 go_ret
 exact⟨rfl,e.out⟩
theorem yd{w:World}{D' M' E' c:Int}{s':Bool}(hM:(0:Int) < 18446744073709551616)(hM':(M':Int) < 18446744073709551616)(hq:decide (aG D' s' M' E')=true)(hc:ah (rk 2 false 0 0) (rk D' s' M' E')=c)(hc0:decide (c<=0)=true):Calls prog 110 #[VI false 2 false 0 0 D' s' M' E'] w (PB w false):=by
 delta VI
 have n:Hid (decide (aG 2 false 0 0)=true):=ie (by decide)
 have k:=ie trivial;have o:=ie hq;have m:=ie hc;have j:=ie hc0;clear hq hc hc0
 go_enter func110,ntmps110
 go_upto_region 1 with fail
 generalize h:w.alloc _=w1 at *;obtain⟨e,f⟩:=Bo.en1 h;clear h;have a:=e.cell
 go_wp2_with fail
 refine(fM n.out).mono ?_;rintro l r ⟨rfl,B⟩;clear a;replace e:=e.b B;replace f:=aj f B;clear B;have a:=e.cell
 go_wp2_with fail
 refine(fM o.out).mono ?_;rintro l s ⟨rfl,B⟩;clear a;replace e:=e.b B;replace f:=aj f B;clear B;have a:=e.cell
 go_upto_region 5 with fail
 clear a;refine aV [0,1,2,3,4,5,6,7,8,9,10,11,12,13,14,15,16,17,18,19,20,21,22,23,24] [17,18,19,20,21,22,23,24,25,26,27,28,29,30,31,32,33,34,35,36,37,38,39,40,3] [[],[0],[1],[1,2],[3],[4],[4,5],[4],[4,7],[4,6,8],[4,9],[4,10],[11],[12],[12,13],[12],[12,14,15],[12,16],[17],[18],[18,19],[18],[18,20,21],[18,22],[23]] 25 0 [Jo.qb true,Jo.qb true,Jo.qb true,Jo.qb true,Jo.qb true,Jo.qp w.heap.size 1,Jo.q4 2 false 0 0,Jo.qp w.heap.size 5,Jo.q4 D' s' M' E',Jo.qi c,Jo.qb true,Jo.qb true,Jo.qb true,Jo.qp w.heap.size 1,Jo.q4 2 false 0 0,Jo.q4 2 false 0 0,Jo.qb false,Jo.qb false,Jo.qb false,Jo.qu,Jo.qu,Jo.qu,Jo.qu,Jo.qb false,Jo.qb false] ?_ ?_
 ·iterate 9 (refine jm ?_ ?_;rotate_left)
  refine jm ?_ ?_
  ·rintro i g _ rfl _ rfl _ rfl K d;go_simp;refine(lF hM hM' m.out).mono ?_;rintro l q ⟨rfl,B⟩;exact d.out _ _ rfl B
  refine jm ?_ ?_
  ·rintro i g _ rfl _ rfl K d;have hc0:=j.out;go_simp
   exact d.out _ _ (by first | rfl | (show Value.bool _=Value.bool _;rw[hc0]) | simp_all) (br _ _)
  iterate 4 (refine jm ?_ ?_;rotate_left)
  refine jm ?_ ?_
  ·rintro i g _ rfl K d;go_simp;refine(pz false).mono ?_;rintro l q ⟨rfl,B⟩;exact d.out _ _ rfl B
  refine jm ?_ ?_
  ·rintro i g _ rfl _ rfl _ rfl K d;have p:=k.out;go_simp
   repeat' split
   all_goals exact d.out _ _ (congrArg Value.bool (by first | rfl | (exfalso;simp_all))) (br _ _)
  iterate 8 (refine jm ?_ ?_;rotate_left)
  exact jo
  all_goals (rintro i g;(repeat rintro _ rfl);intro K d;have a:=(e.b g).cell;go_simp;exact d.out _ _ rfl (br _ _))
 rintro t g _ rfl _ rfl _ rfl _ rfl _ rfl _ _ _ rfl _ _ _ rfl _ rfl _ rfl _ rfl _ rfl _ _ _ rfl _ rfl _ rfl _ rfl _ rfl _ rfl _ rfl _ rfl _ rfl _ rfl _ rfl -;simp only[Jo.z];replace f:=aj f g;refine jd ?_;go_wp2
 go_ret
 exact⟨rfl,f.out⟩
theorem xY{w:World}{D M E c:Int}{s:Bool}(hM:(M:Int) < 18446744073709551616)(hM':(0:Int) < 18446744073709551616)(hp:decide (aG D s M E)=true)(hc:ah (rk D s M E) (rk 2 true 0 0)=c)(hc0:decide (c<=0)=true)(h1:¬(D=2/\s=false/\M=0/\E=0)):Calls prog 110 #[VI false D s M E 2 true 0 0] w (PB w false):=by
 delta VI
 have r:Hid (decide (aG 2 true 0 0)=true):=ie (by decide)
 have m:=ie trivial;have q:=ie hp;have p:=ie hc;have k:=ie hc0;have l:=ie h1;clear hp hc hc0 h1
 go_enter func110,ntmps110
 go_upto_region 1 with fail
 generalize i:w.alloc _=w1 at *;obtain⟨f,g⟩:=Bo.en1 i;clear i;have d:=f.cell
 go_wp2_with fail
 refine(fM q.out).mono ?_;rintro j t ⟨rfl,B⟩;clear d;replace f:=f.b B;replace g:=aj g B;clear B;have d:=f.cell
 go_wp2_with fail
 refine(fM r.out).mono ?_;rintro j u ⟨rfl,B⟩;clear d;replace f:=f.b B;replace g:=aj g B;clear B;have d:=f.cell
 go_upto_region 5 with fail
 clear d;refine aV [0,1,2,3,4,5,6,7,8,9,10,11,12,13,14,15,16,17,18,19,20,21,22,23,24] [17,18,19,20,21,22,23,24,25,26,27,28,29,30,31,32,33,34,35,36,37,38,39,40,3] [[],[0],[1],[1,2],[3],[4],[4,5],[4],[4,7],[4,6,8],[4,9],[4,10],[11],[12],[12,13],[12],[12,14,15],[12,16],[17],[18],[18,19],[18],[18,20,21],[18,22],[23]] 25 0 [Jo.qb true,Jo.qb true,Jo.qb true,Jo.qb true,Jo.qb true,Jo.qp w.heap.size 1,Jo.q4 D s M E,Jo.qp w.heap.size 5,Jo.q4 2 true 0 0,Jo.qi c,Jo.qb true,Jo.qb true,Jo.qb true,Jo.qp w.heap.size 1,Jo.q4 D s M E,Jo.q4 2 false 0 0,Jo.qb true,Jo.qb true,Jo.qb true,Jo.qp w.heap.size 5,Jo.q4 2 true 0 0,Jo.q4 2 true 0 0,Jo.qb false,Jo.qb false,Jo.qb false] ?_ ?_
 ·iterate 9 (refine jm ?_ ?_;rotate_left)
  refine jm ?_ ?_
  ·rintro h e _ rfl _ rfl _ rfl K a;go_simp;refine(lF hM hM' p.out).mono ?_;rintro j o ⟨rfl,B⟩;exact a.out _ _ rfl B
  refine jm ?_ ?_
  ·rintro h e _ rfl _ rfl K a;have hc0:=k.out;go_simp
   exact a.out _ _ (by first | rfl | (show Value.bool _=Value.bool _;rw[hc0]) | simp_all) (br _ _)
  iterate 4 (refine jm ?_ ?_;rotate_left)
  refine jm ?_ ?_
  ·rintro h e _ rfl K a;go_simp;refine(pz false).mono ?_;rintro j o ⟨rfl,B⟩;exact a.out _ _ rfl B
  refine jm ?_ ?_
  ·rintro h e _ rfl _ rfl _ rfl K a;have n:=l.out;go_simp
   repeat' split
   all_goals exact a.out _ _ (congrArg Value.bool (by first | rfl | (exfalso;simp_all))) (br _ _)
  iterate 4 (refine jm ?_ ?_;rotate_left)
  refine jm ?_ ?_
  ·rintro h e _ rfl K a;go_simp;refine(pz true).mono ?_;rintro j o ⟨rfl,B⟩;exact a.out _ _ rfl B
  refine jm ?_ ?_
  ·rintro h e _ rfl _ rfl _ rfl K a;have n:=m.out;go_simp
   repeat' split
   all_goals exact a.out _ _ (congrArg Value.bool (by first | rfl | (exfalso;simp_all))) (br _ _)
  iterate 2 (refine jm ?_ ?_;rotate_left)
  exact jo
  all_goals (rintro h e;(repeat rintro _ rfl);intro K a;have d:=(f.b e).cell;go_simp;exact a.out _ _ rfl (br _ _))
 rintro v e _ rfl _ rfl _ rfl _ rfl _ rfl _ _ _ rfl _ _ _ rfl _ rfl _ rfl _ rfl _ rfl _ _ _ rfl _ rfl _ rfl _ rfl _ rfl _ _ _ rfl _ rfl _ rfl _ rfl _ rfl -;simp only[Jo.z];replace g:=aj g e;refine jd ?_;go_wp2
 go_ret
 exact⟨rfl,g.out⟩
theorem ye{w:World}{D M E D' M' E' c:Int}{s s':Bool}(hM:(M:Int) < 18446744073709551616)(hM':(M':Int) < 18446744073709551616)(hp:decide (aG D s M E)=true)(hq:decide (aG D' s' M' E')=true)(hc:ah (rk D s M E) (rk D' s' M' E')=c)(hc0:decide (c<=0)=true)(h1:¬(D=2/\s=false/\M=0/\E=0))(h2:¬(D'=2/\s'=true/\M'=0/\E'=0)):Calls prog 110 #[VI false D s M E D' s' M' E'] w (PB w true):=by
 delta VI
 have q:=ie hp;have r:=ie hq;have p:=ie hc;have k:=ie hc0;have l:=ie h1;have m:=ie h2;clear hp hq hc hc0 h1 h2
 go_enter func110,ntmps110
 go_upto_region 1 with fail
 generalize i:w.alloc _=w1 at *;obtain⟨f,g⟩:=Bo.en1 i;clear i;have d:=f.cell
 go_wp2_with fail
 refine(fM q.out).mono ?_;rintro j t ⟨rfl,B⟩;clear d;replace f:=f.b B;replace g:=aj g B;clear B;have d:=f.cell
 go_wp2_with fail
 refine(fM r.out).mono ?_;rintro j u ⟨rfl,B⟩;clear d;replace f:=f.b B;replace g:=aj g B;clear B;have d:=f.cell
 go_upto_region 5 with fail
 clear d;refine aV [0,1,2,3,4,5,6,7,8,9,10,11,12,13,14,15,16,17,18,19,20,21,22,23,24] [17,18,19,20,21,22,23,24,25,26,27,28,29,30,31,32,33,34,35,36,37,38,39,40,3] [[],[0],[1],[1,2],[3],[4],[4,5],[4],[4,7],[4,6,8],[4,9],[4,10],[11],[12],[12,13],[12],[12,14,15],[12,16],[17],[18],[18,19],[18],[18,20,21],[18,22],[23]] 25 0 [Jo.qb true,Jo.qb true,Jo.qb true,Jo.qb true,Jo.qb true,Jo.qp w.heap.size 1,Jo.q4 D s M E,Jo.qp w.heap.size 5,Jo.q4 D' s' M' E',Jo.qi c,Jo.qb true,Jo.qb true,Jo.qb true,Jo.qp w.heap.size 1,Jo.q4 D s M E,Jo.q4 2 false 0 0,Jo.qb true,Jo.qb true,Jo.qb true,Jo.qp w.heap.size 5,Jo.q4 D' s' M' E',Jo.q4 2 true 0 0,Jo.qb true,Jo.qb true,Jo.qb true] ?_ ?_
 ·iterate 9 (refine jm ?_ ?_;rotate_left)
  refine jm ?_ ?_
  ·rintro h e _ rfl _ rfl _ rfl K a;go_simp;refine(lF hM hM' p.out).mono ?_;rintro j o ⟨rfl,B⟩;exact a.out _ _ rfl B
  refine jm ?_ ?_
  ·rintro h e _ rfl _ rfl K a;have hc0:=k.out;go_simp
   exact a.out _ _ (by first | rfl | (show Value.bool _=Value.bool _;rw[hc0]) | simp_all) (br _ _)
  iterate 4 (refine jm ?_ ?_;rotate_left)
  refine jm ?_ ?_
  ·rintro h e _ rfl K a;go_simp;refine(pz false).mono ?_;rintro j o ⟨rfl,B⟩;exact a.out _ _ rfl B
  refine jm ?_ ?_
  ·rintro h e _ rfl _ rfl _ rfl K a;have n:=l.out;go_simp
   repeat' split
   all_goals exact a.out _ _ (congrArg Value.bool (by first | rfl | (exfalso;simp_all))) (br _ _)
  iterate 4 (refine jm ?_ ?_;rotate_left)
  refine jm ?_ ?_
  ·rintro h e _ rfl K a;go_simp;refine(pz true).mono ?_;rintro j o ⟨rfl,B⟩;exact a.out _ _ rfl B
  refine jm ?_ ?_
  ·rintro h e _ rfl _ rfl _ rfl K a;have n:=m.out;go_simp
   repeat' split
   all_goals exact a.out _ _ (congrArg Value.bool (by first | rfl | (exfalso;simp_all))) (br _ _)
  iterate 2 (refine jm ?_ ?_;rotate_left)
  exact jo
  all_goals (rintro h e;(repeat rintro _ rfl);intro K a;have d:=(f.b e).cell;go_simp;exact a.out _ _ rfl (br _ _))
 rintro v e _ rfl _ rfl _ rfl _ rfl _ rfl _ _ _ rfl _ _ _ rfl _ rfl _ rfl _ rfl _ rfl _ _ _ rfl _ rfl _ rfl _ rfl _ rfl _ _ _ rfl _ rfl _ rfl _ rfl _ rfl -;simp only[Jo.z];replace g:=aj g e;refine jd ?_;go_wp2
 go_ret
 exact⟨rfl,g.out⟩
theorem zJ{D:Int}{s:Bool}{M E:Int}(hM:LQ M)(h:aG D s M E)(b:Bool):rk D s M E=an b TP↔(D=2/\s=b/\M=0/\E=0):=by
 constructor
 ·intro e
  have q:=dX hM h;rw[e]at q;exact q.uniq (fg b)
 ·rintro ⟨rfl,rfl,rfl,rfl⟩;exact(fg s).rk
theorem DI{w:World}{e:Bool}{D M E D' M' E':Int}{s s':Bool}{r:Bool}(hM:LQ M)(hM':LQ M')(hr:jC e D s M E D' s' M' E'=r):Calls prog 110 #[VI e D s M E D' s' M' E'] w (PB w r):=by
 delta VI
 cases e
 ·have e0:decide (fG false D s M E D' s' M' E'≠none)=r:=by rw[<-hr];exact(if_neg ff).symm
  rw[li]at e0
  by_cases f:aG D s M E
  ·by_cases hq:aG D' s' M' E'
   ·rw[if_pos ⟨f,hq⟩]at e0;have o:=(dX hM f).bd;have p:=(dX hM' hq).bd;have i:=zJ hM f false;have j:=zJ hM' hq true
    have n:an false TP=19342822337206103650074625:=rfl
    have tt:an true TP= -19342822337206103650074625:=rfl
    rw[n]at i;rw[tt]at j;have g:=dt f;have h:=dt hq
    by_cases k:rk D s M E<=rk D' s' M' E'
    ·have d:decide (ah (rk D s M E) (rk D' s' M' E')<=0)=true:=dt (by rcases ap (rk D s M E) (rk D' s' M' E')with ⟨a,b⟩ | ⟨a,b⟩ | ⟨a,b⟩ <;> rw[b] <;> omega)
     by_cases h1:D=2/\s=false/\M=0/\E=0
     ·have l:=i.2 h1;rw[bT (by omega)]at e0
      obtain rfl:false=r:=e0
      obtain⟨rfl,rfl,rfl,rfl⟩:=h1;exact yd hM hM' h rfl d
     ·have l:rk D s M E≠19342822337206103650074625:=fun c=>h1 (i.1 c)
      by_cases h2:D'=2/\s'=true/\M'=0/\E'=0
      ·have m:=j.2 h2;rw[bT (by omega)]at e0
       obtain rfl:false=r:=e0
       obtain⟨rfl,rfl,rfl,rfl⟩:=h2;exact xY hM hM' g rfl d h1
      ·have m:rk D' s' M' E'≠ -19342822337206103650074625:=fun c=>h2 (j.1 c)
       rw[bj k (by omega) (by omega)]at e0
       obtain rfl:true=r:=e0
       exact ye hM hM' g h rfl d h1 h2
    ·rw[bT (fun c=>k c.1)]at e0
     obtain rfl:false=r:=e0
     exact xZ hM hM' g h rfl (df (by rcases ap (rk D s M E) (rk D' s' M' E')with ⟨a,b⟩ | ⟨a,b⟩ | ⟨a,b⟩ <;> rw[b] <;> omega))
   ·rw[if_neg (fun c=>hq c.2)]at e0
    obtain rfl:false=r:=e0
    exact yc hM hM' (dt f) (df hq)
  ·rw[if_neg (fun c=>f c.1)]at e0
   obtain rfl:false=r:=e0
   exact x9 hM hM' (df f) rfl
 ·exact Ck hr
theorem fP{w:World}{e:Bool}{D M E D' M' E':Int}{s s':Bool}{x:Sp}(hM:LQ M)(hM':LQ M')(hr:fG e D s M E D' s' M' E'=x):Calls prog 46 #[VI e D s M E D' s' M' E'] w (PV w x):=by
 delta VI
 cases hm:jC e D s M E D' s' M' E'
 ·obtain rfl:none=x:=(rE hm).symm.trans hr
  have i:=ie hm;clear hm hr
  go_enter func46,ntmps46
  go_upto_region 1 with fail
  generalize d:(w.alloc _).alloc _=w1 at *;obtain⟨b,a,c⟩:=Bo.en2 d;clear d;have f:=b.cell
  go_wp2_with fail
  refine(DI hM hM' i.out).mono ?_;rintro k m ⟨rfl,B⟩;clear f;refine aE ?_ b a c B;clear b a c B;intro b a c;clear i hM hM'
  go_wp2_with fail
  refine(rz).mono ?_;rintro k n ⟨rfl,B⟩;refine aE ?_ b a c B;clear b a c B;intro b a c;have h:=a.cell;have g:=a.frozen;go_wp2;clear h g;have j:=ae.t9 a true 0 false 0 0 0 false 0 0
  exact bq (by simp[results,results46,go_sem,j.box.cell]) rfl ⟨_,_,_,_,_,_,_,_,_,rfl,Ci.none,(j.below c.out (by omega))⟩
 ·have l:=ni hM hM' hm;rw[hr]at l;have i:=ie hm;clear hm hr
  go_enter func46,ntmps46
  go_upto_region 1 with fail
  generalize d:(w.alloc _).alloc _=w1 at *;obtain⟨b,a,c⟩:=Bo.en2 d;clear d;have f:=b.cell
  go_wp2_with fail
  refine(DI hM hM' i.out).mono ?_;rintro k m ⟨rfl,B⟩;clear f;refine aE ?_ b a c B;clear b a c B;intro b a c;clear i hM hM';have h:=a.cell;have g:=a.frozen;have f:=b.cell;go_wp2
  clear h g f;have j:=ae.t9 a e D s M E D' s' M' E';exact bq (by simp[results,results46,go_sem,j.box.cell]) rfl ⟨_,_,_,_,_,_,_,_,_,rfl,l,(j.below c.out (by omega))⟩
def Jo.Fact.ir (x:Sp):Jo.Fact:=⟨fun v w=>∃e K s M E K' s' M' E',v= .agg #[.bool e,.int .i64 K,.bool s,.int .u64 M,.int .i64 E,.int .i64 K',.bool s',.int .u64 M',.int .i64 E']/\M < 18446744073709551616/\M' < 18446744073709551616/\fG e K s M E K' s' M' E'=x,fun v w w' h b=>h⟩
theorem Fr{K M E K' M' E':Int}{s s':Bool}{a b:Int}{x:Sp}(q:Fq K s M E a)(q':Fq K' s' M' E' b)(hx:du a b=x):fG false K s M E K' s' M' E'=x:=by
 rw[li,if_pos ⟨q.1,q'.1⟩,q.rk,q'.rk,hx]
theorem mY{w:World}{D D' M M' E E':Int}{s s':Bool}{a b:Int}{x:Sp}(hM:LQ M)(hM':LQ M')(ha:rk D s M E=a)(hb:rk D' s' M' E'=b)(hx:du a b=x):Calls prog 98 #[VQ D s M E,VQ D' s' M' E'] w (PV w x):=by
 delta VQ
 have y:=ie ha;have k:=ie hb;have A:=ie hx;clear ha hb hx
 go_enter func98,ntmps98
 go_upto_region 1 with fail
 generalize f:((w.alloc _).alloc _).alloc _=w1 at *;obtain⟨J,L,e,j⟩:=Bo.en3 f;clear f;refine aV [0,1,2,3,4,5] [6,7,8,9,10,11,0] [[],[0],[],[2],[1,3],[4],[]] 7 1 [Jo.q4 D s M E,Jo.Fact.num a,Jo.q4 D' s' M' E',Jo.Fact.num b,Jo.Fact.ir x,Jo.Fact.iv x,Jo.Fact.any] ?_ ?_
 ·refine jm ?_ ?_;rotate_left
  refine jm ?_ ?_
  ·rintro h d _ rfl K c;go_simp;exact Jo.n1 (ou hM y.out) c.out
  refine jm ?_ ?_;rotate_left
  refine jm ?_ ?_
  ·rintro h d _ rfl K c;go_simp;exact Jo.n1 (ou hM' k.out) c.out
  refine jm ?_ ?_
  ·rintro h d _ ⟨B,s1,G,u,rfl,o⟩ _ ⟨K2,s2,M2,E2,rfl,p⟩ K c;go_simp;exact c.out _ _ ⟨_,_,_,_,_,_,_,_,_,rfl,o.top,p.top,Fr o p A.out⟩ (br _ _)
  refine jm ?_ ?_
  ·rintro h d _ ⟨W,U,s4,V,E4,C,Q,H,v,rfl,O,n,P⟩ K c;go_simp;exact Jo.v1 (fP O n P) c.out
  exact jo
  all_goals (rintro h d;(repeat rintro _ rfl);intro K c;have S:=(J.b d).cell;have T:=(L.b d).cell;go_simp;exact c.out _ _ rfl (br _ _))
 rintro X d _ rfl _ ⟨B,s1,G,u,rfl,o⟩ _ rfl _ ⟨K2,s2,M2,E2,rfl,p⟩ _ ⟨_,_,_,_,_,_,_,_,_,rfl,_⟩ _ ⟨N,F,s5,I,E5,l,q,m,i,rfl,R⟩ -;simp only[Jo.z];replace e:=e.b d;replace j:=aj j d;have r:=e.cell;have g:=e.frozen
 refine jn 6 fun K c=>?_
 go_simp;refine c.out _ _ ?_;clear c K r g;have t:=ae.t9 e N F s5 I E5 l q m i;refine jd ?_;go_wp2;exact bq (by simp[results,results98,go_sem,t.box.cell]) rfl ⟨_,_,_,_,_,_,_,_,_,rfl,R,(t.below j.out (by omega))⟩
theorem j6{w:World}{D M E:Int}{s:Bool}{a:Int}{x:Sp}(hM:LQ M)(ha:rk D s M E=a)(hx:du a a=x):Calls prog 77 #[VQ D s M E] w (PV w x):=by
 delta VQ
 have m:=ie ha;have o:=ie hx;clear ha hx
 go_enter func77,ntmps77
 go_upto_region 1 with fail
 generalize d:(w.alloc _).alloc _=w1 at *;obtain⟨p,c,g⟩:=Bo.en2 d;clear d;have k:=p.cell
 go_wp2_with fail
 refine(mY hM hM m.out m.out o.out).mono ?_;rintro q r ⟨e2,K2,s2,M2,E2,h,j,i,f,rfl,v2,B⟩;clear k;replace c:=c.b B;replace g:=aj g B;clear B;have l:=c.cell;have e:=c.frozen;go_wp2;clear l e;have n:=ae.t9 c e2 K2 s2 M2 E2 h j i f
 exact bq (by simp[results,results77,go_sem,n.box.cell]) rfl ⟨_,_,_,_,_,_,_,_,_,rfl,v2,(n.below g.out (by omega))⟩
def ln (m:Int):Int:=if 4*SC < (m.natAbs:Int)then 0 else si m 40
def dD (a lo hi:Int):Int:=if a < lo then lo else if hi < a then hi else a
def dY:Sp:=du (al (-1)) (al 1)
theorem mX{w:World}:Calls prog 68 #[] w (PV w dY):=by
 go_enter func68,ntmps68
 go_upto_region 1 with fail
 generalize d:w.alloc _=w1 at *;obtain⟨a,c⟩:=Bo.en1 d;clear d
 go_wp2_with fail
 refine(AY (n:= -1) _ (by decide) (by decide) rfl).mono ?_;rintro l v ⟨t,s1,u,s,rfl,m,B⟩;replace a:=a.b B;replace c:=aj c B;clear B
 go_wp2_with fail
 refine(AY (n:=1) _ (by decide) (by decide) rfl).mono ?_;rintro l x ⟨K2,s2,M2,E2,rfl,o,B⟩;replace a:=a.b B;replace c:=aj c B;clear B
 go_wp2_with fail
 refine(mY m.top o.top m.rk o.rk rfl).mono ?_;rintro l y ⟨e3,p,s3,q,E3,g,i,h,f,rfl,r,B⟩;replace a:=a.b B;replace c:=aj c B;clear B;have j:=a.cell;have e:=a.frozen;go_wp2;clear j e;have k:=ae.t9 a e3 p s3 q E3 g i h f
 exact bq (by simp[results,results68,go_sem,k.box.cell]) rfl ⟨_,_,_,_,_,_,_,_,_,rfl,r,(k.below c.out (by omega))⟩
theorem rx{w:World}{A:Option Addr}{n c:Nat}{s:Bool}{x:Int}{B:Option Addr}{m d:Nat}{t:Bool}{y:Int}{r:Int}(h:Wr w s A n c x)(k:Wr w t B m d y)(hn:n<=100000)(hm:m<=100000)(hr:x*y/SC=r):Calls prog 228 #[.agg #[.bool s,.slice A n c],.agg #[.bool t,.slice B m d]] w (W1 w (n+m+12) r):=by
 have G:Hid ((x*y).fdiv SC=r):=ie (by rw[Int.fdiv_eq_ediv_of_nonneg _ (by decide)];exact hr)
 clear hr
 go_enter func228,ntmps228
 go_upto_region 1 with fail
 generalize o:((w.alloc _).alloc _).alloc _=w1 at *;obtain⟨H,I,e,a⟩:=Bo.en3 o;replace h:=h.below a.out;replace k:=k.below a.out;clear o;have z:=H.cell;have C:=I.cell
 go_wp2_with fail
 refine(vh h k (by omega) (by omega) rfl).mono ?_;rintro E R ⟨Q,L,P,M,rfl,p,N,B⟩;clear z C;replace e:=e.b B;replace a:=aj a B;clear B;clear h k
 go_wp2_with fail
 refine(ix).mono ?_;rintro E S ⟨s9,A9,n9,c9,rfl,F,O,B⟩;refine aE ?_ e p a B;clear e p a B;intro e p a
 go_wp2_with fail
 refine(kB p.wr F.wr (by omega) (by omega) (by decide) G.out).mono ?_;rintro E T ⟨l,f,i,g,rfl,j,J,B⟩;replace e:=e.b B;replace a:=aj a B;clear B;clear p F;have D:=e.cell;have q:=e.frozen;go_wp2;clear D q;have u:=ae.t2 e l f i g;replace j:=j.s u;exact bq (v:= .agg #[.bool l,.slice f i g]) (by simp[results,results228,go_sem,u.box.cell]) rfl ⟨l,f,i,g,rfl,j,by omega,(u.below a.out (by omega))⟩
theorem bL{x y c:Int}(h:ah x y=c):decide (c < 0)=decide (x < y)/\decide (0 < c)=decide (y < x):=by
 rw[<-h]
 rcases ap x y with⟨a,b⟩ | ⟨a,b⟩ | ⟨a,b⟩ <;> rw[b]
 ·exact⟨by rw[dt a];rfl,by rw[df (show ¬y < x by omega)];rfl⟩
 ·exact⟨by rw[df (show ¬x < y by omega)];rfl,by rw[df (show ¬y < x by omega)];rfl⟩
 ·exact⟨by rw[df (show ¬x < y by omega)];rfl,by rw[dt (show y < x by omega)];rfl⟩
theorem xQ{w:World}{A:Option Addr}{n c:Nat}{s:Bool}{x:Int}{B:Option Addr}{m d:Nat}{t:Bool}{y:Int}{C:Option Addr}{l f:Nat}{u:Bool}{z:Int}{r:Int}(h:Wn w s A n c x)(k:Wn w t B m d y)(g:Wn w u C l f z)(hn:n<=1000000)(hm:m<=1000000)(hl:l<=1000000)(hr:dD x y z=r):Calls prog 190 #[.agg #[.bool s,.slice A n c],.agg #[.bool t,.slice B m d],.agg #[.bool u,.slice C l f]] w (W1 w (n+m+l) r):=by
 obtain⟨σ,H⟩:∃σ,ah x y=σ:=⟨_,rfl⟩;obtain⟨τ,I⟩:∃σ,ah x z=σ:=⟨_,rfl⟩;have e1:=(bL H).1;have e2:=(bL I).2;have J:=ie H;have L:=ie I;clear H I
 unfold dD at hr
 go_enter func190,ntmps190
 go_upto_region 1 with fail
 generalize G:(((w.alloc _).alloc _).alloc _).alloc _=w1 at *;obtain⟨p,F,q,b,e⟩:=Bo.en4 G;replace h:=h.below e.out;replace k:=k.below e.out;replace g:=g.below e.out;clear G;have j:=p.cell;have D:=F.cell
 go_wp2_with fail
 refine(oU h.wr k.wr (by omega) (by omega) J.out).mono ?_;rintro M N ⟨rfl,B⟩;clear j D;refine lN ?_ p F q b h k g e B;clear p F q b h k g e B;intro p F q b h k g e
 by_cases c1:x < y
 ·rw[dt c1]at e1;rw[if_pos c1]at hr
  obtain rfl:y=r:=hr
  clear h g e2;have o:=b.cell;have a:=b.frozen;have D:=F.cell;go_wp2;clear o a D;have i:=ae.t2 b t B m d;replace k:=k.s i;exact bq (v:= .agg #[.bool t,.slice B m d]) (by simp[results,results190,go_sem,i.box.cell]) rfl ⟨t,B,m,d,rfl,k,by omega,(i.below e.out (by omega))⟩
 ·rw[df c1]at e1;rw[if_neg c1]at hr;have j:=p.cell;have E:=q.cell
  go_wp2_with fail
  refine(oU h.wr g.wr (by omega) (by omega) L.out).mono ?_;rintro M O ⟨rfl,B⟩;clear j E;refine jD ?_ p q b h g e B;clear p q b h g e B;intro p q b h g e
  by_cases c2:z < x
  ·rw[dt c2]at e2;rw[if_pos c2]at hr
   obtain rfl:z=r:=hr
   clear h k e1;have o:=b.cell;have a:=b.frozen;have E:=q.cell;go_wp2;clear o a E;have i:=ae.t2 b u C l f;replace g:=g.s i;exact bq (v:= .agg #[.bool u,.slice C l f]) (by simp[results,results190,go_sem,i.box.cell]) rfl ⟨u,C,l,f,rfl,g,by omega,(i.below e.out (by omega))⟩
  ·rw[df c2]at e2;rw[if_neg c2]at hr
   obtain rfl:x=r:=hr
   clear g k e1;have o:=b.cell;have a:=b.frozen;have j:=p.cell;go_wp2;clear o a j;have i:=ae.t2 b s A n c;replace h:=h.s i;exact bq (v:= .agg #[.bool s,.slice A n c]) (by simp[results,results190,go_sem,i.box.cell]) rfl ⟨s,A,n,c,rfl,h,by omega,(i.below e.out (by omega))⟩
theorem sj (x:Int)(j:Nat):(ti x j*x/SC*x/SC).fdiv (2*((j:Int)+1)*(2*((j:Int)+1)+1))= -ti x (j+1):=by
 rw[Int.fdiv_eq_ediv_of_nonneg _ (Int.mul_nonneg (by omega) (by omega))]
 show _= - -_
 rw[Int.neg_neg]
theorem IX{a b j:Nat}(h:a<=b+44)(k:b<=7+100*j):a<=7+100*(j+1):=by omega
theorem IY{a b c j:Nat}(h:a<=b+c+1)(k:b<=10+5000*j)(l:c<=7+100*(j+1))(hj:j<=40):a<=10+5000*(j+1):=by omega
def Gj (w:World)(x:Int)(g3 g5 g6:Nat)(s3:Bool)(A3:Option Addr)(n3 c3:Nat)(j:Nat)(wr:World):Prop:=∃(s5:Bool) (A5:Option Addr) (n5 c5:Nat) (s6:Bool) (A6:Option Addr) (n6 c6:Nat),Bo wr (w.heap.size+1) #[.bool false,.slice none 0 0] 43/\Bo wr g3 #[.bool s3,.slice A3 n3 c3] 43/\Bo wr g5 #[.bool s5,.slice A5 n5 c5] 43/\Bo wr g6 #[.bool s6,.slice A6 n6 c6] 43/\Wn wr s3 A3 n3 c3 x/\Wn wr s5 A5 n5 c5 (ti x j)/\Wn wr s6 A6 n6 c6 (si x j)/\n5<=7+100*j/\n6<=10+5000*j/\j<=40/\Below w.heap.size w wr
theorem xW{w:World}{A:Option Addr}{n c a:Nat}{s:Bool}{x:Int}(h:Rd w A n c a)(hx:sg s a=x)(hn:n<=100000)(hf:4*SC < (x.natAbs:Int)):Calls prog 188 #[.agg #[.bool s,.slice A n c]] w (W1 w 300000 0):=by
 obtain⟨σ,H⟩:∃σ,ah (sg false x.natAbs) (SC*4)=σ:=⟨_,rfl⟩;have e0:=(bL H).2
 rw[show sg false x.natAbs=(x.natAbs:Int)from i8 _]at e0
 have U:=ie H;clear H
 rw[dt (show SC*4 < (x.natAbs:Int) by omega)]at e0
 have l:=ie e0;clear e0 hf
 go_enter func188,ntmps188
 go_upto_region 1 with fail
 generalize m:(w.alloc _).alloc _=w1 at *;obtain⟨W,d,e⟩:=Bo.en2 m;replace h:=h.below e.out;clear m;have R:=W.cell
 go_wp2_with fail
 refine(bO s h).mono ?_;rintro X w2 ⟨s3,A3,n3,c3,rfl,j,k3,B⟩;clear R;refine aE ?_ d h e B;clear d h e B;intro d h e;clear h;replace j:=hx▸j;clear hx;clear W
 go_upto_region 2 with fail
 have N:=d.lt;generalize f:w2.alloc _=w3 at *;obtain⟨X3,k⟩:=Bo.nw f;clear f;refine aE ?_ d j e k;clear d j e k;intro d j e;have S:=X3.cell
 go_wp2_with fail
 refine(bO false j.1.rd).mono ?_;rintro X w4 ⟨s4,A4,n4,c4,rfl,q,k4,B⟩;clear S;replace d:=d.b B;replace e:=aj e B;clear B
 go_upto_region 3 with fail
 have O:=d.lt;generalize f:w4.alloc _=w5 at *;obtain⟨D,k⟩:=Bo.nw f;clear f;refine aE ?_ d q e k;clear d q e k;intro d q e;have Z:=d.lt;have Y:=D.lt;refine aV [0,1,2,3,4] [19,20,21,22,23] [[],[],[1],[0,2],[3]] 5 0 [Jo.Fact.eq (.agg #[.bool s4,.slice A4 n4 c4]),Jo.Fact.wn (SC) (8),Jo.Fact.wn (SC*4) (10),Jo.qi σ,Jo.qb true] ?_ ?_
 ·refine jm ?_ ?_
  ·rintro u g K i;have bA:=(D.b g).cell;go_simp;exact i.out _ _ rfl (br _ _)
  refine jm ?_ ?_
  ·rintro u g K i;go_simp;exact Jo.w1 (ix) i.out
  refine jm ?_ ?_
  ·rintro u g _ ⟨P,y,L,E,rfl,o,I⟩ K i;go_simp;exact Jo.w1 (dr o.wr (by omega) (by decide) (by decide) rfl) i.out
  refine jm ?_ ?_
  ·rintro u g _ rfl _ ⟨Q,C,M,F,rfl,p,J⟩ K i;go_simp;refine(oU (r:=σ) (q.b g).wr p.wr (by omega) (by omega) U.out).mono ?_;rintro X wk ⟨rfl,B⟩;exact i.out _ _ rfl B
  refine jm ?_ ?_
  ·rintro u g _ rfl K i;have G:=l.out;go_simp
   exact i.out _ _ (by first | rfl | (show Value.bool _=Value.bool _;rw[G]) | simp_all) (br _ _)
  exact jo
 rintro w6 g _ rfl _ ⟨P,y,L,E,rfl,o,I⟩ _ ⟨Q,C,M,F,rfl,p,J⟩ _ rfl _ rfl -;simp only[Jo.z];replace d:=d.b g;replace e:=aj e g;refine jd ?_;clear q U l;clear D;clear j;have T:=d.cell;have t:=d.frozen;go_wp2;clear T t;have V:=ae.t2 d false none 0 0
 exact bq (v:= .agg #[.bool false,.slice none 0 0]) (by simp[results,results188,go_sem,V.box.cell]) rfl ⟨_,_,_,_,rfl,⟨Nm.zero,rfl⟩,Nat.zero_le _,(V.below e.out (by omega))⟩
theorem tm{w:World}{A:Option Addr}{n c a:Nat}{s:Bool}{x:Int}(h:Rd w A n c a)(hx:sg s a=x)(hn:n<=100000)(hf:¬4*SC < (x.natAbs:Int)):Calls prog 188 #[.agg #[.bool s,.slice A n c]] w (W1 w 300000 (si x 40)):=by
 have J:x.natAbs < 4294967296^7:=by
  have e:(4294967296:Nat)^7=26959946667150639794667015087019630673637144422540572481103610249216:=by decide
  rw[e]
  unfold SC at hf
  omega
 have gS:=ie J;clear J;obtain⟨σ,hσ⟩:∃σ,ah (sg false x.natAbs) (SC*4)=σ:=⟨_,rfl⟩;have e0:=(bL hσ).2
 rw[show sg false x.natAbs=(x.natAbs:Int)from i8 _]at e0
 have HS:=ie hσ;clear hσ
 rw[df (show ¬SC*4 < (x.natAbs:Int) by omega)]at e0
 have gP:=ie e0;clear e0 hf
 go_enter func188,ntmps188
 go_upto_region 1 with fail
 generalize hE:(w.alloc _).alloc _=w1 at *;obtain⟨X1,d,k⟩:=Bo.en2 hE;replace h:=h.below k.out;clear hE;have HH:=X1.cell
 go_wp2_with fail
 refine(bO s h).mono ?_;rintro ee w2 ⟨s3,A3,n3,c3,rfl,g,k3,B⟩;clear HH;refine aE ?_ d h k B;clear d h k B;intro d h k;clear h;replace g:=hx▸g;clear hx;clear X1
 go_upto_region 2 with fail
 have X:=d.lt;generalize m:w2.alloc _=w3 at *;obtain⟨f,D⟩:=Bo.nw m;clear m;refine aE ?_ d g k D;clear d g k D;intro d g k;have C:=f.cell
 go_wp2_with fail
 refine(bO false g.1.rd).mono ?_;rintro ee w4 ⟨s4,A4,n4,c4,rfl,p4,k4,B⟩;clear C;refine dk ?_ d f g k B;clear d f g k B;intro d f g k
 go_upto_region 3 with fail
 have Z:=d.lt;have Y:=f.lt;generalize m:w4.alloc _=w5 at *;obtain⟨X4,D⟩:=Bo.nw m;clear m;refine dG ?_ d f g p4 k D;clear d f g p4 k D;intro d f g p4 k;have M:=d.lt;have L:=f.lt;have hH:=X4.lt;refine aV [0,1,2,3,4] [19,20,21,22,23] [[],[],[1],[0,2],[3]] 5 0 [Jo.Fact.eq (.agg #[.bool s4,.slice A4 n4 c4]),Jo.Fact.wn (SC) (8),Jo.Fact.wn (SC*4) (10),Jo.qi σ,Jo.qb false] ?_ ?_
 ·refine jm ?_ ?_
  ·rintro G p K q;have HX:=(X4.b p).cell;go_simp;exact q.out _ _ rfl (br _ _)
  refine jm ?_ ?_
  ·rintro G p K q;go_simp;exact Jo.w1 (ix) q.out
  refine jm ?_ ?_
  ·rintro G p _ ⟨gB,N,V,Q,rfl,E,S⟩ K q;go_simp;exact Jo.w1 (dr E.wr (by omega) (by decide) (by decide) rfl) q.out
  refine jm ?_ ?_
  ·rintro G p _ rfl _ ⟨gO,O,W,R,rfl,F,U⟩ K q;go_simp;refine(oU (r:=σ) (p4.b p).wr F.wr (by omega) (by omega) HS.out).mono ?_;rintro ee wk ⟨rfl,B⟩;exact q.out _ _ rfl B
  refine jm ?_ ?_
  ·rintro G p _ rfl K q;have hY:=gP.out;go_simp
   exact q.out _ _ (by first | rfl | (show Value.bool _=Value.bool _;rw[hY]) | simp_all) (br _ _)
  exact jo
 rintro w6 p _ rfl _ ⟨gB,N,V,Q,rfl,E,S⟩ _ ⟨gO,O,W,R,rfl,F,U⟩ _ rfl _ rfl -;simp only[Jo.z];replace d:=d.b p;replace f:=f.b p;replace g:=g.b p;replace k:=aj k p;refine jd ?_;clear p4 HS gP;clear X4;have HR:=g.fits gS.out;clear gS;have C:=f.cell
 go_upto_region 6 with fail
 clear C;have bB:=d.lt;have bA:=f.lt;generalize m:w6.alloc _=w7 at *;obtain⟨l,D⟩:=Bo.nw m;clear m;refine dk ?_ d f g k D;clear d f g k D;intro d f g k;have C:=f.cell
 go_upto_region 7 with fail
 clear C;have bH:=d.lt;have bC:=f.lt;have bD:=l.lt;generalize m:w7.alloc _=w8 at *;obtain⟨o,D⟩:=Bo.nw m;clear m;refine dG ?_ d f l g k D;clear d f l g k D;intro d f l g k
 have G1:w.heap.size+1 < w2.heap.size/\w2.heap.size < w6.heap.size/\w6.heap.size < w7.heap.size:=⟨by omega,by omega,by omega⟩
 clear X Z Y M L hH bB bA bH bC bD;generalize w2.heap.size=g3 at *;generalize w6.heap.size=g5 at *;generalize w7.heap.size=g6 at *
 have hD:Gj w x g3 g5 g6 s3 A3 n3 c3 0 w8:=⟨_,_,_,_,_,_,_,_,d,f,l,o,g,g,g,by omega,by omega,by decide,k.out⟩
 have hA:=ie hD;clear hD d f l o g k;go_wp2
 go_loopw [7] (fun i wr=>∃j:Nat,i= .int .i64 ((j:Int)+1)/\Gj w x g3 g5 g6 s3 A3 n3 c3 j wr) (fun i _=>41-(intOf i).toNat)
 case atStart=>exact ⟨0,rfl,hA.out⟩
 case round=>
  obtain⟨j,rfl,s5,A5,n5,c5,s6,A6,n6,c6,d,f,l,o,g,p5,t,k5,k6,hj,hB⟩:=hrel;have k:=ie hB;clear hB hA
  by_cases hlt:j < 40
  ·have hI:decide ((j:Int)+1<=40)=true:=dt (by omega)
   have hC:=iw (2*((j:Int)+1));have hR:=iw (2*((j:Int)+1)+1);have hU:=jw (2*((j:Int)+1)+1)
   have hF:0<=2*((j:Int)+1)*(2*((j:Int)+1)+1)/\2*((j:Int)+1)*(2*((j:Int)+1)+1)<=80*81/\2*((j:Int)+1)*(2*((j:Int)+1)+1)≠0:=by
    have a:0 < 2*((j:Int)+1)*(2*((j:Int)+1)+1):=Int.mul_pos (by omega) (by omega)
    exact⟨Int.le_of_lt a,Int.mul_le_mul (by omega) (by omega) (by omega) (by omega),by omega⟩
   have hV:=iw (2*((j:Int)+1)*(2*((j:Int)+1)+1));have hQ:=ie (sj x j);have P:=ie hF;clear hF
   have hP:Hid (si x j+ti x (j+1)=si x (j+1)):=ie rfl
   generalize hv:ti x (j+1)=T at *;have HV:=ie hv;clear hv;have H:=l.cell;have C:=f.cell
   go_wp2_with fail
   refine(rx p5.wr g.wr (by omega) (by omega) rfl).mono ?_;rintro ee w3 ⟨s8,A8,n8,c8,rfl,p8,k8,B⟩;clear H C;refine jP ?_ d f l o g t k B;clear d f l o g t k B;intro d f l o g t k;clear p5;clear hI
   go_upto_region 11 with fail
   have HC:=d.lt;have DS:=f.lt;have ET:=l.lt;have HA:=o.lt;generalize m:w3.alloc _=w4 at *;obtain⟨X8,D⟩:=Bo.nw m;clear m;refine lN ?_ d f l o g t p8 k D;clear d f l o g t p8 k D;intro d f l o g t p8 k
   have HI:=X8.cell;have C:=f.cell
   go_wp2_with fail
   refine(rx p8.wr g.wr (by omega) (by omega) rfl).mono ?_;rintro ee w5 ⟨s9,A9,n9,c9,rfl,p9,k9,B⟩;clear HI C;refine jP ?_ d f l o g t k B;clear d f l o g t k B;intro d f l o g t k;clear p8;clear X8
   go_upto_region 12 with fail
   have HG:=d.lt;have HD:=f.lt;have HE:=l.lt;have HF:=o.lt;generalize m:w5.alloc _=w6 at *;obtain⟨X9,D⟩:=Bo.nw m;clear m;refine lN ?_ d f l o g t p9 k D;clear d f l o g t p9 k D;intro d f l o g t p9 k
   have M:=d.lt;have L:=f.lt;have HK:=l.lt;have HL:=o.lt;have HM:=X9.lt;refine aV [0,1,2,3,4,5,6,7,8,9] [37,38,39,40,41,42,43,44,45,46,0] [[],[],[1],[],[3],[4],[2,5],[6],[0,7],[8],[]] 11 1 [Jo.Fact.eq (.agg #[.bool s9,.slice A9 n9 c9]),Jo.Fact.eq (.int .i64 ((j:Int)+1)),Jo.Fact.eq (.int .i64 (2*((j:Int)+1))),Jo.Fact.eq (.int .i64 ((j:Int)+1)),Jo.Fact.eq (.int .i64 (2*((j:Int)+1))),Jo.Fact.eq (.int .i64 (2*((j:Int)+1)+1)),Jo.Fact.eq (.int .i64 (2*((j:Int)+1)*(2*((j:Int)+1)+1))),Jo.Fact.wn (2*((j:Int)+1)*(2*((j:Int)+1)+1)) (2),Jo.Fact.wn (-T) (n5+44),Jo.Fact.wn (T) (n5+44),Jo.Fact.any] ?_ ?_
   ·iterate 2 (refine jm ?_ ?_;rotate_left)
    refine jm ?_ ?_
    ·rintro G p _ rfl K q;have hw:=hC.out;go_simp
     exact q.out _ _ (by first | rfl | (show Value.int _ _=Value.int _ _;simp_all)) (br _ _)
    refine jm ?_ ?_;rotate_left
    refine jm ?_ ?_
    ·rintro G p _ rfl K q;have hw:=hC.out;go_simp
     exact q.out _ _ (by first | rfl | (show Value.int _ _=Value.int _ _;simp_all)) (br _ _)
    refine jm ?_ ?_
    ·rintro G p _ rfl K q;have hw:=hR.out;have HT:=hU.out;go_simp
     exact q.out _ _ (by first | rfl | (show Value.int _ _=Value.int _ _;simp_all)) (br _ _)
    refine jm ?_ ?_
    ·rintro G p _ rfl _ rfl K q;have hw:=hV.out;go_simp
     exact q.out _ _ (by first | rfl | (show Value.int _ _=Value.int _ _;simp_all)) (br _ _)
    refine jm ?_ ?_
    ·rintro G p _ rfl K q;go_simp;exact Jo.w1 (fk _ _ (Int.le_trans (by decide) P.out.1) (Int.le_trans P.out.2.1 (by decide))) q.out
    refine jm ?_ ?_
    ·rintro G p _ rfl _ ⟨gB,N,V,Q,rfl,E,S⟩ K q;go_simp;exact Jo.w1 (kB (p9.b p).wr E.wr (by omega) (by omega) P.out.2.2 hQ.out) q.out
    refine jm ?_ ?_
    ·rintro G p _ ⟨gO,O,W,R,rfl,F,U⟩ K q;go_simp;exact Jo.w1 (vg F.wr (Int.neg_neg T)) q.out
    exact jo
    all_goals (rintro G p;(repeat rintro _ rfl);intro K q;have HY:=(X9.b p).cell;go_simp;exact q.out _ _ rfl (br _ _))
   rintro w7 p _ rfl _ rfl _ rfl _ rfl _ rfl _ rfl _ rfl _ ⟨gB,N,V,Q,rfl,E,S⟩ _ ⟨gO,O,W,R,rfl,F,U⟩ _ ⟨HU,HN,zX,HP,rfl,y,qT⟩ -;simp only[Jo.z];replace d:=d.b p;replace f:=f.b p;replace l:=l.b p;replace o:=o.b p;replace g:=g.b p;replace t:=t.b p;replace k:=aj k p;clear p9 E F
   have H:=l.cell;have hL:=l.frozen
   refine jn 10 fun K q=>?_
   go_simp;refine q.out _ _ ?_;clear q K H hL;generalize hS:(w7.setCell _ _).setCell _ _=w8 at *;have u:=ae.of2 l hS;replace d:=d.s u;replace f:=f.s u;replace o:=o.s u;replace g:=g.s u;replace t:=t.s u;replace y:=y.s u;replace k:=aP k u (by omega)
   replace l:=u.box;clear u hS;refine jd ?_
   go_upto_region 13 with fail
   have I:=o.cell;have H:=l.cell
   go_wp2_with fail
   refine(fS t.wr y.wr (by omega) (by omega) hP.out).mono ?_;rintro ee w9 ⟨HW,HO,BX,HQ,rfl,bN,xX,B⟩;clear I H;refine lN ?_ d f l o g t y k B;clear d f l o g t y k B;intro d f l o g t y k;clear t;have I:=o.cell
   have hM:=o.frozen
   go_upto_region 9 with fail
   clear I hM;generalize hS:(w9.setCell _ _).setCell _ _=wA at *;have u:=ae.of2 o hS;replace d:=d.s u;replace f:=f.s u;replace l:=l.s u;replace g:=g.s u;replace y:=y.s u;replace bN:=bN.s u;replace k:=aP k u (by omega);replace o:=u.box
   clear u hS;have hW:=iw ((j:Int)+1+1);have hX:=jw ((j:Int)+1+1);have lA:=hW.out;have lB:=hX.out
   have hG:zX<=7+100*(j+1):=IX qT k5
   have hZ:BX<=10+5000*(j+1):=IY xX k6 hG hj
   have hT:=HV.out;subst hT;go_wp2;clear lA lB
   go_roundw
   case rel=>exact ⟨j+1,by go_num,_,_,_,_,_,_,_,_,d,f,l,o,g,y,bN,hG,hZ,by omega,k.out⟩
   case measure=>simp [intOf];omega
  ·obtain rfl:j=40:=by omega
   have hI:decide (((40:Nat):Int)+1<=40)=false:=by decide
   clear g p5;have HJ:=d.cell;have hN:=d.frozen;have I:=o.cell;go_wp2;clear HJ hN I;have u:=ae.t2 d s6 A6 n6 c6;replace t:=t.s u;exact bq (v:= .agg #[.bool s6,.slice A6 n6 c6]) (by simp[results,results188,go_sem,u.box.cell]) rfl ⟨_,_,_,_,rfl,t,by omega,(u.below k.out (by omega))⟩
theorem B8{w:World}{A:Option Addr}{n c:Nat}{s:Bool}{x r:Int}(h:Wr w s A n c x)(hn:n<=100000)(hr:ln x=r):Calls prog 188 #[.agg #[.bool s,.slice A n c]] w (W1 w 300000 r):=by
 obtain⟨a,h,hx⟩:=h
 unfold ln at hr
 by_cases hf:4*SC < (x.natAbs:Int)
 ·rw[if_pos hf]at hr;subst hr;exact xW h hx hn hf
 ·rw[if_neg hf]at hr;subst hr;exact tm h hx hn hf
