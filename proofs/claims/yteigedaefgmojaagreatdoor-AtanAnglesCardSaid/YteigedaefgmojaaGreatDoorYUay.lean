/-
 Contracts that the proof rests on.
-/
import Derived.Test.YteigedaefgmojaaGreatDoorYUax
namespace Go.Proofs.YteigedaefgmojaaGreatDoor
open Go.Proofs.Tryz
open Go Go.RowKit
set_option linter.unusedVariables false
theorem AA:(1/2^189:Rat)<=1/1000/\(1/2^200:Rat)<=1/1000/\(3:Rat) /SR<=1/1000/\(1/2^200:Rat)*3<=1/SR/\(1/2^189:Rat)<=8*(1/SR)/\(0:Rat)<=1/2^200/\(1/2^240:Rat)<=1/1000:=by decide +kernel
theorem kv{v:Int}(h0:0<=v)(h1:v<=SC):0<=(v:Rat) /SR/\(v:Rat) /SR<=1:=by
 have a:=bZ;have e:=ed v;exact⟨Rat.le_of_mul_le_mul_right (c:=SR) (by rw[e,Rat.zero_mul];exact Rat.intCast_le_intCast.2 h0) a,Rat.le_of_mul_le_mul_right (c:=SR) (by rw[e,Rat.one_mul];exact Rat.intCast_le_intCast.2 h1) a⟩
theorem kB{v:Int}(h0:0<=v)(h1:v<=SC): -(3/SR)<=ao (bk v)-(v:Rat) /SR*bl (bk v)/\ao (bk v)-(v:Rat) /SR*bl (bk v)<=3/SR:=by
 obtain⟨a,b⟩:=xe h0 h1;have d:=bZ
 have e:(3:Rat) /SR*SR=3:=Rat.div_mul_cancel (Rat.ne_of_gt d)
 generalize ao (bk v)-(v:Rat) /SR*bl (bk v)=X at *;generalize (3:Rat) /SR=t at *
 constructor
 ·exact Rat.le_of_mul_le_mul_right (c:=SR) (by grind) d
 ·exact Rat.le_of_mul_le_mul_right (c:=SR) (by grind) d
theorem oP{v:Int}(h0:0<=v)(h1:v<=SC):2/3<=bl (bk v):=by
 obtain⟨k,l⟩:=dJ h0 h1;obtain⟨u,w⟩:=iI;obtain⟨z,j⟩:=kv h0 h1;obtain⟨s1,s2⟩:=kB h0 h1;obtain⟨e1,e2,e3,f,i,p,q⟩:=AA;have n:=sf (m:=bk v) (by grind) (by grind);obtain⟨c1,c2⟩:=vk (x:=bk v) (by grind) (by grind)
 have e:=eL c1
 obtain⟨r,t⟩:=qy (x:=bk v) (by grind) (by grind);generalize ao (bk v)=s at *;generalize bl (bk v)=c at *;generalize (v:Rat) /SR=y at *;generalize (1/2^189:Rat)=a at *;generalize (1/2^200:Rat)=b at *;generalize (3:Rat) /SR=g at *;clear f i
 by_cases h:2/3<=c
 ·exact h
 ·exfalso
  have cm: -(67/100)<=c/\c<=67/100:=⟨by grind,by grind⟩
  have A:=aA (b:=1) (x:=y) (by grind) j cm.1 cm.2
  have d: -(68/100)<=s/\s<=68/100:=⟨by grind,by grind⟩
  have ss:=aA d.1 d.2 d.1 d.2;have o:=aA cm.1 cm.2 cm.1 cm.2
  grind
theorem Gj{y z s c S C k t e g n:Rat}(y0:0<=y)(y1:y<=1)(z0:0<=z)(z1:z<=1)(yz:y<=z)(v1: -(3*g)<=S-y*C)(v2:S-y*C<=3*g)(u1: -(3*g)<=s-z*c)(u2:s-z*c<=3*g)(cu:2/3<=c)
  (k1: -(101/100)<=k) (k2:k<=101/100) (t1: -(101/100)<=t) (t2:t<=101/100) (c2:c<=101/100) (a1: -e<=S-(s*k+c*t)) (a2:S-(s*k+c*t)<=e) (b1: -e<=C-(c*k-s*t)) (b2:C-(c*k-s*t)<=e)
  (he:e*3<=g) (hn:n<=8*g) (e0:0<=e) (g0:0<=g) (kn: -n<=k):t<=30*g:=by
 by_cases u:t<=0
 ·grind
 have a:0<=t:=by grind
 have p:=aA (b:=1) (x:=y) (by grind) y1 b1 b2;have q:=aA (b:=101/100) (x:=k) k1 k2 u1 u2;have d:=aA (b:=1) (x:=y) (by grind) y1 u1 u2;have r:=aA (b:=101/100) (x:=t) t1 t2 d.1 d.2
 have l:S-y*C=(S-(s*k+c*t))-y*(C-(c*k-s*t))+k*(s-z*c)+t*(y*(s-z*c))+c*((z-y)*k)+c*(t*(1+y*z)):=by grind
 have i:=Rat.mul_nonneg y0 z0;have v:=Rat.mul_nonneg a i
 have j:=Rat.mul_nonneg (show 0<=c-2/3 by grind) (show 0<=t*(1+y*z) by grind)
 have w: -(8*g)<=(z-y)*k:=by
  by_cases h:0<=k
  ·have:=Rat.mul_nonneg (show 0<=z-y by grind) h
   grind
  ·have:=Rat.mul_nonneg (show 0<=1-(z-y) by grind) (show 0<= -k by grind)
   grind
 have f: -(9*g)<=c*((z-y)*k):=by
  have m:=Rat.mul_nonneg (show 0<=c by grind) (show 0<=(z-y)*k+8*g by grind)
  have o:=Rat.mul_nonneg (show 0<=101/100-c by grind) g0
  grind
 generalize S-(s*k+c*t)=A1 at *;generalize y*(C-(c*k-s*t))=A3 at *;generalize k*(s-z*c)=A4 at *;generalize t*(y*(s-z*c))=A5 at *;generalize c*((z-y)*k)=A6 at *;generalize S-y*C=A7 at *
 grind
theorem fX{v u:Int}(h0:0<=v)(h:v<=u)(h1:u<=SC):bk v*SR<=bk u*SR+150:=by
 by_cases j:bk v<=bk u
 ·have:=Rat.mul_le_mul_of_nonneg_right j (Rat.le_of_lt bZ)
  grind
 obtain⟨d,hd⟩:∃d,bk v=bk u+d:=⟨bk v-bk u,by grind⟩
 obtain⟨N,O⟩:=dJ h0 (by omega:v<=SC);obtain⟨a1,a2⟩:=dJ (by omega:0<=u) h1;obtain⟨R,S⟩:=iI
 have A:0<=d:=by grind
 have P:d<=3/2:=by grind
 have C:=sf (m:=d) (by grind) (by grind);obtain⟨s,t⟩:=kv h0 (by omega:v<=SC);obtain⟨q,r⟩:=kv (by omega:0<=u) h1
 have p:(v:Rat) /SR<=(u:Rat) /SR:=Rat.le_of_mul_le_mul_right (c:=SR) (by rw[ed,ed];exact Rat.intCast_le_intCast.2 h) bZ
 obtain⟨b,e⟩:=kB h0 (by omega:v<=SC);obtain⟨f,g⟩:=kB (by omega:0<=u) h1;have y:=oP (by omega:0<=u) h1;have z:=oP h0 (by omega:v<=SC);obtain⟨J,p2⟩:=pS (m:=bk u) (h:=d) (by grind) (by grind) (by grind) (by grind);obtain⟨L,M⟩:=oX (m:=bk u) (h:=d) (by grind) (by grind) (by grind) (by grind);have w:=qy (x:=bk u) (by grind) (by grind)
 have i:=qy (x:=d) (by grind) (by grind);rw[hd]at b e z
 have k:=eL J
 have l:=eK p2
 have n:=eL L
 have o:=eK M
 obtain⟨e1,e2,e3,D,F,E,Q⟩:=AA;have a:=bZ
 -- the sine of what they are Gj is small
 have H:ao d<=30*(1/SR):=by
  have I:(3:Rat) /SR=3*(1/SR):=by
   have o1:(1:Rat) /SR*SR=1:=Rat.div_mul_cancel (Rat.ne_of_gt a)
   have:(3:Rat) /SR*SR=3:=Rat.div_mul_cancel (Rat.ne_of_gt a)
   refine Rat.le_antisymm (Rat.le_of_mul_le_mul_right (c:=SR) ?_ a) (Rat.le_of_mul_le_mul_right (c:=SR) ?_ a) <;> grind
  have G:(0:Rat)<=1/SR:=by
   have o1:(1:Rat) /SR*SR=1:=Rat.div_mul_cancel (Rat.ne_of_gt a)
   refine Rat.le_of_mul_le_mul_right (c:=SR) ?_ a;rw[o1]
   grind
  rw[I]at f g b e e3;exact Gj s t q r p b e f g y i.1.1 i.1.2 i.2.1 i.2.2 w.1.2 k l n o D F E G C
 have nC:=wO A (by grind)
 have o1:(1:Rat) /SR*SR=1:=Rat.div_mul_cancel (Rat.ne_of_gt a)
 have B:d<=150*(1/SR):=by grind
 have m:=Rat.mul_le_mul_of_nonneg_right B (Rat.le_of_lt a);rw[hd]
 grind
theorem J3{a b c d:Rat}(h:a<=b)(k:c<=d):a+c<=b+d:=by grind
def BR:Rat:=((2^KK:Int):Rat)
theorem bX:(0:Rat) < BR:=Rat.intCast_lt_intCast.2 (aE KK)
def j5 (v:Rat)(x:Sp):Prop:=match x with
 | none=>False
 | some (a,_)=>a= -19342822337206103650074625\/((vr a:Int):Rat)<=v*BR
def jO (v:Rat)(x:Sp):Prop:=match x with
 | none=>False
 | some (_,b)=>b=19342822337206103650074625\/v*BR<=((vr b:Int):Rat)
def fU (x:Sp):Prop:=match x with
 | none=>False
 | some (a,b)=>a<=b/\ -19342822337206103650074625 < a/\b < 19342822337206103650074625
theorem fU.ok{x:Sp}(h:fU x):aZ x:=by
 rcases x with _ | ⟨a,b⟩
 ·exact trivial
 ·obtain⟨h1,h2,c⟩:=h;exact⟨by omega,h1,by omega,by omega,by omega⟩
theorem j5.mono{v w:Rat}{x:Sp}(h:j5 v x)(e:v<=w):j5 w x:=by
 rcases x with _ | ⟨a,b⟩
 ·exact h
 ·rcases h with h | h
  ·exact .inl h
  ·exact .inr (Rat.le_trans h (Rat.mul_le_mul_of_nonneg_right e (Rat.le_of_lt bX)))
theorem jO.mono{v w:Rat}{x:Sp}(h:jO v x)(e:w<=v):jO w x:=by
 rcases x with _ | ⟨a,b⟩
 ·exact h
 ·rcases h with h | h
  ·exact .inl h
  ·exact .inr (Rat.le_trans (Rat.mul_le_mul_of_nonneg_right e (Rat.le_of_lt bX)) h)
theorem vx{a d:Int}{v:Rat}(ha: -19342822337206103650074625<=d)(hd:a<=19342822337206103650074625)(h:a= -19342822337206103650074625\/((vr a:Int):Rat)<=v*BR)(k:d=19342822337206103650074625\/v*BR<=((vr d:Int):Rat)):a<=d:=by
 rcases h with h | h
 ·omega
 ·rcases k with k | k
  ·omega
  ·rcases Int.lt_or_le d a with c | c
   ·exfalso
    have e:=jl c;have f:=Rat.intCast_le_intCast.1 (Rat.le_trans h k)
    omega
   ·exact c
theorem BI{v:Rat}{x y:Sp}(hx:aZ x)(hy:aZ y)(h1:j5 v x)(h2:jO v x)(k1:j5 v y)(k2:jO v y):∃a b,eC x y=some (a,b):=by
 rcases x with _ | ⟨a,b⟩
 ·exact h1.elim
 rcases y with _ | ⟨c,d⟩
 ·exact k1.elim
 obtain⟨A1,A2,A3,A4,A5⟩:=hx;obtain⟨e,f,g,h,i⟩:=hy;have e1:=vx (by omega) (by omega) h1 k2;have e2:=vx (by omega) (by omega) k1 h2;exact⟨_,_,aI (by omega) (by omega) (by omega)⟩
theorem EF{v:Rat}{x y:Sp}(hx:aZ x)(hy:aZ y)(fx:x≠none)(fy:y≠none)(h:j5 v x\/j5 v y):j5 v (bK x y):=by
 rcases x with _ | ⟨a,b⟩
 ·exact absurd rfl fx
 rcases y with _ | ⟨c,d⟩
 ·exact absurd rfl fy
 obtain⟨A1,A2,A3,A4,A5⟩:=hx;obtain⟨f,g,i,j,k⟩:=hy
 show j5 v (eH (min a c) (max b d))
 rw[aI (by omega) (by omega) (by omega)]
 have e:∀t:Int,(t= -19342822337206103650074625\/((vr t:Int):Rat)<=v*BR)->min a c<=t->(min a c= -19342822337206103650074625\/((vr (min a c):Int):Rat)<=v*BR):=fun t ht hm=>by
  rcases ht with ht | ht
  ·left;omega
  ·exact .inr (Rat.le_trans (Rat.intCast_le_intCast.2 (bM hm)) ht)
 rcases h with h | h
 ·exact e a h (by omega)
 ·exact e c h (by omega)
theorem EE{v:Rat}{x y:Sp}(hx:aZ x)(hy:aZ y)(fx:x≠none)(fy:y≠none)(h:jO v x\/jO v y):jO v (bK x y):=by
 rcases x with _ | ⟨a,b⟩
 ·exact absurd rfl fx
 rcases y with _ | ⟨c,d⟩
 ·exact absurd rfl fy
 obtain⟨A1,A2,A3,A4,A5⟩:=hx;obtain⟨f,g,i,j,k⟩:=hy
 show jO v (eH (min a c) (max b d))
 rw[aI (by omega) (by omega) (by omega)]
 have e:∀t:Int,(t=19342822337206103650074625\/v*BR<=((vr t:Int):Rat))->t<=max b d->(max b d=19342822337206103650074625\/v*BR<=((vr (max b d):Int):Rat)):=fun t ht hm=>by
  rcases ht with ht | ht
  ·left;omega
  ·exact .inr (Rat.le_trans ht (Rat.intCast_le_intCast.2 (bM hm)))
 rcases h with h | h
 ·exact e b h (by omega)
 ·exact e d h (by omega)
theorem JN{v:Rat}{x:Sp}(hx:fU x):(j5 v x->jO (-v) (ga x))/\(jO v x->j5 (-v) (ga x))/\fU (ga x):=by
 rcases x with _ | ⟨a,b⟩
 ·exact hx.elim
 have ok:=hx.ok;obtain⟨h1,h2,c⟩:=hx;rw[eW ok]
 refine⟨fun h=>?_,fun h=>?_,⟨by omega,by omega,by omega⟩⟩
 ·rcases h with h | h
  ·omega
  ·right
   rw[aJ,Rat.intCast_neg,Rat.neg_mul];exact Rat.neg_le_neg h
 ·rcases h with h | h
  ·omega
  ·right
   rw[aJ,Rat.intCast_neg,Rat.neg_mul];exact Rat.neg_le_neg h
theorem Ao{V p:Int}(h:Dn V p):p= -19342822337206103650074625\/((vr p:Int):Rat)<=((V:Int):Rat):=by
 obtain⟨h1,h2,a,h4⟩:=h
 by_cases c:p= -19342822337206103650074625
 ·exact .inl c
 ·exact .inr (Rat.intCast_le_intCast.2 (a (by omega)))
theorem DK{V p:Int}(h:Up V p):p=19342822337206103650074625\/((V:Int):Rat)<=((vr p:Int):Rat):=by
 obtain⟨h1,h2,a,h4⟩:=h
 by_cases c:p=19342822337206103650074625
 ·exact .inl c
 ·have:=a (by omega)
  rw[aJ]at this;exact .inr (Rat.intCast_le_intCast.2 (by omega))
theorem Gi{v w:Rat}{x y:Sp}(hx:fU x)(hy:fU y):(j5 v x->j5 w y->j5 (v+w) (fL x y))/\(jO v x->jO w y->jO (v+w) (fL x y))/\aZ (fL x y):=by
 rcases x with _ | ⟨a,b⟩
 ·exact hx.elim
 rcases y with _ | ⟨c,d⟩
 ·exact hy.elim
 obtain⟨h1,h2,n⟩:=hx;obtain⟨f,o,p⟩:=hy;have s1:=(bW (x:=a) (y:=c) true (by omega) (by omega) (by omega) (by omega)).1;have s2:=bW (x:=b) (y:=d) true (by omega) (by omega) (by omega) (by omega);have q:=s1.mono s2.1 (Int.add_le_add (bM h1) (bM f));have r:=gR s2.1 s2.2;have i:=s1.1;have j:=s1.2.1;have l:=s2.2.1;have m:=s2.2.2.1
 have e:fL (some (a,b)) (some (c,d))=some (ay false a c,ay true b d):=aI (by omega) (by omega) (by omega)
 rw[e]
 refine⟨fun h k=>?_,fun h k=>?_,⟨by omega,by omega,by omega,by omega,by omega⟩⟩
 ·rcases h with h | h
  ·omega
  rcases k with k | k
  ·omega
  rcases Ao s1 with g | g
  ·exact .inl g
  ·right
   rw[Rat.intCast_add]at g;rw[Rat.add_mul];exact Rat.le_trans g (J3 h k)
 ·rcases h with h | h
  ·omega
  rcases k with k | k
  ·omega
  rcases DK s2.2 with g | g
  ·exact .inl g
  ·right
   rw[Rat.intCast_add]at g;rw[Rat.add_mul];exact Rat.le_trans (J3 h k) g
theorem Hh{A B C D x y:Rat}(h1:A<=x)(h2:x<=B)(k1:C<=y)(k2:y<=D):(A*C<=x*y\/A*D<=x*y\/B*C<=x*y\/B*D<=x*y)/\(x*y<=A*C\/x*y<=A*D\/x*y<=B*C\/x*y<=B*D):=by
 have c:∀{p q s t:Rat},p<=q->s<=t->0<=(q-p)*(t-s):=fun a b=>Rat.mul_nonneg ((Rat.le_iff_sub_nonneg _ _).1 a) ((Rat.le_iff_sub_nonneg _ _).1 b)
 by_cases cy:0<=y
 ·have e1:=c h1 cy;have e2:=c h2 cy
  constructor
  ·by_cases d:0<=A
   ·left
    have:=c d k1
    grind
   ·right;left
    have:=c (Rat.le_of_lt (Rat.not_le.1 d)) k2
    grind
  ·by_cases e:0<=B
   ·right;right;right
    have:=c e k2
    grind
   ·right;right;left
    have:=c (Rat.le_of_lt (Rat.not_le.1 e)) k1
    grind
 ·have f:=Rat.le_of_lt (Rat.not_le.1 cy)
  have e1:=c h1 f;have e2:=c h2 f
  constructor
  ·by_cases e:0<=B
   ·right;right;left
    have:=c e k1
    grind
   ·right;right;right
    have:=c (Rat.le_of_lt (Rat.not_le.1 e)) k2
    grind
  ·by_cases d:0<=A
   ·right;left
    have:=c d k2
    grind
   ·left
    have:=c (Rat.le_of_lt (Rat.not_le.1 d)) k1
    grind
theorem ww{x y:Int}(x1: -19342822337206103650074625 < x)(x2:x < 19342822337206103650074625)(y1: -19342822337206103650074625 < y)(y2:y < 19342822337206103650074625):
  ((vl (ml (ep x) (ep y)):Int):Rat)*BR=((vr x:Int):Rat)*((vr y:Int):Rat):=by
 have h:=(mP x1 x2 y1 y2).2
 unfold BR
 rw[<-Rat.intCast_mul,<-Rat.intCast_mul,h]
theorem wR{p:Int}{P v:Rat}{V:Int}(h:p= -19342822337206103650074625\/((vr p:Int):Rat)<=((V:Int):Rat))(e:((V:Int):Rat)*BR=P)(k:P<=v*BR*BR):p= -19342822337206103650074625\/((vr p:Int):Rat)<=v*BR:=by
 rcases h with h | h
 ·exact .inl h
 ·right
  refine Rat.le_trans h (Rat.le_of_mul_le_mul_right (c:=BR) ?_ bX);rw[e];exact k
theorem tV{p:Int}{P v:Rat}{V:Int}(h:p=19342822337206103650074625\/((V:Int):Rat)<=((vr p:Int):Rat))(e:((V:Int):Rat)*BR=P)(k:v*BR*BR<=P):p=19342822337206103650074625\/v*BR<=((vr p:Int):Rat):=by
 rcases h with h | h
 ·exact .inl h
 ·right
  refine Rat.le_trans (Rat.le_of_mul_le_mul_right (c:=BR) ?_ bX) h;rw[e];exact k
theorem lR{m p:Int}{v:Rat}(h:p= -19342822337206103650074625\/((vr p:Int):Rat)<=v*BR)(hm:m<=p)(hb: -19342822337206103650074625<=m):m= -19342822337206103650074625\/((vr m:Int):Rat)<=v*BR:=by
 rcases h with h | h
 ·left;omega
 ·exact .inr (Rat.le_trans (Rat.intCast_le_intCast.2 (bM hm)) h)
theorem lP{m p:Int}{v:Rat}(h:p=19342822337206103650074625\/v*BR<=((vr p:Int):Rat))(hm:p<=m)(hb:m<=19342822337206103650074625):m=19342822337206103650074625\/v*BR<=((vr m:Int):Rat):=by
 rcases h with h | h
 ·left;omega
 ·exact .inr (Rat.le_trans h (Rat.intCast_le_intCast.2 (bM hm)))
theorem JK{v w:Rat}{x y:Sp}(hx:fU x)(hy:fU y)(v1:j5 v x)(v2:jO v x)(w1:j5 w y)(w2:jO w y):j5 (v*w) (lF x y)/\jO (v*w) (lF x y)/\aZ (lF x y):=by
 rcases x with _ | ⟨a,b⟩
 ·exact hx.elim
 rcases y with _ | ⟨c,d⟩
 ·exact hy.elim
 obtain⟨h1,h2,J⟩:=hx;obtain⟨L,N,O⟩:=hy;replace v1:=v1.resolve_left (by omega);replace v2:=v2.resolve_left (by omega);replace w1:=w1.resolve_left (by omega);replace w2:=w2.resolve_left (by omega);obtain⟨j,i⟩:=Hh v1 v2 w1 w2
 have e:v*BR*(w*BR)=v*w*BR*BR:=by grind
 rw[e]at j i;have s1:=jA (x:=a) (y:=c) (by omega) (by omega) (by omega) (by omega);have s2:=jA (x:=a) (y:=d) (by omega) (by omega) (by omega) (by omega);have s3:=jA (x:=b) (y:=c) (by omega) (by omega) (by omega) (by omega);have s4:=jA (x:=b) (y:=d) (by omega) (by omega) (by omega) (by omega);have k:=ww (x:=a) (y:=c) (by omega) (by omega) (by omega) (by omega)
 have p2:=ww (x:=a) (y:=d) (by omega) (by omega) (by omega) (by omega);have l:=ww (x:=b) (y:=c) (by omega) (by omega) (by omega) (by omega);have n:=ww (x:=b) (y:=d) (by omega) (by omega) (by omega) (by omega);obtain⟨m,hm,t,u,z,A,_⟩:=Hx (eN false a c) (eN false a d) (eN false b c) (eN false b d);obtain⟨M,s,o,M2,p,q,_⟩:=JJ (eN true a c) (eN true a d) (eN true b c) (eN true b d)
 have P:=gR s1.1 s1.2;have Q:=s1.1.2.1;have R:=s1.2.2.1;have B:=(fc (x:=a) (y:=c) false).1;have C:=(fc (x:=a) (y:=d) false).1;have D:=(fc (x:=b) (y:=c) false).1;have E:=(fc (x:=b) (y:=d) false).1;have F:=(fc (x:=a) (y:=c) true).2;have G:=(fc (x:=a) (y:=d) true).2;have H:=(fc (x:=b) (y:=c) true).2
 have I:=(fc (x:=b) (y:=d) true).2
 have f: -19342822337206103650074625<=m:=by omega
 have h:M<=19342822337206103650074625:=by omega
 have r:lF (some (a,b)) (some (c,d))=some (m,M):=by
  show zm eN a b c d=_
  unfold zm
  rw[hm,s];exact aI (by omega) (by omega) (by omega)
 rw[r];refine⟨?_,?_,⟨f,by omega,h,by omega,by omega⟩⟩
 ·rcases j with g | g | g | g
  ·exact lR (wR (Ao s1.1) k g) t f
  ·exact lR (wR (Ao s2.1) p2 g) u f
  ·exact lR (wR (Ao s3.1) l g) z f
  ·exact lR (wR (Ao s4.1) n g) A f
 ·rcases i with g | g | g | g
  ·exact lP (tV (DK s1.2) k g) o h
  ·exact lP (tV (DK s2.2) p2 g) M2 h
  ·exact lP (tV (DK s3.2) l g) p h
  ·exact lP (tV (DK s4.2) n g) q h
theorem gJ{up:Bool}{l r:Int}(h:Rq up l SC r):fQ up (l*2^KK) SC r:=by
 rw[fj (by decide),show aj (decide (SC < 0)) SC=SC from rfl,show aj (decide (SC < 0)) l=l from rfl]at h
 exact h
theorem gK:(0:Int) < SC:=by decide
theorem rm{up:Bool}{l r p:Int}(h:Rq up l SC r)(p1: -19342822337206103650074625 < p)(p2:p < 19342822337206103650074625)(e:vr p*SC<=l*2^KK):p<=r:=
 fQ.mono (up:=up) (B:=1) (by decide) gK (hO (by decide) p1 p2 (Int.mul_one _)) (gJ h) (by rw[Int.mul_one];exact e)
theorem qU{up:Bool}{l r p:Int}(h:Rq up l SC r)(p1: -19342822337206103650074625 < p)(p2:p < 19342822337206103650074625)(e:l*2^KK<=vr p*SC):r<=p:=
 fQ.mono (up:=up) (D:=1) gK (by decide) (gJ h) (hO (by decide) p1 p2 (Int.mul_one _)) (by rw[Int.mul_one];exact e)
theorem pm:vr (al 1)=2^KK:=by rw[fd (by decide) (by decide),Int.one_mul]
theorem jV:0 < al 1/\al 1 < 19342822337206103650074625:=ku (by decide) (by decide)
theorem wE{up:Bool}{l r:Int}(h:Rq up l SC r)(h1: -SC<=l)(h2:l<=SC): -al 1<=r/\r<=al 1:=by
 obtain⟨o1,o2⟩:=jV;have hp:=aE KK
 constructor
 ·refine rm h (by omega) (by omega) ?_;rw[aJ,pm,Int.neg_mul,Int.mul_comm,<-Int.neg_mul];exact Int.mul_le_mul_of_nonneg_right h1 (by omega)
 ·refine qU h (by omega) (by omega) ?_;rw[pm,Int.mul_comm (2^KK)];exact Int.mul_le_mul_of_nonneg_right h2 (by omega)
theorem lZ{l h r u:Int}(hr:Rq false l SC r)(hu:Rq true h SC u)(le:l<=h):r<=u:=by
 obtain⟨t,ht⟩:=rB true l SC;have a:=fQ.mono gK gK (gJ ht) (gJ hu) (Int.mul_le_mul_of_nonneg_right (Int.mul_le_mul_of_nonneg_right le (by have:=aE KK;omega)) (Int.le_of_lt gK))
 rcases pR gK (gJ hr) (gJ ht)with ⟨b,_⟩ | ⟨b,_⟩ <;> omega
def SB (σ:Rat)(Z:Sp):Prop:=∃l h r u:Int,Z=some (r,u)/\Rq false l SC r/\Rq true h SC u/\ -SC<=l/\l<=h/\h<=SC/\(l= -SC\/((l+99:Int):Rat)<=σ)/\(h=SC\/σ<=((h-99:Int):Rat))/\σ<=((l+17592186044416:Int):Rat)/\((h-17592186044416:Int):Rat)<=σ
theorem SB.unit{σ:Rat}{Z:Sp}(h:SB σ Z):∃r u,Z=some (r,u)/\ -al 1<=r/\r<=u/\u<=al 1:=by
 obtain⟨l,h,r,u,rfl,a,b,h1,h2,c,_⟩:=h;exact⟨r,u,rfl,(wE a h1 (by omega)).1,lZ a b h2,(wE b (by omega) c).2⟩
theorem SB.fin{σ:Rat}{Z:Sp}(h:SB σ Z):fU Z:=by
 obtain⟨o1,o2⟩:=jV;obtain⟨r,u,rfl,a,b,c⟩:=h.unit;exact⟨b,by omega,by omega⟩
theorem GJ{l r:Int}{v:Rat}(h:Rq false l SC r)(e:(l:Rat)<=v*SR):r= -19342822337206103650074625\/((vr r:Int):Rat)<=v*BR:=by
 have s:=gJ h;rw[ia]at s;obtain⟨_,_,d,_⟩:=s
 by_cases c:r= -19342822337206103650074625
 ·exact .inl c
 ·right
  have a:=Rat.intCast_le_intCast.2 (d (by rename_i h1 _;omega));rw[Rat.intCast_mul,Rat.intCast_mul]at a;refine Rat.le_of_mul_le_mul_right (c:=SR) ?_ bZ;have b:=Rat.mul_le_mul_of_nonneg_right e (Rat.le_of_lt bX)
  unfold BR at *
  grind
theorem GI{h u:Int}{v:Rat}(k:Rq true h SC u)(e:v*SR<=(h:Rat)):u=19342822337206103650074625\/v*BR<=((vr u:Int):Rat):=by
 have s:=(gJ k);rw[iK]at s;obtain⟨_,_,d,_⟩:=s
 by_cases c:u=19342822337206103650074625
 ·exact .inl c
 ·right
  have a:=Rat.intCast_le_intCast.2 (d (by rename_i h1 _;omega));rw[aJ,Rat.intCast_mul,Rat.intCast_neg,Rat.intCast_neg,Rat.intCast_mul]at a;refine Rat.le_of_mul_le_mul_right (c:=SR) ?_ bZ;have b:=Rat.mul_le_mul_of_nonneg_right e (Rat.le_of_lt bX)
  unfold BR at *
  grind
def zp (x:Int):Rat:=((vr x:Int):Rat)*SR/BR
theorem Kl (x:Int):zp x*BR=((vr x:Int):Rat)*SR:=Rat.div_mul_cancel (Rat.ne_of_gt bX)
theorem GU{x:Int}(h:gG x=true):((dC x:Int):Rat)<=zp x/\zp x<=((dC x+1:Int):Rat):=by
 obtain⟨a,b⟩:=ol h
 have a':=Rat.intCast_le_intCast.2 a
 have d:=Rat.intCast_lt_intCast.2 b
 rw[Rat.intCast_mul,Rat.intCast_mul]at a' d;have e:=Kl x;have hp:=bX
 have e2:((2^KK:Int):Rat)=BR:=rfl
 rw[e2]at a' d
 constructor
 ·refine Rat.le_of_mul_le_mul_right (c:=BR) ?_ hp;rw[e];exact a'
 ·refine Rat.le_of_mul_le_mul_right (c:=BR) ?_ hp;rw[e];exact Rat.le_of_lt d
def zq (cos:Bool)(x:Int):Rat:=if cos then zp x+qt*SR else zp x
def su (cos:Bool)(x:Int):Rat:=KL (Li cos (dC x)) (zq cos x)
def eB (Z:Sp):Prop:=∃r u,Rq false (iP/2) SC r/\Rq true (iO/2+1) SC u/\Z=eH r u
def eO (v:Int)(Z:Sp):Prop:=∃r u,Rq false (pL v) SC r/\Rq true (pH v) SC u/\Z=eH r u
def nF (q:Bool->Int->Int->Int)(n:Int)(Z:Sp):Prop:=
 (n=19342822337206103650074625/\eB Z)\/(n≠19342822337206103650074625/\n<=al 1/\eO (dC n) Z)\/
 (n≠19342822337206103650074625/\¬n<=al 1/\∃H l h,eB H/\eO (dC (q false (al 1) n)) l/\eO (dC (q true (al 1) n)) h/\Z=kC H (bK l h))
def gM (q:Bool->Int->Int->Int)(n:Int)(Z:Sp):Prop:=(n < 0/\∃Y,nF q (-n) Y/\Z=ga Y)\/(¬n < 0/\nF q n Z)
theorem jf:0 < al 2/\al 2 < 19342822337206103650074625:=ku (by decide) (by decide)
theorem jZ{up:Bool}{l r:Int}(h:Rq up l SC r)(h1: -(2*SC)<=l)(h2:l<=2*SC): -al 2<=r/\r<=al 2:=by
 obtain⟨o1,o2⟩:=jf;have hp:=aE KK
 have e:vr (al 2)=2*2^KK:=fd (by decide) (by decide)
 constructor
 ·refine rm h (by omega) (by omega) ?_
  rw[aJ,e,show -(2*2^KK)*SC= -(2*SC)*2^KK by rw[Int.neg_mul,Int.neg_mul,Int.mul_assoc,Int.mul_assoc,Int.mul_comm (2^KK)]]
  exact Int.mul_le_mul_of_nonneg_right h1 (by omega)
 ·refine qU h (by omega) (by omega) ?_
  rw[e,show 2*2^KK*SC=2*SC*2^KK by rw[Int.mul_assoc,Int.mul_assoc,Int.mul_comm (2^KK)]]
  exact Int.mul_le_mul_of_nonneg_right h2 (by omega)
theorem lO{l h r u:Int}{Z:Sp}(hr:Rq false l SC r)(hu:Rq true h SC u)(hz:Z=eH r u)(le:l<=h)(h1: -(2*SC)<=l)(h2:h<=2*SC):Z=some (r,u)/\fU Z/\(∀x:Rat,(l:Rat)<=x*SR->j5 x Z)/\(∀x:Rat,x*SR<=(h:Rat)->jO x Z):=by
 obtain⟨o1,o2⟩:=jf;have a:=jZ hr h1 (by omega);have b:=jZ hu (by omega) h2;have c:=lZ hr hu le
 have e:Z=some (r,u):=hz.trans (aI c (by omega) (by omega))
 rw[e]
 exact⟨rfl,⟨c,by omega,by omega⟩,fun x hx=>GJ hr hx,fun x hx=>GI hu hx⟩
theorem sI:((iP/2:Int):Rat)<=qt*SR/\qt*SR<=((iO/2+1:Int):Rat):=by decide +kernel
theorem eB.is{Z:Sp}(h:eB Z):fU Z/\(∀x:Rat,qt<=x->j5 x Z)/\(∀x:Rat,x<=qt->jO x Z):=by
 obtain⟨r,u,c,d,hz⟩:=h;obtain⟨_,f,a,b⟩:=lO c d hz (by decide) (by decide) (by decide);obtain⟨e,g⟩:=sI
 refine⟨f,fun x hx=>a x (Rat.le_trans e (Rat.mul_le_mul_of_nonneg_right hx (Rat.le_of_lt bZ))),fun x hx=>b x (Rat.le_trans (Rat.mul_le_mul_of_nonneg_right hx (Rat.le_of_lt bZ)) g)⟩
theorem oQ{v:Int}(h0:0<=v)(h1:v<=SC):bk v*SR-1500<=((pL v:Int):Rat)/\((pH v:Int):Rat)<=bk v*SR+1500:=by
 obtain⟨a,b⟩:=lN h0 h1;obtain⟨s1,s2⟩:=zS (ed (pU v)) a b;obtain⟨g,p2⟩:=kT
 have f:(if SC < v*2 then qt/2 else 0)*SR-400<=((pA v:Int):Rat)/\((pB v:Int):Rat)<=(if SC < v*2 then qt/2 else 0)*SR+400:=by
  unfold pA pB
  by_cases c:SC < v*2
  ·rw[if_pos c,if_pos c,if_pos c]
   have d:=Rat.intCast_le_intCast.2 (show iO<=(iP/4+400)*4 by decide)
   have e:=Rat.intCast_le_intCast.2 (show (iO/4+1-400)*4<=iP by decide)
   rw[Rat.intCast_mul,Rat.intCast_add,show ((4:Int):Rat)=4 from rfl,show ((400:Int):Rat)=400 from rfl]at d
   rw[Rat.intCast_mul,Rat.intCast_sub,show ((4:Int):Rat)=4 from rfl,show ((400:Int):Rat)=400 from rfl]at e
   constructor <;> grind
  ·rw[if_neg c,if_neg c,if_neg c,Rat.intCast_zero]
   constructor <;> grind
 unfold pL pH bk
 have e1:((pA v+aS (pU v) 111+ -400:Int):Rat)=((pA v:Int):Rat)+((aS (pU v) 111:Int):Rat)-400:=by
  rw[show pA v+aS (pU v) 111+ -400=pA v+aS (pU v) 111-400 by omega,Rat.intCast_sub,Rat.intCast_add]
  rfl
 have e2:((pB v+aS (pU v) 111+400:Int):Rat)=((pB v:Int):Rat)+((aS (pU v) 111:Int):Rat)+400:=by
  rw[Rat.intCast_add,Rat.intCast_add]
  rfl
 rw[e1,e2];generalize (if SC < v*2 then qt/2 else 0)=k at *;generalize jq ((pU v:Rat) /SR)=t at *
 constructor <;> grind
theorem j8:bk SC=qt/2:=by
 have u:pU SC=0:=by decide
 unfold bk
 rw[if_pos (by decide),u,Rat.intCast_zero,show (0:Rat) /SR=0 by grind,jr]
 grind
theorem eO.is{v:Int}{Z:Sp}(h:eO v Z)(h0:0<=v)(h1:v<=SC):fU Z/\(∀x:Rat,bk v*SR<=x*SR+214->j5 x Z)/\(∀x:Rat,x*SR<=bk v*SR+214->jO x Z):=by
 obtain⟨r,u,i,j,hz⟩:=h;obtain⟨w1,l⟩:=jQ h0 h1;obtain⟨m,n⟩:=oQ h0 h1;obtain⟨d,e⟩:=dJ h0 h1;have c:=bZ;have n1:=Rat.mul_le_mul_of_nonneg_right d (Rat.le_of_lt c);have n2:=Rat.mul_le_mul_of_nonneg_right e (Rat.le_of_lt c)
 rw[Rat.intCast_add,show ((214:Int):Rat)=214 from rfl]at w1
 rw[Rat.intCast_sub,show ((214:Int):Rat)=214 from rfl]at l
 have g:(3000:Rat)<=SR:=by decide +kernel
 have k:pL v<=pH v:=Rat.intCast_le_intCast.1 (by grind)
 have lo: -(2*SC)<=pL v:=Rat.intCast_le_intCast.1 (by
  rw[Rat.intCast_neg,Rat.intCast_mul,show ((2:Int):Rat)=2 from rfl]
  grind)
 have hi:pH v<=2*SC:=Rat.intCast_le_intCast.1 (by
  rw[Rat.intCast_mul,show ((2:Int):Rat)=2 from rfl]
  grind)
 obtain⟨_,f,a,b⟩:=lO i j hz k lo hi
 exact⟨f,fun x hx=>a x (by grind),fun x hx=>b x (by grind)⟩
theorem Dx{v w:Rat}{x y:Sp}(hx:fU x)(hy:fU y):(j5 v x->jO w y->j5 (v-w) (kC x y))/\(jO v x->j5 w y->jO (v-w) (kC x y))/\aZ (kC x y):=by
 obtain⟨n1,n2,n3⟩:=JN (v:=w) hy;obtain⟨a1,a2,a3⟩:=Gi (v:=v) (w:= -w) hx n3
 rw[show v-w=v+ -w by grind]
 exact⟨fun h k=>a1 h (n2 k),fun h k=>a2 h (n1 k),a3⟩
theorem AY{x y:Sp}(hx:fU x)(hy:fU y):fU (bK x y):=by
 rcases x with _ | ⟨a,b⟩
 ·exact hx.elim
 rcases y with _ | ⟨c,d⟩
 ·exact hy.elim
 have o1:=hx.ok;have o2:=hy.ok;obtain⟨h1,h2,e⟩:=hx;obtain⟨f,g,h⟩:=hy;rw[im o1 o2];exact⟨by omega,by omega,by omega⟩
theorem ki{x:Sp}(h:fU x):x≠none:=by
 rcases x with _ | ⟨a,b⟩
 ·exact h.elim
 ·exact Option.some_ne_none _
theorem bj{n:Int}(h0:0<=n)(h1:n<=al 1):gG n=true/\0<=dC n/\dC n<=SC:=by
 have t:=J5
 have o:al 1 < al 1073741824:=by decide
 have f:gG n=true:=dt ⟨by omega,by omega⟩
 obtain⟨a,b⟩:=ol f;have hp:=aE KK;have c:=bM h0;have d:=bM h1;rw[pm]at d
 rw[show vr 0=0 from rfl]at c
 refine⟨f,?_,?_⟩
 ·rw[eZ f];exact Int.ediv_nonneg (Int.mul_nonneg c (Int.le_of_lt gK)) (Int.le_of_lt hp)
 ·refine Int.le_of_mul_le_mul_right (a:=2^KK) ?_ hp
  have:=Int.mul_le_mul_of_nonneg_right d (Int.le_of_lt gK)
  rw[Int.mul_comm (2^KK) SC]at this
  omega
theorem jS{x y:Int}(fx:gG x=true)(fy:gG y=true)(h:x<=y):dC x<=dC y:=by
 rw[eZ fx,eZ fy];exact Int.ediv_le_ediv (aE KK) (Int.mul_le_mul_of_nonneg_right (bM h) (Int.le_of_lt gK))
theorem td:In (al 1):=by
 obtain⟨a,b⟩:=jV;exact⟨by omega,by omega⟩
theorem jT{q:Bool->Int->Int->Int}(hq:QF q){n:Int}(h1:¬n<=al 1)(h2:n < 19342822337206103650074625):0<=q false (al 1) n/\q false (al 1) n<=q true (al 1) n/\q true (al 1) n<=al 1:=by
 obtain⟨a,b⟩:=jV;refine⟨GH td (by omega) (by omega) (by omega) (hq false (al 1) n),CS hq _ _ (by omega),?_⟩;exact JX td (by omega) a (by omega) (by omega) (FF (x:=al 1) (by omega) (by omega) b) (hq true (al 1) n)
theorem pW{H l h Z:Sp}{v1 v2:Int}(hH:eB H)(hl:eO v1 l)(hh:eO v2 h)(a0:0<=v1)(a1:v1<=v2)(a2:v2<=SC)(hz:Z=kC H (bK l h)):
  aZ Z/\(∀x:Rat,(qt-x)*SR<=bk v2*SR+214->j5 x Z)/\(∀x:Rat,bk v1*SR<=(qt-x)*SR+214->jO x Z):=by
 obtain⟨c,e,f⟩:=hH.is;obtain⟨b,g,l2⟩:=hl.is a0 (by omega);obtain⟨a,h1,h2⟩:=hh.is (by omega) a2;have d:=AY b a;subst hz
 refine⟨(Dx (v:=0) (w:=0) c d).2.2,fun x hx=>?_,fun x hx=>?_⟩
 ·have k:=(Dx (v:=qt) (w:=qt-x) c d).1 (e _ (by grind)) (EE b.ok a.ok (ki b) (ki a) (.inr (h2 _ hx)))
  rw[show qt-(qt-x)=x by grind]at k
  exact k
 ·have k:=(Dx (v:=qt) (w:=qt-x) c d).2.1 (f _ (by grind)) (EF b.ok a.ok (ki b) (ki a) (.inl (g _ hx)))
  rw[show qt-(qt-x)=x by grind]at k
  exact k
theorem KR:(214/SR:Rat)*SR=214:=Rat.div_mul_cancel (Rat.ne_of_gt bZ)
theorem r8:(10000:Rat)<=SR:=by decide +kernel
theorem nF.ok{q:Bool->Int->Int->Int}(hq:QF q){n:Int}{Z:Sp}(h:nF q n Z)(h0:0<=n)(h1:n<=19342822337206103650074625):aZ Z/\jO 0 Z:=by
 obtain⟨u,w⟩:=iI;have i:=bZ;have v:=r8
 rcases h with⟨_,h⟩ | ⟨_,c,h⟩ | ⟨e,c,H,l,k,s,hl,t,hz⟩
 ·exact⟨h.is.1.ok,h.is.2.2 0 (by grind)⟩
 ·obtain⟨_,a,b⟩:=bj h0 c;obtain⟨f,g,d⟩:=h.is a b;refine⟨f.ok,d 0 ?_⟩
  have:=Rat.mul_le_mul_of_nonneg_right (dJ a b).1 (Rat.le_of_lt i)
  grind
 ·obtain⟨o,p,r⟩:=jT hq c (by omega);obtain⟨g,a1,a2⟩:=bj o (by omega)
  obtain⟨d,a3,j⟩:=bj (show 0<=q true (al 1) n by omega) r
  obtain⟨s1,s2,s3⟩:=pW s hl t a1 (jS g d p) j hz;refine⟨s1,s3 0 ?_⟩;have m:=fX a1 a2 (Int.le_refl SC);rw[j8]at m
  have:=Rat.mul_le_mul_of_nonneg_right u (Rat.le_of_lt i)
  grind
theorem nF.grow{q:Bool->Int->Int->Int}(hq:QF q){a b:Int}{Za Zb:Sp}(ha:nF q a Za)(hb:nF q b Zb)(h0:0<=a)(h:a<=b)(h1:b<=19342822337206103650074625):∃x,j5 x Za/\jO x Zb:=by
 obtain⟨N,V⟩:=iI;have z:=bZ;have Q:=r8;have u:=KR;have W:=Rat.mul_le_mul_of_nonneg_right N (Rat.le_of_lt z)
 rcases ha with⟨e,ha⟩ | ⟨_,j,ha⟩ | ⟨R,j,H,l,k,o,hl,t,hz⟩
 ·rcases hb with⟨_,hb⟩ | ⟨k,_⟩ | ⟨k,_⟩
  ·exact⟨qt,ha.is.2.1 qt (by grind),hb.is.2.2 qt (by grind)⟩
  ·omega
  ·omega
 ·obtain⟨fa,a0,a1⟩:=bj h0 j;obtain⟨_,I,S⟩:=ha.is a0 a1;have M:=fX a0 a1 (Int.le_refl SC);rw[j8]at M;refine⟨bk (dC a)-214/SR,I _ (by grind),?_⟩
  rcases hb with⟨_,hb⟩ | ⟨_,f,hb⟩ | ⟨G,f,H,l,k,o,hl,t,hz⟩
  ·refine hb.is.2.2 _ (Rat.le_of_mul_le_mul_right (c:=SR) ?_ z)
   grind
  ·obtain⟨J,B,d⟩:=bj (by omega:0<=b) f;obtain⟨_,g1,g2⟩:=hb.is B d;have m:=fX a0 (jS fa J h) d;exact g2 _ (by grind)
  ·obtain⟨d,g,i⟩:=jT hq f (by omega);obtain⟨g1,c1,c2⟩:=bj d (by omega)
   obtain⟨g2,c3,c4⟩:=bj (show 0<=q true (al 1) b by omega) i
   obtain⟨s1,s2,s3⟩:=pW o hl t c1 (jS g1 g2 g) c4 hz;have m:=fX c1 c2 (Int.le_refl SC);rw[j8]at m;exact s3 _ (by grind)
 ·obtain⟨d,g,i⟩:=jT hq j (by omega);obtain⟨g1,c1,c2⟩:=bj d (by omega)
  obtain⟨g2,c3,c4⟩:=bj (show 0<=q true (al 1) a by omega) i
  obtain⟨s1,s2,s3⟩:=pW o hl t c1 (jS g1 g2 g) c4 hz
  rcases hb with⟨_,hb⟩ | ⟨_,f,hb⟩ | ⟨G,f,P,U,T,s,w,v,y⟩
  ·refine⟨qt,s2 qt ?_,hb.is.2.2 qt (by grind)⟩
   have:=Rat.mul_le_mul_of_nonneg_right (dJ c3 c4).1 (Rat.le_of_lt z)
   grind
  ·omega
  ·obtain⟨C,D,E⟩:=jT hq f (by omega);obtain⟨A,e1,e2⟩:=bj C (by omega)
   obtain⟨L,e3,F⟩:=bj (show 0<=q true (al 1) b by omega) E
   obtain⟨X,Y,O⟩:=pW s w v e1 (jS A L D) F y;obtain⟨o1,o2⟩:=jV;have far:=Hn hq true (n:=al 1) (p:=al 1) (e:=b) (r:=a) o1 (Int.le_refl _) (by omega) h td ⟨by omega,by omega⟩
   have m:=fX e1 (jS A g2 far) c4;refine⟨qt-(bk (dC (q false (al 1) b))-214/SR),s2 _ (by grind),O _ (by grind)⟩
theorem gM.grow{q:Bool->Int->Int->Int}(hq:QF q){a b:Int}{Za Zb:Sp}(ha:gM q a Za)(hb:gM q b Zb)(h0: -19342822337206103650074625<=a)(h:a<=b)(h1:b<=19342822337206103650074625):aZ Za/\aZ Zb/\∃x,j5 x Za/\jO x Zb:=by
 have ng:∀{Y:Sp} (h:aZ Y) (v:Rat),(jO v Y->j5 (-v) (ga Y))/\(j5 v Y->jO (-v) (ga Y)):=fun {Y} hY v=>by
  rcases Y with _ | ⟨c,d⟩
  ·exact⟨fun h=>h.elim,fun h=>h.elim⟩
  rw[eW hY];obtain⟨A1,A2,A3,A4,A5⟩:=hY
  constructor
  ·intro k
   rcases k with k | k
   ·exact .inl (by omega)
   ·right
    rw[aJ,Rat.intCast_neg,Rat.neg_mul];exact Rat.neg_le_neg k
  ·intro k
   rcases k with k | k
   ·exact .inl (by omega)
   ·right
    rw[aJ,Rat.intCast_neg,Rat.neg_mul];exact Rat.neg_le_neg k
 rcases ha with⟨i,l,ha,rfl⟩ | ⟨i,ha⟩
 ·have e:=ha.ok hq (by omega) (by omega)
  rcases hb with⟨g,m,hb,rfl⟩ | ⟨g,hb⟩
  ·have f:=hb.ok hq (by omega) (by omega);obtain⟨x,j,x2⟩:=nF.grow hq hb ha (by omega) (by omega) (by omega);exact⟨lU e.1,lU f.1,-x,(ng e.1 x).1 x2,(ng f.1 x).2 j⟩
  ·have f:=hb.ok hq (by omega) (by omega);refine⟨lU e.1,f.1,0,?_,f.2⟩;have k:=(ng e.1 0).1 e.2
   rw[show (-0:Rat)=0 from by decide]at k
   exact k
 ·rcases hb with⟨g,_⟩ | ⟨g,hb⟩
  ·omega
  ·have e:=ha.ok hq (by omega) (by omega);have f:=hb.ok hq (by omega) (by omega);exact⟨e.1,f.1,nF.grow hq ha hb (by omega) h h1⟩
theorem lh{r:Int}(h:0 < r):∀k:Nat,vr (r+k*9223372036854775808)=vr r*2^k
 | 0=>by rw[show r+((0:Nat):Int)*9223372036854775808=r by omega,Int.pow_zero,Int.mul_one]
 | k+1=>by
  rw[show r+((k+1:Nat):Int)*9223372036854775808=(r+k*9223372036854775808)+9223372036854775808 by omega,nv (by omega),lh h k,Int.pow_succ,Int.mul_assoc]
def zr:Int:=9670272082156500260225025
theorem Iq:vr zr*2^60=2^KK:=by
 have h:=lh (r:=zr) (by decide) 60
 have e:zr+((60:Nat):Int)*9223372036854775808=al 1:=by decide
 rw[e,fd (by decide) (by decide),Int.one_mul]at h;exact h.symm
end Go.Proofs.YteigedaefgmojaaGreatDoor
namespace Go.Proofs.YteigedaefgmojaaGreatDoor
open Go.Proofs.Tryz
set_option maxHeartbeats 8000000
open Go.RowKit
set_option linter.unusedVariables false
set_option linter.unusedSimpArgs false
set_option maxRecDepth 100000
theorem Cj{x y:Int}(hx: -19342822337206103650074625 < x/\x < 19342822337206103650074625)(hy: -19342822337206103650074625 < y/\y < 19342822337206103650074625):nX (ep x) (ep y):=by
 have h:=((z9 hx.1 hx.2 hy.1 hy.2).1 1 (by simp)).2.1
 have e1:yV [ep x]=ep x:=by
  show pl (0,0) (mk (ep x).1 (ep x).2)=ep x
  rw[fD x]
  unfold pl
  rw[if_pos rfl]
 have b:mk (ep y).1 (ep y).2=ep y:=fD y
 have a:nX (yV [ep x]) (mk (ep y).1 (ep y).2):=h
 rw[e1,b]at a;exact a
theorem yL{w:World}{A B:Option Addr}{n c m d:Nat}{s t:Bool}{z e y f N1 E1 N2 E2 N E:Int}(h:Wr w s A n c z)(k:Wr w t B m d y)(hn:n<=10)(hm:m<=10)
  (HN1:Hid ((mk z e).1=N1)) (HE1:Hid ((mk z e).2=E1)) (HN2:Hid ((mk y f).1=N2)) (HE2:Hid ((mk y f).2=E2)) (h1:N1≠0) (h2:N2≠0) (hle:E1<=E2) (hfar:E2-E1<=2240000) (b1: -4194304<=E1) (b2:E2<=4194304)
  (HN:Hid ((mk (N1+N2*((2^(E2-E1).toNat:Nat):Int)) E1).1=N)) (HE:Hid ((mk (N1+N2*((2^(E2-E1).toNat:Nat):Int)) E1).2=E)):
  Calls prog 166 #[.agg #[.bool s,.slice A n c,.int .i64 e],.agg #[.bool t,.slice B m d,.int .i64 f]] w (D1 w (n+m+70010) N E):=by
 obtain⟨δ,Y⟩:∃x,E2-E1=x:=⟨_,rfl⟩
 have HW:Hid (IntKind.i64.wrap (E2-E1)=δ):=ie (by rw[Y];exact IntWalk.i64_in _ (by omega))
 have X:0<=δ:=by omega
 rw[Y]at hfar HN HE
 have hF:decide (E2 < E1)=false:=by simp;omega
 clear Y
 go_enter func166,ntmps166
 go_upto_region 1 with fail
 generalize J:((w.alloc _).alloc _).alloc _=w1 at *;obtain⟨X1,C,j,l⟩:=Bo.en3 J;replace h:=h.below l.out;replace k:=k.below l.out;clear J;have bH:=X1.cell
 go_wp2_with fail
 refine(bT h (by omega) HN1.out HE1.out).mono ?_;rintro U O ⟨s1,A1,n1,c1,rfl,p,k1,B⟩;clear bH;refine dW ?_ C j h k l B;clear C j h k l B;intro C j h k l;have D:=C.cell
 go_upto_region 2 with fail
 clear D;have hB:=Nat.le_refl (World.heap O).size;have bA:=C.lt;have bB:=j.lt;generalize u:O.alloc _=w3 at *;obtain⟨o,G⟩:=Bo.nw u;clear u;refine dW ?_ C j k p l G;clear C j k p l G;intro C j k p l;have D:=C.cell
 go_wp2_with fail
 refine(bT k (by omega) HN2.out HE2.out).mono ?_;rintro U F ⟨s2,A2,n2,c2,rfl,p2,k2,B⟩;clear D;refine dW ?_ j o k p l B;clear j o k p l B;intro j o k p l
 go_upto_region 3 with fail
 have bD:=j.lt;have bC:=o.lt;generalize u:F.alloc _=w5 at *;obtain⟨H,G⟩:=Bo.nw u;clear u;refine dW ?_ j o p p2 l G;clear j o p p2 l G;intro j o p p2 l
 have gS:0 < n1:=by have:=p.1.pos;omega
 have qa:((n1:Int)==0)=false:=by
  have:(n1:Int)≠0:=by omega
  simpa using this
 have la:=p.1.rd.big
 have hA:0 < n2:=by have:=p2.1.pos;omega
 have qb:((n2:Int)==0)=false:=by
  have:(n2:Int)≠0:=by omega
  simpa using this
 have lb:=p2.1.rd.big;clear h1 h2;have P:=o.cell;have bN:=H.cell
 go_upto_region 11 with fail
 clear P bN;have HC:=ie (m9 s2 N2 (2^δ.toNat) p2.wr.eq);have hC:=o.lt;have hD:=H.lt;have hE:=j.lt;refine bF [0,1,2,3,4,5,6,7,8,9,10,11,12,13] [40,41,42,43,44,45,46,47,48,49,50,51,52,9,0] [[],[0],[1],[],[3],[4],[],[6],[],[8],[7,9],[5,10],[2,11],[],[]] 15 1 [Jo.qp F.heap.size 0,Jo.qp F.heap.size 0,Jo.qb s2,Jo.qp F.heap.size 0,Jo.qp F.heap.size 1,Jo.Fact.eq (.slice A2 n2 c2),Jo.qp F.heap.size 2,Jo.qi E2,Jo.qp O.heap.size 2,Jo.qi E1,Jo.qi δ,Jo.Fact.nm (N2.natAbs*2^δ.toNat) (n2+δ.toNat/32+1),Jo.Fact.wn (N2*((2^δ.toNat:Nat):Int)) (n2+δ.toNat/32+1),Jo.Fact.bo w5.heap.size #[.bool false,.slice none 0 0] 43,Jo.Fact.any] ?_ ?_
 ·iterate 2 (refine jm ?_ ?_;rotate_left)
  refine jm ?_ ?_
  ·rintro q g _ rfl K i;have fP:=(H.b g).a 0 (.bool s2) rfl;go_simp;exact i.out _ _ rfl (br _ _)
  iterate 2 (refine jm ?_ ?_;rotate_left)
  refine jm ?_ ?_
  ·rintro q g _ rfl K i;have gB:=(H.b g).a 1 (.slice A2 n2 c2) rfl;go_simp;exact i.out _ _ rfl (br _ _)
  refine jm ?_ ?_;rotate_left
  refine jm ?_ ?_
  ·rintro q g _ rfl K i;have gO:=(H.b g).a 2 (.int .i64 E2) rfl;go_simp;exact i.out _ _ rfl (br _ _)
  refine jm ?_ ?_;rotate_left
  refine jm ?_ ?_
  ·rintro q g _ rfl K i;have Q:=(o.b g).a 2 (.int .i64 E1) rfl;go_simp;exact i.out _ _ rfl (br _ _)
  refine jm ?_ ?_
  ·rintro q g _ rfl _ rfl K i;have hw:=HW.out;go_simp;exact i.out _ _ rfl (br _ _)
  refine jm ?_ ?_
  ·rintro q g _ rfl _ rfl K i;go_simp;refine(jL (p2.b g).1.rd (by omega) X (by omega) rfl).mono ?_;rintro U wk ⟨A7,n7,c7,rfl,p7,k7,B⟩;exact i.out _ _ ⟨A7,n7,c7,rfl,p7,k7⟩ B
  refine jm ?_ ?_
  ·rintro q g _ rfl _ ⟨A7,n7,c7,rfl,p7,k7⟩ K i;go_simp;refine(dk s2 p7.rd).mono ?_;rintro U wk ⟨s8,V,n8,W,rfl,M,k8,B⟩;exact i.out _ _ ⟨s8,V,n8,W,rfl,HC.out▸M,Nat.le_trans k8 k7⟩ B
  refine jm ?_ ?_
  ·rintro q g K i;go_simp;exact i.out _ _ ⟨_,rfl,g.size,Bo.new _ _ _⟩ (af _ _)
  exact jo
  all_goals (rintro q g;(repeat rintro _ rfl);intro K i;go_simp;exact i.out _ _ rfl (br _ _))
 rintro w9 g _ _ _ _ _ rfl _ _ _ _ _ rfl _ _ _ rfl _ _ _ rfl _ rfl _ ⟨A7,n7,c7,rfl,_,_⟩ _ ⟨s8,V,n8,W,rfl,M,k8⟩ _ ⟨g8,rfl,gP,I⟩ -;simp only[Jo.z];replace j:=j.b g;replace o:=o.b g;replace p:=p.b g;replace l:=ak l g;have R:=I.cell;have S:=I.frozen
 refine jn 14 fun K i=>?_
 go_simp;refine i.out _ _ ?_;clear i K R S;generalize hS:(w9.setCell _ _).setCell _ _=hG at *;have r:=ac.of2 I hS;replace j:=j.s r;replace o:=o.s r;replace p:=p.s r;replace M:=M.s r;replace l:=bi l r (by omega);replace I:=r.box;clear r hS;refine jd ?_
 go_upto_region 12 with fail
 refine bF [0,1,2,3,4,5,6] [53,54,55,56,57,58,59,0] [[],[0],[],[1,2],[],[4],[3,5],[]] 8 1 [Jo.qp O.heap.size 0,Jo.Fact.eq (.agg #[.bool s1,.slice A1 n1 c1]),Jo.Fact.eq (.agg #[.bool s8,.slice V n8 W]),Jo.Fact.wn (N1+N2*((2^δ.toNat:Nat):Int)) (n+m+70010),Jo.qp O.heap.size 2,Jo.qi E1,Jo.Fact.dy N E (n+m+70010),Jo.Fact.any] ?_ ?_
 ·iterate 3 (refine jm ?_ ?_;rotate_left)
  refine jm ?_ ?_
  ·rintro q g _ rfl _ rfl K i;go_simp;exact Jo.w1 (gk (p.b g).wr (M.b g).wr (by omega) (by omega) rfl) i.out
  refine jm ?_ ?_;rotate_left
  refine jm ?_ ?_
  ·rintro q g _ rfl K i;have Q:=(o.b g).a 2 (.int .i64 E1) rfl;go_simp;exact i.out _ _ rfl (br _ _)
  refine jm ?_ ?_
  ·rintro q g _ ⟨s3,A3,n3,c3,rfl,p3,k3⟩ _ rfl K i;go_simp;refine(bT p3.wr (by omega) HN.out HE.out).mono ?_;rintro U wk ⟨s4,A4,n4,c4,rfl,L,Z,B⟩;exact i.out _ _ ⟨s4,A4,n4,c4,rfl,L,Nat.le_trans Z k3⟩ B
  exact jo
  all_goals (rintro q g;(repeat rintro _ rfl);intro K i;have P:=(o.b g).cell;have R:=(I.b g).cell;go_simp;exact i.out _ _ rfl (br _ _))
 rintro hH g _ _ _ rfl _ rfl _ ⟨s3,A3,n3,c3,rfl,_,_⟩ _ _ _ rfl _ ⟨s4,A4,n4,c4,rfl,L,Z⟩ -;simp only[Jo.z];replace j:=j.b g;replace l:=ak l g;have fH:=j.cell;have T:=j.frozen
 refine jn 7 fun K i=>?_
 go_simp;refine i.out _ _ ?_;clear i K fH T;have r:=ac.mk3 j (.bool s4) (.slice A4 n4 c4) (.int .i64 E);replace L:=L.s r;refine jd ?_;go_wp2;exact bq (v:= .agg #[.bool s4,.slice A4 n4 c4,.int .i64 E]) (by simp[results,results166,go_sem,r.box.cell]) rfl ⟨s4,_,_,_,rfl,L,Z,(r.below l.out (by omega))⟩
theorem yK{w:World}{A B:Option Addr}{n c m d:Nat}{s t:Bool}{z e y f N1 E1 N2 E2 N E:Int}(h:Wr w s A n c z)(k:Wr w t B m d y)(hn:n<=10)(hm:m<=10)
  (HN1:Hid ((mk z e).1=N1)) (HE1:Hid ((mk z e).2=E1)) (HN2:Hid ((mk y f).1=N2)) (HE2:Hid ((mk y f).2=E2)) (h1:N1≠0) (h2:N2≠0) (hle:E2 < E1) (hfar:E1-E2<=2240000) (b1: -4194304<=E2) (b2:E1<=4194304)
  (HN:Hid ((mk (N2+N1*((2^(E1-E2).toNat:Nat):Int)) E2).1=N)) (HE:Hid ((mk (N2+N1*((2^(E1-E2).toNat:Nat):Int)) E2).2=E)):
  Calls prog 166 #[.agg #[.bool s,.slice A n c,.int .i64 e],.agg #[.bool t,.slice B m d,.int .i64 f]] w (D1 w (n+m+70010) N E):=by
 obtain⟨δ,hδ⟩:∃x,E1-E2=x:=⟨_,rfl⟩
 have HW:Hid (IntKind.i64.wrap (E1-E2)=δ):=ie (by rw[hδ];exact IntWalk.i64_in _ (by omega))
 have bA:0<=δ:=by omega
 rw[hδ]at hfar HN HE
 have hM:decide (E2 < E1)=true:=by simp;omega
 clear hδ
 go_enter func166,ntmps166
 go_upto_region 1 with fail
 generalize O:((w.alloc _).alloc _).alloc _=w1 at *;obtain⟨X1,F,g,l⟩:=Bo.en3 O;replace h:=h.below l.out;replace k:=k.below l.out;clear O;have gB:=X1.cell
 go_wp2_with fail
 refine(bT h (by omega) HN1.out HE1.out).mono ?_;rintro Y R ⟨s1,A1,n1,c1,rfl,q,k1,B⟩;clear gB;refine dW ?_ F g h k l B;clear F g h k l B;intro F g h k l;have J:=F.cell
 go_upto_region 2 with fail
 clear J;have hF:=Nat.le_refl (World.heap R).size;have bB:=F.lt;have bC:=g.lt;generalize r:R.alloc _=w3 at *;obtain⟨p,H⟩:=Bo.nw r;clear r;refine dW ?_ F g k q l H;clear F g k q l H;intro F g k q l;have J:=F.cell
 go_wp2_with fail
 refine(bT k (by omega) HN2.out HE2.out).mono ?_;rintro Y L ⟨s2,A2,n2,c2,rfl,p2,k2,B⟩;clear J;refine dW ?_ g p k q l B;clear g p k q l B;intro g p k q l
 go_upto_region 3 with fail
 have bH:=g.lt;have bD:=p.lt;generalize r:L.alloc _=w5 at *;obtain⟨u,H⟩:=Bo.nw r;clear r;refine dW ?_ g p q p2 l H;clear g p q p2 l H;intro g p q p2 l
 have hD:0 < n1:=by have:=q.1.pos;omega
 have qa:((n1:Int)==0)=false:=by
  have:(n1:Int)≠0:=by omega
  simpa using this
 have la:=q.1.rd.big
 have hE:0 < n2:=by have:=p2.1.pos;omega
 have qb:((n2:Int)==0)=false:=by
  have:(n2:Int)≠0:=by omega
  simpa using this
 have lb:=p2.1.rd.big;clear h1 h2;have G:=p.cell;have D:=u.cell
 go_upto_region 9 with fail
 clear G D;have hG:=Nat.le_refl (World.heap w5).size;have fP:=g.lt;have bN:=p.lt;have fH:=u.lt;generalize r:w5.alloc _=w6 at *;obtain⟨X7,H⟩:=Bo.nw r;clear r;refine gv ?_ g p u q p2 l H;clear g p u q p2 l H;intro g p u q p2 l
 have D:=u.cell;have G:=p.cell;have U:=p.frozen
 go_upto_region 10 with fail
 clear D G U;generalize I:((w6.setCell _ _).setCell _ _).setCell _ _=w7 at *;have o:=ac.of3 p I;replace g:=g.s o;replace u:=u.s o;replace X7:=X7.s o;replace q:=q.s o;replace p2:=p2.s o;replace l:=bi l o (by omega);replace p:=o.box
 clear o I;have gO:=X7.cell;have D:=u.cell;have V:=u.frozen
 go_upto_region 11 with fail
 clear gO D V;generalize I:((w7.setCell _ _).setCell _ _).setCell _ _=w8 at *;have o:=ac.of3 u I;replace g:=g.s o;replace p:=p.s o;replace q:=q.s o;replace p2:=p2.s o;replace l:=bi l o (by omega);replace u:=o.box;clear o I;have HC:=ie (m9 s1 N1 (2^δ.toNat) q.wr.eq)
 have hH:=p.lt;have hI:=u.lt;have hL:=g.lt;refine bF [0,1,2,3,4,5,6,7,8,9,10,11,12,13] [40,41,42,43,44,45,46,47,48,49,50,51,52,9,0] [[],[0],[1],[],[3],[4],[],[6],[],[8],[7,9],[5,10],[2,11],[],[]] 15 1 [Jo.qp L.heap.size 0,Jo.qp L.heap.size 0,Jo.qb s1,Jo.qp L.heap.size 0,Jo.qp L.heap.size 1,Jo.Fact.eq (.slice A1 n1 c1),Jo.qp L.heap.size 2,Jo.qi E1,Jo.qp R.heap.size 2,Jo.qi E2,Jo.qi δ,Jo.Fact.nm (N1.natAbs*2^δ.toNat) (n1+δ.toNat/32+1),Jo.Fact.wn (N1*((2^δ.toNat:Nat):Int)) (n1+δ.toNat/32+1),Jo.Fact.bo w8.heap.size #[.bool false,.slice none 0 0] 43,Jo.Fact.any] ?_ ?_
 ·iterate 2 (refine jm ?_ ?_;rotate_left)
  refine jm ?_ ?_
  ·rintro C i _ rfl K j;have gS:=(u.b i).a 0 (.bool s1) rfl;go_simp;exact j.out _ _ rfl (br _ _)
  iterate 2 (refine jm ?_ ?_;rotate_left)
  refine jm ?_ ?_
  ·rintro C i _ rfl K j;have hA:=(u.b i).a 1 (.slice A1 n1 c1) rfl;go_simp;exact j.out _ _ rfl (br _ _)
  refine jm ?_ ?_;rotate_left
  refine jm ?_ ?_
  ·rintro C i _ rfl K j;have hB:=(u.b i).a 2 (.int .i64 E1) rfl;go_simp;exact j.out _ _ rfl (br _ _)
  refine jm ?_ ?_;rotate_left
  refine jm ?_ ?_
  ·rintro C i _ rfl K j;have S:=(p.b i).a 2 (.int .i64 E2) rfl;go_simp;exact j.out _ _ rfl (br _ _)
  refine jm ?_ ?_
  ·rintro C i _ rfl _ rfl K j;have hw:=HW.out;go_simp;exact j.out _ _ rfl (br _ _)
  refine jm ?_ ?_
  ·rintro C i _ rfl _ rfl K j;go_simp;refine(jL (q.b i).1.rd (by omega) bA (by omega) rfl).mono ?_;rintro Y wk ⟨A7,n7,c7,rfl,p7,k7,B⟩;exact j.out _ _ ⟨A7,n7,c7,rfl,p7,k7⟩ B
  refine jm ?_ ?_
  ·rintro C i _ rfl _ ⟨A7,n7,c7,rfl,p7,k7⟩ K j;go_simp;refine(dk s1 p7.rd).mono ?_;rintro Y wk ⟨s8,Z,n8,c8,rfl,Q,k8,B⟩;exact j.out _ _ ⟨s8,Z,n8,c8,rfl,HC.out▸Q,Nat.le_trans k8 k7⟩ B
  refine jm ?_ ?_
  ·rintro C i K j;go_simp;exact j.out _ _ ⟨_,rfl,i.size,Bo.new _ _ _⟩ (af _ _)
  exact jo
  all_goals (rintro C i;(repeat rintro _ rfl);intro K j;go_simp;exact j.out _ _ rfl (br _ _))
 rintro w9 i _ _ _ _ _ rfl _ _ _ _ _ rfl _ _ _ rfl _ _ _ rfl _ rfl _ ⟨A7,n7,c7,rfl,_,_⟩ _ ⟨s8,Z,n8,c8,rfl,Q,k8⟩ _ ⟨g8,rfl,hC,M⟩ -;simp only[Jo.z];replace g:=g.b i;replace p:=p.b i;replace p2:=p2.b i;replace l:=ak l i;have T:=M.cell;have W:=M.frozen
 refine jn 14 fun K j=>?_
 go_simp;refine j.out _ _ ?_;clear j K T W;generalize I:(w9.setCell _ _).setCell _ _=hN at *;have o:=ac.of2 M I;replace g:=g.s o;replace p:=p.s o;replace p2:=p2.s o;replace Q:=Q.s o;replace l:=bi l o (by omega);replace M:=o.box;clear o I;refine jd ?_
 go_upto_region 12 with fail
 refine bF [0,1,2,3,4,5,6] [53,54,55,56,57,58,59,0] [[],[0],[],[1,2],[],[4],[3,5],[]] 8 1 [Jo.qp R.heap.size 0,Jo.Fact.eq (.agg #[.bool s2,.slice A2 n2 c2]),Jo.Fact.eq (.agg #[.bool s8,.slice Z n8 c8]),Jo.Fact.wn (N2+N1*((2^δ.toNat:Nat):Int)) (n+m+70010),Jo.qp R.heap.size 2,Jo.qi E2,Jo.Fact.dy N E (n+m+70010),Jo.Fact.any] ?_ ?_
 ·iterate 3 (refine jm ?_ ?_;rotate_left)
  refine jm ?_ ?_
  ·rintro C i _ rfl _ rfl K j;go_simp;exact Jo.w1 (gk (p2.b i).wr (Q.b i).wr (by omega) (by omega) rfl) j.out
  refine jm ?_ ?_;rotate_left
  refine jm ?_ ?_
  ·rintro C i _ rfl K j;have S:=(p.b i).a 2 (.int .i64 E2) rfl;go_simp;exact j.out _ _ rfl (br _ _)
  refine jm ?_ ?_
  ·rintro C i _ ⟨s3,A3,n3,c3,rfl,p3,k3⟩ _ rfl K j;go_simp;refine(bT p3.wr (by omega) HN.out HE.out).mono ?_;rintro Y wk ⟨s4,A4,n4,c4,rfl,P,k4,B⟩;exact j.out _ _ ⟨s4,A4,n4,c4,rfl,P,Nat.le_trans k4 k3⟩ B
  exact jo
  all_goals (rintro C i;(repeat rintro _ rfl);intro K j;have G:=(p.b i).cell;have T:=(M.b i).cell;go_simp;exact j.out _ _ rfl (br _ _))
 rintro hP i _ _ _ rfl _ rfl _ ⟨s3,A3,n3,c3,rfl,_,_⟩ _ _ _ rfl _ ⟨s4,A4,n4,c4,rfl,P,k4⟩ -;simp only[Jo.z];replace g:=g.b i;replace l:=ak l i;have gP:=g.cell;have X:=g.frozen
 refine jn 7 fun K j=>?_
 go_simp;refine j.out _ _ ?_;clear j K gP X;have o:=ac.mk3 g (.bool s4) (.slice A4 n4 c4) (.int .i64 E);replace P:=P.s o;refine jd ?_;go_wp2;exact bq (v:= .agg #[.bool s4,.slice A4 n4 c4,.int .i64 E]) (by simp[results,results166,go_sem,o.box.cell]) rfl ⟨s4,_,_,_,rfl,P,k4,(o.below l.out (by omega))⟩
theorem It{w:World}{A B:Option Addr}{n c m d:Nat}{s t:Bool}{z e y f N E:Int}(h:Wr w s A n c z)(k:Wr w t B m d y)(hn:n<=10)(hm:m<=10)(hf:nX (mk z e) (mk y f))
  (hN:(pl (mk z e) (mk y f)).1=N) (hE:(pl (mk z e) (mk y f)).2=E):
  Calls prog 166 #[.agg #[.bool s,.slice A n c,.int .i64 e],.agg #[.bool t,.slice B m d,.int .i64 f]] w (D1 w (n+m+70010) N E):=by
 have a:∀K,K<=n+m+70010->∀N E e w',D1 w K N E e w'->D1 w (n+m+70010) N E e w':=fun K hK N E e w' ⟨s,A,n,c,e1,p,q,b⟩=>⟨s,A,n,c,e1,p,Nat.le_trans q hK,b⟩
 obtain⟨i,j⟩:=f9 z e;obtain⟨l,o⟩:=f9 y f
 unfold pl at hN hE
 by_cases h1:(mk z e).1=0
 ·rw[if_pos h1]at hN hE;subst hN;subst hE;exact(FA h k (by omega) (by omega) (ie rfl) (ie rfl) (ie rfl) (ie rfl) h1).mono (a _ (by omega) _ _)
 ·rw[if_neg h1]at hN hE
  by_cases h2:(mk y f).1=0
  ·rw[if_pos h2]at hN hE;subst hN;subst hE;exact(FB h k (by omega) (by omega) (ie rfl) (ie rfl) (ie rfl) (ie rfl) h1 h2).mono (a _ (by omega) _ _)
  ·rw[if_neg h2]at hN hE;obtain⟨g1,g2⟩:=hf h1 h2
   by_cases g:(mk z e).2<=(mk y f).2
   ·rw[Int.min_eq_left g]at hN hE;exact yL h k hn hm (ie rfl) (ie rfl) (ie rfl) (ie rfl) h1 h2 g g2 i o (ie (by simpa using hN)) (ie (by simpa using hE))
   ·rw[Int.min_eq_right (by omega),Int.add_comm]at hN hE;exact yK h k hn hm (ie rfl) (ie rfl) (ie rfl) (ie rfl) h1 h2 (by omega) g1 l j (ie (by simpa using hN)) (ie (by simpa using hE))
theorem Gu{w:World}{D D' M M' E E':Int}{s s':Bool}{up:Bool}{x y r:Int}(hM:LQ M)(hM':LQ M')(hx:rk D s M E=x)(hy:rk D' s' M' E'=y)(hr:ay up x y=r):Calls prog 109 #[VQ D s M E,VQ D' s' M' E',.bool up] w (PN w r):=by
 delta VQ
 have HX:=ie hx;have HY:=ie hy;clear hx hy
 go_enter func109,ntmps109
 go_upto_region 1 with fail
 generalize U:((w.alloc _).alloc _).alloc _=w1 at *;obtain⟨X1,t,a,c⟩:=Bo.en3 U;clear U;have hG:=X1.cell
 go_wp2_with fail
 refine(kj hM HX.out).mono ?_;rintro H w2 ⟨Y,s1,Z,X,rfl,o,B⟩;clear hG;refine aF ?_ t a c B;clear t a c B;intro t a c
 go_upto_region 2 with fail
 have hA:=t.lt;have hB:=a.lt;generalize f:w2.alloc _=w3 at *;obtain⟨k,m⟩:=Bo.nw f;clear f;refine aF ?_ t a c m;clear t a c m;intro t a c;have hH:=t.cell
 go_wp2_with fail
 refine(kj hM' HY.out).mono ?_;rintro H w4 ⟨K2,s2,M2,E2,rfl,p,B⟩;clear hH;refine aF ?_ a k c B;clear a k c B;intro a k c
 go_upto_region 3 with fail
 have hD:=a.lt;have hC:=k.lt;generalize f:w4.alloc _=w5 at *;obtain⟨j,m⟩:=Bo.nw f;clear f;refine aF ?_ a k c m;clear a k c m;intro a k c;have i1:=gH o;have i2:=gH p
 by_cases k1:Y=2
 ·subst k1
  have I:ax x=true:=i1
  by_cases G:K2=2
  ·subst G
   have J:ax y=true:=i2
   by_cases V:s1=s2
   ·rw[dY up I ((lM o p).2 V)]at hr;subst hr;subst V;clear i1 i2 I J p;have i:=a.cell;have d:=a.frozen;have h:=k.cell;have g:=j.cell;go_wp2;clear i d h g;have l:=ac.t4 a 2 s1 Z X
    exact bq (by simp[results,results109,go_sem,l.box.cell]) rfl ⟨_,_,_,_,rfl,o,(l.below c.out (by omega))⟩
   ·rw[dN up I J (fun e=>V ((lM o p).1 e))]at hr
    obtain rfl:(!s1)=s2:=by cases s1 <;> cases s2 <;> first | rfl | exact absurd rfl V
    have e2:(s1==!s1)=false:=by cases s1 <;> rfl
    have v:=ie hr;clear i1 i2 I J o p hr V;have h:=k.cell;have g:=j.cell
    go_wp2_with fail
    refine(nV (s:=!up) v.out).mono ?_;rintro H w6 ⟨K3,s3,M3,E3,rfl,q3,B⟩;clear h g;refine aR ?_ a k j c B;clear a k j c B;intro a k j c;have i:=a.cell;have d:=a.frozen;go_wp2;clear i d;have l:=ac.t4 a K3 s3 M3 E3
    exact bq (by simp[results,results109,go_sem,l.box.cell]) rfl ⟨_,_,_,_,rfl,q3,(l.below c.out (by omega))⟩
  ·have e2:(K2==2)=false:=by simpa using G
   rw[e2]at i2;rw[dU up I i2]at hr;subst hr;clear i1 i2 I p G;have i:=a.cell;have d:=a.frozen;have h:=k.cell;have g:=j.cell;go_wp2;clear i d h g;have l:=ac.t4 a 2 s1 Z X;exact bq (by simp[results,results109,go_sem,l.box.cell]) rfl ⟨_,_,_,_,rfl,o,(l.below c.out (by omega))⟩
 ·have e1:(Y==2)=false:=by simpa using k1
  rw[e1]at i1
  by_cases G:K2=2
  ·subst G
   have J:ax y=true:=i2
   rw[eG up i1 J]at hr;subst hr;clear i1 i2 J o k1;have i:=a.cell;have d:=a.frozen;have h:=k.cell;have g:=j.cell;go_wp2;clear i d h g;have l:=ac.t4 a 2 s2 M2 E2;exact bq (by simp[results,results109,go_sem,l.box.cell]) rfl ⟨_,_,_,_,rfl,p,(l.below c.out (by omega))⟩
  ·have e2:(K2==2)=false:=by simpa using G
   rw[e2]at i2;rw[eF up i1 i2]at hr;have n:=Cj (bn o.bd.1 o.bd.2 i1) (bn p.bd.1 p.bd.2 i2);clear i1 i2;obtain⟨m1,b1,x1⟩:=AM o k1;obtain⟨m2,b2,x2⟩:=AM p G;obtain⟨Q,C⟩:∃N,(ep x).1=N:=⟨_,rfl⟩;obtain⟨L,z⟩:∃N,(ep x).2=N:=⟨_,rfl⟩;obtain⟨R,F⟩:∃N,(ep y).1=N:=⟨_,rfl⟩;obtain⟨O,A⟩:∃N,(ep y).2=N:=⟨_,rfl⟩
   have g1:mk Q L=ep x:=by rw[<-C,<-z];exact fD x
   have g2:mk R O=ep y:=by rw[<-F,<-A];exact fD y
   have bC:=ie b1;have bD:=ie b2
   have fH:=ie (show (jG Y s1 Z X).1=Q by rw[x1,C])
   have bH:=ie (show (jG Y s1 Z X).2=L by rw[x1,z])
   have fP:=ie (show (jG K2 s2 M2 E2).1=R by rw[x2,F])
   have bN:=ie (show (jG K2 s2 M2 E2).2=O by rw[x2,A])
   obtain⟨P,S⟩:∃P,pl (ep x) (ep y)=P:=⟨_,rfl⟩
   have T:mk P.1 P.2=P:=by rw[<-S];exact CJ (fD x) (fD y)
   have gO:=ie (show (pl (mk Q L) (mk R O)).1=P.1 by rw[g1,g2,S])
   have gP:=ie (show (pl (mk Q L) (mk R O)).2=P.2 by rw[g1,g2,S])
   rw[S]at hr
   have v:=ie (show eI up (mk P.1 P.2).1 (mk P.1 P.2).2=r by rw[T];exact hr)
   have gB:=ie (show nX (mk Q L) (mk R O) by rw[g1,g2];exact n)
   clear n;clear b1 b2 x1 x2 C z F A S T hr g1 g2;have h:=k.cell;have g:=j.cell
   go_wp2_with fail
   refine(iG m1 o.top bC.out fH.out bH.out).mono ?_;rintro H w6 ⟨sa,Aa,na,ca,rfl,q,ka,B⟩;clear h g;refine aF ?_ a j c B;clear a j c B;intro a j c
   go_upto_region 10 with fail
   have hF:=a.lt;have hE:=j.lt;generalize f:w6.alloc _=w7 at *;obtain⟨u,m⟩:=Bo.nw f;clear f;refine aR ?_ a j q c m;clear a j q c m;intro a j q c;have g:=j.cell
   go_wp2_with fail
   refine(iG m2 p.top bD.out fP.out bN.out).mono ?_;rintro H w8 ⟨sb,Ab,nb,cb,rfl,pb,kb,B⟩;clear g;refine aR ?_ a u q c B;clear a u q c B;intro a u q c
   go_upto_region 11 with fail
   have bB:=a.lt;have bA:=u.lt;generalize f:w8.alloc _=w9 at *;obtain⟨gS,m⟩:=Bo.nw f;clear f;refine dW ?_ a u q pb c m;clear a u q pb c m;intro a u q pb c;have hI:=u.cell;have W:=gS.cell
   go_wp2_with fail
   refine(It q.wr pb.wr (by omega) (by omega) gB.out gO.out gP.out).mono ?_;rintro H hJ ⟨sc,Ac,nc,cc,rfl,pc,kc,B⟩;clear hI W;replace a:=a.b B;replace c:=ak c B;clear B
   go_wp2_with fail
   refine(qc pc.wr (by omega) rfl rfl v.out).mono ?_;rintro H hK ⟨K3,s3,M3,E3,rfl,q3,B⟩;replace a:=a.b B;replace c:=ak c B;clear B;have i:=a.cell;have d:=a.frozen;go_wp2;clear i d;have l:=ac.t4 a K3 s3 M3 E3;exact bq (by simp[results,results109,go_sem,l.box.cell]) rfl ⟨_,_,_,_,rfl,q3,(l.below c.out (by omega))⟩
end Go.Proofs.YteigedaefgmojaaGreatDoor
namespace Go.Proofs.YteigedaefgmojaaGreatDoor
open Go.Proofs.Tryz
open Go Go.RowKit
set_option linter.unusedVariables false
def Gf (z:Sp):Prop:=∃r u,z=some (r,u)/\ -al 1<=r/\r<=u/\u<=al 1
theorem Gf.fin{z:Sp}(h:Gf z):fU z:=by
 obtain⟨o1,o2⟩:=jV;obtain⟨r,u,rfl,a,b,c⟩:=h;exact⟨b,by omega,by omega⟩
theorem BH{x y:Sp}(hx:aZ x):jJ [x,y]=eC x y:=by
 show eC (eC rY x) y=_
 rw[qZ hx]
end Go.Proofs.YteigedaefgmojaaGreatDoor
namespace Go.Proofs.YteigedaefgmojaaGreatDoor
open Go.Proofs.Tryz
set_option maxHeartbeats 8000000
open Go.RowKit
set_option linter.unusedVariables false
set_option linter.unusedSimpArgs false
set_option maxRecDepth 100000
theorem Na.stn{w w':World}{base n c g:Nat}{A:Option Addr}{l:List Int}{a b:Array Value}{T:TypeId}(h:Na w base A n c l)(S:ac w w' g a b T)(hT:(T==24)=false):Na w' base A n c l:=by
 obtain⟨r,h1,h2⟩:=h;refine⟨r,⟨h1.1,?_⟩,h2⟩
 rcases h1.2 with i | ⟨f,cap,d,j,hg,hh,q⟩
 ·exact .inl i
 ·refine .inr ⟨f,cap,d,j,hg,?_,q⟩
  rw[S.2.2.1 f (fun e=>?_)]
  ·exact hh
  ·subst e
   have hb:w.heap[f]?=some (.cells a T (0,0)):=S.1
   rw[hh]at hb
   simp at hb
   rw[<-hb.2]at hT
   simp at hT
theorem Bo.grownN{w w':World}{base n c g:Nat}{A:Option Addr}{l:List Int}{a:Array Value}{T:TypeId}(X:Bo w g a T)(h:Na w base A n c l)(hT:(T==24)=false)(G:w.grownBy w' (bm A)):Bo w' g a T:=by
 refine X.keep (G.block g X.lt (fun e=>?_))
 obtain⟨r,h1,h2⟩:=h
 rcases h1.2 with⟨d,_⟩ | ⟨i,cap,b,f,hg,hh,q⟩
 ·injection d with h4
  subst h4
  cases e
 ·injection f with h4
  subst h4
  cases e
  have hb:=X
  unfold Bo at hb
  rw[hh]at hb
  simp at hb
  rw[<-hb.2]at hT
  simp at hT
theorem pj{A A2 B B2:Option Addr}{s1 s2:Nat}(hne:∀k,bm A=some k->bm B≠some k)(a1:bm A2=bm A\/bm A2=some s1)(a2:bm B2=bm B\/bm B2=some s2)(lB:∀k,bm B=some k->k < s1)(lA:∀k,bm A2=some k->k < s2):∀k,bm A2=some k->bm B2≠some k:=by
 intro k h c
 have a:=lA k h
 rcases a2 with e | e
 ·rw[e]at c;have hb:=lB k c
  rcases a1 with f | f
  ·rw[f]at h;exact hne k h c
  ·rw[f]at h
   injection h with h
   omega
 ·rw[e]at c
  injection c with c
  omega
theorem Cy{A B:Option Addr}(hne:∀k,bm A=some k->bm B≠some k):bm B=none\/bm B≠bm A:=by
 rcases h:bm B with _ | k
 ·exact .inl rfl
 ·exact .inr (fun c=>hne k c.symm h)
theorem wq{A B:Option Addr}(hne:∀k,bm A=some k->bm B≠some k):bm A=none\/bm A≠bm B:=by
 rcases h:bm A with _ | k
 ·exact .inl rfl
 ·exact .inr (fun c=>hne k h c.symm)
def Ja (w:World)(A B:Option Addr)(m c d:Nat)(la lb:List Int)(wr:World):Prop:=
 Na wr w.heap.size A m c la/\Na wr w.heap.size B m d lb/\(∀k,bm A=some k->bm B≠some k)/\Below w.heap.size w wr
theorem Bv{w:World}{A:Option Addr}{n c m:Nat}{l:List Sp}(h:kJ w A n c l)(hm:(dV l).length=m):Calls prog 79 #[.slice A n c] w (fun e w'=>∃A1 c1 B1 d1,e= .returned (.tuple #[.slice A1 m c1,.slice B1 m d1])/\Nl w' A1 m c1 (dV l)/\Nl w' B1 m d1 (dE l)/\Below w.heap.size w w'):=by
 have HM:=ie hm;have S:=ie h.1;have hE:=h.2.1;have hD:=h.2.2.1;have bA:=h;clear hm h
 go_enter func79,ntmps79
 go_wp2
 go_loopw [2,3,8] (fun va vb i wr=>∃k A1 B1 X c1 d1,k<=n/\X<=k/\va= .slice A1 X c1/\vb= .slice B1 X d1/\i= .int .i64 ((k:Nat):Int)/\Ja w A1 B1 X c1 d1 (dV (l.take k)) (dE (l.take k)) wr) (fun _ _ i _=>n-(intOf i).toNat)
 case atStart=>exact ⟨0,_,_,_,_,_,Nat.zero_le _,Nat.zero_le _,rfl,rfl,rfl,Na.nil _ _,Na.nil _ _,(fun k h=>by cases h),Below.refl _ _⟩
 case round=>
  obtain⟨k,A1,B1,X,c1,d1,Q,hF,rfl,rfl,rfl,f,d,bN,hB⟩:=hrel;have a:=ie hB;clear hB
  by_cases hlt:k < n
  ·have hC:decide ((k:Int) < (n:Int))=true:=by simp;omega
   have h:=bA.below a.out;obtain⟨b,o,rfl,hcell⟩:=h.2.2.2 (by omega);obtain⟨e,D,s,M,E,D',s',M',E',x0,x1,x2,x3,x4,x5,x6,x7,x8,hM,bB,hx⟩:=hcell k hlt;clear hcell h bA
   have i1:(k:Int) < n:=by omega
   have i2:(0:Int)<=k:=by omega
   have O:=oz (l:=l) (k:=k) (by rw[S.out];exact hlt);have N:=mz (l:=l) (k:=k) (by rw[S.out];exact hlt);rw[<-hx]at O N;generalize dV (l.take k)=la at *;generalize dE (l.take k)=lb at *;obtain⟨x,hX⟩:∃x,iJ e D s M E D' s' M' E'=x:=⟨_,rfl⟩;rw[hX]at O N;have HX:=ie hX;have L:=ie O;have J:=ie N
   have I:=ie bN;clear O N hX hx bN;have gP:=a.out.size
   go_upto_region 4 with fail
   clear x0 x1 x2 x3 x4 x5 x6 x7 x8;generalize bC:wr.alloc _=w3 at *;obtain⟨g,BW⟩:=Bo.nw bC;clear bC;refine aF ?_ f d a BW;clear f d a BW;intro f d a;have j:=g.cell
   go_wp2_with fail
   refine(Gx hM bB HX.out).mono ?_;rintro ee w4 ⟨e1,W,s1,P,V,C,H,F,y,rfl,v1,B⟩;clear j;refine aR ?_ g f d a B;clear g f d a B;intro g f d a;clear HX hM bB;have j:=g.cell;have gB:=g.frozen
   go_upto_region 5 with fail
   clear j gB;generalize hS:((((((((w4.setCell _ _).setCell _ _).setCell _ _).setCell _ _).setCell _ _).setCell _ _).setCell _ _).setCell _ _).setCell _ _=w5 at *;have Y:=ac.of9 g hS;replace f:=f.stn Y (by decide);replace d:=d.stn Y (by decide);replace a:=ie (Y.below a.out gP);replace g:=Y.box;clear Y hS
   rcases x with _ | ⟨xa,xb⟩
   ·obtain⟨rfl,y1,fP⟩:=v1;have u:=L.out;have t:=J.out
    have bH:la ++I8 none=la:=List.append_nil la
    have bD:lb ++zn none=lb:=List.append_nil lb
    rw[bH]at u;rw[bD]at t;clear L J bH bD
    obtain⟨_,rfl,rfl,rfl,rfl,rfl,rfl,rfl,rfl⟩:=(show Ci true W s1 P V C H F y none from ⟨rfl,y1,fP⟩).uniq Ci.none
    clear y1 fP;refine bF [0,1,2] [15,16,17] [[],[],[0,1]] 3 0 [Jo.q9 true 0 false 0 0 0 false 0 0,Jo.q9 true 0 false 0 0 0 false 0 0,Jo.qb false] ?_ ?_
    ·refine jm ?_ ?_
     ·rintro wj p K G;have j:=(g.b p).cell;go_simp;exact G.out _ _ rfl (br _ _)
     refine jm ?_ ?_
     ·rintro wj p K G;go_simp;refine(dr).mono ?_;rintro ee wk ⟨rfl,B⟩;exact G.out _ _ rfl B
     refine jm ?_ ?_
     ·rintro wj p _ rfl _ rfl K G;go_simp
      repeat' split
      all_goals exact G.out _ _ (congrArg Value.bool (by first | rfl | (exfalso;simp_all) | simp_all)) (br _ _)
     exact jo
    rintro w6 p _ rfl _ rfl _ rfl -;simp only[Jo.z];replace g:=g.b p;replace f:=f.b p;replace d:=d.b p;replace a:=ak a p;refine jd ?_;go_wp2
    go_roundw
    case rel=>exact ⟨k+1,_,_,_,_,_,by omega,by omega,rfl,rfl,by go_num,by rw[u];exact f,by rw[t];exact d,I.out,a.out⟩
    case measure=>simp [intOf];omega
   ·obtain⟨rfl,a1,b1,o1,hA,gS⟩:=v1
    have u:_=la ++[xa]:=L.out
    have t:_=lb ++[xb]:=J.out
    clear L J o1 hA gS;refine bF [0,1,2] [15,16,17] [[],[],[0,1]] 3 0 [Jo.q9 false W s1 P V C H F y,Jo.q9 true 0 false 0 0 0 false 0 0,Jo.qb true] ?_ ?_
    ·refine jm ?_ ?_
     ·rintro wj p K G;have j:=(g.b p).cell;go_simp;exact G.out _ _ rfl (br _ _)
     refine jm ?_ ?_
     ·rintro wj p K G;go_simp;refine(dr).mono ?_;rintro ee wk ⟨rfl,B⟩;exact G.out _ _ rfl B
     refine jm ?_ ?_
     ·rintro wj p _ rfl _ rfl K G;go_simp
      repeat' split
      all_goals exact G.out _ _ (congrArg Value.bool (by first | rfl | (exfalso;simp_all) | simp_all)) (br _ _)
     exact jo
    rintro w6 p _ rfl _ rfl _ rfl -;simp only[Jo.z];replace g:=g.b p;replace f:=f.b p;replace d:=d.b p;replace a:=ak a p;refine jd ?_;have j:=g.cell
    go_wp2_with (at_builtin;refine jE rfl _ _ rfl rfl rfl (f.below (af _ _)) a1 (Bo.new _ _ _) (by omega) (Nat.le_trans a.out.size (af _ _).size) ?_)
    intro A2 d2 w7 T G1 U
    clear j;have r:=bt a.out (af _ (.cells #[.int .i64 W,.bool s1,.int .u64 P,.int .i64 V] 24));have q:=f.below (af _ (.cells #[.int .i64 W,.bool s1,.int .u64 P,.int .i64 V] 24));have v:=d.below (af _ (.cells #[.int .i64 W,.bool s1,.int .u64 P,.int .i64 V] 24));replace g:=(g.below (af _ (.cells #[.int .i64 W,.bool s1,.int .u64 P,.int .i64 V] 24))).grownN q (by decide) G1
    replace a:=ie (r.grown G1 r.size (fun k Q=>(q.own_lt k Q).1))
    have l1:∀k,bm B1=some k->k < w6.heap.size+1:=fun k Q=>by
     have:=(v.own_lt k Q).2
     simpa using this
    replace d:=v.kept G1 (Cy I.out);clear f q v G1 r;have j:=g.cell
    go_wp2_with (at_builtin;refine jE rfl _ _ rfl rfl rfl (d.below (af _ _)) b1 (Bo.new _ _ _) (by omega) (Nat.le_trans a.out.size (af _ _).size) ?_)
    intro B2 d3 w8 gO G2 Z
    clear j;have r:=bt a.out (af _ (.cells #[.int .i64 C,.bool H,.int .u64 F,.int .i64 y] 24));have v:=d.below (af _ (.cells #[.int .i64 C,.bool H,.int .u64 F,.int .i64 y] 24));have q:=T.below (af _ (.cells #[.int .i64 C,.bool H,.int .u64 F,.int .i64 y] 24))
    have lA:∀k,bm A2=some k->k < w7.heap.size+1:=fun k Q=>by
     have:=(q.own_lt k Q).2
     simpa using this
    have fH:∀k,bm A2=some k->bm B2≠some k:=pj I.out U Z l1 lA
    have R:∀k,bm A2=some k->bm B1≠some k:=pj I.out U (.inl rfl) l1 lA
    replace a:=ie (r.grown G2 r.size (fun k Q=>(v.own_lt k Q).1))
    replace T:=q.kept G2 (wq R)
    clear q v G2 r R g d l1 lA U Z;go_wp2
    go_roundw
    case rel=>exact ⟨k+1,_,_,_,_,_,by omega,by omega,rfl,rfl,by go_num,by rw[u];exact T,by rw[t];exact gO,fH,a.out⟩
    case measure=>simp [intOf];omega
  ·obtain rfl:k=n:=by omega
   have hC:decide ((k:Int) < (k:Int))=false:=by simp
   have e1:l.take k=l:=List.take_of_length_le (by rw[S.out];omega)
   rw[e1]at f d
   obtain rfl:X=m:=by rw[<-HM.out];exact f.len.symm
   have P:=f.nl (by omega);have M2:=d.nl (by omega);clear f d;go_wp2
   go_ret2
   exact⟨_,_,_,_,rfl,P,M2,a.out⟩
theorem pe{w:World}{A:Option Addr}{n c:Nat}{l:List Sp}{z:Sp}(h:kJ w A n c l)(hr:jJ l=z):Calls prog 26 #[.slice A n c] w (PV w z):=by
 obtain⟨m,hm⟩:∃m,(dV l).length=m:=⟨_,rfl⟩;have q:=h.1;have p:=mE l;have r:=h.ok;have I:=ie hm
 go_enter func26,ntmps26
 go_upto_region 1 with fail
 generalize o:w.alloc _=w1 at *;obtain⟨a,d⟩:=Bo.en1 o;replace h:=h.below d.out;clear o
 go_wp2_with fail
 refine(Bv h I.out).mono ?_;rintro s W ⟨A1,c1,R,V,rfl,j,f,B⟩;replace a:=a.b B;replace d:=ak d B;clear B;clear h
 by_cases hl:m < n
 ·rw[Fd (by omega)]at hr
  obtain rfl:none=z:=hr
  have O:decide ((m:Int) < (n:Int))=true:=by simp;omega
  clear hm p q r
  go_wp2_with fail
  refine(dr).mono ?_;rintro s Q ⟨rfl,B⟩;refine aR ?_ a j f d B;clear a j f d B;intro a j f d;clear j f;have i:=a.cell;have e:=a.frozen;go_wp2;clear i e;have k:=ac.t9 a true 0 false 0 0 0 false 0 0
  exact bq (by simp[results,results26,go_sem,k.box.cell]) rfl ⟨_,_,_,_,_,_,_,_,_,rfl,Ci.none,(k.below d.out (by omega))⟩
 ·have g:=(yt (by omega)).symm.trans hr
  have O:decide ((m:Int) < (n:Int))=false:=by simp;omega
  clear hr;obtain⟨u,D⟩:∃u,nD (dV l)=u:=⟨_,rfl⟩;obtain⟨v,E⟩:∃v,oE (dE l)=v:=⟨_,rfl⟩;rw[D,E]at g;have L:=ie D;have x:=ie E;have J:=ie g;clear D E g hm p q r
  go_wp2_with fail
  refine(rg j L.out).mono ?_;rintro s Q ⟨T,s1,U,S,rfl,G,B⟩;refine aF ?_ a f d B;clear a f d B;intro a f d
  go_wp2_with fail
  refine(sY f x.out).mono ?_;rintro s X ⟨K2,s2,M2,E2,rfl,H,B⟩;replace a:=a.b B;replace d:=ak d B;clear B
  go_wp2_with fail
  refine(iq G.top H.top G.rk H.rk J.out).mono ?_;rintro s Y ⟨e3,M,s3,N,E3,y,F,C,t,rfl,P,B⟩;replace a:=a.b B;replace d:=ak d B;clear B;clear j f;have i:=a.cell;have e:=a.frozen;go_wp2;clear i e;have k:=ac.t9 a e3 M s3 N E3 y F C t
  exact bq (by simp[results,results26,go_sem,k.box.cell]) rfl ⟨_,_,_,_,_,_,_,_,_,rfl,P,(k.below d.out (by omega))⟩
theorem Hw{w:World}{A:Option Addr}{n c:Nat}{l:List Sp}{z:Sp}(h:kJ w A n c l)(hr:mA l=z):Calls prog 59 #[.slice A n c] w (PV w z):=by
 obtain⟨m,hm⟩:∃m,(dV l).length=m:=⟨_,rfl⟩;have t:=h.1;have s:=mE l;have i:=h.ok;have I:=ie hm
 go_enter func59,ntmps59
 go_upto_region 1 with fail
 generalize g:w.alloc _=w1 at *;obtain⟨a,d⟩:=Bo.en1 g;replace h:=h.below d.out;clear g
 go_wp2_with fail
 refine(Bv h I.out).mono ?_;rintro r U ⟨A1,c1,P,T,rfl,E,f,B⟩;replace a:=a.b B;replace d:=ak d B;clear B;clear h;have e:=(xI i).symm.trans hr;clear hr;obtain⟨u,x⟩:∃u,oE (dV l)=u:=⟨_,rfl⟩;obtain⟨v,y⟩:∃v,nD (dE l)=v:=⟨_,rfl⟩;rw[x,y]at e;have L:=ie x;have o:=ie y;have J:=ie e
 clear x y e hm s t i
 go_wp2_with fail
 refine(sY E L.out).mono ?_;rintro r V ⟨R,s1,S,Q,rfl,G,B⟩;refine aF ?_ a f d B;clear a f d B;intro a f d
 go_wp2_with fail
 refine(rg f o.out).mono ?_;rintro r W ⟨K2,s2,M2,E2,rfl,H,B⟩;replace a:=a.b B;replace d:=ak d B;clear B
 go_wp2_with fail
 refine(iq G.top H.top G.rk H.rk J.out).mono ?_;rintro r X ⟨e3,M,s3,N,E3,p,C,q,k,rfl,O,B⟩;replace a:=a.b B;replace d:=ak d B;clear B;clear E f;have D:=a.cell;have j:=a.frozen;go_wp2;clear D j;have F:=ac.t9 a e3 M s3 N E3 p C q k
 exact bq (by simp[results,results59,go_sem,F.box.cell]) rfl ⟨_,_,_,_,_,_,_,_,_,rfl,O,(F.below d.out (by omega))⟩
def Rw (e:Bool)(K:Int)(s:Bool)(M E K':Int)(s':Bool)(M' E':Int)(x:Sp):Prop:=M < 18446744073709551616/\M' < 18446744073709551616/\iJ e K s M E K' s' M' E'=x
theorem Ci.rw{e:Bool}{K M E K' M' E':Int}{s s':Bool}{x:Sp}(h:Ci e K s M E K' s' M' E' x):Rw e K s M E K' s' M' E' x:=⟨h.top.1,h.top.2,h.rk⟩
def Jo.Fact.il8 (n:Nat)(l:List Sp):Jo.Fact:=⟨fun v w=>∃A c,v= .slice A n c/\kJ w A n c l,fun v w w' h b=>by
 obtain⟨A,c,e,h⟩:=h;exact⟨A,c,e,h.below b⟩⟩
theorem kJ.lit1{W:World}{h:Nat}{K1 M1 E1 G1 P1 Q1:Int}{e1 s1 g1:Bool}{x1:Sp}(hg:W.heap.size=h)(v1:Rw e1 K1 s1 M1 E1 G1 g1 P1 Q1 x1):
  kJ (W.alloc (.cells #[.bool e1,.int .i64 K1,.bool s1,.int .u64 M1,.int .i64 E1,.int .i64 G1,.bool g1,.int .u64 P1,.int .i64 Q1] 26)) (some ⟨h,0,none⟩) 1 1 [x1]:=by
 subst hg;have hh:=heap_alloc_new W (.cells #[.bool e1,.int .i64 K1,.bool s1,.int .u64 M1,.int .i64 E1,.int .i64 G1,.bool g1,.int .u64 P1,.int .i64 Q1] 26)
 refine⟨rfl,Nat.le_refl _,by decide,fun _=>⟨_,0,rfl,fun k hk=>?_⟩⟩
 obtain rfl:k=0:=by omega
 exact⟨e1,K1,s1,M1,E1,G1,g1,P1,Q1,by rw[cell_of_row _ _ _ _ _ _ hh];rfl,by rw[cell_of_row _ _ _ _ _ _ hh];rfl,by rw[cell_of_row _ _ _ _ _ _ hh];rfl,by rw[cell_of_row _ _ _ _ _ _ hh];rfl,by rw[cell_of_row _ _ _ _ _ _ hh];rfl,by rw[cell_of_row _ _ _ _ _ _ hh];rfl,by rw[cell_of_row _ _ _ _ _ _ hh];rfl,by rw[cell_of_row _ _ _ _ _ _ hh];rfl,by rw[cell_of_row _ _ _ _ _ _ hh];rfl,v1.1,v1.2.1,v1.2.2⟩
theorem kJ.lit2{W:World}{h:Nat}{K1 M1 E1 G1 P1 Q1 K2 M2 E2 G2 P2 Q2:Int}{e1 s1 g1 e2 s2 g2:Bool}{x1 x2:Sp}(hg:W.heap.size=h)(v1:Rw e1 K1 s1 M1 E1 G1 g1 P1 Q1 x1)(v2:Rw e2 K2 s2 M2 E2 G2 g2 P2 Q2 x2):
  kJ (W.alloc (.cells #[.bool e1,.int .i64 K1,.bool s1,.int .u64 M1,.int .i64 E1,.int .i64 G1,.bool g1,.int .u64 P1,.int .i64 Q1,.bool e2,.int .i64 K2,.bool s2,.int .u64 M2,.int .i64 E2,.int .i64 G2,.bool g2,.int .u64 P2,.int .i64 Q2] 26)) (some ⟨h,0,none⟩) 2 2 [x1,x2]:=by
 subst hg;have hh:=heap_alloc_new W (.cells #[.bool e1,.int .i64 K1,.bool s1,.int .u64 M1,.int .i64 E1,.int .i64 G1,.bool g1,.int .u64 P1,.int .i64 Q1,.bool e2,.int .i64 K2,.bool s2,.int .u64 M2,.int .i64 E2,.int .i64 G2,.bool g2,.int .u64 P2,.int .i64 Q2] 26)
 refine⟨rfl,Nat.le_refl _,by decide,fun _=>⟨_,0,rfl,fun k hk=>?_⟩⟩
 rcases (by omega:k=0\/k=1)with rfl | rfl
 ·exact⟨e1,K1,s1,M1,E1,G1,g1,P1,Q1,by rw[cell_of_row _ _ _ _ _ _ hh];rfl,by rw[cell_of_row _ _ _ _ _ _ hh];rfl,by rw[cell_of_row _ _ _ _ _ _ hh];rfl,by rw[cell_of_row _ _ _ _ _ _ hh];rfl,by rw[cell_of_row _ _ _ _ _ _ hh];rfl,by rw[cell_of_row _ _ _ _ _ _ hh];rfl,by rw[cell_of_row _ _ _ _ _ _ hh];rfl,by rw[cell_of_row _ _ _ _ _ _ hh];rfl,by rw[cell_of_row _ _ _ _ _ _ hh];rfl,v1.1,v1.2.1,v1.2.2⟩
 ·exact⟨e2,K2,s2,M2,E2,G2,g2,P2,Q2,by rw[cell_of_row _ _ _ _ _ _ hh];rfl,by rw[cell_of_row _ _ _ _ _ _ hh];rfl,by rw[cell_of_row _ _ _ _ _ _ hh];rfl,by rw[cell_of_row _ _ _ _ _ _ hh];rfl,by rw[cell_of_row _ _ _ _ _ _ hh];rfl,by rw[cell_of_row _ _ _ _ _ _ hh];rfl,by rw[cell_of_row _ _ _ _ _ _ hh];rfl,by rw[cell_of_row _ _ _ _ _ _ hh];rfl,by rw[cell_of_row _ _ _ _ _ _ hh];rfl,v2.1,v2.2.1,v2.2.2⟩
abbrev V9:=Bool × Int × Bool × Int × Int × Int × Bool × Int × Int
def gl:List V9->List Value
 | []=>[]
 | (e,K,s,M,E,K',s',M',E')::l=> .bool e:: .int .i64 K:: .bool s:: .int .u64 M:: .int .i64 E:: .int .i64 K':: .bool s':: .int .u64 M':: .int .i64 E'::gl l
theorem ly:∀l m,gl (l ++m)=gl l ++gl m
 | [],m=>rfl
 | (e,K,s,M,E,K',s',M',E')::l,m=>by
  show _::_::_::_::_::_::_::_::_::gl (l ++m)=_
  rw[ly l m]
  rfl
theorem rM:∀l,(gl l).length=l.length*9
 | []=>rfl
 | (e,K,s,M,E,K',s',M',E')::l=>by
  show (gl l).length+9=(l.length+1)*9
  rw[rM l]
  omega
theorem rN:∀(l:List V9),∀u ∈ gl l,u.oneCell'=true
 | [],u,h=>by cases h
 | (e,K,s,M,E,K',s',M',E')::l,u,h=>by
  simp only[gl,List.mem_cons]at h
  rcases h with rfl | rfl | rfl | rfl | rfl | rfl | rfl | rfl | rfl | h
  iterate 9 rfl
  exact rN l u h
theorem wZ:∀(l:List V9) (k:Nat) (e:Bool) (K:Int) (s:Bool) (M E K':Int) (s':Bool) (M' E':Int),l[k]?=some (e,K,s,M,E,K',s',M',E')->(gl l)[k*9]?=some (.bool e)/\(gl l)[k*9+1]?=some (.int .i64 K)/\(gl l)[k*9+2]?=some (.bool s)/\(gl l)[k*9+3]?=some (.int .u64 M)/\(gl l)[k*9+4]?=some (.int .i64 E)/\(gl l)[k*9+5]?=some (.int .i64 K')/\(gl l)[k*9+6]?=some (.bool s')/\(gl l)[k*9+7]?=some (.int .u64 M')/\(gl l)[k*9+8]?=some (.int .i64 E')
 | [],k,_,_,_,_,_,_,_,_,_,h=>by cases h
 | (e,K,s,M,E,K',s',M',E')::l,0,_,_,_,_,_,_,_,_,_,h=>by
  cases h
  exact⟨rfl,rfl,rfl,rfl,rfl,rfl,rfl,rfl,rfl⟩
 | (e,K,s,M,E,K',s',M',E')::l,k+1,e2,K2,s2,M2,E2,K2',s2',M2',E2',h=>by
  have:=wZ l k e2 K2 s2 M2 E2 K2' s2' M2' E2' h
  have e:(k+1)*9=k*9+9:=by omega
  rw[e];exact this
def Ia (w:World)(base:Nat)(A:Option Addr)(n c:Nat)(l:List Sp):Prop:=
 ∃r:List V9,w.ownsRow base 26 9 (.slice A n c) n (gl r)/\r.length=n/\l.length=n/\∀k,k < n->∃e K s M E K' s' M' E',r[k]?=some (e,K,s,M,E,K',s',M',E')/\Ci e K s M E K' s' M' E' (l.getD k none)
theorem Hs:(prog.info? 26).map (fun i=>(i.zero,i.size,i.bytes))=some (some (.agg #[.bool false,.int .i64 0,.bool false,.int .u64 0,.int .i64 0,.int .i64 0,.bool false,.int .u64 0,.int .i64 0]),9,72):=by kernel_rfl
section
variable {w w':World} {base n c:Nat} {A:Option Addr} {l:List Sp}
theorem Ia.nil (w:World)(base:Nat):Ia w base none 0 0 []:=⟨[],World.ownsRow_nil w base _ 9,rfl,rfl,fun k h=>absurd h (Nat.not_lt_zero _)⟩
theorem Ia.len (h:Ia w base A n c l):l.length=n:=by
 obtain⟨_,_,_,h,_⟩:=h;exact h
theorem Ia.below (h:Ia w base A n c l)(hb:Below w.heap.size w w'):Ia w' base A n c l:=by
 obtain⟨r,h1,h2⟩:=h;refine⟨r,⟨h1.1,?_⟩,h2⟩
 rcases h1.2 with b | ⟨g,cap,a,d,hg,hh,q⟩
 ·exact .inl b
 ·refine .inr ⟨g,cap,a,d,hg,?_,q⟩;rw[hb.block g (Array.getElem?_eq_some_iff.1 hh).1];exact hh
abbrev Ia.b:= @Ia.below
instance:Mv (Ia w base A n c l) w w' (Ia w' base A n c l):=⟨fun h b=>h.below b⟩
theorem Ia.own_lt (h:Ia w base A n c l):∀k,bm A=some k->base<=k/\k < w.heap.size:=by
 obtain⟨r,h1,h2⟩:=h
 intro k a
 exact h1.lt k (by rw[jY];exact a)
theorem Ia.cells (h:Ia w base A n c l)(h0:0 < n):∃g,A=some ⟨g,0,none⟩/\n<=c/\∃r:List V9,r.length=n/\(∀k,k < n->∃e K s M E K' s' M' E',r[k]?=some (e,K,s,M,E,K',s',M',E')/\Ci e K s M E K' s' M' E' (l.getD k none))/\∀j v,(gl r)[j]?=some v->w.cell? ⟨g,0+j,none⟩=some v:=by
 obtain⟨r,h1,h2,f,h4⟩:=h
 rcases h1.2 with⟨e1,e2⟩ | ⟨g,cap,b,a,hg,hh,d,hm,hs,ht⟩
 ·omega
 ·injection a with a1 a2 a3
  subst a1;subst a3
  refine⟨g,rfl,d,r,h2,h4,fun j v a=>?_⟩
  rw[cell_of_row w g (0+j) _ _ (0,0) hh,Nat.zero_add,<-Array.getElem?_toList];rw[<-ht,List.getElem?_take]at a
  split at a
  ·exact a
  ·cases a
theorem Ia.il (h:Ia w base A n c l)(hn:n<=1099511627776):kJ w A n c l:=by
 rcases Nat.eq_zero_or_pos n with b | b
 ·subst b;have hl:=h.len;obtain⟨r,h1,_⟩:=h
  rcases h1.2 with⟨e1,e2⟩ | ⟨g,cap,i,m,hg,hh,d,hm,hs,ht⟩
  ·injection e1 with a1 a2 a3
   subst a3
   exact⟨hl,Nat.le_refl _,by omega,fun h=>absurd h (Nat.lt_irrefl _)⟩
  ·exact⟨hl,Nat.zero_le _,by omega,fun h=>absurd h (Nat.lt_irrefl _)⟩
 ·obtain⟨g,rfl,d,r,h2,h4,a⟩:=h.cells b
  refine⟨h.len,d,hn,fun _=>⟨g,0,rfl,fun k hk=>?_⟩⟩
  obtain⟨e,K,s,M,E,K',s',M',E',j,q⟩:=h4 k hk;obtain⟨c0,c1,c2,c3,c4,c5,c6,c7,f⟩:=wZ r k e K s M E K' s' M' E' j;refine⟨e,K,s,M,E,K',s',M',E',a _ _ c0,?_,?_,?_,?_,?_,?_,?_,?_,q.top.1,q.top.2,q.rk⟩
  all_goals rw[Nat.add_assoc]
  ·exact a _ _ c1
  ·exact a _ _ c2
  ·exact a _ _ c3
  ·exact a _ _ c4
  ·exact a _ _ c5
  ·exact a _ _ c6
  ·exact a _ _ c7
  ·exact a _ _ f
theorem Ia.lit{g:Nat}{e s s':Bool}{K M E K' M' E':Int}{x:Sp}(X:Bo w g #[.bool e,.int .i64 K,.bool s,.int .u64 M,.int .i64 E,.int .i64 K',.bool s',.int .u64 M',.int .i64 E'] 26)(q:Ci e K s M E K' s' M' E' x):Ia w g (some ⟨g,0,none⟩) 1 1 [x]:=by
 refine⟨[(e,K,s,M,E,K',s',M',E')],⟨rfl,.inr ⟨g,1,_,rfl,Nat.le_refl _,X,Nat.le_refl _,by decide,rfl,rfl⟩⟩,rfl,rfl,fun k hk=>?_⟩
 obtain rfl:k=0:=by omega
 exact⟨e,K,s,M,E,K',s',M',E',rfl,q⟩
theorem G4 (g j:Nat):(⟨g,0,none⟩:Addr).add j=⟨g,0+j,none⟩:=by
 unfold Addr.add
 split
 ·rename_i h
  subst h
  rfl
 ·rfl
theorem IB{ty:TypeId}{base2 m d:Nat}{B:Option Addr}{l2:List Sp}(h:Ia w base A n c l)(k:Ia w base2 B m d l2)(h0:0 < m)(hn:n+m<=1000000)(hb:base<=w.heap.size):
  ∃A2 c2 w',(Builtin.append_ #[68,68] ty #[.slice A n c,.slice B m d]).run prog w= .ok (.slice A2 (n+m) c2) w'/\Ia w' base A2 (n+m) c2 (l ++l2)/\w.grownBy w' (bm A)/\(bm A2=bm A\/bm A2=some w.heap.size):=by
 obtain⟨i,hi,hz,D,x⟩:=info_parts Hs;have z:=k.len;obtain⟨g,rfl,Q,q,I,M,p⟩:=k.cells h0;obtain⟨r,h1,h2,H,h4⟩:=h
 obtain⟨N,w',J,C,hg,_,f⟩:=run_append_own_at (P:=prog) w base 68 ty 26 i _ 9 72 Tryz.underlying68 hi hz D x rfl (by decide) _ n (gl r) h1 ⟨g,0,none⟩ m d (gl q) (by rw[rM,I])
  (fun j u hj=>by rw[G4];exact p j u hj) (rN q) (by unfold maxLen;omega) (by omega) hb
 rw[jY]at hg f;rw[<-ly]at C
 obtain⟨A2,c2,rfl⟩:∃A2 c2,N= .slice A2 (n+m) c2:=by
  rcases C.2 with⟨_,h0⟩ | ⟨O,F,G,L,_⟩
  ·omega
  ·exact⟨_,_,L⟩
 rw[jY]at f
 refine⟨A2,c2,w',J,⟨_,C,by rw[List.length_append,h2,I],by rw[List.length_append,H,z],fun j hj=>?_⟩,hg,f⟩
 by_cases y:j < n
 ·obtain⟨e1,t,s1,v,s,b,o,e,a,hq,E⟩:=h4 j y;refine⟨e1,t,s1,v,s,b,o,e,a,by rw[List.getElem?_append_left (by omega)];exact hq,?_⟩
  rw[List.getD_eq_getElem?_getD,List.getElem?_append_left (by omega),<-List.getD_eq_getElem?_getD];exact E
 ·obtain⟨e1,t,s1,v,s,b,o,e,a,hq,E⟩:=M (j-n) (by omega);refine⟨e1,t,s1,v,s,b,o,e,a,by rw[List.getElem?_append_right (by omega),h2];exact hq,?_⟩
  rw[List.getD_eq_getElem?_getD,List.getElem?_append_right (by omega),H,<-List.getD_eq_getElem?_getD];exact E
theorem zf{ops:Array Oper}{rest:List Oper}{o:Oper}{a:Act}{Q:Exit->Act->World->Prop}(hgd:o.guard=none)(s x:Operand)
  (ho:o.op= .call {callee:= .builtin .append,args:= #[s,x],argTypes:= #[68,68]}) {base2 m d:Nat} {B:Option Addr} {l2:List Sp}
  (hs:a.eval s= .slice A n c) (hx:a.eval x= .slice B m d) (h:Ia w base A n c l) (k:Ia w base2 B m d l2) (h0:0 < m) (hn:n+m<=1000000) (hb:base<=w.heap.size)
  (hK:∀A2 c2 w',Ia w' base A2 (n+m) c2 (l ++l2)->w.grownBy w' (bm A)->(bm A2=bm A\/bm A2=some w.heap.size)->wpList prog ops Q rest (a.put o.dst (.slice A2 (n+m) c2)) w'):wpList prog ops Q (o::rest) a w:=by
 refine wpList_plain hgd fun K hK2=>?_
 obtain⟨A2,c2,w',e,h1,h2,b⟩:=IB (ty:=o.type) h k h0 hn hb
 unfold Oper.wp execOp
 simp only[ho,resolve,invoke,builtin,Sem.run_bind,Sem.run_pure,Result.andThen_ok,List.map_toArray,List.map_cons,List.map_nil,hs,hx,e];exact hK2 _ _ (hK A2 c2 w' h1 h2 b)
end
theorem EQ{w:World}{e:Bool}{D M E D' M' E':Int}{s s':Bool}{x:Sp}{r:Int}(hT:Tb w)(hM:LQ M)(hM':LQ M')(hx:iJ e D s M E D' s' M' E'=x)(hr:nU x=r):Calls prog 20 #[VI e D s M E D' s' M' E'] w (PN w r):=by
 delta VI
 have p:=ie hx;clear hx
 go_enter func20,ntmps20
 go_upto_region 1 with fail
 generalize j:(w.alloc _).alloc _=w1 at *;obtain⟨f,a,d⟩:=Bo.en2 j;replace hT:=hT.below d.out;clear j;have c:=f.cell
 go_wp2_with fail
 refine(Gx hM hM' p.out).mono ?_;rintro t I ⟨e1,P,s1,Q,O,F,H,G,A,rfl,v,B⟩;clear c;refine aR ?_ f a hT d B;clear f a hT d B;intro f a hT d;have c:=f.cell;have l:=f.frozen
 go_upto_region 2 with fail
 clear c l;generalize u:((((((((I.setCell _ _).setCell _ _).setCell _ _).setCell _ _).setCell _ _).setCell _ _).setCell _ _).setCell _ _).setCell _ _=R at *;have g:=ac.of9 f u;replace a:=a.s g;replace hT:=hT.s g;replace d:=bi d g (by omega);replace f:=g.box;clear g u
 clear p hM hM'
 rcases x with _ | ⟨L,N⟩
 ·obtain⟨rfl,z,k⟩:=v
  obtain rfl:0=r:=hr
  have c:=f.cell
  go_wp2_with fail
  refine(Jl hT k.top z.top k.rk (y:=0) (by rw[z.rk];rfl) (r:=0) (fR true (by omega) (by omega))).mono ?_;rintro t J ⟨K2,s2,M2,E2,rfl,o,B⟩;clear c;refine aR ?_ f a hT d B;clear f a hT d B;intro f a hT d;have i:=a.cell;have h:=a.frozen
  go_wp2;clear i h;have g:=ac.t4 a K2 s2 M2 E2;exact bq (by simp[results,results20,go_sem,g.box.cell]) rfl ⟨_,_,_,_,rfl,o,(g.below d.out (by omega))⟩
 ·obtain⟨rfl,a1,q,o1,n,m⟩:=v
  have C:=ie (show ay true N (-L)=r from hr)
  clear hr o1 n m;have c:=f.cell
  go_wp2_with fail
  refine(Jl hT q.top a1.top q.rk (by rw[a1.rk]) C.out).mono ?_;rintro t J ⟨K2,s2,M2,E2,rfl,o,B⟩;clear c;replace a:=a.b B;replace d:=ak d B;clear B;have i:=a.cell;have h:=a.frozen;go_wp2;clear i h;have g:=ac.t4 a K2 s2 M2 E2
  exact bq (by simp[results,results20,go_sem,g.box.cell]) rfl ⟨_,_,_,_,rfl,o,(g.below d.out (by omega))⟩
end Go.Proofs.YteigedaefgmojaaGreatDoor
namespace Go.Proofs.YteigedaefgmojaaGreatDoor
open Go.Proofs.Tryz
open Go Go.RowKit
set_option linter.unusedVariables false
theorem G7{y z s c S C k t e g:Rat}(y0:0<=y)(y1:y<=1)(z0:0<=z)(z1:z<=1)(yz:z<=y)(v1: -(3*g)<=S-y*C)(v2:S-y*C<=3*g)(u1: -(3*g)<=s-z*c)(u2:s-z*c<=3*g)(cu:2/3<=c)
  (k1: -(101/100)<=k) (k2:k<=101/100) (t0:0<=t) (t2:t<=101/100) (a1: -e<=S-(s*k+c*t)) (a2:S-(s*k+c*t)<=e) (b1: -e<=C-(c*k-s*t)) (b2:C-(c*k-s*t)<=e)
  (he:e*3<=g) (e0:0<=e) (g0:0<=g):t<=101/100*(y-z)+20*g:=by
 have j:=aA (b:=1) (x:=y) (by grind) y1 b1 b2;have l:=aA (b:=101/100) (x:=k) k1 k2 u1 u2;have a:=aA (b:=1) (x:=y) (by grind) y1 u1 u2;have m:=aA (b:=101/100) (x:=t) (by grind) t2 a.1 a.2
 have h:S-y*C=(S-(s*k+c*t))-y*(C-(c*k-s*t))+k*(s-z*c)+t*(y*(s-z*c))-c*((y-z)*k)+c*(t*(1+y*z)):=by grind
 have i:=Rat.mul_nonneg (show 0<=c by grind) (Rat.mul_nonneg t0 (Rat.mul_nonneg y0 z0))
 have o:=Rat.mul_nonneg (show 0<=c by grind) (Rat.mul_nonneg (show 0<=y-z by grind) (show 0<=101/100-k by grind))
 obtain⟨X,d⟩:∃X,X=t-101/100*(y-z):=⟨_,rfl⟩
 have f:c*X<=10*g:=by
  rw[d];generalize S-(s*k+c*t)=A1 at *;generalize y*(C-(c*k-s*t))=A3 at *;generalize k*(s-z*c)=A4 at *;generalize t*(y*(s-z*c))=A5 at *;generalize S-y*C=A7 at *
  grind
 by_cases n:X<=0
 ·grind
 ·have:=Rat.mul_nonneg (show 0<=c-2/3 by grind) (show 0<=X by grind)
  grind
theorem Ee{v u:Int}(h0:0<=v)(h:v<=u)(h1:u<=SC)(near:(u-v)*1099511627776<=SC):bk u*SR<=bk v*SR+152/100*((u-v:Int):Rat)+40:=by
 have b:=bZ
 have J:=Rat.intCast_le_intCast.2 (show (0:Int)<=u-v by omega)
 rw[Rat.intCast_zero]at J
 by_cases n:bk u<=bk v
 ·have:=Rat.mul_le_mul_of_nonneg_right n (Rat.le_of_lt b)
  grind
 obtain⟨d,hd⟩:∃d,bk u=bk v+d:=⟨bk u-bk v,by grind⟩
 obtain⟨R,S⟩:=dJ h0 (by omega:v<=SC);obtain⟨a1,a2⟩:=dJ (by omega:0<=u) h1;obtain⟨Z,q2⟩:=iI
 have E:0<=d:=by grind
 have T:d<=3/2:=by grind
 obtain⟨C,D⟩:=kv h0 (by omega:v<=SC);obtain⟨w,A⟩:=kv (by omega:0<=u) h1
 have t:(v:Rat) /SR<=(u:Rat) /SR:=Rat.le_of_mul_le_mul_right (c:=SR) (by rw[ed,ed];exact Rat.intCast_le_intCast.2 h) b
 obtain⟨g,i⟩:=kB h0 (by omega:v<=SC);obtain⟨e,f⟩:=kB (by omega:0<=u) h1;have F:=oP h0 (by omega:v<=SC);obtain⟨O,p2⟩:=pS (m:=bk v) (h:=d) (by grind) (by grind) (by grind) (by grind);obtain⟨P,Q⟩:=oX (m:=bk v) (h:=d) (by grind) (by grind) (by grind) (by grind);have j:=qy (x:=d) (by grind) (by grind);rw[hd]at e f
 have o:=eL O
 have p:=eK p2
 have q:=eL P
 have s:=eK Q
 obtain⟨e1,e2,e3,G,W,H,V⟩:=AA;have nC:=wO E (by grind)
 have o1:(1:Rat) /SR*SR=1:=Rat.div_mul_cancel (Rat.ne_of_gt b)
 have I:(0:Rat)<=1/SR:=by
  refine Rat.le_of_mul_le_mul_right (c:=SR) ?_ b;rw[o1]
  grind
 have L:ao d<=101/100*((u:Rat) /SR-(v:Rat) /SR)+20*(1/SR):=by
  have N:(3:Rat) /SR=3*(1/SR):=by
   have:(3:Rat) /SR*SR=3:=Rat.div_mul_cancel (Rat.ne_of_gt b)
   refine Rat.le_antisymm (Rat.le_of_mul_le_mul_right (c:=SR) ?_ b) (Rat.le_of_mul_le_mul_right (c:=SR) ?_ b) <;> grind
  rw[N]at e f g i;exact G7 w A C D t e f g i F j.1.1 j.1.2 (by grind) j.2.2 o p q s G H I
 -- so it is small,and the sine is two thirds of it at least
 have X:=ed u;have Y:=ed v;have M:=Rat.intCast_le_intCast.2 near
 rw[Rat.intCast_mul,Rat.intCast_sub,show ((1099511627776:Int):Rat)=1099511627776 from rfl]at M
 have l:((u:Rat) /SR-(v:Rat) /SR)*SR=((u-v:Int):Rat):=by
  rw[Rat.intCast_sub]
  grind
 have small:(u:Rat) /SR-(v:Rat) /SR<=1/1000:=by
  refine Rat.le_of_mul_le_mul_right (c:=SR) ?_ b
  grind
 have g1:(1:Rat) /SR<=1/10000:=by
  refine Rat.le_of_mul_le_mul_right (c:=SR) ?_ b;rw[o1]
  have:=r8
  grind
 have U:d<=1/2:=by grind
 have z:=kA
 have r:=Df.rise (B:=2) (k:=2/3) (by grind) ni (a:=1/2) (x:=0) (h:=d) E (by grind) (by grind) (by grind) (by grind) (by grind) (fun y y1 y2=>vm y1 y2)
 rw[show (0:Rat)+d=d by grind,z]at r
 have fin:d<=152/100*((u:Rat) /SR-(v:Rat) /SR)+30*(1/SR):=by grind
 have m:=Rat.mul_le_mul_of_nonneg_right fin (Rat.le_of_lt b);rw[hd];rw[<-l]
 grind
