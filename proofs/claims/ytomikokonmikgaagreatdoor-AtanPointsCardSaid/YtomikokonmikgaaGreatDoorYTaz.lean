/-
 Contracts that the proof rests on.
-/
import Derived.Test.YtomikokonmikgaaGreatDoorYTay
namespace Go.Proofs.YtomikokonmikgaaGreatDoor
open Go.Proofs.Tryz
open Go Go.RowKit
set_option linter.unusedVariables false
theorem zy:(1/2^189:Rat)<=1/1000/\(1/2^200:Rat)<=1/1000/\(3:Rat) /SR<=1/1000/\(1/2^200:Rat)*3<=1/SR/\(1/2^189:Rat)<=8*(1/SR)/\(0:Rat)<=1/2^200/\(1/2^240:Rat)<=1/1000:=by decide +kernel
theorem j9{v:Int}(h0:0<=v)(h1:v<=SC):0<=(v:Rat) /SR/\(v:Rat) /SR<=1:=by
 have a:=bV;have e:=dT v;exact⟨Rat.le_of_mul_le_mul_right (c:=SR) (by rw[e,Rat.zero_mul];exact Rat.intCast_le_intCast.2 h0) a,Rat.le_of_mul_le_mul_right (c:=SR) (by rw[e,Rat.one_mul];exact Rat.intCast_le_intCast.2 h1) a⟩
theorem kj{v:Int}(h0:0<=v)(h1:v<=SC): -(3/SR)<=am (be v)-(v:Rat) /SR*bg (be v)/\am (be v)-(v:Rat) /SR*bg (be v)<=3/SR:=by
 obtain⟨a,b⟩:=vX h0 h1;have d:=bV
 have e:(3:Rat) /SR*SR=3:=Rat.div_mul_cancel (Rat.ne_of_gt d)
 generalize am (be v)-(v:Rat) /SR*bg (be v)=X at *;generalize (3:Rat) /SR=t at *
 constructor
 ·exact Rat.le_of_mul_le_mul_right (c:=SR) (by grind) d
 ·exact Rat.le_of_mul_le_mul_right (c:=SR) (by grind) d
theorem ot{v:Int}(h0:0<=v)(h1:v<=SC):2/3<=bg (be v):=by
 obtain⟨k,l⟩:=dC h0 h1;obtain⟨u,w⟩:=iz;obtain⟨z,j⟩:=j9 h0 h1;obtain⟨s1,s2⟩:=kj h0 h1;obtain⟨e1,e2,e3,f,i,p,q⟩:=zy;have n:=rB (m:=be v) (by grind) (by grind);obtain⟨c1,c2⟩:=tw (x:=be v) (by grind) (by grind)
 have e:=ew c1
 obtain⟨r,t⟩:=pQ (x:=be v) (by grind) (by grind);generalize am (be v)=s at *;generalize bg (be v)=c at *;generalize (v:Rat) /SR=y at *;generalize (1/2^189:Rat)=a at *;generalize (1/2^200:Rat)=b at *;generalize (3:Rat) /SR=g at *;clear f i
 by_cases h:2/3<=c
 ·exact h
 ·exfalso
  have cm: -(67/100)<=c/\c<=67/100:=⟨by grind,by grind⟩
  have A:=ax (b:=1) (x:=y) (by grind) j cm.1 cm.2
  have d: -(68/100)<=s/\s<=68/100:=⟨by grind,by grind⟩
  have ss:=ax d.1 d.2 d.1 d.2;have o:=ax cm.1 cm.2 cm.1 cm.2
  grind
theorem Fm{y z s c S C k t e g n:Rat}(y0:0<=y)(y1:y<=1)(z0:0<=z)(z1:z<=1)(yz:y<=z)(v1: -(3*g)<=S-y*C)(v2:S-y*C<=3*g)(u1: -(3*g)<=s-z*c)(u2:s-z*c<=3*g)(cu:2/3<=c)
  (k1: -(101/100)<=k) (k2:k<=101/100) (t1: -(101/100)<=t) (t2:t<=101/100) (c2:c<=101/100) (a1: -e<=S-(s*k+c*t)) (a2:S-(s*k+c*t)<=e) (b1: -e<=C-(c*k-s*t)) (b2:C-(c*k-s*t)<=e)
  (he:e*3<=g) (hn:n<=8*g) (e0:0<=e) (g0:0<=g) (kn: -n<=k):t<=30*g:=by
 by_cases u:t<=0
 ·grind
 have a:0<=t:=by grind
 have p:=ax (b:=1) (x:=y) (by grind) y1 b1 b2;have q:=ax (b:=101/100) (x:=k) k1 k2 u1 u2;have d:=ax (b:=1) (x:=y) (by grind) y1 u1 u2;have r:=ax (b:=101/100) (x:=t) t1 t2 d.1 d.2
 have l:S-y*C=(S-(s*k+c*t))-y*(C-(c*k-s*t))+k*(s-z*c)+t*(y*(s-z*c))+c*((z-y)*k)+c*(t*(1+y*z)):=by grind
 have i:=Rat.mul_nonneg y0 z0;have v:=Rat.mul_nonneg a i
 have j:=Rat.mul_nonneg (show 0<=c-2/3 by grind) (show 0<=t*(1+y*z) by grind)
 have w: -(8*g)<=(z-y)*k:=by
  by_cases h:0<=k
  ·have:=Rat.mul_nonneg (show 0<=z-y by grind) h
   grind
  ·have:=Rat.mul_nonneg (show 0<=1-(z-y) by grind) (show 0<= -k by grind)
   grind
 have f: -(9*g)<=c*((z-y)*k):=by
  have m:=Rat.mul_nonneg (show 0<=c by grind) (show 0<=(z-y)*k+8*g by grind)
  have o:=Rat.mul_nonneg (show 0<=101/100-c by grind) g0
  grind
 generalize S-(s*k+c*t)=A1 at *;generalize y*(C-(c*k-s*t))=A3 at *;generalize k*(s-z*c)=A4 at *;generalize t*(y*(s-z*c))=A5 at *;generalize c*((z-y)*k)=A6 at *;generalize S-y*C=A7 at *
 grind
theorem fO{v u:Int}(h0:0<=v)(h:v<=u)(h1:u<=SC):be v*SR<=be u*SR+150:=by
 by_cases j:be v<=be u
 ·have:=Rat.mul_le_mul_of_nonneg_right j (Rat.le_of_lt bV)
  grind
 obtain⟨d,hd⟩:∃d,be v=be u+d:=⟨be v-be u,by grind⟩
 obtain⟨N,O⟩:=dC h0 (by omega:v<=SC);obtain⟨a1,a2⟩:=dC (by omega:0<=u) h1;obtain⟨R,S⟩:=iz
 have A:0<=d:=by grind
 have P:d<=3/2:=by grind
 have C:=rB (m:=d) (by grind) (by grind);obtain⟨s,t⟩:=j9 h0 (by omega:v<=SC);obtain⟨q,r⟩:=j9 (by omega:0<=u) h1
 have p:(v:Rat) /SR<=(u:Rat) /SR:=Rat.le_of_mul_le_mul_right (c:=SR) (by rw[dT,dT];exact Rat.intCast_le_intCast.2 h) bV
 obtain⟨b,e⟩:=kj h0 (by omega:v<=SC);obtain⟨f,g⟩:=kj (by omega:0<=u) h1;have y:=ot (by omega:0<=u) h1;have z:=ot h0 (by omega:v<=SC);obtain⟨J,p2⟩:=o9 (m:=be u) (h:=d) (by grind) (by grind) (by grind) (by grind);obtain⟨L,M⟩:=oB (m:=be u) (h:=d) (by grind) (by grind) (by grind) (by grind);have w:=pQ (x:=be u) (by grind) (by grind)
 have i:=pQ (x:=d) (by grind) (by grind);rw[hd]at b e z
 have k:=ew J
 have l:=er p2
 have n:=ew L
 have o:=er M
 obtain⟨e1,e2,e3,D,F,E,Q⟩:=zy;have a:=bV
 -- the sine of what they are Fm is small
 have H:am d<=30*(1/SR):=by
  have I:(3:Rat) /SR=3*(1/SR):=by
   have o1:(1:Rat) /SR*SR=1:=Rat.div_mul_cancel (Rat.ne_of_gt a)
   have:(3:Rat) /SR*SR=3:=Rat.div_mul_cancel (Rat.ne_of_gt a)
   refine Rat.le_antisymm (Rat.le_of_mul_le_mul_right (c:=SR) ?_ a) (Rat.le_of_mul_le_mul_right (c:=SR) ?_ a) <;> grind
  have G:(0:Rat)<=1/SR:=by
   have o1:(1:Rat) /SR*SR=1:=Rat.div_mul_cancel (Rat.ne_of_gt a)
   refine Rat.le_of_mul_le_mul_right (c:=SR) ?_ a;rw[o1]
   grind
  rw[I]at f g b e e3;exact Fm s t q r p b e f g y i.1.1 i.1.2 i.2.1 i.2.2 w.1.2 k l n o D F E G C
 have mV:=vI A (by grind)
 have o1:(1:Rat) /SR*SR=1:=Rat.div_mul_cancel (Rat.ne_of_gt a)
 have B:d<=150*(1/SR):=by grind
 have m:=Rat.mul_le_mul_of_nonneg_right B (Rat.le_of_lt a);rw[hd]
 grind
theorem Jp{a b c d:Rat}(h:a<=b)(k:c<=d):a+c<=b+d:=by grind
def BR:Rat:=((2^KK:Int):Rat)
theorem bT:(0:Rat) < BR:=Rat.intCast_lt_intCast.2 (aB KK)
def jJ (v:Rat)(x:Sp):Prop:=match x with
 | none=>False
 | some (a,_)=>a= -19342822337206103650074625\/((vr a:Int):Rat)<=v*BR
def jx (v:Rat)(x:Sp):Prop:=match x with
 | none=>False
 | some (_,b)=>b=19342822337206103650074625\/v*BR<=((vr b:Int):Rat)
def fK (x:Sp):Prop:=match x with
 | none=>False
 | some (a,b)=>a<=b/\ -19342822337206103650074625 < a/\b < 19342822337206103650074625
theorem fK.ok{x:Sp}(h:fK x):aY x:=by
 rcases x with _ | ⟨a,b⟩
 ·exact trivial
 ·obtain⟨h1,h2,c⟩:=h;exact⟨by omega,h1,by omega,by omega,by omega⟩
theorem jJ.mono{v w:Rat}{x:Sp}(h:jJ v x)(e:v<=w):jJ w x:=by
 rcases x with _ | ⟨a,b⟩
 ·exact h
 ·rcases h with h | h
  ·exact .inl h
  ·exact .inr (Rat.le_trans h (Rat.mul_le_mul_of_nonneg_right e (Rat.le_of_lt bT)))
theorem jx.mono{v w:Rat}{x:Sp}(h:jx v x)(e:w<=v):jx w x:=by
 rcases x with _ | ⟨a,b⟩
 ·exact h
 ·rcases h with h | h
  ·exact .inl h
  ·exact .inr (Rat.le_trans (Rat.mul_le_mul_of_nonneg_right e (Rat.le_of_lt bT)) h)
theorem tC{a d:Int}{v:Rat}(ha: -19342822337206103650074625<=d)(hd:a<=19342822337206103650074625)(h:a= -19342822337206103650074625\/((vr a:Int):Rat)<=v*BR)(k:d=19342822337206103650074625\/v*BR<=((vr d:Int):Rat)):a<=d:=by
 rcases h with h | h
 ·omega
 ·rcases k with k | k
  ·omega
  ·rcases Int.lt_or_le d a with c | c
   ·exfalso
    have e:=iZ c;have f:=Rat.intCast_le_intCast.1 (Rat.le_trans h k)
    omega
   ·exact c
theorem AD{v:Rat}{x y:Sp}(hx:aY x)(hy:aY y)(h1:jJ v x)(h2:jx v x)(k1:jJ v y)(k2:jx v y):∃a b,dX x y=some (a,b):=by
 rcases x with _ | ⟨a,b⟩
 ·exact h1.elim
 rcases y with _ | ⟨c,d⟩
 ·exact k1.elim
 obtain⟨A1,A2,A3,A4,A5⟩:=hx;obtain⟨e,f,g,h,i⟩:=hy;have e1:=tC (by omega) (by omega) h1 k2;have e2:=tC (by omega) (by omega) k1 h2;exact⟨_,_,aK (by omega) (by omega) (by omega)⟩
theorem DM{v:Rat}{x y:Sp}(hx:aY x)(hy:aY y)(fx:x≠none)(fy:y≠none)(h:jJ v x\/jJ v y):jJ v (bY x y):=by
 rcases x with _ | ⟨a,b⟩
 ·exact absurd rfl fx
 rcases y with _ | ⟨c,d⟩
 ·exact absurd rfl fy
 obtain⟨A1,A2,A3,A4,A5⟩:=hx;obtain⟨f,g,i,j,k⟩:=hy
 show jJ v (eB (min a c) (max b d))
 rw[aK (by omega) (by omega) (by omega)]
 have e:∀t:Int,(t= -19342822337206103650074625\/((vr t:Int):Rat)<=v*BR)->min a c<=t->(min a c= -19342822337206103650074625\/((vr (min a c):Int):Rat)<=v*BR):=fun t ht hm=>by
  rcases ht with ht | ht
  ·left;omega
  ·exact .inr (Rat.le_trans (Rat.intCast_le_intCast.2 (bI hm)) ht)
 rcases h with h | h
 ·exact e a h (by omega)
 ·exact e c h (by omega)
theorem DL{v:Rat}{x y:Sp}(hx:aY x)(hy:aY y)(fx:x≠none)(fy:y≠none)(h:jx v x\/jx v y):jx v (bY x y):=by
 rcases x with _ | ⟨a,b⟩
 ·exact absurd rfl fx
 rcases y with _ | ⟨c,d⟩
 ·exact absurd rfl fy
 obtain⟨A1,A2,A3,A4,A5⟩:=hx;obtain⟨f,g,i,j,k⟩:=hy
 show jx v (eB (min a c) (max b d))
 rw[aK (by omega) (by omega) (by omega)]
 have e:∀t:Int,(t=19342822337206103650074625\/v*BR<=((vr t:Int):Rat))->t<=max b d->(max b d=19342822337206103650074625\/v*BR<=((vr (max b d):Int):Rat)):=fun t ht hm=>by
  rcases ht with ht | ht
  ·left;omega
  ·exact .inr (Rat.le_trans ht (Rat.intCast_le_intCast.2 (bI hm)))
 rcases h with h | h
 ·exact e b h (by omega)
 ·exact e d h (by omega)
theorem I7{v:Rat}{x:Sp}(hx:fK x):(jJ v x->jx (-v) (f7 x))/\(jx v x->jJ (-v) (f7 x))/\fK (f7 x):=by
 rcases x with _ | ⟨a,b⟩
 ·exact hx.elim
 have ok:=hx.ok;obtain⟨h1,h2,c⟩:=hx;rw[eI ok]
 refine⟨fun h=>?_,fun h=>?_,⟨by omega,by omega,by omega⟩⟩
 ·rcases h with h | h
  ·omega
  ·right
   rw[aF,Rat.intCast_neg,Rat.neg_mul];exact Rat.neg_le_neg h
 ·rcases h with h | h
  ·omega
  ·right
   rw[aF,Rat.intCast_neg,Rat.neg_mul];exact Rat.neg_le_neg h
theorem zj{V p:Int}(h:Dn V p):p= -19342822337206103650074625\/((vr p:Int):Rat)<=((V:Int):Rat):=by
 obtain⟨h1,h2,a,h4⟩:=h
 by_cases c:p= -19342822337206103650074625
 ·exact .inl c
 ·exact .inr (Rat.intCast_le_intCast.2 (a (by omega)))
theorem CK{V p:Int}(h:Up V p):p=19342822337206103650074625\/((V:Int):Rat)<=((vr p:Int):Rat):=by
 obtain⟨h1,h2,a,h4⟩:=h
 by_cases c:p=19342822337206103650074625
 ·exact .inl c
 ·have:=a (by omega)
  rw[aF]at this;exact .inr (Rat.intCast_le_intCast.2 (by omega))
theorem Fl{v w:Rat}{x y:Sp}(hx:fK x)(hy:fK y):(jJ v x->jJ w y->jJ (v+w) (fN x y))/\(jx v x->jx w y->jx (v+w) (fN x y))/\aY (fN x y):=by
 rcases x with _ | ⟨a,b⟩
 ·exact hx.elim
 rcases y with _ | ⟨c,d⟩
 ·exact hy.elim
 obtain⟨h1,h2,n⟩:=hx;obtain⟨f,o,p⟩:=hy;have s1:=(bS (x:=a) (y:=c) true (by omega) (by omega) (by omega) (by omega)).1;have s2:=bS (x:=b) (y:=d) true (by omega) (by omega) (by omega) (by omega);have q:=s1.mono s2.1 (Int.add_le_add (bI h1) (bI f));have r:=gF s2.1 s2.2;have i:=s1.1;have j:=s1.2.1;have l:=s2.2.1;have m:=s2.2.2.1
 have e:fN (some (a,b)) (some (c,d))=some (av false a c,av true b d):=aK (by omega) (by omega) (by omega)
 rw[e]
 refine⟨fun h k=>?_,fun h k=>?_,⟨by omega,by omega,by omega,by omega,by omega⟩⟩
 ·rcases h with h | h
  ·omega
  rcases k with k | k
  ·omega
  rcases zj s1 with g | g
  ·exact .inl g
  ·right
   rw[Rat.intCast_add]at g;rw[Rat.add_mul];exact Rat.le_trans g (Jp h k)
 ·rcases h with h | h
  ·omega
  rcases k with k | k
  ·omega
  rcases CK s2.2 with g | g
  ·exact .inl g
  ·right
   rw[Rat.intCast_add]at g;rw[Rat.add_mul];exact Rat.le_trans (Jp h k) g
theorem Gs{A B C D x y:Rat}(h1:A<=x)(h2:x<=B)(k1:C<=y)(k2:y<=D):(A*C<=x*y\/A*D<=x*y\/B*C<=x*y\/B*D<=x*y)/\(x*y<=A*C\/x*y<=A*D\/x*y<=B*C\/x*y<=B*D):=by
 have c:∀{p q s t:Rat},p<=q->s<=t->0<=(q-p)*(t-s):=fun a b=>Rat.mul_nonneg ((Rat.le_iff_sub_nonneg _ _).1 a) ((Rat.le_iff_sub_nonneg _ _).1 b)
 by_cases cy:0<=y
 ·have e1:=c h1 cy;have e2:=c h2 cy
  constructor
  ·by_cases d:0<=A
   ·left
    have:=c d k1
    grind
   ·right;left
    have:=c (Rat.le_of_lt (Rat.not_le.1 d)) k2
    grind
  ·by_cases e:0<=B
   ·right;right;right
    have:=c e k2
    grind
   ·right;right;left
    have:=c (Rat.le_of_lt (Rat.not_le.1 e)) k1
    grind
 ·have f:=Rat.le_of_lt (Rat.not_le.1 cy)
  have e1:=c h1 f;have e2:=c h2 f
  constructor
  ·by_cases e:0<=B
   ·right;right;left
    have:=c e k1
    grind
   ·right;right;right
    have:=c (Rat.le_of_lt (Rat.not_le.1 e)) k2
    grind
  ·by_cases d:0<=A
   ·right;left
    have:=c d k2
    grind
   ·left
    have:=c (Rat.le_of_lt (Rat.not_le.1 d)) k1
    grind
theorem vo{x y:Int}(x1: -19342822337206103650074625 < x)(x2:x < 19342822337206103650074625)(y1: -19342822337206103650074625 < y)(y2:y < 19342822337206103650074625):
  ((vl (ml (ep x) (ep y)):Int):Rat)*BR=((vr x:Int):Rat)*((vr y:Int):Rat):=by
 have h:=(my x1 x2 y1 y2).2
 unfold BR
 rw[<-Rat.intCast_mul,<-Rat.intCast_mul,h]
theorem vL{p:Int}{P v:Rat}{V:Int}(h:p= -19342822337206103650074625\/((vr p:Int):Rat)<=((V:Int):Rat))(e:((V:Int):Rat)*BR=P)(k:P<=v*BR*BR):p= -19342822337206103650074625\/((vr p:Int):Rat)<=v*BR:=by
 rcases h with h | h
 ·exact .inl h
 ·right
  refine Rat.le_trans h (Rat.le_of_mul_le_mul_right (c:=BR) ?_ bT);rw[e];exact k
theorem th{p:Int}{P v:Rat}{V:Int}(h:p=19342822337206103650074625\/((V:Int):Rat)<=((vr p:Int):Rat))(e:((V:Int):Rat)*BR=P)(k:v*BR*BR<=P):p=19342822337206103650074625\/v*BR<=((vr p:Int):Rat):=by
 rcases h with h | h
 ·exact .inl h
 ·right
  refine Rat.le_trans (Rat.le_of_mul_le_mul_right (c:=BR) ?_ bT) h;rw[e];exact k
theorem lz{m p:Int}{v:Rat}(h:p= -19342822337206103650074625\/((vr p:Int):Rat)<=v*BR)(hm:m<=p)(hb: -19342822337206103650074625<=m):m= -19342822337206103650074625\/((vr m:Int):Rat)<=v*BR:=by
 rcases h with h | h
 ·left;omega
 ·exact .inr (Rat.le_trans (Rat.intCast_le_intCast.2 (bI hm)) h)
theorem lx{m p:Int}{v:Rat}(h:p=19342822337206103650074625\/v*BR<=((vr p:Int):Rat))(hm:p<=m)(hb:m<=19342822337206103650074625):m=19342822337206103650074625\/v*BR<=((vr m:Int):Rat):=by
 rcases h with h | h
 ·left;omega
 ·exact .inr (Rat.le_trans h (Rat.intCast_le_intCast.2 (bI hm)))
theorem I4{v w:Rat}{x y:Sp}(hx:fK x)(hy:fK y)(v1:jJ v x)(v2:jx v x)(w1:jJ w y)(w2:jx w y):jJ (v*w) (lc x y)/\jx (v*w) (lc x y)/\aY (lc x y):=by
 rcases x with _ | ⟨a,b⟩
 ·exact hx.elim
 rcases y with _ | ⟨c,d⟩
 ·exact hy.elim
 obtain⟨h1,h2,J⟩:=hx;obtain⟨L,N,O⟩:=hy;replace v1:=v1.resolve_left (by omega);replace v2:=v2.resolve_left (by omega);replace w1:=w1.resolve_left (by omega);replace w2:=w2.resolve_left (by omega);obtain⟨j,i⟩:=Gs v1 v2 w1 w2
 have e:v*BR*(w*BR)=v*w*BR*BR:=by grind
 rw[e]at j i;have s1:=jg (x:=a) (y:=c) (by omega) (by omega) (by omega) (by omega);have s2:=jg (x:=a) (y:=d) (by omega) (by omega) (by omega) (by omega);have s3:=jg (x:=b) (y:=c) (by omega) (by omega) (by omega) (by omega);have s4:=jg (x:=b) (y:=d) (by omega) (by omega) (by omega) (by omega);have k:=vo (x:=a) (y:=c) (by omega) (by omega) (by omega) (by omega)
 have p2:=vo (x:=a) (y:=d) (by omega) (by omega) (by omega) (by omega);have l:=vo (x:=b) (y:=c) (by omega) (by omega) (by omega) (by omega);have n:=vo (x:=b) (y:=d) (by omega) (by omega) (by omega) (by omega);obtain⟨m,hm,t,u,z,A,_⟩:=GM (eC false a c) (eC false a d) (eC false b c) (eC false b d);obtain⟨M,s,o,M2,p,q,_⟩:=I3 (eC true a c) (eC true a d) (eC true b c) (eC true b d)
 have P:=gF s1.1 s1.2;have Q:=s1.1.2.1;have R:=s1.2.2.1;have B:=(eM (x:=a) (y:=c) false).1;have C:=(eM (x:=a) (y:=d) false).1;have D:=(eM (x:=b) (y:=c) false).1;have E:=(eM (x:=b) (y:=d) false).1;have F:=(eM (x:=a) (y:=c) true).2;have G:=(eM (x:=a) (y:=d) true).2;have H:=(eM (x:=b) (y:=c) true).2
 have I:=(eM (x:=b) (y:=d) true).2
 have f: -19342822337206103650074625<=m:=by omega
 have h:M<=19342822337206103650074625:=by omega
 have r:lc (some (a,b)) (some (c,d))=some (m,M):=by
  show yl eC a b c d=_
  unfold yl
  rw[hm,s];exact aK (by omega) (by omega) (by omega)
 rw[r];refine⟨?_,?_,⟨f,by omega,h,by omega,by omega⟩⟩
 ·rcases j with g | g | g | g
  ·exact lz (vL (zj s1.1) k g) t f
  ·exact lz (vL (zj s2.1) p2 g) u f
  ·exact lz (vL (zj s3.1) l g) z f
  ·exact lz (vL (zj s4.1) n g) A f
 ·rcases i with g | g | g | g
  ·exact lx (th (CK s1.2) k g) o h
  ·exact lx (th (CK s2.2) p2 g) M2 h
  ·exact lx (th (CK s3.2) l g) p h
  ·exact lx (th (CK s4.2) n g) q h
theorem gy{up:Bool}{l r:Int}(h:Rq up l SC r):fF up (l*2^KK) SC r:=by
 rw[eV (by decide),show aj (decide (SC < 0)) SC=SC from rfl,show aj (decide (SC < 0)) l=l from rfl]at h
 exact h
theorem gA:(0:Int) < SC:=by decide
theorem qF{up:Bool}{l r p:Int}(h:Rq up l SC r)(p1: -19342822337206103650074625 < p)(p2:p < 19342822337206103650074625)(e:vr p*SC<=l*2^KK):p<=r:=
 fF.mono (up:=up) (B:=1) (by decide) gA (gN (by decide) p1 p2 (Int.mul_one _)) (gy h) (by rw[Int.mul_one];exact e)
theorem qo{up:Bool}{l r p:Int}(h:Rq up l SC r)(p1: -19342822337206103650074625 < p)(p2:p < 19342822337206103650074625)(e:l*2^KK<=vr p*SC):r<=p:=
 fF.mono (up:=up) (D:=1) gA (by decide) (gy h) (gN (by decide) p1 p2 (Int.mul_one _)) (by rw[Int.mul_one];exact e)
theorem oM:vr (ak 1)=2^KK:=by rw[eN (by decide) (by decide),Int.one_mul]
theorem jE:0 < ak 1/\ak 1 < 19342822337206103650074625:=j8 (by decide) (by decide)
theorem vz{up:Bool}{l r:Int}(h:Rq up l SC r)(h1: -SC<=l)(h2:l<=SC): -ak 1<=r/\r<=ak 1:=by
 obtain⟨o1,o2⟩:=jE;have a:=aB KK
 constructor
 ·refine qF h (by omega) (by omega) ?_;rw[aF,oM,Int.neg_mul,Int.mul_comm,<-Int.neg_mul];exact Int.mul_le_mul_of_nonneg_right h1 (by omega)
 ·refine qo h (by omega) (by omega) ?_;rw[oM,Int.mul_comm (2^KK)];exact Int.mul_le_mul_of_nonneg_right h2 (by omega)
theorem lJ{l h r u:Int}(hr:Rq false l SC r)(hu:Rq true h SC u)(le:l<=h):r<=u:=by
 obtain⟨t,ht⟩:=qQ true l SC;have a:=fF.mono gA gA (gy ht) (gy hu) (Int.mul_le_mul_of_nonneg_right (Int.mul_le_mul_of_nonneg_right le (by have:=aB KK;omega)) (Int.le_of_lt gA))
 rcases o8 gA (gy hr) (gy ht)with ⟨b,_⟩ | ⟨b,_⟩ <;> omega
def SB (σ:Rat)(Z:Sp):Prop:=∃l h r u:Int,Z=some (r,u)/\Rq false l SC r/\Rq true h SC u/\ -SC<=l/\l<=h/\h<=SC/\(l= -SC\/((l+99:Int):Rat)<=σ)/\(h=SC\/σ<=((h-99:Int):Rat))/\σ<=((l+17592186044416:Int):Rat)/\((h-17592186044416:Int):Rat)<=σ
theorem SB.unit{σ:Rat}{Z:Sp}(h:SB σ Z):∃r u,Z=some (r,u)/\ -ak 1<=r/\r<=u/\u<=ak 1:=by
 obtain⟨l,h,r,u,rfl,a,b,h1,h2,c,_⟩:=h;exact⟨r,u,rfl,(vz a h1 (by omega)).1,lJ a b h2,(vz b (by omega) c).2⟩
theorem SB.fin{σ:Rat}{Z:Sp}(h:SB σ Z):fK Z:=by
 obtain⟨o1,o2⟩:=jE;obtain⟨r,u,rfl,a,b,c⟩:=h.unit;exact⟨b,by omega,by omega⟩
theorem FT{l r:Int}{v:Rat}(h:Rq false l SC r)(e:(l:Rat)<=v*SR):r= -19342822337206103650074625\/((vr r:Int):Rat)<=v*BR:=by
 have s:=gy h;rw[gQ]at s;obtain⟨_,_,d,_⟩:=s
 by_cases c:r= -19342822337206103650074625
 ·exact .inl c
 ·right
  have a:=Rat.intCast_le_intCast.2 (d (by rename_i h1 _;omega));rw[Rat.intCast_mul,Rat.intCast_mul]at a;refine Rat.le_of_mul_le_mul_right (c:=SR) ?_ bV;have b:=Rat.mul_le_mul_of_nonneg_right e (Rat.le_of_lt bT)
  unfold BR at *
  grind
theorem FS{h u:Int}{v:Rat}(k:Rq true h SC u)(e:v*SR<=(h:Rat)):u=19342822337206103650074625\/v*BR<=((vr u:Int):Rat):=by
 have s:=(gy k);rw[iA]at s;obtain⟨_,_,d,_⟩:=s
 by_cases c:u=19342822337206103650074625
 ·exact .inl c
 ·right
  have a:=Rat.intCast_le_intCast.2 (d (by rename_i h1 _;omega));rw[aF,Rat.intCast_mul,Rat.intCast_neg,Rat.intCast_neg,Rat.intCast_mul]at a;refine Rat.le_of_mul_le_mul_right (c:=SR) ?_ bV;have b:=Rat.mul_le_mul_of_nonneg_right e (Rat.le_of_lt bT)
  unfold BR at *
  grind
def zp (x:Int):Rat:=((vr x:Int):Rat)*SR/BR
theorem JH (x:Int):zp x*BR=((vr x:Int):Rat)*SR:=Rat.div_mul_cancel (Rat.ne_of_gt bT)
theorem F7{x:Int}(h:gq x=true):((du x:Int):Rat)<=zp x/\zp x<=((du x+1:Int):Rat):=by
 obtain⟨a,b⟩:=nM h
 have a':=Rat.intCast_le_intCast.2 a
 have d:=Rat.intCast_lt_intCast.2 b
 rw[Rat.intCast_mul,Rat.intCast_mul]at a' d;have e:=JH x;have f:=bT
 have e2:((2^KK:Int):Rat)=BR:=rfl
 rw[e2]at a' d
 constructor
 ·refine Rat.le_of_mul_le_mul_right (c:=BR) ?_ f;rw[e];exact a'
 ·refine Rat.le_of_mul_le_mul_right (c:=BR) ?_ f;rw[e];exact Rat.le_of_lt d
def zq (cos:Bool)(x:Int):Rat:=if cos then zp x+qt*SR else zp x
def su (cos:Bool)(x:Int):Rat:=J6 (Kr cos (du x)) (zq cos x)
def eD (Z:Sp):Prop:=∃r u,Rq false (iE/2) SC r/\Rq true (iD/2+1) SC u/\Z=eB r u
def eE (v:Int)(Z:Sp):Prop:=∃r u,Rq false (pL v) SC r/\Rq true (pH v) SC u/\Z=eB r u
def mX (q:Bool->Int->Int->Int)(n:Int)(Z:Sp):Prop:=
 (n=19342822337206103650074625/\eD Z)\/(n≠19342822337206103650074625/\n<=ak 1/\eE (du n) Z)\/
 (n≠19342822337206103650074625/\¬n<=ak 1/\∃H l h,eD H/\eE (du (q false (ak 1) n)) l/\eE (du (q true (ak 1) n)) h/\Z=kM H (bY l h))
def jM (q:Bool->Int->Int->Int)(n:Int)(Z:Sp):Prop:=(n < 0/\∃Y,mX q (-n) Y/\Z=f7 Y)\/(¬n < 0/\mX q n Z)
theorem iT:0 < ak 2/\ak 2 < 19342822337206103650074625:=j8 (by decide) (by decide)
theorem jI{up:Bool}{l r:Int}(h:Rq up l SC r)(h1: -(2*SC)<=l)(h2:l<=2*SC): -ak 2<=r/\r<=ak 2:=by
 obtain⟨o1,o2⟩:=iT;have a:=aB KK
 have e:vr (ak 2)=2*2^KK:=eN (by decide) (by decide)
 constructor
 ·refine qF h (by omega) (by omega) ?_
  rw[aF,e,show -(2*2^KK)*SC= -(2*SC)*2^KK by rw[Int.neg_mul,Int.neg_mul,Int.mul_assoc,Int.mul_assoc,Int.mul_comm (2^KK)]]
  exact Int.mul_le_mul_of_nonneg_right h1 (by omega)
 ·refine qo h (by omega) (by omega) ?_
  rw[e,show 2*2^KK*SC=2*SC*2^KK by rw[Int.mul_assoc,Int.mul_assoc,Int.mul_comm (2^KK)]]
  exact Int.mul_le_mul_of_nonneg_right h2 (by omega)
theorem lw{l h r u:Int}{Z:Sp}(hr:Rq false l SC r)(hu:Rq true h SC u)(hz:Z=eB r u)(le:l<=h)(h1: -(2*SC)<=l)(h2:h<=2*SC):Z=some (r,u)/\fK Z/\(∀x:Rat,(l:Rat)<=x*SR->jJ x Z)/\(∀x:Rat,x*SR<=(h:Rat)->jx x Z):=by
 obtain⟨o1,o2⟩:=iT;have a:=jI hr h1 (by omega);have b:=jI hu (by omega) h2;have c:=lJ hr hu le
 have e:Z=some (r,u):=hz.trans (aK c (by omega) (by omega))
 rw[e]
 exact⟨rfl,⟨c,by omega,by omega⟩,fun x hx=>FT hr hx,fun x hx=>FS hu hx⟩
theorem rQ:((iE/2:Int):Rat)<=qt*SR/\qt*SR<=((iD/2+1:Int):Rat):=by decide +kernel
theorem eD.is{Z:Sp}(h:eD Z):fK Z/\(∀x:Rat,qt<=x->jJ x Z)/\(∀x:Rat,x<=qt->jx x Z):=by
 obtain⟨r,u,c,d,hz⟩:=h;obtain⟨_,f,a,b⟩:=lw c d hz (by decide) (by decide) (by decide);obtain⟨e,g⟩:=rQ
 refine⟨f,fun x hx=>a x (Rat.le_trans e (Rat.mul_le_mul_of_nonneg_right hx (Rat.le_of_lt bV))),fun x hx=>b x (Rat.le_trans (Rat.mul_le_mul_of_nonneg_right hx (Rat.le_of_lt bV)) g)⟩
theorem ou{v:Int}(h0:0<=v)(h1:v<=SC):be v*SR-1500<=((pL v:Int):Rat)/\((pH v:Int):Rat)<=be v*SR+1500:=by
 obtain⟨a,b⟩:=lv h0 h1;obtain⟨s1,s2⟩:=yO (dT (pU v)) a b;obtain⟨g,p2⟩:=kD
 have f:(if SC < v*2 then qt/2 else 0)*SR-400<=((pA v:Int):Rat)/\((pB v:Int):Rat)<=(if SC < v*2 then qt/2 else 0)*SR+400:=by
  unfold pA pB
  by_cases c:SC < v*2
  ·rw[if_pos c,if_pos c,if_pos c]
   have d:=Rat.intCast_le_intCast.2 (show iD<=(iE/4+400)*4 by decide)
   have e:=Rat.intCast_le_intCast.2 (show (iD/4+1-400)*4<=iE by decide)
   rw[Rat.intCast_mul,Rat.intCast_add,show ((4:Int):Rat)=4 from rfl,show ((400:Int):Rat)=400 from rfl]at d
   rw[Rat.intCast_mul,Rat.intCast_sub,show ((4:Int):Rat)=4 from rfl,show ((400:Int):Rat)=400 from rfl]at e
   constructor <;> grind
  ·rw[if_neg c,if_neg c,if_neg c,Rat.intCast_zero]
   constructor <;> grind
 unfold pL pH be
 have e1:((pA v+aS (pU v) 111+ -400:Int):Rat)=((pA v:Int):Rat)+((aS (pU v) 111:Int):Rat)-400:=by
  rw[show pA v+aS (pU v) 111+ -400=pA v+aS (pU v) 111-400 by omega,Rat.intCast_sub,Rat.intCast_add]
  rfl
 have e2:((pB v+aS (pU v) 111+400:Int):Rat)=((pB v:Int):Rat)+((aS (pU v) 111:Int):Rat)+400:=by
  rw[Rat.intCast_add,Rat.intCast_add]
  rfl
 rw[e1,e2];generalize (if SC < v*2 then qt/2 else 0)=k at *;generalize i6 ((pU v:Rat) /SR)=t at *
 constructor <;> grind
theorem jO:be SC=qt/2:=by
 have u:pU SC=0:=by decide
 unfold be
 rw[if_pos (by decide),u,Rat.intCast_zero,show (0:Rat) /SR=0 by grind,i7]
 grind
theorem eE.is{v:Int}{Z:Sp}(h:eE v Z)(h0:0<=v)(h1:v<=SC):fK Z/\(∀x:Rat,be v*SR<=x*SR+214->jJ x Z)/\(∀x:Rat,x*SR<=be v*SR+214->jx x Z):=by
 obtain⟨r,u,i,j,hz⟩:=h;obtain⟨w1,l⟩:=jz h0 h1;obtain⟨m,n⟩:=ou h0 h1;obtain⟨d,e⟩:=dC h0 h1;have c:=bV;have n1:=Rat.mul_le_mul_of_nonneg_right d (Rat.le_of_lt c);have n2:=Rat.mul_le_mul_of_nonneg_right e (Rat.le_of_lt c)
 rw[Rat.intCast_add,show ((214:Int):Rat)=214 from rfl]at w1
 rw[Rat.intCast_sub,show ((214:Int):Rat)=214 from rfl]at l
 have g:(3000:Rat)<=SR:=by decide +kernel
 have k:pL v<=pH v:=Rat.intCast_le_intCast.1 (by grind)
 have lo: -(2*SC)<=pL v:=Rat.intCast_le_intCast.1 (by
  rw[Rat.intCast_neg,Rat.intCast_mul,show ((2:Int):Rat)=2 from rfl]
  grind)
 have hi:pH v<=2*SC:=Rat.intCast_le_intCast.1 (by
  rw[Rat.intCast_mul,show ((2:Int):Rat)=2 from rfl]
  grind)
 obtain⟨_,f,a,b⟩:=lw i j hz k lo hi
 exact⟨f,fun x hx=>a x (by grind),fun x hx=>b x (by grind)⟩
theorem Cx{v w:Rat}{x y:Sp}(hx:fK x)(hy:fK y):(jJ v x->jx w y->jJ (v-w) (kM x y))/\(jx v x->jJ w y->jx (v-w) (kM x y))/\aY (kM x y):=by
 obtain⟨n1,n2,n3⟩:=I7 (v:=w) hy;obtain⟨a1,a2,a3⟩:=Fl (v:=v) (w:= -w) hx n3
 rw[show v-w=v+ -w by grind]
 exact⟨fun h k=>a1 h (n2 k),fun h k=>a2 h (n1 k),a3⟩
theorem zS{x y:Sp}(hx:fK x)(hy:fK y):fK (bY x y):=by
 rcases x with _ | ⟨a,b⟩
 ·exact hx.elim
 rcases y with _ | ⟨c,d⟩
 ·exact hy.elim
 have o1:=hx.ok;have o2:=hy.ok;obtain⟨h1,h2,e⟩:=hx;obtain⟨f,g,h⟩:=hy;rw[gY o1 o2];exact⟨by omega,by omega,by omega⟩
theorem jU{x:Sp}(h:fK x):x≠none:=by
 rcases x with _ | ⟨a,b⟩
 ·exact h.elim
 ·exact Option.some_ne_none _
theorem aZ{n:Int}(h0:0<=n)(h1:n<=ak 1):gq n=true/\0<=du n/\du n<=SC:=by
 have t:=Jr
 have o:ak 1 < ak 1073741824:=by decide
 have f:gq n=true:=dt ⟨by omega,by omega⟩
 obtain⟨a,b⟩:=nM f;have c:=aB KK;have d:=bI h0;have e:=bI h1;rw[oM]at e
 rw[show vr 0=0 from rfl]at d
 refine⟨f,?_,?_⟩
 ·rw[eL f];exact Int.ediv_nonneg (Int.mul_nonneg d (Int.le_of_lt gA)) (Int.le_of_lt c)
 ·refine Int.le_of_mul_le_mul_right (a:=2^KK) ?_ c
  have:=Int.mul_le_mul_of_nonneg_right e (Int.le_of_lt gA)
  rw[Int.mul_comm (2^KK) SC]at this
  omega
theorem jB{x y:Int}(fx:gq x=true)(fy:gq y=true)(h:x<=y):du x<=du y:=by
 rw[eL fx,eL fy];exact Int.ediv_le_ediv (aB KK) (Int.mul_le_mul_of_nonneg_right (bI h) (Int.le_of_lt gA))
theorem sh:In (ak 1):=by
 obtain⟨a,b⟩:=jE;exact⟨by omega,by omega⟩
theorem jC{q:Bool->Int->Int->Int}(hq:QF q){n:Int}(h1:¬n<=ak 1)(h2:n < 19342822337206103650074625):0<=q false (ak 1) n/\q false (ak 1) n<=q true (ak 1) n/\q true (ak 1) n<=ak 1:=by
 obtain⟨a,b⟩:=jE;refine⟨FR sh (by omega) (by omega) (by omega) (hq false (ak 1) n),BM hq _ _ (by omega),?_⟩;exact Jh sh (by omega) a (by omega) (by omega) (EA (x:=ak 1) (by omega) (by omega) b) (hq true (ak 1) n)
theorem pf{H l h Z:Sp}{v1 v2:Int}(hH:eD H)(hl:eE v1 l)(hh:eE v2 h)(a0:0<=v1)(a1:v1<=v2)(a2:v2<=SC)(hz:Z=kM H (bY l h)):
  aY Z/\(∀x:Rat,(qt-x)*SR<=be v2*SR+214->jJ x Z)/\(∀x:Rat,be v1*SR<=(qt-x)*SR+214->jx x Z):=by
 obtain⟨c,e,f⟩:=hH.is;obtain⟨b,g,l2⟩:=hl.is a0 (by omega);obtain⟨a,h1,h2⟩:=hh.is (by omega) a2;have d:=zS b a;subst hz
 refine⟨(Cx (v:=0) (w:=0) c d).2.2,fun x hx=>?_,fun x hx=>?_⟩
 ·have k:=(Cx (v:=qt) (w:=qt-x) c d).1 (e _ (by grind)) (DL b.ok a.ok (jU b) (jU a) (.inr (h2 _ hx)))
  rw[show qt-(qt-x)=x by grind]at k
  exact k
 ·have k:=(Cx (v:=qt) (w:=qt-x) c d).2.1 (f _ (by grind)) (DM b.ok a.ok (jU b) (jU a) (.inl (g _ hx)))
  rw[show qt-(qt-x)=x by grind]at k
  exact k
theorem Kc:(214/SR:Rat)*SR=214:=Rat.div_mul_cancel (Rat.ne_of_gt bV)
theorem rv:(10000:Rat)<=SR:=by decide +kernel
theorem mX.ok{q:Bool->Int->Int->Int}(hq:QF q){n:Int}{Z:Sp}(h:mX q n Z)(h0:0<=n)(h1:n<=19342822337206103650074625):aY Z/\jx 0 Z:=by
 obtain⟨u,w⟩:=iz;have i:=bV;have v:=rv
 rcases h with⟨_,h⟩ | ⟨_,c,h⟩ | ⟨e,c,H,l,k,s,hl,t,hz⟩
 ·exact⟨h.is.1.ok,h.is.2.2 0 (by grind)⟩
 ·obtain⟨_,a,b⟩:=aZ h0 c;obtain⟨f,g,d⟩:=h.is a b;refine⟨f.ok,d 0 ?_⟩
  have:=Rat.mul_le_mul_of_nonneg_right (dC a b).1 (Rat.le_of_lt i)
  grind
 ·obtain⟨o,p,r⟩:=jC hq c (by omega);obtain⟨g,a1,a2⟩:=aZ o (by omega)
  obtain⟨d,a3,j⟩:=aZ (show 0<=q true (ak 1) n by omega) r
  obtain⟨s1,s2,s3⟩:=pf s hl t a1 (jB g d p) j hz;refine⟨s1,s3 0 ?_⟩;have m:=fO a1 a2 (Int.le_refl SC);rw[jO]at m
  have:=Rat.mul_le_mul_of_nonneg_right u (Rat.le_of_lt i)
  grind
theorem mX.grow{q:Bool->Int->Int->Int}(hq:QF q){a b:Int}{Za Zb:Sp}(ha:mX q a Za)(hb:mX q b Zb)(h0:0<=a)(h:a<=b)(h1:b<=19342822337206103650074625):∃x,jJ x Za/\jx x Zb:=by
 obtain⟨N,V⟩:=iz;have z:=bV;have Q:=rv;have u:=Kc;have W:=Rat.mul_le_mul_of_nonneg_right N (Rat.le_of_lt z)
 rcases ha with⟨e,ha⟩ | ⟨_,j,ha⟩ | ⟨R,j,H,l,k,o,hl,t,hz⟩
 ·rcases hb with⟨_,hb⟩ | ⟨k,_⟩ | ⟨k,_⟩
  ·exact⟨qt,ha.is.2.1 qt (by grind),hb.is.2.2 qt (by grind)⟩
  ·omega
  ·omega
 ·obtain⟨fa,a0,a1⟩:=aZ h0 j;obtain⟨_,I,S⟩:=ha.is a0 a1;have M:=fO a0 a1 (Int.le_refl SC);rw[jO]at M;refine⟨be (du a)-214/SR,I _ (by grind),?_⟩
  rcases hb with⟨_,hb⟩ | ⟨_,f,hb⟩ | ⟨G,f,H,l,k,o,hl,t,hz⟩
  ·refine hb.is.2.2 _ (Rat.le_of_mul_le_mul_right (c:=SR) ?_ z)
   grind
  ·obtain⟨J,B,d⟩:=aZ (by omega:0<=b) f;obtain⟨_,g1,g2⟩:=hb.is B d;have m:=fO a0 (jB fa J h) d;exact g2 _ (by grind)
  ·obtain⟨d,g,i⟩:=jC hq f (by omega);obtain⟨g1,c1,c2⟩:=aZ d (by omega)
   obtain⟨g2,c3,c4⟩:=aZ (show 0<=q true (ak 1) b by omega) i
   obtain⟨s1,s2,s3⟩:=pf o hl t c1 (jB g1 g2 g) c4 hz;have m:=fO c1 c2 (Int.le_refl SC);rw[jO]at m;exact s3 _ (by grind)
 ·obtain⟨d,g,i⟩:=jC hq j (by omega);obtain⟨g1,c1,c2⟩:=aZ d (by omega)
  obtain⟨g2,c3,c4⟩:=aZ (show 0<=q true (ak 1) a by omega) i
  obtain⟨s1,s2,s3⟩:=pf o hl t c1 (jB g1 g2 g) c4 hz
  rcases hb with⟨_,hb⟩ | ⟨_,f,hb⟩ | ⟨G,f,P,U,T,s,w,v,y⟩
  ·refine⟨qt,s2 qt ?_,hb.is.2.2 qt (by grind)⟩
   have:=Rat.mul_le_mul_of_nonneg_right (dC c3 c4).1 (Rat.le_of_lt z)
   grind
  ·omega
  ·obtain⟨C,D,E⟩:=jC hq f (by omega);obtain⟨A,e1,e2⟩:=aZ C (by omega)
   obtain⟨L,e3,F⟩:=aZ (show 0<=q true (ak 1) b by omega) E
   obtain⟨X,Y,O⟩:=pf s w v e1 (jB A L D) F y;obtain⟨o1,o2⟩:=jE;have far:=Gy hq true (n:=ak 1) (p:=ak 1) (e:=b) (r:=a) o1 (Int.le_refl _) (by omega) h sh ⟨by omega,by omega⟩
   have m:=fO e1 (jB A g2 far) c4;refine⟨qt-(be (du (q false (ak 1) b))-214/SR),s2 _ (by grind),O _ (by grind)⟩
theorem jM.grow{q:Bool->Int->Int->Int}(hq:QF q){a b:Int}{Za Zb:Sp}(ha:jM q a Za)(hb:jM q b Zb)(h0: -19342822337206103650074625<=a)(h:a<=b)(h1:b<=19342822337206103650074625):aY Za/\aY Zb/\∃x,jJ x Za/\jx x Zb:=by
 have ng:∀{Y:Sp} (h:aY Y) (v:Rat),(jx v Y->jJ (-v) (f7 Y))/\(jJ v Y->jx (-v) (f7 Y)):=fun {Y} hY v=>by
  rcases Y with _ | ⟨c,d⟩
  ·exact⟨fun h=>h.elim,fun h=>h.elim⟩
  rw[eI hY];obtain⟨A1,A2,A3,A4,A5⟩:=hY
  constructor
  ·intro k
   rcases k with k | k
   ·exact .inl (by omega)
   ·right
    rw[aF,Rat.intCast_neg,Rat.neg_mul];exact Rat.neg_le_neg k
  ·intro k
   rcases k with k | k
   ·exact .inl (by omega)
   ·right
    rw[aF,Rat.intCast_neg,Rat.neg_mul];exact Rat.neg_le_neg k
 rcases ha with⟨i,l,ha,rfl⟩ | ⟨i,ha⟩
 ·have e:=ha.ok hq (by omega) (by omega)
  rcases hb with⟨g,m,hb,rfl⟩ | ⟨g,hb⟩
  ·have f:=hb.ok hq (by omega) (by omega);obtain⟨x,j,x2⟩:=mX.grow hq hb ha (by omega) (by omega) (by omega);exact⟨lE e.1,lE f.1,-x,(ng e.1 x).1 x2,(ng f.1 x).2 j⟩
  ·have f:=hb.ok hq (by omega) (by omega);refine⟨lE e.1,f.1,0,?_,f.2⟩;have k:=(ng e.1 0).1 e.2
   rw[show (-0:Rat)=0 from by decide]at k
   exact k
 ·rcases hb with⟨g,_⟩ | ⟨g,hb⟩
  ·omega
  ·have e:=ha.ok hq (by omega) (by omega);have f:=hb.ok hq (by omega) (by omega);exact⟨e.1,f.1,mX.grow hq ha hb (by omega) h h1⟩
theorem kN{r:Int}(h:0 < r):∀k:Nat,vr (r+k*9223372036854775808)=vr r*2^k
 | 0=>by rw[show r+((0:Nat):Int)*9223372036854775808=r by omega,Int.pow_zero,Int.mul_one]
 | k+1=>by
  rw[show r+((k+1:Nat):Int)*9223372036854775808=(r+k*9223372036854775808)+9223372036854775808 by omega,mQ (by omega),kN h k,Int.pow_succ,Int.mul_assoc]
def yn:Int:=9670272082156500260225025
theorem Ha:vr yn*2^60=2^KK:=by
 have h:=kN (r:=yn) (by decide) 60
 have e:yn+((60:Nat):Int)*9223372036854775808=ak 1:=by decide
 rw[e,eN (by decide) (by decide),Int.one_mul]at h;exact h.symm
end Go.Proofs.YtomikokonmikgaaGreatDoor
namespace Go.Proofs.YtomikokonmikgaaGreatDoor
open Go.Proofs.Tryz
set_option maxHeartbeats 8000000
open Go.RowKit
set_option linter.unusedVariables false
set_option linter.unusedSimpArgs false
set_option maxRecDepth 100000
theorem Bc{x y:Int}(hx: -19342822337206103650074625 < x/\x < 19342822337206103650074625)(hy: -19342822337206103650074625 < y/\y < 19342822337206103650074625):nC (ep x) (ep y):=by
 have h:=((yZ hx.1 hx.2 hy.1 hy.2).1 1 (by simp)).2.1
 have e1:xR [ep x]=ep x:=by
  show pl (0,0) (mk (ep x).1 (ep x).2)=ep x
  rw[fk x]
  unfold pl
  rw[if_pos rfl]
 have b:mk (ep y).1 (ep y).2=ep y:=fk y
 have a:nC (xR [ep x]) (mk (ep y).1 (ep y).2):=h
 rw[e1,b]at a;exact a
theorem xG{w:World}{A B:Option Addr}{n c m d:Nat}{s t:Bool}{z e y f N1 E1 N2 E2 N E:Int}(h:Wr w s A n c z)(k:Wr w t B m d y)(hn:n<=10)(hm:m<=10)
  (HN1:Hid ((mk z e).1=N1)) (HE1:Hid ((mk z e).2=E1)) (HN2:Hid ((mk y f).1=N2)) (HE2:Hid ((mk y f).2=E2)) (h1:N1≠0) (h2:N2≠0) (hle:E1<=E2) (hfar:E2-E1<=2240000) (b1: -4194304<=E1) (b2:E2<=4194304)
  (HN:Hid ((mk (N1+N2*((2^(E2-E1).toNat:Nat):Int)) E1).1=N)) (HE:Hid ((mk (N1+N2*((2^(E2-E1).toNat:Nat):Int)) E1).2=E)):
  Calls prog 225 #[.agg #[.bool s,.slice A n c,.int .i64 e],.agg #[.bool t,.slice B m d,.int .i64 f]] w (D1 w (n+m+70010) N E):=by
 obtain⟨δ,Y⟩:∃x,E2-E1=x:=⟨_,rfl⟩
 have HW:Hid (IntKind.i64.wrap (E2-E1)=δ):=ie (by rw[Y];exact IntWalk.i64_in _ (by omega))
 have X:0<=δ:=by omega
 rw[Y]at hfar HN HE
 have hF:decide (E2 < E1)=false:=by simp;omega
 clear Y
 go_enter func225,ntmps225
 go_upto_region 1 with (fail)
 generalize J:((w.alloc _).alloc _).alloc _=w1 at *;obtain⟨X1,D,j,l⟩:=Bo.en3 J;replace h:=h.below l.out;replace k:=k.below l.out;clear J;have bH:=X1.cell
 go_wp2_with fail
 refine(bQ h (by omega) HN1.out HE1.out).mono ?_;rintro U O ⟨s1,A1,n1,c1,rfl,q,k1,B⟩;clear bH;replace D:=D.b B;replace j:=j.b B;replace h:=h.b B;replace k:=k.b B;replace l:=aa l B;clear B;have F:=D.cell
 go_upto_region 2 with (fail)
 clear F;have hB:=Nat.le_refl (World.heap O).size;have bA:=D.lt;have bB:=j.lt;generalize C:O.alloc _=w3 at *;obtain⟨o,p⟩:=Bo.nw C;clear C;replace D:=D.b p;replace j:=j.b p;replace k:=k.b p;replace q:=q.b p;replace l:=aa l p;clear p;have F:=D.cell
 go_wp2_with fail
 refine(bQ k (by omega) HN2.out HE2.out).mono ?_;rintro U G ⟨s2,A2,n2,c2,rfl,p2,k2,B⟩;clear F;replace j:=j.b B;replace o:=o.b B;replace k:=k.b B;replace q:=q.b B;replace l:=aa l B;clear B
 go_upto_region 3 with (fail)
 have bD:=j.lt;have bC:=o.lt;generalize C:G.alloc _=w5 at *;obtain⟨H,p⟩:=Bo.nw C;clear C;replace j:=j.b p;replace o:=o.b p;replace q:=q.b p;replace p2:=p2.b p;replace l:=aa l p;clear p
 have gS:0 < n1:=by have:=q.1.pos;omega
 have qa:((n1:Int)==0)=false:=by
  have:(n1:Int)≠0:=by omega
  simpa using this
 have la:=q.1.rd.big
 have hA:0 < n2:=by have:=p2.1.pos;omega
 have qb:((n2:Int)==0)=false:=by
  have:(n2:Int)≠0:=by omega
  simpa using this
 have lb:=p2.1.rd.big;clear h1 h2;have P:=o.cell;have bN:=H.cell
 go_upto_region 11 with (fail)
 clear P bN;have HC:=ie (mK s2 N2 (2^δ.toNat) p2.wr.eq);have hC:=o.lt;have hD:=H.lt;have hE:=j.lt;refine jk [0,1,2,3,4,5,6,7,8,9,10,11,12,13] [some 39,some 40,some 41,some 42,some 43,some 44,some 45,some 46,some 47,some 48,some 49,some 50,some 51,some 8,none] [[],[0],[1],[],[3],[4],[],[6],[],[8],[7,9],[5,10],[2,11],[],[]] 15 1 [Jo.qp G.heap.size 0,Jo.qp G.heap.size 0,Jo.qb s2,Jo.qp G.heap.size 0,Jo.qp G.heap.size 1,Jo.Fact.eq (.slice A2 n2 c2),Jo.qp G.heap.size 2,Jo.qi E2,Jo.qp O.heap.size 2,Jo.qi E1,Jo.qi δ,Jo.Fact.nm (N2.natAbs*2^δ.toNat) (n2+δ.toNat/32+1),Jo.Fact.wn (N2*((2^δ.toNat:Nat):Int)) (n2+δ.toNat/32+1),Jo.Fact.bo w5.heap.size #[.bool false,.slice none 0 0] 27,Jo.Fact.any] ?_ ?_
 ·iterate 2 (refine jm ?_ ?_;rotate_left)
  refine jm ?_ ?_
  ·rintro r i _ rfl K g;simp only[Jo.z]at g|-;have fP:=(H.b i).a 0 (.bool s2) rfl;go_simp;exact g.out _ _ rfl (br _ _)
  iterate 2 (refine jm ?_ ?_;rotate_left)
  refine jm ?_ ?_
  ·rintro r i _ rfl K g;simp only[Jo.z]at g|-;have gB:=(H.b i).a 1 (.slice A2 n2 c2) rfl;go_simp;exact g.out _ _ rfl (br _ _)
  refine jm ?_ ?_;rotate_left
  refine jm ?_ ?_
  ·rintro r i _ rfl K g;simp only[Jo.z]at g|-;have gO:=(H.b i).a 2 (.int .i64 E2) rfl;go_simp;exact g.out _ _ rfl (br _ _)
  refine jm ?_ ?_;rotate_left
  refine jm ?_ ?_
  ·rintro r i _ rfl K g;simp only[Jo.z]at g|-;have Q:=(o.b i).a 2 (.int .i64 E1) rfl;go_simp;exact g.out _ _ rfl (br _ _)
  refine jm ?_ ?_
  ·rintro r i _ rfl _ rfl K g;simp only[Jo.z]at g|-;have hw:=HW.out;go_simp;exact g.out _ _ rfl (br _ _)
  refine jm ?_ ?_
  ·rintro r i _ rfl _ rfl K g;simp only[Jo.z]at g|-;go_simp;refine(js (p2.b i).1.rd (by omega) X (by omega) rfl).mono ?_;rintro U wk ⟨A7,n7,c7,rfl,p7,k7,B⟩;exact g.out _ _ ⟨A7,n7,c7,rfl,p7,k7⟩ B
  refine jm ?_ ?_
  ·rintro r i _ rfl _ ⟨A7,n7,c7,rfl,p7,k7⟩ K g;simp only[Jo.z]at g|-;go_simp;refine(db s2 p7.rd).mono ?_;rintro U wk ⟨s8,V,n8,W,rfl,M,k8,B⟩;exact g.out _ _ ⟨s8,V,n8,W,rfl,HC.out▸M,Nat.le_trans k8 k7⟩ B
  refine jm ?_ ?_
  ·rintro r i K g;simp only[Jo.z]at g|-;go_simp;exact g.out _ _ ⟨_,rfl,i.size,Bo.new _ _ _⟩ (af _ _)
  exact jo
  all_goals (rintro r i;(repeat rintro _ rfl);intro K g;simp only[Jo.z]at g|-;go_simp;exact g.out _ _ rfl (br _ _))
 rintro w9 i _ _ _ _ _ rfl _ _ _ _ _ rfl _ _ _ rfl _ _ _ rfl _ rfl _ ⟨A7,n7,c7,rfl,_,_⟩ _ ⟨s8,V,n8,W,rfl,M,k8⟩ _ ⟨g8,rfl,gP,I⟩ -;simp only[Jo.z];replace j:=j.b i;replace o:=o.b i;replace q:=q.b i;replace l:=aa l i;have R:=I.cell;have S:=I.frozen
 refine jn 14 fun K g=>?_
 go_simp;refine g.out _ _ ?_;clear g K R S;generalize hS:(w9.setCell _ _).setCell _ _=hG at *;have u:=ae.of2 I hS;replace j:=j.s u;replace o:=o.s u;replace q:=q.s u;replace M:=M.s u;replace l:=bn l u (by omega);replace I:=u.box;clear u hS;refine jd ?_
 go_upto_region 12 with (fail)
 refine jk [0,1,2,3,4,5,6] [some 52,some 53,some 54,some 55,some 56,some 57,some 58,none] [[],[0],[],[1,2],[],[4],[3,5],[]] 8 1 [Jo.qp O.heap.size 0,Jo.Fact.eq (.agg #[.bool s1,.slice A1 n1 c1]),Jo.Fact.eq (.agg #[.bool s8,.slice V n8 W]),Jo.Fact.wn (N1+N2*((2^δ.toNat:Nat):Int)) (n+m+70010),Jo.qp O.heap.size 2,Jo.qi E1,Jo.Fact.dy N E (n+m+70010),Jo.Fact.any] ?_ ?_
 ·iterate 3 (refine jm ?_ ?_;rotate_left)
  refine jm ?_ ?_
  ·rintro r i _ rfl _ rfl K g;simp only[Jo.z]at g|-;go_simp;exact Jo.w1 (f8 (q.b i).wr (M.b i).wr (by omega) (by omega) rfl) g.out
  refine jm ?_ ?_;rotate_left
  refine jm ?_ ?_
  ·rintro r i _ rfl K g;simp only[Jo.z]at g|-;have Q:=(o.b i).a 2 (.int .i64 E1) rfl;go_simp;exact g.out _ _ rfl (br _ _)
  refine jm ?_ ?_
  ·rintro r i _ ⟨s3,A3,n3,c3,rfl,p3,k3⟩ _ rfl K g;simp only[Jo.z]at g|-;go_simp;refine(bQ p3.wr (by omega) HN.out HE.out).mono ?_;rintro U wk ⟨s4,A4,n4,c4,rfl,L,Z,B⟩;exact g.out _ _ ⟨s4,A4,n4,c4,rfl,L,Nat.le_trans Z k3⟩ B
  exact jo
  all_goals (rintro r i;(repeat rintro _ rfl);intro K g;simp only[Jo.z]at g|-;have P:=(o.b i).cell;have R:=(I.b i).cell;go_simp;exact g.out _ _ rfl (br _ _))
 rintro hH i _ _ _ rfl _ rfl _ ⟨s3,A3,n3,c3,rfl,_,_⟩ _ _ _ rfl _ ⟨s4,A4,n4,c4,rfl,L,Z⟩ -;simp only[Jo.z];replace j:=j.b i;replace l:=aa l i;have fH:=j.cell;have T:=j.frozen
 refine jn 7 fun K g=>?_
 go_simp;refine g.out _ _ ?_;clear g K fH T;have u:=ae.mk3 j (.bool s4) (.slice A4 n4 c4) (.int .i64 E);replace L:=L.s u;refine jd ?_;go_wp2;exact bq (v:= .agg #[.bool s4,.slice A4 n4 c4,.int .i64 E]) (by simp[results,results225,go_sem,u.box.cell]) rfl ⟨s4,_,_,_,rfl,L,Z,(u.below l.out (by omega))⟩
theorem xF{w:World}{A B:Option Addr}{n c m d:Nat}{s t:Bool}{z e y f N1 E1 N2 E2 N E:Int}(h:Wr w s A n c z)(k:Wr w t B m d y)(hn:n<=10)(hm:m<=10)
  (HN1:Hid ((mk z e).1=N1)) (HE1:Hid ((mk z e).2=E1)) (HN2:Hid ((mk y f).1=N2)) (HE2:Hid ((mk y f).2=E2)) (h1:N1≠0) (h2:N2≠0) (hle:E2 < E1) (hfar:E1-E2<=2240000) (b1: -4194304<=E2) (b2:E1<=4194304)
  (HN:Hid ((mk (N2+N1*((2^(E1-E2).toNat:Nat):Int)) E2).1=N)) (HE:Hid ((mk (N2+N1*((2^(E1-E2).toNat:Nat):Int)) E2).2=E)):
  Calls prog 225 #[.agg #[.bool s,.slice A n c,.int .i64 e],.agg #[.bool t,.slice B m d,.int .i64 f]] w (D1 w (n+m+70010) N E):=by
 obtain⟨δ,hδ⟩:∃x,E1-E2=x:=⟨_,rfl⟩
 have HW:Hid (IntKind.i64.wrap (E1-E2)=δ):=ie (by rw[hδ];exact IntWalk.i64_in _ (by omega))
 have bA:0<=δ:=by omega
 rw[hδ]at hfar HN HE
 have hM:decide (E2 < E1)=true:=by simp;omega
 clear hδ
 go_enter func225,ntmps225
 go_upto_region 1 with (fail)
 generalize O:((w.alloc _).alloc _).alloc _=w1 at *;obtain⟨X1,I,l,o⟩:=Bo.en3 O;replace h:=h.below o.out;replace k:=k.below o.out;clear O;have gB:=X1.cell
 go_wp2_with fail
 refine(bQ h (by omega) HN1.out HE1.out).mono ?_;rintro Y R ⟨s1,A1,n1,c1,rfl,u,k1,B⟩;clear gB;replace I:=I.b B;replace l:=l.b B;replace h:=h.b B;replace k:=k.b B;replace o:=aa o B;clear B;have J:=I.cell
 go_upto_region 2 with (fail)
 clear J;have hF:=Nat.le_refl (World.heap R).size;have bB:=I.lt;have bC:=l.lt;generalize r:R.alloc _=w3 at *;obtain⟨p,q⟩:=Bo.nw r;clear r;replace I:=I.b q;replace l:=l.b q;replace k:=k.b q;replace u:=u.b q;replace o:=aa o q;clear q;have J:=I.cell
 go_wp2_with fail
 refine(bQ k (by omega) HN2.out HE2.out).mono ?_;rintro Y L ⟨s2,A2,n2,c2,rfl,p2,k2,B⟩;clear J;replace l:=l.b B;replace p:=p.b B;replace k:=k.b B;replace u:=u.b B;replace o:=aa o B;clear B
 go_upto_region 3 with (fail)
 have bH:=l.lt;have bD:=p.lt;generalize r:L.alloc _=w5 at *;obtain⟨C,q⟩:=Bo.nw r;clear r;replace l:=l.b q;replace p:=p.b q;replace u:=u.b q;replace p2:=p2.b q;replace o:=aa o q;clear q
 have hD:0 < n1:=by have:=u.1.pos;omega
 have qa:((n1:Int)==0)=false:=by
  have:(n1:Int)≠0:=by omega
  simpa using this
 have la:=u.1.rd.big
 have hE:0 < n2:=by have:=p2.1.pos;omega
 have qb:((n2:Int)==0)=false:=by
  have:(n2:Int)≠0:=by omega
  simpa using this
 have lb:=p2.1.rd.big;clear h1 h2;have G:=p.cell;have F:=C.cell
 go_upto_region 9 with (fail)
 clear G F;have hG:=Nat.le_refl (World.heap w5).size;have fP:=l.lt;have bN:=p.lt;have fH:=C.lt;generalize r:w5.alloc _=w6 at *;obtain⟨X7,q⟩:=Bo.nw r;clear r;replace l:=l.b q;replace p:=p.b q;replace C:=C.b q;replace u:=u.b q;replace p2:=p2.b q;replace o:=aa o q;clear q
 have F:=C.cell;have G:=p.cell;have U:=p.frozen
 go_upto_region 10 with (fail)
 clear F G U;generalize H:((w6.setCell _ _).setCell _ _).setCell _ _=w7 at *;have j:=ae.of3 p H;replace l:=l.s j;replace C:=C.s j;replace X7:=X7.s j;replace u:=u.s j;replace p2:=p2.s j;replace o:=bn o j (by omega);replace p:=j.box
 clear j H;have gO:=X7.cell;have F:=C.cell;have V:=C.frozen
 go_upto_region 11 with (fail)
 clear gO F V;generalize H:((w7.setCell _ _).setCell _ _).setCell _ _=w8 at *;have j:=ae.of3 C H;replace l:=l.s j;replace p:=p.s j;replace u:=u.s j;replace p2:=p2.s j;replace o:=bn o j (by omega);replace C:=j.box;clear j H;have HC:=ie (mK s1 N1 (2^δ.toNat) u.wr.eq)
 have hH:=p.lt;have hI:=C.lt;have hL:=l.lt;refine jk [0,1,2,3,4,5,6,7,8,9,10,11,12,13] [some 39,some 40,some 41,some 42,some 43,some 44,some 45,some 46,some 47,some 48,some 49,some 50,some 51,some 8,none] [[],[0],[1],[],[3],[4],[],[6],[],[8],[7,9],[5,10],[2,11],[],[]] 15 1 [Jo.qp L.heap.size 0,Jo.qp L.heap.size 0,Jo.qb s1,Jo.qp L.heap.size 0,Jo.qp L.heap.size 1,Jo.Fact.eq (.slice A1 n1 c1),Jo.qp L.heap.size 2,Jo.qi E1,Jo.qp R.heap.size 2,Jo.qi E2,Jo.qi δ,Jo.Fact.nm (N1.natAbs*2^δ.toNat) (n1+δ.toNat/32+1),Jo.Fact.wn (N1*((2^δ.toNat:Nat):Int)) (n1+δ.toNat/32+1),Jo.Fact.bo w8.heap.size #[.bool false,.slice none 0 0] 27,Jo.Fact.any] ?_ ?_
 ·iterate 2 (refine jm ?_ ?_;rotate_left)
  refine jm ?_ ?_
  ·rintro D i _ rfl K g;simp only[Jo.z]at g|-;have gS:=(C.b i).a 0 (.bool s1) rfl;go_simp;exact g.out _ _ rfl (br _ _)
  iterate 2 (refine jm ?_ ?_;rotate_left)
  refine jm ?_ ?_
  ·rintro D i _ rfl K g;simp only[Jo.z]at g|-;have hA:=(C.b i).a 1 (.slice A1 n1 c1) rfl;go_simp;exact g.out _ _ rfl (br _ _)
  refine jm ?_ ?_;rotate_left
  refine jm ?_ ?_
  ·rintro D i _ rfl K g;simp only[Jo.z]at g|-;have hB:=(C.b i).a 2 (.int .i64 E1) rfl;go_simp;exact g.out _ _ rfl (br _ _)
  refine jm ?_ ?_;rotate_left
  refine jm ?_ ?_
  ·rintro D i _ rfl K g;simp only[Jo.z]at g|-;have S:=(p.b i).a 2 (.int .i64 E2) rfl;go_simp;exact g.out _ _ rfl (br _ _)
  refine jm ?_ ?_
  ·rintro D i _ rfl _ rfl K g;simp only[Jo.z]at g|-;have hw:=HW.out;go_simp;exact g.out _ _ rfl (br _ _)
  refine jm ?_ ?_
  ·rintro D i _ rfl _ rfl K g;simp only[Jo.z]at g|-;go_simp;refine(js (u.b i).1.rd (by omega) bA (by omega) rfl).mono ?_;rintro Y wk ⟨A7,n7,c7,rfl,p7,k7,B⟩;exact g.out _ _ ⟨A7,n7,c7,rfl,p7,k7⟩ B
  refine jm ?_ ?_
  ·rintro D i _ rfl _ ⟨A7,n7,c7,rfl,p7,k7⟩ K g;simp only[Jo.z]at g|-;go_simp;refine(db s1 p7.rd).mono ?_;rintro Y wk ⟨s8,Z,n8,c8,rfl,Q,k8,B⟩;exact g.out _ _ ⟨s8,Z,n8,c8,rfl,HC.out▸Q,Nat.le_trans k8 k7⟩ B
  refine jm ?_ ?_
  ·rintro D i K g;simp only[Jo.z]at g|-;go_simp;exact g.out _ _ ⟨_,rfl,i.size,Bo.new _ _ _⟩ (af _ _)
  exact jo
  all_goals (rintro D i;(repeat rintro _ rfl);intro K g;simp only[Jo.z]at g|-;go_simp;exact g.out _ _ rfl (br _ _))
 rintro w9 i _ _ _ _ _ rfl _ _ _ _ _ rfl _ _ _ rfl _ _ _ rfl _ rfl _ ⟨A7,n7,c7,rfl,_,_⟩ _ ⟨s8,Z,n8,c8,rfl,Q,k8⟩ _ ⟨g8,rfl,hC,M⟩ -;simp only[Jo.z];replace l:=l.b i;replace p:=p.b i;replace p2:=p2.b i;replace o:=aa o i;have T:=M.cell;have W:=M.frozen
 refine jn 14 fun K g=>?_
 go_simp;refine g.out _ _ ?_;clear g K T W;generalize H:(w9.setCell _ _).setCell _ _=hN at *;have j:=ae.of2 M H;replace l:=l.s j;replace p:=p.s j;replace p2:=p2.s j;replace Q:=Q.s j;replace o:=bn o j (by omega);replace M:=j.box;clear j H;refine jd ?_
 go_upto_region 12 with (fail)
 refine jk [0,1,2,3,4,5,6] [some 52,some 53,some 54,some 55,some 56,some 57,some 58,none] [[],[0],[],[1,2],[],[4],[3,5],[]] 8 1 [Jo.qp R.heap.size 0,Jo.Fact.eq (.agg #[.bool s2,.slice A2 n2 c2]),Jo.Fact.eq (.agg #[.bool s8,.slice Z n8 c8]),Jo.Fact.wn (N2+N1*((2^δ.toNat:Nat):Int)) (n+m+70010),Jo.qp R.heap.size 2,Jo.qi E2,Jo.Fact.dy N E (n+m+70010),Jo.Fact.any] ?_ ?_
 ·iterate 3 (refine jm ?_ ?_;rotate_left)
  refine jm ?_ ?_
  ·rintro D i _ rfl _ rfl K g;simp only[Jo.z]at g|-;go_simp;exact Jo.w1 (f8 (p2.b i).wr (Q.b i).wr (by omega) (by omega) rfl) g.out
  refine jm ?_ ?_;rotate_left
  refine jm ?_ ?_
  ·rintro D i _ rfl K g;simp only[Jo.z]at g|-;have S:=(p.b i).a 2 (.int .i64 E2) rfl;go_simp;exact g.out _ _ rfl (br _ _)
  refine jm ?_ ?_
  ·rintro D i _ ⟨s3,A3,n3,c3,rfl,p3,k3⟩ _ rfl K g;simp only[Jo.z]at g|-;go_simp;refine(bQ p3.wr (by omega) HN.out HE.out).mono ?_;rintro Y wk ⟨s4,A4,n4,c4,rfl,P,k4,B⟩;exact g.out _ _ ⟨s4,A4,n4,c4,rfl,P,Nat.le_trans k4 k3⟩ B
  exact jo
  all_goals (rintro D i;(repeat rintro _ rfl);intro K g;simp only[Jo.z]at g|-;have G:=(p.b i).cell;have T:=(M.b i).cell;go_simp;exact g.out _ _ rfl (br _ _))
 rintro hP i _ _ _ rfl _ rfl _ ⟨s3,A3,n3,c3,rfl,_,_⟩ _ _ _ rfl _ ⟨s4,A4,n4,c4,rfl,P,k4⟩ -;simp only[Jo.z];replace l:=l.b i;replace o:=aa o i;have gP:=l.cell;have X:=l.frozen
 refine jn 7 fun K g=>?_
 go_simp;refine g.out _ _ ?_;clear g K gP X;have j:=ae.mk3 l (.bool s4) (.slice A4 n4 c4) (.int .i64 E);replace P:=P.s j;refine jd ?_;go_wp2;exact bq (v:= .agg #[.bool s4,.slice A4 n4 c4,.int .i64 E]) (by simp[results,results225,go_sem,j.box.cell]) rfl ⟨s4,_,_,_,rfl,P,k4,(j.below o.out (by omega))⟩
theorem Hd{w:World}{A B:Option Addr}{n c m d:Nat}{s t:Bool}{z e y f N E:Int}(h:Wr w s A n c z)(k:Wr w t B m d y)(hn:n<=10)(hm:m<=10)(hf:nC (mk z e) (mk y f))
  (hN:(pl (mk z e) (mk y f)).1=N) (hE:(pl (mk z e) (mk y f)).2=E):
  Calls prog 225 #[.agg #[.bool s,.slice A n c,.int .i64 e],.agg #[.bool t,.slice B m d,.int .i64 f]] w (D1 w (n+m+70010) N E):=by
 have a:∀K,K<=n+m+70010->∀N E e w',D1 w K N E e w'->D1 w (n+m+70010) N E e w':=fun K hK N E e w' ⟨s,A,n,c,e1,p,q,b⟩=>⟨s,A,n,c,e1,p,Nat.le_trans q hK,b⟩
 obtain⟨i,j⟩:=fU z e;obtain⟨l,o⟩:=fU y f
 unfold pl at hN hE
 by_cases h1:(mk z e).1=0
 ·rw[if_pos h1]at hN hE;subst hN;subst hE;exact(Ev h k (by omega) (by omega) (ie rfl) (ie rfl) (ie rfl) (ie rfl) h1).mono (a _ (by omega) _ _)
 ·rw[if_neg h1]at hN hE
  by_cases h2:(mk y f).1=0
  ·rw[if_pos h2]at hN hE;subst hN;subst hE;exact(Ew h k (by omega) (by omega) (ie rfl) (ie rfl) (ie rfl) (ie rfl) h1 h2).mono (a _ (by omega) _ _)
  ·rw[if_neg h2]at hN hE;obtain⟨g1,g2⟩:=hf h1 h2
   by_cases g:(mk z e).2<=(mk y f).2
   ·rw[Int.min_eq_left g]at hN hE;exact xG h k hn hm (ie rfl) (ie rfl) (ie rfl) (ie rfl) h1 h2 g g2 i o (ie (by simpa using hN)) (ie (by simpa using hE))
   ·rw[Int.min_eq_right (by omega),Int.add_comm]at hN hE;exact xF h k hn hm (ie rfl) (ie rfl) (ie rfl) (ie rfl) h1 h2 (by omega) g1 l j (ie (by simpa using hN)) (ie (by simpa using hE))
theorem FC{w:World}{D D' M M' E E':Int}{s s':Bool}{up:Bool}{x y r:Int}(hM:LQ M)(hM':LQ M')(hx:rk D s M E=x)(hy:rk D' s' M' E'=y)(hr:av up x y=r):Calls prog 171 #[VQ D s M E,VQ D' s' M' E',.bool up] w (PN w r):=by
 delta VQ
 have HX:=ie hx;have HY:=ie hy;clear hx hy
 go_enter func171,ntmps171
 go_upto_region 1 with (fail)
 generalize U:((w.alloc _).alloc _).alloc _=w1 at *;obtain⟨X1,F,a,d⟩:=Bo.en3 U;clear U;have hG:=X1.cell
 go_wp2_with fail
 refine(jW hM HX.out).mono ?_;rintro H w2 ⟨Y,s1,Z,X,rfl,o,B⟩;clear hG;replace F:=F.b B;replace a:=a.b B;replace d:=aa d B;clear B
 go_upto_region 2 with (fail)
 have hA:=F.lt;have hB:=a.lt;generalize f:w2.alloc _=w3 at *;obtain⟨m,h⟩:=Bo.nw f;clear f;replace F:=F.b h;replace a:=a.b h;replace d:=aa d h;clear h;have hH:=F.cell
 go_wp2_with fail
 refine(jW hM' HY.out).mono ?_;rintro H w4 ⟨K2,s2,M2,E2,rfl,p,B⟩;clear hH;replace a:=a.b B;replace m:=m.b B;replace d:=aa d B;clear B
 go_upto_region 3 with (fail)
 have hD:=a.lt;have hC:=m.lt;generalize f:w4.alloc _=w5 at *;obtain⟨l,h⟩:=Bo.nw f;clear f;replace a:=a.b h;replace m:=m.b h;replace d:=aa d h;clear h;have i1:=gv o;have i2:=gv p
 by_cases k1:Y=2
 ·subst k1
  have I:au x=true:=i1
  by_cases A:K2=2
  ·subst A
   have J:au y=true:=i2
   by_cases V:s1=s2
   ·rw[dR up I ((lu o p).2 V)]at hr;subst hr;subst V;clear i1 i2 I J p;have j:=a.cell;have c:=a.frozen;have i:=m.cell;have g:=l.cell;go_wp2;clear j c i g;have k:=ae.t4 a 2 s1 Z X
    exact bq (by simp[results,results171,go_sem,k.box.cell]) rfl ⟨_,_,_,_,rfl,o,(k.below d.out (by omega))⟩
   ·rw[dF up I J (fun e=>V ((lu o p).1 e))]at hr
    obtain rfl:(!s1)=s2:=by cases s1 <;> cases s2 <;> first | rfl | exact absurd rfl V
    have e2:(s1==!s1)=false:=by cases s1 <;> rfl
    have q:=ie hr;clear i1 i2 I J o p hr V;have i:=m.cell;have g:=l.cell
    go_wp2_with fail
    refine(nA (s:=!up) q.out).mono ?_;rintro H w6 ⟨K3,s3,M3,E3,rfl,q3,B⟩;clear i g;replace a:=a.b B;replace m:=m.b B;replace l:=l.b B;replace d:=aa d B;clear B;have j:=a.cell;have c:=a.frozen;go_wp2;clear j c;have k:=ae.t4 a K3 s3 M3 E3
    exact bq (by simp[results,results171,go_sem,k.box.cell]) rfl ⟨_,_,_,_,rfl,q3,(k.below d.out (by omega))⟩
  ·have e2:(K2==2)=false:=by simpa using A
   rw[e2]at i2;rw[dM up I i2]at hr;subst hr;clear i1 i2 I p A;have j:=a.cell;have c:=a.frozen;have i:=m.cell;have g:=l.cell;go_wp2;clear j c i g;have k:=ae.t4 a 2 s1 Z X;exact bq (by simp[results,results171,go_sem,k.box.cell]) rfl ⟨_,_,_,_,rfl,o,(k.below d.out (by omega))⟩
 ·have e1:(Y==2)=false:=by simpa using k1
  rw[e1]at i1
  by_cases A:K2=2
  ·subst A
   have J:au y=true:=i2
   rw[ec up i1 J]at hr;subst hr;clear i1 i2 J o k1;have j:=a.cell;have c:=a.frozen;have i:=m.cell;have g:=l.cell;go_wp2;clear j c i g;have k:=ae.t4 a 2 s2 M2 E2;exact bq (by simp[results,results171,go_sem,k.box.cell]) rfl ⟨_,_,_,_,rfl,p,(k.below d.out (by omega))⟩
  ·have e2:(K2==2)=false:=by simpa using A
   rw[e2]at i2;rw[dZ up i1 i2]at hr;have n:=Bc (bj o.bd.1 o.bd.2 i1) (bj p.bd.1 p.bd.2 i2);clear i1 i2;obtain⟨m1,b1,x1⟩:=zJ o k1;obtain⟨m2,b2,x2⟩:=zJ p A;obtain⟨Q,v⟩:∃N,(ep x).1=N:=⟨_,rfl⟩;obtain⟨L,t⟩:∃N,(ep x).2=N:=⟨_,rfl⟩;obtain⟨R,z⟩:∃N,(ep y).1=N:=⟨_,rfl⟩;obtain⟨O,u⟩:∃N,(ep y).2=N:=⟨_,rfl⟩
   have g1:mk Q L=ep x:=by rw[<-v,<-t];exact fk x
   have g2:mk R O=ep y:=by rw[<-z,<-u];exact fk y
   have bC:=ie b1;have bD:=ie b2
   have fH:=ie (show (jp Y s1 Z X).1=Q by rw[x1,v])
   have bH:=ie (show (jp Y s1 Z X).2=L by rw[x1,t])
   have fP:=ie (show (jp K2 s2 M2 E2).1=R by rw[x2,z])
   have bN:=ie (show (jp K2 s2 M2 E2).2=O by rw[x2,u])
   obtain⟨P,S⟩:∃P,pl (ep x) (ep y)=P:=⟨_,rfl⟩
   have T:mk P.1 P.2=P:=by rw[<-S];exact BD (fk x) (fk y)
   have gO:=ie (show (pl (mk Q L) (mk R O)).1=P.1 by rw[g1,g2,S])
   have gP:=ie (show (pl (mk Q L) (mk R O)).2=P.2 by rw[g1,g2,S])
   rw[S]at hr
   have q:=ie (show ed up (mk P.1 P.2).1 (mk P.1 P.2).2=r by rw[T];exact hr)
   have gB:=ie (show nC (mk Q L) (mk R O) by rw[g1,g2];exact n)
   clear n;clear b1 b2 x1 x2 v t z u S T hr g1 g2;have i:=m.cell;have g:=l.cell
   go_wp2_with fail
   refine(iq m1 o.top bC.out fH.out bH.out).mono ?_;rintro H w6 ⟨sa,Aa,na,ca,rfl,C,ka,B⟩;clear i g;replace a:=a.b B;replace l:=l.b B;replace d:=aa d B;clear B
   go_upto_region 10 with (fail)
   have hF:=a.lt;have hE:=l.lt;generalize f:w6.alloc _=w7 at *;obtain⟨G,h⟩:=Bo.nw f;clear f;replace a:=a.b h;replace l:=l.b h;replace C:=C.b h;replace d:=aa d h;clear h;have g:=l.cell
   go_wp2_with fail
   refine(iq m2 p.top bD.out fP.out bN.out).mono ?_;rintro H w8 ⟨sb,Ab,nb,cb,rfl,pb,kb,B⟩;clear g;replace a:=a.b B;replace G:=G.b B;replace C:=C.b B;replace d:=aa d B;clear B
   go_upto_region 11 with (fail)
   have bB:=a.lt;have bA:=G.lt;generalize f:w8.alloc _=w9 at *;obtain⟨gS,h⟩:=Bo.nw f;clear f;replace a:=a.b h;replace G:=G.b h;replace C:=C.b h;replace pb:=pb.b h;replace d:=aa d h;clear h;have hI:=G.cell;have W:=gS.cell
   go_wp2_with fail
   refine(Hd C.wr pb.wr (by omega) (by omega) gB.out gO.out gP.out).mono ?_;rintro H hJ ⟨sc,Ac,nc,cc,rfl,pc,kc,B⟩;clear hI W;replace a:=a.b B;replace d:=aa d B;clear B
   go_wp2_with fail
   refine(po pc.wr (by omega) rfl rfl q.out).mono ?_;rintro H hK ⟨K3,s3,M3,E3,rfl,q3,B⟩;replace a:=a.b B;replace d:=aa d B;clear B;have j:=a.cell;have c:=a.frozen;go_wp2;clear j c;have k:=ae.t4 a K3 s3 M3 E3;exact bq (by simp[results,results171,go_sem,k.box.cell]) rfl ⟨_,_,_,_,rfl,q3,(k.below d.out (by omega))⟩
end Go.Proofs.YtomikokonmikgaaGreatDoor
namespace Go.Proofs.YtomikokonmikgaaGreatDoor
open Go.Proofs.Tryz
open Go Go.RowKit
set_option linter.unusedVariables false
def Fi (z:Sp):Prop:=∃r u,z=some (r,u)/\ -ak 1<=r/\r<=u/\u<=ak 1
theorem Fi.fin{z:Sp}(h:Fi z):fK z:=by
 obtain⟨o1,o2⟩:=jE;obtain⟨r,u,rfl,a,b,c⟩:=h;exact⟨b,by omega,by omega⟩
theorem AC{x y:Sp}(hx:aY x):mj [x,y]=dX x y:=by
 show dX (dX rq x) y=_
 rw[AE hx]
end Go.Proofs.YtomikokonmikgaaGreatDoor
namespace Go.Proofs.YtomikokonmikgaaGreatDoor
open Go.Proofs.Tryz
set_option maxHeartbeats 8000000
open Go.RowKit
set_option linter.unusedVariables false
set_option linter.unusedSimpArgs false
set_option maxRecDepth 100000
theorem Na.stn{w w':World}{base n c g:Nat}{A:Option Addr}{l:List Int}{a b:Array Value}{T:TypeId}(h:Na w base A n c l)(S:ae w w' g a b T)(hT:(T==24)=false):Na w' base A n c l:=by
 obtain⟨r,h1,h2⟩:=h;refine⟨r,⟨h1.1,?_⟩,h2⟩
 rcases h1.2 with i | ⟨f,cap,d,j,hg,hh,q⟩
 ·exact .inl i
 ·refine .inr ⟨f,cap,d,j,hg,?_,q⟩
  rw[S.2.2.1 f (fun e=>?_)]
  ·exact hh
  ·subst e
   have hb:w.heap[f]?=some (.cells a T (0,0)):=S.1
   rw[hh]at hb
   simp at hb
   rw[<-hb.2]at hT
   simp at hT
theorem Bo.grownN{w w':World}{base n c g:Nat}{A:Option Addr}{l:List Int}{a:Array Value}{T:TypeId}(X:Bo w g a T)(h:Na w base A n c l)(hT:(T==24)=false)(G:w.grownBy w' (bi A)):Bo w' g a T:=by
 refine X.keep (G.block g X.lt (fun e=>?_))
 obtain⟨r,h1,h2⟩:=h
 rcases h1.2 with⟨d,_⟩ | ⟨i,cap,b,f,hg,hh,q⟩
 ·injection d with h4
  subst h4
  cases e
 ·injection f with h4
  subst h4
  cases e
  have hb:=X
  unfold Bo at hb
  rw[hh]at hb
  simp at hb
  rw[<-hb.2]at hT
  simp at hT
theorem oL{A A2 B B2:Option Addr}{s1 s2:Nat}(hne:∀k,bi A=some k->bi B≠some k)(a1:bi A2=bi A\/bi A2=some s1)(a2:bi B2=bi B\/bi B2=some s2)(lB:∀k,bi B=some k->k < s1)(lA:∀k,bi A2=some k->k < s2):∀k,bi A2=some k->bi B2≠some k:=by
 intro k h c
 have a:=lA k h
 rcases a2 with e | e
 ·rw[e]at c;have hb:=lB k c
  rcases a1 with f | f
  ·rw[f]at h;exact hne k h c
  ·rw[f]at h
   injection h with h
   omega
 ·rw[e]at c
  injection c with c
  omega
theorem Bu{A B:Option Addr}(hne:∀k,bi A=some k->bi B≠some k):bi B=none\/bi B≠bi A:=by
 rcases h:bi B with _ | k
 ·exact .inl rfl
 ·exact .inr (fun c=>hne k c.symm h)
theorem vi{A B:Option Addr}(hne:∀k,bi A=some k->bi B≠some k):bi A=none\/bi A≠bi B:=by
 rcases h:bi A with _ | k
 ·exact .inl rfl
 ·exact .inr (fun c=>hne k h c.symm)
def Iv (w:World)(A B:Option Addr)(m c d:Nat)(la lb:List Int)(wr:World):Prop:=
 Na wr w.heap.size A m c la/\Na wr w.heap.size B m d lb/\(∀k,bi A=some k->bi B≠some k)/\Below w.heap.size w wr
theorem Ao{w:World}{A:Option Addr}{n c m:Nat}{l:List Sp}(h:lh w A n c l)(hm:(dO l).length=m):Calls prog 113 #[.slice A n c] w (fun e w'=>∃A1 c1 B1 d1,e= .returned (.tuple #[.slice A1 m c1,.slice B1 m d1])/\Nl w' A1 m c1 (dO l)/\Nl w' B1 m d1 (dw l)/\Below w.heap.size w w'):=by
 have HM:=ie hm;have S:=ie h.1;have hE:=h.2.1;have hD:=h.2.2.1;have bA:=h;clear hm h
 go_enter func113,ntmps113
 go_wp2
 go_loopw [2,3,8] (fun va vb i wr=>∃k A1 B1 X c1 d1,k<=n/\X<=k/\va= .slice A1 X c1/\vb= .slice B1 X d1/\i= .int .i64 ((k:Nat):Int)/\Iv w A1 B1 X c1 d1 (dO (l.take k)) (dw (l.take k)) wr) (fun _ _ i _=>n-(intOf i).toNat)
 case atStart=>exact ⟨0,_,_,_,_,_,Nat.zero_le _,Nat.zero_le _,rfl,rfl,rfl,Na.nil _ _,Na.nil _ _,(fun k h=>by cases h),Below.refl _ _⟩
 case round=>
  obtain⟨k,A1,B1,X,c1,d1,Q,hF,rfl,rfl,rfl,g,d,bN,hB⟩:=hrel;have a:=ie hB;clear hB
  by_cases hlt:k < n
  ·have hC:decide ((k:Int) < (n:Int))=true:=by simp;omega
   have h:=bA.below a.out;obtain⟨b,o,rfl,hcell⟩:=h.2.2.2 (by omega);obtain⟨e,D,s,M,E,D',s',M',E',x0,x1,x2,x3,x4,x5,x6,x7,x8,hM,bB,hx⟩:=hcell k hlt;clear hcell h bA
   have i1:(k:Int) < n:=by omega
   have i2:(0:Int)<=k:=by omega
   have O:=nW (l:=l) (k:=k) (by rw[S.out];exact hlt);have N:=l9 (l:=l) (k:=k) (by rw[S.out];exact hlt);rw[<-hx]at O N;generalize dO (l.take k)=la at *;generalize dw (l.take k)=lb at *;obtain⟨x,hX⟩:∃x,jL e D s M E D' s' M' E'=x:=⟨_,rfl⟩;rw[hX]at O N;have HX:=ie hX;have L:=ie O;have J:=ie N
   have I:=ie bN;clear O N hX hx bN;have gP:=a.out.size
   go_upto_region 4 with (fail)
   clear x0 x1 x2 x3 x4 x5 x6 x7 x8;generalize bC:wr.alloc _=w3 at *;obtain⟨j,BW⟩:=Bo.nw bC;clear bC;replace g:=g.b BW;replace d:=d.b BW;replace a:=aa a BW;clear BW;have f:=j.cell
   go_wp2_with fail
   refine(FG hM bB HX.out).mono ?_;rintro ee w4 ⟨e1,W,s1,P,V,F,H,G,C,rfl,v1,B⟩;clear f;replace j:=j.b B;replace g:=g.b B;replace d:=d.b B;replace a:=aa a B;clear B;clear HX hM bB;have f:=j.cell;have gB:=j.frozen
   go_upto_region 5 with (fail)
   clear f gB;generalize hS:((((((((w4.setCell _ _).setCell _ _).setCell _ _).setCell _ _).setCell _ _).setCell _ _).setCell _ _).setCell _ _).setCell _ _=w5 at *;have Y:=ae.of9 j hS;replace g:=g.stn Y (by decide);replace d:=d.stn Y (by decide);replace a:=ie (Y.below a.out gP);replace j:=Y.box;clear Y hS
   rcases x with _ | ⟨xa,xb⟩
   ·obtain⟨rfl,y1,fP⟩:=v1;have v:=L.out;have u:=J.out
    have bH:la ++It none=la:=List.append_nil la
    have bD:lb ++ym none=lb:=List.append_nil lb
    rw[bH]at v;rw[bD]at u;clear L J bH bD
    obtain⟨_,rfl,rfl,rfl,rfl,rfl,rfl,rfl,rfl⟩:=(show Ci true W s1 P V F H G C none from ⟨rfl,y1,fP⟩).uniq Ci.none
    clear y1 fP;refine jk [0,1,2] [some 14,some 15,some 16] [[],[],[0,1]] 3 0 [Jo.q9 true 0 false 0 0 0 false 0 0,Jo.q9 true 0 false 0 0 0 false 0 0,Jo.qb false] ?_ ?_
    ·refine jm ?_ ?_
     ·rintro wj p K q;simp only[Jo.z]at q|-;have f:=(j.b p).cell;go_simp;exact q.out _ _ rfl (br _ _)
     refine jm ?_ ?_
     ·rintro wj p K q;simp only[Jo.z]at q|-;go_simp;refine(dN).mono ?_;rintro ee wk ⟨rfl,B⟩;exact q.out _ _ rfl B
     refine jm ?_ ?_
     ·rintro wj p _ rfl _ rfl K q;simp only[Jo.z]at q|-;go_simp
      repeat' split
      all_goals exact q.out _ _ (congrArg Value.bool (by first | rfl | (exfalso;simp_all) | simp_all)) (br _ _)
     exact jo
    rintro w6 p _ rfl _ rfl _ rfl -;simp only[Jo.z];replace j:=j.b p;replace g:=g.b p;replace d:=d.b p;replace a:=aa a p;refine jd ?_;go_wp2
    go_roundw
    case rel=>exact ⟨k+1,_,_,_,_,_,by omega,by omega,rfl,rfl,by go_num,by rw[v];exact g,by rw[u];exact d,I.out,a.out⟩
    case measure=>simp [intOf];omega
   ·obtain⟨rfl,a1,b1,o1,hA,gS⟩:=v1
    have v:_=la ++[xa]:=L.out
    have u:_=lb ++[xb]:=J.out
    clear L J o1 hA gS;refine jk [0,1,2] [some 14,some 15,some 16] [[],[],[0,1]] 3 0 [Jo.q9 false W s1 P V F H G C,Jo.q9 true 0 false 0 0 0 false 0 0,Jo.qb true] ?_ ?_
    ·refine jm ?_ ?_
     ·rintro wj p K q;simp only[Jo.z]at q|-;have f:=(j.b p).cell;go_simp;exact q.out _ _ rfl (br _ _)
     refine jm ?_ ?_
     ·rintro wj p K q;simp only[Jo.z]at q|-;go_simp;refine(dN).mono ?_;rintro ee wk ⟨rfl,B⟩;exact q.out _ _ rfl B
     refine jm ?_ ?_
     ·rintro wj p _ rfl _ rfl K q;simp only[Jo.z]at q|-;go_simp
      repeat' split
      all_goals exact q.out _ _ (congrArg Value.bool (by first | rfl | (exfalso;simp_all) | simp_all)) (br _ _)
     exact jo
    rintro w6 p _ rfl _ rfl _ rfl -;simp only[Jo.z];replace j:=j.b p;replace g:=g.b p;replace d:=d.b p;replace a:=aa a p;refine jd ?_;have f:=j.cell
    go_wp2_with (at_builtin;refine jl rfl _ _ rfl rfl rfl (g.below (af _ _)) a1 (Bo.new _ _ _) (by omega) (Nat.le_trans a.out.size (af _ _).size) ?_)
    intro A2 d2 w7 T G1 U
    clear f;have t:=bt a.out (af _ (.cells #[.int .i64 W,.bool s1,.int .u64 P,.int .i64 V] 24));have r:=g.below (af _ (.cells #[.int .i64 W,.bool s1,.int .u64 P,.int .i64 V] 24));have y:=d.below (af _ (.cells #[.int .i64 W,.bool s1,.int .u64 P,.int .i64 V] 24));replace j:=(j.below (af _ (.cells #[.int .i64 W,.bool s1,.int .u64 P,.int .i64 V] 24))).grownN r (by decide) G1
    replace a:=ie (t.grown G1 t.size (fun k Q=>(r.own_lt k Q).1))
    have l1:∀k,bi B1=some k->k < w6.heap.size+1:=fun k Q=>by
     have:=(y.own_lt k Q).2
     simpa using this
    replace d:=y.kept G1 (Bu I.out);clear g r y G1 t;have f:=j.cell
    go_wp2_with (at_builtin;refine jl rfl _ _ rfl rfl rfl (d.below (af _ _)) b1 (Bo.new _ _ _) (by omega) (Nat.le_trans a.out.size (af _ _).size) ?_)
    intro B2 d3 w8 gO G2 Z
    clear f;have t:=bt a.out (af _ (.cells #[.int .i64 F,.bool H,.int .u64 G,.int .i64 C] 24));have y:=d.below (af _ (.cells #[.int .i64 F,.bool H,.int .u64 G,.int .i64 C] 24));have r:=T.below (af _ (.cells #[.int .i64 F,.bool H,.int .u64 G,.int .i64 C] 24))
    have lA:∀k,bi A2=some k->k < w7.heap.size+1:=fun k Q=>by
     have:=(r.own_lt k Q).2
     simpa using this
    have fH:∀k,bi A2=some k->bi B2≠some k:=oL I.out U Z l1 lA
    have R:∀k,bi A2=some k->bi B1≠some k:=oL I.out U (.inl rfl) l1 lA
    replace a:=ie (t.grown G2 t.size (fun k Q=>(y.own_lt k Q).1))
    replace T:=r.kept G2 (vi R)
    clear r y G2 t R j d l1 lA U Z;go_wp2
    go_roundw
    case rel=>exact ⟨k+1,_,_,_,_,_,by omega,by omega,rfl,rfl,by go_num,by rw[v];exact T,by rw[u];exact gO,fH,a.out⟩
    case measure=>simp [intOf];omega
  ·obtain rfl:k=n:=by omega
   have hC:decide ((k:Int) < (k:Int))=false:=by simp
   have e1:l.take k=l:=List.take_of_length_le (by rw[S.out];omega)
   rw[e1]at g d
   obtain rfl:X=m:=by rw[<-HM.out];exact g.len.symm
   have P:=g.nl (by omega);have M2:=d.nl (by omega);clear g d;go_wp2
   go_ret2
   exact⟨_,_,_,_,rfl,P,M2,a.out⟩
theorem Ap{w:World}{A:Option Addr}{n c:Nat}{l:List Sp}{z:Sp}(h:lh w A n c l)(hr:mj l=z):Calls prog 44 #[.slice A n c] w (PV w z):=by
 obtain⟨m,hm⟩:∃m,(dO l).length=m:=⟨_,rfl⟩;have q:=h.1;have p:=mf l;have r:=h.ok;have I:=ie hm
 go_enter func44,ntmps44
 go_upto_region 1 with (fail)
 generalize o:w.alloc _=w1 at *;obtain⟨a,d⟩:=Bo.en1 o;replace h:=h.below d.out;clear o
 go_wp2_with fail
 refine(Ao h I.out).mono ?_;rintro s W ⟨A1,c1,R,V,rfl,j,f,B⟩;replace a:=a.b B;replace d:=aa d B;clear B;clear h
 by_cases hl:m < n
 ·rw[Ec (by omega)]at hr
  obtain rfl:none=z:=hr
  have O:decide ((m:Int) < (n:Int))=true:=by simp;omega
  clear hm p q r
  go_wp2_with fail
  refine(dN).mono ?_;rintro s Q ⟨rfl,B⟩;replace a:=a.b B;replace j:=j.b B;replace f:=f.b B;replace d:=aa d B;clear B;clear j f;have i:=a.cell;have e:=a.frozen;go_wp2;clear i e;have k:=ae.t9 a true 0 false 0 0 0 false 0 0
  exact bq (by simp[results,results44,go_sem,k.box.cell]) rfl ⟨_,_,_,_,_,_,_,_,_,rfl,Ci.none,(k.below d.out (by omega))⟩
 ·have g:=(xo (by omega)).symm.trans hr
  have O:decide ((m:Int) < (n:Int))=false:=by simp;omega
  clear hr;obtain⟨u,D⟩:∃u,mW (dO l)=u:=⟨_,rfl⟩;obtain⟨v,E⟩:∃v,oc (dw l)=v:=⟨_,rfl⟩;rw[D,E]at g;have L:=ie D;have x:=ie E;have J:=ie g;clear D E g hm p q r
  go_wp2_with fail
  refine(qD j L.out).mono ?_;rintro s Q ⟨T,s1,U,S,rfl,G,B⟩;replace a:=a.b B;replace f:=f.b B;replace d:=aa d B;clear B
  go_wp2_with fail
  refine(r9 f x.out).mono ?_;rintro s X ⟨K2,s2,M2,E2,rfl,H,B⟩;replace a:=a.b B;replace d:=aa d B;clear B
  go_wp2_with fail
  refine(ia G.top H.top G.rk H.rk J.out).mono ?_;rintro s Y ⟨e3,M,s3,N,E3,y,F,C,t,rfl,P,B⟩;replace a:=a.b B;replace d:=aa d B;clear B;clear j f;have i:=a.cell;have e:=a.frozen;go_wp2;clear i e;have k:=ae.t9 a e3 M s3 N E3 y F C t
  exact bq (by simp[results,results44,go_sem,k.box.cell]) rfl ⟨_,_,_,_,_,_,_,_,_,rfl,P,(k.below d.out (by omega))⟩
theorem GK{w:World}{A:Option Addr}{n c:Nat}{l:List Sp}{z:Sp}(h:lh w A n c l)(hr:nR l=z):Calls prog 148 #[.slice A n c] w (PV w z):=by
 obtain⟨m,hm⟩:∃m,(dO l).length=m:=⟨_,rfl⟩;have t:=h.1;have s:=mf l;have g:=h.ok;have I:=ie hm
 go_enter func148,ntmps148
 go_upto_region 1 with (fail)
 generalize f:w.alloc _=w1 at *;obtain⟨a,d⟩:=Bo.en1 f;replace h:=h.below d.out;clear f
 go_wp2_with fail
 refine(Ao h I.out).mono ?_;rintro r U ⟨A1,c1,P,T,rfl,E,j,B⟩;replace a:=a.b B;replace d:=aa d B;clear B;clear h;have e:=(wO g).symm.trans hr;clear hr;obtain⟨u,x⟩:∃u,oc (dO l)=u:=⟨_,rfl⟩;obtain⟨v,y⟩:∃v,mW (dw l)=v:=⟨_,rfl⟩;rw[x,y]at e;have L:=ie x;have o:=ie y;have J:=ie e
 clear x y e hm s t g
 go_wp2_with fail
 refine(r9 E L.out).mono ?_;rintro r V ⟨R,s1,S,Q,rfl,G,B⟩;replace a:=a.b B;replace j:=j.b B;replace d:=aa d B;clear B
 go_wp2_with fail
 refine(qD j o.out).mono ?_;rintro r W ⟨K2,s2,M2,E2,rfl,H,B⟩;replace a:=a.b B;replace d:=aa d B;clear B
 go_wp2_with fail
 refine(ia G.top H.top G.rk H.rk J.out).mono ?_;rintro r X ⟨e3,M,s3,N,E3,p,C,q,k,rfl,O,B⟩;replace a:=a.b B;replace d:=aa d B;clear B;clear E j;have D:=a.cell;have i:=a.frozen;go_wp2;clear D i;have F:=ae.t9 a e3 M s3 N E3 p C q k
 exact bq (by simp[results,results148,go_sem,F.box.cell]) rfl ⟨_,_,_,_,_,_,_,_,_,rfl,O,(F.below d.out (by omega))⟩
def Rw (e:Bool)(K:Int)(s:Bool)(M E K':Int)(s':Bool)(M' E':Int)(x:Sp):Prop:=M < 18446744073709551616/\M' < 18446744073709551616/\jL e K s M E K' s' M' E'=x
theorem Ci.rw{e:Bool}{K M E K' M' E':Int}{s s':Bool}{x:Sp}(h:Ci e K s M E K' s' M' E' x):Rw e K s M E K' s' M' E' x:=⟨h.top.1,h.top.2,h.rk⟩
def Jo.Fact.il8 (n:Nat)(l:List Sp):Jo.Fact:=⟨fun v w=>∃A c,v= .slice A n c/\lh w A n c l,fun v w w' h b=>by
 obtain⟨A,c,e,h⟩:=h;exact⟨A,c,e,h.below b⟩⟩
theorem lh.lit1{W:World}{h:Nat}{K1 M1 E1 G1 P1 Q1:Int}{e1 s1 g1:Bool}{x1:Sp}(hg:W.heap.size=h)(v1:Rw e1 K1 s1 M1 E1 G1 g1 P1 Q1 x1):
  lh (W.alloc (.cells #[.bool e1,.int .i64 K1,.bool s1,.int .u64 M1,.int .i64 E1,.int .i64 G1,.bool g1,.int .u64 P1,.int .i64 Q1] 32)) (some ⟨h,0,none⟩) 1 1 [x1]:=by
 subst hg;have hh:=heap_alloc_new W (.cells #[.bool e1,.int .i64 K1,.bool s1,.int .u64 M1,.int .i64 E1,.int .i64 G1,.bool g1,.int .u64 P1,.int .i64 Q1] 32)
 refine⟨rfl,Nat.le_refl _,by decide,fun _=>⟨_,0,rfl,fun k hk=>?_⟩⟩
 obtain rfl:k=0:=by omega
 exact⟨e1,K1,s1,M1,E1,G1,g1,P1,Q1,by rw[cell_of_row _ _ _ _ _ _ hh];rfl,by rw[cell_of_row _ _ _ _ _ _ hh];rfl,by rw[cell_of_row _ _ _ _ _ _ hh];rfl,by rw[cell_of_row _ _ _ _ _ _ hh];rfl,by rw[cell_of_row _ _ _ _ _ _ hh];rfl,by rw[cell_of_row _ _ _ _ _ _ hh];rfl,by rw[cell_of_row _ _ _ _ _ _ hh];rfl,by rw[cell_of_row _ _ _ _ _ _ hh];rfl,by rw[cell_of_row _ _ _ _ _ _ hh];rfl,v1.1,v1.2.1,v1.2.2⟩
theorem lh.lit2{W:World}{h:Nat}{K1 M1 E1 G1 P1 Q1 K2 M2 E2 G2 P2 Q2:Int}{e1 s1 g1 e2 s2 g2:Bool}{x1 x2:Sp}(hg:W.heap.size=h)(v1:Rw e1 K1 s1 M1 E1 G1 g1 P1 Q1 x1)(v2:Rw e2 K2 s2 M2 E2 G2 g2 P2 Q2 x2):
  lh (W.alloc (.cells #[.bool e1,.int .i64 K1,.bool s1,.int .u64 M1,.int .i64 E1,.int .i64 G1,.bool g1,.int .u64 P1,.int .i64 Q1,.bool e2,.int .i64 K2,.bool s2,.int .u64 M2,.int .i64 E2,.int .i64 G2,.bool g2,.int .u64 P2,.int .i64 Q2] 32)) (some ⟨h,0,none⟩) 2 2 [x1,x2]:=by
 subst hg;have hh:=heap_alloc_new W (.cells #[.bool e1,.int .i64 K1,.bool s1,.int .u64 M1,.int .i64 E1,.int .i64 G1,.bool g1,.int .u64 P1,.int .i64 Q1,.bool e2,.int .i64 K2,.bool s2,.int .u64 M2,.int .i64 E2,.int .i64 G2,.bool g2,.int .u64 P2,.int .i64 Q2] 32)
 refine⟨rfl,Nat.le_refl _,by decide,fun _=>⟨_,0,rfl,fun k hk=>?_⟩⟩
 rcases (by omega:k=0\/k=1)with rfl | rfl
 ·exact⟨e1,K1,s1,M1,E1,G1,g1,P1,Q1,by rw[cell_of_row _ _ _ _ _ _ hh];rfl,by rw[cell_of_row _ _ _ _ _ _ hh];rfl,by rw[cell_of_row _ _ _ _ _ _ hh];rfl,by rw[cell_of_row _ _ _ _ _ _ hh];rfl,by rw[cell_of_row _ _ _ _ _ _ hh];rfl,by rw[cell_of_row _ _ _ _ _ _ hh];rfl,by rw[cell_of_row _ _ _ _ _ _ hh];rfl,by rw[cell_of_row _ _ _ _ _ _ hh];rfl,by rw[cell_of_row _ _ _ _ _ _ hh];rfl,v1.1,v1.2.1,v1.2.2⟩
 ·exact⟨e2,K2,s2,M2,E2,G2,g2,P2,Q2,by rw[cell_of_row _ _ _ _ _ _ hh];rfl,by rw[cell_of_row _ _ _ _ _ _ hh];rfl,by rw[cell_of_row _ _ _ _ _ _ hh];rfl,by rw[cell_of_row _ _ _ _ _ _ hh];rfl,by rw[cell_of_row _ _ _ _ _ _ hh];rfl,by rw[cell_of_row _ _ _ _ _ _ hh];rfl,by rw[cell_of_row _ _ _ _ _ _ hh];rfl,by rw[cell_of_row _ _ _ _ _ _ hh];rfl,by rw[cell_of_row _ _ _ _ _ _ hh];rfl,v2.1,v2.2.1,v2.2.2⟩
abbrev V9:=Bool × Int × Bool × Int × Int × Int × Bool × Int × Int
def f9:List V9->List Value
 | []=>[]
 | (e,K,s,M,E,K',s',M',E')::l=> .bool e:: .int .i64 K:: .bool s:: .int .u64 M:: .int .i64 E:: .int .i64 K':: .bool s':: .int .u64 M':: .int .i64 E'::f9 l
theorem kV:∀l m,f9 (l ++m)=f9 l ++f9 m
 | [],m=>rfl
 | (e,K,s,M,E,K',s',M',E')::l,m=>by
  show _::_::_::_::_::_::_::_::_::f9 (l ++m)=_
  rw[kV l m]
  rfl
theorem q8:∀l,(f9 l).length=l.length*9
 | []=>rfl
 | (e,K,s,M,E,K',s',M',E')::l=>by
  show (f9 l).length+9=(l.length+1)*9
  rw[q8 l]
  omega
theorem rc:∀(l:List V9),∀u ∈ f9 l,u.oneCell'=true
 | [],u,h=>by cases h
 | (e,K,s,M,E,K',s',M',E')::l,u,h=>by
  simp only[f9,List.mem_cons]at h
  rcases h with rfl | rfl | rfl | rfl | rfl | rfl | rfl | rfl | rfl | h
  iterate 9 rfl
  exact rc l u h
theorem vT:∀(l:List V9) (k:Nat) (e:Bool) (K:Int) (s:Bool) (M E K':Int) (s':Bool) (M' E':Int),l[k]?=some (e,K,s,M,E,K',s',M',E')->(f9 l)[k*9]?=some (.bool e)/\(f9 l)[k*9+1]?=some (.int .i64 K)/\(f9 l)[k*9+2]?=some (.bool s)/\(f9 l)[k*9+3]?=some (.int .u64 M)/\(f9 l)[k*9+4]?=some (.int .i64 E)/\(f9 l)[k*9+5]?=some (.int .i64 K')/\(f9 l)[k*9+6]?=some (.bool s')/\(f9 l)[k*9+7]?=some (.int .u64 M')/\(f9 l)[k*9+8]?=some (.int .i64 E')
 | [],k,_,_,_,_,_,_,_,_,_,h=>by cases h
 | (e,K,s,M,E,K',s',M',E')::l,0,_,_,_,_,_,_,_,_,_,h=>by
  cases h
  exact⟨rfl,rfl,rfl,rfl,rfl,rfl,rfl,rfl,rfl⟩
 | (e,K,s,M,E,K',s',M',E')::l,k+1,e2,K2,s2,M2,E2,K2',s2',M2',E2',h=>by
  have:=vT l k e2 K2 s2 M2 E2 K2' s2' M2' E2' h
  have e:(k+1)*9=k*9+9:=by omega
  rw[e];exact this
def Ia (w:World)(base:Nat)(A:Option Addr)(n c:Nat)(l:List Sp):Prop:=
 ∃r:List V9,w.ownsRow base 32 9 (.slice A n c) n (f9 r)/\r.length=n/\l.length=n/\∀k,k < n->∃e K s M E K' s' M' E',r[k]?=some (e,K,s,M,E,K',s',M',E')/\Ci e K s M E K' s' M' E' (l.getD k none)
theorem GF:(prog.info? 32).map (fun i=>(i.zero,i.size,i.bytes))=some (some (.agg #[.bool false,.int .i64 0,.bool false,.int .u64 0,.int .i64 0,.int .i64 0,.bool false,.int .u64 0,.int .i64 0]),9,72):=by kernel_rfl
section
variable {w w':World} {base n c:Nat} {A:Option Addr} {l:List Sp}
theorem Ia.nil (w:World)(base:Nat):Ia w base none 0 0 []:=⟨[],World.ownsRow_nil w base _ 9,rfl,rfl,fun k h=>absurd h (Nat.not_lt_zero _)⟩
theorem Ia.len (h:Ia w base A n c l):l.length=n:=by
 obtain⟨_,_,_,h,_⟩:=h;exact h
theorem Ia.below (h:Ia w base A n c l)(hb:Below w.heap.size w w'):Ia w' base A n c l:=by
 obtain⟨r,h1,h2⟩:=h;refine⟨r,⟨h1.1,?_⟩,h2⟩
 rcases h1.2 with b | ⟨g,cap,a,d,hg,hh,q⟩
 ·exact .inl b
 ·refine .inr ⟨g,cap,a,d,hg,?_,q⟩;rw[hb.block g (Array.getElem?_eq_some_iff.1 hh).1];exact hh
abbrev Ia.b:= @Ia.below
theorem Ia.own_lt (h:Ia w base A n c l):∀k,bi A=some k->base<=k/\k < w.heap.size:=by
 obtain⟨r,h1,h2⟩:=h
 intro k a
 exact h1.lt k (by rw[jH];exact a)
theorem Ia.cells (h:Ia w base A n c l)(h0:0 < n):∃g,A=some ⟨g,0,none⟩/\n<=c/\∃r:List V9,r.length=n/\(∀k,k < n->∃e K s M E K' s' M' E',r[k]?=some (e,K,s,M,E,K',s',M',E')/\Ci e K s M E K' s' M' E' (l.getD k none))/\∀j v,(f9 r)[j]?=some v->w.cell? ⟨g,0+j,none⟩=some v:=by
 obtain⟨r,h1,h2,f,h4⟩:=h
 rcases h1.2 with⟨e1,e2⟩ | ⟨g,cap,b,a,hg,hh,d,hm,hs,ht⟩
 ·omega
 ·injection a with a1 a2 a3
  subst a1;subst a3
  refine⟨g,rfl,d,r,h2,h4,fun j v a=>?_⟩
  rw[cell_of_row w g (0+j) _ _ (0,0) hh,Nat.zero_add,<-Array.getElem?_toList];rw[<-ht,List.getElem?_take]at a
  split at a
  ·exact a
  ·cases a
theorem Ia.il (h:Ia w base A n c l)(hn:n<=1099511627776):lh w A n c l:=by
 rcases Nat.eq_zero_or_pos n with b | b
 ·subst b;have hl:=h.len;obtain⟨r,h1,_⟩:=h
  rcases h1.2 with⟨e1,e2⟩ | ⟨g,cap,i,m,hg,hh,d,hm,hs,ht⟩
  ·injection e1 with a1 a2 a3
   subst a3
   exact⟨hl,Nat.le_refl _,by omega,fun h=>absurd h (Nat.lt_irrefl _)⟩
  ·exact⟨hl,Nat.zero_le _,by omega,fun h=>absurd h (Nat.lt_irrefl _)⟩
 ·obtain⟨g,rfl,d,r,h2,h4,a⟩:=h.cells b
  refine⟨h.len,d,hn,fun _=>⟨g,0,rfl,fun k hk=>?_⟩⟩
  obtain⟨e,K,s,M,E,K',s',M',E',j,q⟩:=h4 k hk;obtain⟨c0,c1,c2,c3,c4,c5,c6,c7,f⟩:=vT r k e K s M E K' s' M' E' j;refine⟨e,K,s,M,E,K',s',M',E',a _ _ c0,?_,?_,?_,?_,?_,?_,?_,?_,q.top.1,q.top.2,q.rk⟩
  all_goals rw[Nat.add_assoc]
  ·exact a _ _ c1
  ·exact a _ _ c2
  ·exact a _ _ c3
  ·exact a _ _ c4
  ·exact a _ _ c5
  ·exact a _ _ c6
  ·exact a _ _ c7
  ·exact a _ _ f
theorem Ia.lit{g:Nat}{e s s':Bool}{K M E K' M' E':Int}{x:Sp}(X:Bo w g #[.bool e,.int .i64 K,.bool s,.int .u64 M,.int .i64 E,.int .i64 K',.bool s',.int .u64 M',.int .i64 E'] 32)(q:Ci e K s M E K' s' M' E' x):Ia w g (some ⟨g,0,none⟩) 1 1 [x]:=by
 refine⟨[(e,K,s,M,E,K',s',M',E')],⟨rfl,.inr ⟨g,1,_,rfl,Nat.le_refl _,X,Nat.le_refl _,by decide,rfl,rfl⟩⟩,rfl,rfl,fun k hk=>?_⟩
 obtain rfl:k=0:=by omega
 exact⟨e,K,s,M,E,K',s',M',E',rfl,q⟩
theorem Gd (g j:Nat):(⟨g,0,none⟩:Addr).add j=⟨g,0+j,none⟩:=by
 unfold Addr.add
 split
 ·rename_i h
  subst h
  rfl
 ·rfl
theorem Ho{ty:TypeId}{base2 m d:Nat}{B:Option Addr}{l2:List Sp}(h:Ia w base A n c l)(k:Ia w base2 B m d l2)(h0:0 < m)(hn:n+m<=1000000)(hb:base<=w.heap.size):
  ∃A2 c2 w',(Builtin.append_ #[84,84] ty #[.slice A n c,.slice B m d]).run prog w= .ok (.slice A2 (n+m) c2) w'/\Ia w' base A2 (n+m) c2 (l ++l2)/\w.grownBy w' (bi A)/\(bi A2=bi A\/bi A2=some w.heap.size):=by
 obtain⟨i,hi,hz,D,x⟩:=info_parts GF;have z:=k.len;obtain⟨g,rfl,Q,q,I,M,p⟩:=k.cells h0;obtain⟨r,h1,h2,H,h4⟩:=h
 obtain⟨N,w',J,C,hg,_,f⟩:=run_append_own_at (P:=prog) w base 84 ty 32 i _ 9 72 Tryz.underlying84 hi hz D x rfl (by decide) _ n (f9 r) h1 ⟨g,0,none⟩ m d (f9 q) (by rw[q8,I])
  (fun j u hj=>by rw[Gd];exact p j u hj) (rc q) (by unfold maxLen;omega) (by omega) hb
 rw[jH]at hg f;rw[<-kV]at C
 obtain⟨A2,c2,rfl⟩:∃A2 c2,N= .slice A2 (n+m) c2:=by
  rcases C.2 with⟨_,h0⟩ | ⟨O,F,G,L,_⟩
  ·omega
  ·exact⟨_,_,L⟩
 rw[jH]at f
 refine⟨A2,c2,w',J,⟨_,C,by rw[List.length_append,h2,I],by rw[List.length_append,H,z],fun j hj=>?_⟩,hg,f⟩
 by_cases y:j < n
 ·obtain⟨e1,t,s1,v,s,b,o,e,a,hq,E⟩:=h4 j y;refine⟨e1,t,s1,v,s,b,o,e,a,by rw[List.getElem?_append_left (by omega)];exact hq,?_⟩
  rw[List.getD_eq_getElem?_getD,List.getElem?_append_left (by omega),<-List.getD_eq_getElem?_getD];exact E
 ·obtain⟨e1,t,s1,v,s,b,o,e,a,hq,E⟩:=M (j-n) (by omega);refine⟨e1,t,s1,v,s,b,o,e,a,by rw[List.getElem?_append_right (by omega),h2];exact hq,?_⟩
  rw[List.getD_eq_getElem?_getD,List.getElem?_append_right (by omega),H,<-List.getD_eq_getElem?_getD];exact E
theorem ye{ops:Array Oper}{rest:List Oper}{o:Oper}{a:Act}{Q:Exit->Act->World->Prop}(hgd:o.guard=none)(s x:Operand)
  (ho:o.op= .call {callee:= .builtin .append,args:= #[s,x],argTypes:= #[84,84]}) {base2 m d:Nat} {B:Option Addr} {l2:List Sp}
  (hs:a.eval s= .slice A n c) (hx:a.eval x= .slice B m d) (h:Ia w base A n c l) (k:Ia w base2 B m d l2) (h0:0 < m) (hn:n+m<=1000000) (hb:base<=w.heap.size)
  (hK:∀A2 c2 w',Ia w' base A2 (n+m) c2 (l ++l2)->w.grownBy w' (bi A)->(bi A2=bi A\/bi A2=some w.heap.size)->wpList prog ops Q rest (a.put o.dst (.slice A2 (n+m) c2)) w'):wpList prog ops Q (o::rest) a w:=by
 refine wpList_plain hgd fun K hK2=>?_
 obtain⟨A2,c2,w',e,h1,h2,b⟩:=Ho (ty:=o.type) h k h0 hn hb
 unfold Oper.wp execOp
 simp only[ho,resolve,invoke,builtin,Sem.run_bind,Sem.run_pure,Result.andThen_ok,List.map_toArray,List.map_cons,List.map_nil,hs,hx,e];exact hK2 _ _ (hK A2 c2 w' h1 h2 b)
end
theorem DX{w:World}{e:Bool}{D M E D' M' E':Int}{s s':Bool}{x:Sp}{r:Int}(hT:Tb w)(hM:LQ M)(hM':LQ M')(hx:jL e D s M E D' s' M' E'=x)(hr:nz x=r):Calls prog 41 #[VI e D s M E D' s' M' E'] w (PN w r):=by
 delta VI
 have p:=ie hx;clear hx
 go_enter func41,ntmps41
 go_upto_region 1 with (fail)
 generalize j:(w.alloc _).alloc _=w1 at *;obtain⟨g,c,d⟩:=Bo.en2 j;replace hT:=hT.below d.out;clear j;have a:=g.cell
 go_wp2_with fail
 refine(FG hM hM' p.out).mono ?_;rintro t I ⟨e1,P,s1,Q,O,F,H,G,A,rfl,v,B⟩;clear a;replace g:=g.b B;replace c:=c.b B;replace hT:=hT.b B;replace d:=aa d B;clear B;have a:=g.cell;have l:=g.frozen
 go_upto_region 2 with (fail)
 clear a l;generalize u:((((((((I.setCell _ _).setCell _ _).setCell _ _).setCell _ _).setCell _ _).setCell _ _).setCell _ _).setCell _ _).setCell _ _=R at *;have f:=ae.of9 g u;replace c:=c.s f;replace hT:=hT.s f;replace d:=bn d f (by omega);replace g:=f.box;clear f u
 clear p hM hM'
 rcases x with _ | ⟨L,N⟩
 ·obtain⟨rfl,z,k⟩:=v
  obtain rfl:0=r:=hr
  have a:=g.cell
  go_wp2_with fail
  refine(IG hT k.top z.top k.rk (y:=0) (by rw[z.rk];rfl) (r:=0) (fG true (by omega) (by omega))).mono ?_;rintro t J ⟨K2,s2,M2,E2,rfl,o,B⟩;clear a;replace g:=g.b B;replace c:=c.b B;replace hT:=hT.b B;replace d:=aa d B;clear B;have i:=c.cell;have h:=c.frozen
  go_wp2;clear i h;have f:=ae.t4 c K2 s2 M2 E2;exact bq (by simp[results,results41,go_sem,f.box.cell]) rfl ⟨_,_,_,_,rfl,o,(f.below d.out (by omega))⟩
 ·obtain⟨rfl,a1,q,o1,n,m⟩:=v
  have C:=ie (show av true N (-L)=r from hr)
  clear hr o1 n m;have a:=g.cell
  go_wp2_with fail
  refine(IG hT q.top a1.top q.rk (by rw[a1.rk]) C.out).mono ?_;rintro t J ⟨K2,s2,M2,E2,rfl,o,B⟩;clear a;replace c:=c.b B;replace d:=aa d B;clear B;have i:=c.cell;have h:=c.frozen;go_wp2;clear i h;have f:=ae.t4 c K2 s2 M2 E2
  exact bq (by simp[results,results41,go_sem,f.box.cell]) rfl ⟨_,_,_,_,rfl,o,(f.below d.out (by omega))⟩
end Go.Proofs.YtomikokonmikgaaGreatDoor
namespace Go.Proofs.YtomikokonmikgaaGreatDoor
open Go.Proofs.Tryz
open Go Go.RowKit
set_option linter.unusedVariables false
theorem Gg{y z s c S C k t e g:Rat}(y0:0<=y)(y1:y<=1)(z0:0<=z)(z1:z<=1)(yz:z<=y)(v1: -(3*g)<=S-y*C)(v2:S-y*C<=3*g)(u1: -(3*g)<=s-z*c)(u2:s-z*c<=3*g)(cu:2/3<=c)
  (k1: -(101/100)<=k) (k2:k<=101/100) (t0:0<=t) (t2:t<=101/100) (a1: -e<=S-(s*k+c*t)) (a2:S-(s*k+c*t)<=e) (b1: -e<=C-(c*k-s*t)) (b2:C-(c*k-s*t)<=e)
  (he:e*3<=g) (e0:0<=e) (g0:0<=g):t<=101/100*(y-z)+20*g:=by
 have j:=ax (b:=1) (x:=y) (by grind) y1 b1 b2;have l:=ax (b:=101/100) (x:=k) k1 k2 u1 u2;have a:=ax (b:=1) (x:=y) (by grind) y1 u1 u2;have m:=ax (b:=101/100) (x:=t) (by grind) t2 a.1 a.2
 have h:S-y*C=(S-(s*k+c*t))-y*(C-(c*k-s*t))+k*(s-z*c)+t*(y*(s-z*c))-c*((y-z)*k)+c*(t*(1+y*z)):=by grind
 have i:=Rat.mul_nonneg (show 0<=c by grind) (Rat.mul_nonneg t0 (Rat.mul_nonneg y0 z0))
 have o:=Rat.mul_nonneg (show 0<=c by grind) (Rat.mul_nonneg (show 0<=y-z by grind) (show 0<=101/100-k by grind))
 obtain⟨X,d⟩:∃X,X=t-101/100*(y-z):=⟨_,rfl⟩
 have f:c*X<=10*g:=by
  rw[d];generalize S-(s*k+c*t)=A1 at *;generalize y*(C-(c*k-s*t))=A3 at *;generalize k*(s-z*c)=A4 at *;generalize t*(y*(s-z*c))=A5 at *;generalize S-y*C=A7 at *
  grind
 by_cases n:X<=0
 ·grind
 ·have:=Rat.mul_nonneg (show 0<=c-2/3 by grind) (show 0<=X by grind)
  grind
theorem Di{v u:Int}(h0:0<=v)(h:v<=u)(h1:u<=SC)(near:(u-v)*1099511627776<=SC):be u*SR<=be v*SR+152/100*((u-v:Int):Rat)+40:=by
 have b:=bV
 have J:=Rat.intCast_le_intCast.2 (show (0:Int)<=u-v by omega)
 rw[Rat.intCast_zero]at J
 by_cases n:be u<=be v
 ·have:=Rat.mul_le_mul_of_nonneg_right n (Rat.le_of_lt b)
  grind
 obtain⟨d,hd⟩:∃d,be u=be v+d:=⟨be u-be v,by grind⟩
 obtain⟨R,S⟩:=dC h0 (by omega:v<=SC);obtain⟨a1,a2⟩:=dC (by omega:0<=u) h1;obtain⟨Z,q2⟩:=iz
 have E:0<=d:=by grind
 have T:d<=3/2:=by grind
 obtain⟨C,D⟩:=j9 h0 (by omega:v<=SC);obtain⟨w,A⟩:=j9 (by omega:0<=u) h1
 have t:(v:Rat) /SR<=(u:Rat) /SR:=Rat.le_of_mul_le_mul_right (c:=SR) (by rw[dT,dT];exact Rat.intCast_le_intCast.2 h) b
 obtain⟨g,i⟩:=kj h0 (by omega:v<=SC);obtain⟨e,f⟩:=kj (by omega:0<=u) h1;have F:=ot h0 (by omega:v<=SC);obtain⟨O,p2⟩:=o9 (m:=be v) (h:=d) (by grind) (by grind) (by grind) (by grind);obtain⟨P,Q⟩:=oB (m:=be v) (h:=d) (by grind) (by grind) (by grind) (by grind);have j:=pQ (x:=d) (by grind) (by grind);rw[hd]at e f
 have o:=ew O
 have p:=er p2
 have q:=ew P
 have s:=er Q
 obtain⟨e1,e2,e3,G,W,H,V⟩:=zy;have mV:=vI E (by grind)
 have o1:(1:Rat) /SR*SR=1:=Rat.div_mul_cancel (Rat.ne_of_gt b)
 have I:(0:Rat)<=1/SR:=by
  refine Rat.le_of_mul_le_mul_right (c:=SR) ?_ b;rw[o1]
  grind
 have L:am d<=101/100*((u:Rat) /SR-(v:Rat) /SR)+20*(1/SR):=by
  have N:(3:Rat) /SR=3*(1/SR):=by
   have:(3:Rat) /SR*SR=3:=Rat.div_mul_cancel (Rat.ne_of_gt b)
   refine Rat.le_antisymm (Rat.le_of_mul_le_mul_right (c:=SR) ?_ b) (Rat.le_of_mul_le_mul_right (c:=SR) ?_ b) <;> grind
  rw[N]at e f g i;exact Gg w A C D t e f g i F j.1.1 j.1.2 (by grind) j.2.2 o p q s G H I
 -- so it is small,and the sine is two thirds of it at least
 have X:=dT u;have Y:=dT v;have M:=Rat.intCast_le_intCast.2 near
 rw[Rat.intCast_mul,Rat.intCast_sub,show ((1099511627776:Int):Rat)=1099511627776 from rfl]at M
 have l:((u:Rat) /SR-(v:Rat) /SR)*SR=((u-v:Int):Rat):=by
  rw[Rat.intCast_sub]
  grind
 have small:(u:Rat) /SR-(v:Rat) /SR<=1/1000:=by
  refine Rat.le_of_mul_le_mul_right (c:=SR) ?_ b
  grind
 have g1:(1:Rat) /SR<=1/10000:=by
  refine Rat.le_of_mul_le_mul_right (c:=SR) ?_ b;rw[o1]
  have:=rv
  grind
 have U:d<=1/2:=by grind
 have z:=ki
 have r:=Df.rise (B:=2) (k:=2/3) (by grind) mM (a:=1/2) (x:=0) (h:=d) E (by grind) (by grind) (by grind) (by grind) (by grind) (fun y y1 y2=>tx y1 y2)
 rw[show (0:Rat)+d=d by grind,z]at r
 have fin:d<=152/100*((u:Rat) /SR-(v:Rat) /SR)+30*(1/SR):=by grind
 have m:=Rat.mul_le_mul_of_nonneg_right fin (Rat.le_of_lt b);rw[hd];rw[<-l]
 grind
