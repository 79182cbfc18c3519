/-
 Contracts that the proof rests on.
-/
import Derived.Test.YteigedaefgmojaaGreatDoorYUaq
namespace Go.Proofs.YteigedaefgmojaaGreatDoor
open Go.Proofs.Tryz
set_option maxHeartbeats 2000000
open Go.RowKit
set_option linter.unusedVariables false
theorem ku{n:Int}(h:0 < n)(h1:n<=9223372036854775807):0 < al n/\al n < 19342822337206103650074625:=by
 have e:al n=lo n.natAbs 0:=by
  unfold al
  rw[df (show ¬n < 0 by omega)]
  exact if_neg (by decide)
 have c:=Fp (a:=n) (b:=0) (by omega) h1 (by decide) (by decide);rw[mK,aC h]at c
 have:=(qW n.natAbs 0).2
 rw[<-e]at this;refine⟨?_,by omega⟩
 rcases aU (al n) 0 with⟨a,b⟩ | ⟨a,b⟩ | ⟨a,b⟩
 ·rw[b]at c;exact absurd c (by decide)
 ·rw[b]at c;exact absurd c (by decide)
 ·exact a
theorem bz{x:Int}(h1: -19342822337206103650074625 < x)(h2:x < 19342822337206103650074625):ax x=false:=by
 cases h:ax x
 ·rfl
 ·have:=bP h;omega
theorem DQ{r:Int}(h:0 < r):vp (r+9223372036854775808)=vp r*2:=by
 unfold vp
 rw[if_neg (by omega),if_neg (by omega)]
 have e1:(r+9223372036854775808-1)%9223372036854775808=(r-1)%9223372036854775808:=by omega
 have e2:((r+9223372036854775808-1) /9223372036854775808-1048576+(KK:Int)).toNat=((r-1) /9223372036854775808-1048576+(KK:Int)).toNat+1:=by
  rw[dT]
  omega
 rw[e1,e2,Int.pow_succ,Int.mul_assoc]
theorem nv{r:Int}(h:0 < r):vr (r+9223372036854775808)=vr r*2:=by
 unfold vr
 rw[if_neg (by omega),if_neg (by omega),DQ h]
theorem tight{P:Int × Int}(hP:Nf P)(h1:vr (-19342822337206103650074624)<=vl P)(h2:vl P<=vr 19342822337206103650074624):
  ∃r r',eI false P.1 P.2=r/\eI true P.1 P.2=r'/\ -19342822337206103650074625 < r/\r < 19342822337206103650074625/\ -19342822337206103650074625 < r'/\r' < 19342822337206103650074625/\((r'=r/\vr r=vl P)\/(r'=r+1/\vr r < vl P/\vl P < vr r')):=by
 obtain⟨a,b⟩:=dl hP;refine⟨_,_,rfl,rfl,?_⟩
 revert a b
 generalize eI false P.1 P.2=r;generalize eI true P.1 P.2=r'
 intro a b
 have I8:=(gn (r:= -19342822337206103650074624) (by decide) (by decide)).mono a h1;have zn:=b.mono (gE (r:=19342822337206103650074624) (by decide) (by decide)) h2;obtain⟨a1,a2,a3,g⟩:=a;obtain⟨h,i,d,f⟩:=b;have c1:=a3 (by omega);have n1:=aJ r'
 have c2:vl P<=vr r':=by
  have:=d (by omega)
  omega
 have k:r<=r':=by
  rcases Int.lt_or_le r' r with q | q
  ·have:=jl q;omega
  ·exact q
 by_cases e:vr r=vl P
 ·have l:Up (vl P) r:=e▸gE (by omega) (by omega)
  have:=l.uniq (show Up (vl P) r' from ⟨h,i,d,f⟩)
  subst this;exact⟨by omega,by omega,by omega,by omega,.inl ⟨rfl,e⟩⟩
 ·have hlt:vr r < vl P:=by omega
  have j:r≠r':=fun c=>by rw[<-c]at c2;omega
  have c3:=g (by omega);have n2:=aJ (r' - 1)
  have c4:r'<=r+1:=by
   rcases Int.lt_or_le (r+1) r' with q | q
   ·have:=f (by omega)
    rw[show -r'+1= -(r' - 1) by omega]at this
    have:=bM (show r+1<=r' - 1 by omega)
    omega
   ·exact q
  obtain rfl:r'=r+1:=by omega
  exact⟨by omega,by omega,by omega,by omega,.inr ⟨rfl,hlt,c3⟩⟩
theorem IX{M E:Int}(h1:9223372036854775808<=M)(h2:LQ M)(h3: -1048576 < E):
  vr (M-9223372036854775808+1+(E+1048576)*9223372036854775808)=M*2^(E+KK).toNat/\vr (M-9223372036854775808+1+(E+1048576)*9223372036854775808+1)=M*2^(E+KK).toNat+2^(E+KK).toNat/\vr (M-9223372036854775808+1+(E+1048576)*9223372036854775808-1)<=M*2^(E+KK).toNat-2^(E-1+KK).toNat:=by
 have e:=dT
 have b:∀{q:Int},0 < q->vr q=vp q:=fun {q} hq=>by
  unfold vr
  rw[if_neg (by omega)]
 have a:(2:Int)^(E+KK).toNat=2^(E-1+KK).toNat*2:=by
  rw[<-Int.pow_succ]
  congr 1
  omega
 have d:=aE (E-1+KK).toNat;refine⟨?_,?_,?_⟩
 ·rw[b (by omega),dS h1 h2 (by omega)]
 ·rw[b (by omega)]
  by_cases c:M=18446744073709551615
  ·have:=dS (M:=9223372036854775808) (E:=E+1) (by decide) (by decide) (by omega)
   rw[show M-9223372036854775808+1+(E+1048576)*9223372036854775808+1=(9223372036854775808:Int)-9223372036854775808+1+(E+1+1048576)*9223372036854775808 by omega,this,show (E+1+(KK:Int)).toNat=(E+KK).toNat+1 by omega,Int.pow_succ,c]
   omega
  ·have:=dS (M:=M+1) (E:=E) (by omega) (by omega) (by omega)
   rw[show M-9223372036854775808+1+(E+1048576)*9223372036854775808+1=M+1-9223372036854775808+1+(E+1048576)*9223372036854775808 by omega,this,Int.add_mul,Int.one_mul]
 ·by_cases c:M=9223372036854775808
  ·have:=dS (M:=18446744073709551615) (E:=E-1) (by decide) (by decide) (by omega)
   rw[show M-9223372036854775808+1+(E+1048576)*9223372036854775808-1=(18446744073709551615:Int)-9223372036854775808+1+(E-1+1048576)*9223372036854775808 by omega,b (by omega),this,c,a]
   omega
  ·have:=dS (M:=M-1) (E:=E) (by omega) (by omega) (by omega)
   rw[show M-9223372036854775808+1+(E+1048576)*9223372036854775808-1=M-1-9223372036854775808+1+(E+1048576)*9223372036854775808 by omega,b (by omega),this,Int.sub_mul,Int.one_mul,a]
   omega
theorem bW{x y:Int}(up:Bool)(x1: -19342822337206103650074625 < x)(x2:x < 19342822337206103650074625)(y1: -19342822337206103650074625 < y)(y2:y < 19342822337206103650074625):Dn (vr x+vr y) (ay false x y)/\Up (vr x+vr y) (ay true x y):=by
 obtain⟨n,v⟩:=kD x1 x2 y1 y2;obtain⟨a,b⟩:=dl n;rw[v]at a b;rw[eF _ (bz x1 x2) (bz y1 y2),eF _ (bz x1 x2) (bz y1 y2)];exact⟨a,b⟩
theorem aK (x:Int):aj false x=x:=if_neg (by decide)
theorem aN (x:Int):aj true x= -x:=if_pos rfl
theorem Dn.sep{A B a b r:Int}(h:Dn A r)(hA1:a < A)(hA2:A < b)(hB1:a < B)(hB2:B < b)(hs:∀s,¬(a < vr s/\vr s < b)):Dn B r:=by
 obtain⟨h1,h2,c,h4⟩:=h
 refine⟨h1,h2,fun k=>?_,fun k=>?_⟩
 ·have:=c k
  have:=hs r
  omega
 ·have:=h4 k
  have:=hs (r+1)
  omega
theorem wH{P Q:Int × Int}(up:Bool)(hP:Nf P)(hQ:Nf Q){a b:Int}(hA1:a < vl P)(hA2:vl P < b)(hB1:a < vl Q)(hB2:vl Q < b)(hs:∀s,¬(a < vr s/\vr s < b)):eI up P.1 P.2=eI up Q.1 Q.2:=by
 obtain⟨c,p2⟩:=dl hP;obtain⟨d,e⟩:=dl hQ
 cases up
 ·exact(c.sep hA1 hA2 hB1 hB2 hs).uniq d
 ·refine Up.uniq (X:=vl Q) ?_ e
  refine Dn.sep (a:= -b) (b:= -a) p2 (by omega) (by omega) (by omega) (by omega) (fun s=>?_)
  have:=hs (-s)
  rw[aJ]at this
  omega
theorem sw{P Q:Int × Int}(up:Bool)(hP:Nf P)(hQ:Nf Q)(h:vl P=vl Q):eI up P.1 P.2=eI up Q.1 Q.2:=by
 have a:=lc hP hQ (Int.le_of_eq h) up;have b:=lc hQ hP (Int.le_of_eq h.symm) up;exact Int.le_antisymm a b
theorem wI{P Q:Int × Int}{s:Bool}{A B a b:Int}(up:Bool)(hP:Nf P)(hQ:Nf Q)(eP:vl P=aj s A)(eQ:vl Q=aj s B)(hA1:a < A)(hA2:A < b)(hB1:a < B)(hB2:B < b)(hs:∀s,¬(a < vr s/\vr s < b)):eI up P.1 P.2=eI up Q.1 Q.2:=by
 cases s
 ·rw[aK]at eP eQ;exact wH up hP hQ (a:=a) (b:=b) (by omega) (by omega) (by omega) (by omega) hs
 ·rw[aN]at eP eQ
  refine wH up hP hQ (a:= -b) (b:= -a) (by omega) (by omega) (by omega) (by omega) (fun t=>?_)
  have:=hs (-t)
  rw[aJ]at this
  omega
theorem BO{z e:Int}(h:z.natAbs < 2^128)(h1: -3000000<=e)(h2:e<=3000000):vl (mk z e)=z*2^(e+KK).toNat:=by
 obtain⟨η,a⟩:∃η:Nat,η=4000000:=⟨_,rfl⟩;refine(kW (h:=η) (by omega) (by omega) ?_).2
 have:=Nat.mul_lt_mul_of_pos_right h (Nat.pow_pos (n:=(e+(η:Int)).toNat) (show 0 < 2 by decide))
 rw[<-Nat.pow_add]at this;exact Nat.lt_of_lt_of_le this (Nat.pow_le_pow_right (by decide) (by omega))
theorem ri{i:Int}{u:Nat}(hi:21267647932558653966460912964485513216<=i)(s:Int):¬(2*i*2^u < vr s/\vr s < (2*i+2)*2^u):=by
 rintro ⟨h1,h2⟩;have b:=aE u
 have a:0 < vr s:=Int.lt_of_le_of_lt (Int.mul_nonneg (by omega) (Int.le_of_lt b)) h1
 have hs:0 < s:=by
  rcases Int.lt_or_le 0 s with q | q
  ·exact q
  ·exfalso
   have:=bM q
   rw[show vr 0=0 from rfl]at this
   omega
 have e0:vr s=((s-1)%9223372036854775808+9223372036854775808)*2^((s-1) /9223372036854775808-1048576+KK).toNat:=by
  unfold vr vp
  rw[if_neg (by omega),if_neg (by omega)]
 obtain⟨M,c⟩:∃M,(s-1)%9223372036854775808+9223372036854775808=M:=⟨_,rfl⟩;obtain⟨t,ht⟩:∃t,((s-1) /9223372036854775808-1048576+(KK:Int)).toNat=t:=⟨_,rfl⟩;rw[c,ht]at e0
 have f:M < 18446744073709551616:=by omega
 rw[e0]at h1 h2;clear e0 c ht hs a
 rcases Nat.lt_or_ge u t with q | q
 ·obtain⟨d,rfl⟩:∃d,t=u+1+d:=⟨t-(u+1),by omega⟩
  have e1:M*2^(u+1+d)=M*2^d*2*2^u:=by
   rw[Int.pow_add,Int.pow_succ];generalize (2:Int)^u=U;generalize (2:Int)^d=D;rw[Int.mul_assoc M D 2,Int.mul_assoc M,Int.mul_comm U 2,Int.mul_comm (2*U) D,Int.mul_assoc D 2 U]
  rw[e1]at h1 h2;have a1:=Int.lt_of_mul_lt_mul_right h1 (Int.le_of_lt b);have a2:=Int.lt_of_mul_lt_mul_right h2 (Int.le_of_lt b)
  omega
 ·obtain⟨d,rfl⟩:∃d,u=t+d:=⟨u-t,by omega⟩
  have ht:=aE t;have hd:=aE d;rw[Int.pow_add]at h1
  have e:(2:Int)^t*1<=2^t*2^d:=Int.mul_le_mul_of_nonneg_left hd (Int.le_of_lt ht)
  rw[Int.mul_one]at e
  have l2:2*i*(2:Int)^t<=2*i*(2^t*2^d):=Int.mul_le_mul_of_nonneg_left e (by omega)
  have a1:=Int.lt_of_mul_lt_mul_right (Int.lt_of_le_of_lt l2 h1) (Int.le_of_lt ht)
  omega
def gx (M:Int)(n:Nat):Int:=if n<=64 then M*2^(64-n)else if M%2^(n-64)=0 then M/2^(n-64)else M/2^(n-64) /2*2+1
theorem Cz{a b:Nat}(h:a<=b):(2:Int)^a<=2^b:=by
 have:=Nat.pow_le_pow_right (show 0 < 2 by decide) h
 exact_mod_cast this
theorem div_le_self{M p:Int}(h0:0<=M)(hp:0 < p):0<=M/p/\M/p<=M:=⟨Int.ediv_nonneg h0 (Int.le_of_lt hp),Int.ediv_le_self _ h0⟩
theorem Ih{M:Int}{n:Nat}(h0:0<=M)(hM:LQ M)(hn:1<=n):0<=gx M n/\gx M n<=M*9223372036854775808+1/\gx M n < 170141183460469231731687303715884105728/\(2<=n->gx M n < 85070591730234615865843651857942052864):=by
 unfold gx
 by_cases h:n<=64
 ·rw[if_pos h]
  have e:=Cz (show 64-n<=63 by omega)
  have d:=aE (64-n);have a1:=Int.mul_le_mul_of_nonneg_left e h0
  rw[show (2:Int)^63=9223372036854775808 by decide]at a1
  refine⟨Int.mul_nonneg h0 (Int.le_of_lt d),by omega,by omega,fun h2=>?_⟩
  have l2:=Cz (show 64-n<=62 by omega)
  have a2:=Int.mul_le_mul_of_nonneg_left l2 h0
  rw[show (2:Int)^62=4611686018427387904 by decide]at a2
  omega
 ·rw[if_neg h];obtain⟨a,b⟩:=div_le_self h0 (aE (n-64))
  revert a b
  generalize M/2^(n-64)=q
  intro a b
  by_cases c:M%2^(n-64)=0
  ·rw[if_pos c]
   refine⟨by omega,by omega,by omega,fun _=>by omega⟩
  ·rw[if_neg c]
   refine⟨by omega,by omega,by omega,fun _=>by omega⟩
theorem eV{s:Bool}{M E x:Int}(q:Fq 1 s M E x):9223372036854775808<=M/\M < 18446744073709551616/\ -1048576<=E/\E<=1048576/\ -19342822337206103650074625 < x/\x < 19342822337206103650074625/\x≠0/\vr x=aj s (M*2^(E+KK).toNat)/\decide (x < 0)=s:=by
 rcases q.cases with⟨c,_⟩ | ⟨_,h1,h2,b,h4,a⟩ | ⟨c,_⟩
 ·exact absurd c (by decide)
 ·have d:=dS h1 h2 b
  have hx:x=aj s (M-9223372036854775808+1+(E+1048576)*9223372036854775808):=by
   rcases a with⟨rfl,a⟩ | ⟨rfl,a⟩
   ·rw[aK];omega
   ·rw[aN];omega
  have e:vr x=aj s (M*2^(E+KK).toNat):=by
   rw[hx,DR s (by omega),d]
  refine⟨h1,h2,b,h4,?_,?_,?_,e,?_⟩
  ·rcases a with⟨_,a⟩ | ⟨_,a⟩ <;> omega
  ·rcases a with⟨_,a⟩ | ⟨_,a⟩ <;> omega
  ·rcases a with⟨_,a⟩ | ⟨_,a⟩ <;> omega
  ·rcases a with⟨rfl,a⟩ | ⟨rfl,a⟩
   ·exact df (by omega)
   ·exact dt (by omega)
 ·exact absurd c (by decide)
theorem FP (s t:Bool)(x y:Int):aj s x+aj t y=aj s (x+aj (s !=t) y):=by
 cases s <;> cases t
 ·rw[show (false !=false)=false from rfl,aK,aK,aK]
 ·rw[show (false !=true)=true from rfl,aK,aN,aK]
 ·rw[show (true !=false)=true from rfl,aN,aK,aN,aN];omega
 ·rw[show (true !=true)=false from rfl,aN,aN,aK,aN];omega
theorem l7 (s:Bool){S:Int}(h:0<=S):(aj s S).natAbs=S.toNat:=by
 cases s
 ·rw[aK];omega
 ·rw[aN];omega
theorem kE{s1 s2:Bool}{M1 M2 E1 E2 x y S:Int}{n:Nat}(up:Bool)(q1:Fq 1 s1 M1 E1 x)(q2:Fq 1 s2 M2 E2 y)(h:E2 < E1\/E2=E1/\M2<=M1)(hn:(n:Int)=E1-E2+1)(hS:S=M1*9223372036854775808+aj (s1 !=s2) (gx M2 n)):
  0<=S/\S < 340282366920938463463374607431768211456/\eI up (mk (aj s1 S) (E1-63)).1 (mk (aj s1 S) (E1-63)).2=ay up x y:=by
 obtain⟨a1,a2,a3,a4,C,D,a7,E,a9⟩:=eV q1;obtain⟨b1,R,b3,b4,F,G,b7,H,b9⟩:=eV q2;obtain⟨A,B,m2,L⟩:=Ih (M:=M2) (n:=n) (by omega) R (by omega);have hk:=dT
 have k:n=1->gx M2 n=M2*9223372036854775808:=by
  rintro rfl
  unfold gx
  rw[if_pos (by decide)]
  rfl
 have i:0<=S/\S < 340282366920938463463374607431768211456:=by
  rw[hS]
  cases hs:s1 !=s2
  ·rw[aK];omega
  ·rw[aN]
   by_cases c:n=1
   ·have:=k c
    omega
   ·have:=L (by omega)
    omega
 refine⟨i.1,i.2,?_⟩;rw[eF up (bz C D) (bz F G)];obtain⟨t,g⟩:=kD C D F G;have f:=fJ (aj s1 S) (E1-63);have d:=BO (z:=aj s1 S) (e:=E1-63) (by rw[l7 s1 i.1];omega) (by omega) (by omega);obtain⟨u,W⟩:∃u:Nat,(E1-63+(KK:Int)).toNat=u:=⟨_,rfl⟩;obtain⟨v,X⟩:∃v:Nat,(E2+(KK:Int)).toNat=v:=⟨_,rfl⟩
 have e1:(E1+(KK:Int)).toNat=63+u:=by omega
 rw[W]at d
 rw[e1,Int.pow_add,show (2:Int)^63=9223372036854775808 by decide,<-Int.mul_assoc]at E
 rw[X]at H;rw[E,H,FP]at g;rw[gC,hS,Int.add_mul,gC]at d;rw[hS];rw[hS]at f
 by_cases c:n<=64
 ·have e2:gx M2 n*2^u=M2*2^v:=by
   unfold gx
   rw[if_pos c,Int.mul_assoc,<-Int.pow_add]
   congr 2
   omega
  exact sw up f t (by rw[d,g,e2])
 ·have I:u=v+(n-64):=by omega
  by_cases s:M2%2^(n-64)=0
  ·have e2:gx M2 n*2^u=M2*2^v:=by
    unfold gx
    rw[if_neg c,if_pos s,I,Int.pow_add,Int.mul_comm (2^v),<-Int.mul_assoc]
    congr 1
    exact Int.ediv_mul_cancel (Int.dvd_of_emod_eq_zero s)
   exact sw up f t (by rw[d,g,e2])
  ·have hm:gx M2 n=M2/2^(n-64) /2*2+1:=by
    unfold gx
    rw[if_neg c,if_neg s]
   have hd:=Int.mul_ediv_add_emod M2 (2^(n-64));have hp:=aE (n-64);have r0:=Int.emod_nonneg M2 (Int.ne_of_gt hp);have r1:=Int.emod_lt_of_pos M2 hp
   obtain⟨T,U⟩:=div_le_self (show 0<=M2 by omega) hp
   have p:=aE v;have o:=aE u;rw[hm]at d f|-;rw[hm]at A B;clear k i m2 L hS hm;generalize M2%2^(n-64)=r at hd r0 r1 s;generalize M2/2^(n-64)=q at hd T U d f A B|-
   have J:(2:Int)^u=2^(n-64)*2^v:=by rw[I,Int.pow_add,Int.mul_comm]
   obtain⟨j,V⟩:∃j,q/2=j:=⟨_,rfl⟩;rw[V]at d f A B|-
   -- the exact one lies between 2 j and 2 j+2
   have N:2*j*2^u < M2*2^v:=by
    rw[J,<-Int.mul_assoc];refine Int.mul_lt_mul_of_pos_right ?_ p
    have w:2*j*2^(n-64)<=q*2^(n-64):=Int.mul_le_mul_of_nonneg_right (by omega) (Int.le_of_lt hp)
    rw[Int.mul_comm q]at w
    omega
   have O:M2*2^v < (2*j+2)*2^u:=by
    rw[J,<-Int.mul_assoc];refine Int.mul_lt_mul_of_pos_right ?_ p
    have w:(q+1)*2^(n-64)<=(2*j+2)*2^(n-64):=Int.mul_le_mul_of_nonneg_right (by omega) (Int.le_of_lt hp)
    rw[Int.add_mul,Int.one_mul,Int.mul_comm q]at w
    omega
   have P:2*j*2^u < (j*2+1)*2^u:=Int.mul_lt_mul_of_pos_right (by omega) o
   have Q:(j*2+1)*2^u < (2*j+2)*2^u:=Int.mul_lt_mul_of_pos_right (by omega) o
   revert N O P Q g d
   generalize M2*2^v=Y;generalize hZ:(j*2+1)*2^u=Z
   intro g d N O P Q
   cases hs:s1 !=s2
   ·rw[hs]at g d f;rw[aK]at g f|-;rw[aK,aK]at d
    have l:2*(M1*4611686018427387904+j)*2^u=M1*9223372036854775808*2^u+2*j*2^u:=by rw[<-Int.add_mul];congr 1;omega
    have m:(2*(M1*4611686018427387904+j)+2)*2^u=M1*9223372036854775808*2^u+(2*j+2)*2^u:=by rw[<-Int.add_mul];congr 1;omega
    refine wI up f t d g (a:=2*(M1*4611686018427387904+j)*2^u) (b:=(2*(M1*4611686018427387904+j)+2)*2^u) ?_ ?_ ?_ ?_ (ri (by omega))
    ·rw[l];omega
    ·rw[m];omega
    ·rw[l];omega
    ·rw[m];omega
   ·rw[hs]at g d f;rw[aN]at g f|-;rw[aN,aN]at d
    have l:2*(M1*4611686018427387904-j-1)*2^u=M1*9223372036854775808*2^u-(2*j+2)*2^u:=by rw[<-Int.sub_mul];congr 1;omega
    have m:(2*(M1*4611686018427387904-j-1)+2)*2^u=M1*9223372036854775808*2^u-2*j*2^u:=by rw[<-Int.sub_mul];congr 1;omega
    refine wI up f t d g (a:=2*(M1*4611686018427387904-j-1)*2^u) (b:=(2*(M1*4611686018427387904-j-1)+2)*2^u) ?_ ?_ ?_ ?_ (ri (by omega))
    ·rw[l];omega
    ·rw[m];omega
    ·rw[l];omega
    ·rw[m];omega
theorem ro{s1 s2:Bool}{M1 M2 E1 E2 x y:Int}(up:Bool)(q1:Fq 1 s1 M1 E1 x)(q2:Fq 1 s2 M2 E2 y):
  0<=M1*M2/\M1*M2 < 340282366920938463463374607431768211456/\eI up (mk (aj (s1 !=s2) (M1*M2)) (E1+E2)).1 (mk (aj (s1 !=s2) (M1*M2)) (E1+E2)).2=eN up x y:=by
 obtain⟨a1,a2,a3,o,f,g,p,k,q⟩:=eV q1;obtain⟨r,s,t,u,h,i,v,l,w⟩:=eV q2;have A:=dT
 have j:0<=M1*M2:=Int.mul_nonneg (by omega) (by omega)
 have h1:M1*M2 < 340282366920938463463374607431768211456:=by
  have B:M1*M2<=18446744073709551615*M2:=Int.mul_le_mul_of_nonneg_right (by omega) (by omega)
  omega
 refine⟨j,h1,?_⟩;rw[gV up (by omega) (by rw[bz f g,bz h i];simp)];obtain⟨n,m⟩:=mP f g h i;have d:=fJ (aj (s1 !=s2) (M1*M2)) (E1+E2);have c:=BO (z:=aj (s1 !=s2) (M1*M2)) (e:=E1+E2) (by rw[l7 _ j];omega) (by omega) (by omega);refine sw up d n ?_;refine Int.eq_of_mul_eq_mul_right (Int.ne_of_gt (aE KK)) ?_
 rw[m,c,k,l,Int.mul_assoc,<-Int.pow_add,show (E1+E2+(KK:Int)).toNat+KK=(E1+(KK:Int)).toNat+(E2+(KK:Int)).toNat by omega,Int.pow_add]
 generalize (2:Int)^(E1+(KK:Int)).toNat=U;generalize (2:Int)^(E2+(KK:Int)).toNat=V
 have e:∀a b:Int,a*b*(U*V)=a*U*(b*V):=fun a b=>by
  rw[Int.mul_assoc,Int.mul_assoc,<-Int.mul_assoc b,Int.mul_comm b U,Int.mul_assoc U]
 cases s1 <;> cases s2
 ·rw[show (false !=false)=false from rfl,aK,aK,aK];exact e _ _
 ·rw[show (false !=true)=true from rfl,aK,aN,aN,Int.neg_mul,Int.mul_neg];rw[e]
 ·rw[show (true !=false)=true from rfl,aK,aN,aN,Int.neg_mul,Int.neg_mul];rw[e]
 ·rw[show (true !=true)=false from rfl,aK,aN,aN,Int.neg_mul,Int.mul_neg,Int.neg_neg];exact e _ _
theorem yR{h l:Nat}(h0:h≠0)(hh:h < 18446744073709551616):
  ae (h*18446744073709551616+l)=64+ae h\/18446744073709551616<=l:=by
 rcases Nat.lt_or_ge l 18446744073709551616 with hl | hl
 ·left
  have:=bG (h*18446744073709551616+l) 64 (by omega)
  rw[this]
  congr 2
  omega
 ·exact .inr hl
def Ra (S:Nat)(F T K X:Int):Prop:=0<=T/\T < 18446744073709551616/\0<=K/\K < 18446744073709551616/\T=(tp S:Nat)/\(S≠0->X=xp S F/\(K=0↔tp S*2^ae S=S*2^64))
theorem Iy{l:Nat}{e:Int}(hl:l < 18446744073709551616):Ra l (e-64) ((l*2^(64-ae l):Nat):Int) 0 (e-64-(64-(ae l:Int))):=by
 have hb:=ai (n:=l) (k:=64) hl;have ht:=fE hb;have h2:=gj l;rw[ht]at h2
 refine⟨by omega,by omega,by omega,by omega,by rw[ht],fun h0=>⟨by unfold xp;omega,fun _=>?_,fun _=>rfl⟩⟩
 rw[ht,Nat.mul_assoc,<-Nat.pow_add]
 congr 2
 omega
theorem FL{h l:Nat}{e:Int}(h0:h≠0)(hh:h < 18446744073709551616)(hl:l < 18446744073709551616):
  Ra (h*18446744073709551616+l) (e-64) ((h*2^(64-ae h)+l/2^ae h:Nat):Int) ((l*2^(64-ae h)%18446744073709551616:Nat):Int) (e-(64-(ae h:Int))):=by
 have hb:=ai (n:=h) (k:=64) hh
 have a:ae (h*18446744073709551616+l)=64+ae h:=by
  rcases yR (l:=l) h0 hh with q | q
  ·exact q
  ·omega
 have hp:0 < 2^ae h:=Nat.pow_pos (by decide)
 have g:2^64=2^(64-ae h)*2^ae h:=by rw[<-Nat.pow_add];congr 1;omega
 have b:(18446744073709551616:Nat)=2^ae h*2^(64-ae h):=by rw[Nat.mul_comm,<-g]
 have ht:tp (h*18446744073709551616+l)=h*2^(64-ae h)+l/2^ae h:=by
  unfold tp
  rw[a,Nat.pow_add,Nat.mul_comm (2^64) (2^ae h),Nat.mul_div_mul_right _ _ (Nat.pow_pos (by decide)),b,show h*(2^ae h*2^(64-ae h))=2^ae h*(h*2^(64-ae h)) by rw[<-Nat.mul_assoc,Nat.mul_comm h,Nat.mul_assoc],Nat.mul_add_div hp]
 have hm:l*2^(64-ae h)%18446744073709551616=l%2^ae h*2^(64-ae h):=by
  rw[b,Nat.mul_mod_mul_right]
 have p:=gj (h*18446744073709551616+l)
 have j:=Nat.mod_lt (l*2^(64-ae h)) (show 0 < 18446744073709551616 by decide)
 refine⟨by omega,by omega,by omega,by omega,by rw[ht],fun _=>⟨?_,?_⟩⟩
 ·unfold xp
  rw[a]
  omega
 ·rw[hm,a,ht,Nat.pow_add,Nat.mul_comm (2^64) (2^ae h),<-Nat.mul_assoc];have hd:=Nat.div_add_mod l (2^ae h)
  have f:h*18446744073709551616+l=(h*2^(64-ae h)+l/2^ae h)*2^ae h+l%2^ae h:=by
   rw[Nat.add_mul,Nat.mul_assoc h,<-g,Nat.mul_comm (l/2^ae h),Nat.add_assoc,hd]
  rw[f]
  have o:0 < 2^(64-ae h):=Nat.pow_pos (by decide)
  revert f
  generalize (h*2^(64-ae h)+l/2^ae h)*2^ae h=Z;generalize l%2^ae h=m
  intro _
  constructor
  ·intro q
   have i:m*2^(64-ae h)=0:=by exact_mod_cast q
   have d:m=0:=by
    rcases Nat.mul_eq_zero.1 i with c | c
    ·exact c
    ·omega
   rw[d,Nat.add_zero]
  ·intro q
   have i:Z=Z+m:=Nat.eq_of_mul_eq_mul_right (show 0 < 2^64 by decide) q
   have d:m=0:=by omega
   rw[d,Nat.zero_mul]
   rfl
def xC (S:Nat)(F:Int):Bool:=S==0 || (decide (xp S F<=1048576) && (decide (-1048576<=xp S F) && decide (tp S*2^ae S=S*2^64)))
theorem Ev{m:Nat}(ho:m%2=1)(t:Nat)(F:Int):xC (m*2^t) F=ext m (F+t):=by
 have a:m≠0:=by omega
 have h2:m*2^t≠0:=Nat.mul_ne_zero a (Nat.ne_of_gt (Nat.pow_pos (by decide)))
 have d:xp (m*2^t) F=xp m (F+t):=by
  unfold xp
  rw[fZ a]
  omega
 have e1:(m*2^t==0)=false:=by simpa using h2
 have e2:(m==0)=false:=by simpa using a
 have e3:(tp (m*2^t)*2^ae (m*2^t)=m*2^t*2^64)↔ae m<=64:=by
  rw[DF a,fZ a,Nat.pow_add,<-Nat.mul_assoc,Nat.mul_right_comm m]
  constructor
  ·intro q
   have b:=Nat.eq_of_mul_eq_mul_right (Nat.pow_pos (n:=t) (show 0 < 2 by decide)) q
   rcases Nat.lt_or_ge 64 (ae m)with c | c
   ·exfalso
    rw[show 2^ae m=2^(ae m-65)*2*2^64 by rw[<-Nat.pow_succ,<-Nat.pow_add];congr 1;omega,<-Nat.mul_assoc]at b
    have e:=Nat.eq_of_mul_eq_mul_right (show 0 < 2^64 by decide) b
    rw[<-Nat.mul_assoc]at e
    omega
   ·exact c
  ·intro c
   rw[fE c,Nat.mul_assoc m,<-Nat.pow_add,show 64-ae m+ae m=64 by omega]
 unfold xC ext
 rw[d,e1,e2,decide_eq_decide.2 e3]
theorem DX{S:Nat}{F N E:Int}{neg:Bool}(hS:S < 340282366920938463463374607431768211456)(h1: -3000000<=F)(h2:F<=3000000)(hN:(mk (aj neg (S:Int)) F).1=N)(hE:(mk (aj neg (S:Int)) F).2=E):
  (xC S F=true->∀up,eI up N E=aj neg (lo S F))/\eI neg N E=aj neg (lo S F)/\(xC S F=false->eI (!neg) N E=nx (!neg) (aj neg (lo S F))):=by
 by_cases d:S=0
 ·subst d
  have e0:aj neg ((0:Nat):Int)=0:=by cases neg <;> rfl
  rw[e0,dg]at hN hE;subst hN;subst hE
  have e1:aj neg (lo 0 F)=0:=by
   have:lo 0 F=0:=by
    unfold lo
    rw[if_pos rfl]
   rw[this]
   cases neg <;> rfl
  have e2:xC 0 F=true:=by
   unfold xC
   rfl
  rw[e1,e2]
  exact⟨fun _ up=>gh up,gh neg,fun c=>absurd c (by decide)⟩
 ·have a:(aj neg (S:Int)).natAbs=S:=by rw[l7 neg (by omega)];omega
  obtain⟨s1,s2⟩:=fB S d
  have j:v2 S < 128:=by
   have i:=eX d
   have h4:2^v2 S < 2^128:=by omega
   exact(Nat.pow_lt_pow_iff_right (by decide)).1 h4
  have hz:aj neg (S:Int)≠0:=by
   intro c
   rw[c]at a;exact d a.symm
  obtain⟨f,g,h,k,l⟩:=iH (z:=aj neg (S:Int)) (e:=F) hz (by omega) (by rw[a];omega);rw[a]at f g;rw[hE]at f;rw[hN]at g h
  have b:neg=decide (N < 0):=by
   cases neg
   ·rw[aK]at h;exact(df (by omega)).symm
   ·rw[aN]at h;exact(dt (by omega)).symm
  have hx:xC S F=ext N.natAbs E:=by
   rw[g,f]
   conv=>lhs;rw[s1]
   exact Ev s2 _ F
  have hl:lo S F=lo N.natAbs E:=by
   rw[g,f]
   conv=>lhs;rw[s1]
   exact sT (by omega) _ F
  rw[hx,hl]
  refine⟨fun c up=>?_,?_,fun c=>?_⟩
  ·rw[gA c,<-b]
  ·exact gZ b rfl
  ·rw[gY b,Cq neg c]
set_option linter.unusedSimpArgs false
set_option maxRecDepth 100000
theorem kj{w:World}{D M E:Int}{s:Bool}{r:Int}(hM:LQ M)(hr:rk D s M E=r):Calls prog 104 #[VQ D s M E] w (PN w r):=by
 delta VQ
 by_cases hm:au D s M E
 ·have j:=eD hM hm;rw[hr]at j
  have i:=ie (show decide (au D s M E)=true from dt hm)
  clear hm hr hM
  go_enter func104,ntmps104
  go_upto_region 1 with fail
  generalize d:(w.alloc _).alloc _=w1 at *;obtain⟨c,b,f⟩:=Bo.en2 d;clear d;have a:=c.cell
  go_wp2_with fail
  refine(dD i.out).mono ?_;rintro k l ⟨rfl,B⟩;clear a;refine aF ?_ c b f B;clear c b f B;intro c b f;have g:=b.cell;have e:=b.frozen;have a:=c.cell;go_wp2;clear g e a;have h:=ac.t4 b D s M E
  exact bq (by simp[results,results104,go_sem,h.box.cell]) rfl ⟨D,s,M,E,rfl,j,(h.below f.out (by omega))⟩
 ·rw[fI hm]at hr;subst hr
  have i:=ie (show decide (au D s M E)=false from df hm)
  clear hm hM
  go_enter func104,ntmps104
  go_upto_region 1 with fail
  generalize d:(w.alloc _).alloc _=w1 at *;obtain⟨c,b,f⟩:=Bo.en2 d;clear d;have a:=c.cell
  go_wp2_with fail
  refine(dD i.out).mono ?_;rintro k l ⟨rfl,B⟩;clear a;refine aF ?_ c b f B;clear c b f B;intro c b f;have g:=b.cell;have e:=b.frozen;have a:=c.cell;go_wp2;clear g e a;have h:=ac.t4 b 0 false 0 0
  exact bq (by simp[results,results104,go_sem,h.box.cell]) rfl ⟨_,_,_,_,rfl,Fq.nought,(h.below f.out (by omega))⟩
theorem gH{D:Int}{s:Bool}{M E x:Int}(q:Fq D s M E x):ax x=(D==2):=by
 have b:=dq
 rcases q.cases with⟨rfl,rfl,rfl,rfl,c⟩ | ⟨rfl,h1,h2,d,h4,⟨rfl,a⟩ | ⟨rfl,a⟩⟩ | ⟨rfl,rfl,rfl,⟨rfl,a⟩ | ⟨rfl,a⟩⟩ <;> unfold ax <;> rw[Bool.eq_iff_iff] <;> simp <;> omega
theorem AM{D:Int}{s:Bool}{M E x:Int}(q:Fq D s M E x)(h:D≠2):0<=M/\mt D s M E=true/\jG D s M E=ep x:=by
 have hb:mt D s M E=true:=by
  unfold mt
  rw[dt q.1,Bool.true_and]
  simpa using h
 exact⟨by rcases q.cases with⟨_,_,h,_⟩ | ⟨_,h,_⟩ | ⟨_,h,_⟩ <;> omega,hb,sA q hb⟩
theorem lM{s s':Bool}{M M' E E' x y:Int}(q:Fq 2 s M E x)(q':Fq 2 s' M' E' y):x=y↔s=s':=by
 have b:=dq
 rcases q.cases with⟨h,_⟩ | ⟨h,_⟩ | ⟨_,rfl,rfl,⟨rfl,a⟩ | ⟨rfl,a⟩⟩
 ·omega
 ·omega
 all_goals
  rcases q'.cases with⟨h,_⟩ | ⟨h,_⟩ | ⟨_,rfl,rfl,⟨rfl,c⟩ | ⟨rfl,c⟩⟩
  ·omega
  ·omega
  ·constructor <;> intro e <;> first | rfl | omega | exact absurd e (by decide)
  ·constructor <;> intro e <;> first | rfl | omega | exact absurd e (by decide)
abbrev Sp:=Option (Int × Int)
def eH (a b:Int):Sp:=if a<=b/\a < 19342822337206103650074625/\ -19342822337206103650074625 < b then some (a,b)else none
def aZ:Sp->Prop
 | none=>True
 | some (a,b)=> -19342822337206103650074625<=a/\a<=b/\b<=19342822337206103650074625/\a < 19342822337206103650074625/\ -19342822337206103650074625 < b
theorem aI{a b:Int}(h:a<=b)(h1:a < 19342822337206103650074625)(h2: -19342822337206103650074625 < b):eH a b=some (a,b):=by
 unfold eH
 rw[if_pos ⟨h,h1,h2⟩]
theorem dx{a b:Int}(h:¬(a<=b/\a < 19342822337206103650074625/\ -19342822337206103650074625 < b)):eH a b=none:=by
 unfold eH
 rw[if_neg h]
theorem BM{a b:Int}(h1: -19342822337206103650074625<=a)(h2:b<=19342822337206103650074625):aZ (eH a b):=by
 by_cases h:a<=b/\a < 19342822337206103650074625/\ -19342822337206103650074625 < b
 ·rw[aI h.1 h.2.1 h.2.2];exact⟨h1,h.1,h2,h.2.1,h.2.2⟩
 ·rw[dx h];exact trivial
theorem aZ.mk{a b:Int}(h:aZ (some (a,b))):eH a b=some (a,b):=aI h.2.1 h.2.2.2.1 h.2.2.2.2
def eC:Sp->Sp->Sp
 | some (a,b),some (c,d)=>eH (max a c) (min b d)
 | _,_=>none
def bK:Sp->Sp->Sp
 | none,y=>y
 | x,none=>x
 | some (a,b),some (c,d)=>eH (min a c) (max b d)
def rY:Sp:=some (-19342822337206103650074625,19342822337206103650074625)
def I2:Sp->Sp->Bool
 | none,_=>true
 | some _,none=>false
 | some (a,b),some (c,d)=>decide (c<=a) && decide (b<=d)
def nU:Sp->Int
 | none=>0
 | some (a,b)=>ay true b (-a)
def jJ (l:List Sp):Sp:=l.foldl eC rY
def mA (l:List Sp):Sp:=l.foldl bK none
theorem mH (x:Sp):eC x none=none:=by cases x <;> rfl
theorem sJ (x:Sp):bK x none=x:=by cases x <;> rfl
theorem im{a b c d:Int}(hx:aZ (some (a,b)))(hy:aZ (some (c,d))):bK (some (a,b)) (some (c,d))=some (min a c,max b d):=by
 obtain⟨h1,h2,e,h4,f⟩:=hx;obtain⟨g,h,i,j,k⟩:=hy;exact aI (by omega) (by omega) (by omega)
theorem G6:aZ rY:=⟨by decide,by decide,by decide,by decide,by decide⟩
theorem sV (a b c d:Int):(eC (some (a,b)) (some (c,d))=none/\¬(max a c<=min b d/\max a c < 19342822337206103650074625/\ -19342822337206103650074625 < min b d))\/(eC (some (a,b)) (some (c,d))=some (max a c,min b d)/\max a c<=min b d):=by
 by_cases h:max a c<=min b d/\max a c < 19342822337206103650074625/\ -19342822337206103650074625 < min b d
 ·exact .inr ⟨aI h.1 h.2.1 h.2.2,h.1⟩
 ·exact .inl ⟨dx h,h⟩
theorem yr (x y:Sp):eC x y=eC y x:=by
 rcases x with _ | ⟨a,b⟩
 ·rw[mH];rfl
 ·rcases y with _ | ⟨c,d⟩
  ·rfl
  ·show eH _ _=eH _ _
   rw[show max a c=max c a by omega,show min b d=min d b by omega]
theorem rO{x y:Sp}(hx:aZ x)(hy:aZ y):I2 x y=true↔eC x y=x:=by
 rcases x with _ | ⟨a,b⟩
 ·exact⟨fun _=>rfl,fun _=>rfl⟩
 ·rcases y with _ | ⟨c,d⟩
  ·exact⟨fun h=>(by cases h),fun h=>(by cases h)⟩
  ·obtain⟨h1,h2,f,h4,g⟩:=hx;obtain⟨i,j,k,l,m⟩:=hy
   rcases sV a b c d with⟨e,h⟩ | ⟨e,h⟩ <;> rw[e] <;> simp[I2] <;> omega
theorem qZ{x:Sp}(hx:aZ x):eC rY x=x:=by
 rw[yr];refine(rO hx G6).1 ?_
 rcases x with _ | ⟨a,b⟩
 ·rfl
 ·obtain⟨h1,h2,c,h4,d⟩:=hx
  simp[I2,rY]
  omega
def Ii (p:Int × Int)(k:Int):Int × Int:=mk p.1 (p.2+k)
theorem Jt{w:World}{A:Option Addr}{n c:Nat}{s:Bool}{z e k N E:Int}(hT:dL w)(h:Wr w s A n c z)(hn:n<=100000)(k1: -2000<=k)(k2:k<=2000)(hN:(Ii (mk z e) k).1=N)(hE:(Ii (mk z e) k).2=E):
  Calls prog 176 #[.agg #[.bool s,.slice A n c,.int .i64 e],.int .i64 k] w (D1 w n N E):=by
 obtain⟨b,d⟩:=f9 z e
 have a:Ii (mk z e) k=mk (mk z e).1 (IntKind.i64.wrap ((mk z e).2+k)):=by rw[IntWalk.i64_in _ (by omega)];rfl
 rw[a]at hN hE;exact Hj hT h hn hN hE
def Le (w:World)(v:Nat)(e:Ending)(w':World):Prop:=∃A,e= .returned (.slice A 2 2)/\Rd w' A 2 2 v/\Below w.heap.size w w'
theorem CO{w:World}{M:Int}{N:Nat}(hM:(N:Int)=M)(h:N < 18446744073709551616):Calls prog 204 #[.int .u64 M] w (Le w N):=by
 subst hM
 go_enter func204,ntmps204
 go_wp2
 go_ret
 exact⟨_,rfl,nu _ (by simp) (k:=N) (by omega) (by omega) h,af _ _⟩
theorem yP{w:World}{A:Option Addr}{n c α k r:Nat}(h:Rd w A n c α)(hn:n<=8000)(hk:k<=200000)(hr:α*2^k=r):Calls prog 234 #[.slice A n c,.int .i64 (k:Int)] w (Kw w 15000 r true):=by
 have b:=ie hr;clear hr
 have hd:decide ((0:Int)<=(k:Int))=true:=dt (Int.natCast_nonneg k)
 go_enter func234,ntmps234
 go_wp2_with fail
 refine(wV h (by omega) (by omega) b.out).mono ?_;rintro d f ⟨A2,n2,c2,rfl,p2,e,a⟩;go_wp2;exact bq (v:= .tuple #[.slice A2 n2 c2,.bool true]) (by simp[results,results234,go_sem]) rfl ⟨A2,n2,c2,rfl,p2,by omega,a⟩
theorem yO{w:World}{A:Option Addr}{n c α k d r:Nat}{z y:Int}{t:Bool}(h:Rd w A n c α)(hn:n<=8000)(hk:k<=200000)(h0:0 < k)(hz: -z=(k:Int))(hr:α/2^k=r)(hd:r*2^k=d)(hy:ag (d:Int) (α:Int)=y)(ht:(y==0)=t):Calls prog 234 #[.slice A n c,.int .i64 z] w (Kw w 15000 r t):=by
 have j:Hid (α/2^(k:Int).toNat=r):=ie (by rw[Int.toNat_natCast];exact hr)
 have i:=ie hd;have l:=ie hy
 have hlt:decide (0<=z)=false:=df (by omega)
 have g:¬(0<=z):=by omega
 have o:IntKind.i64.wrap (-z)=(k:Int):=by rw[hz];exact IntWalk.i64_in _ (by omega)
 clear hr hd hy
 go_enter func234,ntmps234
 go_wp2_with fail
 refine(rJ (z:=(k:Int)) h (by omega) j.out).mono ?_;rintro f s ⟨A2,n2,c2,rfl,p2,p,b⟩
 go_wp2_with fail
 refine(wV p2.rd (by omega) (by omega) i.out).mono ?_;rintro f u ⟨A3,n3,c3,rfl,m,q,a⟩
 go_wp2_with fail
 refine(GR m.rd ((h.below b).below a) l.out).mono ?_;rintro f x ⟨rfl,e⟩;go_wp2;exact bq (v:= .tuple #[.slice A2 n2 c2,.bool t]) (by simp[results,results234,go_sem]) rfl ⟨A2,n2,c2,rfl,(p2.below a).below e,by omega,bt b (bt a e)⟩
theorem wy{w:World}{up:Bool}{r:Int}(hr:aj (!up) TP=r):Calls prog 202 #[.bool up] w (PN w r):=by
 have i:=ie hr;clear hr
 go_enter func202,ntmps202
 go_upto_region 1 with fail
 generalize c:w.alloc _=w1 at *;obtain⟨a,e⟩:=Bo.en1 c;clear c
 go_wp2_with fail
 refine(jb (s:=!up) i.out).mono ?_;rintro m n ⟨j,s1,k,h,rfl,l,B⟩;replace a:=a.b B;replace e:=ak e B;clear B;have f:=a.cell;have d:=a.frozen;go_wp2;clear f d;have g:=ac.t4 a j s1 k h;exact bq (by simp[results,results202,go_sem,g.box.cell]) rfl ⟨_,_,_,_,rfl,l,(g.below e.out (by omega))⟩
theorem AN{D:Int}{s:Bool}{M E:Int}(hM:LQ M):∃K1 s1 M1 E1,Fq K1 s1 M1 E1 (rk D s M E):=by
 by_cases hm:au D s M E
 ·exact⟨_,_,_,_,eD hM hm⟩
 ·rw[fI hm];exact⟨_,_,_,_,Fq.nought⟩
theorem CQ{w:World}{D M E:Int}{s:Bool}{K1 M1 E1 x:Int}{s1:Bool}(hM:LQ M)(q:Fq K1 s1 M1 E1 x)(hx:rk D s M E=x):Calls prog 201 #[VQ D s M E] w (fun e w'=>e= .returned (.agg #[.int .i64 K1,.bool s1,.int .u64 M1,.int .i64 E1])/\Below w.heap.size w w'):=by
 delta VQ
 by_cases hm:au D s M E
 ·obtain⟨rfl,rfl,rfl,rfl⟩:=q.uniq (hx▸eD hM hm)
  have j:=ie (show decide (au K1 s1 M1 E1)=true from dt hm)
  clear hm hx hM q
  go_enter func201,ntmps201
  go_upto_region 1 with fail
  generalize d:(w.alloc _).alloc _=w1 at *;obtain⟨c,b,g⟩:=Bo.en2 d;clear d;have a:=c.cell
  go_wp2_with fail
  refine(kY j.out).mono ?_;rintro k l ⟨rfl,B⟩;clear a;refine aF ?_ c b g B;clear c b g B;intro c b g;have h:=b.cell;have f:=b.frozen;have a:=c.cell;go_wp2;clear h f a;have i:=ac.t4 b K1 s1 M1 E1
  exact bq (v:= .agg #[.int .i64 K1,.bool s1,.int .u64 M1,.int .i64 E1]) (by simp[results,results201,go_sem,i.box.cell]) rfl ⟨rfl,(i.below g.out (by omega))⟩
 ·rw[fI hm]at hx;subst hx;obtain⟨rfl,rfl,rfl,rfl⟩:=q.uniq Fq.nought
  have j:=ie (show decide (au D s M E)=false from df hm)
  clear hm hM q
  go_enter func201,ntmps201
  go_upto_region 1 with fail
  generalize d:(w.alloc _).alloc _=w1 at *;obtain⟨c,b,g⟩:=Bo.en2 d;clear d;have a:=c.cell
  go_wp2_with fail
  refine(kY j.out).mono ?_;rintro k l ⟨rfl,B⟩;clear a;refine aF ?_ c b g B;clear c b g B;intro c b g;have h:=b.cell;have f:=b.frozen;have a:=c.cell;go_wp2;clear h f a;have i:=ac.t4 b 0 false 0 0
  exact bq (v:= .agg #[.int .i64 0,.bool false,.int .u64 0,.int .i64 0]) (by simp[results,results201,go_sem,i.box.cell]) rfl ⟨rfl,(i.below g.out (by omega))⟩
end Go.Proofs.YteigedaefgmojaaGreatDoor
namespace Go.Proofs.YteigedaefgmojaaGreatDoor.Jo
open Go.Proofs.Tryz
open Go Go.RowKit
set_option linter.unusedVariables false
def y5 (vs:Nat->Value)(i:Nat)(v:Value):Nat->Value:=fun x=>if x=i then v else vs x
theorem ic (vs:Nat->Value)(i:Nat)(v:Value):y5 vs i v i=v:=if_pos rfl
theorem dz{vs:Nat->Value}{i j:Nat}{v:Value}(h:j≠i):y5 vs i v j=vs j:=if_neg h
section
variable {P:Program} {md:Region.Mode} {ops:Array Oper} {Q:Exit->Act->World->Prop} {a0:Act} {T:List Nat} {dst:Nat->Option Tmp} {D:Nat->List Nat} {k:Nat} {I:List Nat->(Nat->Value)->World->Prop}
def StepsI (P:Program)(ops:Array Oper)(Q:Exit->Act->World->Prop)(a0:Act)(dst:Nat->Option Tmp)(D:Nat->List Nat)(I:List Nat->(Nat->Value)->World->Prop)(T:List Nat):Prop:=
 ∀i ∈ T,∀l vs w,I l vs w->i ∉ l->(∀j ∈ D i,j ∈ l)->wpOp P ops Q i (fun a' w'=>∃v,a'=(base dst vs (D i) a0).put (dst i) v/\I (l ++[i]) (y5 vs i v) w') (base dst vs (D i) a0) w
theorem StepsI.nil:StepsI P ops Q a0 dst D I []:=fun _ h=>by cases h
theorem StepsI.cons{i:Nat}{o:Oper}{r:List Nat}(ho:ops[i]?=some o)
  (h:∀l vs w,I l vs w->i ∉ l->(∀j ∈ D i,j ∈ l)->∀K:Act->World->Prop,Shut (∀v w',I (l ++[i]) (y5 vs i v) w'->K ((base dst vs (D i) a0).put (dst i) v) w')->
   if Region.wanted o (yielded ops (base dst vs (D i) a0).tmps)=true then Oper.wp P o (base dst vs (D i) a0) w K Q else K ((base dst vs (D i) a0).put o.dst undef) w)
  (hs:StepsI P ops Q a0 dst D I r):StepsI P ops Q a0 dst D I (i::r):=fun j a=>by
 rcases List.mem_cons.1 a with rfl | a
 ·exact fun l vs w hI hn hd=>wpOp_step ho (fun K hK=>h l vs w hI hn hd K (fun v w' h1=>hK _ _ ⟨v,rfl,h1⟩))
 ·exact hs j a
theorem y9 (w0:World)(hok:ok md ops T dst D k a0.tmps.size=true)(hnd:T.Nodup)(hQ:∀c a b w,Q (.panic c) b w->Q (.panic c) a w)
  (h0:I [] (fun _=>undef) w0) (step:StepsI P ops Q a0 dst D I T)
  (fin:∀l vs w,(∀j,j ∈ l↔j ∈ T)->I l vs w->wpAny P md ops Q (ops.size-T.length) (mark T ops.size) (base dst vs T a0) w):
  wpAny P md ops Q ops.size (Array.replicate ops.size false) a0 w0:=by
 unfold ok at hok
 simp only[Bool.and_eq_true,List.all_eq_true,List.mem_range,Bool.or_eq_true,decide_eq_true_eq,List.contains_iff_mem]at hok;obtain⟨⟨O,F⟩,hx⟩:=hok
 have p:∀i ∈ T,∀j ∈ T,∀d,dst i=some d->dst j=some d->i=j:=fun i hi j g d=>(bQ (F i hi)).2.2.2.1 j g d
 have go:∀(fuel:Nat) (l:List Nat) (vs:Nat->Value) (w:World) (L:Array Bool),fuel+l.length=ops.size->l.Nodup->(∀j ∈ l,j ∈ T)->(∀j ∈ l,∀x ∈ oj md ops j,x ∈ l)->lz ops.size l L->I l vs w->wpAny P md ops Q fuel L (base dst vs l a0) w:=by
  intro fuel
  induction fuel with
  | zero=>
   intro l vs w L hf M hl A hg S
   by_cases f:∀j ∈ T,j ∈ l
   ·have hs:∀j,j ∈ l↔j ∈ T:=fun j=>⟨hl j,f j⟩
    have h1:=dX M hl;have h2:=dX hnd f
    have:=fin l vs w hs S
    rw[<-hg.eq (jz T ops.size) hs,<-js p hl (fun _ h=>h) hs,show ops.size-T.length=0 by omega]at this
    exact this
   ·exfalso
    obtain⟨j,g⟩:=Classical.not_forall.1 f;obtain⟨g,bB⟩:=Classical.not_imp.1 g
    have:=dX (l:=j::l) (m:=List.range ops.size) (List.nodup_cons.2 ⟨bB,M⟩) (fun x hx=>List.mem_range.2 (by
     rcases List.mem_cons.1 hx with rfl | hx
     ·exact(bQ (F x g)).1
     ·exact(bQ (F x (hl x hx))).1))
    simp at this
    omega
  | succ fuel ih=>
   intro l vs w L hf M hl A hg S
   by_cases f:∀j ∈ T,j ∈ l
   ·have hs:∀j,j ∈ l↔j ∈ T:=fun j=>⟨hl j,f j⟩
    have h1:=dX M hl;have h2:=dX hnd f
    have:=fin l vs w hs S
    rw[<-hg.eq (jz T ops.size) hs,<-js p hl (fun _ h=>h) hs,show ops.size-T.length=fuel+1 by omega]at this
    exact this
   ·obtain⟨U,B⟩:=Classical.not_forall.1 f;obtain⟨B,C⟩:=Classical.not_imp.1 B
    have fH:∀m,m < ops.size->m ∉ l->∃r,r ∈ Region.ready md ops L:=by
     intro m
     induction m using Nat.strongRecOn with
     | ind m ihm=>
      intro hm bD
      by_cases hd:∀x ∈ oj md ops m,x ∈ l
      ·refine⟨m,mem_ready.2 ⟨by rw[Array.getD_eq_getD_getElem?,hg.2 m hm];simp[bD],ops[m],by simp[hm],fun e he hb=>?_⟩⟩
       have:e.on ∈ oj md ops m:=by
        simp only[oj,hm,Array.getElem?_eq_getElem,Option.map_some,Option.getD_some];exact List.mem_map.2 ⟨e,List.mem_filter.2 ⟨by simpa using he,hb⟩,rfl⟩
       have hlt:=(bQ (F _ (hl _ (hd _ this)))).1;rw[Array.getD_eq_getD_getElem?,hg.2 _ hlt]
       simp[hd _ this]
      ·obtain⟨x,n⟩:=Classical.not_forall.1 hd;obtain⟨n,z⟩:=Classical.not_imp.1 n;have hlt:=(hx m hm).1 x n;exact ihm x hlt (by omega) z
    refine⟨fun hr=>?_,fun i hi=>?_⟩
    ·obtain⟨r,N⟩:=fH U (bQ (F U B)).1 C;rw[hr]at N
     cases N
    ·obtain⟨h0,o,J,V⟩:=mem_ready.1 hi
     have hlt:i < ops.size:=(Array.getElem?_eq_some_iff.1 J).1
     have H:i ∉ l:=by
      rw[Array.getD_eq_getD_getElem?,hg.2 i hlt]at h0
      simpa using h0
     have q:∀x ∈ oj md ops i,x ∈ l:=by
      intro x n
      simp only[oj,J,Option.map_some,Option.getD_some]at n;obtain⟨e,he,rfl⟩:=List.mem_map.1 n;obtain⟨Y,Z⟩:=List.mem_filter.1 he;have h1:=V e (by simpa using Y) Z;have h2:=(hx i hlt).1 e.on (by simp only[oj,J,Option.map_some,Option.getD_some];exact List.mem_map.2 ⟨e,he,rfl⟩);rw[Array.getD_eq_getD_getElem?,hg.2 _ (by omega)]at h1
      simpa using h1
     have G:i ∈ T:=by
      rcases (hx i hlt).2 with h | h
      ·exact h
      ·exact absurd (j7 A k _ q U (h U B)) C
     obtain⟨_,X,bN,fP,hD,bC⟩:=bQ (F i G)
     have s:o.dst=dst i:=by rw[<-X,J];rfl
     have E:∀j ∈ D i,j ∈ l:=fun j g=>j7 A k _ q j (hD j g).2
     have u:=step i G l vs w S H E;rw[<-s]at u
     have W:∀t ∈ o.looksAt ops,(base dst vs l a0).tmps[t]?=(base dst vs (D i) a0).tmps[t]?:=by
      intro t ht
      by_cases h:∃j ∈ l,dst j=some t
      ·obtain⟨j,g,hd⟩:=h
       have R:t < a0.tmps.size:=(bQ (F j (hl j g))).2.2.1 t hd
       have bA:=bC o J t ht j (hl j g) hd
       rw[fY hd l a0 g R (fun x hx z=>p x (hl x hx) j (hl j g) t z hd),fY hd (D i) a0 bA R (fun x hx z=>p x (hl x (E x hx)) j (hl j g) t z hd)]
      ·rw[eR l a0 (fun j g hd=>h ⟨j,g,hd⟩),eR (D i) a0 (fun j g hd=>h ⟨j,E j g,hd⟩)]
     have:=nz J (Region.noSelect_spec O i o · · J) W hQ (fun d hd=>by rw[gN];exact bN d (s▸hd)) u
     refine wpOp_mono ?_ this;rintro a' w' ⟨v,rfl,h1⟩
     have e:(base dst vs l a0).put o.dst v=base dst (y5 vs i v) (l ++[i]) a0:=by
      rw[oe,ic,s]
      congr 1
      exact oT l a0 (fun j g=>by
       have bH:j≠i:=fun e=>H (e▸g)
       rw[dz bH])
     rw[e];refine ih (l ++[i]) _ w' _ (by simp;omega) ?_ ?_ ?_ (hg.set i) h1
     ·rw[List.nodup_append]
      refine⟨M,by simp,fun x hx y hy=>?_⟩
      simp at hy
      subst hy
      exact fun e=>H (e▸hx)
     ·intro j g
      rcases List.mem_append.1 g with h | h
      ·exact hl j h
      ·simp at h;subst h;exact G
     ·intro j g x n
      rcases List.mem_append.1 g with h | h
      ·exact List.mem_append_left _ (A j h x n)
      ·simp at h;subst h;exact List.mem_append_left _ (q x n)
 exact go ops.size [] (fun _=>undef) w0 _ (by simp) (by simp) (fun _ h=>by cases h) (fun _ h=>by cases h) (my _) h0
end
section
variable {P:Program} {ops:Array Oper} {Q:Exit->Act->World->Prop} {a0:Act} {T:List Nat} {ds:List (Option Tmp)} {ls:List (List Nat)} {k:Nat} {I:List Nat->(Nat->Value)->World->Prop}
theorem qM{i:Nat}{o:Oper}{r:List Nat}{di:Option Tmp}{L:List (Option Tmp × Nat)}(ho:ops[i]?=some o)(hdi:ds.getD i none=di)(hL:((ls.getD i []).map fun j=>(ds.getD j none,j))=L)
  (h:∀l vs w,I l vs w->i ∉ l->(∀j ∈ ls.getD i [],j ∈ l)->∀K:Act->World->Prop,Shut (∀v w',I (l ++[i]) (y5 vs i v) w'->K ((putl vs L a0).put di v) w')->
   if Region.wanted o (yielded ops (putl vs L a0).tmps)=true then Oper.wp P o (putl vs L a0) w K Q else K ((putl vs L a0).put o.dst undef) w)
  (hs:StepsI P ops Q a0 (dstOf ds) (depOf ls) I r):StepsI P ops Q a0 (dstOf ds) (depOf ls) I (i::r):=by
 refine StepsI.cons ho (fun l vs w hI hn hd K hK=>?_) hs
 have e:base (dstOf ds) vs (depOf ls i) a0=putl vs L a0:=by
  rw[fs,<-hL]
  rfl
 rw[e]at hK|-;refine h l vs w hI hn hd K ?_
 intro v w' h1
 have:=hK.out v w' h1
 rwa [show dstOf ds i=di from hdi]at this
theorem mX{id fuel:Nat}{w:World}{L:List (Option Tmp × Nat)}(hm:P.follows .mixedOrders=true)(hok:ok .any ops T (dstOf ds) (depOf ls) k a0.tmps.size=true)(hnd:T.Nodup)
  (hL:(T.map fun j=>(ds.getD j none,j))=L) (hfu:ops.size-T.length=fuel) (h0:I [] (fun _=>undef) w.drew)
  (step:StepsI P ops (NoPanic Q) a0 (dstOf ds) (depOf ls) I T)
  (fin:∀l vs wj,(∀j,j ∈ l↔j ∈ T)->I l vs wj->wpAny P .any ops (NoPanic Q) fuel (mark T ops.size) (putl vs L a0) wj):
  (Code.region id ops true).wp P Q a0 w:=by
 refine wp_region_noPanic ?_
 refine wp_region_any hm (y9 (T:=T) (dst:=dstOf ds) (D:=depOf ls) (k:=k) (I:=I) _ hok hnd (fun _ _ _ _ h=>h) h0 step ?_)
 intro l vs w hl a
 have e:base (dstOf ds) vs T a0=putl vs L a0:=by
  rw[fs,<-hL]
  rfl
 rw[e,hfu];exact fin l vs w hl a
end
def Jh (w1:World)(p0 n0 p2 n2:Value)(old new:Array Value)(R:TypeId)(l:List Nat)(vs:Nat->Value)(w:World):Prop:=
 Below w1.heap.size w1 w/\(6 ∈ l->4 ∈ l/\5 ∈ l)/\(0 ∈ l->vs 0=p0)/\(1 ∈ l->vs 1=n0)/\(2 ∈ l->vs 2=p2)/\(3 ∈ l->vs 3=n2)/\
  (4 ∈ l->∃g,vs 4= .pointer (some ⟨g,0,none⟩)/\w1.heap.size<=g/\(6 ∈ l->Bo w g new R)/\(6 ∉ l->Bo w g old R))/\
  (5 ∈ l->∃g,vs 5= .pointer (some ⟨g,0,none⟩)/\w1.heap.size<=g/\Bo w g old R)/\(4 ∈ l->5 ∈ l->vs 4≠vs 5)
section
variable {w1 w w':World} {p0 n0 p2 n2 v:Value} {old new:Array Value} {R:TypeId} {l:List Nat} {vs:Nat->Value} {i:Nat}
theorem aM{j:Nat}(h:j≠i):j ∈ l ++[i]↔j ∈ l:=by
 rw[List.mem_append]
 constructor
 ·rintro (e | e)
  ·exact e
  ·simp at e;exact absurd e h
 ·exact .inl
theorem Jh.all (h:Jh w1 p0 n0 p2 n2 old new R l vs w)(hl:∀j,j ∈ l↔j ∈ [0,1,2,3,4,5,6]):Below w1.heap.size w1 w/\vs 0=p0/\vs 1=n0/\vs 2=p2/\vs 3=n2/\∃g g',vs 4= .pointer (some ⟨g,0,none⟩)/\vs 5= .pointer (some ⟨g',0,none⟩)/\w1.heap.size<=g/\w1.heap.size<=g'/\g≠g'/\Bo w g new R/\Bo w g' old R:=by
 obtain⟨h1,h2,k,h4,m,n,o,p,q⟩:=h;have b:=(hl 4).2 (by decide);have d:=(hl 5).2 (by decide);have r:=(hl 6).2 (by decide);obtain⟨g,e,hb,i,_⟩:=o b;obtain⟨g',e',a,f⟩:=p d;have X:=i r
 exact⟨h1,k ((hl 0).2 (by decide)),h4 ((hl 1).2 (by decide)),m ((hl 2).2 (by decide)),n ((hl 3).2 (by decide)),g,g',e,e',hb,a,fun c=>q b d (by rw[e,e',c]),X,f⟩
end
def Jc (w1:World)(F:List Fact)(p q s e:Nat)(old:Array Value)(R:TypeId)(l:List Nat)(vs:Nat->Value)(w:World):Prop:=
 Below w1.heap.size w1 w/\(∀j ∈ l,∀u,phi F j (vs j) u)/\(s ∈ l->p ∈ l/\q ∈ l/\e ∈ l)/\
  (p ∈ l->∃g,vs p= .pointer (some ⟨g,0,none⟩)/\w1.heap.size<=g/\(s ∉ l->Bo w g old R)/\(s ∈ l->∃cs,vs e= .agg cs/\Bo w g cs R))/\
  (q ∈ l->∃g,vs q= .pointer (some ⟨g,0,none⟩)/\w1.heap.size<=g/\Bo w g old R)/\(p ∈ l->q ∈ l->vs p≠vs q)
section
variable {w1 w w':World} {F:List Fact} {p q s e i:Nat} {l:List Nat} {vs:Nat->Value} {v:Value} {cs old:Array Value} {R:TypeId}
theorem far{g h:Nat}(hg:g < h):(.pointer (some ⟨h,0,none⟩):Value)≠ .pointer (some ⟨g,0,none⟩):=by
 intro c
 injection c with c
 injection c with c
 injection c with c
 omega
theorem Jc.all (h:Jc w1 F p q s e old R l vs w)(mp:p ∈ l)(mq:q ∈ l)(ms:s ∈ l):∃g g' cs,vs p= .pointer (some ⟨g,0,none⟩)/\vs q= .pointer (some ⟨g',0,none⟩)/\w1.heap.size<=g/\w1.heap.size<=g'/\g≠g'/\vs e= .agg cs/\Bo w g cs R/\Bo w g' old R:=by
 obtain⟨h1,h2,m,h4,j,k⟩:=h;obtain⟨g,e1,e2,_,e3⟩:=h4 mp;obtain⟨cs,b,d⟩:=e3 ms;obtain⟨g',a,f,i⟩:=j mq
 exact⟨g,g',cs,e1,a,e2,f,fun c=>k mp mq (by rw[e1,a,c]),b,d,i⟩
end
section
variable {P:Program} {ops:Array Oper} {Q:Exit->Act->World->Prop} {a0:Act} {T:List Nat} {ds:List (Option Tmp)} {ls:List (List Nat)} {k:Nat} {F:List Fact} {w1:World} {p q s e:Nat} {old:Array Value} {R:TypeId}
end
def Jg (w1:World)(F:List Fact)(p q:Nat)(old:Array Value)(R:TypeId)(l:List Nat)(vs:Nat->Value)(w:World):Prop:=
 Below w1.heap.size w1 w/\(∀j ∈ l,phi F j (vs j) w)/\
  (p ∈ l->∃g,vs p= .pointer (some ⟨g,0,none⟩)/\w1.heap.size<=g/\Bo w g old R)/\
  (q ∈ l->∃g,vs q= .pointer (some ⟨g,0,none⟩)/\w1.heap.size<=g/\Bo w g old R)/\(p ∈ l->q ∈ l->vs p≠vs q)
section
variable {w1 w w':World} {F:List Fact} {p q i:Nat} {l:List Nat} {vs:Nat->Value} {v:Value} {old:Array Value} {R:TypeId}
theorem Jg.all (h:Jg w1 F p q old R l vs w)(mp:p ∈ l)(mq:q ∈ l):∃g g',vs p= .pointer (some ⟨g,0,none⟩)/\vs q= .pointer (some ⟨g',0,none⟩)/\w1.heap.size<=g/\w1.heap.size<=g'/\g≠g'/\Bo w g old R/\Bo w g' old R:=by
 obtain⟨h1,h2,h4,e,f⟩:=h;obtain⟨g,e1,e2,e3⟩:=h4 mp;obtain⟨g',a,b,d⟩:=e mq
 exact⟨g,g',e1,a,e2,b,fun c=>f mp mq (by rw[e1,a,c]),e3,d⟩
end
section
variable {P:Program} {ops:Array Oper} {Q:Exit->Act->World->Prop} {a0:Act} {T:List Nat} {ds:List (Option Tmp)} {ls:List (List Nat)} {k:Nat} {F:List Fact} {w1:World} {p q:Nat} {old:Array Value} {R:TypeId}
end
structure TFact (old:Array Value) (R:TypeId) where
 P:Value->World->Prop
 keep:∀v w w',P v w->Below w.heap.size w w'->P v w'
 stn:∀v w w' g cs,P v w->ac w w' g old cs R->P v w'
section
variable {old:Array Value} {R:TypeId}
def TFact.any:TFact old R:=⟨fun _ _=>True,fun _ _ _ h _=>h,fun _ _ _ _ _ h _=>h⟩
def TFact.eq (u:Value):TFact old R:=⟨fun v _=>v=u,fun _ _ _ h _=>h,fun _ _ _ _ _ h _=>h⟩
def fG (F:List (TFact old R))(j:Nat)(v:Value)(w:World):Prop:=(F.getD j TFact.any).P v w
end
def dR{old:Array Value}{R:TypeId}(w1:World)(F:List (TFact old R))(p q s e s2 e2:Nat)(l:List Nat)(vs:Nat->Value)(w:World):Prop:=
 Below w1.heap.size w1 w/\(∀j ∈ l,fG F j (vs j) w)/\(s ∈ l->p ∈ l/\q ∈ l/\e ∈ l)/\(s2 ∈ l->p ∈ l/\q ∈ l/\e2 ∈ l)/\
  (p ∈ l->∃g,vs p= .pointer (some ⟨g,0,none⟩)/\w1.heap.size<=g/\(s ∉ l->Bo w g old R)/\(s ∈ l->∃cs,vs e= .agg cs/\Bo w g cs R))/\
  (q ∈ l->∃g,vs q= .pointer (some ⟨g,0,none⟩)/\w1.heap.size<=g/\(s2 ∉ l->Bo w g old R)/\(s2 ∈ l->∃cs,vs e2= .agg cs/\Bo w g cs R))/\(p ∈ l->q ∈ l->vs p≠vs q)
section
variable {old:Array Value} {R:TypeId} {w1 w w':World} {F:List (TFact old R)} {p q s e s2 e2 i:Nat} {l:List Nat} {vs:Nat->Value} {v:Value} {cs:Array Value}
theorem dR.nil:dR w1 F p q s e s2 e2 [] (fun _=>undef) w1.drew:=⟨(br _ _).drew,by simp,by simp,by simp,by simp,by simp,by simp⟩
theorem dR.facts (h:∀j ∈ l,fG F j (vs j) w')(hv:fG F i v w'):∀j ∈ l ++[i],fG F j (y5 vs i v j) w':=by
 intro j a
 by_cases c:j=i
 ·subst c;rw[ic];exact hv
 ·rw[dz c];exact h j ((aM c).1 a)
theorem dR.grow (h:∀j ∈ l,fG F j (vs j) w)(hg:Below w.heap.size w w'):∀j ∈ l,fG F j (vs j) w':=fun j hj=>(F.getD j TFact.any).keep _ _ _ (h j hj) hg
theorem dR.step (h:dR w1 F p q s e s2 e2 l vs w)(hn:i ∉ l)(hp:p≠i)(hq:q≠i)(hs:s≠i)(hs2:s2≠i)(hv:fG F i v w')(hg:Below w.heap.size w w'):dR w1 F p q s e s2 e2 (l ++[i]) (y5 vs i v) w':=by
 obtain⟨h1,h2,o,f,h4,r,t⟩:=h
 refine⟨bt h1 hg,dR.facts (dR.grow h2 hg) hv,fun c=>?_,fun c=>?_,fun c=>?_,fun c=>?_,fun a b=>?_⟩
 ·obtain⟨a,b,d⟩:=o ((aM hs).1 c);exact⟨List.mem_append_left _ a,List.mem_append_left _ b,List.mem_append_left _ d⟩
 ·obtain⟨a,b,d⟩:=f ((aM hs2).1 c);exact⟨List.mem_append_left _ a,List.mem_append_left _ b,List.mem_append_left _ d⟩
 ·obtain⟨g,e1,e3,j,k⟩:=h4 ((aM hp).1 c);rw[dz hp]
  refine⟨g,e1,e3,fun c=>(j (fun d=>c ((aM hs).2 d))).below hg,fun c=>?_⟩
  have sl:=(aM hs).1 c;obtain⟨cs,m,n⟩:=k sl
  exact⟨cs,by rw[dz (show e≠i from fun d=>hn (d▸(o sl).2.2))];exact m,n.below hg⟩
 ·obtain⟨g,e1,e3,j,k⟩:=r ((aM hq).1 c);rw[dz hq]
  refine⟨g,e1,e3,fun c=>(j (fun d=>c ((aM hs2).2 d))).below hg,fun c=>?_⟩
  have sl:=(aM hs2).1 c;obtain⟨cs,m,n⟩:=k sl
  exact⟨cs,by rw[dz (show e2≠i from fun d=>hn (d▸(f sl).2.2))];exact m,n.below hg⟩
 ·rw[dz hp,dz hq];exact t ((aM hp).1 a) ((aM hq).1 b)
theorem dR.newp (h:dR w1 F p q s e s2 e2 l vs w)(hn:p ∉ l)(hpq:p≠q)(hs:s≠p)(hs2:s2≠p)(hf:∀v u,fG F p v u):
  dR w1 F p q s e s2 e2 (l ++[p]) (y5 vs p (.pointer (some ⟨w.heap.size,0,none⟩))) (w.alloc (.cells old R)):=by
 obtain⟨h1,h2,m,i,h4,k,o⟩:=h;have b:=af w (.cells old R)
 have n:s ∉ l:=fun c=>hn (m c).1
 have d:s ∉ l ++[p]:=fun c=>n ((aM hs).1 c)
 have j:s2 ∉ l:=fun c=>hn (i c).1
 have a:s2 ∉ l ++[p]:=fun c=>j ((aM hs2).1 c)
 refine⟨bt h1 b,dR.facts (dR.grow h2 b) (hf _ _),fun c=>absurd c d,fun c=>absurd c a,fun _=>⟨_,ic _ _ _,h1.size,fun _=>Bo.new _ _ _,fun c=>absurd c d⟩,fun c=>?_,fun _ c=>?_⟩
 ·obtain⟨g,e1,e3,f,_⟩:=k ((aM (Ne.symm hpq)).1 c);rw[dz (Ne.symm hpq)]
  exact⟨g,e1,e3,fun _=>(f j).below b,fun c=>absurd c a⟩
 ·obtain⟨g,e1,e3,f,_⟩:=k ((aM (Ne.symm hpq)).1 c);rw[ic,dz (Ne.symm hpq),e1];exact far (f j).lt
theorem dR.newq (h:dR w1 F p q s e s2 e2 l vs w)(hn:q ∉ l)(hpq:p≠q)(hs:s≠q)(hs2:s2≠q)(hf:∀v u,fG F q v u):
  dR w1 F p q s e s2 e2 (l ++[q]) (y5 vs q (.pointer (some ⟨w.heap.size,0,none⟩))) (w.alloc (.cells old R)):=by
 obtain⟨h1,h2,k,i,h4,n,o⟩:=h;have b:=af w (.cells old R)
 have j:s ∉ l:=fun c=>hn (k c).2.1
 have d:s ∉ l ++[q]:=fun c=>j ((aM hs).1 c)
 have m:s2 ∉ l:=fun c=>hn (i c).2.1
 have a:s2 ∉ l ++[q]:=fun c=>m ((aM hs2).1 c)
 refine⟨bt h1 b,dR.facts (dR.grow h2 b) (hf _ _),fun c=>absurd c d,fun c=>absurd c a,fun c=>?_,fun _=>⟨_,ic _ _ _,h1.size,fun _=>Bo.new _ _ _,fun c=>absurd c a⟩,fun c _=>?_⟩
 ·obtain⟨g,e1,e3,f,_⟩:=h4 ((aM hpq).1 c);rw[dz hpq]
  exact⟨g,e1,e3,fun _=>(f j).below b,fun c=>absurd c d⟩
 ·obtain⟨g,e1,e3,f,_⟩:=h4 ((aM hpq).1 c);rw[ic,dz hpq,e1]
  exact fun c=>far (f j).lt c.symm
theorem Ip{P Q:Prop}{g:Nat}{cs':Array Value}{va:Value}(h1:P->Bo w g old R)(h2:Q->∃cs,va= .agg cs/\Bo w g cs R){g':Nat}(S:ac w w' g' old cs' R)(hne:g≠g'):(P->Bo w' g old R)/\(Q->∃cs,va= .agg cs/\Bo w' g cs R):=
 ⟨fun c=>(h1 c).stn S hne,fun c=>by obtain⟨cs,a,b⟩:=h2 c;exact⟨cs,a,b.stn S hne⟩⟩
theorem dR.sto{g:Nat}(h:dR w1 F p q s e s2 e2 l vs w)(hn:s ∉ l)(h22:s2≠s)(mp:p ∈ l)(mq:q ∈ l)(me:e ∈ l)(hf:∀v u,fG F s v u)(hg:vs p= .pointer (some ⟨g,0,none⟩))(he:vs e= .agg cs)(S:ac w w' g old cs R):
  dR w1 F p q s e s2 e2 (l ++[s]) (y5 vs s v) w':=by
 obtain⟨h1,h2,D,f,h4,B,n⟩:=h
 have C:s ∈ l ++[s]:=by simp
 have o:p≠s:=fun c=>hn (c▸mp)
 have r:q≠s:=fun c=>hn (c▸mq)
 have A:e≠s:=fun c=>hn (c▸me)
 obtain⟨g1,e1,i,_,_⟩:=h4 mp
 obtain rfl:g1=g:=by
  rw[e1]at hg
  injection hg with c
  injection c with c
  injection c
 obtain⟨g2,e3,k,t,x⟩:=B mq
 have m:g2≠g1:=fun c=>n mp mq (by rw[e1,e3,c])
 obtain⟨y,z⟩:=Ip t x S m
 refine⟨S.below h1 i,dR.facts (fun j hj=>(F.getD j TFact.any).stn _ _ _ _ _ (h2 j hj) S) (hf _ _),fun _=>⟨List.mem_append_left _ mp,List.mem_append_left _ mq,List.mem_append_left _ me⟩,fun c=>?_,fun _=>?_,fun _=>?_,fun _ _=>?_⟩
 ·obtain⟨a,b,d⟩:=f ((aM h22).1 c);exact⟨List.mem_append_left _ a,List.mem_append_left _ b,List.mem_append_left _ d⟩
 ·rw[dz o,dz A]
  exact⟨g1,e1,i,fun c=>absurd C c,fun _=>⟨cs,he,S.box⟩⟩
 ·rw[dz r]
  refine⟨g2,e3,k,fun c=>y (fun d=>c ((aM h22).2 d)),fun c=>?_⟩
  have sl:=(aM h22).1 c
  rw[dz (show e2≠s from fun d=>hn (d▸(f sl).2.2))]
  exact z sl
 ·rw[dz o,dz r];exact n mp mq
theorem dR.all (h:dR w1 F p q s e s2 e2 l vs w)(mp:p ∈ l)(mq:q ∈ l)(ms:s ∈ l)(m2:s2 ∉ l):∃g g' cs,vs p= .pointer (some ⟨g,0,none⟩)/\vs q= .pointer (some ⟨g',0,none⟩)/\w1.heap.size<=g/\w1.heap.size<=g'/\g≠g'/\vs e= .agg cs/\Bo w g cs R/\Bo w g' old R:=by
 obtain⟨h1,h2,o,k,h4,m,n⟩:=h;obtain⟨g,e1,e3,_,b⟩:=h4 mp;obtain⟨cs,d,f⟩:=b ms;obtain⟨g',a,i,j,_⟩:=m mq
 exact⟨g,g',cs,e1,a,e3,i,fun c=>n mp mq (by rw[e1,a,c]),d,f,j m2⟩
end
section
variable {P:Program} {ops:Array Oper} {Q:Exit->Act->World->Prop} {a0:Act} {T:List Nat} {ds:List (Option Tmp)} {ls:List (List Nat)} {k:Nat} {old:Array Value} {R:TypeId} {F:List (TFact old R)} {w1:World} {p q s e s2 e2:Nat}
theorem xcons{i:Nat}{o:Oper}{r:List Nat}{di:Option Tmp}{L:List (Option Tmp × Nat)}{f:TFact old R}(hp:p≠i)(hq:q≠i)(hs':s≠i)(hs2:s2≠i)(ho:ops[i]?=some o)(hdi:ds.getD i none=di)(hL:((ls.getD i []).map fun j=>(ds.getD j none,j))=L)(hf:F.getD i TFact.any=f)
  (h:∀vs w,Below w1.heap.size w1 w->(∀j ∈ ls.getD i [],fG F j (vs j) w)->∀K:Act->World->Prop,Shut (∀v w',f.P v w'->Grow w w'->K ((putl vs L a0).put di v) w')->
   if Region.wanted o (yielded ops (putl vs L a0).tmps)=true then Oper.wp P o (putl vs L a0) w K Q else K ((putl vs L a0).put o.dst undef) w)
  (hs:StepsI P ops Q a0 (dstOf ds) (depOf ls) (dR w1 F p q s e s2 e2) r):StepsI P ops Q a0 (dstOf ds) (depOf ls) (dR w1 F p q s e s2 e2) (i::r):=by
 refine qM ho hdi hL (fun l vs w hI hn hd K hK=>h vs w hI.1 (fun j hj=>hI.2.1 j (hd j hj)) K ?_) hs
 intro v w' h1 h2
 exact hK.out v w' (hI.step hn hp hq hs' hs2 (by unfold fG;rw[hf];exact h1) h2)
theorem xnew{i:Nat}{o:Oper}{r:List Nat}{di:Option Tmp}{L:List (Option Tmp × Nat)}(hpq:p≠q)(hi:i=p\/i=q)(hsp:s≠p/\s2≠p)(hsq:s≠q/\s2≠q)(hf:F.getD i TFact.any=TFact.any)(ho:ops[i]?=some o)(hdi:ds.getD i none=di)(hL:((ls.getD i []).map fun j=>(ds.getD j none,j))=L)
  (h:∀vs w,∀K:Act->World->Prop,Shut (K ((putl vs L a0).put di (.pointer (some ⟨w.heap.size,0,none⟩))) (w.alloc (.cells old R)))->
   if Region.wanted o (yielded ops (putl vs L a0).tmps)=true then Oper.wp P o (putl vs L a0) w K Q else K ((putl vs L a0).put o.dst undef) w)
  (hs:StepsI P ops Q a0 (dstOf ds) (depOf ls) (dR w1 F p q s e s2 e2) r):StepsI P ops Q a0 (dstOf ds) (depOf ls) (dR w1 F p q s e s2 e2) (i::r):=by
 refine qM ho hdi hL (fun l vs w hI hn hd K hK=>h vs w K ?_) hs
 have fa:∀v u,fG F i v u:=fun v u=>by unfold fG;rw[hf];trivial
 rcases hi with rfl | rfl
 ·exact hK.out _ _ (hI.newp hn hpq hsp.1 hsp.2 fa)
 ·exact hK.out _ _ (hI.newq hn hpq hsq.1 hsq.2 fa)
theorem xsto{o:Oper}{r:List Nat}{di:Option Tmp}{L:List (Option Tmp × Nat)}(h22:s2≠s)(hp:p ∈ ls.getD s [])(hq:q ∈ ls.getD s [])(he:e ∈ ls.getD s [])(hf:F.getD s TFact.any=TFact.any)(ho:ops[s]?=some o)(hdi:ds.getD s none=di)(hL:((ls.getD s []).map fun j=>(ds.getD j none,j))=L)
  (h:∀vs w,Below w1.heap.size w1 w->(∀j ∈ ls.getD s [],fG F j (vs j) w)->∀g,vs p= .pointer (some ⟨g,0,none⟩)->Bo w g old R->∀K:Act->World->Prop,Shut (∀v w' cs,vs e= .agg cs->ac w w' g old cs R->K ((putl vs L a0).put di v) w')->
   if Region.wanted o (yielded ops (putl vs L a0).tmps)=true then Oper.wp P o (putl vs L a0) w K Q else K ((putl vs L a0).put o.dst undef) w)
  (hs:StepsI P ops Q a0 (dstOf ds) (depOf ls) (dR w1 F p q s e s2 e2) r):StepsI P ops Q a0 (dstOf ds) (depOf ls) (dR w1 F p q s e s2 e2) (s::r):=by
 refine qM ho hdi hL (fun l vs w hI hn hd K hK=>?_) hs
 obtain⟨g,e1,_,X,_⟩:=hI.2.2.2.2.1 (hd p hp)
 refine h vs w hI.1 (fun j hj=>hI.2.1 j (hd j hj)) g e1 (X hn) K ?_
 intro v w' cs h1 h2
 exact hK.out v w' (hI.sto hn h22 (hd p hp) (hd q hq) (hd e he) (fun v u=>by unfold fG;rw[hf];trivial) e1 h1 h2)
theorem region_trip{id fuel:Nat}{L:List (Option Tmp × Nat)}(hp:p ∈ T)(hq:q ∈ T)(hs:s ∈ T)(hs2:s2 ∉ T)(hm:P.follows .mixedOrders=true)(hok:ok .any ops T (dstOf ds) (depOf ls) k a0.tmps.size=true)(hnd:T.Nodup)
  (hL:(T.map fun j=>(ds.getD j none,j))=L) (hfu:ops.size-T.length=fuel)
  (step:StepsI P ops (NoPanic Q) a0 (dstOf ds) (depOf ls) (dR w1 F p q s e s2 e2) T)
  (fin:∀vs wj,Below w1.heap.size w1 wj->(∀j ∈ T,fG F j (vs j) wj)->(∃g g' cs,vs p= .pointer (some ⟨g,0,none⟩)/\vs q= .pointer (some ⟨g',0,none⟩)/\w1.heap.size<=g/\w1.heap.size<=g'/\g≠g'/\vs e= .agg cs/\Bo wj g cs R/\Bo wj g' old R)->
   wpAny P .any ops (NoPanic Q) fuel (mark T ops.size) (putl vs L a0) wj):
  (Code.region id ops true).wp P Q a0 w1:=
 mX (T:=T) (ds:=ds) (ls:=ls) (k:=k) (I:=dR w1 F p q s e s2 e2) hm hok hnd hL hfu dR.nil step (fun l vs wj hl hI=>fin vs wj hI.1 (fun j hj=>hI.2.1 j ((hl j).2 hj)) (hI.all ((hl p).2 hp) ((hl q).2 hq) ((hl s).2 hs) (fun c=>hs2 ((hl s2).1 c))))
end
def ik{old:Array Value}{R:TypeId}(w1:World)(F:List (TFact old R))(g s e:Nat)(l:List Nat)(vs:Nat->Value)(w:World):Prop:=
 ∃nw,Off g nw R w1 w/\(∀j ∈ l,fG F j (vs j) w)/\(s ∉ l->Bo w g old R)/\(s ∈ l->e ∈ l/\vs e= .agg nw/\Bo w g nw R)
section
variable {old:Array Value} {R:TypeId} {w1 w w':World} {F:List (TFact old R)} {g s e i:Nat} {l:List Nat} {vs:Nat->Value} {v:Value} {cs:Array Value}
theorem ik.nil (X:Bo w1 g old R):ik w1 F g s e [] (fun _=>undef) w1.drew:=⟨old,Off.drew w1,by simp,fun _=>X.keep rfl,by simp⟩
theorem ik.lt (h:ik w1 F g s e l vs w):g < w.heap.size:=by
 obtain⟨nw,h1,h2,a,h4⟩:=h
 by_cases c:s ∈ l
 ·exact(h4 c).2.2.lt
 ·exact(a c).lt
theorem ik.step (h:ik w1 F g s e l vs w)(hn:i ∉ l)(hs:s≠i)(hv:fG F i v w')(hg:Below w.heap.size w w'):ik w1 F g s e (l ++[i]) (y5 vs i v) w':=by
 have hlt:=h.lt;obtain⟨nw,h1,h2,f,h4⟩:=h
 refine⟨nw,h1.trans (Off.of_below hg hlt),dR.facts (dR.grow h2 hg) hv,fun c=>(f (fun d=>c ((aM hs).2 d))).below hg,fun c=>?_⟩
 obtain⟨a,b,d⟩:=h4 ((aM hs).1 c)
 exact⟨List.mem_append_left _ a,by rw[dz (show e≠i from fun x=>hn (x▸a))];exact b,d.below hg⟩
theorem ik.sto (h:ik w1 F g s e l vs w)(hn:s ∉ l)(me:e ∈ l)(hf:∀v u,fG F s v u)(he:vs e= .agg cs)(S:ac w w' g old cs R):ik w1 F g s e (l ++[s]) (y5 vs s v) w':=by
 obtain⟨nw,h1,h2,a,h4⟩:=h
 have O:Off g cs R w w':=Off.of_stn S
 refine⟨cs,⟨O.os.trans h1.os,O.tape.trans h1.tape,O.output.trans h1.output,Nat.le_trans h1.size O.size,fun k hk hne=>(O.block k (Nat.lt_of_lt_of_le hk h1.size) hne).trans (h1.block k hk hne),.inr S.box⟩,dR.facts (fun j hj=>(F.getD j TFact.any).stn _ _ _ _ _ (h2 j hj) S) (hf _ _),fun c=>absurd (by simp) c,fun _=>⟨List.mem_append_left _ me,?_,S.box⟩⟩
 rw[dz (show e≠s from fun c=>hn (c▸me))]
 exact he
end
section
variable {P:Program} {ops:Array Oper} {Q:Exit->Act->World->Prop} {a0:Act} {T:List Nat} {ds:List (Option Tmp)} {ls:List (List Nat)} {k:Nat} {old:Array Value} {R:TypeId} {F:List (TFact old R)} {w1:World} {g s e:Nat}
theorem ocons{i:Nat}{o:Oper}{r:List Nat}{di:Option Tmp}{L:List (Option Tmp × Nat)}{f:TFact old R}(hs':s≠i)(ho:ops[i]?=some o)(hdi:ds.getD i none=di)(hL:((ls.getD i []).map fun j=>(ds.getD j none,j))=L)(hf:F.getD i TFact.any=f)
  (h:∀vs w nw,Off g nw R w1 w->(∀j ∈ ls.getD i [],fG F j (vs j) w)->∀K:Act->World->Prop,Shut (∀v w',f.P v w'->Grow w w'->K ((putl vs L a0).put di v) w')->
   if Region.wanted o (yielded ops (putl vs L a0).tmps)=true then Oper.wp P o (putl vs L a0) w K Q else K ((putl vs L a0).put o.dst undef) w)
  (hs:StepsI P ops Q a0 (dstOf ds) (depOf ls) (ik w1 F g s e) r):StepsI P ops Q a0 (dstOf ds) (depOf ls) (ik w1 F g s e) (i::r):=by
 refine qM ho hdi hL (fun l vs w hI hn hd K hK=>?_) hs
 obtain⟨nw,h1,h2,a,h4⟩:=hI
 refine h vs w nw h1 (fun j hj=>h2 j (hd j hj)) K ?_
 intro v w' e1 e2
 exact hK.out v w' (ik.step ⟨nw,h1,h2,a,h4⟩ hn hs' (by unfold fG;rw[hf];exact e1) e2)
theorem osto{o:Oper}{r:List Nat}{di:Option Tmp}{L:List (Option Tmp × Nat)}(he:e ∈ ls.getD s [])(hf:F.getD s TFact.any=TFact.any)(ho:ops[s]?=some o)(hdi:ds.getD s none=di)(hL:((ls.getD s []).map fun j=>(ds.getD j none,j))=L)
  (h:∀vs w,(∀j ∈ ls.getD s [],fG F j (vs j) w)->Bo w g old R->∀K:Act->World->Prop,Shut (∀v w' cs,vs e= .agg cs->ac w w' g old cs R->K ((putl vs L a0).put di v) w')->
   if Region.wanted o (yielded ops (putl vs L a0).tmps)=true then Oper.wp P o (putl vs L a0) w K Q else K ((putl vs L a0).put o.dst undef) w)
  (hs:StepsI P ops Q a0 (dstOf ds) (depOf ls) (ik w1 F g s e) r):StepsI P ops Q a0 (dstOf ds) (depOf ls) (ik w1 F g s e) (s::r):=by
 refine qM ho hdi hL (fun l vs w hI hn hd K hK=>?_) hs
 obtain⟨nw,h1,h2,a,h4⟩:=hI
 refine h vs w (fun j hj=>h2 j (hd j hj)) (a hn) K ?_
 intro v w' cs e1 e2
 exact hK.out v w' (ik.sto ⟨nw,h1,h2,a,h4⟩ hn (hd e he) (fun v u=>by unfold fG;rw[hf];trivial) e1 e2)
theorem region_lone{id fuel:Nat}{L:List (Option Tmp × Nat)}(X:Bo w1 g old R)(hs:s ∈ T)(hm:P.follows .mixedOrders=true)(hok:ok .any ops T (dstOf ds) (depOf ls) k a0.tmps.size=true)(hnd:T.Nodup)
  (hL:(T.map fun j=>(ds.getD j none,j))=L) (hfu:ops.size-T.length=fuel)
  (step:StepsI P ops (NoPanic Q) a0 (dstOf ds) (depOf ls) (ik w1 F g s e) T)
  (fin:∀vs wj cs,Off g cs R w1 wj->(∀j ∈ T,fG F j (vs j) wj)->vs e= .agg cs->Bo wj g cs R->
   wpAny P .any ops (NoPanic Q) fuel (mark T ops.size) (putl vs L a0) wj):
  (Code.region id ops true).wp P Q a0 w1:=
 mX (T:=T) (ds:=ds) (ls:=ls) (k:=k) (I:=ik w1 F g s e) hm hok hnd hL hfu (ik.nil X) step (fun l vs wj hl hI=>by
  obtain⟨nw,h1,h2,c,h4⟩:=hI;obtain⟨_,a,b⟩:=h4 ((hl s).2 hs)
  exact fin vs wj nw h1 (fun j hj=>h2 j ((hl j).2 hj)) a b)
