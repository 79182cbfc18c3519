/-
 Contracts that the proof rests on.
-/
import Derived.Test.YteigedaefgmojaaGreatDoorYQaq
namespace Go.Proofs.YteigedaefgmojaaGreatDoor
open Go.Proofs.Tryz
set_option maxHeartbeats 2000000
open Go.RowKit
set_option linter.unusedVariables false
abbrev Sp:=Option (Int × Int)
def du (a b:Int):Sp:=if a<=b/\a < 19342822337206103650074625/\ -19342822337206103650074625 < b then some (a,b)else none
def dc:Sp->Prop
 | none=>True
 | some (a,b)=> -19342822337206103650074625<=a/\a<=b/\b<=19342822337206103650074625/\a < 19342822337206103650074625/\ -19342822337206103650074625 < b
theorem bj{a b:Int}(h:a<=b)(h1:a < 19342822337206103650074625)(h2: -19342822337206103650074625 < b):du a b=some (a,b):=by
 unfold du
 rw[if_pos ⟨h,h1,h2⟩]
theorem bT{a b:Int}(h:¬(a<=b/\a < 19342822337206103650074625/\ -19342822337206103650074625 < b)):du a b=none:=by
 unfold du
 rw[if_neg h]
theorem qd{a b:Int}(h1: -19342822337206103650074625<=a)(h2:b<=19342822337206103650074625):dc (du a b):=by
 by_cases h:a<=b/\a < 19342822337206103650074625/\ -19342822337206103650074625 < b
 ·rw[bj h.1 h.2.1 h.2.2];exact⟨h1,h.1,h2,h.2.1,h.2.2⟩
 ·rw[bT h];exact trivial
def eC:Sp->Sp->Sp
 | some (a,b),some (c,d)=>du (max a c) (min b d)
 | _,_=>none
def bc:Sp->Sp->Sp
 | none,y=>y
 | x,none=>x
 | some (a,b),some (c,d)=>du (min a c) (max b d)
def sF:Sp:=some (-19342822337206103650074625,19342822337206103650074625)
def mW (x:Sp)(n:Int):Bool:=
 match x with
 | none=>false
 | some (a,b)=>!bg n && decide (a<=n) && decide (n<=b)
def AV:Sp->Sp->Bool
 | none,_=>true
 | some _,none=>false
 | some (a,b),some (c,d)=>decide (c<=a) && decide (b<=d)
def eY:Sp->Int
 | none=>0
 | some (a,b)=>dj true b (-a)
def iP (l:List Sp):Sp:=l.foldl eC sF
def eu (l:List Sp):Sp:=l.foldl bc none
theorem kJ (x:Sp):eC x none=none:=by cases x <;> rfl
theorem io (x:Sp):bc x none=x:=by cases x <;> rfl
theorem kA{x y:Sp}(hx:dc x)(hy:dc y):dc (bc x y):=by
 rcases x with _ | ⟨a,b⟩
 ·exact hy
 ·rcases y with _ | ⟨c,d⟩
  ·exact hx
  ·obtain⟨h1,h2,e,h4,f⟩:=hx;obtain⟨g,h,i,j,k⟩:=hy;exact qd (by omega) (by omega)
theorem dI{a b c d:Int}(hx:dc (some (a,b)))(hy:dc (some (c,d))):bc (some (a,b)) (some (c,d))=some (min a c,max b d):=by
 obtain⟨h1,h2,e,h4,f⟩:=hx;obtain⟨g,h,i,j,k⟩:=hy;exact bj (by omega) (by omega) (by omega)
theorem Eb:dc sF:=⟨by decide,by decide,by decide,by decide,by decide⟩
theorem qc (a b c d:Int):(eC (some (a,b)) (some (c,d))=none/\¬(max a c<=min b d/\max a c < 19342822337206103650074625/\ -19342822337206103650074625 < min b d))\/(eC (some (a,b)) (some (c,d))=some (max a c,min b d)/\max a c<=min b d):=by
 by_cases h:max a c<=min b d/\max a c < 19342822337206103650074625/\ -19342822337206103650074625 < min b d
 ·exact .inr ⟨bj h.1 h.2.1 h.2.2,h.1⟩
 ·exact .inl ⟨bT h,h⟩
theorem tN (x y:Sp):eC x y=eC y x:=by
 rcases x with _ | ⟨a,b⟩
 ·rw[kJ];rfl
 ·rcases y with _ | ⟨c,d⟩
  ·rfl
  ·show du _ _=du _ _
   rw[show max a c=max c a by omega,show min b d=min d b by omega]
theorem td{x y:Sp}:bc x y=bc y x:=by
 rcases x with _ | ⟨a,b⟩ <;> rcases y with _ | ⟨c,d⟩
 ·rfl
 ·rfl
 ·rfl
 ·show du _ _=du _ _
  rw[show min a c=min c a by omega,show max b d=max d b by omega]
theorem px{x y:Sp}(hx:dc x)(hy:dc y):AV x y=true↔eC x y=x:=by
 rcases x with _ | ⟨a,b⟩
 ·exact⟨fun _=>rfl,fun _=>rfl⟩
 ·rcases y with _ | ⟨c,d⟩
  ·exact⟨fun h=>(by cases h),fun h=>(by cases h)⟩
  ·obtain⟨h1,h2,f,h4,g⟩:=hx;obtain⟨i,j,k,l,m⟩:=hy
   rcases qc a b c d with⟨e,h⟩ | ⟨e,h⟩ <;> rw[e] <;> simp[AV] <;> omega
theorem yw{x:Sp}(hx:dc x):eC sF x=x:=by
 rw[tN];refine(px hx Eb).1 ?_
 rcases x with _ | ⟨a,b⟩
 ·rfl
 ·obtain⟨h1,h2,c,h4,d⟩:=hx
  simp[AV,sF]
  omega
theorem iq{x y z:Sp}(hx:dc x)(hy:dc y)(hz:dc z):bc (bc x y) z=bc x (bc y z):=by
 rcases x with _ | ⟨a,b⟩
 ·rfl
 ·rcases y with _ | ⟨c,d⟩
  ·rfl
  ·rcases z with _ | ⟨e,f⟩
   ·rw[io,io]
   ·have e1:=dI hx hy;have o1:=kA hx hy;have e2:=dI hy hz;have o2:=kA hy hz;rw[e1]at o1|-;rw[e2]at o2|-;rw[dI o1 hz,dI hx o2]
    rw[show min (min a c) e=min a (min c e) by omega,show max (max b d) f=max b (max d f) by omega]
theorem bl (x:Int):an false x=x:=if_neg (by decide)
theorem bn (x:Int):an true x= -x:=if_pos rfl
theorem Dn.sep{A B a b r:Int}(h:Dn A r)(hA1:a < A)(hA2:A < b)(hB1:a < B)(hB2:B < b)(hs:∀s,¬(a < vr s/\vr s < b)):Dn B r:=by
 obtain⟨h1,h2,c,h4⟩:=h
 refine⟨h1,h2,fun k=>?_,fun k=>?_⟩
 ·have:=c k
  have:=hs r
  omega
 ·have:=h4 k
  have:=hs (r+1)
  omega
theorem rX{P Q:Int × Int}(up:Bool)(hP:Nf P)(hQ:Nf Q){a b:Int}(hA1:a < vl P)(hA2:vl P < b)(hB1:a < vl Q)(hB2:vl Q < b)(hs:∀s,¬(a < vr s/\vr s < b)):dM up P.1 P.2=dM up Q.1 Q.2:=by
 obtain⟨c,p2⟩:=bY hP;obtain⟨d,e⟩:=bY hQ
 cases up
 ·exact(c.sep hA1 hA2 hB1 hB2 hs).uniq d
 ·refine Up.uniq (X:=vl Q) ?_ e
  refine Dn.sep (a:= -b) (b:= -a) p2 (by omega) (by omega) (by omega) (by omega) (fun s=>?_)
  have:=hs (-s)
  rw[bF]at this
  omega
theorem xx{P Q:Int × Int}(up:Bool)(hP:Nf P)(hQ:Nf Q)(h:vl P=vl Q):dM up P.1 P.2=dM up Q.1 Q.2:=by
 have a:=mF hP hQ (Int.le_of_eq h) up;have b:=mF hQ hP (Int.le_of_eq h.symm) up;exact Int.le_antisymm a b
theorem rY{P Q:Int × Int}{s:Bool}{A B a b:Int}(up:Bool)(hP:Nf P)(hQ:Nf Q)(eP:vl P=an s A)(eQ:vl Q=an s B)(hA1:a < A)(hA2:A < b)(hB1:a < B)(hB2:B < b)(hs:∀s,¬(a < vr s/\vr s < b)):dM up P.1 P.2=dM up Q.1 Q.2:=by
 cases s
 ·rw[bl]at eP eQ;exact rX up hP hQ (a:=a) (b:=b) (by omega) (by omega) (by omega) (by omega) hs
 ·rw[bn]at eP eQ
  refine rX up hP hQ (a:= -b) (b:= -a) (by omega) (by omega) (by omega) (by omega) (fun t=>?_)
  have:=hs (-t)
  rw[bF]at this
  omega
theorem DP{z e:Int}(h:z.natAbs < 2^128)(h1: -3000000<=e)(h2:e<=3000000):vl (mk z e)=z*2^(e+KK).toNat:=by
 obtain⟨η,a⟩:∃η:Nat,η=4000000:=⟨_,rfl⟩;refine(kL (h:=η) (by omega) (by omega) ?_).2
 have:=Nat.mul_lt_mul_of_pos_right h (Nat.pow_pos (n:=(e+(η:Int)).toNat) (show 0 < 2 by decide))
 rw[<-Nat.pow_add]at this;exact Nat.lt_of_lt_of_le this (Nat.pow_le_pow_right (by decide) (by omega))
theorem oQ{i:Int}{u:Nat}(hi:21267647932558653966460912964485513216<=i)(s:Int):¬(2*i*2^u < vr s/\vr s < (2*i+2)*2^u):=by
 rintro ⟨h1,h2⟩;have b:=aN u
 have a:0 < vr s:=Int.lt_of_le_of_lt (Int.mul_nonneg (by omega) (Int.le_of_lt b)) h1
 have hs:0 < s:=by
  rcases Int.lt_or_le 0 s with q | q
  ·exact q
  ·exfalso
   have:=ib q
   rw[show vr 0=0 from rfl]at this
   omega
 have e0:vr s=((s-1)%9223372036854775808+9223372036854775808)*2^((s-1) /9223372036854775808-1048576+KK).toNat:=by
  unfold vr vp
  rw[if_neg (by omega),if_neg (by omega)]
 obtain⟨M,c⟩:∃M,(s-1)%9223372036854775808+9223372036854775808=M:=⟨_,rfl⟩;obtain⟨t,ht⟩:∃t,((s-1) /9223372036854775808-1048576+(KK:Int)).toNat=t:=⟨_,rfl⟩;rw[c,ht]at e0
 have f:M < 18446744073709551616:=by omega
 rw[e0]at h1 h2;clear e0 c ht hs a
 rcases Nat.lt_or_ge u t with q | q
 ·obtain⟨d,rfl⟩:∃d,t=u+1+d:=⟨t-(u+1),by omega⟩
  have e1:M*2^(u+1+d)=M*2^d*2*2^u:=by
   rw[Int.pow_add,Int.pow_succ];generalize (2:Int)^u=U;generalize (2:Int)^d=D;rw[Int.mul_assoc M D 2,Int.mul_assoc M,Int.mul_comm U 2,Int.mul_comm (2*U) D,Int.mul_assoc D 2 U]
  rw[e1]at h1 h2;have a1:=Int.lt_of_mul_lt_mul_right h1 (Int.le_of_lt b);have a2:=Int.lt_of_mul_lt_mul_right h2 (Int.le_of_lt b)
  omega
 ·obtain⟨d,rfl⟩:∃d,u=t+d:=⟨u-t,by omega⟩
  have ht:=aN t;have hd:=aN d;rw[Int.pow_add]at h1
  have e:(2:Int)^t*1<=2^t*2^d:=Int.mul_le_mul_of_nonneg_left hd (Int.le_of_lt ht)
  rw[Int.mul_one]at e
  have l2:2*i*(2:Int)^t<=2*i*(2^t*2^d):=Int.mul_le_mul_of_nonneg_left e (by omega)
  have a1:=Int.lt_of_mul_lt_mul_right (Int.lt_of_le_of_lt l2 h1) (Int.le_of_lt ht)
  omega
def fj (M:Int)(n:Nat):Int:=if n<=64 then M*2^(64-n)else if M%2^(n-64)=0 then M/2^(n-64)else M/2^(n-64) /2*2+1
theorem zj{a b:Nat}(h:a<=b):(2:Int)^a<=2^b:=by
 have:=Nat.pow_le_pow_right (show 0 < 2 by decide) h
 exact_mod_cast this
theorem div_le_self{M p:Int}(h0:0<=M)(hp:0 < p):0<=M/p/\M/p<=M:=⟨Int.ediv_nonneg h0 (Int.le_of_lt hp),Int.ediv_le_self _ h0⟩
theorem EV{M:Int}{n:Nat}(h0:0<=M)(hM:LQ M)(hn:1<=n):0<=fj M n/\fj M n<=M*9223372036854775808+1/\fj M n < 170141183460469231731687303715884105728/\(2<=n->fj M n < 85070591730234615865843651857942052864):=by
 unfold fj
 by_cases h:n<=64
 ·rw[if_pos h]
  have e:=zj (show 64-n<=63 by omega)
  have d:=aN (64-n);have a1:=Int.mul_le_mul_of_nonneg_left e h0
  rw[show (2:Int)^63=9223372036854775808 by decide]at a1
  refine⟨Int.mul_nonneg h0 (Int.le_of_lt d),by omega,by omega,fun h2=>?_⟩
  have l2:=zj (show 64-n<=62 by omega)
  have a2:=Int.mul_le_mul_of_nonneg_left l2 h0
  rw[show (2:Int)^62=4611686018427387904 by decide]at a2
  omega
 ·rw[if_neg h];obtain⟨a,b⟩:=div_le_self h0 (aN (n-64))
  revert a b
  generalize M/2^(n-64)=q
  intro a b
  by_cases c:M%2^(n-64)=0
  ·rw[if_pos c]
   refine⟨by omega,by omega,by omega,fun _=>by omega⟩
  ·rw[if_neg c]
   refine⟨by omega,by omega,by omega,fun _=>by omega⟩
theorem gW{s:Bool}{M E x:Int}(q:Fq 1 s M E x):9223372036854775808<=M/\M < 18446744073709551616/\ -1048576<=E/\E<=1048576/\ -19342822337206103650074625 < x/\x < 19342822337206103650074625/\x≠0/\vr x=an s (M*2^(E+KK).toNat)/\decide (x < 0)=s:=by
 rcases q.cases with⟨c,_⟩ | ⟨_,h1,h2,b,h4,a⟩ | ⟨c,_⟩
 ·exact absurd c (by decide)
 ·have d:=eX h1 h2 b
  have hx:x=an s (M-9223372036854775808+1+(E+1048576)*9223372036854775808):=by
   rcases a with⟨rfl,a⟩ | ⟨rfl,a⟩
   ·rw[bl];omega
   ·rw[bn];omega
  have e:vr x=an s (M*2^(E+KK).toNat):=by
   rw[hx,AO s (by omega),d]
  refine⟨h1,h2,b,h4,?_,?_,?_,e,?_⟩
  ·rcases a with⟨_,a⟩ | ⟨_,a⟩ <;> omega
  ·rcases a with⟨_,a⟩ | ⟨_,a⟩ <;> omega
  ·rcases a with⟨_,a⟩ | ⟨_,a⟩ <;> omega
  ·rcases a with⟨rfl,a⟩ | ⟨rfl,a⟩
   ·exact df (by omega)
   ·exact dt (by omega)
 ·exact absurd c (by decide)
theorem C4 (s t:Bool)(x y:Int):an s x+an t y=an s (x+an (s !=t) y):=by
 cases s <;> cases t
 ·rw[show (false !=false)=false from rfl,bl,bl,bl]
 ·rw[show (false !=true)=true from rfl,bl,bn,bl]
 ·rw[show (true !=false)=true from rfl,bn,bl,bn,bn];omega
 ·rw[show (true !=true)=false from rfl,bn,bn,bl,bn];omega
theorem r7 (s:Bool){S:Int}(h:0<=S):(an s S).natAbs=S.toNat:=by
 cases s
 ·rw[bl];omega
 ·rw[bn];omega
theorem jb{s1 s2:Bool}{M1 M2 E1 E2 x y S:Int}{n:Nat}(up:Bool)(q1:Fq 1 s1 M1 E1 x)(q2:Fq 1 s2 M2 E2 y)(h:E2 < E1\/E2=E1/\M2<=M1)(hn:(n:Int)=E1-E2+1)(hS:S=M1*9223372036854775808+an (s1 !=s2) (fj M2 n)):
  0<=S/\S < 340282366920938463463374607431768211456/\dM up (mk (an s1 S) (E1-63)).1 (mk (an s1 S) (E1-63)).2=dj up x y:=by
 obtain⟨a1,a2,a3,a4,a5,D,a7,E,a9⟩:=gW q1;obtain⟨b1,R,b3,b4,F,G,b7,H,b9⟩:=gW q2;obtain⟨B,C,m2,L⟩:=EV (M:=M2) (n:=n) (by omega) R (by omega);have hk:=eB
 have k:n=1->fj M2 n=M2*9223372036854775808:=by
  rintro rfl
  unfold fj
  rw[if_pos (by decide)]
  rfl
 have i:0<=S/\S < 340282366920938463463374607431768211456:=by
  rw[hS]
  cases hs:s1 !=s2
  ·rw[bl];omega
  ·rw[bn]
   by_cases c:n=1
   ·have:=k c
    omega
   ·have:=L (by omega)
    omega
 refine⟨i.1,i.2,?_⟩;rw[fe up (dE a5 D) (dE F G)];obtain⟨w,g⟩:=lx a5 D F G;have f:=fh (an s1 S) (E1-63);have d:=DP (z:=an s1 S) (e:=E1-63) (by rw[r7 s1 i.1];omega) (by omega) (by omega);obtain⟨u,W⟩:∃u:Nat,(E1-63+(KK:Int)).toNat=u:=⟨_,rfl⟩;obtain⟨v,X⟩:∃v:Nat,(E2+(KK:Int)).toNat=v:=⟨_,rfl⟩
 have e1:(E1+(KK:Int)).toNat=63+u:=by omega
 rw[W]at d
 rw[e1,Int.pow_add,show (2:Int)^63=9223372036854775808 by decide,<-Int.mul_assoc]at E
 rw[X]at H;rw[E,H,C4]at g;rw[i9,hS,Int.add_mul,i9]at d;rw[hS];rw[hS]at f
 by_cases c:n<=64
 ·have e2:fj M2 n*2^u=M2*2^v:=by
   unfold fj
   rw[if_pos c,Int.mul_assoc,<-Int.pow_add]
   congr 2
   omega
  exact xx up f w (by rw[d,g,e2])
 ·have I:u=v+(n-64):=by omega
  by_cases t:M2%2^(n-64)=0
  ·have e2:fj M2 n*2^u=M2*2^v:=by
    unfold fj
    rw[if_neg c,if_pos t,I,Int.pow_add,Int.mul_comm (2^v),<-Int.mul_assoc]
    congr 1
    exact Int.ediv_mul_cancel (Int.dvd_of_emod_eq_zero t)
   exact xx up f w (by rw[d,g,e2])
  ·have hm:fj M2 n=M2/2^(n-64) /2*2+1:=by
    unfold fj
    rw[if_neg c,if_neg t]
   have hd:=Int.mul_ediv_add_emod M2 (2^(n-64));have o:=aN (n-64);have r0:=Int.emod_nonneg M2 (Int.ne_of_gt o);have r1:=Int.emod_lt_of_pos M2 o
   obtain⟨T,U⟩:=div_le_self (show 0<=M2 by omega) o
   have s:=aN v;have p:=aN u;rw[hm]at d f|-;rw[hm]at B C;clear k i m2 L hS hm;generalize M2%2^(n-64)=r at hd r0 r1 t;generalize M2/2^(n-64)=q at hd T U d f B C|-
   have J:(2:Int)^u=2^(n-64)*2^v:=by rw[I,Int.pow_add,Int.mul_comm]
   obtain⟨j,V⟩:∃j,q/2=j:=⟨_,rfl⟩;rw[V]at d f B C|-
   -- the exact one lies between 2 j and 2 j+2
   have N:2*j*2^u < M2*2^v:=by
    rw[J,<-Int.mul_assoc];refine Int.mul_lt_mul_of_pos_right ?_ s
    have A:2*j*2^(n-64)<=q*2^(n-64):=Int.mul_le_mul_of_nonneg_right (by omega) (Int.le_of_lt o)
    rw[Int.mul_comm q]at A
    omega
   have O:M2*2^v < (2*j+2)*2^u:=by
    rw[J,<-Int.mul_assoc];refine Int.mul_lt_mul_of_pos_right ?_ s
    have A:(q+1)*2^(n-64)<=(2*j+2)*2^(n-64):=Int.mul_le_mul_of_nonneg_right (by omega) (Int.le_of_lt o)
    rw[Int.add_mul,Int.one_mul,Int.mul_comm q]at A
    omega
   have P:2*j*2^u < (j*2+1)*2^u:=Int.mul_lt_mul_of_pos_right (by omega) p
   have Q:(j*2+1)*2^u < (2*j+2)*2^u:=Int.mul_lt_mul_of_pos_right (by omega) p
   revert N O P Q g d
   generalize M2*2^v=Y;generalize hZ:(j*2+1)*2^u=Z
   intro g d N O P Q
   cases hs:s1 !=s2
   ·rw[hs]at g d f;rw[bl]at g f|-;rw[bl,bl]at d
    have l:2*(M1*4611686018427387904+j)*2^u=M1*9223372036854775808*2^u+2*j*2^u:=by rw[<-Int.add_mul];congr 1;omega
    have m:(2*(M1*4611686018427387904+j)+2)*2^u=M1*9223372036854775808*2^u+(2*j+2)*2^u:=by rw[<-Int.add_mul];congr 1;omega
    refine rY up f w d g (a:=2*(M1*4611686018427387904+j)*2^u) (b:=(2*(M1*4611686018427387904+j)+2)*2^u) ?_ ?_ ?_ ?_ (oQ (by omega))
    ·rw[l];omega
    ·rw[m];omega
    ·rw[l];omega
    ·rw[m];omega
   ·rw[hs]at g d f;rw[bn]at g f|-;rw[bn,bn]at d
    have l:2*(M1*4611686018427387904-j-1)*2^u=M1*9223372036854775808*2^u-(2*j+2)*2^u:=by rw[<-Int.sub_mul];congr 1;omega
    have m:(2*(M1*4611686018427387904-j-1)+2)*2^u=M1*9223372036854775808*2^u-2*j*2^u:=by rw[<-Int.sub_mul];congr 1;omega
    refine rY up f w d g (a:=2*(M1*4611686018427387904-j-1)*2^u) (b:=(2*(M1*4611686018427387904-j-1)+2)*2^u) ?_ ?_ ?_ ?_ (oQ (by omega))
    ·rw[l];omega
    ·rw[m];omega
    ·rw[l];omega
    ·rw[m];omega
theorem vn{h l:Nat}(h0:h≠0)(hh:h < 18446744073709551616):
  ac (h*18446744073709551616+l)=64+ac h\/18446744073709551616<=l:=by
 rcases Nat.lt_or_ge l 18446744073709551616 with hl | hl
 ·left
  have:=bk (h*18446744073709551616+l) 64 (by omega)
  rw[this]
  congr 2
  omega
 ·exact .inr hl
def Ra (S:Nat)(F T K X:Int):Prop:=0<=T/\T < 18446744073709551616/\0<=K/\K < 18446744073709551616/\T=(tp S:Nat)/\(S≠0->X=xp S F/\(K=0↔tp S*2^ac S=S*2^64))
theorem Fp{l:Nat}{e:Int}(hl:l < 18446744073709551616):Ra l (e-64) ((l*2^(64-ac l):Nat):Int) 0 (e-64-(64-(ac l:Int))):=by
 have hb:=ai (n:=l) (k:=64) hl;have ht:=ew hb;have h2:=eW l;rw[ht]at h2
 refine⟨by omega,by omega,by omega,by omega,by rw[ht],fun h0=>⟨by unfold xp;omega,fun _=>?_,fun _=>rfl⟩⟩
 rw[ht,Nat.mul_assoc,<-Nat.pow_add]
 congr 2
 omega
theorem CY{h l:Nat}{e:Int}(h0:h≠0)(hh:h < 18446744073709551616)(hl:l < 18446744073709551616):
  Ra (h*18446744073709551616+l) (e-64) ((h*2^(64-ac h)+l/2^ac h:Nat):Int) ((l*2^(64-ac h)%18446744073709551616:Nat):Int) (e-(64-(ac h:Int))):=by
 have hb:=ai (n:=h) (k:=64) hh
 have a:ac (h*18446744073709551616+l)=64+ac h:=by
  rcases vn (l:=l) h0 hh with q | q
  ·exact q
  ·omega
 have o:0 < 2^ac h:=Nat.pow_pos (by decide)
 have g:2^64=2^(64-ac h)*2^ac h:=by rw[<-Nat.pow_add];congr 1;omega
 have b:(18446744073709551616:Nat)=2^ac h*2^(64-ac h):=by rw[Nat.mul_comm,<-g]
 have ht:tp (h*18446744073709551616+l)=h*2^(64-ac h)+l/2^ac h:=by
  unfold tp
  rw[a,Nat.pow_add,Nat.mul_comm (2^64) (2^ac h),Nat.mul_div_mul_right _ _ (Nat.pow_pos (by decide)),b,show h*(2^ac h*2^(64-ac h))=2^ac h*(h*2^(64-ac h)) by rw[<-Nat.mul_assoc,Nat.mul_comm h,Nat.mul_assoc],Nat.mul_add_div o]
 have hm:l*2^(64-ac h)%18446744073709551616=l%2^ac h*2^(64-ac h):=by
  rw[b,Nat.mul_mod_mul_right]
 have r:=eW (h*18446744073709551616+l)
 have j:=Nat.mod_lt (l*2^(64-ac h)) (show 0 < 18446744073709551616 by decide)
 refine⟨by omega,by omega,by omega,by omega,by rw[ht],fun _=>⟨?_,?_⟩⟩
 ·unfold xp
  rw[a]
  omega
 ·rw[hm,a,ht,Nat.pow_add,Nat.mul_comm (2^64) (2^ac h),<-Nat.mul_assoc];have hd:=Nat.div_add_mod l (2^ac h)
  have f:h*18446744073709551616+l=(h*2^(64-ac h)+l/2^ac h)*2^ac h+l%2^ac h:=by
   rw[Nat.add_mul,Nat.mul_assoc h,<-g,Nat.mul_comm (l/2^ac h),Nat.add_assoc,hd]
  rw[f]
  have p:0 < 2^(64-ac h):=Nat.pow_pos (by decide)
  revert f
  generalize (h*2^(64-ac h)+l/2^ac h)*2^ac h=Z;generalize l%2^ac h=m
  intro _
  constructor
  ·intro q
   have i:m*2^(64-ac h)=0:=by exact_mod_cast q
   have d:m=0:=by
    rcases Nat.mul_eq_zero.1 i with c | c
    ·exact c
    ·omega
   rw[d,Nat.add_zero]
  ·intro q
   have i:Z=Z+m:=Nat.eq_of_mul_eq_mul_right (show 0 < 2^64 by decide) q
   have d:m=0:=by omega
   rw[d,Nat.zero_mul]
   rfl
def sW (S:Nat)(F:Int):Bool:=S==0 || (decide (xp S F<=1048576) && (decide (-1048576<=xp S F) && decide (tp S*2^ac S=S*2^64)))
theorem BJ{m:Nat}(ho:m%2=1)(t:Nat)(F:Int):sW (m*2^t) F=ext m (F+t):=by
 have a:m≠0:=by omega
 have h2:m*2^t≠0:=Nat.mul_ne_zero a (Nat.ne_of_gt (Nat.pow_pos (by decide)))
 have d:xp (m*2^t) F=xp m (F+t):=by
  unfold xp
  rw[eL a]
  omega
 have e1:(m*2^t==0)=false:=by simpa using h2
 have e2:(m==0)=false:=by simpa using a
 have e3:(tp (m*2^t)*2^ac (m*2^t)=m*2^t*2^64)↔ac m<=64:=by
  rw[AC a,eL a,Nat.pow_add,<-Nat.mul_assoc,Nat.mul_right_comm m]
  constructor
  ·intro q
   have b:=Nat.eq_of_mul_eq_mul_right (Nat.pow_pos (n:=t) (show 0 < 2 by decide)) q
   rcases Nat.lt_or_ge 64 (ac m)with c | c
   ·exfalso
    rw[show 2^ac m=2^(ac m-65)*2*2^64 by rw[<-Nat.pow_succ,<-Nat.pow_add];congr 1;omega,<-Nat.mul_assoc]at b
    have e:=Nat.eq_of_mul_eq_mul_right (show 0 < 2^64 by decide) b
    rw[<-Nat.mul_assoc]at e
    omega
   ·exact c
  ·intro c
   rw[ew c,Nat.mul_assoc m,<-Nat.pow_add,show 64-ac m+ac m=64 by omega]
 unfold sW ext
 rw[d,e1,e2,decide_eq_decide.2 e3]
theorem AT{S:Nat}{F N E:Int}{neg:Bool}(hS:S < 340282366920938463463374607431768211456)(h1: -3000000<=F)(h2:F<=3000000)(hN:(mk (an neg (S:Int)) F).1=N)(hE:(mk (an neg (S:Int)) F).2=E):
  (sW S F=true->∀up,dM up N E=an neg (lo S F))/\dM neg N E=an neg (lo S F)/\(sW S F=false->dM (!neg) N E=nx (!neg) (an neg (lo S F))):=by
 by_cases d:S=0
 ·subst d
  have e0:an neg ((0:Nat):Int)=0:=by cases neg <;> rfl
  rw[e0,bU]at hN hE;subst hN;subst hE
  have e1:an neg (lo 0 F)=0:=by
   have:lo 0 F=0:=by
    unfold lo
    rw[if_pos rfl]
   rw[this]
   cases neg <;> rfl
  have e2:sW 0 F=true:=by
   unfold sW
   rfl
  rw[e1,e2]
  exact⟨fun _ up=>eV up,eV neg,fun c=>absurd c (by decide)⟩
 ·have a:(an neg (S:Int)).natAbs=S:=by rw[r7 neg (by omega)];omega
  obtain⟨s1,s2⟩:=eG S d
  have j:v2 S < 128:=by
   have i:=ej d
   have h4:2^v2 S < 2^128:=by omega
   exact(Nat.pow_lt_pow_iff_right (by decide)).1 h4
  have hz:an neg (S:Int)≠0:=by
   intro c
   rw[c]at a;exact d a.symm
  obtain⟨f,g,h,k,l⟩:=gl (z:=an neg (S:Int)) (e:=F) hz (by omega) (by rw[a];omega);rw[a]at f g;rw[hE]at f;rw[hN]at g h
  have b:neg=decide (N < 0):=by
   cases neg
   ·rw[bl]at h;exact(df (by omega)).symm
   ·rw[bn]at h;exact(dt (by omega)).symm
  have hx:sW S F=ext N.natAbs E:=by
   rw[g,f]
   conv=>lhs;rw[s1]
   exact BJ s2 _ F
  have hl:lo S F=lo N.natAbs E:=by
   rw[g,f]
   conv=>lhs;rw[s1]
   exact pY (by omega) _ F
  rw[hx,hl]
  refine⟨fun c up=>?_,?_,fun c=>?_⟩
  ·rw[fl c,<-b]
  ·exact fI b rfl
  ·rw[fH b,y4 neg c]
set_option linter.unusedSimpArgs false
set_option maxRecDepth 100000
theorem ou{w:World}{D M E:Int}{s:Bool}{r:Int}(hM:LQ M)(hr:rk D s M E=r):Calls prog 104 #[VQ D s M E] w (PN w r):=by
 delta VQ
 by_cases hm:aG D s M E
 ·have j:=dX hM hm;rw[hr]at j
  have i:=ie (show decide (aG D s M E)=true from dt hm)
  clear hm hr hM
  go_enter func104,ntmps104
  go_upto_region 1 with fail
  generalize d:(w.alloc _).alloc _=w1 at *;obtain⟨c,b,f⟩:=Bo.en2 d;clear d;have a:=c.cell
  go_wp2_with fail
  refine(fM i.out).mono ?_;rintro k l ⟨rfl,B⟩;clear a;refine aE ?_ c b f B;clear c b f B;intro c b f;have g:=b.cell;have e:=b.frozen;have a:=c.cell;go_wp2;clear g e a;have h:=ae.t4 b D s M E
  exact bq (by simp[results,results104,go_sem,h.box.cell]) rfl ⟨D,s,M,E,rfl,j,(h.below f.out (by omega))⟩
 ·rw[eU hm]at hr;subst hr
  have i:=ie (show decide (aG D s M E)=false from df hm)
  clear hm hM
  go_enter func104,ntmps104
  go_upto_region 1 with fail
  generalize d:(w.alloc _).alloc _=w1 at *;obtain⟨c,b,f⟩:=Bo.en2 d;clear d;have a:=c.cell
  go_wp2_with fail
  refine(fM i.out).mono ?_;rintro k l ⟨rfl,B⟩;clear a;refine aE ?_ c b f B;clear c b f B;intro c b f;have g:=b.cell;have e:=b.frozen;have a:=c.cell;go_wp2;clear g e a;have h:=ae.t4 b 0 false 0 0
  exact bq (by simp[results,results104,go_sem,h.box.cell]) rfl ⟨_,_,_,_,rfl,Fq.nought,(h.below f.out (by omega))⟩
theorem mV{D:Int}{s:Bool}{M E x:Int}(q:Fq D s M E x):bg x=(D==2):=by
 have b:=dC
 rcases q.cases with⟨rfl,rfl,rfl,rfl,c⟩ | ⟨rfl,h1,h2,d,h4,⟨rfl,a⟩ | ⟨rfl,a⟩⟩ | ⟨rfl,rfl,rfl,⟨rfl,a⟩ | ⟨rfl,a⟩⟩ <;> unfold bg <;> rw[Bool.eq_iff_iff] <;> simp <;> omega
theorem xD{D:Int}{s:Bool}{M E x:Int}(q:Fq D s M E x)(h:D≠2):0<=M/\lJ D s M E=true/\iL D s M E=ep x:=by
 have hb:lJ D s M E=true:=by
  unfold lJ
  rw[dt q.1,Bool.true_and]
  simpa using h
 exact⟨by rcases q.cases with⟨_,_,h,_⟩ | ⟨_,h,_⟩ | ⟨_,h,_⟩ <;> omega,hb,pM q hb⟩
theorem j5{s s':Bool}{M M' E E' x y:Int}(q:Fq 2 s M E x)(q':Fq 2 s' M' E' y):x=y↔s=s':=by
 have b:=dC
 rcases q.cases with⟨h,_⟩ | ⟨h,_⟩ | ⟨_,rfl,rfl,⟨rfl,a⟩ | ⟨rfl,a⟩⟩
 ·omega
 ·omega
 all_goals
  rcases q'.cases with⟨h,_⟩ | ⟨h,_⟩ | ⟨_,rfl,rfl,⟨rfl,c⟩ | ⟨rfl,c⟩⟩
  ·omega
  ·omega
  ·constructor <;> intro e <;> first | rfl | omega | exact absurd e (by decide)
  ·constructor <;> intro e <;> first | rfl | omega | exact absurd e (by decide)
def EW (p:Int × Int)(k:Int):Int × Int:=mk p.1 (p.2+k)
theorem Gy{w:World}{A:Option Addr}{n c:Nat}{s:Bool}{z e k N E:Int}(hT:dN w)(h:Wr w s A n c z)(hn:n<=100000)(k1: -2000<=k)(k2:k<=2000)(hN:(EW (mk z e) k).1=N)(hE:(EW (mk z e) k).2=E):
  Calls prog 176 #[.agg #[.bool s,.slice A n c,.int .i64 e],.int .i64 k] w (D1 w n N E):=by
 obtain⟨b,d⟩:=eR z e
 have a:EW (mk z e) k=mk (mk z e).1 (IntKind.i64.wrap ((mk z e).2+k)):=by rw[IntWalk.i64_in _ (by omega)];rfl
 rw[a]at hN hE;exact Eu hT h hn hN hE
theorem vm{w:World}{A:Option Addr}{n c α k r:Nat}(h:Rd w A n c α)(hn:n<=8000)(hk:k<=200000)(hr:α*2^k=r):Calls prog 234 #[.slice A n c,.int .i64 (k:Int)] w (Ig w 15000 r true):=by
 have b:=ie hr;clear hr
 have hd:decide ((0:Int)<=(k:Int))=true:=dt (Int.natCast_nonneg k)
 go_enter func234,ntmps234
 go_wp2_with fail
 refine(sy h (by omega) (by omega) b.out).mono ?_;rintro d f ⟨A2,n2,c2,rfl,p2,e,a⟩;go_wp2;exact bq (v:= .tuple #[.slice A2 n2 c2,.bool true]) (by simp[results,results234,go_sem]) rfl ⟨A2,n2,c2,rfl,p2,by omega,a⟩
theorem vk{w:World}{A:Option Addr}{n c α k d r:Nat}{z y:Int}{t:Bool}(h:Rd w A n c α)(hn:n<=8000)(hk:k<=200000)(h0:0 < k)(hz: -z=(k:Int))(hr:α/2^k=r)(hd:r*2^k=d)(hy:ah (d:Int) (α:Int)=y)(ht:(y==0)=t):Calls prog 234 #[.slice A n c,.int .i64 z] w (Ig w 15000 r t):=by
 have j:Hid (α/2^(k:Int).toNat=r):=ie (by rw[Int.toNat_natCast];exact hr)
 have i:=ie hd;have l:=ie hy
 have hlt:decide (0<=z)=false:=df (by omega)
 have g:¬(0<=z):=by omega
 have o:IntKind.i64.wrap (-z)=(k:Int):=by rw[hz];exact IntWalk.i64_in _ (by omega)
 clear hr hd hy
 go_enter func234,ntmps234
 go_wp2_with fail
 refine(pm (z:=(k:Int)) h (by omega) j.out).mono ?_;rintro f s ⟨A2,n2,c2,rfl,p2,p,b⟩
 go_wp2_with fail
 refine(sy p2.rd (by omega) (by omega) i.out).mono ?_;rintro f u ⟨A3,n3,c3,rfl,m,q,a⟩
 go_wp2_with fail
 refine(D6 m.rd ((h.below b).below a) l.out).mono ?_;rintro f x ⟨rfl,e⟩;go_wp2;exact bq (v:= .tuple #[.slice A2 n2 c2,.bool t]) (by simp[results,results234,go_sem]) rfl ⟨A2,n2,c2,rfl,(p2.below a).below e,by omega,bt b (bt a e)⟩
theorem GZ{w:World}{up:Bool}{r:Int}(hr:an (!up) TP=r):Calls prog 202 #[.bool up] w (PN w r):=by
 have i:=ie hr;clear hr
 go_enter func202,ntmps202
 go_upto_region 1 with fail
 generalize c:w.alloc _=w1 at *;obtain⟨a,e⟩:=Bo.en1 c;clear c
 go_wp2_with fail
 refine(oO (s:=!up) i.out).mono ?_;rintro m n ⟨j,s1,k,h,rfl,l,B⟩;replace a:=a.b B;replace e:=aj e B;clear B;have f:=a.cell;have d:=a.frozen;go_wp2;clear f d;have g:=ae.t4 a j s1 k h;exact bq (by simp[results,results202,go_sem,g.box.cell]) rfl ⟨_,_,_,_,rfl,l,(g.below e.out (by omega))⟩
end Go.Proofs.YteigedaefgmojaaGreatDoor
namespace Go.Proofs.YteigedaefgmojaaGreatDoor.Jo
open Go.Proofs.Tryz
open Go Go.RowKit
set_option linter.unusedVariables false
def nU (vs:Nat->Value)(i:Nat)(v:Value):Nat->Value:=fun x=>if x=i then v else vs x
theorem dA (vs:Nat->Value)(i:Nat)(v:Value):nU vs i v i=v:=if_pos rfl
theorem aK{vs:Nat->Value}{i j:Nat}{v:Value}(h:j≠i):nU vs i v j=vs j:=if_neg h
section
variable {P:Program} {md:Region.Mode} {ops:Array Oper} {Q:Exit->Act->World->Prop} {a0:Act} {T:List Nat} {dst:Nat->Option Tmp} {D:Nat->List Nat} {k:Nat} {I:List Nat->(Nat->Value)->World->Prop}
def StepsI (P:Program)(ops:Array Oper)(Q:Exit->Act->World->Prop)(a0:Act)(dst:Nat->Option Tmp)(D:Nat->List Nat)(I:List Nat->(Nat->Value)->World->Prop)(T:List Nat):Prop:=
 ∀i ∈ T,∀l vs w,I l vs w->i ∉ l->(∀j ∈ D i,j ∈ l)->wpOp P ops Q i (fun a' w'=>∃v,a'=(base dst vs (D i) a0).put (dst i) v/\I (l ++[i]) (nU vs i v) w') (base dst vs (D i) a0) w
theorem StepsI.nil:StepsI P ops Q a0 dst D I []:=fun _ h=>by cases h
theorem StepsI.cons{i:Nat}{o:Oper}{r:List Nat}(ho:ops[i]?=some o)
  (h:∀l vs w,I l vs w->i ∉ l->(∀j ∈ D i,j ∈ l)->∀K:Act->World->Prop,Shut (∀v w',I (l ++[i]) (nU vs i v) w'->K ((base dst vs (D i) a0).put (dst i) v) w')->
   if Region.wanted o (yielded ops (base dst vs (D i) a0).tmps)=true then Oper.wp P o (base dst vs (D i) a0) w K Q else K ((base dst vs (D i) a0).put o.dst undef) w)
  (hs:StepsI P ops Q a0 dst D I r):StepsI P ops Q a0 dst D I (i::r):=fun j a=>by
 rcases List.mem_cons.1 a with rfl | a
 ·exact fun l vs w hI hn hd=>wpOp_step ho (fun K hK=>h l vs w hI hn hd K (fun v w' h1=>hK _ _ ⟨v,rfl,h1⟩))
 ·exact hs j a
theorem vK (w0:World)(hok:ok md ops T dst D k a0.tmps.size=true)(hnd:T.Nodup)(hQ:∀c a b w,Q (.panic c) b w->Q (.panic c) a w)
  (h0:I [] (fun _=>undef) w0) (step:StepsI P ops Q a0 dst D I T)
  (fin:∀l vs w,(∀j,j ∈ l↔j ∈ T)->I l vs w->wpAny P md ops Q (ops.size-T.length) (mark T ops.size) (base dst vs T a0) w):
  wpAny P md ops Q ops.size (Array.replicate ops.size false) a0 w0:=by
 unfold ok at hok
 simp only[Bool.and_eq_true,List.all_eq_true,List.mem_range,Bool.or_eq_true,decide_eq_true_eq,List.contains_iff_mem]at hok;obtain⟨⟨O,F⟩,hx⟩:=hok
 have p:∀i ∈ T,∀j ∈ T,∀d,dst i=some d->dst j=some d->i=j:=fun i hi j g d=>(bs (F i hi)).2.2.2.1 j g d
 have go:∀(fuel:Nat) (l:List Nat) (vs:Nat->Value) (w:World) (L:Array Bool),fuel+l.length=ops.size->l.Nodup->(∀j ∈ l,j ∈ T)->(∀j ∈ l,∀x ∈ l9 md ops j,x ∈ l)->jU ops.size l L->I l vs w->wpAny P md ops Q fuel L (base dst vs l a0) w:=by
  intro fuel
  induction fuel with
  | zero=>
   intro l vs w L hf M hl A hg S
   by_cases f:∀j ∈ T,j ∈ l
   ·have hs:∀j,j ∈ l↔j ∈ T:=fun j=>⟨hl j,f j⟩
    have h1:=dx M hl;have h2:=dx hnd f
    have:=fin l vs w hs S
    rw[<-hg.eq (gR T ops.size) hs,<-gL p hl (fun _ h=>h) hs,show ops.size-T.length=0 by omega]at this
    exact this
   ·exfalso
    obtain⟨j,g⟩:=Classical.not_forall.1 f;obtain⟨g,bC⟩:=Classical.not_imp.1 g
    have:=dx (l:=j::l) (m:=List.range ops.size) (List.nodup_cons.2 ⟨bC,M⟩) (fun x hx=>List.mem_range.2 (by
     rcases List.mem_cons.1 hx with rfl | hx
     ·exact(bs (F x g)).1
     ·exact(bs (F x (hl x hx))).1))
    simp at this
    omega
  | succ fuel ih=>
   intro l vs w L hf M hl A hg S
   by_cases f:∀j ∈ T,j ∈ l
   ·have hs:∀j,j ∈ l↔j ∈ T:=fun j=>⟨hl j,f j⟩
    have h1:=dx M hl;have h2:=dx hnd f
    have:=fin l vs w hs S
    rw[<-hg.eq (gR T ops.size) hs,<-gL p hl (fun _ h=>h) hs,show ops.size-T.length=fuel+1 by omega]at this
    exact this
   ·obtain⟨V,B⟩:=Classical.not_forall.1 f;obtain⟨B,C⟩:=Classical.not_imp.1 B
    have gO:∀m,m < ops.size->m ∉ l->∃r,r ∈ Region.ready md ops L:=by
     intro m
     induction m using Nat.strongRecOn with
     | ind m ihm=>
      intro hm bH
      by_cases hd:∀x ∈ l9 md ops m,x ∈ l
      ·refine⟨m,mem_ready.2 ⟨by rw[Array.getD_eq_getD_getElem?,hg.2 m hm];simp[bH],ops[m],by simp[hm],fun e U hb=>?_⟩⟩
       have:e.on ∈ l9 md ops m:=by
        simp only[l9,hm,Array.getElem?_eq_getElem,Option.map_some,Option.getD_some];exact List.mem_map.2 ⟨e,List.mem_filter.2 ⟨by simpa using U,hb⟩,rfl⟩
       have hlt:=(bs (F _ (hl _ (hd _ this)))).1;rw[Array.getD_eq_getD_getElem?,hg.2 _ hlt]
       simp[hd _ this]
      ·obtain⟨x,n⟩:=Classical.not_forall.1 hd;obtain⟨n,z⟩:=Classical.not_imp.1 n;have hlt:=(hx m hm).1 x n;exact ihm x hlt (by omega) z
    refine⟨fun hr=>?_,fun i hi=>?_⟩
    ·obtain⟨r,N⟩:=gO V (bs (F V B)).1 C;rw[hr]at N
     cases N
    ·obtain⟨h0,o,J,W⟩:=mem_ready.1 hi
     have hlt:i < ops.size:=(Array.getElem?_eq_some_iff.1 J).1
     have H:i ∉ l:=by
      rw[Array.getD_eq_getD_getElem?,hg.2 i hlt]at h0
      simpa using h0
     have q:∀x ∈ l9 md ops i,x ∈ l:=by
      intro x n
      simp only[l9,J,Option.map_some,Option.getD_some]at n;obtain⟨e,U,rfl⟩:=List.mem_map.1 n;obtain⟨Z,bA⟩:=List.mem_filter.1 U;have h1:=W e (by simpa using Z) bA;have h2:=(hx i hlt).1 e.on (by simp only[l9,J,Option.map_some,Option.getD_some];exact List.mem_map.2 ⟨e,U,rfl⟩);rw[Array.getD_eq_getD_getElem?,hg.2 _ (by omega)]at h1
      simpa using h1
     have G:i ∈ T:=by
      rcases (hx i hlt).2 with h | h
      ·exact h
      ·exact absurd (iE A k _ q V (h V B)) C
     obtain⟨_,Y,gB,gP,hD,bD⟩:=bs (F i G)
     have s:o.dst=dst i:=by rw[<-Y,J];rfl
     have E:∀j ∈ D i,j ∈ l:=fun j g=>iE A k _ q j (hD j g).2
     have u:=step i G l vs w S H E;rw[<-s]at u
     have X:∀t ∈ o.looksAt ops,(base dst vs l a0).tmps[t]?=(base dst vs (D i) a0).tmps[t]?:=by
      intro t ht
      by_cases h:∃j ∈ l,dst j=some t
      ·obtain⟨j,g,hd⟩:=h
       have R:t < a0.tmps.size:=(bs (F j (hl j g))).2.2.1 t hd
       have bB:=bD o J t ht j (hl j g) hd
       rw[eK hd l a0 g R (fun x hx z=>p x (hl x hx) j (hl j g) t z hd),eK hd (D i) a0 bB R (fun x hx z=>p x (hl x (E x hx)) j (hl j g) t z hd)]
      ·rw[dK l a0 (fun j g hd=>h ⟨j,g,hd⟩),dK (D i) a0 (fun j g hd=>h ⟨j,E j g,hd⟩)]
     have:=lE J (Region.noSelect_spec O i o · · J) X hQ (fun d hd=>by rw[fA];exact gB d (s▸hd)) u
     refine wpOp_mono ?_ this;rintro a' w' ⟨v,rfl,h1⟩
     have e:(base dst vs l a0).put o.dst v=base dst (nU vs i v) (l ++[i]) a0:=by
      rw[lZ,dA,s]
      congr 1
      exact mO l a0 (fun j g=>by
       have bN:j≠i:=fun e=>H (e▸g)
       rw[aK bN])
     rw[e];refine ih (l ++[i]) _ w' _ (by simp;omega) ?_ ?_ ?_ (hg.set i) h1
     ·rw[List.nodup_append]
      refine⟨M,by simp,fun x hx y hy=>?_⟩
      simp at hy
      subst hy
      exact fun e=>H (e▸hx)
     ·intro j g
      rcases List.mem_append.1 g with h | h
      ·exact hl j h
      ·simp at h;subst h;exact G
     ·intro j g x n
      rcases List.mem_append.1 g with h | h
      ·exact List.mem_append_left _ (A j h x n)
      ·simp at h;subst h;exact List.mem_append_left _ (q x n)
 exact go ops.size [] (fun _=>undef) w0 _ (by simp) (by simp) (fun _ h=>by cases h) (fun _ h=>by cases h) (kz _) h0
end
section
variable {P:Program} {ops:Array Oper} {Q:Exit->Act->World->Prop} {a0:Act} {T:List Nat} {ds:List (Option Tmp)} {ls:List (List Nat)} {k:Nat} {I:List Nat->(Nat->Value)->World->Prop}
theorem jN{i:Nat}{o:Oper}{r:List Nat}{di:Option Tmp}{L:List (Option Tmp × Nat)}(ho:ops[i]?=some o)(hdi:ds.getD i none=di)(hL:((ls.getD i []).map fun j=>(ds.getD j none,j))=L)
  (h:∀l vs w,I l vs w->i ∉ l->(∀j ∈ ls.getD i [],j ∈ l)->∀K:Act->World->Prop,Shut (∀v w',I (l ++[i]) (nU vs i v) w'->K ((putl vs L a0).put di v) w')->
   if Region.wanted o (yielded ops (putl vs L a0).tmps)=true then Oper.wp P o (putl vs L a0) w K Q else K ((putl vs L a0).put o.dst undef) w)
  (hs:StepsI P ops Q a0 (dstOf ds) (depOf ls) I r):StepsI P ops Q a0 (dstOf ds) (depOf ls) I (i::r):=by
 refine StepsI.cons ho (fun l vs w hI hn hd K hK=>?_) hs
 have e:base (dstOf ds) vs (depOf ls i) a0=putl vs L a0:=by
  rw[ec,<-hL]
  rfl
 rw[e]at hK|-;refine h l vs w hI hn hd K ?_
 intro v w' h1
 have:=hK.out v w' h1
 rwa [show dstOf ds i=di from hdi]at this
theorem fT{id fuel:Nat}{w:World}{L:List (Option Tmp × Nat)}(hm:P.follows .mixedOrders=true)(hok:ok .any ops T (dstOf ds) (depOf ls) k a0.tmps.size=true)(hnd:T.Nodup)
  (hL:(T.map fun j=>(ds.getD j none,j))=L) (hfu:ops.size-T.length=fuel) (h0:I [] (fun _=>undef) w.drew)
  (step:StepsI P ops (NoPanic Q) a0 (dstOf ds) (depOf ls) I T)
  (fin:∀l vs wj,(∀j,j ∈ l↔j ∈ T)->I l vs wj->wpAny P .any ops (NoPanic Q) fuel (mark T ops.size) (putl vs L a0) wj):
  (Code.region id ops true).wp P Q a0 w:=by
 refine wp_region_noPanic ?_
 refine wp_region_any hm (vK (T:=T) (dst:=dstOf ds) (D:=depOf ls) (k:=k) (I:=I) _ hok hnd (fun _ _ _ _ h=>h) h0 step ?_)
 intro l vs w hl a
 have e:base (dstOf ds) vs T a0=putl vs L a0:=by
  rw[ec,<-hL]
  rfl
 rw[e,hfu];exact fin l vs w hl a
end
def Gl (w1:World)(p0 n0 p2 n2:Value)(old new:Array Value)(R:TypeId)(l:List Nat)(vs:Nat->Value)(w:World):Prop:=
 Below w1.heap.size w1 w/\(6 ∈ l->4 ∈ l/\5 ∈ l)/\(0 ∈ l->vs 0=p0)/\(1 ∈ l->vs 1=n0)/\(2 ∈ l->vs 2=p2)/\(3 ∈ l->vs 3=n2)/\
  (4 ∈ l->∃g,vs 4= .pointer (some ⟨g,0,none⟩)/\w1.heap.size<=g/\(6 ∈ l->Bo w g new R)/\(6 ∉ l->Bo w g old R))/\
  (5 ∈ l->∃g,vs 5= .pointer (some ⟨g,0,none⟩)/\w1.heap.size<=g/\Bo w g old R)/\(4 ∈ l->5 ∈ l->vs 4≠vs 5)
section
variable {w1 w w':World} {p0 n0 p2 n2 v:Value} {old new:Array Value} {R:TypeId} {l:List Nat} {vs:Nat->Value} {i:Nat}
theorem am{j:Nat}(h:j≠i):j ∈ l ++[i]↔j ∈ l:=by
 rw[List.mem_append]
 constructor
 ·rintro (e | e)
  ·exact e
  ·simp at e;exact absurd e h
 ·exact .inl
theorem Gl.all (h:Gl w1 p0 n0 p2 n2 old new R l vs w)(hl:∀j,j ∈ l↔j ∈ [0,1,2,3,4,5,6]):Below w1.heap.size w1 w/\vs 0=p0/\vs 1=n0/\vs 2=p2/\vs 3=n2/\∃g g',vs 4= .pointer (some ⟨g,0,none⟩)/\vs 5= .pointer (some ⟨g',0,none⟩)/\w1.heap.size<=g/\w1.heap.size<=g'/\g≠g'/\Bo w g new R/\Bo w g' old R:=by
 obtain⟨h1,h2,k,h4,m,n,o,p,q⟩:=h;have b:=(hl 4).2 (by decide);have d:=(hl 5).2 (by decide);have r:=(hl 6).2 (by decide);obtain⟨g,e,hb,i,_⟩:=o b;obtain⟨g',e',a,f⟩:=p d;have X:=i r
 exact⟨h1,k ((hl 0).2 (by decide)),h4 ((hl 1).2 (by decide)),m ((hl 2).2 (by decide)),n ((hl 3).2 (by decide)),g,g',e,e',hb,a,fun c=>q b d (by rw[e,e',c]),X,f⟩
end
def Gf (w1:World)(F:List Fact)(p q s e:Nat)(old:Array Value)(R:TypeId)(l:List Nat)(vs:Nat->Value)(w:World):Prop:=
 Below w1.heap.size w1 w/\(∀j ∈ l,∀u,phi F j (vs j) u)/\(s ∈ l->p ∈ l/\q ∈ l/\e ∈ l)/\
  (p ∈ l->∃g,vs p= .pointer (some ⟨g,0,none⟩)/\w1.heap.size<=g/\(s ∉ l->Bo w g old R)/\(s ∈ l->∃cs,vs e= .agg cs/\Bo w g cs R))/\
  (q ∈ l->∃g,vs q= .pointer (some ⟨g,0,none⟩)/\w1.heap.size<=g/\Bo w g old R)/\(p ∈ l->q ∈ l->vs p≠vs q)
section
variable {w1 w w':World} {F:List Fact} {p q s e i:Nat} {l:List Nat} {vs:Nat->Value} {v:Value} {cs old:Array Value} {R:TypeId}
theorem far{g h:Nat}(hg:g < h):(.pointer (some ⟨h,0,none⟩):Value)≠ .pointer (some ⟨g,0,none⟩):=by
 intro c
 injection c with c
 injection c with c
 injection c with c
 omega
theorem Gf.all (h:Gf w1 F p q s e old R l vs w)(mp:p ∈ l)(mq:q ∈ l)(ms:s ∈ l):∃g g' cs,vs p= .pointer (some ⟨g,0,none⟩)/\vs q= .pointer (some ⟨g',0,none⟩)/\w1.heap.size<=g/\w1.heap.size<=g'/\g≠g'/\vs e= .agg cs/\Bo w g cs R/\Bo w g' old R:=by
 obtain⟨h1,h2,m,h4,j,k⟩:=h;obtain⟨g,e1,e2,_,e3⟩:=h4 mp;obtain⟨cs,b,d⟩:=e3 ms;obtain⟨g',a,f,i⟩:=j mq
 exact⟨g,g',cs,e1,a,e2,f,fun c=>k mp mq (by rw[e1,a,c]),b,d,i⟩
end
section
variable {P:Program} {ops:Array Oper} {Q:Exit->Act->World->Prop} {a0:Act} {T:List Nat} {ds:List (Option Tmp)} {ls:List (List Nat)} {k:Nat} {F:List Fact} {w1:World} {p q s e:Nat} {old:Array Value} {R:TypeId}
end
def eD (w1:World)(F:List Fact)(p q:Nat)(old:Array Value)(R:TypeId)(l:List Nat)(vs:Nat->Value)(w:World):Prop:=
 Below w1.heap.size w1 w/\(∀j ∈ l,phi F j (vs j) w)/\
  (p ∈ l->∃g,vs p= .pointer (some ⟨g,0,none⟩)/\w1.heap.size<=g/\Bo w g old R)/\
  (q ∈ l->∃g,vs q= .pointer (some ⟨g,0,none⟩)/\w1.heap.size<=g/\Bo w g old R)/\(p ∈ l->q ∈ l->vs p≠vs q)
section
variable {w1 w w':World} {F:List Fact} {p q i:Nat} {l:List Nat} {vs:Nat->Value} {v:Value} {old:Array Value} {R:TypeId}
theorem eD.nil:eD w1 F p q old R [] (fun _=>undef) w1.drew:=⟨(br _ _).drew,by simp,by simp,by simp,by simp⟩
theorem eD.facts (h:∀j ∈ l,phi F j (vs j) w)(hg:Below w.heap.size w w')(hv:phi F i v w'):∀j ∈ l ++[i],phi F j (nU vs i v j) w':=by
 intro j a
 by_cases c:j=i
 ·subst c;rw[dA];exact hv
 ·rw[aK c];exact(F.getD j Fact.any).keep _ _ _ (h j ((am c).1 a)) hg
theorem eD.step (h:eD w1 F p q old R l vs w)(hp:p≠i)(hq:q≠i)(hv:phi F i v w')(hg:Below w.heap.size w w'):eD w1 F p q old R (l ++[i]) (nU vs i v) w':=by
 obtain⟨h1,h2,h4,d,e⟩:=h
 refine⟨bt h1 hg,eD.facts h2 hg hv,fun c=>?_,fun c=>?_,fun a b=>?_⟩
 ·obtain⟨g,e1,e2,e3⟩:=h4 ((am hp).1 c);rw[aK hp];exact⟨g,e1,e2,e3.below hg⟩
 ·obtain⟨g,e1,e2,e3⟩:=d ((am hq).1 c);rw[aK hq];exact⟨g,e1,e2,e3.below hg⟩
 ·rw[aK hp,aK hq];exact e ((am hp).1 a) ((am hq).1 b)
theorem eD.newp (h:eD w1 F p q old R l vs w)(hpq:p≠q)(hf:∀v u,phi F p v u):
  eD w1 F p q old R (l ++[p]) (nU vs p (.pointer (some ⟨w.heap.size,0,none⟩))) (w.alloc (.cells old R)):=by
 obtain⟨h1,h2,h4,a,d⟩:=h;have b:=ab w (.cells old R)
 refine⟨bt h1 b,eD.facts h2 b (hf _ _),fun _=>⟨_,dA _ _ _,h1.size,Bo.new _ _ _⟩,fun c=>?_,fun _ c=>?_⟩
 ·obtain⟨g,e1,e2,e3⟩:=a ((am (Ne.symm hpq)).1 c);rw[aK (Ne.symm hpq)];exact⟨g,e1,e2,e3.below b⟩
 ·obtain⟨g,e1,e2,e3⟩:=a ((am (Ne.symm hpq)).1 c);rw[dA,aK (Ne.symm hpq),e1];exact far e3.lt
theorem eD.newq (h:eD w1 F p q old R l vs w)(hpq:p≠q)(hf:∀v u,phi F q v u):
  eD w1 F p q old R (l ++[q]) (nU vs q (.pointer (some ⟨w.heap.size,0,none⟩))) (w.alloc (.cells old R)):=by
 obtain⟨h1,h2,h4,a,d⟩:=h;have b:=ab w (.cells old R)
 refine⟨bt h1 b,eD.facts h2 b (hf _ _),fun c=>?_,fun _=>⟨_,dA _ _ _,h1.size,Bo.new _ _ _⟩,fun c _=>?_⟩
 ·obtain⟨g,e1,e2,e3⟩:=h4 ((am hpq).1 c);rw[aK hpq];exact⟨g,e1,e2,e3.below b⟩
 ·obtain⟨g,e1,e2,e3⟩:=h4 ((am hpq).1 c);rw[dA,aK hpq,e1]
  exact fun c=>far e3.lt c.symm
theorem eD.all (h:eD w1 F p q old R l vs w)(mp:p ∈ l)(mq:q ∈ l):∃g g',vs p= .pointer (some ⟨g,0,none⟩)/\vs q= .pointer (some ⟨g',0,none⟩)/\w1.heap.size<=g/\w1.heap.size<=g'/\g≠g'/\Bo w g old R/\Bo w g' old R:=by
 obtain⟨h1,h2,h4,e,f⟩:=h;obtain⟨g,e1,e2,e3⟩:=h4 mp;obtain⟨g',a,b,d⟩:=e mq
 exact⟨g,g',e1,a,e2,b,fun c=>f mp mq (by rw[e1,a,c]),e3,d⟩
end
section
variable {P:Program} {ops:Array Oper} {Q:Exit->Act->World->Prop} {a0:Act} {T:List Nat} {ds:List (Option Tmp)} {ls:List (List Nat)} {k:Nat} {F:List Fact} {w1:World} {p q:Nat} {old:Array Value} {R:TypeId}
theorem tcons{i:Nat}{o:Oper}{r:List Nat}{di:Option Tmp}{L:List (Option Tmp × Nat)}{f:Fact}(hp:p≠i)(hq:q≠i)(ho:ops[i]?=some o)(hdi:ds.getD i none=di)(hL:((ls.getD i []).map fun j=>(ds.getD j none,j))=L)(hf:F.getD i Fact.any=f)
  (h:∀vs w,Below w1.heap.size w1 w->(∀j ∈ ls.getD i [],phi F j (vs j) w)->∀K:Act->World->Prop,Shut (∀v w',f.P v w'->Grow w w'->K ((putl vs L a0).put di v) w')->
   if Region.wanted o (yielded ops (putl vs L a0).tmps)=true then Oper.wp P o (putl vs L a0) w K Q else K ((putl vs L a0).put o.dst undef) w)
  (hs:StepsI P ops Q a0 (dstOf ds) (depOf ls) (eD w1 F p q old R) r):StepsI P ops Q a0 (dstOf ds) (depOf ls) (eD w1 F p q old R) (i::r):=by
 refine jN ho hdi hL (fun l vs w hI hn hd K hK=>h vs w hI.1 (fun j hj=>hI.2.1 j (hd j hj)) K ?_) hs
 intro v w' h1 h2
 exact hK.out v w' (hI.step hp hq (by unfold phi;rw[hf];exact h1) h2)
theorem tnew{i:Nat}{o:Oper}{r:List Nat}{di:Option Tmp}{L:List (Option Tmp × Nat)}(hpq:p≠q)(hi:i=p\/i=q)(hf:F.getD i Fact.any=Fact.any)(ho:ops[i]?=some o)(hdi:ds.getD i none=di)(hL:((ls.getD i []).map fun j=>(ds.getD j none,j))=L)
  (h:∀vs w,∀K:Act->World->Prop,Shut (K ((putl vs L a0).put di (.pointer (some ⟨w.heap.size,0,none⟩))) (w.alloc (.cells old R)))->
   if Region.wanted o (yielded ops (putl vs L a0).tmps)=true then Oper.wp P o (putl vs L a0) w K Q else K ((putl vs L a0).put o.dst undef) w)
  (hs:StepsI P ops Q a0 (dstOf ds) (depOf ls) (eD w1 F p q old R) r):StepsI P ops Q a0 (dstOf ds) (depOf ls) (eD w1 F p q old R) (i::r):=by
 refine jN ho hdi hL (fun l vs w hI hn hd K hK=>h vs w K ?_) hs
 have fa:∀v u,phi F i v u:=fun v u=>by unfold phi;rw[hf];trivial
 rcases hi with rfl | rfl
 ·exact hK.out _ _ (hI.newp hpq fa)
 ·exact hK.out _ _ (hI.newq hpq fa)
theorem region_twin{id fuel:Nat}{L:List (Option Tmp × Nat)}(hp:p ∈ T)(hq:q ∈ T)(hm:P.follows .mixedOrders=true)(hok:ok .any ops T (dstOf ds) (depOf ls) k a0.tmps.size=true)(hnd:T.Nodup)
  (hL:(T.map fun j=>(ds.getD j none,j))=L) (hfu:ops.size-T.length=fuel)
  (step:StepsI P ops (NoPanic Q) a0 (dstOf ds) (depOf ls) (eD w1 F p q old R) T)
  (fin:∀vs wj,Below w1.heap.size w1 wj->(∀j ∈ T,phi F j (vs j) wj)->(∃g g',vs p= .pointer (some ⟨g,0,none⟩)/\vs q= .pointer (some ⟨g',0,none⟩)/\w1.heap.size<=g/\w1.heap.size<=g'/\g≠g'/\Bo wj g old R/\Bo wj g' old R)->
   wpAny P .any ops (NoPanic Q) fuel (mark T ops.size) (putl vs L a0) wj):
  (Code.region id ops true).wp P Q a0 w1:=
 fT (T:=T) (ds:=ds) (ls:=ls) (k:=k) (I:=eD w1 F p q old R) hm hok hnd hL hfu eD.nil step (fun l vs wj hl hI=>fin vs wj hI.1 (fun j hj=>hI.2.1 j ((hl j).2 hj)) (hI.all ((hl p).2 hp) ((hl q).2 hq)))
end
structure TFact (old:Array Value) (R:TypeId) where
 P:Value->World->Prop
 keep:∀v w w',P v w->Below w.heap.size w w'->P v w'
 stn:∀v w w' g cs,P v w->ae w w' g old cs R->P v w'
section
variable {old:Array Value} {R:TypeId}
def TFact.any:TFact old R:=⟨fun _ _=>True,fun _ _ _ h _=>h,fun _ _ _ _ _ h _=>h⟩
def TFact.eq (u:Value):TFact old R:=⟨fun v _=>v=u,fun _ _ _ h _=>h,fun _ _ _ _ _ h _=>h⟩
def dQ (F:List (TFact old R))(j:Nat)(v:Value)(w:World):Prop:=(F.getD j TFact.any).P v w
end
def bK{old:Array Value}{R:TypeId}(w1:World)(F:List (TFact old R))(p q s e s2 e2:Nat)(l:List Nat)(vs:Nat->Value)(w:World):Prop:=
 Below w1.heap.size w1 w/\(∀j ∈ l,dQ F j (vs j) w)/\(s ∈ l->p ∈ l/\q ∈ l/\e ∈ l)/\(s2 ∈ l->p ∈ l/\q ∈ l/\e2 ∈ l)/\
  (p ∈ l->∃g,vs p= .pointer (some ⟨g,0,none⟩)/\w1.heap.size<=g/\(s ∉ l->Bo w g old R)/\(s ∈ l->∃cs,vs e= .agg cs/\Bo w g cs R))/\
  (q ∈ l->∃g,vs q= .pointer (some ⟨g,0,none⟩)/\w1.heap.size<=g/\(s2 ∉ l->Bo w g old R)/\(s2 ∈ l->∃cs,vs e2= .agg cs/\Bo w g cs R))/\(p ∈ l->q ∈ l->vs p≠vs q)
section
variable {old:Array Value} {R:TypeId} {w1 w w':World} {F:List (TFact old R)} {p q s e s2 e2 i:Nat} {l:List Nat} {vs:Nat->Value} {v:Value} {cs:Array Value}
theorem bK.nil:bK w1 F p q s e s2 e2 [] (fun _=>undef) w1.drew:=⟨(br _ _).drew,by simp,by simp,by simp,by simp,by simp,by simp⟩
theorem bK.facts (h:∀j ∈ l,dQ F j (vs j) w')(hv:dQ F i v w'):∀j ∈ l ++[i],dQ F j (nU vs i v j) w':=by
 intro j a
 by_cases c:j=i
 ·subst c;rw[dA];exact hv
 ·rw[aK c];exact h j ((am c).1 a)
theorem bK.grow (h:∀j ∈ l,dQ F j (vs j) w)(hg:Below w.heap.size w w'):∀j ∈ l,dQ F j (vs j) w':=fun j hj=>(F.getD j TFact.any).keep _ _ _ (h j hj) hg
theorem bK.step (h:bK w1 F p q s e s2 e2 l vs w)(hn:i ∉ l)(hp:p≠i)(hq:q≠i)(hs:s≠i)(hs2:s2≠i)(hv:dQ F i v w')(hg:Below w.heap.size w w'):bK w1 F p q s e s2 e2 (l ++[i]) (nU vs i v) w':=by
 obtain⟨h1,h2,o,f,h4,r,t⟩:=h
 refine⟨bt h1 hg,bK.facts (bK.grow h2 hg) hv,fun c=>?_,fun c=>?_,fun c=>?_,fun c=>?_,fun a b=>?_⟩
 ·obtain⟨a,b,d⟩:=o ((am hs).1 c);exact⟨List.mem_append_left _ a,List.mem_append_left _ b,List.mem_append_left _ d⟩
 ·obtain⟨a,b,d⟩:=f ((am hs2).1 c);exact⟨List.mem_append_left _ a,List.mem_append_left _ b,List.mem_append_left _ d⟩
 ·obtain⟨g,e1,e3,j,k⟩:=h4 ((am hp).1 c);rw[aK hp]
  refine⟨g,e1,e3,fun c=>(j (fun d=>c ((am hs).2 d))).below hg,fun c=>?_⟩
  have sl:=(am hs).1 c;obtain⟨cs,m,n⟩:=k sl
  exact⟨cs,by rw[aK (show e≠i from fun d=>hn (d▸(o sl).2.2))];exact m,n.below hg⟩
 ·obtain⟨g,e1,e3,j,k⟩:=r ((am hq).1 c);rw[aK hq]
  refine⟨g,e1,e3,fun c=>(j (fun d=>c ((am hs2).2 d))).below hg,fun c=>?_⟩
  have sl:=(am hs2).1 c;obtain⟨cs,m,n⟩:=k sl
  exact⟨cs,by rw[aK (show e2≠i from fun d=>hn (d▸(f sl).2.2))];exact m,n.below hg⟩
 ·rw[aK hp,aK hq];exact t ((am hp).1 a) ((am hq).1 b)
theorem bK.newp (h:bK w1 F p q s e s2 e2 l vs w)(hn:p ∉ l)(hpq:p≠q)(hs:s≠p)(hs2:s2≠p)(hf:∀v u,dQ F p v u):
  bK w1 F p q s e s2 e2 (l ++[p]) (nU vs p (.pointer (some ⟨w.heap.size,0,none⟩))) (w.alloc (.cells old R)):=by
 obtain⟨h1,h2,m,i,h4,k,o⟩:=h;have b:=ab w (.cells old R)
 have n:s ∉ l:=fun c=>hn (m c).1
 have d:s ∉ l ++[p]:=fun c=>n ((am hs).1 c)
 have j:s2 ∉ l:=fun c=>hn (i c).1
 have a:s2 ∉ l ++[p]:=fun c=>j ((am hs2).1 c)
 refine⟨bt h1 b,bK.facts (bK.grow h2 b) (hf _ _),fun c=>absurd c d,fun c=>absurd c a,fun _=>⟨_,dA _ _ _,h1.size,fun _=>Bo.new _ _ _,fun c=>absurd c d⟩,fun c=>?_,fun _ c=>?_⟩
 ·obtain⟨g,e1,e3,f,_⟩:=k ((am (Ne.symm hpq)).1 c);rw[aK (Ne.symm hpq)]
  exact⟨g,e1,e3,fun _=>(f j).below b,fun c=>absurd c a⟩
 ·obtain⟨g,e1,e3,f,_⟩:=k ((am (Ne.symm hpq)).1 c);rw[dA,aK (Ne.symm hpq),e1];exact far (f j).lt
theorem bK.newq (h:bK w1 F p q s e s2 e2 l vs w)(hn:q ∉ l)(hpq:p≠q)(hs:s≠q)(hs2:s2≠q)(hf:∀v u,dQ F q v u):
  bK w1 F p q s e s2 e2 (l ++[q]) (nU vs q (.pointer (some ⟨w.heap.size,0,none⟩))) (w.alloc (.cells old R)):=by
 obtain⟨h1,h2,k,i,h4,n,o⟩:=h;have b:=ab w (.cells old R)
 have j:s ∉ l:=fun c=>hn (k c).2.1
 have d:s ∉ l ++[q]:=fun c=>j ((am hs).1 c)
 have m:s2 ∉ l:=fun c=>hn (i c).2.1
 have a:s2 ∉ l ++[q]:=fun c=>m ((am hs2).1 c)
 refine⟨bt h1 b,bK.facts (bK.grow h2 b) (hf _ _),fun c=>absurd c d,fun c=>absurd c a,fun c=>?_,fun _=>⟨_,dA _ _ _,h1.size,fun _=>Bo.new _ _ _,fun c=>absurd c a⟩,fun c _=>?_⟩
 ·obtain⟨g,e1,e3,f,_⟩:=h4 ((am hpq).1 c);rw[aK hpq]
  exact⟨g,e1,e3,fun _=>(f j).below b,fun c=>absurd c d⟩
 ·obtain⟨g,e1,e3,f,_⟩:=h4 ((am hpq).1 c);rw[dA,aK hpq,e1]
  exact fun c=>far (f j).lt c.symm
theorem y8{P Q:Prop}{g:Nat}{cs':Array Value}{va:Value}(h1:P->Bo w g old R)(h2:Q->∃cs,va= .agg cs/\Bo w g cs R){g':Nat}(S:ae w w' g' old cs' R)(hne:g≠g'):(P->Bo w' g old R)/\(Q->∃cs,va= .agg cs/\Bo w' g cs R):=
 ⟨fun c=>(h1 c).stn S hne,fun c=>by obtain⟨cs,a,b⟩:=h2 c;exact⟨cs,a,b.stn S hne⟩⟩
theorem bK.sto{g:Nat}(h:bK w1 F p q s e s2 e2 l vs w)(hn:s ∉ l)(h22:s2≠s)(mp:p ∈ l)(mq:q ∈ l)(me:e ∈ l)(hf:∀v u,dQ F s v u)(hg:vs p= .pointer (some ⟨g,0,none⟩))(he:vs e= .agg cs)(S:ae w w' g old cs R):
  bK w1 F p q s e s2 e2 (l ++[s]) (nU vs s v) w':=by
 obtain⟨h1,h2,D,f,h4,B,n⟩:=h
 have C:s ∈ l ++[s]:=by simp
 have o:p≠s:=fun c=>hn (c▸mp)
 have r:q≠s:=fun c=>hn (c▸mq)
 have A:e≠s:=fun c=>hn (c▸me)
 obtain⟨g1,e1,i,_,_⟩:=h4 mp
 obtain rfl:g1=g:=by
  rw[e1]at hg
  injection hg with c
  injection c with c
  injection c
 obtain⟨g2,e3,k,t,x⟩:=B mq
 have m:g2≠g1:=fun c=>n mp mq (by rw[e1,e3,c])
 obtain⟨y,z⟩:=y8 t x S m
 refine⟨S.below h1 i,bK.facts (fun j hj=>(F.getD j TFact.any).stn _ _ _ _ _ (h2 j hj) S) (hf _ _),fun _=>⟨List.mem_append_left _ mp,List.mem_append_left _ mq,List.mem_append_left _ me⟩,fun c=>?_,fun _=>?_,fun _=>?_,fun _ _=>?_⟩
 ·obtain⟨a,b,d⟩:=f ((am h22).1 c);exact⟨List.mem_append_left _ a,List.mem_append_left _ b,List.mem_append_left _ d⟩
 ·rw[aK o,aK A]
  exact⟨g1,e1,i,fun c=>absurd C c,fun _=>⟨cs,he,S.box⟩⟩
 ·rw[aK r]
  refine⟨g2,e3,k,fun c=>y (fun d=>c ((am h22).2 d)),fun c=>?_⟩
  have sl:=(am h22).1 c
  rw[aK (show e2≠s from fun d=>hn (d▸(f sl).2.2))]
  exact z sl
 ·rw[aK o,aK r];exact n mp mq
theorem bK.sto2{g:Nat}(h:bK w1 F p q s e s2 e2 l vs w)(hn:s2 ∉ l)(h22:s≠s2)(mp:p ∈ l)(mq:q ∈ l)(me:e2 ∈ l)(hf:∀v u,dQ F s2 v u)(hg:vs q= .pointer (some ⟨g,0,none⟩))(he:vs e2= .agg cs)(S:ae w w' g old cs R):
  bK w1 F p q s e s2 e2 (l ++[s2]) (nU vs s2 v) w':=by
 obtain⟨h1,h2,m,B,h4,C,n⟩:=h
 have D:s2 ∈ l ++[s2]:=by simp
 have o:p≠s2:=fun c=>hn (c▸mp)
 have r:q≠s2:=fun c=>hn (c▸mq)
 have A:e2≠s2:=fun c=>hn (c▸me)
 obtain⟨g1,e1,i,t,x⟩:=h4 mp;obtain⟨g2,e3,f,_,_⟩:=C mq
 obtain rfl:g2=g:=by
  rw[e3]at hg
  injection hg with c
  injection c with c
  injection c
 have k:g1≠g2:=fun c=>n mp mq (by rw[e1,e3,c])
 obtain⟨y,z⟩:=y8 t x S k
 refine⟨S.below h1 f,bK.facts (fun j hj=>(F.getD j TFact.any).stn _ _ _ _ _ (h2 j hj) S) (hf _ _),fun c=>?_,fun _=>⟨List.mem_append_left _ mp,List.mem_append_left _ mq,List.mem_append_left _ me⟩,fun _=>?_,fun _=>?_,fun _ _=>?_⟩
 ·obtain⟨a,b,d⟩:=m ((am h22).1 c);exact⟨List.mem_append_left _ a,List.mem_append_left _ b,List.mem_append_left _ d⟩
 ·rw[aK o]
  refine⟨g1,e1,i,fun c=>y (fun d=>c ((am h22).2 d)),fun c=>?_⟩
  have sl:=(am h22).1 c
  rw[aK (show e≠s2 from fun d=>hn (d▸(m sl).2.2))]
  exact z sl
 ·rw[aK r,aK A]
  exact⟨g2,e3,f,fun c=>absurd D c,fun _=>⟨cs,he,S.box⟩⟩
 ·rw[aK o,aK r];exact n mp mq
theorem bK.all (h:bK w1 F p q s e s2 e2 l vs w)(mp:p ∈ l)(mq:q ∈ l)(ms:s ∈ l)(m2:s2 ∉ l):∃g g' cs,vs p= .pointer (some ⟨g,0,none⟩)/\vs q= .pointer (some ⟨g',0,none⟩)/\w1.heap.size<=g/\w1.heap.size<=g'/\g≠g'/\vs e= .agg cs/\Bo w g cs R/\Bo w g' old R:=by
 obtain⟨h1,h2,o,k,h4,m,n⟩:=h;obtain⟨g,e1,e3,_,b⟩:=h4 mp;obtain⟨cs,d,f⟩:=b ms;obtain⟨g',a,i,j,_⟩:=m mq
 exact⟨g,g',cs,e1,a,e3,i,fun c=>n mp mq (by rw[e1,a,c]),d,f,j m2⟩
theorem bK.both (h:bK w1 F p q s e s2 e2 l vs w)(mp:p ∈ l)(mq:q ∈ l)(ms:s ∈ l)(m2:s2 ∈ l):∃g g' cs cs2,vs p= .pointer (some ⟨g,0,none⟩)/\vs q= .pointer (some ⟨g',0,none⟩)/\w1.heap.size<=g/\w1.heap.size<=g'/\g≠g'/\vs e= .agg cs/\vs e2= .agg cs2/\Bo w g cs R/\Bo w g' cs2 R:=by
 obtain⟨h1,h2,t,n,h4,o,r⟩:=h;obtain⟨g,e1,e3,_,b⟩:=h4 mp;obtain⟨cs,d,f⟩:=b ms;obtain⟨g',a,i,_,j⟩:=o mq;obtain⟨cs2,k,m⟩:=j m2
 exact⟨g,g',cs,cs2,e1,a,e3,i,fun c=>r mp mq (by rw[e1,a,c]),d,k,f,m⟩
end
section
variable {P:Program} {ops:Array Oper} {Q:Exit->Act->World->Prop} {a0:Act} {T:List Nat} {ds:List (Option Tmp)} {ls:List (List Nat)} {k:Nat} {old:Array Value} {R:TypeId} {F:List (TFact old R)} {w1:World} {p q s e s2 e2:Nat}
theorem xcons{i:Nat}{o:Oper}{r:List Nat}{di:Option Tmp}{L:List (Option Tmp × Nat)}{f:TFact old R}(hp:p≠i)(hq:q≠i)(hs':s≠i)(hs2:s2≠i)(ho:ops[i]?=some o)(hdi:ds.getD i none=di)(hL:((ls.getD i []).map fun j=>(ds.getD j none,j))=L)(hf:F.getD i TFact.any=f)
  (h:∀vs w,Below w1.heap.size w1 w->(∀j ∈ ls.getD i [],dQ F j (vs j) w)->∀K:Act->World->Prop,Shut (∀v w',f.P v w'->Grow w w'->K ((putl vs L a0).put di v) w')->
   if Region.wanted o (yielded ops (putl vs L a0).tmps)=true then Oper.wp P o (putl vs L a0) w K Q else K ((putl vs L a0).put o.dst undef) w)
  (hs:StepsI P ops Q a0 (dstOf ds) (depOf ls) (bK w1 F p q s e s2 e2) r):StepsI P ops Q a0 (dstOf ds) (depOf ls) (bK w1 F p q s e s2 e2) (i::r):=by
 refine jN ho hdi hL (fun l vs w hI hn hd K hK=>h vs w hI.1 (fun j hj=>hI.2.1 j (hd j hj)) K ?_) hs
 intro v w' h1 h2
 exact hK.out v w' (hI.step hn hp hq hs' hs2 (by unfold dQ;rw[hf];exact h1) h2)
theorem xnew{i:Nat}{o:Oper}{r:List Nat}{di:Option Tmp}{L:List (Option Tmp × Nat)}(hpq:p≠q)(hi:i=p\/i=q)(hsp:s≠p/\s2≠p)(hsq:s≠q/\s2≠q)(hf:F.getD i TFact.any=TFact.any)(ho:ops[i]?=some o)(hdi:ds.getD i none=di)(hL:((ls.getD i []).map fun j=>(ds.getD j none,j))=L)
  (h:∀vs w,∀K:Act->World->Prop,Shut (K ((putl vs L a0).put di (.pointer (some ⟨w.heap.size,0,none⟩))) (w.alloc (.cells old R)))->
   if Region.wanted o (yielded ops (putl vs L a0).tmps)=true then Oper.wp P o (putl vs L a0) w K Q else K ((putl vs L a0).put o.dst undef) w)
  (hs:StepsI P ops Q a0 (dstOf ds) (depOf ls) (bK w1 F p q s e s2 e2) r):StepsI P ops Q a0 (dstOf ds) (depOf ls) (bK w1 F p q s e s2 e2) (i::r):=by
 refine jN ho hdi hL (fun l vs w hI hn hd K hK=>h vs w K ?_) hs
 have fa:∀v u,dQ F i v u:=fun v u=>by unfold dQ;rw[hf];trivial
 rcases hi with rfl | rfl
 ·exact hK.out _ _ (hI.newp hn hpq hsp.1 hsp.2 fa)
 ·exact hK.out _ _ (hI.newq hn hpq hsq.1 hsq.2 fa)
theorem xsto{o:Oper}{r:List Nat}{di:Option Tmp}{L:List (Option Tmp × Nat)}(h22:s2≠s)(hp:p ∈ ls.getD s [])(hq:q ∈ ls.getD s [])(he:e ∈ ls.getD s [])(hf:F.getD s TFact.any=TFact.any)(ho:ops[s]?=some o)(hdi:ds.getD s none=di)(hL:((ls.getD s []).map fun j=>(ds.getD j none,j))=L)
  (h:∀vs w,Below w1.heap.size w1 w->(∀j ∈ ls.getD s [],dQ F j (vs j) w)->∀g,vs p= .pointer (some ⟨g,0,none⟩)->Bo w g old R->∀K:Act->World->Prop,Shut (∀v w' cs,vs e= .agg cs->ae w w' g old cs R->K ((putl vs L a0).put di v) w')->
   if Region.wanted o (yielded ops (putl vs L a0).tmps)=true then Oper.wp P o (putl vs L a0) w K Q else K ((putl vs L a0).put o.dst undef) w)
  (hs:StepsI P ops Q a0 (dstOf ds) (depOf ls) (bK w1 F p q s e s2 e2) r):StepsI P ops Q a0 (dstOf ds) (depOf ls) (bK w1 F p q s e s2 e2) (s::r):=by
 refine jN ho hdi hL (fun l vs w hI hn hd K hK=>?_) hs
 obtain⟨g,e1,_,X,_⟩:=hI.2.2.2.2.1 (hd p hp)
 refine h vs w hI.1 (fun j hj=>hI.2.1 j (hd j hj)) g e1 (X hn) K ?_
 intro v w' cs h1 h2
 exact hK.out v w' (hI.sto hn h22 (hd p hp) (hd q hq) (hd e he) (fun v u=>by unfold dQ;rw[hf];trivial) e1 h1 h2)
theorem xsto2{o:Oper}{r:List Nat}{di:Option Tmp}{L:List (Option Tmp × Nat)}(h22:s≠s2)(hp:p ∈ ls.getD s2 [])(hq:q ∈ ls.getD s2 [])(he:e2 ∈ ls.getD s2 [])(hf:F.getD s2 TFact.any=TFact.any)(ho:ops[s2]?=some o)(hdi:ds.getD s2 none=di)(hL:((ls.getD s2 []).map fun j=>(ds.getD j none,j))=L)
  (h:∀vs w,Below w1.heap.size w1 w->(∀j ∈ ls.getD s2 [],dQ F j (vs j) w)->∀g,vs q= .pointer (some ⟨g,0,none⟩)->Bo w g old R->∀K:Act->World->Prop,Shut (∀v w' cs,vs e2= .agg cs->ae w w' g old cs R->K ((putl vs L a0).put di v) w')->
   if Region.wanted o (yielded ops (putl vs L a0).tmps)=true then Oper.wp P o (putl vs L a0) w K Q else K ((putl vs L a0).put o.dst undef) w)
  (hs:StepsI P ops Q a0 (dstOf ds) (depOf ls) (bK w1 F p q s e s2 e2) r):StepsI P ops Q a0 (dstOf ds) (depOf ls) (bK w1 F p q s e s2 e2) (s2::r):=by
 refine jN ho hdi hL (fun l vs w hI hn hd K hK=>?_) hs
 obtain⟨g,e1,_,X,_⟩:=hI.2.2.2.2.2.1 (hd q hq)
 refine h vs w hI.1 (fun j hj=>hI.2.1 j (hd j hj)) g e1 (X hn) K ?_
 intro v w' cs h1 h2
 exact hK.out v w' (hI.sto2 hn h22 (hd p hp) (hd q hq) (hd e2 he) (fun v u=>by unfold dQ;rw[hf];trivial) e1 h1 h2)
theorem region_trip{id fuel:Nat}{L:List (Option Tmp × Nat)}(hp:p ∈ T)(hq:q ∈ T)(hs:s ∈ T)(hs2:s2 ∉ T)(hm:P.follows .mixedOrders=true)(hok:ok .any ops T (dstOf ds) (depOf ls) k a0.tmps.size=true)(hnd:T.Nodup)
  (hL:(T.map fun j=>(ds.getD j none,j))=L) (hfu:ops.size-T.length=fuel)
  (step:StepsI P ops (NoPanic Q) a0 (dstOf ds) (depOf ls) (bK w1 F p q s e s2 e2) T)
  (fin:∀vs wj,Below w1.heap.size w1 wj->(∀j ∈ T,dQ F j (vs j) wj)->(∃g g' cs,vs p= .pointer (some ⟨g,0,none⟩)/\vs q= .pointer (some ⟨g',0,none⟩)/\w1.heap.size<=g/\w1.heap.size<=g'/\g≠g'/\vs e= .agg cs/\Bo wj g cs R/\Bo wj g' old R)->
   wpAny P .any ops (NoPanic Q) fuel (mark T ops.size) (putl vs L a0) wj):
  (Code.region id ops true).wp P Q a0 w1:=
 fT (T:=T) (ds:=ds) (ls:=ls) (k:=k) (I:=bK w1 F p q s e s2 e2) hm hok hnd hL hfu bK.nil step (fun l vs wj hl hI=>fin vs wj hI.1 (fun j hj=>hI.2.1 j ((hl j).2 hj)) (hI.all ((hl p).2 hp) ((hl q).2 hq) ((hl s).2 hs) (fun c=>hs2 ((hl s2).1 c))))
theorem region_quad{id fuel:Nat}{L:List (Option Tmp × Nat)}(hp:p ∈ T)(hq:q ∈ T)(hs:s ∈ T)(hs2:s2 ∈ T)(hm:P.follows .mixedOrders=true)(hok:ok .any ops T (dstOf ds) (depOf ls) k a0.tmps.size=true)(hnd:T.Nodup)
  (hL:(T.map fun j=>(ds.getD j none,j))=L) (hfu:ops.size-T.length=fuel)
  (step:StepsI P ops (NoPanic Q) a0 (dstOf ds) (depOf ls) (bK w1 F p q s e s2 e2) T)
  (fin:∀vs wj,Below w1.heap.size w1 wj->(∀j ∈ T,dQ F j (vs j) wj)->(∃g g' cs cs2,vs p= .pointer (some ⟨g,0,none⟩)/\vs q= .pointer (some ⟨g',0,none⟩)/\w1.heap.size<=g/\w1.heap.size<=g'/\g≠g'/\vs e= .agg cs/\vs e2= .agg cs2/\Bo wj g cs R/\Bo wj g' cs2 R)->
   wpAny P .any ops (NoPanic Q) fuel (mark T ops.size) (putl vs L a0) wj):
  (Code.region id ops true).wp P Q a0 w1:=
 fT (T:=T) (ds:=ds) (ls:=ls) (k:=k) (I:=bK w1 F p q s e s2 e2) hm hok hnd hL hfu bK.nil step (fun l vs wj hl hI=>fin vs wj hI.1 (fun j hj=>hI.2.1 j ((hl j).2 hj)) (hI.both ((hl p).2 hp) ((hl q).2 hq) ((hl s).2 hs) ((hl s2).2 hs2)))
end
def fN{old:Array Value}{R:TypeId}(w1:World)(F:List (TFact old R))(g s e:Nat)(l:List Nat)(vs:Nat->Value)(w:World):Prop:=
 ∃nw,Off g nw R w1 w/\(∀j ∈ l,dQ F j (vs j) w)/\(s ∉ l->Bo w g old R)/\(s ∈ l->e ∈ l/\vs e= .agg nw/\Bo w g nw R)
section
variable {old:Array Value} {R:TypeId} {w1 w w':World} {F:List (TFact old R)} {g s e i:Nat} {l:List Nat} {vs:Nat->Value} {v:Value} {cs:Array Value}
theorem fN.nil (X:Bo w1 g old R):fN w1 F g s e [] (fun _=>undef) w1.drew:=⟨old,Off.drew w1,by simp,fun _=>X.keep rfl,by simp⟩
theorem fN.lt (h:fN w1 F g s e l vs w):g < w.heap.size:=by
 obtain⟨nw,h1,h2,a,h4⟩:=h
 by_cases c:s ∈ l
 ·exact(h4 c).2.2.lt
 ·exact(a c).lt
theorem fN.step (h:fN w1 F g s e l vs w)(hn:i ∉ l)(hs:s≠i)(hv:dQ F i v w')(hg:Below w.heap.size w w'):fN w1 F g s e (l ++[i]) (nU vs i v) w':=by
 have hlt:=h.lt;obtain⟨nw,h1,h2,f,h4⟩:=h
 refine⟨nw,h1.trans (Off.of_below hg hlt),bK.facts (bK.grow h2 hg) hv,fun c=>(f (fun d=>c ((am hs).2 d))).below hg,fun c=>?_⟩
 obtain⟨a,b,d⟩:=h4 ((am hs).1 c)
 exact⟨List.mem_append_left _ a,by rw[aK (show e≠i from fun x=>hn (x▸a))];exact b,d.below hg⟩
theorem fN.sto (h:fN w1 F g s e l vs w)(hn:s ∉ l)(me:e ∈ l)(hf:∀v u,dQ F s v u)(he:vs e= .agg cs)(S:ae w w' g old cs R):fN w1 F g s e (l ++[s]) (nU vs s v) w':=by
 obtain⟨nw,h1,h2,a,h4⟩:=h
 have O:Off g cs R w w':=Off.of_stn S
 refine⟨cs,⟨O.os.trans h1.os,O.tape.trans h1.tape,O.output.trans h1.output,Nat.le_trans h1.size O.size,fun k hk hne=>(O.block k (Nat.lt_of_lt_of_le hk h1.size) hne).trans (h1.block k hk hne),.inr S.box⟩,bK.facts (fun j hj=>(F.getD j TFact.any).stn _ _ _ _ _ (h2 j hj) S) (hf _ _),fun c=>absurd (by simp) c,fun _=>⟨List.mem_append_left _ me,?_,S.box⟩⟩
 rw[aK (show e≠s from fun c=>hn (c▸me))]
 exact he
end
section
variable {P:Program} {ops:Array Oper} {Q:Exit->Act->World->Prop} {a0:Act} {T:List Nat} {ds:List (Option Tmp)} {ls:List (List Nat)} {k:Nat} {old:Array Value} {R:TypeId} {F:List (TFact old R)} {w1:World} {g s e:Nat}
theorem ocons{i:Nat}{o:Oper}{r:List Nat}{di:Option Tmp}{L:List (Option Tmp × Nat)}{f:TFact old R}(hs':s≠i)(ho:ops[i]?=some o)(hdi:ds.getD i none=di)(hL:((ls.getD i []).map fun j=>(ds.getD j none,j))=L)(hf:F.getD i TFact.any=f)
  (h:∀vs w nw,Off g nw R w1 w->(∀j ∈ ls.getD i [],dQ F j (vs j) w)->∀K:Act->World->Prop,Shut (∀v w',f.P v w'->Grow w w'->K ((putl vs L a0).put di v) w')->
   if Region.wanted o (yielded ops (putl vs L a0).tmps)=true then Oper.wp P o (putl vs L a0) w K Q else K ((putl vs L a0).put o.dst undef) w)
  (hs:StepsI P ops Q a0 (dstOf ds) (depOf ls) (fN w1 F g s e) r):StepsI P ops Q a0 (dstOf ds) (depOf ls) (fN w1 F g s e) (i::r):=by
 refine jN ho hdi hL (fun l vs w hI hn hd K hK=>?_) hs
 obtain⟨nw,h1,h2,a,h4⟩:=hI
 refine h vs w nw h1 (fun j hj=>h2 j (hd j hj)) K ?_
 intro v w' e1 e2
 exact hK.out v w' (fN.step ⟨nw,h1,h2,a,h4⟩ hn hs' (by unfold dQ;rw[hf];exact e1) e2)
theorem osto{o:Oper}{r:List Nat}{di:Option Tmp}{L:List (Option Tmp × Nat)}(he:e ∈ ls.getD s [])(hf:F.getD s TFact.any=TFact.any)(ho:ops[s]?=some o)(hdi:ds.getD s none=di)(hL:((ls.getD s []).map fun j=>(ds.getD j none,j))=L)
  (h:∀vs w,(∀j ∈ ls.getD s [],dQ F j (vs j) w)->Bo w g old R->∀K:Act->World->Prop,Shut (∀v w' cs,vs e= .agg cs->ae w w' g old cs R->K ((putl vs L a0).put di v) w')->
   if Region.wanted o (yielded ops (putl vs L a0).tmps)=true then Oper.wp P o (putl vs L a0) w K Q else K ((putl vs L a0).put o.dst undef) w)
  (hs:StepsI P ops Q a0 (dstOf ds) (depOf ls) (fN w1 F g s e) r):StepsI P ops Q a0 (dstOf ds) (depOf ls) (fN w1 F g s e) (s::r):=by
 refine jN ho hdi hL (fun l vs w hI hn hd K hK=>?_) hs
 obtain⟨nw,h1,h2,a,h4⟩:=hI
 refine h vs w (fun j hj=>h2 j (hd j hj)) (a hn) K ?_
 intro v w' cs e1 e2
 exact hK.out v w' (fN.sto ⟨nw,h1,h2,a,h4⟩ hn (hd e he) (fun v u=>by unfold dQ;rw[hf];trivial) e1 e2)
theorem region_lone{id fuel:Nat}{L:List (Option Tmp × Nat)}(X:Bo w1 g old R)(hs:s ∈ T)(hm:P.follows .mixedOrders=true)(hok:ok .any ops T (dstOf ds) (depOf ls) k a0.tmps.size=true)(hnd:T.Nodup)
  (hL:(T.map fun j=>(ds.getD j none,j))=L) (hfu:ops.size-T.length=fuel)
  (step:StepsI P ops (NoPanic Q) a0 (dstOf ds) (depOf ls) (fN w1 F g s e) T)
  (fin:∀vs wj cs,Off g cs R w1 wj->(∀j ∈ T,dQ F j (vs j) wj)->vs e= .agg cs->Bo wj g cs R->
   wpAny P .any ops (NoPanic Q) fuel (mark T ops.size) (putl vs L a0) wj):
  (Code.region id ops true).wp P Q a0 w1:=
 fT (T:=T) (ds:=ds) (ls:=ls) (k:=k) (I:=fN w1 F g s e) hm hok hnd hL hfu (fN.nil X) step (fun l vs wj hl hI=>by
  obtain⟨nw,h1,h2,c,h4⟩:=hI;obtain⟨_,a,b⟩:=h4 ((hl s).2 hs)
  exact fin vs wj nw h1 (fun j hj=>h2 j ((hl j).2 hj)) a b)
