/-
 Contracts that the proof rests on.
-/
import Derived.Test.YtomikokonmikgaaGreatDoorYPap
namespace Go.Proofs.YtomikokonmikgaaGreatDoor
set_option maxHeartbeats 2000000
open Go.RowKit
set_option linter.unusedVariables false
theorem rnd_exact{P:Int × Int}(hP:Nf P){r:Int}(up:Bool)(h1: -19342822337206103650074625 < r)(h2:r < 19342822337206103650074625)(h:vl P=vr r):rnd up P.1 P.2=r:=by
 obtain⟨a,b⟩:=rnd_spec hP;rw[h]at a b
 cases up
 ·exact a.uniq (dn_self h1 h2)
 ·exact b.uniq (up_self h1 h2)
theorem opl_pos{n:Int}(h:0 < n)(h1:n<=9223372036854775807):0 < opl n/\opl n < 19342822337206103650074625:=by
 have e:opl n=lo n.natAbs 0:=by
  unfold opl
  rw[df (show ¬n < 0 by omega)]
  exact if_neg (by decide)
 have hc:=opl_cmp (a:=n) (b:=0) (by omega) h1 (by decide) (by decide);rw[opl_zero,cmpI_gt h]at hc
 have:=(lo_bd n.natAbs 0).2
 rw[<-e]at this;refine⟨?_,by omega⟩
 rcases cmpI_tri (opl n) 0 with⟨a,b⟩ | ⟨a,b⟩ | ⟨a,b⟩
 ·rw[b]at hc;exact absurd hc (by decide)
 ·rw[b]at hc;exact absurd hc (by decide)
 ·exact a
theorem infp_fin{x:Int}(h1: -19342822337206103650074625 < x)(h2:x < 19342822337206103650074625):infp x=false:=by
 cases h:infp x
 ·rfl
 ·have:=infp_true h;omega
theorem vp_shift{r:Int}(h:0 < r):vp (r+9223372036854775808)=vp r*2:=by
 unfold vp
 rw[if_neg (by omega),if_neg (by omega)]
 have e1:(r+9223372036854775808-1)%9223372036854775808=(r-1)%9223372036854775808:=by omega
 have e2:((r+9223372036854775808-1) /9223372036854775808-1048576+(KK:Int)).toNat=((r-1) /9223372036854775808-1048576+(KK:Int)).toNat+1:=by
  rw[KK_eq]
  omega
 rw[e1,e2,Int.pow_succ,Int.mul_assoc]
theorem vr_shift{r:Int}(h:0 < r):vr (r+9223372036854775808)=vr r*2:=by
 unfold vr
 rw[if_neg (by omega),if_neg (by omega),vp_shift h]
theorem tight{P:Int × Int}(hP:Nf P)(h1:vr (-19342822337206103650074624)<=vl P)(h2:vl P<=vr 19342822337206103650074624):
  ∃r r',rnd false P.1 P.2=r/\rnd true P.1 P.2=r'/\ -19342822337206103650074625 < r/\r < 19342822337206103650074625/\ -19342822337206103650074625 < r'/\r' < 19342822337206103650074625/\((r'=r/\vr r=vl P)\/(r'=r+1/\vr r < vl P/\vl P < vr r')):=by
 obtain⟨a,b⟩:=rnd_spec hP;refine⟨_,_,rfl,rfl,?_⟩
 revert a b
 generalize rnd false P.1 P.2=r;generalize rnd true P.1 P.2=r'
 intro a b
 have lo1:=(dn_self (r:= -19342822337206103650074624) (by decide) (by decide)).mono a h1;have hi1:=b.mono (up_self (r:=19342822337206103650074624) (by decide) (by decide)) h2;obtain⟨a1,a2,a3,a4⟩:=a;obtain⟨b1,b2,b3,b4⟩:=b;have c1:=a3 (by omega);have n1:=vr_neg r'
 have c2:vl P<=vr r':=by
  have:=b3 (by omega)
  omega
 have hrr:r<=r':=by
  rcases Int.lt_or_le r' r with q | q
  ·have:=vr_lt q;omega
  ·exact q
 by_cases e:vr r=vl P
 ·have hu:Up (vl P) r:=e▸up_self (by omega) (by omega)
  have:=hu.uniq (show Up (vl P) r' from ⟨b1,b2,b3,b4⟩)
  subst this;exact⟨by omega,by omega,by omega,by omega,.inl ⟨rfl,e⟩⟩
 ·have hlt:vr r < vl P:=by omega
  have hne:r≠r':=fun c=>by rw[<-c]at c2;omega
  have c3:=a4 (by omega);have n2:=vr_neg (r' - 1)
  have c4:r'<=r+1:=by
   rcases Int.lt_or_le (r+1) r' with q | q
   ·have:=b4 (by omega)
    rw[show -r'+1= -(r' - 1) by omega]at this
    have:=vr_le (show r+1<=r' - 1 by omega)
    omega
   ·exact q
  obtain rfl:r'=r+1:=by omega
  exact⟨by omega,by omega,by omega,by omega,.inr ⟨rfl,hlt,c3⟩⟩
theorem addp_spec{x y:Int}(up:Bool)(x1: -19342822337206103650074625 < x)(x2:x < 19342822337206103650074625)(y1: -19342822337206103650074625 < y)(y2:y < 19342822337206103650074625):Dn (vr x+vr y) (addp false x y)/\Up (vr x+vr y) (addp true x y):=by
 obtain⟨n,v⟩:=sum_spec x1 x2 y1 y2;obtain⟨a,b⟩:=rnd_spec n;rw[v]at a b;rw[addp_ff _ (infp_fin x1 x2) (infp_fin y1 y2),addp_ff _ (infp_fin x1 x2) (infp_fin y1 y2)];exact⟨a,b⟩
abbrev Sp:=Option (Int × Int)
def mkI (a b:Int):Sp:=if a<=b/\a < 19342822337206103650074625/\ -19342822337206103650074625 < b then some (a,b)else none
def SpOk:Sp->Prop
 | none=>True
 | some (a,b)=> -19342822337206103650074625<=a/\a<=b/\b<=19342822337206103650074625/\a < 19342822337206103650074625/\ -19342822337206103650074625 < b
theorem mkI_some{a b:Int}(h:a<=b)(h1:a < 19342822337206103650074625)(h2: -19342822337206103650074625 < b):mkI a b=some (a,b):=by
 unfold mkI
 rw[if_pos ⟨h,h1,h2⟩]
theorem mkI_none{a b:Int}(h:¬(a<=b/\a < 19342822337206103650074625/\ -19342822337206103650074625 < b)):mkI a b=none:=by
 unfold mkI
 rw[if_neg h]
theorem mkI_ok{a b:Int}(h1: -19342822337206103650074625<=a)(h2:b<=19342822337206103650074625):SpOk (mkI a b):=by
 by_cases h:a<=b/\a < 19342822337206103650074625/\ -19342822337206103650074625 < b
 ·rw[mkI_some h.1 h.2.1 h.2.2];exact⟨h1,h.1,h2,h.2.1,h.2.2⟩
 ·rw[mkI_none h];exact trivial
def meetI:Sp->Sp->Sp
 | some (a,b),some (c,d)=>mkI (max a c) (min b d)
 | _,_=>none
def hullI:Sp->Sp->Sp
 | none,y=>y
 | x,none=>x
 | some (a,b),some (c,d)=>mkI (min a c) (max b d)
def allI:Sp:=some (-19342822337206103650074625,19342822337206103650074625)
def hasI (x:Sp)(n:Int):Bool:=
 match x with
 | none=>false
 | some (a,b)=>!infp n && decide (a<=n) && decide (n<=b)
def witI:Sp->Sp->Bool
 | none,_=>true
 | some _,none=>false
 | some (a,b),some (c,d)=>decide (c<=a) && decide (b<=d)
def widI:Sp->Int
 | none=>0
 | some (a,b)=>addp true b (-a)
def meetL (l:List Sp):Sp:=l.foldl meetI allI
def hullL (l:List Sp):Sp:=l.foldl hullI none
theorem meetI_none (x:Sp):meetI x none=none:=by cases x <;> rfl
theorem hullI_none (x:Sp):hullI x none=x:=by cases x <;> rfl
theorem hullI_ok{x y:Sp}(hx:SpOk x)(hy:SpOk y):SpOk (hullI x y):=by
 rcases x with _ | ⟨a,b⟩
 ·exact hy
 ·rcases y with _ | ⟨c,d⟩
  ·exact hx
  ·obtain⟨h1,h2,h3,h4,h5⟩:=hx;obtain⟨k1,k2,k3,k4,k5⟩:=hy;exact mkI_ok (by omega) (by omega)
theorem hullI_some{a b c d:Int}(hx:SpOk (some (a,b)))(hy:SpOk (some (c,d))):hullI (some (a,b)) (some (c,d))=some (min a c,max b d):=by
 obtain⟨h1,h2,h3,h4,h5⟩:=hx;obtain⟨k1,k2,k3,k4,k5⟩:=hy;exact mkI_some (by omega) (by omega) (by omega)
theorem all_ok:SpOk allI:=⟨by decide,by decide,by decide,by decide,by decide⟩
theorem meet_cases (a b c d:Int):(meetI (some (a,b)) (some (c,d))=none/\¬(max a c<=min b d/\max a c < 19342822337206103650074625/\ -19342822337206103650074625 < min b d))\/(meetI (some (a,b)) (some (c,d))=some (max a c,min b d)/\max a c<=min b d):=by
 by_cases h:max a c<=min b d/\max a c < 19342822337206103650074625/\ -19342822337206103650074625 < min b d
 ·exact .inr ⟨mkI_some h.1 h.2.1 h.2.2,h.1⟩
 ·exact .inl ⟨mkI_none h,h⟩
theorem meet_comm (x y:Sp):meetI x y=meetI y x:=by
 rcases x with _ | ⟨a,b⟩
 ·rw[meetI_none];rfl
 ·rcases y with _ | ⟨c,d⟩
  ·rfl
  ·show mkI _ _=mkI _ _
   rw[show max a c=max c a by omega,show min b d=min d b by omega]
theorem hull_comm{x y:Sp}:hullI x y=hullI y x:=by
 rcases x with _ | ⟨a,b⟩ <;> rcases y with _ | ⟨c,d⟩
 ·rfl
 ·rfl
 ·rfl
 ·show mkI _ _=mkI _ _
  rw[show min a c=min c a by omega,show max b d=max d b by omega]
theorem wit_is_meet{x y:Sp}(hx:SpOk x)(hy:SpOk y):witI x y=true↔meetI x y=x:=by
 rcases x with _ | ⟨a,b⟩
 ·exact⟨fun _=>rfl,fun _=>rfl⟩
 ·rcases y with _ | ⟨c,d⟩
  ·exact⟨fun h=>(by cases h),fun h=>(by cases h)⟩
  ·obtain⟨h1,h2,h3,h4,h5⟩:=hx;obtain⟨k1,k2,k3,k4,k5⟩:=hy
   rcases meet_cases a b c d with⟨e,h⟩ | ⟨e,h⟩ <;> rw[e] <;> simp[witI] <;> omega
theorem meet_all{x:Sp}(hx:SpOk x):meetI allI x=x:=by
 rw[meet_comm];refine(wit_is_meet hx all_ok).1 ?_
 rcases x with _ | ⟨a,b⟩
 ·rfl
 ·obtain⟨h1,h2,h3,h4,h5⟩:=hx
  simp[witI,allI]
  omega
theorem hull_assoc{x y z:Sp}(hx:SpOk x)(hy:SpOk y)(hz:SpOk z):hullI (hullI x y) z=hullI x (hullI y z):=by
 rcases x with _ | ⟨a,b⟩
 ·rfl
 ·rcases y with _ | ⟨c,d⟩
  ·rfl
  ·rcases z with _ | ⟨e,f⟩
   ·rw[hullI_none,hullI_none]
   ·have e1:=hullI_some hx hy;have o1:=hullI_ok hx hy;have e2:=hullI_some hy hz;have o2:=hullI_ok hy hz;rw[e1]at o1|-;rw[e2]at o2|-;rw[hullI_some o1 hz,hullI_some hx o2]
    rw[show min (min a c) e=min a (min c e) by omega,show max (max b d) f=max b (max d f) by omega]
theorem wsg_f (x:Int):sgi false x=x:=if_neg (by decide)
theorem wsg_t (x:Int):sgi true x= -x:=if_pos rfl
theorem Dn.sep{A B a b r:Int}(h:Dn A r)(hA1:a < A)(hA2:A < b)(hB1:a < B)(hB2:B < b)(hs:∀s,¬(a < vr s/\vr s < b)):Dn B r:=by
 obtain⟨h1,h2,h3,h4⟩:=h
 refine⟨h1,h2,fun k=>?_,fun k=>?_⟩
 ·have:=h3 k
  have:=hs r
  omega
 ·have:=h4 k
  have:=hs (r+1)
  omega
theorem sep_rnd{P Q:Int × Int}(up:Bool)(hP:Nf P)(hQ:Nf Q){a b:Int}(hA1:a < vl P)(hA2:vl P < b)(hB1:a < vl Q)(hB2:vl Q < b)(hs:∀s,¬(a < vr s/\vr s < b)):rnd up P.1 P.2=rnd up Q.1 Q.2:=by
 obtain⟨p1,p2⟩:=rnd_spec hP;obtain⟨q1,q2⟩:=rnd_spec hQ
 cases up
 ·exact(p1.sep hA1 hA2 hB1 hB2 hs).uniq q1
 ·refine Up.uniq (X:=vl Q) ?_ q2
  refine Dn.sep (a:= -b) (b:= -a) p2 (by omega) (by omega) (by omega) (by omega) (fun s=>?_)
  have:=hs (-s)
  rw[vr_neg]at this
  omega
theorem eq_rnd{P Q:Int × Int}(up:Bool)(hP:Nf P)(hQ:Nf Q)(h:vl P=vl Q):rnd up P.1 P.2=rnd up Q.1 Q.2:=by
 have a:=rnd_monoA hP hQ (Int.le_of_eq h) up;have b:=rnd_monoA hQ hP (Int.le_of_eq h.symm) up;exact Int.le_antisymm a b
theorem sep_sgi{P Q:Int × Int}{s:Bool}{A B a b:Int}(up:Bool)(hP:Nf P)(hQ:Nf Q)(eP:vl P=sgi s A)(eQ:vl Q=sgi s B)(hA1:a < A)(hA2:A < b)(hB1:a < B)(hB2:B < b)(hs:∀s,¬(a < vr s/\vr s < b)):rnd up P.1 P.2=rnd up Q.1 Q.2:=by
 cases s
 ·rw[wsg_f]at eP eQ;exact sep_rnd up hP hQ (a:=a) (b:=b) (by omega) (by omega) (by omega) (by omega) hs
 ·rw[wsg_t]at eP eQ
  refine sep_rnd up hP hQ (a:= -b) (b:= -a) (by omega) (by omega) (by omega) (by omega) (fun t=>?_)
  have:=hs (-t)
  rw[vr_neg]at this
  omega
theorem mk_vl{z e:Int}(h:z.natAbs < 2^128)(h1: -3000000<=e)(h2:e<=3000000):vl (mk z e)=z*2^(e+KK).toNat:=by
 obtain⟨η,hη⟩:∃η:Nat,η=4000000:=⟨_,rfl⟩;refine(mk_fit (h:=η) (by omega) (by omega) ?_).2
 have:=Nat.mul_lt_mul_of_pos_right h (Nat.pow_pos (n:=(e+(η:Int)).toNat) (show 0 < 2 by decide))
 rw[<-Nat.pow_add]at this;exact Nat.lt_of_lt_of_le this (Nat.pow_le_pow_right (by decide) (by omega))
theorem no_place{i:Int}{u:Nat}(hi:21267647932558653966460912964485513216<=i)(s:Int):¬(2*i*2^u < vr s/\vr s < (2*i+2)*2^u):=by
 rintro ⟨h1,h2⟩;have hu:=p2pos u
 have hpos:0 < vr s:=Int.lt_of_le_of_lt (Int.mul_nonneg (by omega) (Int.le_of_lt hu)) h1
 have hs:0 < s:=by
  rcases Int.lt_or_le 0 s with q | q
  ·exact q
  ·exfalso
   have:=vr_le q
   rw[show vr 0=0 from rfl]at this
   omega
 have e0:vr s=((s-1)%9223372036854775808+9223372036854775808)*2^((s-1) /9223372036854775808-1048576+KK).toNat:=by
  unfold vr vp
  rw[if_neg (by omega),if_neg (by omega)]
 obtain⟨M,hM⟩:∃M,(s-1)%9223372036854775808+9223372036854775808=M:=⟨_,rfl⟩;obtain⟨t,ht⟩:∃t,((s-1) /9223372036854775808-1048576+(KK:Int)).toNat=t:=⟨_,rfl⟩;rw[hM,ht]at e0
 have hMl:M < 18446744073709551616:=by omega
 rw[e0]at h1 h2;clear e0 hM ht hs hpos
 rcases Nat.lt_or_ge u t with q | q
 ·obtain⟨d,rfl⟩:∃d,t=u+1+d:=⟨t-(u+1),by omega⟩
  have e1:M*2^(u+1+d)=M*2^d*2*2^u:=by
   rw[Int.pow_add,Int.pow_succ];generalize (2:Int)^u=U;generalize (2:Int)^d=D;rw[Int.mul_assoc M D 2,Int.mul_assoc M,Int.mul_comm U 2,Int.mul_comm (2*U) D,Int.mul_assoc D 2 U]
  rw[e1]at h1 h2;have a1:=Int.lt_of_mul_lt_mul_right h1 (Int.le_of_lt hu);have a2:=Int.lt_of_mul_lt_mul_right h2 (Int.le_of_lt hu)
  omega
 ·obtain⟨d,rfl⟩:∃d,u=t+d:=⟨u-t,by omega⟩
  have ht:=p2pos t;have hd:=p2pos d;rw[Int.pow_add]at h1
  have l1:(2:Int)^t*1<=2^t*2^d:=Int.mul_le_mul_of_nonneg_left hd (Int.le_of_lt ht)
  rw[Int.mul_one]at l1
  have l2:2*i*(2:Int)^t<=2*i*(2^t*2^d):=Int.mul_le_mul_of_nonneg_left l1 (by omega)
  have a1:=Int.lt_of_mul_lt_mul_right (Int.lt_of_le_of_lt l2 h1) (Int.le_of_lt ht)
  omega
def mvd (M:Int)(n:Nat):Int:=if n<=64 then M*2^(64-n)else if M%2^(n-64)=0 then M/2^(n-64)else M/2^(n-64) /2*2+1
theorem p2_le{a b:Nat}(h:a<=b):(2:Int)^a<=2^b:=by
 have:=Nat.pow_le_pow_right (show 0 < 2 by decide) h
 exact_mod_cast this
theorem div_le_self{M p:Int}(h0:0<=M)(hp:0 < p):0<=M/p/\M/p<=M:=⟨Int.ediv_nonneg h0 (Int.le_of_lt hp),Int.ediv_le_self _ h0⟩
theorem mvd_bd{M:Int}{n:Nat}(h0:0<=M)(hM:LQ M)(hn:1<=n):0<=mvd M n/\mvd M n<=M*9223372036854775808+1/\mvd M n < 170141183460469231731687303715884105728/\(2<=n->mvd M n < 85070591730234615865843651857942052864):=by
 unfold mvd
 by_cases h:n<=64
 ·rw[if_pos h]
  have l1:=p2_le (show 64-n<=63 by omega)
  have l0:=p2pos (64-n);have a1:=Int.mul_le_mul_of_nonneg_left l1 h0
  rw[show (2:Int)^63=9223372036854775808 by decide]at a1
  refine⟨Int.mul_nonneg h0 (Int.le_of_lt l0),by omega,by omega,fun h2=>?_⟩
  have l2:=p2_le (show 64-n<=62 by omega)
  have a2:=Int.mul_le_mul_of_nonneg_left l2 h0
  rw[show (2:Int)^62=4611686018427387904 by decide]at a2
  omega
 ·rw[if_neg h];obtain⟨b1,b2⟩:=div_le_self h0 (p2pos (n-64))
  revert b1 b2
  generalize M/2^(n-64)=q
  intro b1 b2
  by_cases hr:M%2^(n-64)=0
  ·rw[if_pos hr]
   refine⟨by omega,by omega,by omega,fun _=>by omega⟩
  ·rw[if_neg hr]
   refine⟨by omega,by omega,by omega,fun _=>by omega⟩
theorem fq_vr{s:Bool}{M E x:Int}(q:Fq 1 s M E x):9223372036854775808<=M/\M < 18446744073709551616/\ -1048576<=E/\E<=1048576/\ -19342822337206103650074625 < x/\x < 19342822337206103650074625/\x≠0/\vr x=sgi s (M*2^(E+KK).toNat)/\decide (x < 0)=s:=by
 rcases q.cases with⟨c,_⟩ | ⟨_,h1,h2,h3,h4,h5⟩ | ⟨c,_⟩
 ·exact absurd c (by decide)
 ·have hv:=vp_fin h1 h2 h3
  have hx:x=sgi s (M-9223372036854775808+1+(E+1048576)*9223372036854775808):=by
   rcases h5 with⟨rfl,h5⟩ | ⟨rfl,h5⟩
   ·rw[wsg_f];omega
   ·rw[wsg_t];omega
  have hw:vr x=sgi s (M*2^(E+KK).toNat):=by
   rw[hx,vp_vr s (by omega),hv]
  refine⟨h1,h2,h3,h4,?_,?_,?_,hw,?_⟩
  ·rcases h5 with⟨_,h5⟩ | ⟨_,h5⟩ <;> omega
  ·rcases h5 with⟨_,h5⟩ | ⟨_,h5⟩ <;> omega
  ·rcases h5 with⟨_,h5⟩ | ⟨_,h5⟩ <;> omega
  ·rcases h5 with⟨rfl,h5⟩ | ⟨rfl,h5⟩
   ·exact df (by omega)
   ·exact dt (by omega)
 ·exact absurd c (by decide)
theorem sgi_add (s t:Bool)(x y:Int):sgi s x+sgi t y=sgi s (x+sgi (s !=t) y):=by
 cases s <;> cases t
 ·rw[show (false !=false)=false from rfl,wsg_f,wsg_f,wsg_f]
 ·rw[show (false !=true)=true from rfl,wsg_f,wsg_t,wsg_f]
 ·rw[show (true !=false)=true from rfl,wsg_t,wsg_f,wsg_t,wsg_t];omega
 ·rw[show (true !=true)=false from rfl,wsg_t,wsg_t,wsg_f,wsg_t];omega
theorem sgi_abs (s:Bool){S:Int}(h:0<=S):(sgi s S).natAbs=S.toNat:=by
 cases s
 ·rw[wsg_f];omega
 ·rw[wsg_t];omega
theorem sum_wide{s1 s2:Bool}{M1 M2 E1 E2 x y S:Int}{n:Nat}(up:Bool)(q1:Fq 1 s1 M1 E1 x)(q2:Fq 1 s2 M2 E2 y)(h:E2 < E1\/E2=E1/\M2<=M1)(hn:(n:Int)=E1-E2+1)(hS:S=M1*9223372036854775808+sgi (s1 !=s2) (mvd M2 n)):
  0<=S/\S < 340282366920938463463374607431768211456/\rnd up (mk (sgi s1 S) (E1-63)).1 (mk (sgi s1 S) (E1-63)).2=addp up x y:=by
 obtain⟨a1,a2,a3,a4,a5,a6,a7,a8,a9⟩:=fq_vr q1;obtain⟨b1,b2,b3,b4,b5,b6,b7,b8,b9⟩:=fq_vr q2;obtain⟨m0,m1,m2,m3⟩:=mvd_bd (M:=M2) (n:=n) (by omega) b2 (by omega);have hk:=KK_eq
 have hone:n=1->mvd M2 n=M2*9223372036854775808:=by
  rintro rfl
  unfold mvd
  rw[if_pos (by decide)]
  rfl
 have hS0:0<=S/\S < 340282366920938463463374607431768211456:=by
  rw[hS]
  cases hs:s1 !=s2
  ·rw[wsg_f];omega
  ·rw[wsg_t]
   by_cases c:n=1
   ·have:=hone c
    omega
   ·have:=m3 (by omega)
    omega
 refine⟨hS0.1,hS0.2,?_⟩;rw[addp_ff up (infp_fin a5 a6) (infp_fin b5 b6)];obtain⟨nf,ev⟩:=sum_spec a5 a6 b5 b6;have nfP:=mk_nf (sgi s1 S) (E1-63);have evP:=mk_vl (z:=sgi s1 S) (e:=E1-63) (by rw[sgi_abs s1 hS0.1];omega) (by omega) (by omega);obtain⟨u,hu⟩:∃u:Nat,(E1-63+(KK:Int)).toNat=u:=⟨_,rfl⟩;obtain⟨v,hv⟩:∃v:Nat,(E2+(KK:Int)).toNat=v:=⟨_,rfl⟩
 have e1:(E1+(KK:Int)).toNat=63+u:=by omega
 rw[hu]at evP
 rw[e1,Int.pow_add,show (2:Int)^63=9223372036854775808 by decide,<-Int.mul_assoc]at a8
 rw[hv]at b8;rw[a8,b8,sgi_add]at ev;rw[sgi_mul,hS,Int.add_mul,sgi_mul]at evP;rw[hS];rw[hS]at nfP
 by_cases c:n<=64
 ·have e2:mvd M2 n*2^u=M2*2^v:=by
   unfold mvd
   rw[if_pos c,Int.mul_assoc,<-Int.pow_add]
   congr 2
   omega
  exact eq_rnd up nfP nf (by rw[evP,ev,e2])
 ·have ek:u=v+(n-64):=by omega
  by_cases hr:M2%2^(n-64)=0
  ·have e2:mvd M2 n*2^u=M2*2^v:=by
    unfold mvd
    rw[if_neg c,if_pos hr,ek,Int.pow_add,Int.mul_comm (2^v),<-Int.mul_assoc]
    congr 1
    exact Int.ediv_mul_cancel (Int.dvd_of_emod_eq_zero hr)
   exact eq_rnd up nfP nf (by rw[evP,ev,e2])
  ·have hm:mvd M2 n=M2/2^(n-64) /2*2+1:=by
    unfold mvd
    rw[if_neg c,if_neg hr]
   have hd:=Int.mul_ediv_add_emod M2 (2^(n-64));have hp:=p2pos (n-64);have r0:=Int.emod_nonneg M2 (Int.ne_of_gt hp);have r1:=Int.emod_lt_of_pos M2 hp
   obtain⟨d1,d2⟩:=div_le_self (show 0<=M2 by omega) hp
   have hpv:=p2pos v;have hpu:=p2pos u;rw[hm]at evP nfP|-;rw[hm]at m0 m1;clear hone hS0 m2 m3 hS hm;generalize M2%2^(n-64)=r at hd r0 r1 hr;generalize M2/2^(n-64)=q at hd d1 d2 evP nfP m0 m1|-
   have hU:(2:Int)^u=2^(n-64)*2^v:=by rw[ek,Int.pow_add,Int.mul_comm]
   obtain⟨j,hj⟩:∃j,q/2=j:=⟨_,rfl⟩;rw[hj]at evP nfP m0 m1|-
   -- the exact one lies between 2 j and 2 j+2
   have y1:2*j*2^u < M2*2^v:=by
    rw[hU,<-Int.mul_assoc];refine Int.mul_lt_mul_of_pos_right ?_ hpv
    have l1:2*j*2^(n-64)<=q*2^(n-64):=Int.mul_le_mul_of_nonneg_right (by omega) (Int.le_of_lt hp)
    rw[Int.mul_comm q]at l1
    omega
   have y2:M2*2^v < (2*j+2)*2^u:=by
    rw[hU,<-Int.mul_assoc];refine Int.mul_lt_mul_of_pos_right ?_ hpv
    have l1:(q+1)*2^(n-64)<=(2*j+2)*2^(n-64):=Int.mul_le_mul_of_nonneg_right (by omega) (Int.le_of_lt hp)
    rw[Int.add_mul,Int.one_mul,Int.mul_comm q]at l1
    omega
   have z1:2*j*2^u < (j*2+1)*2^u:=Int.mul_lt_mul_of_pos_right (by omega) hpu
   have z2:(j*2+1)*2^u < (2*j+2)*2^u:=Int.mul_lt_mul_of_pos_right (by omega) hpu
   revert y1 y2 z1 z2 ev evP
   generalize M2*2^v=Y;generalize hZ:(j*2+1)*2^u=Z
   intro ev evP y1 y2 z1 z2
   cases hs:s1 !=s2
   ·rw[hs]at ev evP nfP;rw[wsg_f]at ev nfP|-;rw[wsg_f,wsg_f]at evP
    have f1:2*(M1*4611686018427387904+j)*2^u=M1*9223372036854775808*2^u+2*j*2^u:=by rw[<-Int.add_mul];congr 1;omega
    have f2:(2*(M1*4611686018427387904+j)+2)*2^u=M1*9223372036854775808*2^u+(2*j+2)*2^u:=by rw[<-Int.add_mul];congr 1;omega
    refine sep_sgi up nfP nf evP ev (a:=2*(M1*4611686018427387904+j)*2^u) (b:=(2*(M1*4611686018427387904+j)+2)*2^u) ?_ ?_ ?_ ?_ (no_place (by omega))
    ·rw[f1];omega
    ·rw[f2];omega
    ·rw[f1];omega
    ·rw[f2];omega
   ·rw[hs]at ev evP nfP;rw[wsg_t]at ev nfP|-;rw[wsg_t,wsg_t]at evP
    have f1:2*(M1*4611686018427387904-j-1)*2^u=M1*9223372036854775808*2^u-(2*j+2)*2^u:=by rw[<-Int.sub_mul];congr 1;omega
    have f2:(2*(M1*4611686018427387904-j-1)+2)*2^u=M1*9223372036854775808*2^u-2*j*2^u:=by rw[<-Int.sub_mul];congr 1;omega
    refine sep_sgi up nfP nf evP ev (a:=2*(M1*4611686018427387904-j-1)*2^u) (b:=(2*(M1*4611686018427387904-j-1)+2)*2^u) ?_ ?_ ?_ ?_ (no_place (by omega))
    ·rw[f1];omega
    ·rw[f2];omega
    ·rw[f1];omega
    ·rw[f2];omega
theorem raise_top{h l:Nat}(h0:h≠0)(hh:h < 18446744073709551616):
  blen (h*18446744073709551616+l)=64+blen h\/18446744073709551616<=l:=by
 rcases Nat.lt_or_ge l 18446744073709551616 with hl | hl
 ·left
  have:=blen_shift (h*18446744073709551616+l) 64 (by omega)
  rw[this]
  congr 2
  omega
 ·exact .inr hl
def Ra (S:Nat)(F T K X:Int):Prop:=0<=T/\T < 18446744073709551616/\0<=K/\K < 18446744073709551616/\T=(tp S:Nat)/\(S≠0->X=xp S F/\(K=0↔tp S*2^blen S=S*2^64))
theorem ra_low{l:Nat}{e:Int}(hl:l < 18446744073709551616):Ra l (e-64) ((l*2^(64-blen l):Nat):Int) 0 (e-64-(64-(blen l:Int))):=by
 have hb:=blen_mono_le (n:=l) (k:=64) hl;have ht:=tp_small hb;have h2:=tp_lt l;rw[ht]at h2
 refine⟨by omega,by omega,by omega,by omega,by rw[ht],fun h0=>⟨by unfold xp;omega,fun _=>?_,fun _=>rfl⟩⟩
 rw[ht,Nat.mul_assoc,<-Nat.pow_add]
 congr 2
 omega
theorem ra_high{h l:Nat}{e:Int}(h0:h≠0)(hh:h < 18446744073709551616)(hl:l < 18446744073709551616):
  Ra (h*18446744073709551616+l) (e-64) ((h*2^(64-blen h)+l/2^blen h:Nat):Int) ((l*2^(64-blen h)%18446744073709551616:Nat):Int) (e-(64-(blen h:Int))):=by
 have hb:=blen_mono_le (n:=h) (k:=64) hh
 have hbs:blen (h*18446744073709551616+l)=64+blen h:=by
  rcases raise_top (l:=l) h0 hh with q | q
  ·exact q
  ·omega
 have hp:0 < 2^blen h:=Nat.pow_pos (by decide)
 have hn:2^64=2^(64-blen h)*2^blen h:=by rw[<-Nat.pow_add];congr 1;omega
 have hn':(18446744073709551616:Nat)=2^blen h*2^(64-blen h):=by rw[Nat.mul_comm,<-hn]
 have ht:tp (h*18446744073709551616+l)=h*2^(64-blen h)+l/2^blen h:=by
  unfold tp
  rw[hbs,Nat.pow_add,Nat.mul_comm (2^64) (2^blen h),Nat.mul_div_mul_right _ _ (Nat.pow_pos (by decide)),hn',show h*(2^blen h*2^(64-blen h))=2^blen h*(h*2^(64-blen h)) by rw[<-Nat.mul_assoc,Nat.mul_comm h,Nat.mul_assoc],Nat.mul_add_div hp]
 have hm:l*2^(64-blen h)%18446744073709551616=l%2^blen h*2^(64-blen h):=by
  rw[hn',Nat.mul_mod_mul_right]
 have ht2:=tp_lt (h*18446744073709551616+l)
 have hml:=Nat.mod_lt (l*2^(64-blen h)) (show 0 < 18446744073709551616 by decide)
 refine⟨by omega,by omega,by omega,by omega,by rw[ht],fun _=>⟨?_,?_⟩⟩
 ·unfold xp
  rw[hbs]
  omega
 ·rw[hm,hbs,ht,Nat.pow_add,Nat.mul_comm (2^64) (2^blen h),<-Nat.mul_assoc];have hd:=Nat.div_add_mod l (2^blen h)
  have hS:h*18446744073709551616+l=(h*2^(64-blen h)+l/2^blen h)*2^blen h+l%2^blen h:=by
   rw[Nat.add_mul,Nat.mul_assoc h,<-hn,Nat.mul_comm (l/2^blen h),Nat.add_assoc,hd]
  rw[hS]
  have hp2:0 < 2^(64-blen h):=Nat.pow_pos (by decide)
  revert hS
  generalize (h*2^(64-blen h)+l/2^blen h)*2^blen h=Z;generalize l%2^blen h=m
  intro _
  constructor
  ·intro q
   have q1:m*2^(64-blen h)=0:=by exact_mod_cast q
   have q2:m=0:=by
    rcases Nat.mul_eq_zero.1 q1 with c | c
    ·exact c
    ·omega
   rw[q2,Nat.add_zero]
  ·intro q
   have q1:Z=Z+m:=Nat.eq_of_mul_eq_mul_right (show 0 < 2^64 by decide) q
   have q2:m=0:=by omega
   rw[q2,Nat.zero_mul]
   rfl
def exw (S:Nat)(F:Int):Bool:=S==0 || (decide (xp S F<=1048576) && (decide (-1048576<=xp S F) && decide (tp S*2^blen S=S*2^64)))
theorem exw_odd{m:Nat}(ho:m%2=1)(t:Nat)(F:Int):exw (m*2^t) F=ext m (F+t):=by
 have h0:m≠0:=by omega
 have h2:m*2^t≠0:=Nat.mul_ne_zero h0 (Nat.ne_of_gt (Nat.pow_pos (by decide)))
 have ex:xp (m*2^t) F=xp m (F+t):=by
  unfold xp
  rw[blen_mul h0]
  omega
 have e1:(m*2^t==0)=false:=by simpa using h2
 have e2:(m==0)=false:=by simpa using h0
 have e3:(tp (m*2^t)*2^blen (m*2^t)=m*2^t*2^64)↔blen m<=64:=by
  rw[tp_mul h0,blen_mul h0,Nat.pow_add,<-Nat.mul_assoc,Nat.mul_right_comm m]
  constructor
  ·intro q
   have q1:=Nat.eq_of_mul_eq_mul_right (Nat.pow_pos (n:=t) (show 0 < 2 by decide)) q
   rcases Nat.lt_or_ge 64 (blen m)with c | c
   ·exfalso
    rw[show 2^blen m=2^(blen m-65)*2*2^64 by rw[<-Nat.pow_succ,<-Nat.pow_add];congr 1;omega,<-Nat.mul_assoc]at q1
    have q2:=Nat.eq_of_mul_eq_mul_right (show 0 < 2^64 by decide) q1
    rw[<-Nat.mul_assoc]at q2
    omega
   ·exact c
  ·intro c
   rw[tp_small c,Nat.mul_assoc m,<-Nat.pow_add,show 64-blen m+blen m=64 by omega]
 unfold exw ext
 rw[ex,e1,e2,decide_eq_decide.2 e3]
theorem wide_rnd{S:Nat}{F N E:Int}{neg:Bool}(hS:S < 340282366920938463463374607431768211456)(h1: -3000000<=F)(h2:F<=3000000)(hN:(mk (sgi neg (S:Int)) F).1=N)(hE:(mk (sgi neg (S:Int)) F).2=E):
  (exw S F=true->∀up,rnd up N E=sgi neg (lo S F))/\rnd neg N E=sgi neg (lo S F)/\(exw S F=false->rnd (!neg) N E=nx (!neg) (sgi neg (lo S F))):=by
 by_cases h0:S=0
 ·subst h0
  have e0:sgi neg ((0:Nat):Int)=0:=by cases neg <;> rfl
  rw[e0,mk_zero]at hN hE;subst hN;subst hE
  have e1:sgi neg (lo 0 F)=0:=by
   have:lo 0 F=0:=by
    unfold lo
    rw[if_pos rfl]
   rw[this]
   cases neg <;> rfl
  have e2:exw 0 F=true:=by
   unfold exw
   rfl
  rw[e1,e2]
  exact⟨fun _ up=>rnd_nought up,rnd_nought neg,fun c=>absurd c (by decide)⟩
 ·have hab:(sgi neg (S:Int)).natAbs=S:=by rw[sgi_abs neg (by omega)];omega
  obtain⟨s1,s2⟩:=v2_spec S h0
  have hv:v2 S < 128:=by
   have h3:=v2_pow_le h0
   have h4:2^v2 S < 2^128:=by omega
   exact(Nat.pow_lt_pow_iff_right (by decide)).1 h4
  have hz:sgi neg (S:Int)≠0:=by
   intro c
   rw[c]at hab;exact h0 hab.symm
  obtain⟨m1,m2,m3,m4,m5⟩:=mk_in (z:=sgi neg (S:Int)) (e:=F) hz (by omega) (by rw[hab];omega);rw[hab]at m1 m2;rw[hE]at m1;rw[hN]at m2 m3
  have hsn:neg=decide (N < 0):=by
   cases neg
   ·rw[wsg_f]at m3;exact(df (by omega)).symm
   ·rw[wsg_t]at m3;exact(dt (by omega)).symm
  have hx:exw S F=ext N.natAbs E:=by
   rw[m2,m1]
   conv=>lhs;rw[s1]
   exact exw_odd s2 _ F
  have hl:lo S F=lo N.natAbs E:=by
   rw[m2,m1]
   conv=>lhs;rw[s1]
   exact lo_mul (by omega) _ F
  rw[hx,hl]
  refine⟨fun c up=>?_,?_,fun c=>?_⟩
  ·rw[rnd_ext c,<-hsn]
  ·exact rnd_same hsn rfl
  ·rw[rnd_diff hsn,nx_lo neg c]
set_option linter.unusedSimpArgs false
set_option maxRecDepth 100000
theorem gFair{w:World}{D M E:Int}{s:Bool}{r:Int}(hM:LQ M)(hr:rk D s M E=r):Calls Tryz.prog 83 #[VQ D s M E] w (PN w r):=by
 delta VQ
 by_cases hm:MayQ D s M E
 ·have HQ:=rk_fq hM hm;rw[hr]at HQ
  have HC:=ie (show decide (MayQ D s M E)=true from dt hm)
  clear hm hr hM
  go_enter Tryz.func83,Tryz.ntmps83
  go_upto_region 1 with (fail)
  generalize hW1:(w.alloc _).alloc _=w1 at *;obtain⟨X1,XR,HB⟩:=Bo.en2 hW1;clear hW1;have xX1:=X1.cell
  go_wp2_with fail
  refine(yMay HC.out).mono ?_;rintro ee w2 ⟨rfl,B⟩;clear xX1;replace X1:=X1.b B;replace XR:=XR.b B;replace HB:=Hqb HB B;clear B;have xXR:=XR.cell;have zXR0:=XR.frozen;have xX1:=X1.cell;go_wp2;clear xXR zXR0 xX1;have SX:=StN.t4 XR D s M E
  exact bq (by simp[results,Tryz.results83,go_sem,SX.box.cell]) rfl ⟨D,s,M,E,rfl,HQ,(SX.below HB.out (by omega))⟩
 ·rw[rk_not hm]at hr;subst hr
  have HC:=ie (show decide (MayQ D s M E)=false from df hm)
  clear hm hM
  go_enter Tryz.func83,Tryz.ntmps83
  go_upto_region 1 with (fail)
  generalize hW1:(w.alloc _).alloc _=w1 at *;obtain⟨X1,XR,HB⟩:=Bo.en2 hW1;clear hW1;have xX1:=X1.cell
  go_wp2_with fail
  refine(yMay HC.out).mono ?_;rintro ee w2 ⟨rfl,B⟩;clear xX1;replace X1:=X1.b B;replace XR:=XR.b B;replace HB:=Hqb HB B;clear B;have xXR:=XR.cell;have zXR0:=XR.frozen;have xX1:=X1.cell;go_wp2;clear xXR zXR0 xX1;have SX:=StN.t4 XR 0 false 0 0
  exact bq (by simp[results,Tryz.results83,go_sem,SX.box.cell]) rfl ⟨_,_,_,_,rfl,Fq.nought,(SX.below HB.out (by omega))⟩
theorem fq_inf{D:Int}{s:Bool}{M E x:Int}(q:Fq D s M E x):infp x=(D==2):=by
 have htp:=TP_eq
 rcases q.cases with⟨rfl,rfl,rfl,rfl,h0⟩ | ⟨rfl,h1,h2,h3,h4,⟨rfl,h5⟩ | ⟨rfl,h5⟩⟩ | ⟨rfl,rfl,rfl,⟨rfl,h5⟩ | ⟨rfl,h5⟩⟩ <;> unfold infp <;> rw[Bool.eq_iff_iff] <;> simp <;> omega
theorem fq_same{s s':Bool}{M M' E E' x y:Int}(q:Fq 2 s M E x)(q':Fq 2 s' M' E' y):x=y↔s=s':=by
 have htp:=TP_eq
 rcases q.cases with⟨h,_⟩ | ⟨h,_⟩ | ⟨_,rfl,rfl,⟨rfl,h5⟩ | ⟨rfl,h5⟩⟩
 ·omega
 ·omega
 all_goals
  rcases q'.cases with⟨h,_⟩ | ⟨h,_⟩ | ⟨_,rfl,rfl,⟨rfl,k5⟩ | ⟨rfl,k5⟩⟩
  ·omega
  ·omega
  ·constructor <;> intro e <;> first | rfl | omega | exact absurd e (by decide)
  ·constructor <;> intro e <;> first | rfl | omega | exact absurd e (by decide)
def mvs (p:Int × Int)(k:Int):Int × Int:=mk p.1 (p.2+k)
theorem dMove{w:World}{A:Option Addr}{n c:Nat}{s:Bool}{z e k N E:Int}(hT:Tab w)(h:Wr w s A n c z)(hn:n<=100000)(k1: -2000<=k)(k2:k<=2000)(hN:(mvs (mk z e) k).1=N)(hE:(mvs (mk z e) k).2=E):
  Calls Tryz.prog 212 #[.agg #[.bool s,.slice A n c,.int .i64 e],.int .i64 k] w (D1 w n N E):=by
 obtain⟨b1,b2⟩:=mk_bd z e
 have hv:mvs (mk z e) k=mk (mk z e).1 (IntKind.i64.wrap ((mk z e).2+k)):=by rw[IntWalk.i64_in _ (by omega)];rfl
 rw[hv]at hN hE;exact dMoveW hT h hn hN hE
theorem qmoved_up{w:World}{A:Option Addr}{n c α k r:Nat}(h:Rd w A n c α)(hn:n<=8000)(hk:k<=200000)(hr:α*2^k=r):Calls Tryz.prog 250 #[.slice A n c,.int .i64 (k:Int)] w (P1B w 15000 r true):=by
 have HR:=ie hr;clear hr
 have hd:decide ((0:Int)<=(k:Int))=true:=dt (Int.natCast_nonneg k)
 go_enter Tryz.func250,Tryz.ntmps250
 go_wp2_with fail
 refine(vShlE h (by omega) (by omega) HR.out).mono ?_;rintro ee w2 ⟨A2,n2,c2,rfl,p2,k2,B2⟩;go_wp2;exact bq (v:= .tuple #[.slice A2 n2 c2,.bool true]) (by simp[results,Tryz.results250,go_sem]) rfl ⟨A2,n2,c2,rfl,p2,by omega,B2⟩
theorem qmoved_dn{w:World}{A:Option Addr}{n c α k d r:Nat}{z y:Int}{t:Bool}(h:Rd w A n c α)(hn:n<=8000)(hk:k<=200000)(h0:0 < k)(hz: -z=(k:Int))(hr:α/2^k=r)(hd:r*2^k=d)(hy:cmpI (d:Int) (α:Int)=y)(ht:(y==0)=t):Calls Tryz.prog 250 #[.slice A n c,.int .i64 z] w (P1B w 15000 r t):=by
 have HR:Hid (α/2^(k:Int).toNat=r):=ie (by rw[Int.toNat_natCast];exact hr)
 have HD:=ie hd;have HY:=ie hy
 have hlt:decide (0<=z)=false:=df (by omega)
 have hlt2:¬(0<=z):=by omega
 have hw:IntKind.i64.wrap (-z)=(k:Int):=by rw[hz];exact IntWalk.i64_in _ (by omega)
 clear hr hd hy
 go_enter Tryz.func250,Tryz.ntmps250
 go_wp2_with fail
 refine(vShrE (z:=(k:Int)) h (by omega) HR.out).mono ?_;rintro ee w2 ⟨A2,n2,c2,rfl,p2,k2,B2⟩
 go_wp2_with fail
 refine(vShlE p2.rd (by omega) (by omega) HD.out).mono ?_;rintro ee w3 ⟨A3,n3,c3,rfl,p3,k3,B3⟩
 go_wp2_with fail
 refine(vCmpE p3.rd ((h.below B2).below B3) HY.out).mono ?_;rintro ee w4 ⟨rfl,B4⟩;go_wp2;exact bq (v:= .tuple #[.slice A2 n2 c2,.bool t]) (by simp[results,Tryz.results250,go_sem]) rfl ⟨A2,n2,c2,rfl,(p2.below B3).below B4,by omega,bt B2 (bt B3 B4)⟩
theorem qAway{w:World}{up:Bool}{r:Int}(hr:sgi (!up) TP=r):Calls Tryz.prog 214 #[.bool up] w (PN w r):=by
 have HR:=ie hr;clear hr
 go_enter Tryz.func214,Tryz.ntmps214
 go_upto_region 1 with (fail)
 generalize hW1:w.alloc _=w1 at *;obtain⟨XR,HB⟩:=Bo.en1 hW1;clear hW1
 go_wp2_with fail
 refine(nInf (s:=!up) HR.out).mono ?_;rintro ee w2 ⟨K1,s1,M1,E1,rfl,q1,B⟩;replace XR:=XR.b B;replace HB:=Hqb HB B;clear B;have xXR:=XR.cell;have zXR0:=XR.frozen;go_wp2;clear xXR zXR0;have SX:=StN.t4 XR K1 s1 M1 E1;exact bq (by simp[results,Tryz.results214,go_sem,SX.box.cell]) rfl ⟨_,_,_,_,rfl,q1,(SX.below HB.out (by omega))⟩
end Go.Proofs.YtomikokonmikgaaGreatDoor
namespace Go.Proofs.YtomikokonmikgaaGreatDoor.Jo
open Go Go.RowKit
set_option linter.unusedVariables false
def upd (vs:Nat->Value)(i:Nat)(v:Value):Nat->Value:=fun x=>if x=i then v else vs x
theorem upd_same (vs:Nat->Value)(i:Nat)(v:Value):upd vs i v i=v:=if_pos rfl
theorem upd_ne{vs:Nat->Value}{i j:Nat}{v:Value}(h:j≠i):upd vs i v j=vs j:=if_neg h
section
variable {P:Program} {md:Region.Mode} {ops:Array Oper} {Q:Exit->Act->World->Prop} {a0:Act} {T:List Nat} {dst:Nat->Option Tmp} {D:Nat->List Nat} {k:Nat} {I:List Nat->(Nat->Value)->World->Prop}
def StepsI (P:Program)(ops:Array Oper)(Q:Exit->Act->World->Prop)(a0:Act)(dst:Nat->Option Tmp)(D:Nat->List Nat)(I:List Nat->(Nat->Value)->World->Prop)(T:List Nat):Prop:=
 ∀i ∈ T,∀l vs w,I l vs w->i ∉ l->(∀j ∈ D i,j ∈ l)->wpOp P ops Q i (fun a' w'=>∃v,a'=(base dst vs (D i) a0).put (dst i) v/\I (l ++[i]) (upd vs i v) w') (base dst vs (D i) a0) w
theorem StepsI.nil:StepsI P ops Q a0 dst D I []:=fun _ h=>by cases h
theorem StepsI.cons{i:Nat}{o:Oper}{r:List Nat}(ho:ops[i]?=some o)
  (h:∀l vs w,I l vs w->i ∉ l->(∀j ∈ D i,j ∈ l)->∀K:Act->World->Prop,Shut (∀v w',I (l ++[i]) (upd vs i v) w'->K ((base dst vs (D i) a0).put (dst i) v) w')->
   if Region.wanted o (yielded ops (base dst vs (D i) a0).tmps)=true then Oper.wp P o (base dst vs (D i) a0) w K Q else K ((base dst vs (D i) a0).put o.dst undef) w)
  (hs:StepsI P ops Q a0 dst D I r):StepsI P ops Q a0 dst D I (i::r):=fun j hj=>by
 rcases List.mem_cons.1 hj with rfl | hj
 ·exact fun l vs w hI hn hd=>wpOp_step ho (fun K hK=>h l vs w hI hn hd K (fun v w' h1=>hK _ _ ⟨v,rfl,h1⟩))
 ·exact hs j hj
theorem wpAny_inv (w0:World)(hok:ok md ops T dst D k a0.tmps.size=true)(hnd:T.Nodup)(hQ:∀c a b w,Q (.panic c) b w->Q (.panic c) a w)
  (h0:I [] (fun _=>undef) w0) (step:StepsI P ops Q a0 dst D I T)
  (fin:∀l vs w,(∀j,j ∈ l↔j ∈ T)->I l vs w->wpAny P md ops Q (ops.size-T.length) (mark T ops.size) (base dst vs T a0) w):
  wpAny P md ops Q ops.size (Array.replicate ops.size false) a0 w0:=by
 unfold ok at hok
 simp only[Bool.and_eq_true,List.all_eq_true,List.mem_range,Bool.or_eq_true,decide_eq_true_eq,List.contains_iff_mem]at hok;obtain⟨⟨hsel,hT⟩,hx⟩:=hok
 have hinj:∀i ∈ T,∀j ∈ T,∀d,dst i=some d->dst j=some d->i=j:=fun i hi j hj d=>(okAt_spec (hT i hi)).2.2.2.1 j hj d
 have go:∀(fuel:Nat) (l:List Nat) (vs:Nat->Value) (w:World) (L:Array Bool),fuel+l.length=ops.size->l.Nodup->(∀j ∈ l,j ∈ T)->(∀j ∈ l,∀x ∈ dep md ops j,x ∈ l)->Good ops.size l L->I l vs w->wpAny P md ops Q fuel L (base dst vs l a0) w:=by
  intro fuel
  induction fuel with
  | zero=>
   intro l vs w L hf hn hl hcl hg hI
   by_cases hall:∀j ∈ T,j ∈ l
   ·have hs:∀j,j ∈ l↔j ∈ T:=fun j=>⟨hl j,hall j⟩
    have h1:=nodup_le hn hl;have h2:=nodup_le hnd hall
    have:=fin l vs w hs hI
    rw[<-hg.eq (good_mark T ops.size) hs,<-base_same hinj hl (fun _ h=>h) hs,show ops.size-T.length=0 by omega]at this
    exact this
   ·exfalso
    obtain⟨j,hj⟩:=Classical.not_forall.1 hall;obtain⟨hj,hjl⟩:=Classical.not_imp.1 hj
    have:=nodup_le (l:=j::l) (m:=List.range ops.size) (List.nodup_cons.2 ⟨hjl,hn⟩) (fun x hx=>List.mem_range.2 (by
     rcases List.mem_cons.1 hx with rfl | hx
     ·exact(okAt_spec (hT x hj)).1
     ·exact(okAt_spec (hT x (hl x hx))).1))
    simp at this
    omega
  | succ fuel ih=>
   intro l vs w L hf hn hl hcl hg hI
   by_cases hall:∀j ∈ T,j ∈ l
   ·have hs:∀j,j ∈ l↔j ∈ T:=fun j=>⟨hl j,hall j⟩
    have h1:=nodup_le hn hl;have h2:=nodup_le hnd hall
    have:=fin l vs w hs hI
    rw[<-hg.eq (good_mark T ops.size) hs,<-base_same hinj hl (fun _ h=>h) hs,show ops.size-T.length=fuel+1 by omega]at this
    exact this
   ·obtain⟨j0,hj0⟩:=Classical.not_forall.1 hall;obtain⟨hj0,hj0l⟩:=Classical.not_imp.1 hj0
    have rdy:∀m,m < ops.size->m ∉ l->∃r,r ∈ Region.ready md ops L:=by
     intro m
     induction m using Nat.strongRecOn with
     | ind m ihm=>
      intro hm hml
      by_cases hd:∀x ∈ dep md ops m,x ∈ l
      ·refine⟨m,mem_ready.2 ⟨by rw[Array.getD_eq_getD_getElem?,hg.2 m hm];simp[hml],ops[m],by simp[hm],fun e he hb=>?_⟩⟩
       have:e.on ∈ dep md ops m:=by
        simp only[dep,hm,Array.getElem?_eq_getElem,Option.map_some,Option.getD_some];exact List.mem_map.2 ⟨e,List.mem_filter.2 ⟨by simpa using he,hb⟩,rfl⟩
       have hlt:=(okAt_spec (hT _ (hl _ (hd _ this)))).1;rw[Array.getD_eq_getD_getElem?,hg.2 _ hlt]
       simp[hd _ this]
      ·obtain⟨x,hx1⟩:=Classical.not_forall.1 hd;obtain⟨hx1,hx2⟩:=Classical.not_imp.1 hx1;have hlt:=(hx m hm).1 x hx1;exact ihm x hlt (by omega) hx2
    refine⟨fun hr=>?_,fun i hi=>?_⟩
    ·obtain⟨r,hr2⟩:=rdy j0 (okAt_spec (hT j0 hj0)).1 hj0l;rw[hr]at hr2
     cases hr2
    ·obtain⟨h0,o,ho,haf⟩:=mem_ready.1 hi
     have hlt:i < ops.size:=(Array.getElem?_eq_some_iff.1 ho).1
     have hil:i ∉ l:=by
      rw[Array.getD_eq_getD_getElem?,hg.2 i hlt]at h0
      simpa using h0
     have hdep:∀x ∈ dep md ops i,x ∈ l:=by
      intro x hx1
      simp only[dep,ho,Option.map_some,Option.getD_some]at hx1;obtain⟨e,he,rfl⟩:=List.mem_map.1 hx1;obtain⟨he1,he2⟩:=List.mem_filter.1 he;have h1:=haf e (by simpa using he1) he2;have h2:=(hx i hlt).1 e.on (by simp only[dep,ho,Option.map_some,Option.getD_some];exact List.mem_map.2 ⟨e,he,rfl⟩);rw[Array.getD_eq_getD_getElem?,hg.2 _ (by omega)]at h1
      simpa using h1
     have hiT:i ∈ T:=by
      rcases (hx i hlt).2 with h | h
      ·exact h
      ·exact absurd (anc_sub hcl k _ hdep j0 (h j0 hj0)) hj0l
     obtain⟨_,hds,hsz,hin,hD,hlk⟩:=okAt_spec (hT i hiT)
     have hds':o.dst=dst i:=by rw[<-hds,ho];rfl
     have hDl:∀j ∈ D i,j ∈ l:=fun j hj=>anc_sub hcl k _ hdep j (hD j hj).2
     have hstep:=step i hiT l vs w hI hil hDl;rw[<-hds']at hstep
     have hag:∀t ∈ o.looksAt ops,(base dst vs l a0).tmps[t]?=(base dst vs (D i) a0).tmps[t]?:=by
      intro t ht
      by_cases h:∃j ∈ l,dst j=some t
      ·obtain⟨j,hj,hd⟩:=h
       have htz:t < a0.tmps.size:=(okAt_spec (hT j (hl j hj))).2.2.1 t hd
       have hjD:=hlk o ho t ht j (hl j hj) hd
       rw[base_hit hd l a0 hj htz (fun x hx hx2=>hinj x (hl x hx) j (hl j hj) t hx2 hd),base_hit hd (D i) a0 hjD htz (fun x hx hx2=>hinj x (hl x (hDl x hx)) j (hl j hj) t hx2 hd)]
      ·rw[base_miss l a0 (fun j hj hd=>h ⟨j,hj,hd⟩),base_miss (D i) a0 (fun j hj hd=>h ⟨j,hDl j hj,hd⟩)]
     have:=wpOp_frame ho (Region.noSelect_spec hsel i o · · ho) hag hQ (fun d hd=>by rw[base_size];exact hsz d (hds'▸hd)) hstep
     refine wpOp_mono ?_ this;rintro a' w' ⟨v,rfl,h1⟩
     have e:(base dst vs l a0).put o.dst v=base dst (upd vs i v) (l ++[i]) a0:=by
      rw[base_snoc,upd_same,hds']
      congr 1
      exact base_vs l a0 (fun j hj=>by
       have hne:j≠i:=fun e=>hil (e▸hj)
       rw[upd_ne hne])
     rw[e];refine ih (l ++[i]) _ w' _ (by simp;omega) ?_ ?_ ?_ (hg.set i) h1
     ·rw[List.nodup_append]
      refine⟨hn,by simp,fun x hx y hy=>?_⟩
      simp at hy
      subst hy
      exact fun e=>hil (e▸hx)
     ·intro j hj
      rcases List.mem_append.1 hj with h | h
      ·exact hl j h
      ·simp at h;subst h;exact hiT
     ·intro j hj x hx1
      rcases List.mem_append.1 hj with h | h
      ·exact List.mem_append_left _ (hcl j h x hx1)
      ·simp at h;subst h;exact List.mem_append_left _ (hdep x hx1)
 exact go ops.size [] (fun _=>undef) w0 _ (by simp) (by simp) (fun _ h=>by cases h) (fun _ h=>by cases h) (good_nil _) h0
end
section
variable {P:Program} {ops:Array Oper} {Q:Exit->Act->World->Prop} {a0:Act} {T:List Nat} {ds:List (Option Tmp)} {ls:List (List Nat)} {k:Nat} {I:List Nat->(Nat->Value)->World->Prop}
theorem icons{i:Nat}{o:Oper}{r:List Nat}{di:Option Tmp}{L:List (Option Tmp × Nat)}(ho:ops[i]?=some o)(hdi:ds.getD i none=di)(hL:((ls.getD i []).map fun j=>(ds.getD j none,j))=L)
  (h:∀l vs w,I l vs w->i ∉ l->(∀j ∈ ls.getD i [],j ∈ l)->∀K:Act->World->Prop,Shut (∀v w',I (l ++[i]) (upd vs i v) w'->K ((putl vs L a0).put di v) w')->
   if Region.wanted o (yielded ops (putl vs L a0).tmps)=true then Oper.wp P o (putl vs L a0) w K Q else K ((putl vs L a0).put o.dst undef) w)
  (hs:StepsI P ops Q a0 (dstOf ds) (depOf ls) I r):StepsI P ops Q a0 (dstOf ds) (depOf ls) I (i::r):=by
 refine StepsI.cons ho (fun l vs w hI hn hd K hK=>?_) hs
 have e:base (dstOf ds) vs (depOf ls i) a0=putl vs L a0:=by
  rw[base_putl,<-hL]
  rfl
 rw[e]at hK|-;refine h l vs w hI hn hd K ?_
 intro v w' h1
 have:=hK.out v w' h1
 rwa [show dstOf ds i=di from hdi]at this
theorem region_inv{id fuel:Nat}{w:World}{L:List (Option Tmp × Nat)}(hm:P.follows .mixedOrders=true)(hok:ok .any ops T (dstOf ds) (depOf ls) k a0.tmps.size=true)(hnd:T.Nodup)
  (hL:(T.map fun j=>(ds.getD j none,j))=L) (hfu:ops.size-T.length=fuel) (h0:I [] (fun _=>undef) w.drew)
  (step:StepsI P ops (NoPanic Q) a0 (dstOf ds) (depOf ls) I T)
  (fin:∀l vs wj,(∀j,j ∈ l↔j ∈ T)->I l vs wj->wpAny P .any ops (NoPanic Q) fuel (mark T ops.size) (putl vs L a0) wj):
  (Code.region id ops true).wp P Q a0 w:=by
 refine wp_region_noPanic ?_
 refine wp_region_any hm (wpAny_inv (T:=T) (dst:=dstOf ds) (D:=depOf ls) (k:=k) (I:=I) _ hok hnd (fun _ _ _ _ h=>h) h0 step ?_)
 intro l vs w hl hI
 have e:base (dstOf ds) vs T a0=putl vs L a0:=by
  rw[base_putl,<-hL]
  rfl
 rw[e,hfu];exact fin l vs w hl hI
end
def Two2 (w1:World)(p0 n0 p2 n2:Value)(old new:Array Value)(R:TypeId)(l:List Nat)(vs:Nat->Value)(w:World):Prop:=
 Below w1.heap.size w1 w/\(6 ∈ l->4 ∈ l/\5 ∈ l)/\(0 ∈ l->vs 0=p0)/\(1 ∈ l->vs 1=n0)/\(2 ∈ l->vs 2=p2)/\(3 ∈ l->vs 3=n2)/\
  (4 ∈ l->∃g,vs 4= .pointer (some ⟨g,0,none⟩)/\w1.heap.size<=g/\(6 ∈ l->Bo w g new R)/\(6 ∉ l->Bo w g old R))/\
  (5 ∈ l->∃g,vs 5= .pointer (some ⟨g,0,none⟩)/\w1.heap.size<=g/\Bo w g old R)/\(4 ∈ l->5 ∈ l->vs 4≠vs 5)
section
variable {w1 w w':World} {p0 n0 p2 n2 v:Value} {old new:Array Value} {R:TypeId} {l:List Nat} {vs:Nat->Value} {i:Nat}
theorem mem_snoc{j:Nat}(h:j≠i):j ∈ l ++[i]↔j ∈ l:=by
 rw[List.mem_append]
 constructor
 ·rintro (e | e)
  ·exact e
  ·simp at e;exact absurd e h
 ·exact .inl
theorem Two2.all (h:Two2 w1 p0 n0 p2 n2 old new R l vs w)(hl:∀j,j ∈ l↔j ∈ [0,1,2,3,4,5,6]):Below w1.heap.size w1 w/\vs 0=p0/\vs 1=n0/\vs 2=p2/\vs 3=n2/\∃g g',vs 4= .pointer (some ⟨g,0,none⟩)/\vs 5= .pointer (some ⟨g',0,none⟩)/\w1.heap.size<=g/\w1.heap.size<=g'/\g≠g'/\Bo w g new R/\Bo w g' old R:=by
 obtain⟨h1,h2,h3,h4,h5,h6,h7,h8,h9⟩:=h;have m4:=(hl 4).2 (by decide);have m5:=(hl 5).2 (by decide);have m6:=(hl 6).2 (by decide);obtain⟨g,e,hb,X0,_⟩:=h7 m4;obtain⟨g',e',hb',X'⟩:=h8 m5;have X:=X0 m6
 exact⟨h1,h3 ((hl 0).2 (by decide)),h4 ((hl 1).2 (by decide)),h5 ((hl 2).2 (by decide)),h6 ((hl 3).2 (by decide)),g,g',e,e',hb,hb',fun c=>h9 m4 m5 (by rw[e,e',c]),X,X'⟩
end
def Pair (w1:World)(F:List Fact)(p q s e:Nat)(old:Array Value)(R:TypeId)(l:List Nat)(vs:Nat->Value)(w:World):Prop:=
 Below w1.heap.size w1 w/\(∀j ∈ l,∀u,phi F j (vs j) u)/\(s ∈ l->p ∈ l/\q ∈ l/\e ∈ l)/\
  (p ∈ l->∃g,vs p= .pointer (some ⟨g,0,none⟩)/\w1.heap.size<=g/\(s ∉ l->Bo w g old R)/\(s ∈ l->∃cs,vs e= .agg cs/\Bo w g cs R))/\
  (q ∈ l->∃g,vs q= .pointer (some ⟨g,0,none⟩)/\w1.heap.size<=g/\Bo w g old R)/\(p ∈ l->q ∈ l->vs p≠vs q)
section
variable {w1 w w':World} {F:List Fact} {p q s e i:Nat} {l:List Nat} {vs:Nat->Value} {v:Value} {cs old:Array Value} {R:TypeId}
theorem far{g h:Nat}(hg:g < h):(.pointer (some ⟨h,0,none⟩):Value)≠ .pointer (some ⟨g,0,none⟩):=by
 intro c
 injection c with c
 injection c with c
 injection c with c
 omega
theorem Pair.all (h:Pair w1 F p q s e old R l vs w)(mp:p ∈ l)(mq:q ∈ l)(ms:s ∈ l):∃g g' cs,vs p= .pointer (some ⟨g,0,none⟩)/\vs q= .pointer (some ⟨g',0,none⟩)/\w1.heap.size<=g/\w1.heap.size<=g'/\g≠g'/\vs e= .agg cs/\Bo w g cs R/\Bo w g' old R:=by
 obtain⟨h1,h2,h3,h4,h5,h6⟩:=h;obtain⟨g,e1,e2,_,e3⟩:=h4 mp;obtain⟨cs,e4,e5⟩:=e3 ms;obtain⟨g',f1,f2,f3⟩:=h5 mq
 exact⟨g,g',cs,e1,f1,e2,f2,fun c=>h6 mp mq (by rw[e1,f1,c]),e4,e5,f3⟩
end
section
variable {P:Program} {ops:Array Oper} {Q:Exit->Act->World->Prop} {a0:Act} {T:List Nat} {ds:List (Option Tmp)} {ls:List (List Nat)} {k:Nat} {F:List Fact} {w1:World} {p q s e:Nat} {old:Array Value} {R:TypeId}
end
def Twin (w1:World)(F:List Fact)(p q:Nat)(old:Array Value)(R:TypeId)(l:List Nat)(vs:Nat->Value)(w:World):Prop:=
 Below w1.heap.size w1 w/\(∀j ∈ l,phi F j (vs j) w)/\
  (p ∈ l->∃g,vs p= .pointer (some ⟨g,0,none⟩)/\w1.heap.size<=g/\Bo w g old R)/\
  (q ∈ l->∃g,vs q= .pointer (some ⟨g,0,none⟩)/\w1.heap.size<=g/\Bo w g old R)/\(p ∈ l->q ∈ l->vs p≠vs q)
section
variable {w1 w w':World} {F:List Fact} {p q i:Nat} {l:List Nat} {vs:Nat->Value} {v:Value} {old:Array Value} {R:TypeId}
theorem Twin.nil:Twin w1 F p q old R [] (fun _=>undef) w1.drew:=⟨(br _ _).drew,by simp,by simp,by simp,by simp⟩
theorem Twin.facts (h:∀j ∈ l,phi F j (vs j) w)(hg:Below w.heap.size w w')(hv:phi F i v w'):∀j ∈ l ++[i],phi F j (upd vs i v j) w':=by
 intro j hj
 by_cases c:j=i
 ·subst c;rw[upd_same];exact hv
 ·rw[upd_ne c];exact(F.getD j Fact.any).keep _ _ _ (h j ((mem_snoc c).1 hj)) hg
theorem Twin.step (h:Twin w1 F p q old R l vs w)(hp:p≠i)(hq:q≠i)(hv:phi F i v w')(hg:Below w.heap.size w w'):Twin w1 F p q old R (l ++[i]) (upd vs i v) w':=by
 obtain⟨h1,h2,h4,h5,h6⟩:=h
 refine⟨bt h1 hg,Twin.facts h2 hg hv,fun c=>?_,fun c=>?_,fun a b=>?_⟩
 ·obtain⟨g,e1,e2,e3⟩:=h4 ((mem_snoc hp).1 c);rw[upd_ne hp];exact⟨g,e1,e2,e3.below hg⟩
 ·obtain⟨g,e1,e2,e3⟩:=h5 ((mem_snoc hq).1 c);rw[upd_ne hq];exact⟨g,e1,e2,e3.below hg⟩
 ·rw[upd_ne hp,upd_ne hq];exact h6 ((mem_snoc hp).1 a) ((mem_snoc hq).1 b)
theorem Twin.newp (h:Twin w1 F p q old R l vs w)(hpq:p≠q)(hf:∀v u,phi F p v u):
  Twin w1 F p q old R (l ++[p]) (upd vs p (.pointer (some ⟨w.heap.size,0,none⟩))) (w.alloc (.cells old R)):=by
 obtain⟨h1,h2,h4,h5,h6⟩:=h;have b:=bel1 w (.cells old R)
 refine⟨bt h1 b,Twin.facts h2 b (hf _ _),fun _=>⟨_,upd_same _ _ _,h1.size,Bo.new _ _ _⟩,fun c=>?_,fun _ c=>?_⟩
 ·obtain⟨g,e1,e2,e3⟩:=h5 ((mem_snoc (Ne.symm hpq)).1 c);rw[upd_ne (Ne.symm hpq)];exact⟨g,e1,e2,e3.below b⟩
 ·obtain⟨g,e1,e2,e3⟩:=h5 ((mem_snoc (Ne.symm hpq)).1 c);rw[upd_same,upd_ne (Ne.symm hpq),e1];exact far e3.lt
theorem Twin.newq (h:Twin w1 F p q old R l vs w)(hpq:p≠q)(hf:∀v u,phi F q v u):
  Twin w1 F p q old R (l ++[q]) (upd vs q (.pointer (some ⟨w.heap.size,0,none⟩))) (w.alloc (.cells old R)):=by
 obtain⟨h1,h2,h4,h5,h6⟩:=h;have b:=bel1 w (.cells old R)
 refine⟨bt h1 b,Twin.facts h2 b (hf _ _),fun c=>?_,fun _=>⟨_,upd_same _ _ _,h1.size,Bo.new _ _ _⟩,fun c _=>?_⟩
 ·obtain⟨g,e1,e2,e3⟩:=h4 ((mem_snoc hpq).1 c);rw[upd_ne hpq];exact⟨g,e1,e2,e3.below b⟩
 ·obtain⟨g,e1,e2,e3⟩:=h4 ((mem_snoc hpq).1 c);rw[upd_same,upd_ne hpq,e1]
  exact fun c=>far e3.lt c.symm
theorem Twin.all (h:Twin w1 F p q old R l vs w)(mp:p ∈ l)(mq:q ∈ l):∃g g',vs p= .pointer (some ⟨g,0,none⟩)/\vs q= .pointer (some ⟨g',0,none⟩)/\w1.heap.size<=g/\w1.heap.size<=g'/\g≠g'/\Bo w g old R/\Bo w g' old R:=by
 obtain⟨h1,h2,h4,h5,h6⟩:=h;obtain⟨g,e1,e2,e3⟩:=h4 mp;obtain⟨g',f1,f2,f3⟩:=h5 mq
 exact⟨g,g',e1,f1,e2,f2,fun c=>h6 mp mq (by rw[e1,f1,c]),e3,f3⟩
end
section
variable {P:Program} {ops:Array Oper} {Q:Exit->Act->World->Prop} {a0:Act} {T:List Nat} {ds:List (Option Tmp)} {ls:List (List Nat)} {k:Nat} {F:List Fact} {w1:World} {p q:Nat} {old:Array Value} {R:TypeId}
theorem tcons{i:Nat}{o:Oper}{r:List Nat}{di:Option Tmp}{L:List (Option Tmp × Nat)}{f:Fact}(hp:p≠i)(hq:q≠i)(ho:ops[i]?=some o)(hdi:ds.getD i none=di)(hL:((ls.getD i []).map fun j=>(ds.getD j none,j))=L)(hf:F.getD i Fact.any=f)
  (h:∀vs w,Below w1.heap.size w1 w->(∀j ∈ ls.getD i [],phi F j (vs j) w)->∀K:Act->World->Prop,Shut (∀v w',f.P v w'->Grow w w'->K ((putl vs L a0).put di v) w')->
   if Region.wanted o (yielded ops (putl vs L a0).tmps)=true then Oper.wp P o (putl vs L a0) w K Q else K ((putl vs L a0).put o.dst undef) w)
  (hs:StepsI P ops Q a0 (dstOf ds) (depOf ls) (Twin w1 F p q old R) r):StepsI P ops Q a0 (dstOf ds) (depOf ls) (Twin w1 F p q old R) (i::r):=by
 refine icons ho hdi hL (fun l vs w hI hn hd K hK=>h vs w hI.1 (fun j hj=>hI.2.1 j (hd j hj)) K ?_) hs
 intro v w' h1 h2
 exact hK.out v w' (hI.step hp hq (by unfold phi;rw[hf];exact h1) h2)
theorem tnew{i:Nat}{o:Oper}{r:List Nat}{di:Option Tmp}{L:List (Option Tmp × Nat)}(hpq:p≠q)(hi:i=p\/i=q)(hf:F.getD i Fact.any=Fact.any)(ho:ops[i]?=some o)(hdi:ds.getD i none=di)(hL:((ls.getD i []).map fun j=>(ds.getD j none,j))=L)
  (h:∀vs w,∀K:Act->World->Prop,Shut (K ((putl vs L a0).put di (.pointer (some ⟨w.heap.size,0,none⟩))) (w.alloc (.cells old R)))->
   if Region.wanted o (yielded ops (putl vs L a0).tmps)=true then Oper.wp P o (putl vs L a0) w K Q else K ((putl vs L a0).put o.dst undef) w)
  (hs:StepsI P ops Q a0 (dstOf ds) (depOf ls) (Twin w1 F p q old R) r):StepsI P ops Q a0 (dstOf ds) (depOf ls) (Twin w1 F p q old R) (i::r):=by
 refine icons ho hdi hL (fun l vs w hI hn hd K hK=>h vs w K ?_) hs
 have fa:∀v u,phi F i v u:=fun v u=>by unfold phi;rw[hf];trivial
 rcases hi with rfl | rfl
 ·exact hK.out _ _ (hI.newp hpq fa)
 ·exact hK.out _ _ (hI.newq hpq fa)
theorem region_twin{id fuel:Nat}{L:List (Option Tmp × Nat)}(hp:p ∈ T)(hq:q ∈ T)(hm:P.follows .mixedOrders=true)(hok:ok .any ops T (dstOf ds) (depOf ls) k a0.tmps.size=true)(hnd:T.Nodup)
  (hL:(T.map fun j=>(ds.getD j none,j))=L) (hfu:ops.size-T.length=fuel)
  (step:StepsI P ops (NoPanic Q) a0 (dstOf ds) (depOf ls) (Twin w1 F p q old R) T)
  (fin:∀vs wj,Below w1.heap.size w1 wj->(∀j ∈ T,phi F j (vs j) wj)->(∃g g',vs p= .pointer (some ⟨g,0,none⟩)/\vs q= .pointer (some ⟨g',0,none⟩)/\w1.heap.size<=g/\w1.heap.size<=g'/\g≠g'/\Bo wj g old R/\Bo wj g' old R)->
   wpAny P .any ops (NoPanic Q) fuel (mark T ops.size) (putl vs L a0) wj):
  (Code.region id ops true).wp P Q a0 w1:=
 region_inv (T:=T) (ds:=ds) (ls:=ls) (k:=k) (I:=Twin w1 F p q old R) hm hok hnd hL hfu Twin.nil step (fun l vs wj hl hI=>fin vs wj hI.1 (fun j hj=>hI.2.1 j ((hl j).2 hj)) (hI.all ((hl p).2 hp) ((hl q).2 hq)))
end
structure TFact (old:Array Value) (R:TypeId) where
 P:Value->World->Prop
 keep:∀v w w',P v w->Below w.heap.size w w'->P v w'
 stn:∀v w w' g cs,P v w->StN w w' g old cs R->P v w'
section
variable {old:Array Value} {R:TypeId}
def TFact.any:TFact old R:=⟨fun _ _=>True,fun _ _ _ h _=>h,fun _ _ _ _ _ h _=>h⟩
def TFact.eq (u:Value):TFact old R:=⟨fun v _=>v=u,fun _ _ _ h _=>h,fun _ _ _ _ _ h _=>h⟩
def phiT (F:List (TFact old R))(j:Nat)(v:Value)(w:World):Prop:=(F.getD j TFact.any).P v w
end
def Trip{old:Array Value}{R:TypeId}(w1:World)(F:List (TFact old R))(p q s e s2 e2:Nat)(l:List Nat)(vs:Nat->Value)(w:World):Prop:=
 Below w1.heap.size w1 w/\(∀j ∈ l,phiT F j (vs j) w)/\(s ∈ l->p ∈ l/\q ∈ l/\e ∈ l)/\(s2 ∈ l->p ∈ l/\q ∈ l/\e2 ∈ l)/\
  (p ∈ l->∃g,vs p= .pointer (some ⟨g,0,none⟩)/\w1.heap.size<=g/\(s ∉ l->Bo w g old R)/\(s ∈ l->∃cs,vs e= .agg cs/\Bo w g cs R))/\
  (q ∈ l->∃g,vs q= .pointer (some ⟨g,0,none⟩)/\w1.heap.size<=g/\(s2 ∉ l->Bo w g old R)/\(s2 ∈ l->∃cs,vs e2= .agg cs/\Bo w g cs R))/\(p ∈ l->q ∈ l->vs p≠vs q)
section
variable {old:Array Value} {R:TypeId} {w1 w w':World} {F:List (TFact old R)} {p q s e s2 e2 i:Nat} {l:List Nat} {vs:Nat->Value} {v:Value} {cs:Array Value}
theorem Trip.nil:Trip w1 F p q s e s2 e2 [] (fun _=>undef) w1.drew:=⟨(br _ _).drew,by simp,by simp,by simp,by simp,by simp,by simp⟩
theorem Trip.facts (h:∀j ∈ l,phiT F j (vs j) w')(hv:phiT F i v w'):∀j ∈ l ++[i],phiT F j (upd vs i v j) w':=by
 intro j hj
 by_cases c:j=i
 ·subst c;rw[upd_same];exact hv
 ·rw[upd_ne c];exact h j ((mem_snoc c).1 hj)
theorem Trip.grow (h:∀j ∈ l,phiT F j (vs j) w)(hg:Below w.heap.size w w'):∀j ∈ l,phiT F j (vs j) w':=fun j hj=>(F.getD j TFact.any).keep _ _ _ (h j hj) hg
theorem Trip.step (h:Trip w1 F p q s e s2 e2 l vs w)(hn:i ∉ l)(hp:p≠i)(hq:q≠i)(hs:s≠i)(hs2:s2≠i)(hv:phiT F i v w')(hg:Below w.heap.size w w'):Trip w1 F p q s e s2 e2 (l ++[i]) (upd vs i v) w':=by
 obtain⟨h1,h2,h3,h3',h4,h5,h6⟩:=h
 refine⟨bt h1 hg,Trip.facts (Trip.grow h2 hg) hv,fun c=>?_,fun c=>?_,fun c=>?_,fun c=>?_,fun a b=>?_⟩
 ·obtain⟨a,b,d⟩:=h3 ((mem_snoc hs).1 c);exact⟨List.mem_append_left _ a,List.mem_append_left _ b,List.mem_append_left _ d⟩
 ·obtain⟨a,b,d⟩:=h3' ((mem_snoc hs2).1 c);exact⟨List.mem_append_left _ a,List.mem_append_left _ b,List.mem_append_left _ d⟩
 ·obtain⟨g,e1,e3,e4,e5⟩:=h4 ((mem_snoc hp).1 c);rw[upd_ne hp]
  refine⟨g,e1,e3,fun c=>(e4 (fun d=>c ((mem_snoc hs).2 d))).below hg,fun c=>?_⟩
  have sl:=(mem_snoc hs).1 c;obtain⟨cs,e6,e7⟩:=e5 sl
  exact⟨cs,by rw[upd_ne (show e≠i from fun d=>hn (d▸(h3 sl).2.2))];exact e6,e7.below hg⟩
 ·obtain⟨g,e1,e3,e4,e5⟩:=h5 ((mem_snoc hq).1 c);rw[upd_ne hq]
  refine⟨g,e1,e3,fun c=>(e4 (fun d=>c ((mem_snoc hs2).2 d))).below hg,fun c=>?_⟩
  have sl:=(mem_snoc hs2).1 c;obtain⟨cs,e6,e7⟩:=e5 sl
  exact⟨cs,by rw[upd_ne (show e2≠i from fun d=>hn (d▸(h3' sl).2.2))];exact e6,e7.below hg⟩
 ·rw[upd_ne hp,upd_ne hq];exact h6 ((mem_snoc hp).1 a) ((mem_snoc hq).1 b)
theorem Trip.newp (h:Trip w1 F p q s e s2 e2 l vs w)(hn:p ∉ l)(hpq:p≠q)(hs:s≠p)(hs2:s2≠p)(hf:∀v u,phiT F p v u):
  Trip w1 F p q s e s2 e2 (l ++[p]) (upd vs p (.pointer (some ⟨w.heap.size,0,none⟩))) (w.alloc (.cells old R)):=by
 obtain⟨h1,h2,h3,h3',h4,h5,h6⟩:=h;have b:=bel1 w (.cells old R)
 have ns:s ∉ l:=fun c=>hn (h3 c).1
 have ns':s ∉ l ++[p]:=fun c=>ns ((mem_snoc hs).1 c)
 have ms:s2 ∉ l:=fun c=>hn (h3' c).1
 have ms':s2 ∉ l ++[p]:=fun c=>ms ((mem_snoc hs2).1 c)
 refine⟨bt h1 b,Trip.facts (Trip.grow h2 b) (hf _ _),fun c=>absurd c ns',fun c=>absurd c ms',fun _=>⟨_,upd_same _ _ _,h1.size,fun _=>Bo.new _ _ _,fun c=>absurd c ns'⟩,fun c=>?_,fun _ c=>?_⟩
 ·obtain⟨g,e1,e3,e4,_⟩:=h5 ((mem_snoc (Ne.symm hpq)).1 c);rw[upd_ne (Ne.symm hpq)]
  exact⟨g,e1,e3,fun _=>(e4 ms).below b,fun c=>absurd c ms'⟩
 ·obtain⟨g,e1,e3,e4,_⟩:=h5 ((mem_snoc (Ne.symm hpq)).1 c);rw[upd_same,upd_ne (Ne.symm hpq),e1];exact far (e4 ms).lt
theorem Trip.newq (h:Trip w1 F p q s e s2 e2 l vs w)(hn:q ∉ l)(hpq:p≠q)(hs:s≠q)(hs2:s2≠q)(hf:∀v u,phiT F q v u):
  Trip w1 F p q s e s2 e2 (l ++[q]) (upd vs q (.pointer (some ⟨w.heap.size,0,none⟩))) (w.alloc (.cells old R)):=by
 obtain⟨h1,h2,h3,h3',h4,h5,h6⟩:=h;have b:=bel1 w (.cells old R)
 have ns:s ∉ l:=fun c=>hn (h3 c).2.1
 have ns':s ∉ l ++[q]:=fun c=>ns ((mem_snoc hs).1 c)
 have ms:s2 ∉ l:=fun c=>hn (h3' c).2.1
 have ms':s2 ∉ l ++[q]:=fun c=>ms ((mem_snoc hs2).1 c)
 refine⟨bt h1 b,Trip.facts (Trip.grow h2 b) (hf _ _),fun c=>absurd c ns',fun c=>absurd c ms',fun c=>?_,fun _=>⟨_,upd_same _ _ _,h1.size,fun _=>Bo.new _ _ _,fun c=>absurd c ms'⟩,fun c _=>?_⟩
 ·obtain⟨g,e1,e3,e4,_⟩:=h4 ((mem_snoc hpq).1 c);rw[upd_ne hpq]
  exact⟨g,e1,e3,fun _=>(e4 ns).below b,fun c=>absurd c ns'⟩
 ·obtain⟨g,e1,e3,e4,_⟩:=h4 ((mem_snoc hpq).1 c);rw[upd_same,upd_ne hpq,e1]
  exact fun c=>far (e4 ns).lt c.symm
theorem one_or{P Q:Prop}{g:Nat}{cs':Array Value}{va:Value}(h1:P->Bo w g old R)(h2:Q->∃cs,va= .agg cs/\Bo w g cs R){g':Nat}(S:StN w w' g' old cs' R)(hne:g≠g'):(P->Bo w' g old R)/\(Q->∃cs,va= .agg cs/\Bo w' g cs R):=
 ⟨fun c=>(h1 c).stn S hne,fun c=>by obtain⟨cs,a,b⟩:=h2 c;exact⟨cs,a,b.stn S hne⟩⟩
theorem Trip.sto{g:Nat}(h:Trip w1 F p q s e s2 e2 l vs w)(hn:s ∉ l)(h22:s2≠s)(mp:p ∈ l)(mq:q ∈ l)(me:e ∈ l)(hf:∀v u,phiT F s v u)(hg:vs p= .pointer (some ⟨g,0,none⟩))(he:vs e= .agg cs)(S:StN w w' g old cs R):
  Trip w1 F p q s e s2 e2 (l ++[s]) (upd vs s v) w':=by
 obtain⟨h1,h2,h3,h3',h4,h5,h6⟩:=h
 have ms:s ∈ l ++[s]:=by simp
 have ps:p≠s:=fun c=>hn (c▸mp)
 have qs:q≠s:=fun c=>hn (c▸mq)
 have es:e≠s:=fun c=>hn (c▸me)
 obtain⟨g1,e1,hb1,_,_⟩:=h4 mp
 obtain rfl:g1=g:=by
  rw[e1]at hg
  injection hg with c
  injection c with c
  injection c
 obtain⟨g2,e3,hb2,X2,X3⟩:=h5 mq
 have hne:g2≠g1:=fun c=>h6 mp mq (by rw[e1,e3,c])
 obtain⟨Y2,Y3⟩:=one_or X2 X3 S hne
 refine⟨S.below h1 hb1,Trip.facts (fun j hj=>(F.getD j TFact.any).stn _ _ _ _ _ (h2 j hj) S) (hf _ _),fun _=>⟨List.mem_append_left _ mp,List.mem_append_left _ mq,List.mem_append_left _ me⟩,fun c=>?_,fun _=>?_,fun _=>?_,fun _ _=>?_⟩
 ·obtain⟨a,b,d⟩:=h3' ((mem_snoc h22).1 c);exact⟨List.mem_append_left _ a,List.mem_append_left _ b,List.mem_append_left _ d⟩
 ·rw[upd_ne ps,upd_ne es]
  exact⟨g1,e1,hb1,fun c=>absurd ms c,fun _=>⟨cs,he,S.box⟩⟩
 ·rw[upd_ne qs]
  refine⟨g2,e3,hb2,fun c=>Y2 (fun d=>c ((mem_snoc h22).2 d)),fun c=>?_⟩
  have sl:=(mem_snoc h22).1 c
  rw[upd_ne (show e2≠s from fun d=>hn (d▸(h3' sl).2.2))]
  exact Y3 sl
 ·rw[upd_ne ps,upd_ne qs];exact h6 mp mq
theorem Trip.sto2{g:Nat}(h:Trip w1 F p q s e s2 e2 l vs w)(hn:s2 ∉ l)(h22:s≠s2)(mp:p ∈ l)(mq:q ∈ l)(me:e2 ∈ l)(hf:∀v u,phiT F s2 v u)(hg:vs q= .pointer (some ⟨g,0,none⟩))(he:vs e2= .agg cs)(S:StN w w' g old cs R):
  Trip w1 F p q s e s2 e2 (l ++[s2]) (upd vs s2 v) w':=by
 obtain⟨h1,h2,h3,h3',h4,h5,h6⟩:=h
 have ms:s2 ∈ l ++[s2]:=by simp
 have ps:p≠s2:=fun c=>hn (c▸mp)
 have qs:q≠s2:=fun c=>hn (c▸mq)
 have es:e2≠s2:=fun c=>hn (c▸me)
 obtain⟨g1,e1,hb1,X2,X3⟩:=h4 mp;obtain⟨g2,e3,hb2,_,_⟩:=h5 mq
 obtain rfl:g2=g:=by
  rw[e3]at hg
  injection hg with c
  injection c with c
  injection c
 have hne:g1≠g2:=fun c=>h6 mp mq (by rw[e1,e3,c])
 obtain⟨Y2,Y3⟩:=one_or X2 X3 S hne
 refine⟨S.below h1 hb2,Trip.facts (fun j hj=>(F.getD j TFact.any).stn _ _ _ _ _ (h2 j hj) S) (hf _ _),fun c=>?_,fun _=>⟨List.mem_append_left _ mp,List.mem_append_left _ mq,List.mem_append_left _ me⟩,fun _=>?_,fun _=>?_,fun _ _=>?_⟩
 ·obtain⟨a,b,d⟩:=h3 ((mem_snoc h22).1 c);exact⟨List.mem_append_left _ a,List.mem_append_left _ b,List.mem_append_left _ d⟩
 ·rw[upd_ne ps]
  refine⟨g1,e1,hb1,fun c=>Y2 (fun d=>c ((mem_snoc h22).2 d)),fun c=>?_⟩
  have sl:=(mem_snoc h22).1 c
  rw[upd_ne (show e≠s2 from fun d=>hn (d▸(h3 sl).2.2))]
  exact Y3 sl
 ·rw[upd_ne qs,upd_ne es]
  exact⟨g2,e3,hb2,fun c=>absurd ms c,fun _=>⟨cs,he,S.box⟩⟩
 ·rw[upd_ne ps,upd_ne qs];exact h6 mp mq
theorem Trip.all (h:Trip w1 F p q s e s2 e2 l vs w)(mp:p ∈ l)(mq:q ∈ l)(ms:s ∈ l)(m2:s2 ∉ l):∃g g' cs,vs p= .pointer (some ⟨g,0,none⟩)/\vs q= .pointer (some ⟨g',0,none⟩)/\w1.heap.size<=g/\w1.heap.size<=g'/\g≠g'/\vs e= .agg cs/\Bo w g cs R/\Bo w g' old R:=by
 obtain⟨h1,h2,h3,h3',h4,h5,h6⟩:=h;obtain⟨g,e1,e3,_,e4⟩:=h4 mp;obtain⟨cs,e5,e6⟩:=e4 ms;obtain⟨g',f1,f2,f3,_⟩:=h5 mq
 exact⟨g,g',cs,e1,f1,e3,f2,fun c=>h6 mp mq (by rw[e1,f1,c]),e5,e6,f3 m2⟩
theorem Trip.both (h:Trip w1 F p q s e s2 e2 l vs w)(mp:p ∈ l)(mq:q ∈ l)(ms:s ∈ l)(m2:s2 ∈ l):∃g g' cs cs2,vs p= .pointer (some ⟨g,0,none⟩)/\vs q= .pointer (some ⟨g',0,none⟩)/\w1.heap.size<=g/\w1.heap.size<=g'/\g≠g'/\vs e= .agg cs/\vs e2= .agg cs2/\Bo w g cs R/\Bo w g' cs2 R:=by
 obtain⟨h1,h2,h3,h3',h4,h5,h6⟩:=h;obtain⟨g,e1,e3,_,e4⟩:=h4 mp;obtain⟨cs,e5,e6⟩:=e4 ms;obtain⟨g',f1,f2,_,f3⟩:=h5 mq;obtain⟨cs2,f4,f5⟩:=f3 m2
 exact⟨g,g',cs,cs2,e1,f1,e3,f2,fun c=>h6 mp mq (by rw[e1,f1,c]),e5,f4,e6,f5⟩
end
section
variable {P:Program} {ops:Array Oper} {Q:Exit->Act->World->Prop} {a0:Act} {T:List Nat} {ds:List (Option Tmp)} {ls:List (List Nat)} {k:Nat} {old:Array Value} {R:TypeId} {F:List (TFact old R)} {w1:World} {p q s e s2 e2:Nat}
theorem xcons{i:Nat}{o:Oper}{r:List Nat}{di:Option Tmp}{L:List (Option Tmp × Nat)}{f:TFact old R}(hp:p≠i)(hq:q≠i)(hs':s≠i)(hs2:s2≠i)(ho:ops[i]?=some o)(hdi:ds.getD i none=di)(hL:((ls.getD i []).map fun j=>(ds.getD j none,j))=L)(hf:F.getD i TFact.any=f)
  (h:∀vs w,Below w1.heap.size w1 w->(∀j ∈ ls.getD i [],phiT F j (vs j) w)->∀K:Act->World->Prop,Shut (∀v w',f.P v w'->Grow w w'->K ((putl vs L a0).put di v) w')->
   if Region.wanted o (yielded ops (putl vs L a0).tmps)=true then Oper.wp P o (putl vs L a0) w K Q else K ((putl vs L a0).put o.dst undef) w)
  (hs:StepsI P ops Q a0 (dstOf ds) (depOf ls) (Trip w1 F p q s e s2 e2) r):StepsI P ops Q a0 (dstOf ds) (depOf ls) (Trip w1 F p q s e s2 e2) (i::r):=by
 refine icons ho hdi hL (fun l vs w hI hn hd K hK=>h vs w hI.1 (fun j hj=>hI.2.1 j (hd j hj)) K ?_) hs
 intro v w' h1 h2
 exact hK.out v w' (hI.step hn hp hq hs' hs2 (by unfold phiT;rw[hf];exact h1) h2)
theorem xnew{i:Nat}{o:Oper}{r:List Nat}{di:Option Tmp}{L:List (Option Tmp × Nat)}(hpq:p≠q)(hi:i=p\/i=q)(hsp:s≠p/\s2≠p)(hsq:s≠q/\s2≠q)(hf:F.getD i TFact.any=TFact.any)(ho:ops[i]?=some o)(hdi:ds.getD i none=di)(hL:((ls.getD i []).map fun j=>(ds.getD j none,j))=L)
  (h:∀vs w,∀K:Act->World->Prop,Shut (K ((putl vs L a0).put di (.pointer (some ⟨w.heap.size,0,none⟩))) (w.alloc (.cells old R)))->
   if Region.wanted o (yielded ops (putl vs L a0).tmps)=true then Oper.wp P o (putl vs L a0) w K Q else K ((putl vs L a0).put o.dst undef) w)
  (hs:StepsI P ops Q a0 (dstOf ds) (depOf ls) (Trip w1 F p q s e s2 e2) r):StepsI P ops Q a0 (dstOf ds) (depOf ls) (Trip w1 F p q s e s2 e2) (i::r):=by
 refine icons ho hdi hL (fun l vs w hI hn hd K hK=>h vs w K ?_) hs
 have fa:∀v u,phiT F i v u:=fun v u=>by unfold phiT;rw[hf];trivial
 rcases hi with rfl | rfl
 ·exact hK.out _ _ (hI.newp hn hpq hsp.1 hsp.2 fa)
 ·exact hK.out _ _ (hI.newq hn hpq hsq.1 hsq.2 fa)
theorem xsto{o:Oper}{r:List Nat}{di:Option Tmp}{L:List (Option Tmp × Nat)}(h22:s2≠s)(hp:p ∈ ls.getD s [])(hq:q ∈ ls.getD s [])(he:e ∈ ls.getD s [])(hf:F.getD s TFact.any=TFact.any)(ho:ops[s]?=some o)(hdi:ds.getD s none=di)(hL:((ls.getD s []).map fun j=>(ds.getD j none,j))=L)
  (h:∀vs w,Below w1.heap.size w1 w->(∀j ∈ ls.getD s [],phiT F j (vs j) w)->∀g,vs p= .pointer (some ⟨g,0,none⟩)->Bo w g old R->∀K:Act->World->Prop,Shut (∀v w' cs,vs e= .agg cs->StN w w' g old cs R->K ((putl vs L a0).put di v) w')->
   if Region.wanted o (yielded ops (putl vs L a0).tmps)=true then Oper.wp P o (putl vs L a0) w K Q else K ((putl vs L a0).put o.dst undef) w)
  (hs:StepsI P ops Q a0 (dstOf ds) (depOf ls) (Trip w1 F p q s e s2 e2) r):StepsI P ops Q a0 (dstOf ds) (depOf ls) (Trip w1 F p q s e s2 e2) (s::r):=by
 refine icons ho hdi hL (fun l vs w hI hn hd K hK=>?_) hs
 obtain⟨g,e1,_,X,_⟩:=hI.2.2.2.2.1 (hd p hp)
 refine h vs w hI.1 (fun j hj=>hI.2.1 j (hd j hj)) g e1 (X hn) K ?_
 intro v w' cs h1 h2
 exact hK.out v w' (hI.sto hn h22 (hd p hp) (hd q hq) (hd e he) (fun v u=>by unfold phiT;rw[hf];trivial) e1 h1 h2)
theorem xsto2{o:Oper}{r:List Nat}{di:Option Tmp}{L:List (Option Tmp × Nat)}(h22:s≠s2)(hp:p ∈ ls.getD s2 [])(hq:q ∈ ls.getD s2 [])(he:e2 ∈ ls.getD s2 [])(hf:F.getD s2 TFact.any=TFact.any)(ho:ops[s2]?=some o)(hdi:ds.getD s2 none=di)(hL:((ls.getD s2 []).map fun j=>(ds.getD j none,j))=L)
  (h:∀vs w,Below w1.heap.size w1 w->(∀j ∈ ls.getD s2 [],phiT F j (vs j) w)->∀g,vs q= .pointer (some ⟨g,0,none⟩)->Bo w g old R->∀K:Act->World->Prop,Shut (∀v w' cs,vs e2= .agg cs->StN w w' g old cs R->K ((putl vs L a0).put di v) w')->
   if Region.wanted o (yielded ops (putl vs L a0).tmps)=true then Oper.wp P o (putl vs L a0) w K Q else K ((putl vs L a0).put o.dst undef) w)
  (hs:StepsI P ops Q a0 (dstOf ds) (depOf ls) (Trip w1 F p q s e s2 e2) r):StepsI P ops Q a0 (dstOf ds) (depOf ls) (Trip w1 F p q s e s2 e2) (s2::r):=by
 refine icons ho hdi hL (fun l vs w hI hn hd K hK=>?_) hs
 obtain⟨g,e1,_,X,_⟩:=hI.2.2.2.2.2.1 (hd q hq)
 refine h vs w hI.1 (fun j hj=>hI.2.1 j (hd j hj)) g e1 (X hn) K ?_
 intro v w' cs h1 h2
 exact hK.out v w' (hI.sto2 hn h22 (hd p hp) (hd q hq) (hd e2 he) (fun v u=>by unfold phiT;rw[hf];trivial) e1 h1 h2)
theorem region_trip{id fuel:Nat}{L:List (Option Tmp × Nat)}(hp:p ∈ T)(hq:q ∈ T)(hs:s ∈ T)(hs2:s2 ∉ T)(hm:P.follows .mixedOrders=true)(hok:ok .any ops T (dstOf ds) (depOf ls) k a0.tmps.size=true)(hnd:T.Nodup)
  (hL:(T.map fun j=>(ds.getD j none,j))=L) (hfu:ops.size-T.length=fuel)
  (step:StepsI P ops (NoPanic Q) a0 (dstOf ds) (depOf ls) (Trip w1 F p q s e s2 e2) T)
  (fin:∀vs wj,Below w1.heap.size w1 wj->(∀j ∈ T,phiT F j (vs j) wj)->(∃g g' cs,vs p= .pointer (some ⟨g,0,none⟩)/\vs q= .pointer (some ⟨g',0,none⟩)/\w1.heap.size<=g/\w1.heap.size<=g'/\g≠g'/\vs e= .agg cs/\Bo wj g cs R/\Bo wj g' old R)->
   wpAny P .any ops (NoPanic Q) fuel (mark T ops.size) (putl vs L a0) wj):
  (Code.region id ops true).wp P Q a0 w1:=
 region_inv (T:=T) (ds:=ds) (ls:=ls) (k:=k) (I:=Trip w1 F p q s e s2 e2) hm hok hnd hL hfu Trip.nil step (fun l vs wj hl hI=>fin vs wj hI.1 (fun j hj=>hI.2.1 j ((hl j).2 hj)) (hI.all ((hl p).2 hp) ((hl q).2 hq) ((hl s).2 hs) (fun c=>hs2 ((hl s2).1 c))))
theorem region_quad{id fuel:Nat}{L:List (Option Tmp × Nat)}(hp:p ∈ T)(hq:q ∈ T)(hs:s ∈ T)(hs2:s2 ∈ T)(hm:P.follows .mixedOrders=true)(hok:ok .any ops T (dstOf ds) (depOf ls) k a0.tmps.size=true)(hnd:T.Nodup)
  (hL:(T.map fun j=>(ds.getD j none,j))=L) (hfu:ops.size-T.length=fuel)
  (step:StepsI P ops (NoPanic Q) a0 (dstOf ds) (depOf ls) (Trip w1 F p q s e s2 e2) T)
  (fin:∀vs wj,Below w1.heap.size w1 wj->(∀j ∈ T,phiT F j (vs j) wj)->(∃g g' cs cs2,vs p= .pointer (some ⟨g,0,none⟩)/\vs q= .pointer (some ⟨g',0,none⟩)/\w1.heap.size<=g/\w1.heap.size<=g'/\g≠g'/\vs e= .agg cs/\vs e2= .agg cs2/\Bo wj g cs R/\Bo wj g' cs2 R)->
   wpAny P .any ops (NoPanic Q) fuel (mark T ops.size) (putl vs L a0) wj):
  (Code.region id ops true).wp P Q a0 w1:=
 region_inv (T:=T) (ds:=ds) (ls:=ls) (k:=k) (I:=Trip w1 F p q s e s2 e2) hm hok hnd hL hfu Trip.nil step (fun l vs wj hl hI=>fin vs wj hI.1 (fun j hj=>hI.2.1 j ((hl j).2 hj)) (hI.both ((hl p).2 hp) ((hl q).2 hq) ((hl s).2 hs) ((hl s2).2 hs2)))
end
def Lone{old:Array Value}{R:TypeId}(w1:World)(F:List (TFact old R))(g s e:Nat)(l:List Nat)(vs:Nat->Value)(w:World):Prop:=
 ∃nw,Off g nw R w1 w/\(∀j ∈ l,phiT F j (vs j) w)/\(s ∉ l->Bo w g old R)/\(s ∈ l->e ∈ l/\vs e= .agg nw/\Bo w g nw R)
section
variable {old:Array Value} {R:TypeId} {w1 w w':World} {F:List (TFact old R)} {g s e i:Nat} {l:List Nat} {vs:Nat->Value} {v:Value} {cs:Array Value}
theorem Lone.nil (X:Bo w1 g old R):Lone w1 F g s e [] (fun _=>undef) w1.drew:=⟨old,Off.drew w1,by simp,fun _=>X.keep rfl,by simp⟩
theorem Lone.lt (h:Lone w1 F g s e l vs w):g < w.heap.size:=by
 obtain⟨nw,h1,h2,h3,h4⟩:=h
 by_cases c:s ∈ l
 ·exact(h4 c).2.2.lt
 ·exact(h3 c).lt
theorem Lone.step (h:Lone w1 F g s e l vs w)(hn:i ∉ l)(hs:s≠i)(hv:phiT F i v w')(hg:Below w.heap.size w w'):Lone w1 F g s e (l ++[i]) (upd vs i v) w':=by
 have hlt:=h.lt;obtain⟨nw,h1,h2,h3,h4⟩:=h
 refine⟨nw,h1.trans (Off.of_below hg hlt),Trip.facts (Trip.grow h2 hg) hv,fun c=>(h3 (fun d=>c ((mem_snoc hs).2 d))).below hg,fun c=>?_⟩
 obtain⟨a,b,d⟩:=h4 ((mem_snoc hs).1 c)
 exact⟨List.mem_append_left _ a,by rw[upd_ne (show e≠i from fun x=>hn (x▸a))];exact b,d.below hg⟩
theorem Lone.sto (h:Lone w1 F g s e l vs w)(hn:s ∉ l)(me:e ∈ l)(hf:∀v u,phiT F s v u)(he:vs e= .agg cs)(S:StN w w' g old cs R):Lone w1 F g s e (l ++[s]) (upd vs s v) w':=by
 obtain⟨nw,h1,h2,h3,h4⟩:=h
 have O:Off g cs R w w':=Off.of_stn S
 refine⟨cs,⟨O.os.trans h1.os,O.tape.trans h1.tape,O.output.trans h1.output,Nat.le_trans h1.size O.size,fun k hk hne=>(O.block k (Nat.lt_of_lt_of_le hk h1.size) hne).trans (h1.block k hk hne),.inr S.box⟩,Trip.facts (fun j hj=>(F.getD j TFact.any).stn _ _ _ _ _ (h2 j hj) S) (hf _ _),fun c=>absurd (by simp) c,fun _=>⟨List.mem_append_left _ me,?_,S.box⟩⟩
 rw[upd_ne (show e≠s from fun c=>hn (c▸me))]
 exact he
end
section
variable {P:Program} {ops:Array Oper} {Q:Exit->Act->World->Prop} {a0:Act} {T:List Nat} {ds:List (Option Tmp)} {ls:List (List Nat)} {k:Nat} {old:Array Value} {R:TypeId} {F:List (TFact old R)} {w1:World} {g s e:Nat}
theorem ocons{i:Nat}{o:Oper}{r:List Nat}{di:Option Tmp}{L:List (Option Tmp × Nat)}{f:TFact old R}(hs':s≠i)(ho:ops[i]?=some o)(hdi:ds.getD i none=di)(hL:((ls.getD i []).map fun j=>(ds.getD j none,j))=L)(hf:F.getD i TFact.any=f)
  (h:∀vs w nw,Off g nw R w1 w->(∀j ∈ ls.getD i [],phiT F j (vs j) w)->∀K:Act->World->Prop,Shut (∀v w',f.P v w'->Grow w w'->K ((putl vs L a0).put di v) w')->
   if Region.wanted o (yielded ops (putl vs L a0).tmps)=true then Oper.wp P o (putl vs L a0) w K Q else K ((putl vs L a0).put o.dst undef) w)
  (hs:StepsI P ops Q a0 (dstOf ds) (depOf ls) (Lone w1 F g s e) r):StepsI P ops Q a0 (dstOf ds) (depOf ls) (Lone w1 F g s e) (i::r):=by
 refine icons ho hdi hL (fun l vs w hI hn hd K hK=>?_) hs
 obtain⟨nw,h1,h2,h3,h4⟩:=hI
 refine h vs w nw h1 (fun j hj=>h2 j (hd j hj)) K ?_
 intro v w' e1 e2
 exact hK.out v w' (Lone.step ⟨nw,h1,h2,h3,h4⟩ hn hs' (by unfold phiT;rw[hf];exact e1) e2)
theorem osto{o:Oper}{r:List Nat}{di:Option Tmp}{L:List (Option Tmp × Nat)}(he:e ∈ ls.getD s [])(hf:F.getD s TFact.any=TFact.any)(ho:ops[s]?=some o)(hdi:ds.getD s none=di)(hL:((ls.getD s []).map fun j=>(ds.getD j none,j))=L)
  (h:∀vs w,(∀j ∈ ls.getD s [],phiT F j (vs j) w)->Bo w g old R->∀K:Act->World->Prop,Shut (∀v w' cs,vs e= .agg cs->StN w w' g old cs R->K ((putl vs L a0).put di v) w')->
   if Region.wanted o (yielded ops (putl vs L a0).tmps)=true then Oper.wp P o (putl vs L a0) w K Q else K ((putl vs L a0).put o.dst undef) w)
  (hs:StepsI P ops Q a0 (dstOf ds) (depOf ls) (Lone w1 F g s e) r):StepsI P ops Q a0 (dstOf ds) (depOf ls) (Lone w1 F g s e) (s::r):=by
 refine icons ho hdi hL (fun l vs w hI hn hd K hK=>?_) hs
 obtain⟨nw,h1,h2,h3,h4⟩:=hI
 refine h vs w (fun j hj=>h2 j (hd j hj)) (h3 hn) K ?_
 intro v w' cs e1 e2
 exact hK.out v w' (Lone.sto ⟨nw,h1,h2,h3,h4⟩ hn (hd e he) (fun v u=>by unfold phiT;rw[hf];trivial) e1 e2)
theorem region_lone{id fuel:Nat}{L:List (Option Tmp × Nat)}(X:Bo w1 g old R)(hs:s ∈ T)(hm:P.follows .mixedOrders=true)(hok:ok .any ops T (dstOf ds) (depOf ls) k a0.tmps.size=true)(hnd:T.Nodup)
  (hL:(T.map fun j=>(ds.getD j none,j))=L) (hfu:ops.size-T.length=fuel)
  (step:StepsI P ops (NoPanic Q) a0 (dstOf ds) (depOf ls) (Lone w1 F g s e) T)
  (fin:∀vs wj cs,Off g cs R w1 wj->(∀j ∈ T,phiT F j (vs j) wj)->vs e= .agg cs->Bo wj g cs R->
   wpAny P .any ops (NoPanic Q) fuel (mark T ops.size) (putl vs L a0) wj):
  (Code.region id ops true).wp P Q a0 w1:=
 region_inv (T:=T) (ds:=ds) (ls:=ls) (k:=k) (I:=Lone w1 F g s e) hm hok hnd hL hfu (Lone.nil X) step (fun l vs wj hl hI=>by
  obtain⟨nw,h1,h2,h3,h4⟩:=hI;obtain⟨_,a,b⟩:=h4 ((hl s).2 hs)
  exact fin vs wj nw h1 (fun j hj=>h2 j ((hl j).2 hj)) a b)
