/-
 Contracts that the proof rests on.
-/
import Derived.Test.YtomikokonmikgaaGreatDoorYTar
namespace Go.Proofs.YtomikokonmikgaaGreatDoor
open Go.Proofs.Tryz
set_option maxHeartbeats 2000000
open Go.RowKit
set_option linter.unusedVariables false
def Dn (X r:Int):Prop:= -19342822337206103650074625<=r/\r<=19342822337206103650074624/\(-19342822337206103650074625 < r->vr r<=X)/\(r < 19342822337206103650074624->X < vr (r+1))
def Up (X r:Int):Prop:=Dn (-X) (-r)
theorem Dn.mono{X Y r t:Int}(h:Dn X r)(k:Dn Y t)(hXY:X<=Y):r<=t:=by
 obtain⟨h1,h2,c,h4⟩:=h;obtain⟨e,f,g,d⟩:=k
 rcases Int.lt_or_le t r with q | q
 ·exfalso
  have a:=c (by omega);have b:=d (by omega)
  rcases Int.lt_or_eq_of_le (show t+1<=r by omega)with q | q
  ·have:=iZ q
   omega
  ·rw[q]at b
   omega
 ·exact q
theorem Dn.uniq{X r t:Int}(h:Dn X r)(k:Dn X t):r=t:=by
 have a:=h.mono k (Int.le_refl _);have b:=k.mono h (Int.le_refl _)
 omega
theorem Up.mono{X Y r t:Int}(h:Up X r)(k:Up Y t)(hXY:X<=Y):r<=t:=by
 have:=Dn.mono k h (by omega)
 omega
theorem Up.uniq{X r t:Int}(h:Up X r)(k:Up X t):r=t:=by
 have:=Dn.uniq h k
 omega
theorem gc{r:Int}(h1: -19342822337206103650074625 < r)(h2:r < 19342822337206103650074625):Dn (vr r) r:=⟨by omega,by omega,fun _=>Int.le_refl _,fun _=>lM r⟩
theorem gm{r:Int}(h1: -19342822337206103650074625 < r)(h2:r < 19342822337206103650074625):Up (vr r) r:=by
 unfold Up
 rw[<-aF];exact gc (by omega) (by omega)
theorem J3 (m:Nat){a b:Int}(ha:0<=a)(hb:0<=b)(h:(ac m:Int)+a<=b):(m:Int)*2^a.toNat < 2^b.toNat:=by
 have h1:=Nat.mul_lt_mul_of_pos_right (dS m) (Nat.pow_pos (n:=a.toNat) (show 0 < 2 by decide))
 rw[<-Nat.pow_add]at h1
 have h2:=Nat.lt_of_lt_of_le h1 (Nat.pow_le_pow_right (show 0 < 2 by decide) (show ac m+a.toNat<=b.toNat by omega))
 exact_mod_cast h2
theorem J2{m:Nat}(h0:m≠0){a b:Int}(ha:0<=a)(hb:0<=b)(h:b<=(ac m:Int)-1+a):(2:Int)^b.toNat<=(m:Int)*2^a.toNat:=by
 have hl:ac m≠0:=fun e=>h0 (aI.1 e)
 have h1:=Nat.mul_le_mul_right (2^a.toNat) (blen_le h0);rw[<-Nat.pow_add]at h1
 have h2:=Nat.le_trans (Nat.pow_le_pow_right (show 0 < 2 by decide) (show b.toNat<=ac m-1+a.toNat by omega)) h1
 exact_mod_cast h2
theorem CP:vp 1=2^(63-1048576+(KK:Int)).toNat:=by
 have:=dK (M:=9223372036854775808) (E:= -1048576) (by decide) (by decide) (by decide)
 rw[show (9223372036854775808:Int)-9223372036854775808+1+(-1048576+1048576)*9223372036854775808=1 by decide]at this
 rw[this,show (63-1048576+(KK:Int)).toNat=63+(-1048576+(KK:Int)).toNat by rw[dL];omega,Int.pow_add]
 rfl
theorem If:vp 19342822337206103650074624 < 2^(64+1048576+(KK:Int)).toNat:=by
 have:=dK (M:=18446744073709551615) (E:=1048576) (by decide) (by decide) (by decide)
 rw[show (18446744073709551615:Int)-9223372036854775808+1+(1048576+1048576)*9223372036854775808=19342822337206103650074624 by decide]at this
 rw[this,show (64+1048576+(KK:Int)).toNat=64+(1048576+(KK:Int)).toNat by rw[dL];omega,Int.pow_add]
 exact Int.mul_lt_mul_of_pos_right (by decide) (aB _)
theorem I1{m:Nat}{E:Int}(h0:m≠0)(hE1: -4194304<=E)(hE2:E<=4194304)(ho:m%2=1):Dn ((m:Int)*2^(E+KK).toNat) (lo m E)/\Up ((m:Int)*2^(E+KK).toNat) (hi m E)/\0<=lo m E/\0<=hi m E:=by
 have u:=dL;obtain⟨c,f⟩:=qv m E
 have hl:ac m≠0:=fun e=>h0 (aI.1 e)
 have hx:xp m E=E+(ac m:Nat)-64:=rfl
 have e0:(m==0)=false:=by simpa using h0
 have p:0 < (m:Int)*2^(E+KK).toNat:=Int.mul_pos (by omega) (aB _)
 by_cases c1:1048576 < xp m E
 ·have n:lo m E=19342822337206103650074624:=by
   unfold lo
   rw[if_neg h0,if_pos c1]
  have o:ext m E=false:=by
   unfold ext
   rw[e0,df (show ¬xp m E<=1048576 by omega)]
   rfl
  have k:hi m E=lo m E+1:=by
   unfold hi
   rw[o,if_neg (by decide)]
  have g:=J2 h0 (a:=E+KK) (b:=64+1048576+KK) (by omega) (by omega) (by omega);have ht:=If
  have r:vr 19342822337206103650074624=vp 19342822337206103650074624:=by
   unfold vr
   rw[if_neg (by decide)]
  rw[k,n]
  refine⟨⟨by decide,by decide,fun _=>by omega,fun h=>absurd h (by decide)⟩,⟨by decide,by decide,fun h=>absurd h (by decide),fun _=>?_⟩,by decide,by decide⟩
  have q:vr (-(19342822337206103650074624+1)+1)= -vr 19342822337206103650074624:=aF 19342822337206103650074624
  omega
 ·by_cases c2:xp m E < -1048576
  ·have n:lo m E=0:=by
    unfold lo
    rw[if_neg h0,if_neg c1,if_pos c2]
   have o:ext m E=false:=by
    unfold ext
    rw[e0,df (show ¬ -1048576<=xp m E by omega)]
    simp
   have k:hi m E=lo m E+1:=by
    unfold hi
    rw[o,if_neg (by decide)]
   have g:=J3 m (a:=E+KK) (b:=63-1048576+KK) (by omega) (by omega) (by omega);have h1:=CP
   have r:vr 1=vp 1:=by
    unfold vr
    rw[if_neg (by decide)]
   have t:vr 0=0:=rfl
   rw[k,n]
   have q:vr (-(0+1))= -vr 1:=aF 1
   refine⟨⟨by decide,by decide,fun _=>by omega,fun _=>?_⟩,⟨by decide,by decide,fun _=>by omega,fun _=>?_⟩,by decide,by decide⟩
   ·rw[show (0:Int)+1=1 from rfl]
    omega
   ·rw[show (-(0+1)+1:Int)=0 from rfl]
    omega
  ·obtain⟨d,v2,i,j⟩:=I2 (m:=m) (E:=E) h0 (by omega) (by omega) (by omega) ho
   revert d v2 i j
   have hh:hi m E=if ext m E=true then lo m E else lo m E+1:=rfl
   cases hx:ext m E
   ·rw[hx,if_neg (by decide)]at hh;rw[hh]
    revert c f
    generalize lo m E=l
    intro c f d v2 i j
    have s:=j rfl;have n1:=aF (l+1);have n2:=aF l
    refine⟨⟨by omega,by omega,fun _=>d,fun _=>v2⟩,⟨by omega,by omega,fun _=>by omega,fun _=>?_⟩,c,by omega⟩
    rw[show -(l+1)+1= -l by omega]
    omega
   ·rw[hx,if_pos rfl]at hh;rw[hh]
    revert c f
    generalize lo m E=l
    intro c f d v2 i j
    have s:=i rfl;have n1:=aF l;have n2:=lM (-l)
    refine⟨⟨by omega,by omega,fun _=>d,fun _=>v2⟩,⟨by omega,by omega,fun _=>by omega,fun _=>by omega⟩,c,c⟩
theorem qX{X r:Int}(h:Dn X r):Up (-X) (-r):=by
 unfold Up
 rw[Int.neg_neg,Int.neg_neg];exact h
theorem pX{X r:Int}(h:Up X r):Dn (-X) (-r):=h
theorem dc{P:Int × Int}(hP:Nf P):Dn (vl P) (ed false P.1 P.2)/\Up (vl P) (ed true P.1 P.2):=by
 rcases hP.cases with e | ⟨g,j,e1,e2⟩
 ·subst e;rw[fX,fX,kq];have h:=gc (r:=0) (by decide) (by decide);have k:=gm (r:=0) (by decide) (by decide)
  rw[show vr 0=0 from rfl]at h k
  exact⟨h,k⟩
 ·obtain⟨d,u,_,_⟩:=I1 (m:=P.1.natAbs) (E:=P.2) (by omega) e1 e2 j
  have a:vl P=P.1*2^(P.2+KK).toNat:=rfl
  rcases Int.lt_or_lt_of_ne g with i | l
  ·have hs:true=decide (P.1 < 0):=(dt i).symm
   have b:=gL (E:=P.2) hs;have c:=gM (up:=true) (E:=P.2) hs rfl
   rw[show (!true)=false from rfl]at b
   have f:vl P= -((P.1.natAbs:Int)*2^(P.2+KK).toNat):=by
    rw[a,<-Int.neg_mul]
    congr 1
    omega
   have s1:∀x,aj true x= -x:=fun x=>if_pos rfl
   rw[b,c,f,s1,s1];exact⟨pX u,qX d⟩
  ·have hs:false=decide (P.1 < 0):=(df (by omega)).symm
   have b:=gM (up:=false) (E:=P.2) hs rfl;have c:=gL (E:=P.2) hs
   rw[show (!false)=true from rfl]at c
   have f:vl P=(P.1.natAbs:Int)*2^(P.2+KK).toNat:=by
    rw[a]
    congr 1
    omega
   have s1:∀x,aj false x=x:=fun x=>if_neg (by decide)
   rw[b,c,f,s1,s1];exact⟨d,u⟩
theorem kK{P Q:Int × Int}(hP:Nf P)(hQ:Nf Q)(h:vl P<=vl Q)(up:Bool):ed up P.1 P.2<=ed up Q.1 Q.2:=by
 cases up
 ·exact(dc hP).1.mono (dc hQ).1 h
 ·exact(dc hP).2.mono (dc hQ).2 h
theorem qO{P:Int × Int}(hP:Nf P)(up:Bool):ed (!up) (-P.1) P.2= -ed up P.1 P.2:=by
 have e:Nf (ng P):=I8 hP
 have f:=JC P;obtain⟨a,b⟩:=dc hP;obtain⟨c,d⟩:=dc e;rw[f]at c d
 cases up
 ·have:=d.uniq (qX a)
  exact this
 ·have:=c.uniq (pX b)
  exact this
def ep (r:Int):Int × Int:=if r=0 then (0,0)else mk (aj (decide (r < 0)) (((r.natAbs:Int)-1)%9223372036854775808+9223372036854775808)) (((r.natAbs:Int)-1) /9223372036854775808-1048576)
theorem rH{D:Int}{s:Bool}{M E r:Int}(q:Fq D s M E r)(hx:lW D s M E=true):jp D s M E=ep r:=by
 unfold jp ep
 rw[if_pos hx]
 rcases q.cases with⟨rfl,rfl,rfl,rfl,a⟩ | ⟨rfl,h1,h2,c,h4,⟨rfl,b⟩ | ⟨rfl,b⟩⟩ | ⟨rfl,_⟩
 ·rw[if_pos a,show aj false 0=0 from if_neg (by decide)]
  exact da 0
 ·rw[if_neg (by omega),df (show ¬r < 0 by omega)]
  congr 2
  ·omega
  ·omega
 ·rw[if_neg (by omega),dt (show r < 0 by omega)]
  congr 2
  ·omega
  ·omega
 ·exact absurd hx (by unfold lW;simp)
theorem fk (r:Int):Nf (ep r):=by
 unfold ep
 split
 ·exact da 0
 ·exact ft _ _
theorem Fy{r:Int}(h1: -19342822337206103650074625 < r)(h2:r < 19342822337206103650074625):∃D s M E,Fq D s M E r:=by
 by_cases h0:r=0
 ·exact⟨0,false,0,0,h0▸Fq.nought⟩
 ·by_cases hn:r < 0
  ·refine⟨1,true,((r.natAbs:Int)-1)%9223372036854775808+9223372036854775808,((r.natAbs:Int)-1) /9223372036854775808-1048576,Fq.fin (by omega) (by omega) (by omega) (by omega) ?_⟩
   rw[show ∀x,aj true x= -x from fun x=>if_pos rfl]
   omega
  ·refine⟨1,false,((r.natAbs:Int)-1)%9223372036854775808+9223372036854775808,((r.natAbs:Int)-1) /9223372036854775808-1048576,Fq.fin (by omega) (by omega) (by omega) (by omega) ?_⟩
   rw[show ∀x,aj false x=x from fun x=>if_neg (by decide)]
   omega
theorem tD{r:Int}(h1: -19342822337206103650074625 < r)(h2:r < 19342822337206103650074625):vl (ep r)=vr r:=by
 obtain⟨D,s,M,E,q⟩:=Fy h1 h2;obtain⟨a,b⟩:=rJ q h1 h2;rw[<-rH q a,b]
theorem zw (r:Int):ep (-r)=ng (ep r):=by
 unfold ep
 by_cases h0:r=0
 ·rw[if_pos (by omega),if_pos h0]
  rfl
 ·rw[if_neg (by omega),if_neg h0,Int.natAbs_neg,vE h0];generalize aj (decide (r < 0)) _=z;exact kH z _
theorem kB (r:Int)(h1: -19342822337206103650074625 < r)(h2:r < 19342822337206103650074625){h:Nat}(hh:1048700<=h)(hh2:h<=4194304):kP h (ep r):=by
 unfold ep
 by_cases a:r=0
 ·rw[if_pos a];exact kP.zero h
 ·rw[if_neg a];obtain⟨M,c⟩:∃M,((r.natAbs:Int)-1)%9223372036854775808+9223372036854775808=M:=⟨_,rfl⟩;obtain⟨E,b⟩:∃E,((r.natAbs:Int)-1) /9223372036854775808-1048576=E:=⟨_,rfl⟩;rw[c,b];refine(kG (z:=aj (decide (r < 0)) M) (e:=E) (h:=h) hh2 (by omega) ?_).1
  have d:(aj (decide (r < 0)) M).natAbs=M.toNat:=by
   cases decide (r < 0)
   ·rw[show aj false M=M from if_neg (by decide)];omega
   ·rw[show aj true M= -M from if_pos rfl];omega
  rw[d]
  have:M.toNat < 2^64:=by omega
  have:=Nat.mul_lt_mul_of_pos_right this (Nat.pow_pos (n:=(E+(h:Int)).toNat) (show 0 < 2 by decide))
  rw[<-Nat.pow_add]at this;exact Nat.lt_of_lt_of_le this (Nat.pow_le_pow_right (by decide) (by omega))
def au (x:Int):Bool:=x==TP || x== -TP
def av (up:Bool)(x y:Int):Int:=
 if au x=true then (if au y=true/\x≠y then aj (!up) TP else x)else if au y=true then y else ed up (pl (ep x) (ep y)).1 (pl (ep x) (ep y)).2
def eC (up:Bool)(x y:Int):Int:=
 if x=0\/y=0 then 0 else if au x=true\/au y=true then aj (decide (x < 0) !=decide (y < 0)) TP else ed up (ml (ep x) (ep y)).1 (ml (ep x) (ep y)).2
theorem bj{x:Int}(h1: -19342822337206103650074625<=x)(h2:x<=19342822337206103650074625)(h:au x=false): -19342822337206103650074625 < x/\x < 19342822337206103650074625:=by
 unfold au at h
 simp[dj]at h
 omega
theorem bL{x:Int}(h:au x=true):x=19342822337206103650074625\/x= -19342822337206103650074625:=by
 unfold au at h
 simp[dj]at h
 omega
theorem kl{x y:Int}(x1: -19342822337206103650074625 < x)(x2:x < 19342822337206103650074625)(y1: -19342822337206103650074625 < y)(y2:y < 19342822337206103650074625):Nf (pl (ep x) (ep y))/\vl (pl (ep x) (ep y))=vr x+vr y:=by
 obtain⟨η,c⟩:∃η:Nat,η=2000000:=⟨_,rfl⟩;have f:=kB x x1 x2 (h:=η) (by omega) (by omega);have g:=kB y y1 y2 (h:=η) (by omega) (by omega);obtain⟨a,b⟩:=BC (by omega) f g;exact⟨a.nf,by rw[b,tD x1 x2,tD y1 y2]⟩
theorem my{x y:Int}(x1: -19342822337206103650074625 < x)(x2:x < 19342822337206103650074625)(y1: -19342822337206103650074625 < y)(y2:y < 19342822337206103650074625):Nf (ml (ep x) (ep y))/\vl (ml (ep x) (ep y))*2^KK=vr x*vr y:=by
 obtain⟨η,c⟩:∃η:Nat,η=2000000:=⟨_,rfl⟩;have f:=kB x x1 x2 (h:=η) (by omega) (by omega);have g:=kB y y1 y2 (h:=η) (by omega) (by omega);obtain⟨a,b⟩:=GT (by omega) f g;exact⟨a.nf,by rw[b,tD x1 x2,tD y1 y2]⟩
theorem Ca{P:Int × Int}(hP:Nf P)(up:Bool): -19342822337206103650074625<=ed up P.1 P.2/\ed up P.1 P.2<=19342822337206103650074625:=by
 obtain⟨a,b⟩:=dc hP
 cases up
 ·have:=a.1;have:=a.2.1;omega
 ·have:=b.1;have:=b.2.1;omega
theorem ff:¬(false=true):=Bool.false_ne_true
theorem dZ{x y:Int}(up:Bool)(hx:au x=false)(hy:au y=false):av up x y=ed up (pl (ep x) (ep y)).1 (pl (ep x) (ep y)).2:=by
 unfold av
 rw[hx,hy,if_neg ff,if_neg ff]
theorem ec{x y:Int}(up:Bool)(hx:au x=false)(hy:au y=true):av up x y=y:=by
 unfold av
 rw[hx,hy,if_neg ff,if_pos rfl]
theorem dM{x y:Int}(up:Bool)(hx:au x=true)(hy:au y=false):av up x y=x:=by
 unfold av
 rw[hx,hy,if_pos rfl,if_neg (fun c=>ff c.1)]
theorem dR{x y:Int}(up:Bool)(hx:au x=true)(h:x=y):av up x y=x:=by
 unfold av
 rw[hx,if_pos rfl,if_neg (fun c=>c.2 h)]
theorem dF{x y:Int}(up:Bool)(hx:au x=true)(hy:au y=true)(h:x≠y):av up x y=aj (!up) TP:=by
 unfold av
 rw[hx,hy,if_pos rfl,if_pos ⟨rfl,h⟩]
theorem dE{x y:Int}(up:Bool):av up x y=av up y x:=by
 cases hx:au x <;> cases hy:au y
 ·rw[dZ up hx hy,dZ up hy hx,Et (fk x) (fk y)]
 ·rw[ec up hx hy,dM up hy hx]
 ·rw[dM up hx hy,ec up hy hx]
 ·by_cases h:x=y
  ·rw[h]
  ·rw[dF up hx hy h,dF up hy hx (fun e=>h e.symm)]
theorem dI{x y:Int}(up:Bool)(h:x=0\/y=0):eC up x y=0:=by
 unfold eC
 rw[if_pos h]
theorem gJ{x y:Int}(up:Bool)(h:¬(x=0\/y=0))(hi:au x=true\/au y=true):eC up x y=aj (decide (x < 0) !=decide (y < 0)) TP:=by
 unfold eC
 rw[if_neg h,if_pos hi]
theorem gI{x y:Int}(up:Bool)(h:¬(x=0\/y=0))(hi:¬(au x=true\/au y=true)):eC up x y=ed up (ml (ep x) (ep y)).1 (ml (ep x) (ep y)).2:=by
 unfold eC
 rw[if_neg h,if_neg hi]
theorem od{x y:Int}(up:Bool):eC up x y=eC up y x:=by
 by_cases a:x=0\/y=0
 ·rw[dI up a,dI up a.symm]
 ·have b:¬(y=0\/x=0):=fun c=>a c.symm
  by_cases h1:au x=true\/au y=true
  ·rw[gJ up a h1,gJ up b h1.symm]
   cases decide (x < 0) <;> cases decide (y < 0) <;> rfl
  ·rw[gI up a h1,gI up b (fun c=>h1 c.symm),Ef (ep x) (ep y)]
theorem qj (x:Int):au (-x)=au x:=by
 unfold au
 rw[Bool.eq_iff_iff]
 simp
 omega
theorem Jb{P Q:Int × Int}(hP:Nf P)(hQ:Nf Q):pl (ng P) (ng Q)=ng (pl P Q):=by
 unfold pl ng
 simp only
 by_cases h1:P.1=0
 ·rw[if_pos (by omega),if_pos h1]
 ·rw[if_neg (by omega),if_neg h1]
  by_cases h2:Q.1=0
  ·rw[if_pos (by omega),if_pos h2]
  ·rw[if_neg (by omega),if_neg h2,Int.neg_mul,Int.neg_mul,<-Int.neg_add];exact kH _ _
theorem EL (s:Bool)(x:Int):aj (!s) x= -aj s x:=by
 cases s
 ·rw[show (!false)=true from rfl,show aj true x= -x from if_pos rfl,show aj false x=x from if_neg (by decide)]
 ·rw[show (!true)=false from rfl,show aj true x= -x from if_pos rfl,show aj false x=x from if_neg (by decide),Int.neg_neg]
theorem yD{x y:Int}(up:Bool):av (!up) (-x) (-y)= -av up x y:=by
 have a:=qj x;have b:=qj y
 cases hx:au x <;> cases hy:au y <;> rw[hx]at a <;> rw[hy]at b
 ·rw[dZ _ a b,dZ up hx hy,zw,zw,Jb (fk x) (fk y)];exact qO (BD (fk x) (fk y)) up
 ·rw[ec _ a b,ec up hx hy]
 ·rw[dM _ a b,dM up hx hy]
 ·by_cases h:x=y
  ·rw[dR _ a (by rw[h]),dR up hx h]
  ·rw[dF _ a b (fun e=>h (by omega)),dF up hx hy h]
   exact EL _ _
theorem lj{x y:Int}(up:Bool)(x1: -19342822337206103650074625<=x)(x2:x<=19342822337206103650074625)(y1: -19342822337206103650074625<=y)(y2:y<=19342822337206103650074625): -19342822337206103650074625<=av up x y/\av up x y<=19342822337206103650074625:=by
 have a:=dj
 cases hx:au x <;> cases hy:au y
 ·rw[dZ up hx hy];exact Ca (BD (fk x) (fk y)) up
 ·rw[ec up hx hy];exact⟨y1,y2⟩
 ·rw[dM up hx hy];exact⟨x1,x2⟩
 ·by_cases h:x=y
  ·rw[dR up hx h];exact⟨x1,x2⟩
  ·rw[dF up hx hy h]
   cases up
   ·rw[show aj (!false) TP= -TP from if_pos rfl];omega
   ·rw[show aj (!true) TP=TP from if_neg (by decide)];omega
theorem nG{x y z:Int}(up:Bool)(x1: -19342822337206103650074625<=x)(x2:x<=19342822337206103650074625)(y1: -19342822337206103650074625<=y)(y2:y<=19342822337206103650074625)(z1: -19342822337206103650074625<=z)(z2:z<=19342822337206103650074625)(h:x<=y):av up x z<=av up y z:=by
 have i:=dj;obtain⟨a1,a2⟩:=lj up x1 x2 z1 z2;obtain⟨p,r⟩:=lj up y1 y2 z1 z2
 cases hz:au z
 ·cases hx:au x
  ·cases hy:au y
   ·obtain⟨l,m⟩:=bj x1 x2 hx;obtain⟨n,o⟩:=bj y1 y2 hy;obtain⟨f,g⟩:=bj z1 z2 hz;obtain⟨n1,k⟩:=kl l m f g;obtain⟨n2,v2⟩:=kl n o f g
    have s:vr x<=vr y:=by
     rcases Int.lt_or_eq_of_le h with q | q
     ·exact Int.le_of_lt (iZ q)
     ·rw[q];exact Int.le_refl _
    rw[dZ up hx hz,dZ up hy hz];exact kK n1 n2 (by rw[k,v2];omega) up
   ·have e:av up y z=y:=dM up hy hz
    rcases bL hy with q | q
    ·omega
    ·have:x=y:=by omega
     rw[this];exact Int.le_refl _
  ·have e:av up x z=x:=dM up hx hz
   rcases bL hx with q | q
   ·have:x=y:=by omega
    rw[this];exact Int.le_refl _
   ·omega
 ·have e:∀w,au w=false->av up w z=z:=fun w hw=>ec up hw hz
  have e2:∀w,au w=true->w≠z->av up w z=aj (!up) TP:=fun w hw hn=>dF up hw hz hn
  have e3:av up z z=z:=dR up hz rfl
  have t:aj (!up) TP=TP\/aj (!up) TP= -TP:=by
   cases up
   ·exact .inr (if_pos rfl)
   ·exact .inl (if_neg (by decide))
  have j:=bL hz
  by_cases b:x=z
  ·rw[b,e3]
   by_cases a:y=z
   ·rw[a,e3];exact Int.le_refl _
   ·cases hy:au y
    ·rw[e y hy];exact Int.le_refl _
    ·have d:=bL hy;rw[e2 y hy a]
     omega
  ·by_cases a:y=z
   ·rw[a,e3]
    cases hx:au x
    ·rw[e x hx];exact Int.le_refl _
    ·have c:=bL hx;rw[e2 x hx b]
     omega
   ·cases hx:au x
    ·have c:=bj x1 x2 hx;rw[e x hx]
     cases hy:au y
     ·rw[e y hy];exact Int.le_refl _
     ·have d:=bL hy;rw[e2 y hy a]
      omega
    ·have c:=bL hx
     cases hy:au y
     ·have d:=bj y1 y2 hy;rw[e y hy,e2 x hx b]
      omega
     ·rw[e2 x hx b,e2 y hy a];exact Int.le_refl _
set_option maxRecDepth 100000
def F8 (c:Nat)(z:Int):Prop:=∃L,L<=c/\z.natAbs < 4294967296^L
def nC (p q:Int × Int):Prop:=p.1≠0->q.1≠0->p.2-q.2<=2240000/\q.2-p.2<=2240000
def JP (l:List (Int × Int)):Prop:=∀k,k < l.length->F8 10 (xR (l.take k)).1/\nC (xR (l.take k)) (mk (l.getD k (0,0)).1 (l.getD k (0,0)).2)/\F8 70030 (xR (l.take (k+1))).1
theorem ip{x:Int}(h:0 < x):0 < vr x:=by
 have:=iZ h
 rwa [show vr 0=0 from rfl]at this
theorem CT{x:Int}(h:0<=x):0<=vr x:=by
 rcases Int.lt_or_eq_of_le h with q | q
 ·exact Int.le_of_lt (ip q)
 ·rw[<-q];decide
theorem bI{x y:Int}(h:x<=y):vr x<=vr y:=by
 rcases Int.lt_or_eq_of_le h with q | q
 ·exact Int.le_of_lt (iZ q)
 ·rw[q];exact Int.le_refl _
theorem Kl (s:Bool):aj s TP=TP\/aj s TP= -TP:=by
 cases s
 ·exact .inl (if_neg (by decide))
 ·exact .inr (if_pos rfl)
theorem eM{x y:Int}(up:Bool): -19342822337206103650074625<=eC up x y/\eC up x y<=19342822337206103650074625:=by
 have b:=dj
 by_cases a:x=0\/y=0
 ·rw[dI up a];omega
 ·by_cases h1:au x=true\/au y=true
  ·rw[gJ up a h1]
   have:=Kl (decide (x < 0) !=decide (y < 0))
   omega
  ·rw[gI up a h1];exact Ca (ft _ _) up
theorem Hm{r:Int}(up:Bool)(h1: -19342822337206103650074625 < r)(h2:r < 19342822337206103650074625):ed up (ep r).1 (ep r).2=r:=by
 obtain⟨D,s,M,E,q⟩:=Fy h1 h2;obtain⟨a,_⟩:=rJ q h1 h2;rw[<-rH q a];exact B8 up q a
theorem tE:ep 0=(0,0):=if_pos rfl
theorem nS:au 0=false:=by decide
theorem fG{x:Int}(up:Bool)(x1: -19342822337206103650074625<=x)(x2:x<=19342822337206103650074625):av up x 0=x:=by
 cases hx:au x
 ·obtain⟨a,b⟩:=bj x1 x2 hx;rw[dZ up hx nS,tE]
  have:pl (ep x) (0,0)=ep x:=by
   unfold pl
   by_cases h:(ep x).1=0
   ·rw[if_pos h];exact((fk x).zero h).symm
   ·rw[if_neg h,if_pos rfl]
  rw[this];exact Hm up a b
 ·exact dM up hx nS
theorem yZ{x y:Int}(x1: -19342822337206103650074625 < x)(x2:x < 19342822337206103650074625)(y1: -19342822337206103650074625 < y)(y2:y < 19342822337206103650074625):JP [ep x,ep y]/\xR [ep x,ep y]=pl (ep x) (ep y):=by
 obtain⟨η,o⟩:∃η:Nat,η=1048700:=⟨_,rfl⟩;have f:=kB x x1 x2 (h:=η) (by omega) (by omega);have g:=kB y y1 y2 (h:=η) (by omega) (by omega);obtain⟨s,_⟩:=BC (by omega) f g
 have b:∀{h:Nat} {p:Int × Int},kP h p->h<=1048701->F8 70030 p.1:=fun {h p} fp hh=>by
  refine⟨h/16+1,by omega,Nat.lt_of_lt_of_le fp.abs ?_⟩
  rw[show (4294967296:Nat)=2^32 by decide,<-Nat.pow_mul]
  exact Nat.pow_le_pow_right (by decide) (by omega)
 have a:∀r,F8 10 (ep r).1:=fun r=>by
  unfold ep
  split
  ·exact⟨0,by decide,by decide⟩
  ·obtain⟨z,hz⟩:∃z,aj (decide (r < 0)) (((r.natAbs:Int)-1)%9223372036854775808+9223372036854775808)=z:=⟨_,rfl⟩
   have hb:z.natAbs < 18446744073709551616:=by
    rw[<-hz]
    cases decide (r < 0)
    ·rw[show ∀q,aj false q=q from fun q=>if_neg (by decide)];omega
    ·rw[show ∀q,aj true q= -q from fun q=>if_pos rfl];omega
   rw[hz];obtain⟨e,j⟩:∃e,((r.natAbs:Int)-1) /9223372036854775808-1048576=e:=⟨_,rfl⟩;rw[j];refine⟨2,by decide,?_⟩
   rcases jZ z e with h | ⟨n,_,_,_,_,_,i⟩
   ·rw[h];decide
   ·have:=congrArg Int.natAbs i
    rw[bU]at this
    have l:1<=2^v2 z.natAbs:=Nat.pow_pos (by decide)
    have:=Nat.le_mul_of_pos_right (mk z e).1.natAbs l
    omega
 have c:mk (ep x).1 (ep x).2=ep x:=fk x
 have d:mk (ep y).1 (ep y).2=ep y:=fk y
 have p0:pl (0,0) (ep x)=ep x:=by
  unfold pl
  rw[if_pos rfl]
 have e1:xR [ep x]=ep x:=by
  show pl (0,0) (mk (ep x).1 (ep x).2)=ep x
  rw[c,p0]
 have e2:xR [ep x,ep y]=pl (ep x) (ep y):=by
  show pl (pl (0,0) (mk (ep x).1 (ep x).2)) (mk (ep y).1 (ep y).2)=pl (ep x) (ep y)
  rw[c,d,p0]
 refine⟨fun k hk=>?_,e2⟩
 rcases (show k=0\/k=1 by simp at hk;omega)with rfl | rfl
 ·have m:xR (List.take 0 [ep x,ep y])=(0,0):=rfl
  rw[m]
  refine⟨⟨0,by decide,by decide⟩,fun h=>absurd rfl h,?_⟩
  show F8 70030 (xR [ep x]).1
  rw[e1];exact b f (by omega)
 ·refine⟨?_,?_,?_⟩
  ·show F8 10 (xR [ep x]).1
   rw[e1];exact a x
  ·show nC (xR [ep x]) (mk (ep y).1 (ep y).2)
   rw[e1,d]
   intro _ _
   have:=f.lo
   have:=f.hi
   have:=g.lo
   have:=g.hi
   omega
  ·show F8 70030 (xR [ep x,ep y]).1
   rw[e2];exact b s (by omega)
theorem j8{n:Int}(h:0 < n)(h1:n<=9223372036854775807):0 < ak n/\ak n < 19342822337206103650074625:=by
 have e:ak n=lo n.natAbs 0:=by
  unfold ak
  rw[df (show ¬n < 0 by omega)]
  exact if_neg (by decide)
 have c:=Em (a:=n) (b:=0) (by omega) h1 (by decide) (by decide);rw[mr,az h]at c
 have:=(qv n.natAbs 0).2
 rw[<-e]at this;refine⟨?_,by omega⟩
 rcases aO (ak n) 0 with⟨a,b⟩ | ⟨a,b⟩ | ⟨a,b⟩
 ·rw[b]at c;exact absurd c (by decide)
 ·rw[b]at c;exact absurd c (by decide)
 ·exact a
theorem bl{x:Int}(h1: -19342822337206103650074625 < x)(h2:x < 19342822337206103650074625):au x=false:=by
 cases h:au x
 ·rfl
 ·have:=bL h;omega
theorem CQ{r:Int}(h:0 < r):vp (r+9223372036854775808)=vp r*2:=by
 unfold vp
 rw[if_neg (by omega),if_neg (by omega)]
 have e1:(r+9223372036854775808-1)%9223372036854775808=(r-1)%9223372036854775808:=by omega
 have e2:((r+9223372036854775808-1) /9223372036854775808-1048576+(KK:Int)).toNat=((r-1) /9223372036854775808-1048576+(KK:Int)).toNat+1:=by
  rw[dL]
  omega
 rw[e1,e2,Int.pow_succ,Int.mul_assoc]
theorem mQ{r:Int}(h:0 < r):vr (r+9223372036854775808)=vr r*2:=by
 unfold vr
 rw[if_neg (by omega),if_neg (by omega),CQ h]
theorem tight{P:Int × Int}(hP:Nf P)(h1:vr (-19342822337206103650074624)<=vl P)(h2:vl P<=vr 19342822337206103650074624):
  ∃r r',ed false P.1 P.2=r/\ed true P.1 P.2=r'/\ -19342822337206103650074625 < r/\r < 19342822337206103650074625/\ -19342822337206103650074625 < r'/\r' < 19342822337206103650074625/\((r'=r/\vr r=vl P)\/(r'=r+1/\vr r < vl P/\vl P < vr r')):=by
 obtain⟨a,b⟩:=dc hP;refine⟨_,_,rfl,rfl,?_⟩
 revert a b
 generalize ed false P.1 P.2=r;generalize ed true P.1 P.2=r'
 intro a b
 have It:=(gc (r:= -19342822337206103650074624) (by decide) (by decide)).mono a h1;have ym:=b.mono (gm (r:=19342822337206103650074624) (by decide) (by decide)) h2;obtain⟨a1,a2,a3,g⟩:=a;obtain⟨h,i,d,f⟩:=b;have c1:=a3 (by omega);have n1:=aF r'
 have c2:vl P<=vr r':=by
  have:=d (by omega)
  omega
 have k:r<=r':=by
  rcases Int.lt_or_le r' r with q | q
  ·have:=iZ q;omega
  ·exact q
 by_cases e:vr r=vl P
 ·have l:Up (vl P) r:=e▸gm (by omega) (by omega)
  have:=l.uniq (show Up (vl P) r' from ⟨h,i,d,f⟩)
  subst this;exact⟨by omega,by omega,by omega,by omega,.inl ⟨rfl,e⟩⟩
 ·have hlt:vr r < vl P:=by omega
  have j:r≠r':=fun c=>by rw[<-c]at c2;omega
  have c3:=g (by omega);have n2:=aF (r' - 1)
  have c4:r'<=r+1:=by
   rcases Int.lt_or_le (r+1) r' with q | q
   ·have:=f (by omega)
    rw[show -r'+1= -(r' - 1) by omega]at this
    have:=bI (show r+1<=r' - 1 by omega)
    omega
   ·exact q
  obtain rfl:r'=r+1:=by omega
  exact⟨by omega,by omega,by omega,by omega,.inr ⟨rfl,hlt,c3⟩⟩
theorem Ih{M E:Int}(h1:9223372036854775808<=M)(h2:LQ M)(h3: -1048576 < E):
  vr (M-9223372036854775808+1+(E+1048576)*9223372036854775808)=M*2^(E+KK).toNat/\vr (M-9223372036854775808+1+(E+1048576)*9223372036854775808+1)=M*2^(E+KK).toNat+2^(E+KK).toNat/\vr (M-9223372036854775808+1+(E+1048576)*9223372036854775808-1)<=M*2^(E+KK).toNat-2^(E-1+KK).toNat:=by
 have e:=dL
 have b:∀{q:Int},0 < q->vr q=vp q:=fun {q} hq=>by
  unfold vr
  rw[if_neg (by omega)]
 have a:(2:Int)^(E+KK).toNat=2^(E-1+KK).toNat*2:=by
  rw[<-Int.pow_succ]
  congr 1
  omega
 have d:=aB (E-1+KK).toNat;refine⟨?_,?_,?_⟩
 ·rw[b (by omega),dK h1 h2 (by omega)]
 ·rw[b (by omega)]
  by_cases c:M=18446744073709551615
  ·have:=dK (M:=9223372036854775808) (E:=E+1) (by decide) (by decide) (by omega)
   rw[show M-9223372036854775808+1+(E+1048576)*9223372036854775808+1=(9223372036854775808:Int)-9223372036854775808+1+(E+1+1048576)*9223372036854775808 by omega,this,show (E+1+(KK:Int)).toNat=(E+KK).toNat+1 by omega,Int.pow_succ,c]
   omega
  ·have:=dK (M:=M+1) (E:=E) (by omega) (by omega) (by omega)
   rw[show M-9223372036854775808+1+(E+1048576)*9223372036854775808+1=M+1-9223372036854775808+1+(E+1048576)*9223372036854775808 by omega,this,Int.add_mul,Int.one_mul]
 ·by_cases c:M=9223372036854775808
  ·have:=dK (M:=18446744073709551615) (E:=E-1) (by decide) (by decide) (by omega)
   rw[show M-9223372036854775808+1+(E+1048576)*9223372036854775808-1=(18446744073709551615:Int)-9223372036854775808+1+(E-1+1048576)*9223372036854775808 by omega,b (by omega),this,c,a]
   omega
  ·have:=dK (M:=M-1) (E:=E) (by omega) (by omega) (by omega)
   rw[show M-9223372036854775808+1+(E+1048576)*9223372036854775808-1=M-1-9223372036854775808+1+(E+1048576)*9223372036854775808 by omega,b (by omega),this,Int.sub_mul,Int.one_mul,a]
   omega
theorem bS{x y:Int}(up:Bool)(x1: -19342822337206103650074625 < x)(x2:x < 19342822337206103650074625)(y1: -19342822337206103650074625 < y)(y2:y < 19342822337206103650074625):Dn (vr x+vr y) (av false x y)/\Up (vr x+vr y) (av true x y):=by
 obtain⟨n,v⟩:=kl x1 x2 y1 y2;obtain⟨a,b⟩:=dc n;rw[v]at a b;rw[dZ _ (bl x1 x2) (bl y1 y2),dZ _ (bl x1 x2) (bl y1 y2)];exact⟨a,b⟩
theorem aG (x:Int):aj false x=x:=if_neg (by decide)
theorem aL (x:Int):aj true x= -x:=if_pos rfl
theorem Dn.sep{A B a b r:Int}(h:Dn A r)(hA1:a < A)(hA2:A < b)(hB1:a < B)(hB2:B < b)(hs:∀s,¬(a < vr s/\vr s < b)):Dn B r:=by
 obtain⟨h1,h2,c,h4⟩:=h
 refine⟨h1,h2,fun k=>?_,fun k=>?_⟩
 ·have:=c k
  have:=hs r
  omega
 ·have:=h4 k
  have:=hs (r+1)
  omega
theorem vB{P Q:Int × Int}(up:Bool)(hP:Nf P)(hQ:Nf Q){a b:Int}(hA1:a < vl P)(hA2:vl P < b)(hB1:a < vl Q)(hB2:vl Q < b)(hs:∀s,¬(a < vr s/\vr s < b)):ed up P.1 P.2=ed up Q.1 Q.2:=by
 obtain⟨c,p2⟩:=dc hP;obtain⟨d,e⟩:=dc hQ
 cases up
 ·exact(c.sep hA1 hA2 hB1 hB2 hs).uniq d
 ·refine Up.uniq (X:=vl Q) ?_ e
  refine Dn.sep (a:= -b) (b:= -a) p2 (by omega) (by omega) (by omega) (by omega) (fun s=>?_)
  have:=hs (-s)
  rw[aF]at this
  omega
theorem rG{P Q:Int × Int}(up:Bool)(hP:Nf P)(hQ:Nf Q)(h:vl P=vl Q):ed up P.1 P.2=ed up Q.1 Q.2:=by
 have a:=kK hP hQ (Int.le_of_eq h) up;have b:=kK hQ hP (Int.le_of_eq h.symm) up;exact Int.le_antisymm a b
theorem vC{P Q:Int × Int}{s:Bool}{A B a b:Int}(up:Bool)(hP:Nf P)(hQ:Nf Q)(eP:vl P=aj s A)(eQ:vl Q=aj s B)(hA1:a < A)(hA2:A < b)(hB1:a < B)(hB2:B < b)(hs:∀s,¬(a < vr s/\vr s < b)):ed up P.1 P.2=ed up Q.1 Q.2:=by
 cases s
 ·rw[aG]at eP eQ;exact vB up hP hQ (a:=a) (b:=b) (by omega) (by omega) (by omega) (by omega) hs
 ·rw[aL]at eP eQ
  refine vB up hP hQ (a:= -b) (b:= -a) (by omega) (by omega) (by omega) (by omega) (fun t=>?_)
  have:=hs (-t)
  rw[aF]at this
  omega
theorem AK{z e:Int}(h:z.natAbs < 2^128)(h1: -3000000<=e)(h2:e<=3000000):vl (mk z e)=z*2^(e+KK).toNat:=by
 obtain⟨η,a⟩:∃η:Nat,η=4000000:=⟨_,rfl⟩;refine(kG (h:=η) (by omega) (by omega) ?_).2
 have:=Nat.mul_lt_mul_of_pos_right h (Nat.pow_pos (n:=(e+(η:Int)).toNat) (show 0 < 2 by decide))
 rw[<-Nat.pow_add]at this;exact Nat.lt_of_lt_of_le this (Nat.pow_le_pow_right (by decide) (by omega))
theorem qE{i:Int}{u:Nat}(hi:21267647932558653966460912964485513216<=i)(s:Int):¬(2*i*2^u < vr s/\vr s < (2*i+2)*2^u):=by
 rintro ⟨h1,h2⟩;have b:=aB u
 have a:0 < vr s:=Int.lt_of_le_of_lt (Int.mul_nonneg (by omega) (Int.le_of_lt b)) h1
 have hs:0 < s:=by
  rcases Int.lt_or_le 0 s with q | q
  ·exact q
  ·exfalso
   have:=bI q
   rw[show vr 0=0 from rfl]at this
   omega
 have e0:vr s=((s-1)%9223372036854775808+9223372036854775808)*2^((s-1) /9223372036854775808-1048576+KK).toNat:=by
  unfold vr vp
  rw[if_neg (by omega),if_neg (by omega)]
 obtain⟨M,c⟩:∃M,(s-1)%9223372036854775808+9223372036854775808=M:=⟨_,rfl⟩;obtain⟨t,ht⟩:∃t,((s-1) /9223372036854775808-1048576+(KK:Int)).toNat=t:=⟨_,rfl⟩;rw[c,ht]at e0
 have f:M < 18446744073709551616:=by omega
 rw[e0]at h1 h2;clear e0 c ht hs a
 rcases Nat.lt_or_ge u t with q | q
 ·obtain⟨d,rfl⟩:∃d,t=u+1+d:=⟨t-(u+1),by omega⟩
  have e1:M*2^(u+1+d)=M*2^d*2*2^u:=by
   rw[Int.pow_add,Int.pow_succ];generalize (2:Int)^u=U;generalize (2:Int)^d=D;rw[Int.mul_assoc M D 2,Int.mul_assoc M,Int.mul_comm U 2,Int.mul_comm (2*U) D,Int.mul_assoc D 2 U]
  rw[e1]at h1 h2;have a1:=Int.lt_of_mul_lt_mul_right h1 (Int.le_of_lt b);have a2:=Int.lt_of_mul_lt_mul_right h2 (Int.le_of_lt b)
  omega
 ·obtain⟨d,rfl⟩:∃d,u=t+d:=⟨u-t,by omega⟩
  have ht:=aB t;have hd:=aB d;rw[Int.pow_add]at h1
  have e:(2:Int)^t*1<=2^t*2^d:=Int.mul_le_mul_of_nonneg_left hd (Int.le_of_lt ht)
  rw[Int.mul_one]at e
  have l2:2*i*(2:Int)^t<=2*i*(2^t*2^d):=Int.mul_le_mul_of_nonneg_left e (by omega)
  have a1:=Int.lt_of_mul_lt_mul_right (Int.lt_of_le_of_lt l2 h1) (Int.le_of_lt ht)
  omega
def gh (M:Int)(n:Nat):Int:=if n<=64 then M*2^(64-n)else if M%2^(n-64)=0 then M/2^(n-64)else M/2^(n-64) /2*2+1
theorem Bv{a b:Nat}(h:a<=b):(2:Int)^a<=2^b:=by
 have:=Nat.pow_le_pow_right (show 0 < 2 by decide) h
 exact_mod_cast this
theorem div_le_self{M p:Int}(h0:0<=M)(hp:0 < p):0<=M/p/\M/p<=M:=⟨Int.ediv_nonneg h0 (Int.le_of_lt hp),Int.ediv_le_self _ h0⟩
theorem GX{M:Int}{n:Nat}(h0:0<=M)(hM:LQ M)(hn:1<=n):0<=gh M n/\gh M n<=M*9223372036854775808+1/\gh M n < 170141183460469231731687303715884105728/\(2<=n->gh M n < 85070591730234615865843651857942052864):=by
 unfold gh
 by_cases h:n<=64
 ·rw[if_pos h]
  have e:=Bv (show 64-n<=63 by omega)
  have d:=aB (64-n);have a1:=Int.mul_le_mul_of_nonneg_left e h0
  rw[show (2:Int)^63=9223372036854775808 by decide]at a1
  refine⟨Int.mul_nonneg h0 (Int.le_of_lt d),by omega,by omega,fun h2=>?_⟩
  have l2:=Bv (show 64-n<=62 by omega)
  have a2:=Int.mul_le_mul_of_nonneg_left l2 h0
  rw[show (2:Int)^62=4611686018427387904 by decide]at a2
  omega
 ·rw[if_neg h];obtain⟨a,b⟩:=div_le_self h0 (aB (n-64))
  revert a b
  generalize M/2^(n-64)=q
  intro a b
  by_cases c:M%2^(n-64)=0
  ·rw[if_pos c]
   refine⟨by omega,by omega,by omega,fun _=>by omega⟩
  ·rw[if_neg c]
   refine⟨by omega,by omega,by omega,fun _=>by omega⟩
theorem eH{s:Bool}{M E x:Int}(q:Fq 1 s M E x):9223372036854775808<=M/\M < 18446744073709551616/\ -1048576<=E/\E<=1048576/\ -19342822337206103650074625 < x/\x < 19342822337206103650074625/\x≠0/\vr x=aj s (M*2^(E+KK).toNat)/\decide (x < 0)=s:=by
 rcases q.cases with⟨c,_⟩ | ⟨_,h1,h2,b,h4,a⟩ | ⟨c,_⟩
 ·exact absurd c (by decide)
 ·have d:=dK h1 h2 b
  have hx:x=aj s (M-9223372036854775808+1+(E+1048576)*9223372036854775808):=by
   rcases a with⟨rfl,a⟩ | ⟨rfl,a⟩
   ·rw[aG];omega
   ·rw[aL];omega
  have e:vr x=aj s (M*2^(E+KK).toNat):=by
   rw[hx,CR s (by omega),d]
  refine⟨h1,h2,b,h4,?_,?_,?_,e,?_⟩
  ·rcases a with⟨_,a⟩ | ⟨_,a⟩ <;> omega
  ·rcases a with⟨_,a⟩ | ⟨_,a⟩ <;> omega
  ·rcases a with⟨_,a⟩ | ⟨_,a⟩ <;> omega
  ·rcases a with⟨rfl,a⟩ | ⟨rfl,a⟩
   ·exact df (by omega)
   ·exact dt (by omega)
 ·exact absurd c (by decide)
theorem EK (s t:Bool)(x y:Int):aj s x+aj t y=aj s (x+aj (s !=t) y):=by
 cases s <;> cases t
 ·rw[show (false !=false)=false from rfl,aG,aG,aG]
 ·rw[show (false !=true)=true from rfl,aG,aL,aG]
 ·rw[show (true !=false)=true from rfl,aL,aG,aL,aL];omega
 ·rw[show (true !=true)=false from rfl,aL,aL,aG,aL];omega
theorem lK (s:Bool){S:Int}(h:0<=S):(aj s S).natAbs=S.toNat:=by
 cases s
 ·rw[aG];omega
 ·rw[aL];omega
theorem km{s1 s2:Bool}{M1 M2 E1 E2 x y S:Int}{n:Nat}(up:Bool)(q1:Fq 1 s1 M1 E1 x)(q2:Fq 1 s2 M2 E2 y)(h:E2 < E1\/E2=E1/\M2<=M1)(hn:(n:Int)=E1-E2+1)(hS:S=M1*9223372036854775808+aj (s1 !=s2) (gh M2 n)):
  0<=S/\S < 340282366920938463463374607431768211456/\ed up (mk (aj s1 S) (E1-63)).1 (mk (aj s1 S) (E1-63)).2=av up x y:=by
 obtain⟨a1,a2,a3,a4,D,E,a7,F,a9⟩:=eH q1;obtain⟨b1,T,b3,b4,G,H,b7,I,b9⟩:=eH q2;obtain⟨B,C,m2,N⟩:=GX (M:=M2) (n:=n) (by omega) T (by omega);have hk:=dL
 have k:n=1->gh M2 n=M2*9223372036854775808:=by
  rintro rfl
  unfold gh
  rw[if_pos (by decide)]
  rfl
 have i:0<=S/\S < 340282366920938463463374607431768211456:=by
  rw[hS]
  cases hs:s1 !=s2
  ·rw[aG];omega
  ·rw[aL]
   by_cases c:n=1
   ·have:=k c
    omega
   ·have:=N (by omega)
    omega
 refine⟨i.1,i.2,?_⟩;rw[dZ up (bl D E) (bl G H)];obtain⟨w,g⟩:=kl D E G H;have f:=ft (aj s1 S) (E1-63);have d:=AK (z:=aj s1 S) (e:=E1-63) (by rw[lK s1 i.1];omega) (by omega) (by omega);obtain⟨u,X⟩:∃u:Nat,(E1-63+(KK:Int)).toNat=u:=⟨_,rfl⟩;obtain⟨v,hv⟩:∃v:Nat,(E2+(KK:Int)).toNat=v:=⟨_,rfl⟩
 have e1:(E1+(KK:Int)).toNat=63+u:=by omega
 rw[X]at d
 rw[e1,Int.pow_add,show (2:Int)^63=9223372036854775808 by decide,<-Int.mul_assoc]at F
 rw[hv]at I;rw[F,I,EK]at g;rw[gk,hS,Int.add_mul,gk]at d;rw[hS];rw[hS]at f
 by_cases c:n<=64
 ·have e2:gh M2 n*2^u=M2*2^v:=by
   unfold gh
   rw[if_pos c,Int.mul_assoc,<-Int.pow_add]
   congr 2
   omega
  exact rG up f w (by rw[d,g,e2])
 ·have J:u=v+(n-64):=by omega
  by_cases t:M2%2^(n-64)=0
  ·have e2:gh M2 n*2^u=M2*2^v:=by
    unfold gh
    rw[if_neg c,if_pos t,J,Int.pow_add,Int.mul_comm (2^v),<-Int.mul_assoc]
    congr 1
    exact Int.ediv_mul_cancel (Int.dvd_of_emod_eq_zero t)
   exact rG up f w (by rw[d,g,e2])
  ·have hm:gh M2 n=M2/2^(n-64) /2*2+1:=by
    unfold gh
    rw[if_neg c,if_neg t]
   have hd:=Int.mul_ediv_add_emod M2 (2^(n-64));have o:=aB (n-64);have r0:=Int.emod_nonneg M2 (Int.ne_of_gt o);have r1:=Int.emod_lt_of_pos M2 o
   obtain⟨U,V⟩:=div_le_self (show 0<=M2 by omega) o
   have s:=aB v;have p:=aB u;rw[hm]at d f|-;rw[hm]at B C;clear k i m2 N hS hm;generalize M2%2^(n-64)=r at hd r0 r1 t;generalize M2/2^(n-64)=q at hd U V d f B C|-
   have L:(2:Int)^u=2^(n-64)*2^v:=by rw[J,Int.pow_add,Int.mul_comm]
   obtain⟨j,W⟩:∃j,q/2=j:=⟨_,rfl⟩;rw[W]at d f B C|-
   -- the exact one lies between 2 j and 2 j+2
   have O:2*j*2^u < M2*2^v:=by
    rw[L,<-Int.mul_assoc];refine Int.mul_lt_mul_of_pos_right ?_ s
    have A:2*j*2^(n-64)<=q*2^(n-64):=Int.mul_le_mul_of_nonneg_right (by omega) (Int.le_of_lt o)
    rw[Int.mul_comm q]at A
    omega
   have P:M2*2^v < (2*j+2)*2^u:=by
    rw[L,<-Int.mul_assoc];refine Int.mul_lt_mul_of_pos_right ?_ s
    have A:(q+1)*2^(n-64)<=(2*j+2)*2^(n-64):=Int.mul_le_mul_of_nonneg_right (by omega) (Int.le_of_lt o)
    rw[Int.add_mul,Int.one_mul,Int.mul_comm q]at A
    omega
   have Q:2*j*2^u < (j*2+1)*2^u:=Int.mul_lt_mul_of_pos_right (by omega) p
   have R:(j*2+1)*2^u < (2*j+2)*2^u:=Int.mul_lt_mul_of_pos_right (by omega) p
   revert O P Q R g d
   generalize M2*2^v=Y;generalize hZ:(j*2+1)*2^u=Z
   intro g d O P Q R
   cases hs:s1 !=s2
   ·rw[hs]at g d f;rw[aG]at g f|-;rw[aG,aG]at d
    have l:2*(M1*4611686018427387904+j)*2^u=M1*9223372036854775808*2^u+2*j*2^u:=by rw[<-Int.add_mul];congr 1;omega
    have m:(2*(M1*4611686018427387904+j)+2)*2^u=M1*9223372036854775808*2^u+(2*j+2)*2^u:=by rw[<-Int.add_mul];congr 1;omega
    refine vC up f w d g (a:=2*(M1*4611686018427387904+j)*2^u) (b:=(2*(M1*4611686018427387904+j)+2)*2^u) ?_ ?_ ?_ ?_ (qE (by omega))
    ·rw[l];omega
    ·rw[m];omega
    ·rw[l];omega
    ·rw[m];omega
   ·rw[hs]at g d f;rw[aL]at g f|-;rw[aL,aL]at d
    have l:2*(M1*4611686018427387904-j-1)*2^u=M1*9223372036854775808*2^u-(2*j+2)*2^u:=by rw[<-Int.sub_mul];congr 1;omega
    have m:(2*(M1*4611686018427387904-j-1)+2)*2^u=M1*9223372036854775808*2^u-2*j*2^u:=by rw[<-Int.sub_mul];congr 1;omega
    refine vC up f w d g (a:=2*(M1*4611686018427387904-j-1)*2^u) (b:=(2*(M1*4611686018427387904-j-1)+2)*2^u) ?_ ?_ ?_ ?_ (qE (by omega))
    ·rw[l];omega
    ·rw[m];omega
    ·rw[l];omega
    ·rw[m];omega
theorem qH{s1 s2:Bool}{M1 M2 E1 E2 x y:Int}(up:Bool)(q1:Fq 1 s1 M1 E1 x)(q2:Fq 1 s2 M2 E2 y):
  0<=M1*M2/\M1*M2 < 340282366920938463463374607431768211456/\ed up (mk (aj (s1 !=s2) (M1*M2)) (E1+E2)).1 (mk (aj (s1 !=s2) (M1*M2)) (E1+E2)).2=eC up x y:=by
 obtain⟨a1,a2,a3,o,f,g,p,k,q⟩:=eH q1;obtain⟨r,s,t,u,h,i,v,l,w⟩:=eH q2;have A:=dL
 have j:0<=M1*M2:=Int.mul_nonneg (by omega) (by omega)
 have h1:M1*M2 < 340282366920938463463374607431768211456:=by
  have B:M1*M2<=18446744073709551615*M2:=Int.mul_le_mul_of_nonneg_right (by omega) (by omega)
  omega
 refine⟨j,h1,?_⟩;rw[gI up (by omega) (by rw[bl f g,bl h i];simp)];obtain⟨n,m⟩:=my f g h i;have d:=ft (aj (s1 !=s2) (M1*M2)) (E1+E2);have c:=AK (z:=aj (s1 !=s2) (M1*M2)) (e:=E1+E2) (by rw[lK _ j];omega) (by omega) (by omega);refine rG up d n ?_;refine Int.eq_of_mul_eq_mul_right (Int.ne_of_gt (aB KK)) ?_
 rw[m,c,k,l,Int.mul_assoc,<-Int.pow_add,show (E1+E2+(KK:Int)).toNat+KK=(E1+(KK:Int)).toNat+(E2+(KK:Int)).toNat by omega,Int.pow_add]
 generalize (2:Int)^(E1+(KK:Int)).toNat=U;generalize (2:Int)^(E2+(KK:Int)).toNat=V
 have e:∀a b:Int,a*b*(U*V)=a*U*(b*V):=fun a b=>by
  rw[Int.mul_assoc,Int.mul_assoc,<-Int.mul_assoc b,Int.mul_comm b U,Int.mul_assoc U]
 cases s1 <;> cases s2
 ·rw[show (false !=false)=false from rfl,aG,aG,aG];exact e _ _
 ·rw[show (false !=true)=true from rfl,aG,aL,aL,Int.neg_mul,Int.mul_neg];rw[e]
 ·rw[show (true !=false)=true from rfl,aG,aL,aL,Int.neg_mul,Int.neg_mul];rw[e]
 ·rw[show (true !=true)=false from rfl,aG,aL,aL,Int.neg_mul,Int.mul_neg,Int.neg_neg];exact e _ _
theorem xM{h l:Nat}(h0:h≠0)(hh:h < 18446744073709551616):
  ac (h*18446744073709551616+l)=64+ac h\/18446744073709551616<=l:=by
 rcases Nat.lt_or_ge l 18446744073709551616 with hl | hl
 ·left
  have:=bE (h*18446744073709551616+l) 64 (by omega)
  rw[this]
  congr 2
  omega
 ·exact .inr hl
def Ra (S:Nat)(F T K X:Int):Prop:=0<=T/\T < 18446744073709551616/\0<=K/\K < 18446744073709551616/\T=(tp S:Nat)/\(S≠0->X=xp S F/\(K=0↔tp S*2^ac S=S*2^64))
theorem Hj{l:Nat}{e:Int}(hl:l < 18446744073709551616):Ra l (e-64) ((l*2^(64-ac l):Nat):Int) 0 (e-64-(64-(ac l:Int))):=by
 have hb:=ai (n:=l) (k:=64) hl;have ht:=fo hb;have h2:=fZ l;rw[ht]at h2
 refine⟨by omega,by omega,by omega,by omega,by rw[ht],fun h0=>⟨by unfold xp;omega,fun _=>?_,fun _=>rfl⟩⟩
 rw[ht,Nat.mul_assoc,<-Nat.pow_add]
 congr 2
 omega
theorem EG{h l:Nat}{e:Int}(h0:h≠0)(hh:h < 18446744073709551616)(hl:l < 18446744073709551616):
  Ra (h*18446744073709551616+l) (e-64) ((h*2^(64-ac h)+l/2^ac h:Nat):Int) ((l*2^(64-ac h)%18446744073709551616:Nat):Int) (e-(64-(ac h:Int))):=by
 have hb:=ai (n:=h) (k:=64) hh
 have a:ac (h*18446744073709551616+l)=64+ac h:=by
  rcases xM (l:=l) h0 hh with q | q
  ·exact q
  ·omega
 have o:0 < 2^ac h:=Nat.pow_pos (by decide)
 have g:2^64=2^(64-ac h)*2^ac h:=by rw[<-Nat.pow_add];congr 1;omega
 have b:(18446744073709551616:Nat)=2^ac h*2^(64-ac h):=by rw[Nat.mul_comm,<-g]
 have ht:tp (h*18446744073709551616+l)=h*2^(64-ac h)+l/2^ac h:=by
  unfold tp
  rw[a,Nat.pow_add,Nat.mul_comm (2^64) (2^ac h),Nat.mul_div_mul_right _ _ (Nat.pow_pos (by decide)),b,show h*(2^ac h*2^(64-ac h))=2^ac h*(h*2^(64-ac h)) by rw[<-Nat.mul_assoc,Nat.mul_comm h,Nat.mul_assoc],Nat.mul_add_div o]
 have hm:l*2^(64-ac h)%18446744073709551616=l%2^ac h*2^(64-ac h):=by
  rw[b,Nat.mul_mod_mul_right]
 have r:=fZ (h*18446744073709551616+l)
 have j:=Nat.mod_lt (l*2^(64-ac h)) (show 0 < 18446744073709551616 by decide)
 refine⟨by omega,by omega,by omega,by omega,by rw[ht],fun _=>⟨?_,?_⟩⟩
 ·unfold xp
  rw[a]
  omega
 ·rw[hm,a,ht,Nat.pow_add,Nat.mul_comm (2^64) (2^ac h),<-Nat.mul_assoc];have hd:=Nat.div_add_mod l (2^ac h)
  have f:h*18446744073709551616+l=(h*2^(64-ac h)+l/2^ac h)*2^ac h+l%2^ac h:=by
   rw[Nat.add_mul,Nat.mul_assoc h,<-g,Nat.mul_comm (l/2^ac h),Nat.add_assoc,hd]
  rw[f]
  have p:0 < 2^(64-ac h):=Nat.pow_pos (by decide)
  revert f
  generalize (h*2^(64-ac h)+l/2^ac h)*2^ac h=Z;generalize l%2^ac h=m
  intro _
  constructor
  ·intro q
   have i:m*2^(64-ac h)=0:=by exact_mod_cast q
   have d:m=0:=by
    rcases Nat.mul_eq_zero.1 i with c | c
    ·exact c
    ·omega
   rw[d,Nat.add_zero]
  ·intro q
   have i:Z=Z+m:=Nat.eq_of_mul_eq_mul_right (show 0 < 2^64 by decide) q
   have d:m=0:=by omega
   rw[d,Nat.zero_mul]
   rfl
def wI (S:Nat)(F:Int):Bool:=S==0 || (decide (xp S F<=1048576) && (decide (-1048576<=xp S F) && decide (tp S*2^ac S=S*2^64)))
theorem DA{m:Nat}(ho:m%2=1)(t:Nat)(F:Int):wI (m*2^t) F=ext m (F+t):=by
 have a:m≠0:=by omega
 have h2:m*2^t≠0:=Nat.mul_ne_zero a (Nat.ne_of_gt (Nat.pow_pos (by decide)))
 have d:xp (m*2^t) F=xp m (F+t):=by
  unfold xp
  rw[fR a]
  omega
 have e1:(m*2^t==0)=false:=by simpa using h2
 have e2:(m==0)=false:=by simpa using a
 have e3:(tp (m*2^t)*2^ac (m*2^t)=m*2^t*2^64)↔ac m<=64:=by
  rw[CF a,fR a,Nat.pow_add,<-Nat.mul_assoc,Nat.mul_right_comm m]
  constructor
  ·intro q
   have b:=Nat.eq_of_mul_eq_mul_right (Nat.pow_pos (n:=t) (show 0 < 2 by decide)) q
   rcases Nat.lt_or_ge 64 (ac m)with c | c
   ·exfalso
    rw[show 2^ac m=2^(ac m-65)*2*2^64 by rw[<-Nat.pow_succ,<-Nat.pow_add];congr 1;omega,<-Nat.mul_assoc]at b
    have e:=Nat.eq_of_mul_eq_mul_right (show 0 < 2^64 by decide) b
    rw[<-Nat.mul_assoc]at e
    omega
   ·exact c
  ·intro c
   rw[fo c,Nat.mul_assoc m,<-Nat.pow_add,show 64-ac m+ac m=64 by omega]
 unfold wI ext
 rw[d,e1,e2,decide_eq_decide.2 e3]
theorem CY{S:Nat}{F N E:Int}{neg:Bool}(hS:S < 340282366920938463463374607431768211456)(h1: -3000000<=F)(h2:F<=3000000)(hN:(mk (aj neg (S:Int)) F).1=N)(hE:(mk (aj neg (S:Int)) F).2=E):
  (wI S F=true->∀up,ed up N E=aj neg (lo S F))/\ed neg N E=aj neg (lo S F)/\(wI S F=false->ed (!neg) N E=nx (!neg) (aj neg (lo S F))):=by
 by_cases d:S=0
 ·subst d
  have e0:aj neg ((0:Nat):Int)=0:=by cases neg <;> rfl
  rw[e0,da]at hN hE;subst hN;subst hE
  have e1:aj neg (lo 0 F)=0:=by
   have:lo 0 F=0:=by
    unfold lo
    rw[if_pos rfl]
   rw[this]
   cases neg <;> rfl
  have e2:wI 0 F=true:=by
   unfold wI
   rfl
  rw[e1,e2]
  exact⟨fun _ up=>fX up,fX neg,fun c=>absurd c (by decide)⟩
 ·have a:(aj neg (S:Int)).natAbs=S:=by rw[lK neg (by omega)];omega
  obtain⟨s1,s2⟩:=fg S d
  have j:v2 S < 128:=by
   have i:=eJ d
   have h4:2^v2 S < 2^128:=by omega
   exact(Nat.pow_lt_pow_iff_right (by decide)).1 h4
  have hz:aj neg (S:Int)≠0:=by
   intro c
   rw[c]at a;exact d a.symm
  obtain⟨f,g,h,k,l⟩:=iu (z:=aj neg (S:Int)) (e:=F) hz (by omega) (by rw[a];omega);rw[a]at f g;rw[hE]at f;rw[hN]at g h
  have b:neg=decide (N < 0):=by
   cases neg
   ·rw[aG]at h;exact(df (by omega)).symm
   ·rw[aL]at h;exact(dt (by omega)).symm
  have hx:wI S F=ext N.natAbs E:=by
   rw[g,f]
   conv=>lhs;rw[s1]
   exact DA s2 _ F
  have hl:lo S F=lo N.natAbs E:=by
   rw[g,f]
   conv=>lhs;rw[s1]
   exact rY (by omega) _ F
  rw[hx,hl]
  refine⟨fun c up=>?_,?_,fun c=>?_⟩
  ·rw[gj c,<-b]
  ·exact gM b rfl
  ·rw[gL b,Bk neg c]
set_option linter.unusedSimpArgs false
theorem jW{w:World}{D M E:Int}{s:Bool}{r:Int}(hM:LQ M)(hr:rk D s M E=r):Calls prog 83 #[VQ D s M E] w (PN w r):=by
 delta VQ
 by_cases hm:aC D s M E
 ·have k:=eU hM hm;rw[hr]at k
  have j:=ie (show decide (aC D s M E)=true from dt hm)
  clear hm hr hM
  go_enter func83,ntmps83
  go_upto_region 1 with (fail)
  generalize d:(w.alloc _).alloc _=w1 at *;obtain⟨f,c,g⟩:=Bo.en2 d;clear d;have a:=f.cell
  go_wp2_with fail
  refine(gV j.out).mono ?_;rintro l m ⟨rfl,B⟩;clear a;replace f:=f.b B;replace c:=c.b B;replace g:=aa g B;clear B;have h:=c.cell;have e:=c.frozen;have a:=f.cell;go_wp2;clear h e a;have i:=ae.t4 c D s M E
  exact bq (by simp[results,results83,go_sem,i.box.cell]) rfl ⟨D,s,M,E,rfl,k,(i.below g.out (by omega))⟩
 ·rw[fs hm]at hr;subst hr
  have j:=ie (show decide (aC D s M E)=false from df hm)
  clear hm hM
  go_enter func83,ntmps83
  go_upto_region 1 with (fail)
  generalize d:(w.alloc _).alloc _=w1 at *;obtain⟨f,c,g⟩:=Bo.en2 d;clear d;have a:=f.cell
  go_wp2_with fail
  refine(gV j.out).mono ?_;rintro l m ⟨rfl,B⟩;clear a;replace f:=f.b B;replace c:=c.b B;replace g:=aa g B;clear B;have h:=c.cell;have e:=c.frozen;have a:=f.cell;go_wp2;clear h e a;have i:=ae.t4 c 0 false 0 0
  exact bq (by simp[results,results83,go_sem,i.box.cell]) rfl ⟨_,_,_,_,rfl,Fq.nought,(i.below g.out (by omega))⟩
theorem gv{D:Int}{s:Bool}{M E x:Int}(q:Fq D s M E x):au x=(D==2):=by
 have b:=dj
 rcases q.cases with⟨rfl,rfl,rfl,rfl,c⟩ | ⟨rfl,h1,h2,d,h4,⟨rfl,a⟩ | ⟨rfl,a⟩⟩ | ⟨rfl,rfl,rfl,⟨rfl,a⟩ | ⟨rfl,a⟩⟩ <;> unfold au <;> rw[Bool.eq_iff_iff] <;> simp <;> omega
theorem zJ{D:Int}{s:Bool}{M E x:Int}(q:Fq D s M E x)(h:D≠2):0<=M/\lW D s M E=true/\jp D s M E=ep x:=by
 have hb:lW D s M E=true:=by
  unfold lW
  rw[dt q.1,Bool.true_and]
  simpa using h
 exact⟨by rcases q.cases with⟨_,_,h,_⟩ | ⟨_,h,_⟩ | ⟨_,h,_⟩ <;> omega,hb,rH q hb⟩
theorem lu{s s':Bool}{M M' E E' x y:Int}(q:Fq 2 s M E x)(q':Fq 2 s' M' E' y):x=y↔s=s':=by
 have b:=dj
 rcases q.cases with⟨h,_⟩ | ⟨h,_⟩ | ⟨_,rfl,rfl,⟨rfl,a⟩ | ⟨rfl,a⟩⟩
 ·omega
 ·omega
 all_goals
  rcases q'.cases with⟨h,_⟩ | ⟨h,_⟩ | ⟨_,rfl,rfl,⟨rfl,c⟩ | ⟨rfl,c⟩⟩
  ·omega
  ·omega
  ·constructor <;> intro e <;> first | rfl | omega | exact absurd e (by decide)
  ·constructor <;> intro e <;> first | rfl | omega | exact absurd e (by decide)
abbrev Sp:=Option (Int × Int)
def eB (a b:Int):Sp:=if a<=b/\a < 19342822337206103650074625/\ -19342822337206103650074625 < b then some (a,b)else none
def aY:Sp->Prop
 | none=>True
 | some (a,b)=> -19342822337206103650074625<=a/\a<=b/\b<=19342822337206103650074625/\a < 19342822337206103650074625/\ -19342822337206103650074625 < b
theorem aK{a b:Int}(h:a<=b)(h1:a < 19342822337206103650074625)(h2: -19342822337206103650074625 < b):eB a b=some (a,b):=by
 unfold eB
 rw[if_pos ⟨h,h1,h2⟩]
theorem dl{a b:Int}(h:¬(a<=b/\a < 19342822337206103650074625/\ -19342822337206103650074625 < b)):eB a b=none:=by
 unfold eB
 rw[if_neg h]
theorem AI{a b:Int}(h1: -19342822337206103650074625<=a)(h2:b<=19342822337206103650074625):aY (eB a b):=by
 by_cases h:a<=b/\a < 19342822337206103650074625/\ -19342822337206103650074625 < b
 ·rw[aK h.1 h.2.1 h.2.2];exact⟨h1,h.1,h2,h.2.1,h.2.2⟩
 ·rw[dl h];exact trivial
theorem aY.mk{a b:Int}(h:aY (some (a,b))):eB a b=some (a,b):=aK h.2.1 h.2.2.2.1 h.2.2.2.2
def dX:Sp->Sp->Sp
 | some (a,b),some (c,d)=>eB (max a c) (min b d)
 | _,_=>none
def bY:Sp->Sp->Sp
 | none,y=>y
 | x,none=>x
 | some (a,b),some (c,d)=>eB (min a c) (max b d)
def rq:Sp:=some (-19342822337206103650074625,19342822337206103650074625)
def Im:Sp->Sp->Bool
 | none,_=>true
 | some _,none=>false
 | some (a,b),some (c,d)=>decide (c<=a) && decide (b<=d)
def nz:Sp->Int
 | none=>0
 | some (a,b)=>av true b (-a)
def mj (l:List Sp):Sp:=l.foldl dX rq
def nR (l:List Sp):Sp:=l.foldl bY none
theorem mi (x:Sp):dX x none=none:=by cases x <;> rfl
theorem rR (x:Sp):bY x none=x:=by cases x <;> rfl
theorem gY{a b c d:Int}(hx:aY (some (a,b)))(hy:aY (some (c,d))):bY (some (a,b)) (some (c,d))=some (min a c,max b d):=by
 obtain⟨h1,h2,e,h4,f⟩:=hx;obtain⟨g,h,i,j,k⟩:=hy;exact aK (by omega) (by omega) (by omega)
theorem Gf:aY rq:=⟨by decide,by decide,by decide,by decide,by decide⟩
theorem r7 (a b c d:Int):(dX (some (a,b)) (some (c,d))=none/\¬(max a c<=min b d/\max a c < 19342822337206103650074625/\ -19342822337206103650074625 < min b d))\/(dX (some (a,b)) (some (c,d))=some (max a c,min b d)/\max a c<=min b d):=by
 by_cases h:max a c<=min b d/\max a c < 19342822337206103650074625/\ -19342822337206103650074625 < min b d
 ·exact .inr ⟨aK h.1 h.2.1 h.2.2,h.1⟩
 ·exact .inl ⟨dl h,h⟩
theorem xn (x y:Sp):dX x y=dX y x:=by
 rcases x with _ | ⟨a,b⟩
 ·rw[mi];rfl
 ·rcases y with _ | ⟨c,d⟩
  ·rfl
  ·show eB _ _=eB _ _
   rw[show max a c=max c a by omega,show min b d=min d b by omega]
theorem re{x y:Sp}(hx:aY x)(hy:aY y):Im x y=true↔dX x y=x:=by
 rcases x with _ | ⟨a,b⟩
 ·exact⟨fun _=>rfl,fun _=>rfl⟩
 ·rcases y with _ | ⟨c,d⟩
  ·exact⟨fun h=>(by cases h),fun h=>(by cases h)⟩
  ·obtain⟨h1,h2,f,h4,g⟩:=hx;obtain⟨i,j,k,l,m⟩:=hy
   rcases r7 a b c d with⟨e,h⟩ | ⟨e,h⟩ <;> rw[e] <;> simp[Im] <;> omega
theorem AE{x:Sp}(hx:aY x):dX rq x=x:=by
 rw[xn];refine(re hx Gf).1 ?_
 rcases x with _ | ⟨a,b⟩
 ·rfl
 ·obtain⟨h1,h2,c,h4,d⟩:=hx
  simp[Im,rq]
  omega
def GY (p:Int × Int)(k:Int):Int × Int:=mk p.1 (p.2+k)
theorem IM{w:World}{A:Option Addr}{n c:Nat}{s:Bool}{z e k N E:Int}(hT:dQ w)(h:Wr w s A n c z)(hn:n<=100000)(k1: -2000<=k)(k2:k<=2000)(hN:(GY (mk z e) k).1=N)(hE:(GY (mk z e) k).2=E):
  Calls prog 212 #[.agg #[.bool s,.slice A n c,.int .i64 e],.int .i64 k] w (D1 w n N E):=by
 obtain⟨b,d⟩:=fU z e
 have a:GY (mk z e) k=mk (mk z e).1 (IntKind.i64.wrap ((mk z e).2+k)):=by rw[IntWalk.i64_in _ (by omega)];rfl
 rw[a]at hN hE;exact Gu hT h hn hN hE
def Ko (w:World)(v:Nat)(e:Ending)(w':World):Prop:=∃A,e= .returned (.slice A 2 2)/\Rd w' A 2 2 v/\Below w.heap.size w w'
theorem BI{w:World}{M:Int}{N:Nat}(hM:(N:Int)=M)(h:N < 18446744073709551616):Calls prog 216 #[.int .u64 M] w (Ko w N):=by
 subst hM
 go_enter func216,ntmps216
 go_wp2
 go_ret
 exact⟨_,rfl,mP _ (by simp) (k:=N) (by omega) (by omega) h,af _ _⟩
theorem xK{w:World}{A:Option Addr}{n c α k r:Nat}(h:Rd w A n c α)(hn:n<=8000)(hk:k<=200000)(hr:α*2^k=r):Calls prog 250 #[.slice A n c,.int .i64 (k:Int)] w (JS w 15000 r true):=by
 have b:=ie hr;clear hr
 have hd:decide ((0:Int)<=(k:Int))=true:=dt (Int.natCast_nonneg k)
 go_enter func250,ntmps250
 go_wp2_with fail
 refine(vP h (by omega) (by omega) b.out).mono ?_;rintro d f ⟨A2,n2,c2,rfl,p2,e,a⟩;go_wp2;exact bq (v:= .tuple #[.slice A2 n2 c2,.bool true]) (by simp[results,results250,go_sem]) rfl ⟨A2,n2,c2,rfl,p2,by omega,a⟩
theorem xJ{w:World}{A:Option Addr}{n c α k d r:Nat}{z y:Int}{t:Bool}(h:Rd w A n c α)(hn:n<=8000)(hk:k<=200000)(h0:0 < k)(hz: -z=(k:Int))(hr:α/2^k=r)(hd:r*2^k=d)(hy:ag (d:Int) (α:Int)=y)(ht:(y==0)=t):Calls prog 250 #[.slice A n c,.int .i64 z] w (JS w 15000 r t):=by
 have j:Hid (α/2^(k:Int).toNat=r):=ie (by rw[Int.toNat_natCast];exact hr)
 have i:=ie hd;have l:=ie hy
 have hlt:decide (0<=z)=false:=df (by omega)
 have g:¬(0<=z):=by omega
 have o:IntKind.i64.wrap (-z)=(k:Int):=by rw[hz];exact IntWalk.i64_in _ (by omega)
 clear hr hd hy
 go_enter func250,ntmps250
 go_wp2_with fail
 refine(qY (z:=(k:Int)) h (by omega) j.out).mono ?_;rintro f s ⟨A2,n2,c2,rfl,p2,p,b⟩
 go_wp2_with fail
 refine(vP p2.rd (by omega) (by omega) i.out).mono ?_;rintro f u ⟨A3,n3,c3,rfl,m,q,a⟩
 go_wp2_with fail
 refine(F4 m.rd ((h.below b).below a) l.out).mono ?_;rintro f x ⟨rfl,e⟩;go_wp2;exact bq (v:= .tuple #[.slice A2 n2 c2,.bool t]) (by simp[results,results250,go_sem]) rfl ⟨A2,n2,c2,rfl,(p2.below a).below e,by omega,bt b (bt a e)⟩
theorem vw{w:World}{up:Bool}{r:Int}(hr:aj (!up) TP=r):Calls prog 214 #[.bool up] w (PN w r):=by
 have i:=ie hr;clear hr
 go_enter func214,ntmps214
 go_upto_region 1 with (fail)
 generalize c:w.alloc _=w1 at *;obtain⟨a,e⟩:=Bo.en1 c;clear c
 go_wp2_with fail
 refine(iQ (s:=!up) i.out).mono ?_;rintro m n ⟨j,s1,k,h,rfl,l,B⟩;replace a:=a.b B;replace e:=aa e B;clear B;have f:=a.cell;have d:=a.frozen;go_wp2;clear f d;have g:=ae.t4 a j s1 k h;exact bq (by simp[results,results214,go_sem,g.box.cell]) rfl ⟨_,_,_,_,rfl,l,(g.below e.out (by omega))⟩
theorem zK{D:Int}{s:Bool}{M E:Int}(hM:LQ M):∃K1 s1 M1 E1,Fq K1 s1 M1 E1 (rk D s M E):=by
 by_cases hm:aC D s M E
 ·exact⟨_,_,_,_,eU hM hm⟩
 ·rw[fs hm];exact⟨_,_,_,_,Fq.nought⟩
theorem BK{w:World}{D M E:Int}{s:Bool}{K1 M1 E1 x:Int}{s1:Bool}(hM:LQ M)(q:Fq K1 s1 M1 E1 x)(hx:rk D s M E=x):Calls prog 213 #[VQ D s M E] w (fun e w'=>e= .returned (.agg #[.int .i64 K1,.bool s1,.int .u64 M1,.int .i64 E1])/\Below w.heap.size w w'):=by
 delta VQ
 by_cases hm:aC D s M E
 ·obtain⟨rfl,rfl,rfl,rfl⟩:=q.uniq (hx▸eU hM hm)
  have k:=ie (show decide (aC K1 s1 M1 E1)=true from dt hm)
  clear hm hx hM q
  go_enter func213,ntmps213
  go_upto_region 1 with (fail)
  generalize d:(w.alloc _).alloc _=w1 at *;obtain⟨g,c,h⟩:=Bo.en2 d;clear d;have a:=g.cell
  go_wp2_with fail
  refine(kI k.out).mono ?_;rintro l m ⟨rfl,B⟩;clear a;replace g:=g.b B;replace c:=c.b B;replace h:=aa h B;clear B;have i:=c.cell;have f:=c.frozen;have a:=g.cell;go_wp2;clear i f a;have j:=ae.t4 c K1 s1 M1 E1
  exact bq (v:= .agg #[.int .i64 K1,.bool s1,.int .u64 M1,.int .i64 E1]) (by simp[results,results213,go_sem,j.box.cell]) rfl ⟨rfl,(j.below h.out (by omega))⟩
 ·rw[fs hm]at hx;subst hx;obtain⟨rfl,rfl,rfl,rfl⟩:=q.uniq Fq.nought
  have k:=ie (show decide (aC D s M E)=false from df hm)
  clear hm hM q
  go_enter func213,ntmps213
  go_upto_region 1 with (fail)
  generalize d:(w.alloc _).alloc _=w1 at *;obtain⟨g,c,h⟩:=Bo.en2 d;clear d;have a:=g.cell
  go_wp2_with fail
  refine(kI k.out).mono ?_;rintro l m ⟨rfl,B⟩;clear a;replace g:=g.b B;replace c:=c.b B;replace h:=aa h B;clear B;have i:=c.cell;have f:=c.frozen;have a:=g.cell;go_wp2;clear i f a;have j:=ae.t4 c 0 false 0 0
  exact bq (v:= .agg #[.int .i64 0,.bool false,.int .u64 0,.int .i64 0]) (by simp[results,results213,go_sem,j.box.cell]) rfl ⟨rfl,(j.below h.out (by omega))⟩
end Go.Proofs.YtomikokonmikgaaGreatDoor
namespace Go.Proofs.YtomikokonmikgaaGreatDoor.Jo
open Go.Proofs.Tryz
open Go Go.RowKit
set_option linter.unusedVariables false
def xW (vs:Nat->Value)(i:Nat)(v:Value):Nat->Value:=fun x=>if x=i then v else vs x
theorem gT (vs:Nat->Value)(i:Nat)(v:Value):xW vs i v i=v:=if_pos rfl
theorem dp{vs:Nat->Value}{i j:Nat}{v:Value}(h:j≠i):xW vs i v j=vs j:=if_neg h
section
variable {P:Program} {md:Region.Mode} {ops:Array Oper} {Q:Exit->Act->World->Prop} {a0:Act} {T:List Nat} {dst:Nat->Option Tmp} {D:Nat->List Nat} {k:Nat} {I:List Nat->(Nat->Value)->World->Prop}
def StepsI (P:Program)(ops:Array Oper)(Q:Exit->Act->World->Prop)(a0:Act)(dst:Nat->Option Tmp)(D:Nat->List Nat)(I:List Nat->(Nat->Value)->World->Prop)(T:List Nat):Prop:=
 ∀i ∈ T,∀l vs w,I l vs w->i ∉ l->(∀j ∈ D i,j ∈ l)->wpOp P ops Q i (fun a' w'=>∃v,a'=(base dst vs (D i) a0).put (dst i) v/\I (l ++[i]) (xW vs i v) w') (base dst vs (D i) a0) w
theorem StepsI.nil:StepsI P ops Q a0 dst D I []:=fun _ h=>by cases h
theorem StepsI.cons{i:Nat}{o:Oper}{r:List Nat}(ho:ops[i]?=some o)
  (h:∀l vs w,I l vs w->i ∉ l->(∀j ∈ D i,j ∈ l)->∀K:Act->World->Prop,Shut (∀v w',I (l ++[i]) (xW vs i v) w'->K ((base dst vs (D i) a0).put (dst i) v) w')->
   if Region.wanted o (yielded ops (base dst vs (D i) a0).tmps)=true then Oper.wp P o (base dst vs (D i) a0) w K Q else K ((base dst vs (D i) a0).put o.dst undef) w)
  (hs:StepsI P ops Q a0 dst D I r):StepsI P ops Q a0 dst D I (i::r):=fun j a=>by
 rcases List.mem_cons.1 a with rfl | a
 ·exact fun l vs w hI hn hd=>wpOp_step ho (fun K hK=>h l vs w hI hn hd K (fun v w' h1=>hK _ _ ⟨v,rfl,h1⟩))
 ·exact hs j a
theorem yd (w0:World)(hok:ok md ops T dst D k a0.tmps.size=true)(hnd:T.Nodup)(hQ:∀c a b w,Q (.panic c) b w->Q (.panic c) a w)
  (h0:I [] (fun _=>undef) w0) (step:StepsI P ops Q a0 dst D I T)
  (fin:∀l vs w,(∀j,j ∈ l↔j ∈ T)->I l vs w->wpAny P md ops Q (ops.size-T.length) (mark T ops.size) (base dst vs T a0) w):
  wpAny P md ops Q ops.size (Array.replicate ops.size false) a0 w0:=by
 unfold ok at hok
 simp only[Bool.and_eq_true,List.all_eq_true,List.mem_range,Bool.or_eq_true,decide_eq_true_eq,List.contains_iff_mem]at hok;obtain⟨⟨O,F⟩,hx⟩:=hok
 have p:∀i ∈ T,∀j ∈ T,∀d,dst i=some d->dst j=some d->i=j:=fun i hi j g d=>(bM (F i hi)).2.2.2.1 j g d
 have go:∀(fuel:Nat) (l:List Nat) (vs:Nat->Value) (w:World) (L:Array Bool),fuel+l.length=ops.size->l.Nodup->(∀j ∈ l,j ∈ T)->(∀j ∈ l,∀x ∈ nL md ops j,x ∈ l)->kW ops.size l L->I l vs w->wpAny P md ops Q fuel L (base dst vs l a0) w:=by
  intro fuel
  induction fuel with
  | zero=>
   intro l vs w L hf M hl A hg S
   by_cases f:∀j ∈ T,j ∈ l
   ·have hs:∀j,j ∈ l↔j ∈ T:=fun j=>⟨hl j,f j⟩
    have h1:=dP M hl;have h2:=dP hnd f
    have:=fin l vs w hs S
    rw[<-hg.eq (jf T ops.size) hs,<-i8 p hl (fun _ h=>h) hs,show ops.size-T.length=0 by omega]at this
    exact this
   ·exfalso
    obtain⟨j,g⟩:=Classical.not_forall.1 f;obtain⟨g,bC⟩:=Classical.not_imp.1 g
    have:=dP (l:=j::l) (m:=List.range ops.size) (List.nodup_cons.2 ⟨bC,M⟩) (fun x hx=>List.mem_range.2 (by
     rcases List.mem_cons.1 hx with rfl | hx
     ·exact(bM (F x g)).1
     ·exact(bM (F x (hl x hx))).1))
    simp at this
    omega
  | succ fuel ih=>
   intro l vs w L hf M hl A hg S
   by_cases f:∀j ∈ T,j ∈ l
   ·have hs:∀j,j ∈ l↔j ∈ T:=fun j=>⟨hl j,f j⟩
    have h1:=dP M hl;have h2:=dP hnd f
    have:=fin l vs w hs S
    rw[<-hg.eq (jf T ops.size) hs,<-i8 p hl (fun _ h=>h) hs,show ops.size-T.length=fuel+1 by omega]at this
    exact this
   ·obtain⟨V,B⟩:=Classical.not_forall.1 f;obtain⟨B,C⟩:=Classical.not_imp.1 B
    have fP:∀m,m < ops.size->m ∉ l->∃r,r ∈ Region.ready md ops L:=by
     intro m
     induction m using Nat.strongRecOn with
     | ind m ihm=>
      intro hm bH
      by_cases hd:∀x ∈ nL md ops m,x ∈ l
      ·refine⟨m,mem_ready.2 ⟨by rw[Array.getD_eq_getD_getElem?,hg.2 m hm];simp[bH],ops[m],by simp[hm],fun e U hb=>?_⟩⟩
       have:e.on ∈ nL md ops m:=by
        simp only[nL,hm,Array.getElem?_eq_getElem,Option.map_some,Option.getD_some];exact List.mem_map.2 ⟨e,List.mem_filter.2 ⟨by simpa using U,hb⟩,rfl⟩
       have hlt:=(bM (F _ (hl _ (hd _ this)))).1;rw[Array.getD_eq_getD_getElem?,hg.2 _ hlt]
       simp[hd _ this]
      ·obtain⟨x,n⟩:=Classical.not_forall.1 hd;obtain⟨n,z⟩:=Classical.not_imp.1 n;have hlt:=(hx m hm).1 x n;exact ihm x hlt (by omega) z
    refine⟨fun hr=>?_,fun i hi=>?_⟩
    ·obtain⟨r,N⟩:=fP V (bM (F V B)).1 C;rw[hr]at N
     cases N
    ·obtain⟨h0,o,J,W⟩:=mem_ready.1 hi
     have hlt:i < ops.size:=(Array.getElem?_eq_some_iff.1 J).1
     have H:i ∉ l:=by
      rw[Array.getD_eq_getD_getElem?,hg.2 i hlt]at h0
      simpa using h0
     have q:∀x ∈ nL md ops i,x ∈ l:=by
      intro x n
      simp only[nL,J,Option.map_some,Option.getD_some]at n;obtain⟨e,U,rfl⟩:=List.mem_map.1 n;obtain⟨Z,bA⟩:=List.mem_filter.1 U;have h1:=W e (by simpa using Z) bA;have h2:=(hx i hlt).1 e.on (by simp only[nL,J,Option.map_some,Option.getD_some];exact List.mem_map.2 ⟨e,U,rfl⟩);rw[Array.getD_eq_getD_getElem?,hg.2 _ (by omega)]at h1
      simpa using h1
     have G:i ∈ T:=by
      rcases (hx i hlt).2 with h | h
      ·exact h
      ·exact absurd (jN A k _ q V (h V B)) C
     obtain⟨_,Y,fH,gB,hD,bD⟩:=bM (F i G)
     have s:o.dst=dst i:=by rw[<-Y,J];rfl
     have E:∀j ∈ D i,j ∈ l:=fun j g=>jN A k _ q j (hD j g).2
     have u:=step i G l vs w S H E;rw[<-s]at u
     have X:∀t ∈ o.looksAt ops,(base dst vs l a0).tmps[t]?=(base dst vs (D i) a0).tmps[t]?:=by
      intro t ht
      by_cases h:∃j ∈ l,dst j=some t
      ·obtain⟨j,g,hd⟩:=h
       have R:t < a0.tmps.size:=(bM (F j (hl j g))).2.2.1 t hd
       have bB:=bD o J t ht j (hl j g) hd
       rw[fQ hd l a0 g R (fun x hx z=>p x (hl x hx) j (hl j g) t z hd),fQ hd (D i) a0 bB R (fun x hx z=>p x (hl x (E x hx)) j (hl j g) t z hd)]
      ·rw[eF l a0 (fun j g hd=>h ⟨j,g,hd⟩),eF (D i) a0 (fun j g hd=>h ⟨j,E j g,hd⟩)]
     have:=mS J (Region.noSelect_spec O i o · · J) X hQ (fun d hd=>by rw[gD];exact fH d (s▸hd)) u
     refine wpOp_mono ?_ this;rintro a' w' ⟨v,rfl,h1⟩
     have e:(base dst vs l a0).put o.dst v=base dst (xW vs i v) (l ++[i]) a0:=by
      rw[nI,gT,s]
      congr 1
      exact ox l a0 (fun j g=>by
       have bN:j≠i:=fun e=>H (e▸g)
       rw[dp bN])
     rw[e];refine ih (l ++[i]) _ w' _ (by simp;omega) ?_ ?_ ?_ (hg.set i) h1
     ·rw[List.nodup_append]
      refine⟨M,by simp,fun x hx y hy=>?_⟩
      simp at hy
      subst hy
      exact fun e=>H (e▸hx)
     ·intro j g
      rcases List.mem_append.1 g with h | h
      ·exact hl j h
      ·simp at h;subst h;exact G
     ·intro j g x n
      rcases List.mem_append.1 g with h | h
      ·exact List.mem_append_left _ (A j h x n)
      ·simp at h;subst h;exact List.mem_append_left _ (q x n)
 exact go ops.size [] (fun _=>undef) w0 _ (by simp) (by simp) (fun _ h=>by cases h) (fun _ h=>by cases h) (l8 _) h0
end
section
variable {P:Program} {ops:Array Oper} {Q:Exit->Act->World->Prop} {a0:Act} {T:List Nat} {ds:List (Option Tmp)} {ls:List (List Nat)} {k:Nat} {I:List Nat->(Nat->Value)->World->Prop}
theorem qg{i:Nat}{o:Oper}{r:List Nat}{di:Option Tmp}{L:List (Option Tmp × Nat)}(ho:ops[i]?=some o)(hdi:ds.getD i none=di)(hL:((ls.getD i []).map fun j=>(ds.getD j none,j))=L)
  (h:∀l vs w,I l vs w->i ∉ l->(∀j ∈ ls.getD i [],j ∈ l)->∀K:Act->World->Prop,Shut (∀v w',I (l ++[i]) (xW vs i v) w'->K ((putl vs L a0).put di v) w')->
   if Region.wanted o (yielded ops (putl vs L a0).tmps)=true then Oper.wp P o (putl vs L a0) w K Q else K ((putl vs L a0).put o.dst undef) w)
  (hs:StepsI P ops Q a0 (dstOf ds) (depOf ls) I r):StepsI P ops Q a0 (dstOf ds) (depOf ls) I (i::r):=by
 refine StepsI.cons ho (fun l vs w hI hn hd K hK=>?_) hs
 have e:base (dstOf ds) vs (depOf ls i) a0=putl vs L a0:=by
  rw[eZ,<-hL]
  rfl
 rw[e]at hK|-;refine h l vs w hI hn hd K ?_
 intro v w' h1
 have:=hK.out v w' h1
 rwa [show dstOf ds i=di from hdi]at this
theorem mG{id fuel:Nat}{w:World}{L:List (Option Tmp × Nat)}(hm:P.follows .mixedOrders=true)(hok:ok .any ops T (dstOf ds) (depOf ls) k a0.tmps.size=true)(hnd:T.Nodup)
  (hL:(T.map fun j=>(ds.getD j none,j))=L) (hfu:ops.size-T.length=fuel) (h0:I [] (fun _=>undef) w.drew)
  (step:StepsI P ops (NoPanic Q) a0 (dstOf ds) (depOf ls) I T)
  (fin:∀l vs wj,(∀j,j ∈ l↔j ∈ T)->I l vs wj->wpAny P .any ops (NoPanic Q) fuel (mark T ops.size) (putl vs L a0) wj):
  (Code.region id ops true).wp P Q a0 w:=by
 refine wp_region_noPanic ?_
 refine wp_region_any hm (yd (T:=T) (dst:=dstOf ds) (D:=depOf ls) (k:=k) (I:=I) _ hok hnd (fun _ _ _ _ h=>h) h0 step ?_)
 intro l vs w hl a
 have e:base (dstOf ds) vs T a0=putl vs L a0:=by
  rw[eZ,<-hL]
  rfl
 rw[e,hfu];exact fin l vs w hl a
end
def IC (w1:World)(p0 n0 p2 n2:Value)(old new:Array Value)(R:TypeId)(l:List Nat)(vs:Nat->Value)(w:World):Prop:=
 Below w1.heap.size w1 w/\(6 ∈ l->4 ∈ l/\5 ∈ l)/\(0 ∈ l->vs 0=p0)/\(1 ∈ l->vs 1=n0)/\(2 ∈ l->vs 2=p2)/\(3 ∈ l->vs 3=n2)/\
  (4 ∈ l->∃g,vs 4= .pointer (some ⟨g,0,none⟩)/\w1.heap.size<=g/\(6 ∈ l->Bo w g new R)/\(6 ∉ l->Bo w g old R))/\
  (5 ∈ l->∃g,vs 5= .pointer (some ⟨g,0,none⟩)/\w1.heap.size<=g/\Bo w g old R)/\(4 ∈ l->5 ∈ l->vs 4≠vs 5)
section
variable {w1 w w':World} {p0 n0 p2 n2 v:Value} {old new:Array Value} {R:TypeId} {l:List Nat} {vs:Nat->Value} {i:Nat}
theorem aJ{j:Nat}(h:j≠i):j ∈ l ++[i]↔j ∈ l:=by
 rw[List.mem_append]
 constructor
 ·rintro (e | e)
  ·exact e
  ·simp at e;exact absurd e h
 ·exact .inl
theorem IC.all (h:IC w1 p0 n0 p2 n2 old new R l vs w)(hl:∀j,j ∈ l↔j ∈ [0,1,2,3,4,5,6]):Below w1.heap.size w1 w/\vs 0=p0/\vs 1=n0/\vs 2=p2/\vs 3=n2/\∃g g',vs 4= .pointer (some ⟨g,0,none⟩)/\vs 5= .pointer (some ⟨g',0,none⟩)/\w1.heap.size<=g/\w1.heap.size<=g'/\g≠g'/\Bo w g new R/\Bo w g' old R:=by
 obtain⟨h1,h2,k,h4,m,n,o,p,q⟩:=h;have b:=(hl 4).2 (by decide);have d:=(hl 5).2 (by decide);have r:=(hl 6).2 (by decide);obtain⟨g,e,hb,i,_⟩:=o b;obtain⟨g',e',a,f⟩:=p d;have X:=i r
 exact⟨h1,k ((hl 0).2 (by decide)),h4 ((hl 1).2 (by decide)),m ((hl 2).2 (by decide)),n ((hl 3).2 (by decide)),g,g',e,e',hb,a,fun c=>q b d (by rw[e,e',c]),X,f⟩
end
def Ix (w1:World)(F:List Fact)(p q s e:Nat)(old:Array Value)(R:TypeId)(l:List Nat)(vs:Nat->Value)(w:World):Prop:=
 Below w1.heap.size w1 w/\(∀j ∈ l,∀u,phi F j (vs j) u)/\(s ∈ l->p ∈ l/\q ∈ l/\e ∈ l)/\
  (p ∈ l->∃g,vs p= .pointer (some ⟨g,0,none⟩)/\w1.heap.size<=g/\(s ∉ l->Bo w g old R)/\(s ∈ l->∃cs,vs e= .agg cs/\Bo w g cs R))/\
  (q ∈ l->∃g,vs q= .pointer (some ⟨g,0,none⟩)/\w1.heap.size<=g/\Bo w g old R)/\(p ∈ l->q ∈ l->vs p≠vs q)
section
variable {w1 w w':World} {F:List Fact} {p q s e i:Nat} {l:List Nat} {vs:Nat->Value} {v:Value} {cs old:Array Value} {R:TypeId}
theorem far{g h:Nat}(hg:g < h):(.pointer (some ⟨h,0,none⟩):Value)≠ .pointer (some ⟨g,0,none⟩):=by
 intro c
 injection c with c
 injection c with c
 injection c with c
 omega
theorem Ix.all (h:Ix w1 F p q s e old R l vs w)(mp:p ∈ l)(mq:q ∈ l)(ms:s ∈ l):∃g g' cs,vs p= .pointer (some ⟨g,0,none⟩)/\vs q= .pointer (some ⟨g',0,none⟩)/\w1.heap.size<=g/\w1.heap.size<=g'/\g≠g'/\vs e= .agg cs/\Bo w g cs R/\Bo w g' old R:=by
 obtain⟨h1,h2,m,h4,j,k⟩:=h;obtain⟨g,e1,e2,_,e3⟩:=h4 mp;obtain⟨cs,b,d⟩:=e3 ms;obtain⟨g',a,f,i⟩:=j mq
 exact⟨g,g',cs,e1,a,e2,f,fun c=>k mp mq (by rw[e1,a,c]),b,d,i⟩
end
section
variable {P:Program} {ops:Array Oper} {Q:Exit->Act->World->Prop} {a0:Act} {T:List Nat} {ds:List (Option Tmp)} {ls:List (List Nat)} {k:Nat} {F:List Fact} {w1:World} {p q s e:Nat} {old:Array Value} {R:TypeId}
end
def IB (w1:World)(F:List Fact)(p q:Nat)(old:Array Value)(R:TypeId)(l:List Nat)(vs:Nat->Value)(w:World):Prop:=
 Below w1.heap.size w1 w/\(∀j ∈ l,phi F j (vs j) w)/\
  (p ∈ l->∃g,vs p= .pointer (some ⟨g,0,none⟩)/\w1.heap.size<=g/\Bo w g old R)/\
  (q ∈ l->∃g,vs q= .pointer (some ⟨g,0,none⟩)/\w1.heap.size<=g/\Bo w g old R)/\(p ∈ l->q ∈ l->vs p≠vs q)
section
variable {w1 w w':World} {F:List Fact} {p q i:Nat} {l:List Nat} {vs:Nat->Value} {v:Value} {old:Array Value} {R:TypeId}
theorem IB.all (h:IB w1 F p q old R l vs w)(mp:p ∈ l)(mq:q ∈ l):∃g g',vs p= .pointer (some ⟨g,0,none⟩)/\vs q= .pointer (some ⟨g',0,none⟩)/\w1.heap.size<=g/\w1.heap.size<=g'/\g≠g'/\Bo w g old R/\Bo w g' old R:=by
 obtain⟨h1,h2,h4,e,f⟩:=h;obtain⟨g,e1,e2,e3⟩:=h4 mp;obtain⟨g',a,b,d⟩:=e mq
 exact⟨g,g',e1,a,e2,b,fun c=>f mp mq (by rw[e1,a,c]),e3,d⟩
end
section
variable {P:Program} {ops:Array Oper} {Q:Exit->Act->World->Prop} {a0:Act} {T:List Nat} {ds:List (Option Tmp)} {ls:List (List Nat)} {k:Nat} {F:List Fact} {w1:World} {p q:Nat} {old:Array Value} {R:TypeId}
end
structure TFact (old:Array Value) (R:TypeId) where
 P:Value->World->Prop
 keep:∀v w w',P v w->Below w.heap.size w w'->P v w'
 stn:∀v w w' g cs,P v w->ae w w' g old cs R->P v w'
section
variable {old:Array Value} {R:TypeId}
def TFact.any:TFact old R:=⟨fun _ _=>True,fun _ _ _ h _=>h,fun _ _ _ _ _ h _=>h⟩
def TFact.eq (u:Value):TFact old R:=⟨fun v _=>v=u,fun _ _ _ h _=>h,fun _ _ _ _ _ h _=>h⟩
def fr (F:List (TFact old R))(j:Nat)(v:Value)(w:World):Prop:=(F.getD j TFact.any).P v w
end
def dJ{old:Array Value}{R:TypeId}(w1:World)(F:List (TFact old R))(p q s e s2 e2:Nat)(l:List Nat)(vs:Nat->Value)(w:World):Prop:=
 Below w1.heap.size w1 w/\(∀j ∈ l,fr F j (vs j) w)/\(s ∈ l->p ∈ l/\q ∈ l/\e ∈ l)/\(s2 ∈ l->p ∈ l/\q ∈ l/\e2 ∈ l)/\
  (p ∈ l->∃g,vs p= .pointer (some ⟨g,0,none⟩)/\w1.heap.size<=g/\(s ∉ l->Bo w g old R)/\(s ∈ l->∃cs,vs e= .agg cs/\Bo w g cs R))/\
  (q ∈ l->∃g,vs q= .pointer (some ⟨g,0,none⟩)/\w1.heap.size<=g/\(s2 ∉ l->Bo w g old R)/\(s2 ∈ l->∃cs,vs e2= .agg cs/\Bo w g cs R))/\(p ∈ l->q ∈ l->vs p≠vs q)
section
variable {old:Array Value} {R:TypeId} {w1 w w':World} {F:List (TFact old R)} {p q s e s2 e2 i:Nat} {l:List Nat} {vs:Nat->Value} {v:Value} {cs:Array Value}
theorem dJ.nil:dJ w1 F p q s e s2 e2 [] (fun _=>undef) w1.drew:=⟨(br _ _).drew,by simp,by simp,by simp,by simp,by simp,by simp⟩
theorem dJ.facts (h:∀j ∈ l,fr F j (vs j) w')(hv:fr F i v w'):∀j ∈ l ++[i],fr F j (xW vs i v j) w':=by
 intro j a
 by_cases c:j=i
 ·subst c;rw[gT];exact hv
 ·rw[dp c];exact h j ((aJ c).1 a)
theorem dJ.grow (h:∀j ∈ l,fr F j (vs j) w)(hg:Below w.heap.size w w'):∀j ∈ l,fr F j (vs j) w':=fun j hj=>(F.getD j TFact.any).keep _ _ _ (h j hj) hg
theorem dJ.step (h:dJ w1 F p q s e s2 e2 l vs w)(hn:i ∉ l)(hp:p≠i)(hq:q≠i)(hs:s≠i)(hs2:s2≠i)(hv:fr F i v w')(hg:Below w.heap.size w w'):dJ w1 F p q s e s2 e2 (l ++[i]) (xW vs i v) w':=by
 obtain⟨h1,h2,o,f,h4,r,t⟩:=h
 refine⟨bt h1 hg,dJ.facts (dJ.grow h2 hg) hv,fun c=>?_,fun c=>?_,fun c=>?_,fun c=>?_,fun a b=>?_⟩
 ·obtain⟨a,b,d⟩:=o ((aJ hs).1 c);exact⟨List.mem_append_left _ a,List.mem_append_left _ b,List.mem_append_left _ d⟩
 ·obtain⟨a,b,d⟩:=f ((aJ hs2).1 c);exact⟨List.mem_append_left _ a,List.mem_append_left _ b,List.mem_append_left _ d⟩
 ·obtain⟨g,e1,e3,j,k⟩:=h4 ((aJ hp).1 c);rw[dp hp]
  refine⟨g,e1,e3,fun c=>(j (fun d=>c ((aJ hs).2 d))).below hg,fun c=>?_⟩
  have sl:=(aJ hs).1 c;obtain⟨cs,m,n⟩:=k sl
  exact⟨cs,by rw[dp (show e≠i from fun d=>hn (d▸(o sl).2.2))];exact m,n.below hg⟩
 ·obtain⟨g,e1,e3,j,k⟩:=r ((aJ hq).1 c);rw[dp hq]
  refine⟨g,e1,e3,fun c=>(j (fun d=>c ((aJ hs2).2 d))).below hg,fun c=>?_⟩
  have sl:=(aJ hs2).1 c;obtain⟨cs,m,n⟩:=k sl
  exact⟨cs,by rw[dp (show e2≠i from fun d=>hn (d▸(f sl).2.2))];exact m,n.below hg⟩
 ·rw[dp hp,dp hq];exact t ((aJ hp).1 a) ((aJ hq).1 b)
theorem dJ.newp (h:dJ w1 F p q s e s2 e2 l vs w)(hn:p ∉ l)(hpq:p≠q)(hs:s≠p)(hs2:s2≠p)(hf:∀v u,fr F p v u):
  dJ w1 F p q s e s2 e2 (l ++[p]) (xW vs p (.pointer (some ⟨w.heap.size,0,none⟩))) (w.alloc (.cells old R)):=by
 obtain⟨h1,h2,m,i,h4,k,o⟩:=h;have b:=af w (.cells old R)
 have n:s ∉ l:=fun c=>hn (m c).1
 have d:s ∉ l ++[p]:=fun c=>n ((aJ hs).1 c)
 have j:s2 ∉ l:=fun c=>hn (i c).1
 have a:s2 ∉ l ++[p]:=fun c=>j ((aJ hs2).1 c)
 refine⟨bt h1 b,dJ.facts (dJ.grow h2 b) (hf _ _),fun c=>absurd c d,fun c=>absurd c a,fun _=>⟨_,gT _ _ _,h1.size,fun _=>Bo.new _ _ _,fun c=>absurd c d⟩,fun c=>?_,fun _ c=>?_⟩
 ·obtain⟨g,e1,e3,f,_⟩:=k ((aJ (Ne.symm hpq)).1 c);rw[dp (Ne.symm hpq)]
  exact⟨g,e1,e3,fun _=>(f j).below b,fun c=>absurd c a⟩
 ·obtain⟨g,e1,e3,f,_⟩:=k ((aJ (Ne.symm hpq)).1 c);rw[gT,dp (Ne.symm hpq),e1];exact far (f j).lt
theorem dJ.newq (h:dJ w1 F p q s e s2 e2 l vs w)(hn:q ∉ l)(hpq:p≠q)(hs:s≠q)(hs2:s2≠q)(hf:∀v u,fr F q v u):
  dJ w1 F p q s e s2 e2 (l ++[q]) (xW vs q (.pointer (some ⟨w.heap.size,0,none⟩))) (w.alloc (.cells old R)):=by
 obtain⟨h1,h2,k,i,h4,n,o⟩:=h;have b:=af w (.cells old R)
 have j:s ∉ l:=fun c=>hn (k c).2.1
 have d:s ∉ l ++[q]:=fun c=>j ((aJ hs).1 c)
 have m:s2 ∉ l:=fun c=>hn (i c).2.1
 have a:s2 ∉ l ++[q]:=fun c=>m ((aJ hs2).1 c)
 refine⟨bt h1 b,dJ.facts (dJ.grow h2 b) (hf _ _),fun c=>absurd c d,fun c=>absurd c a,fun c=>?_,fun _=>⟨_,gT _ _ _,h1.size,fun _=>Bo.new _ _ _,fun c=>absurd c a⟩,fun c _=>?_⟩
 ·obtain⟨g,e1,e3,f,_⟩:=h4 ((aJ hpq).1 c);rw[dp hpq]
  exact⟨g,e1,e3,fun _=>(f j).below b,fun c=>absurd c d⟩
 ·obtain⟨g,e1,e3,f,_⟩:=h4 ((aJ hpq).1 c);rw[gT,dp hpq,e1]
  exact fun c=>far (f j).lt c.symm
theorem G9{P Q:Prop}{g:Nat}{cs':Array Value}{va:Value}(h1:P->Bo w g old R)(h2:Q->∃cs,va= .agg cs/\Bo w g cs R){g':Nat}(S:ae w w' g' old cs' R)(hne:g≠g'):(P->Bo w' g old R)/\(Q->∃cs,va= .agg cs/\Bo w' g cs R):=
 ⟨fun c=>(h1 c).stn S hne,fun c=>by obtain⟨cs,a,b⟩:=h2 c;exact⟨cs,a,b.stn S hne⟩⟩
theorem dJ.sto{g:Nat}(h:dJ w1 F p q s e s2 e2 l vs w)(hn:s ∉ l)(h22:s2≠s)(mp:p ∈ l)(mq:q ∈ l)(me:e ∈ l)(hf:∀v u,fr F s v u)(hg:vs p= .pointer (some ⟨g,0,none⟩))(he:vs e= .agg cs)(S:ae w w' g old cs R):
  dJ w1 F p q s e s2 e2 (l ++[s]) (xW vs s v) w':=by
 obtain⟨h1,h2,D,f,h4,B,n⟩:=h
 have C:s ∈ l ++[s]:=by simp
 have o:p≠s:=fun c=>hn (c▸mp)
 have r:q≠s:=fun c=>hn (c▸mq)
 have A:e≠s:=fun c=>hn (c▸me)
 obtain⟨g1,e1,i,_,_⟩:=h4 mp
 obtain rfl:g1=g:=by
  rw[e1]at hg
  injection hg with c
  injection c with c
  injection c
 obtain⟨g2,e3,k,t,x⟩:=B mq
 have m:g2≠g1:=fun c=>n mp mq (by rw[e1,e3,c])
 obtain⟨y,z⟩:=G9 t x S m
 refine⟨S.below h1 i,dJ.facts (fun j hj=>(F.getD j TFact.any).stn _ _ _ _ _ (h2 j hj) S) (hf _ _),fun _=>⟨List.mem_append_left _ mp,List.mem_append_left _ mq,List.mem_append_left _ me⟩,fun c=>?_,fun _=>?_,fun _=>?_,fun _ _=>?_⟩
 ·obtain⟨a,b,d⟩:=f ((aJ h22).1 c);exact⟨List.mem_append_left _ a,List.mem_append_left _ b,List.mem_append_left _ d⟩
 ·rw[dp o,dp A]
  exact⟨g1,e1,i,fun c=>absurd C c,fun _=>⟨cs,he,S.box⟩⟩
 ·rw[dp r]
  refine⟨g2,e3,k,fun c=>y (fun d=>c ((aJ h22).2 d)),fun c=>?_⟩
  have sl:=(aJ h22).1 c
  rw[dp (show e2≠s from fun d=>hn (d▸(f sl).2.2))]
  exact z sl
 ·rw[dp o,dp r];exact n mp mq
theorem dJ.all (h:dJ w1 F p q s e s2 e2 l vs w)(mp:p ∈ l)(mq:q ∈ l)(ms:s ∈ l)(m2:s2 ∉ l):∃g g' cs,vs p= .pointer (some ⟨g,0,none⟩)/\vs q= .pointer (some ⟨g',0,none⟩)/\w1.heap.size<=g/\w1.heap.size<=g'/\g≠g'/\vs e= .agg cs/\Bo w g cs R/\Bo w g' old R:=by
 obtain⟨h1,h2,o,k,h4,m,n⟩:=h;obtain⟨g,e1,e3,_,b⟩:=h4 mp;obtain⟨cs,d,f⟩:=b ms;obtain⟨g',a,i,j,_⟩:=m mq
 exact⟨g,g',cs,e1,a,e3,i,fun c=>n mp mq (by rw[e1,a,c]),d,f,j m2⟩
end
section
variable {P:Program} {ops:Array Oper} {Q:Exit->Act->World->Prop} {a0:Act} {T:List Nat} {ds:List (Option Tmp)} {ls:List (List Nat)} {k:Nat} {old:Array Value} {R:TypeId} {F:List (TFact old R)} {w1:World} {p q s e s2 e2:Nat}
theorem xcons{i:Nat}{o:Oper}{r:List Nat}{di:Option Tmp}{L:List (Option Tmp × Nat)}{f:TFact old R}(hp:p≠i)(hq:q≠i)(hs':s≠i)(hs2:s2≠i)(ho:ops[i]?=some o)(hdi:ds.getD i none=di)(hL:((ls.getD i []).map fun j=>(ds.getD j none,j))=L)(hf:F.getD i TFact.any=f)
  (h:∀vs w,Below w1.heap.size w1 w->(∀j ∈ ls.getD i [],fr F j (vs j) w)->∀K:Act->World->Prop,Shut (∀v w',f.P v w'->Grow w w'->K ((putl vs L a0).put di v) w')->
   if Region.wanted o (yielded ops (putl vs L a0).tmps)=true then Oper.wp P o (putl vs L a0) w K Q else K ((putl vs L a0).put o.dst undef) w)
  (hs:StepsI P ops Q a0 (dstOf ds) (depOf ls) (dJ w1 F p q s e s2 e2) r):StepsI P ops Q a0 (dstOf ds) (depOf ls) (dJ w1 F p q s e s2 e2) (i::r):=by
 refine qg ho hdi hL (fun l vs w hI hn hd K hK=>h vs w hI.1 (fun j hj=>hI.2.1 j (hd j hj)) K ?_) hs
 intro v w' h1 h2
 exact hK.out v w' (hI.step hn hp hq hs' hs2 (by unfold fr;rw[hf];exact h1) h2)
theorem xnew{i:Nat}{o:Oper}{r:List Nat}{di:Option Tmp}{L:List (Option Tmp × Nat)}(hpq:p≠q)(hi:i=p\/i=q)(hsp:s≠p/\s2≠p)(hsq:s≠q/\s2≠q)(hf:F.getD i TFact.any=TFact.any)(ho:ops[i]?=some o)(hdi:ds.getD i none=di)(hL:((ls.getD i []).map fun j=>(ds.getD j none,j))=L)
  (h:∀vs w,∀K:Act->World->Prop,Shut (K ((putl vs L a0).put di (.pointer (some ⟨w.heap.size,0,none⟩))) (w.alloc (.cells old R)))->
   if Region.wanted o (yielded ops (putl vs L a0).tmps)=true then Oper.wp P o (putl vs L a0) w K Q else K ((putl vs L a0).put o.dst undef) w)
  (hs:StepsI P ops Q a0 (dstOf ds) (depOf ls) (dJ w1 F p q s e s2 e2) r):StepsI P ops Q a0 (dstOf ds) (depOf ls) (dJ w1 F p q s e s2 e2) (i::r):=by
 refine qg ho hdi hL (fun l vs w hI hn hd K hK=>h vs w K ?_) hs
 have fa:∀v u,fr F i v u:=fun v u=>by unfold fr;rw[hf];trivial
 rcases hi with rfl | rfl
 ·exact hK.out _ _ (hI.newp hn hpq hsp.1 hsp.2 fa)
 ·exact hK.out _ _ (hI.newq hn hpq hsq.1 hsq.2 fa)
theorem xsto{o:Oper}{r:List Nat}{di:Option Tmp}{L:List (Option Tmp × Nat)}(h22:s2≠s)(hp:p ∈ ls.getD s [])(hq:q ∈ ls.getD s [])(he:e ∈ ls.getD s [])(hf:F.getD s TFact.any=TFact.any)(ho:ops[s]?=some o)(hdi:ds.getD s none=di)(hL:((ls.getD s []).map fun j=>(ds.getD j none,j))=L)
  (h:∀vs w,Below w1.heap.size w1 w->(∀j ∈ ls.getD s [],fr F j (vs j) w)->∀g,vs p= .pointer (some ⟨g,0,none⟩)->Bo w g old R->∀K:Act->World->Prop,Shut (∀v w' cs,vs e= .agg cs->ae w w' g old cs R->K ((putl vs L a0).put di v) w')->
   if Region.wanted o (yielded ops (putl vs L a0).tmps)=true then Oper.wp P o (putl vs L a0) w K Q else K ((putl vs L a0).put o.dst undef) w)
  (hs:StepsI P ops Q a0 (dstOf ds) (depOf ls) (dJ w1 F p q s e s2 e2) r):StepsI P ops Q a0 (dstOf ds) (depOf ls) (dJ w1 F p q s e s2 e2) (s::r):=by
 refine qg ho hdi hL (fun l vs w hI hn hd K hK=>?_) hs
 obtain⟨g,e1,_,X,_⟩:=hI.2.2.2.2.1 (hd p hp)
 refine h vs w hI.1 (fun j hj=>hI.2.1 j (hd j hj)) g e1 (X hn) K ?_
 intro v w' cs h1 h2
 exact hK.out v w' (hI.sto hn h22 (hd p hp) (hd q hq) (hd e he) (fun v u=>by unfold fr;rw[hf];trivial) e1 h1 h2)
theorem region_trip{id fuel:Nat}{L:List (Option Tmp × Nat)}(hp:p ∈ T)(hq:q ∈ T)(hs:s ∈ T)(hs2:s2 ∉ T)(hm:P.follows .mixedOrders=true)(hok:ok .any ops T (dstOf ds) (depOf ls) k a0.tmps.size=true)(hnd:T.Nodup)
  (hL:(T.map fun j=>(ds.getD j none,j))=L) (hfu:ops.size-T.length=fuel)
  (step:StepsI P ops (NoPanic Q) a0 (dstOf ds) (depOf ls) (dJ w1 F p q s e s2 e2) T)
  (fin:∀vs wj,Below w1.heap.size w1 wj->(∀j ∈ T,fr F j (vs j) wj)->(∃g g' cs,vs p= .pointer (some ⟨g,0,none⟩)/\vs q= .pointer (some ⟨g',0,none⟩)/\w1.heap.size<=g/\w1.heap.size<=g'/\g≠g'/\vs e= .agg cs/\Bo wj g cs R/\Bo wj g' old R)->
   wpAny P .any ops (NoPanic Q) fuel (mark T ops.size) (putl vs L a0) wj):
  (Code.region id ops true).wp P Q a0 w1:=
 mG (T:=T) (ds:=ds) (ls:=ls) (k:=k) (I:=dJ w1 F p q s e s2 e2) hm hok hnd hL hfu dJ.nil step (fun l vs wj hl hI=>fin vs wj hI.1 (fun j hj=>hI.2.1 j ((hl j).2 hj)) (hI.all ((hl p).2 hp) ((hl q).2 hq) ((hl s).2 hs) (fun c=>hs2 ((hl s2).1 c))))
end
def gX{old:Array Value}{R:TypeId}(w1:World)(F:List (TFact old R))(g s e:Nat)(l:List Nat)(vs:Nat->Value)(w:World):Prop:=
 ∃nw,Off g nw R w1 w/\(∀j ∈ l,fr F j (vs j) w)/\(s ∉ l->Bo w g old R)/\(s ∈ l->e ∈ l/\vs e= .agg nw/\Bo w g nw R)
section
variable {old:Array Value} {R:TypeId} {w1 w w':World} {F:List (TFact old R)} {g s e i:Nat} {l:List Nat} {vs:Nat->Value} {v:Value} {cs:Array Value}
theorem gX.nil (X:Bo w1 g old R):gX w1 F g s e [] (fun _=>undef) w1.drew:=⟨old,Off.drew w1,by simp,fun _=>X.keep rfl,by simp⟩
theorem gX.lt (h:gX w1 F g s e l vs w):g < w.heap.size:=by
 obtain⟨nw,h1,h2,a,h4⟩:=h
 by_cases c:s ∈ l
 ·exact(h4 c).2.2.lt
 ·exact(a c).lt
theorem gX.step (h:gX w1 F g s e l vs w)(hn:i ∉ l)(hs:s≠i)(hv:fr F i v w')(hg:Below w.heap.size w w'):gX w1 F g s e (l ++[i]) (xW vs i v) w':=by
 have hlt:=h.lt;obtain⟨nw,h1,h2,f,h4⟩:=h
 refine⟨nw,h1.trans (Off.of_below hg hlt),dJ.facts (dJ.grow h2 hg) hv,fun c=>(f (fun d=>c ((aJ hs).2 d))).below hg,fun c=>?_⟩
 obtain⟨a,b,d⟩:=h4 ((aJ hs).1 c)
 exact⟨List.mem_append_left _ a,by rw[dp (show e≠i from fun x=>hn (x▸a))];exact b,d.below hg⟩
theorem gX.sto (h:gX w1 F g s e l vs w)(hn:s ∉ l)(me:e ∈ l)(hf:∀v u,fr F s v u)(he:vs e= .agg cs)(S:ae w w' g old cs R):gX w1 F g s e (l ++[s]) (xW vs s v) w':=by
 obtain⟨nw,h1,h2,a,h4⟩:=h
 have O:Off g cs R w w':=Off.of_stn S
 refine⟨cs,⟨O.os.trans h1.os,O.tape.trans h1.tape,O.output.trans h1.output,Nat.le_trans h1.size O.size,fun k hk hne=>(O.block k (Nat.lt_of_lt_of_le hk h1.size) hne).trans (h1.block k hk hne),.inr S.box⟩,dJ.facts (fun j hj=>(F.getD j TFact.any).stn _ _ _ _ _ (h2 j hj) S) (hf _ _),fun c=>absurd (by simp) c,fun _=>⟨List.mem_append_left _ me,?_,S.box⟩⟩
 rw[dp (show e≠s from fun c=>hn (c▸me))]
 exact he
end
section
variable {P:Program} {ops:Array Oper} {Q:Exit->Act->World->Prop} {a0:Act} {T:List Nat} {ds:List (Option Tmp)} {ls:List (List Nat)} {k:Nat} {old:Array Value} {R:TypeId} {F:List (TFact old R)} {w1:World} {g s e:Nat}
theorem ocons{i:Nat}{o:Oper}{r:List Nat}{di:Option Tmp}{L:List (Option Tmp × Nat)}{f:TFact old R}(hs':s≠i)(ho:ops[i]?=some o)(hdi:ds.getD i none=di)(hL:((ls.getD i []).map fun j=>(ds.getD j none,j))=L)(hf:F.getD i TFact.any=f)
  (h:∀vs w nw,Off g nw R w1 w->(∀j ∈ ls.getD i [],fr F j (vs j) w)->∀K:Act->World->Prop,Shut (∀v w',f.P v w'->Grow w w'->K ((putl vs L a0).put di v) w')->
   if Region.wanted o (yielded ops (putl vs L a0).tmps)=true then Oper.wp P o (putl vs L a0) w K Q else K ((putl vs L a0).put o.dst undef) w)
  (hs:StepsI P ops Q a0 (dstOf ds) (depOf ls) (gX w1 F g s e) r):StepsI P ops Q a0 (dstOf ds) (depOf ls) (gX w1 F g s e) (i::r):=by
 refine qg ho hdi hL (fun l vs w hI hn hd K hK=>?_) hs
 obtain⟨nw,h1,h2,a,h4⟩:=hI
 refine h vs w nw h1 (fun j hj=>h2 j (hd j hj)) K ?_
 intro v w' e1 e2
 exact hK.out v w' (gX.step ⟨nw,h1,h2,a,h4⟩ hn hs' (by unfold fr;rw[hf];exact e1) e2)
theorem osto{o:Oper}{r:List Nat}{di:Option Tmp}{L:List (Option Tmp × Nat)}(he:e ∈ ls.getD s [])(hf:F.getD s TFact.any=TFact.any)(ho:ops[s]?=some o)(hdi:ds.getD s none=di)(hL:((ls.getD s []).map fun j=>(ds.getD j none,j))=L)
  (h:∀vs w,(∀j ∈ ls.getD s [],fr F j (vs j) w)->Bo w g old R->∀K:Act->World->Prop,Shut (∀v w' cs,vs e= .agg cs->ae w w' g old cs R->K ((putl vs L a0).put di v) w')->
   if Region.wanted o (yielded ops (putl vs L a0).tmps)=true then Oper.wp P o (putl vs L a0) w K Q else K ((putl vs L a0).put o.dst undef) w)
  (hs:StepsI P ops Q a0 (dstOf ds) (depOf ls) (gX w1 F g s e) r):StepsI P ops Q a0 (dstOf ds) (depOf ls) (gX w1 F g s e) (s::r):=by
 refine qg ho hdi hL (fun l vs w hI hn hd K hK=>?_) hs
 obtain⟨nw,h1,h2,a,h4⟩:=hI
 refine h vs w (fun j hj=>h2 j (hd j hj)) (a hn) K ?_
 intro v w' cs e1 e2
 exact hK.out v w' (gX.sto ⟨nw,h1,h2,a,h4⟩ hn (hd e he) (fun v u=>by unfold fr;rw[hf];trivial) e1 e2)
theorem region_lone{id fuel:Nat}{L:List (Option Tmp × Nat)}(X:Bo w1 g old R)(hs:s ∈ T)(hm:P.follows .mixedOrders=true)(hok:ok .any ops T (dstOf ds) (depOf ls) k a0.tmps.size=true)(hnd:T.Nodup)
  (hL:(T.map fun j=>(ds.getD j none,j))=L) (hfu:ops.size-T.length=fuel)
  (step:StepsI P ops (NoPanic Q) a0 (dstOf ds) (depOf ls) (gX w1 F g s e) T)
  (fin:∀vs wj cs,Off g cs R w1 wj->(∀j ∈ T,fr F j (vs j) wj)->vs e= .agg cs->Bo wj g cs R->
   wpAny P .any ops (NoPanic Q) fuel (mark T ops.size) (putl vs L a0) wj):
  (Code.region id ops true).wp P Q a0 w1:=
 mG (T:=T) (ds:=ds) (ls:=ls) (k:=k) (I:=gX w1 F g s e) hm hok hnd hL hfu (gX.nil X) step (fun l vs wj hl hI=>by
  obtain⟨nw,h1,h2,c,h4⟩:=hI;obtain⟨_,a,b⟩:=h4 ((hl s).2 hs)
  exact fin vs wj nw h1 (fun j hj=>h2 j ((hl j).2 hj)) a b)
