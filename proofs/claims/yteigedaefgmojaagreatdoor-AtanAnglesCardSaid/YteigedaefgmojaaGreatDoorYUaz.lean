/-
 Contracts that the proof rests on.
-/
import Derived.Test.YteigedaefgmojaaGreatDoorYUay
namespace Go.Proofs.YteigedaefgmojaaGreatDoor
open Go.Proofs.Tryz
open Go Go.RowKit
set_option linter.unusedVariables false
theorem jX:al 2=1+(1048576-62)*9223372036854775808:=by decide
theorem vI{p:Int}(h0:9223372036854775808 < p)(h1:p < al 2):(vr (p+1)-vr p)*9223372036854775808<=2^KK:=by
 have e2:=jX;obtain⟨M,e⟩:∃M,M=(p-1)%9223372036854775808+9223372036854775808:=⟨_,rfl⟩;obtain⟨E,d⟩:∃E,E=(p-1) /9223372036854775808-1048576:=⟨_,rfl⟩
 have c:p=M-9223372036854775808+1+(E+1048576)*9223372036854775808:=by omega
 obtain⟨a,b,_⟩:=IX (M:=M) (E:=E) (by omega) (by omega) (by omega);rw[<-c]at a b;rw[a,b];have f:=dT
 have k:(2:Int)^KK=2^(E+KK).toNat*9223372036854775808*2^(-63-E).toNat:=by
  rw[show (9223372036854775808:Int)=2^63 by decide,<-Int.pow_add,<-Int.pow_add]
  congr 1
  omega
 rw[k];have g:=aE (-63-E).toNat;have p2:=aE (E+KK).toNat
 have m:=Int.mul_le_mul_of_nonneg_left (show 1<=(2:Int)^(-63-E).toNat by omega) (show 0<=(2:Int)^(E+KK).toNat*9223372036854775808 by omega)
 rw[Int.mul_one]at m;generalize (2:Int)^(E+KK).toNat=x at *
 omega
theorem AT{p:Int}(h0:0<=p)(h1:p < al 2):(vr (p+1)-vr p)*9223372036854775808<=2^KK:=by
 have e2:=jX
 by_cases c:9223372036854775808 < p
 ·exact vI c h1
 ·by_cases z:p=0
  ·subst z;have b:=DP;have d:=dT
   have e:vr (0+1)=2^(63-1048576+(KK:Int)).toNat:=by
    rw[show vr (0+1)=vp 1 from rfl]
    exact b
   rw[e,show vr 0=0 from rfl,Int.sub_zero,show (9223372036854775808:Int)=2^63 by decide,<-Int.pow_add]
   obtain⟨n,a⟩:∃n:Nat,KK=(63-1048576+(KK:Int)).toNat+63+n:=⟨1048576-126,by omega⟩
   have k:(2:Int)^KK=2^((63-1048576+(KK:Int)).toNat+63)*2^n:=by
    rw[<-Int.pow_add,<-a]
   rw[k];have h:=aE n;have p2:=aE ((63-1048576+(KK:Int)).toNat+63)
   have m:=Int.mul_le_mul_of_nonneg_left (show 1<=(2:Int)^n by omega) (Int.le_of_lt p2)
   rw[Int.mul_one]at m;exact m
  ·have s1:=nv (r:=p) (by omega);have s2:=nv (r:=p+1) (by omega);have g:=vI (p:=p+9223372036854775808) (by omega) (by omega)
   have f:=jl (show p < p+1 by omega)
   rw[show p+9223372036854775808+1=p+1+9223372036854775808 by omega,s1,s2]at g
   omega
theorem Lf{p:Int}(h0: -al 2<=p)(h1:p < al 2):(vr (p+1)-vr p)*9223372036854775808<=2^KK:=by
 by_cases c:0<=p
 ·exact AT c h1
 ·have g:=AT (p:= -p-1) (by omega) (by omega)
  rw[show -p-1+1= -p by omega,show -p-1= -(p+1) by omega,aJ,aJ]at g
  omega
def V (p:Int):Rat:=((vr p:Int):Rat) /BR
theorem fK (p:Int):V p*BR=((vr p:Int):Rat):=Rat.div_mul_cancel (Rat.ne_of_gt bX)
theorem rV{p r:Int}(h:p<=r):V p<=V r:=Rat.le_of_mul_le_mul_right (c:=BR) (by rw[fK,fK];exact Rat.intCast_le_intCast.2 (bM h)) bX
theorem zy{p:Int}(h0: -al 2<=p)(h1:p < al 2):V (p+1)<=V p+1/9223372036854775808:=by
 have g:=Rat.intCast_le_intCast.2 (Lf h0 h1)
 rw[Rat.intCast_mul,Rat.intCast_sub,show ((9223372036854775808:Int):Rat)=9223372036854775808 from rfl,show ((2^KK:Int):Rat)=BR from rfl]at g
 have a:=fK (p+1);have b:=fK p;refine Rat.le_of_mul_le_mul_right (c:=BR) ?_ bX
 grind
theorem fW (p:Int):V (-p)= -V p:=by
 have a:=fK (-p);have b:=fK p;rw[aJ,Rat.intCast_neg]at a;have hp:=bX;refine Rat.le_antisymm (Rat.le_of_mul_le_mul_right (c:=BR) ?_ hp) (Rat.le_of_mul_le_mul_right (c:=BR) ?_ hp) <;> grind
theorem GW{l r:Int}(hr:Rq false l SC r)(h1: -(2*SC)<=l)(h2:l < 2*SC):(l:Rat)<=V r*SR+1/9223372036854775808*SR:=by
 obtain⟨o1,o2⟩:=jf;have b:=jZ hr h1 (by omega);have s:=gJ hr;rw[ia]at s;obtain⟨_,_,s3,s4⟩:=s
 have a:r < al 2:=by
  rcases Int.lt_or_le r (al 2)with c | c
  ·exact c
  ·exfalso
   have e:vr (al 2)=2*2^KK:=fd (by decide) (by decide)
   have k:=s3 (by omega);have v:=bM c;rw[e]at v;have m:=Int.mul_le_mul_of_nonneg_right v (Int.le_of_lt gK);have n:=Int.mul_lt_mul_of_pos_right h2 (aE KK)
   rw[show 2*2^KK*SC=2*SC*2^KK by rw[Int.mul_assoc,Int.mul_assoc,Int.mul_comm (2^KK)]]at m
   omega
 have k:=Rat.intCast_le_intCast.2 (Int.le_of_lt (s4 (by omega)))
 rw[Rat.intCast_mul,Rat.intCast_mul,show ((2^KK:Int):Rat)=BR from rfl,<-fK]at k
 have g:=zy b.1 a;have m:=Rat.mul_le_mul_of_nonneg_right g (Rat.le_of_lt (Rat.mul_pos bZ bX));refine Rat.le_of_mul_le_mul_right (c:=BR) ?_ bX;generalize (1/9223372036854775808:Rat)=e at *
 grind
theorem Jj{h u:Int}(hu:Rq true h SC u)(h1: -(2*SC) < h)(h2:h<=2*SC):V u*SR<=(h:Rat)+1/9223372036854775808*SR:=by
 have n:Rq false (-h) SC (-u):=by
  have s:=(gJ hu).neg
  rw[show (!true)=false from rfl,<-Int.neg_mul]at s
  rw[fj (by decide),show aj (decide (SC < 0)) SC=SC from rfl,show aj (decide (SC < 0)) (-h)= -h from rfl]
  exact s
 have k:=GW n (by omega) (by omega);rw[fW,Rat.intCast_neg]at k;generalize (1/9223372036854775808:Rat)=e at *
 grind
theorem Gg:V (al 2)=2:=by
 have e:vr (al 2)=2*2^KK:=fd (by decide) (by decide)
 have a:=fK (al 2)
 rw[e,Rat.intCast_mul,show ((2^KK:Int):Rat)=BR from rfl,show ((2:Int):Rat)=2 from rfl]at a
 have hp:=bX;refine Rat.le_antisymm (Rat.le_of_mul_le_mul_right (c:=BR) ?_ hp) (Rat.le_of_mul_le_mul_right (c:=BR) ?_ hp) <;> grind
theorem Ji{p r:Int}(h:V p < V r):p < r:=by
 rcases Int.lt_or_le p r with c | c
 ·exact c
 ·exact absurd (rV c) (Rat.not_le.2 h)
theorem qe{x y p:Int}(h:Dn (vr x+vr y) p)(h1: -2<=V x+V y)(h2:V x+V y < 2):V x+V y<=V p+1/9223372036854775808:=by
 obtain⟨o1,o2⟩:=jf;obtain⟨a1,a2,a3,b⟩:=h;have d:=Gg;have a:=bX
 have f:V (-al 2)= -2:=by rw[fW,d]
 have i:p < al 2:=by
  rcases Int.lt_or_le p (al 2)with c | c
  ·exact c
  ·exfalso
   have k:=Rat.intCast_le_intCast.2 (a3 (by omega));rw[Rat.intCast_add,<-fK,<-fK,<-fK]at k;have m:=Rat.mul_le_mul_of_nonneg_right (rV c) (Rat.le_of_lt a);rw[d]at m;have n:=Rat.mul_lt_mul_of_pos_right h2 a
   grind
 have pl: -al 2<=p:=by
  rcases Int.lt_or_le p (-al 2)with c | c
  ·exfalso
   have k:=Rat.intCast_lt_intCast.2 (b (by omega));rw[Rat.intCast_add,<-fK,<-fK,<-fK]at k
   have m:=Rat.mul_le_mul_of_nonneg_right (rV (show p+1<= -al 2 by omega)) (Rat.le_of_lt a)
   rw[f]at m;have n:=Rat.mul_le_mul_of_nonneg_right h1 (Rat.le_of_lt a)
   grind
  ·exact c
 have k:=Rat.intCast_lt_intCast.2 (b (by omega));rw[Rat.intCast_add,<-fK,<-fK,<-fK]at k;have g:=zy pl i;have m:=Rat.mul_le_mul_of_nonneg_right g (Rat.le_of_lt a);refine Rat.le_of_mul_le_mul_right (c:=BR) ?_ a;generalize (1/9223372036854775808:Rat)=e at *
 grind
theorem zx{x y p:Int}(h:Up (vr x+vr y) p)(h1: -2 < V x+V y)(h2:V x+V y<=2):V p<=V x+V y+1/9223372036854775808:=by
 have n:Dn (vr (-x)+vr (-y)) (-p):=by
  rw[aJ,aJ,show -vr x+ -vr y= -(vr x+vr y) by omega]
  exact h
 have k:=qe n (by rw[fW,fW];grind) (by rw[fW,fW];grind);rw[fW,fW,fW]at k;generalize (1/9223372036854775808:Rat)=e at *
 grind
theorem tN{a b:Int}(h1: -al 2-1<=a)(h2:b<=al 2+1)(hab:a<=b)(h:V b<=V a+8/9223372036854775808):nU (some (a,b))<=zr:=by
 obtain⟨o1,o2⟩:=jf;have e2:=jX;have s:=(bW (x:=b) (y:= -a) true (by omega) (by omega) (by omega) (by omega)).2;rw[aJ]at s
 have w:vr b-vr a<=vr zr:=by
  refine Rat.intCast_le_intCast.1 ?_;rw[Rat.intCast_sub,<-fK,<-fK]
  have q:((vr zr:Int):Rat)*1152921504606846976=BR:=by
   have p:vr zr*1152921504606846976=2^KK:=Iq
   have d:=congrArg (fun z:Int=>z) p
   have c:((vr zr*1152921504606846976:Int):Rat)=((2^KK:Int):Rat):=by rw[p]
   rw[Rat.intCast_mul]at c;exact c
  have m:=Rat.mul_le_mul_of_nonneg_right h (Rat.le_of_lt bX);generalize ((vr zr:Int):Rat)=W at *
  grind
 exact s.mono (gE (r:=zr) (by decide) (by decide)) (by omega)
theorem AB:(1000000:Rat)<=1/9223372036854775808*SR/\(0:Rat)<=1/9223372036854775808/\(1/9223372036854775808:Rat)<=1/1000/\(1000000:Rat)<=SR:=by decide +kernel
theorem pr{v:Int}{Z:Sp}(h:eO v Z)(h0:0<=v)(h1:v<=SC):∃r u,Z=some (r,u)/\r<=u/\ -al 2<=r/\u<=al 2/\bk v*SR-1500<=V r*SR+1/9223372036854775808*SR/\V u*SR<=bk v*SR+1500+1/9223372036854775808*SR:=by
 obtain⟨f,_,_⟩:=h.is h0 h1;obtain⟨r,u,a,b,hz⟩:=h;obtain⟨j,n⟩:=oQ h0 h1;obtain⟨w1,l⟩:=jQ h0 h1;obtain⟨g,i⟩:=dJ h0 h1;have d:=bZ;have n1:=Rat.mul_le_mul_of_nonneg_right g (Rat.le_of_lt d);have n2:=Rat.mul_le_mul_of_nonneg_right i (Rat.le_of_lt d)
 rw[Rat.intCast_add,show ((214:Int):Rat)=214 from rfl]at w1
 rw[Rat.intCast_sub,show ((214:Int):Rat)=214 from rfl]at l
 obtain⟨e1,e2,e3,m⟩:=AB
 have lo: -(2*SC)+1<=pL v:=Rat.intCast_le_intCast.1 (by
  rw[Rat.intCast_add,Rat.intCast_neg,Rat.intCast_mul,show ((2:Int):Rat)=2 from rfl,show ((1:Int):Rat)=1 from rfl]
  grind)
 have hi:pH v<=2*SC-1:=Rat.intCast_le_intCast.1 (by
  rw[Rat.intCast_sub,Rat.intCast_mul,show ((2:Int):Rat)=2 from rfl,show ((1:Int):Rat)=1 from rfl]
  grind)
 have c:pL v<=pH v:=Rat.intCast_le_intCast.1 (by grind)
 have R:=jZ a (by omega) (by omega);have U:=jZ b (by omega) (by omega);obtain⟨e,_⟩:=lO a b hz c (by omega) (by omega);have k:=GW a (by omega) (by omega);have o:=Jj b (by omega) (by omega);refine⟨r,u,e,lZ a b c,R.1,U.2,?_,?_⟩
 ·exact Rat.le_trans j k
 ·generalize (1/9223372036854775808:Rat)*SR=x at *
  grind
theorem sH{Z:Sp}(h:eB Z):∃r u,Z=some (r,u)/\r<=u/\ -al 2<=r/\u<=al 2/\qt*SR-1500<=V r*SR+1/9223372036854775808*SR/\V u*SR<=qt*SR+1500+1/9223372036854775808*SR:=by
 obtain⟨r,u,a,b,hz⟩:=h;have R:=jZ a (by decide) (by decide);have U:=jZ b (by decide) (by decide);obtain⟨e,_⟩:=lO a b hz (by decide) (by decide) (by decide);have c:=GW a (by decide) (by decide);have d:=Jj b (by decide) (by decide)
 have k:qt*SR-1500<=((iP/2:Int):Rat)/\((iO/2+1:Int):Rat)<=qt*SR+1500:=by decide +kernel
 refine⟨r,u,e,lZ a b (by decide),R.1,U.2,?_,?_⟩
 ·exact Rat.le_trans k.1 c
 ·generalize (1/9223372036854775808:Rat)*SR=x at *
  grind
theorem Gc{Y:Sp}(h:aZ Y):nU (ga Y)=nU Y:=by
 rcases Y with _ | ⟨a,b⟩
 ·rfl
 ·rw[eW h]
  show ay true (-a) (- -b)=ay true b (-a)
  rw[Int.neg_neg];exact dM true
theorem nF.tight{q:Bool->Int->Int->Int}(hq:QF q){n:Int}{Z:Sp}(h:nF q n Z)(h0:0<=n)(h1:n<=19342822337206103650074625):∃a b,Z=some (a,b)/\a<=b/\ -al 2-1<=a/\b<=al 2+1/\nU Z<=zr:=by
 obtain⟨q1,q2⟩:=iI;have d:=bZ;obtain⟨e1,e2,e3,e4⟩:=AB
 rcases h with⟨_,h⟩ | ⟨_,c,h⟩ | ⟨e,c,H,l,k,hH,hl,hk,hz⟩
 ·obtain⟨r,u,rfl,t,s,v,a,b⟩:=sH h;refine⟨r,u,rfl,t,by omega,by omega,tN (by omega) (by omega) t (Rat.le_of_mul_le_mul_right (c:=SR) ?_ d)⟩
  have F:(8/9223372036854775808:Rat)=8*(1/9223372036854775808):=by decide +kernel
  rw[F];generalize (1/9223372036854775808:Rat)=e at *
  grind
 ·obtain⟨_,a0,a1⟩:=bj h0 c;obtain⟨r,u,rfl,t,s,v,a,b⟩:=pr h a0 a1;refine⟨r,u,rfl,t,by omega,by omega,tN (by omega) (by omega) t (Rat.le_of_mul_le_mul_right (c:=SR) ?_ d)⟩
  have F:(8/9223372036854775808:Rat)=8*(1/9223372036854775808):=by decide +kernel
  rw[F];generalize (1/9223372036854775808:Rat)=e at *
  grind
 ·obtain⟨W,X,Y⟩:=jT hq c (by omega);obtain⟨P,a1,a2⟩:=bj W (by omega)
  obtain⟨Q,a3,E⟩:=bj (show 0<=q true (al 1) n by omega) Y
  have T:=jS P Q X;obtain⟨C,B,rfl,h2,h3,h4,h5,h6⟩:=sH hH;obtain⟨z,A,rfl,l2,l3,l4,l5,l6⟩:=pr hl a1 a2;obtain⟨s,v,rfl,k2,k3,k4,k5,k6⟩:=pr hk a3 E;have m:=fX a1 T E;obtain⟨w1,w2⟩:=dJ a1 a2;obtain⟨w3,w4⟩:=dJ a3 E;have mo:=fX a3 E (Int.le_refl SC);rw[j8]at mo;obtain⟨o1,o2⟩:=jf
  -- both quotients are neighbours
  have nb:q true (al 1) n=q false (al 1) n\/q true (al 1) n=q false (al 1) n+1:=by
   obtain⟨fP,I⟩:=jV
   have n0:0 < n:=by omega
   have s1:=kZ (hq false (al 1) n) n0 (bz (by omega) I) (bz (by omega) (by omega));have s2:=kZ (hq true (al 1) n) n0 (bz (by omega) I) (bz (by omega) (by omega))
   rcases pR (iF n0) s1 s2 with⟨x,_⟩ | ⟨x,_⟩
   ·exact .inl x
   ·exact .inr x
  have fH:al 1 < al 2:=by decide
  have vq:V (q true (al 1) n)<=V (q false (al 1) n)+1/9223372036854775808:=by
   rcases nb with x | x
   ·rw[x];generalize (1/9223372036854775808:Rat)=e at *
    grind
   ·have g:=zy (p:=q false (al 1) n) (by omega) (by omega);rw[<-x]at g;exact g
  -- so their fixed numbers are close by
  have z1:=GU P;have z2:=GU Q
  have zv:∀p,zp p=V p*SR:=fun p=>by
   unfold zp V
   have hp:=Rat.ne_of_gt bX;have x1:=Rat.div_mul_cancel (a:=((vr p:Int):Rat)*SR) hp;have x2:=Rat.div_mul_cancel (a:=((vr p:Int):Rat)) hp;refine Rat.le_antisymm (Rat.le_of_mul_le_mul_right (c:=BR) ?_ bX) (Rat.le_of_mul_le_mul_right (c:=BR) ?_ bX) <;> grind
  rw[zv,Rat.intCast_add,show ((1:Int):Rat)=1 from rfl]at z1 z2
  have gB:=Rat.mul_le_mul_of_nonneg_right vq (Rat.le_of_lt d);generalize bC:dC (q false (al 1) n)=O at *;generalize bD:dC (q true (al 1) n)=v2 at *
  have dv:((v2-O:Int):Rat)<=1/9223372036854775808*SR+1:=by
   rw[Rat.intCast_sub];generalize (1/9223372036854775808:Rat)=e at *
   grind
  have G:(v2-O)*1099511627776<=SC:=Rat.intCast_le_intCast.1 (by
   rw[Rat.intCast_mul,show ((1099511627776:Int):Rat)=1099511627776 from rfl]
   have x:(1/9223372036854775808*SR+1)*1099511627776<=SR:=by decide +kernel
   have y:=Rat.mul_le_mul_of_nonneg_right dv (show (0:Rat)<=1099511627776 by decide +kernel)
   exact Rat.le_trans y x)
  have bN:=Ee a1 T E G
  -- the hull
  have N:aZ (some (z,A)):=⟨by omega,l2,by omega,by omega,by omega⟩
  have M:aZ (some (s,v)):=⟨by omega,k2,by omega,by omega,by omega⟩
  rw[im N M]at hz
  have bB:V (max A v)*SR<=bk v2*SR+1650+1/9223372036854775808*SR:=by
   rcases (by omega:max A v=A\/max A v=v)with x | x <;> rw[x]
   ·generalize (1/9223372036854775808:Rat)*SR=y at *
    grind
   ·generalize (1/9223372036854775808:Rat)*SR=y at *
    grind
  have bA:bk O*SR-1650<=V (min z s)*SR+1/9223372036854775808*SR:=by
   rcases (by omega:min z s=z\/min z s=s)with x | x <;> rw[x]
   ·generalize (1/9223372036854775808:Rat)*SR=y at *
    grind
   ·generalize (1/9223372036854775808:Rat)*SR=y at *
    grind
  have rb: -al 2<=min z s:=by omega
  have ub:max A v<=al 2:=by omega
  have t:min z s<=max A v:=by omega
  generalize min z s=f at *;generalize max A v=i at *
  have L:aZ (some (f,i)):=⟨by omega,t,by omega,by omega,by omega⟩
  have D:=(bW (x:=C) (y:= -i) true (by omega) (by omega) (by omega) (by omega)).1;have su:=(bW (x:=B) (y:= -f) true (by omega) (by omega) (by omega) (by omega)).2;have n1:=Rat.mul_le_mul_of_nonneg_right w1 (Rat.le_of_lt d);have n4:=Rat.mul_le_mul_of_nonneg_right w4 (Rat.le_of_lt d);have n5:=Rat.mul_le_mul_of_nonneg_right q1 (Rat.le_of_lt d);have n6:=Rat.mul_le_mul_of_nonneg_right q2 (Rat.le_of_lt d)
  have x3:=Rat.mul_le_mul_of_nonneg_right e3 (Rat.le_of_lt d)
  have j:=qe D (by
   rw[fW];refine Rat.le_of_mul_le_mul_right (c:=SR) ?_ d;generalize (1/9223372036854775808:Rat)*SR=y at *
   grind) (by
   rw[fW];refine Rat.lt_of_mul_lt_mul_right (c:=SR) ?_ (Rat.le_of_lt d);have hv:=Rat.mul_le_mul_of_nonneg_right (rV h2) (Rat.le_of_lt d);have uv:=Rat.mul_le_mul_of_nonneg_right (rV t) (Rat.le_of_lt d);generalize (1/9223372036854775808:Rat)*SR=y at *
   grind)
  have o:=zx su (by
   rw[fW];refine Rat.lt_of_mul_lt_mul_right (c:=SR) ?_ (Rat.le_of_lt d);have hv:=Rat.mul_le_mul_of_nonneg_right (rV h2) (Rat.le_of_lt d);have uv:=Rat.mul_le_mul_of_nonneg_right (rV t) (Rat.le_of_lt d);generalize (1/9223372036854775808:Rat)*SR=y at *
   grind) (by
   rw[fW];refine Rat.le_of_mul_le_mul_right (c:=SR) ?_ d;generalize (1/9223372036854775808:Rat)*SR=y at *
   grind)
  rw[fW]at j o;have s3:=bW (x:=B) (y:= -f) true (by omega) (by omega) (by omega) (by omega)
  have J:ay false C (-i)<=ay true B (-f):=by
   refine Int.le_trans (D.mono s3.1 ?_) (gR s3.1 s3.2);have x1:=bM h2;have x2:=bM t;rw[aJ,aJ]
   omega
  have w:kC (some (C,B)) (some (f,i))=some (ay false C (-i),ay true B (-f)):=by
   show fL (some (C,B)) (ga (some (f,i)))=_
   rw[eW L];exact aI J (by have:=D.2.1;omega) (by have:=su.2.1;omega)
  rw[hz,w];generalize ay false C (-i)=a at *;generalize ay true B (-f)=b at *
  have v0:V 0=0:=by
   have x:=fW 0
   rw[show (-0:Int)=0 from rfl]at x
   grind
  have R:V 0 < V a:=by
   rw[v0];refine Rat.lt_of_mul_lt_mul_right (c:=SR) ?_ (Rat.le_of_lt d);have U:=Rat.mul_le_mul_of_nonneg_right j (Rat.le_of_lt d);clear j o su D s3 hz w;generalize hy:(1/9223372036854775808:Rat)=e at *;obtain⟨y,bH⟩:∃y,y=e*SR:=⟨_,rfl⟩
   grind
  have S:V b < V (al 2):=by
   rw[Gg];refine Rat.lt_of_mul_lt_mul_right (c:=SR) ?_ (Rat.le_of_lt d);have U:=Rat.mul_le_mul_of_nonneg_right o (Rat.le_of_lt d);clear j o su D s3 hz w;generalize (1/9223372036854775808:Rat)=e at *
   grind
  have a0:=Ji R;have b0:=Ji S;refine⟨a,b,rfl,J,by omega,by omega,tN (by omega) (by omega) J (Rat.le_of_mul_le_mul_right (c:=SR) ?_ d)⟩
  have y1:=Rat.mul_le_mul_of_nonneg_right j (Rat.le_of_lt d);have U:=Rat.mul_le_mul_of_nonneg_right o (Rat.le_of_lt d)
  have F:(8/9223372036854775808:Rat)=8*(1/9223372036854775808):=by decide +kernel
  rw[F];clear j o su D s3 hz w R S;generalize (1/9223372036854775808:Rat)=e at *
  grind
theorem gM.tight{q:Bool->Int->Int->Int}(hq:QF q){n:Int}{Z:Sp}(h:gM q n Z)(h0: -19342822337206103650074625<=n)(h1:n<=19342822337206103650074625):∃a b,Z=some (a,b)/\a<=b/\ -al 2-1<=a/\b<=al 2+1/\nU Z<=zr:=by
 rcases h with⟨c,Y,hY,rfl⟩ | ⟨c,h⟩
 ·obtain⟨a,b,rfl,d,e,f,w⟩:=hY.tight hq (by omega) (by omega);have ok:=(hY.ok hq (by omega) (by omega)).1;rw[Gc ok,eW ok];exact⟨-b,-a,rfl,by omega,by omega,by omega,w⟩
 ·exact h.tight hq (by omega) h1
theorem eB.one{Z Y:Sp}(h:eB Z)(k:eB Y):Z=Y:=by
 obtain⟨r,u,c,d,rfl⟩:=h;obtain⟨e,f,a,b,rfl⟩:=k;rw[c.uniq a,d.uniq b]
theorem eO.one{v:Int}{Z Y:Sp}(h:eO v Z)(k:eO v Y):Z=Y:=by
 obtain⟨r,u,c,d,rfl⟩:=h;obtain⟨e,f,a,b,rfl⟩:=k;rw[c.uniq a,d.uniq b]
theorem nF.one{q:Bool->Int->Int->Int}{n:Int}{Z Y:Sp}(h:nF q n Z)(k:nF q n Y):Z=Y:=by
 rcases h with⟨a,h⟩ | ⟨a,b,h⟩ | ⟨a,b,H,l,u,h1,h2,d,rfl⟩
 ·rcases k with⟨_,k⟩ | ⟨c,_⟩ | ⟨c,_⟩
  ·exact h.one k
  ·exact absurd a c
  ·exact absurd a c
 ·rcases k with⟨c,_⟩ | ⟨_,_,k⟩ | ⟨_,c,_⟩
  ·exact absurd c a
  ·exact h.one k
  ·exact absurd b c
 ·rcases k with⟨c,_⟩ | ⟨_,c,_⟩ | ⟨_,_,i,j,m,e,f,g,rfl⟩
  ·exact absurd c a
  ·exact absurd c b
  ·rw[h1.one e,h2.one f,d.one g]
theorem gM.one{q:Bool->Int->Int->Int}{n:Int}{Z Y:Sp}(h:gM q n Z)(k:gM q n Y):Z=Y:=by
 rcases h with⟨a,d,h,rfl⟩ | ⟨a,h⟩
 ·rcases k with⟨_,b,k,rfl⟩ | ⟨c,_⟩
  ·rw[h.one k]
  ·exact absurd a c
 ·rcases k with⟨c,_⟩ | ⟨_,k⟩
  ·exact absurd c a
  ·exact h.one k
def jF (x:Int):Prop:= -19342822337206103650074625 < x/\x < 19342822337206103650074625
def nI:Sp:=some (eM,eM+1)
theorem nI.fin:fU nI:=⟨by decide,by decide,by decide⟩
theorem nI.holds:j5 (2*qt) nI/\jO (2*qt) nI:=by
 obtain⟨h1,h2⟩:=kT;exact⟨GJ CE h1,GI CC h2⟩
def nE (q:Bool->Int->Int->Int)(y x:Int)(Z:Sp):Prop:=
 (x=0/\∃H,eB H/\Z=if y < 0 then ga H else H)\/
 (x≠0/\∃P Q,gM q (q false y x) P/\gM q (q true y x) Q/\Z=if 0 < x then bK P Q else if y < 0 then kC (bK P Q) nI else fL nI (bK P Q))
def nW (k:Int)(Z:Sp):Prop:=∃a b,Z=some (a,b)/\ -k<=a/\a<=b/\b<=k
theorem nW.fin{k:Int}{Z:Sp}(h:nW k Z)(hk:k < 19342822337206103650074625):fU Z:=by
 obtain⟨a,b,rfl,h1,h2,c⟩:=h;exact⟨h2,by omega,by omega⟩
theorem fw:0 < al 4/\al 4 < al 8/\al 8 < 19342822337206103650074625/\al 2+1<=al 4/\eM+1<=al 4/\ -al 4<=eM:=by decide
theorem nW.add{Z Y:Sp}(h:nW (al 4) Z)(k:nW (al 4) Y):nW (al 8) (fL Z Y):=by
 obtain⟨q,u,v,_⟩:=fw;obtain⟨a,b,rfl,h1,h2,f⟩:=h;obtain⟨c,d,rfl,g,i,j⟩:=k;have s:=bW (x:=a) (y:=c) true (by omega) (by omega) (by omega) (by omega);have t:=bW (x:=b) (y:=d) true (by omega) (by omega) (by omega) (by omega)
 have w:vr (al 4)=4*2^KK:=fd (by decide) (by decide)
 have z:vr (al 8)=8*2^KK:=fd (by decide) (by decide)
 have a1:=bM h1;have a2:=bM g;have a3:=bM f;have n:=bM j;have o:=bM h2;have p:=bM i;rw[aJ]at a1 a2
 have l: -al 8<=ay false a c:=(gn (r:= -al 8) (by omega) (by omega)).mono s.1 (by rw[aJ];omega)
 have m:ay true b d<=al 8:=t.2.mono (gE (r:=al 8) (by omega) (by omega)) (by omega)
 have e:ay false a c<=ay true b d:=Int.le_trans (s.1.mono t.1 (by omega)) (gR t.1 t.2)
 exact⟨_,_,aI e (by omega) (by omega),l,e,m⟩
theorem nW.neg{k:Int}{Z:Sp}(h:nW k Z)(hk:k < 19342822337206103650074625):nW k (ga Z):=by
 obtain⟨a,b,rfl,h1,h2,c⟩:=h;rw[eW ⟨by omega,h2,by omega,by omega,by omega⟩]
 exact⟨-b,-a,rfl,by omega,by omega,by omega⟩
theorem nW.sub{Z Y:Sp}(h:nW (al 4) Z)(k:nW (al 4) Y):nW (al 8) (kC Z Y):=h.add (k.neg (by have:=fw;omega))
theorem nW.up{Z:Sp}(h:nW (al 4) Z):nW (al 8) Z:=by
 obtain⟨c,d,_⟩:=fw;obtain⟨a,b,rfl,h1,h2,e⟩:=h;exact⟨a,b,rfl,by omega,h2,by omega⟩
theorem nI.in4:nW (al 4) nI:=by
 obtain⟨_,_,_,_,a,b⟩:=fw;exact⟨_,_,rfl,b,by omega,a⟩
theorem eB.in4{Z:Sp}(h:eB Z):nW (al 4) Z:=by
 obtain⟨b,c,d,e,_⟩:=fw;obtain⟨r,u,rfl,a,h1,h2,_⟩:=sH h;exact⟨r,u,rfl,by omega,a,by omega⟩
theorem AZ{q:Bool->Int->Int->Int}(hq:QF q){m n:Int}{P Q:Sp}(h:gM q m P)(k:gM q n Q)(m1:In m)(n1:In n):nW (al 4) (bK P Q):=by
 obtain⟨g,i,j,l,_⟩:=fw;obtain⟨o1,o2⟩:=jf;obtain⟨a,b,rfl,e,a1,a2,_⟩:=h.tight hq m1.1 m1.2;obtain⟨c,d,rfl,f,c1,c2,_⟩:=k.tight hq n1.1 n1.2;rw[im ⟨by omega,e,by omega,by omega,by omega⟩ ⟨by omega,f,by omega,by omega,by omega⟩]
 exact⟨_,_,rfl,by omega,by omega,by omega⟩
theorem nE.in8{q:Bool->Int->Int->Int}(hq:QF q){y x:Int}{Z:Sp}(h:nE q y x Z):nW (al 8) Z:=by
 obtain⟨e,f,b,g,j,k⟩:=fw
 rcases h with⟨_,H,a,rfl⟩ | ⟨_,P,Q,c,d,rfl⟩
 ·split
  ·exact a.in4.up.neg b
  ·exact a.in4.up
 ·have i:=AZ hq c d (hq.in false y x) (hq.in true y x)
  split
  ·exact i.up
  ·split
   ·exact i.sub nI.in4
   ·exact nI.in4.add i
def tO (q:Bool->Int->Int->Int)(X Z:Sp):Prop:=match X with
 | none=>Z=none
 | some (a,b)=>∃Za Zb,gM q a Za/\gM q b Zb/\Z=bK Za Zb
end Go.Proofs.YteigedaefgmojaaGreatDoor
namespace Go.Proofs.YteigedaefgmojaaGreatDoor
open Go.Proofs.Tryz
set_option maxHeartbeats 8000000
open Go.RowKit
set_option linter.unusedVariables false
def Ku (x:Sp)(h:Nat):Prop:=∀a b,x=some (a,b)->Fz a h/\Fz b h
theorem Ku.mono{x:Sp}{h k:Nat}(f:Ku x h)(hk:h<=k):Ku x k:=fun a b e=>⟨(f a b e).1.mono hk,(f a b e).2.mono hk⟩
def lD:List Sp->Bool
 | []=>false
 | none::_=>true
 | some _::l=>lD l
theorem vJ:∀{l:List Sp} {k:Nat},k < l.length->l.getD k none=none->lD l=true
 | none::_,_,_,_=>rfl
 | some _::l,0,_,e=>by cases e
 | some _::l,k+1,h,e=>vJ (l:=l) (k:=k) (Nat.lt_of_succ_lt_succ h) e
theorem vK:∀{l:List Sp},(∀k,k < l.length->l.getD k none≠none)->lD l=false
 | [],_=>rfl
 | none::l,h=>absurd rfl (h 0 (Nat.succ_pos _))
 | some _::l,h=>vK (l:=l) fun k hk=>h (k+1) (Nat.succ_lt_succ hk)
theorem qJ:∀{l:List Sp} {k:Nat},lD l=false->k < l.length->∃a b,l.getD k none=some (a,b)
 | none::_,_,h,_=>by cases h
 | some (a,b)::l,0,_,_=>⟨a,b,rfl⟩
 | some _::l,k+1,h,hk=>qJ (l:=l) (k:=k) h (Nat.lt_of_succ_lt_succ hk)
theorem kS:∀l:List Sp,l.foldl fL none=none
 | []=>rfl
 | x::l=>kS l
theorem mx:∀{l:List Sp} (x:Sp),lD l=true->l.foldl fL x=none
 | none::l,x,_=>by
  show l.foldl fL (fL x none)=none
  rw[zE,kS]
 | some _::l,x,h=>mx (l:=l) _ h
theorem zD:∀{l:List Sp},lD l=true->Ea l=none
 | none::l,_=>kS l
 | some p::l,h=>mx (l:=l) (some p) h
theorem tX{x y:Int}(x1: -19342822337206103650074625<=x)(x2:x < 19342822337206103650074625)(y1: -19342822337206103650074625<=y)(y2:y < 19342822337206103650074625):ay false x y < 19342822337206103650074625:=by
 cases hx:ax x
 ·cases hy:ax y
  ·obtain⟨a,b⟩:=bn x1 (by omega) hx;obtain⟨c,d⟩:=bn y1 (by omega) hy;have h:=(bW false a b c d).1.2.1
   omega
  ·rw[eG false hx hy];exact y2
 ·have e:=bP hx
  cases hy:ax y
  ·rw[dU false hx hy];exact x2
  ·have e2:=bP hy;rw[dY false hx (by omega)];exact x2
theorem Ec{x y:Int}(x1: -19342822337206103650074625 < x)(x2:x<=19342822337206103650074625)(y1: -19342822337206103650074625 < y)(y2:y<=19342822337206103650074625): -19342822337206103650074625 < ay true x y:=by
 have h:=tX (x:= -x) (y:= -y) (by omega) (by omega) (by omega) (by omega);have e:=zG (x:=x) (y:=y) true;rw[Bool.not_true]at e
 omega
theorem xd{a b c d:Int}(h:aZ (some (a,b)))(k:aZ (some (c,d))):fL (some (a,b)) (some (c,d))=some (ay false a c,ay true b d)/\aZ (some (ay false a c,ay true b d)):=by
 obtain⟨h1,h2,g,h4,i⟩:=h;obtain⟨j,l,m,n,p⟩:=k;have q:=tX h1 h4 j n;have l2:=Ec i g p m
 have r:ay false a c<=ay true b d:=by
  refine Int.le_trans (zF false ⟨by omega,by omega⟩ ⟨by omega,by omega⟩ ⟨by omega,by omega⟩ ⟨by omega,by omega⟩ h2 l) ?_;exact Ed (by omega) (by omega) (by omega) (by omega)
 have e:=lI (x:=a) (y:=c) false (by omega) (by omega) (by omega) (by omega);have f:=lI (x:=b) (y:=d) true (by omega) (by omega) (by omega) (by omega)
 have o:aZ (some (ay false a c,ay true b d)):=⟨e.1,r,f.2,q,l2⟩
 exact⟨o.mk,o⟩
theorem qf:∀{l:List Sp} {a b:Int},lD l=false->(∀y ∈ l,aZ y)->aZ (some (a,b))->l.foldl fL (some (a,b))=some ((dV l).foldl (ay false) a,(dE l).foldl (ay true) b)/\aZ (some ((dV l).foldl (ay false) a,(dE l).foldl (ay true) b))
 | [],a,b,_,_,h=>⟨rfl,h⟩
 | none::l,_,_,h,_,_=>by cases h
 | some (c,d)::l,a,b,h,hl,hab=>by
  obtain⟨e,o⟩:=xd hab (hl (some (c,d)) (List.mem_cons_self ..))
  have:=qf (l:=l) h (fun y hy=>hl y (List.mem_cons_of_mem _ hy)) o
  rw[<-e]at this;exact this
theorem zC:∀{l:List Sp},lD l=false->(∀y ∈ l,aZ y)->eH ((dV l).foldl (ay false) 0) ((dE l).foldl (ay true) 0)=Ea l
 | [],_,_=>by decide
 | none::l,h,_=>by cases h
 | some (c,d)::l,h,hl=>by
  have k:=hl (some (c,d)) (List.mem_cons_self ..);have i:=k.in1
  obtain⟨e,o⟩:=qf (l:=l) h (fun y hy=>hl y (List.mem_cons_of_mem _ hy)) k
  show eH ((dV l).foldl (ay false) (ay false 0 c)) ((dE l).foldl (ay true) (ay true 0 d))=l.foldl fL (some (c,d))
  rw[dM (x:=0) (y:=c),dM (x:=0) (y:=d),fR false i.1.1 i.1.2,fR true i.2.1 i.2.2,e,o.mk]
set_option linter.unusedSimpArgs false
set_option maxRecDepth 100000
theorem lJ{e:Bool}{D M E D' M' E':Int}{s s':Bool}{a b:Int}(hM:LQ M)(hM':LQ M')(h:iJ e D s M E D' s' M' E'=some (a,b)):Ci e D s M E D' s' M' E' (some (a,b)):=by
 rw[<-h];refine lS hM hM' ?_
 cases hm:jU e D s M E D' s' M' E'
 ·rw[lT hm]at h
  cases h
 ·rfl
theorem o7{w:World}{A:Option Addr}{n c:Nat}{l:List Sp}{r:Bool}(h:kJ w A n c l)(hr:lD l=r):Calls prog 82 #[.slice A n c] w (PB w r):=by
 have z:=ie hr;have v:=ie h.1;have L:=h.2.1;have J:=h.2.2.1;have x:=h;clear hr h
 go_enter func82,ntmps82
 go_wp2
 go_loopw [7] (fun i wr=>∃k:Nat,k<=n/\i= .int .i64 k/\(∀j,j < k->l.getD j none≠none)/\Below w.heap.size w wr) (fun i _=>n-(intOf i).toNat)
 case atStart=>exact ⟨0,Nat.zero_le _,rfl,fun j h=>absurd h (Nat.not_lt_zero _),Below.refl _ _⟩
 case round=>
  obtain⟨k,Z,rfl,I,G⟩:=hrel;have C:=ie I;have d:=ie G;clear I G
  by_cases hlt:k < n
  ·have F:decide ((k:Int) < (n:Int))=true:=by simp;omega
   have h:=x.below d.out;obtain⟨b,o,rfl,hcell⟩:=h.2.2.2 (by omega);obtain⟨e,D,s,M,E,D',s',M',E',N,O,x2,P,Q,R,S,T,U,H,y,hx⟩:=hcell k hlt;clear hcell h x
   have i1:(k:Int) < n:=by omega
   have i2:(0:Int)<=k:=by omega
   have a:l.getD k none=none->r=true:=fun e=>z.out.symm.trans (vJ (by rw[v.out];exact hlt) e)
   have m:l.getD k none≠none->∀j,j < k+1->l.getD j none≠none:=fun e j hj=>by
    by_cases c:j=k
    ·rw[c];exact e
    ·exact C.out j (by omega)
   rw[<-hx]at a m;clear hx z C
   cases e
   ·go_upto_region 4 with fail
    clear N O x2 P Q R S T U;generalize g:wr.alloc _=X at *;obtain⟨q,u⟩:=Bo.nw g;clear g;replace d:=ak d u;clear u;have t:=lT (e:=false) (K:=D) (s:=s) (M:=M) (E:=E) (K':=D') (s':=s') (M':=M') (E':=E')
    cases hm:jU false D s M E D' s' M' E'
    ·obtain rfl:=a (t hm)
     have f:=ie hm;clear a m hm t;have p:=q.cell
     go_wp2_with fail
     refine(vR H y f.out).mono ?_;rintro W Y ⟨rfl,B⟩;clear p;replace q:=q.b B;replace d:=ak d B;clear B;clear f;go_wp2
     go_ret
     exact⟨rfl,d.out⟩
    ·have V:Hid (∀j,j < k+1->l.getD j none≠none):=ie (m (of_decide_eq_true hm))
     have f:=ie hm;clear a m hm t;have p:=q.cell
     go_wp2_with fail
     refine(vR H y f.out).mono ?_;rintro W Y ⟨rfl,B⟩;clear p;replace q:=q.b B;replace d:=ak d B;clear B;clear f;go_wp2
     go_roundw
     case rel=>exact ⟨k+1,by omega,by go_num,V.out,d.out⟩
     case measure=>simp [intOf];omega
   ·go_upto_region 4 with fail
    clear N O x2 P Q R S T U;generalize g:wr.alloc _=X at *;obtain⟨q,u⟩:=Bo.nw g;clear g;replace d:=ak d u;clear u
    obtain rfl:=a wz
    clear a m;have p:=q.cell;go_wp2
    go_ret
    exact⟨rfl,d.out⟩
  ·obtain rfl:k=n:=by omega
   have F:decide ((k:Int) < (k:Int))=false:=by simp
   obtain rfl:false=r:=(vK (fun j hj=>C.out j (by rw[v.out]at hj;exact hj))).symm.trans z.out
   clear C z;go_wp2
   go_ret
   exact⟨rfl,d.out⟩
theorem Gp{w:World}{e:Bool}{D M E D' M' E':Int}{s s':Bool}{x z:Sp}(hM:LQ M)(hM':LQ M')(hx:iJ e D s M E D' s' M' E'=x)(hr:ga x=z):Calls prog 85 #[VI e D s M E D' s' M' E'] w (PV w z):=by
 delta VI
 obtain⟨p,hp⟩:∃p,lD [x]=p:=⟨_,rfl⟩;have k:=ie hp;have r:=ie hx;clear hx hp
 go_enter func85,ntmps85
 go_upto_region 1 with fail
 generalize n:(w.alloc _).alloc _=w1 at *;obtain⟨g,a,d⟩:=Bo.en2 n;clear n;have h:=g.cell
 go_wp2_with fail
 refine(o7 (kJ.lit1 rfl ⟨hM,hM',r.out⟩) k.out).mono ?_;rintro U Y ⟨rfl,B⟩;replace B:=bt (af _ (.cells #[.bool e,.int .i64 D,.bool s,.int .u64 M,.int .i64 E,.int .i64 D',.bool s',.int .u64 M',.int .i64 E'] 26)) B;clear h;refine aF ?_ g a d B;clear g a d B;intro g a d
 rcases x with _ | ⟨W,X⟩
 ·obtain rfl:true=p:=k.out
  obtain rfl:none=z:=hr
  clear k
  go_wp2_with fail
  refine(dr).mono ?_;rintro U Z ⟨rfl,B⟩;refine aF ?_ g a d B;clear g a d B;intro g a d;have j:=a.cell;have c:=a.frozen;go_wp2;clear j c;have m:=ac.t9 a true 0 false 0 0 0 false 0 0
  exact bq (by simp[results,results85,go_sem,m.box.cell]) rfl ⟨_,_,_,_,_,_,_,_,_,rfl,Ci.none,(m.below d.out (by omega))⟩
 ·obtain⟨rfl,a1,J,o1,C,A⟩:=lJ hM hM' r.out
  obtain rfl:false=p:=k.out
  obtain⟨u,y⟩:∃u,-X=u:=⟨_,rfl⟩;obtain⟨l,hl⟩:∃l,-W=l:=⟨_,rfl⟩
  have o:eH u l=z:=by rw[<-y,<-hl];exact hr
  have O:Hid (-rk D' s' M' E'=u):=ie (by rw[J.rk];exact y)
  have L:Hid (-rk D s M E=l):=ie (by rw[a1.rk];exact hl)
  have N:=ie o;clear y hl hr o o1 C A r k;have h:=g.cell
  go_upto_region 3 with fail
  clear h;refine bF [0,1,2,3,4,5,6] [8,9,10,11,12,13,14,0] [[],[0],[1],[],[3],[4],[2,5],[]] 8 1 [Jo.qp w.heap.size 5,Jo.q4 D' s' M' E',Jo.Fact.num u,Jo.qp w.heap.size 1,Jo.q4 D s M E,Jo.Fact.num l,Jo.Fact.iv z,Jo.Fact.any] ?_ ?_
  ·iterate 2 (refine jm ?_ ?_;rotate_left)
   refine jm ?_ ?_
   ·rintro I i _ rfl K f;go_simp;exact Jo.n1 (yA J.top O.out) f.out
   iterate 2 (refine jm ?_ ?_;rotate_left)
   refine jm ?_ ?_
   ·rintro I i _ rfl K f;go_simp;exact Jo.n1 (yA a1.top L.out) f.out
   refine jm ?_ ?_
   ·rintro I i _ ⟨K2,s2,M2,E2,rfl,F⟩ _ ⟨P,s3,R,E3,rfl,G⟩ K f;go_simp;exact Jo.v1 (iq F.top G.top F.rk G.rk N.out) f.out
   exact jo
   all_goals (rintro I i;(repeat rintro _ rfl);intro K f;have h:=(g.b i).cell;go_simp;exact f.out _ _ rfl (br _ _))
  rintro w8 i _ _ _ rfl _ ⟨K2,s2,M2,E2,rfl,F⟩ _ _ _ rfl _ ⟨P,s3,R,E3,rfl,G⟩ _ ⟨T,Q,s4,S,E4,t,H,v,q,rfl,V⟩ -;simp only[Jo.z];replace a:=a.b i;replace d:=ak d i;have j:=a.cell;have c:=a.frozen
  refine jn 7 fun K f=>?_
  go_simp;refine f.out _ _ ?_;clear f K j c;have m:=ac.t9 a T Q s4 S E4 t H v q;refine jd ?_;go_wp2;exact bq (by simp[results,results85,go_sem,m.box.cell]) rfl ⟨_,_,_,_,_,_,_,_,_,rfl,V,(m.below d.out (by omega))⟩
theorem Gn{w:World}{A:Option Addr}{n c:Nat}{l:List Sp}{z:Sp}(hT:Tb w)(h:kJ w A n c l)(hr:Ea l=z):Calls prog 96 #[.slice A n c] w (PV w z):=by
 obtain⟨p,hp⟩:∃p,lD l=p:=⟨_,rfl⟩;have G:=ie hp;have r:=ie h.1;have hH:=h.2.1;have hG:=h.2.2.1;clear hp
 go_enter func96,ntmps96
 go_upto_region 1 with fail
 generalize bB:w.alloc _=w1 at *;obtain⟨d,a⟩:=Bo.en1 bB;replace hT:=hT.below a.out;replace h:=h.below a.out;clear bB
 go_wp2_with fail
 refine(o7 h G.out).mono ?_;rintro ee w2 ⟨rfl,B⟩;refine aR ?_ d hT h a B;clear d hT h a B;intro d hT h a
 cases p
 ·have bN:=h.ok;have bD:=(zC G.out bN).trans hr;obtain⟨u,hu⟩:∃u,GO false (dV l)=u:=⟨_,rfl⟩;obtain⟨v,hv⟩:∃v,GO true (dE l)=v:=⟨_,rfl⟩
  have hz:eH u v=z:=by rw[<-hu,<-hv];exact bD
  have HU:=ie hu;have HV:=ie hv;have HZ:=ie hz;clear bN bD hu hv hz hr;go_wp2
  go_loopw [3,4,12] (fun va vb i wr=>∃k A1 Q c1 d1,k<=n/\va= .slice A1 k c1/\vb= .slice Q k d1/\i= .int .i64 ((k:Nat):Int)/\Ja w2 A1 Q k c1 d1 (dV (l.take k)) (dE (l.take k)) wr) (fun _ _ i _=>n-(intOf i).toNat)
  case atStart=>exact ⟨0,_,_,_,_,Nat.zero_le _,rfl,rfl,rfl,Na.nil _ _,Na.nil _ _,(fun k h=>by cases h),Below.refl _ _⟩
  case round=>
   obtain⟨k,A1,Q,c1,d1,y,rfl,rfl,rfl,x,m,J,hB⟩:=hrel;have F:=a;replace a:=ie hB;clear hB
   by_cases hlt:k < n
   ·have hE:decide ((k:Int) < (n:Int))=true:=by simp;omega
    have h':=h.below a.out
    obtain⟨a0,b0,hg⟩:=qJ G.out (k:=k) (by rw[r.out];exact hlt);have N:=oz (l:=l) (k:=k) (by rw[r.out];exact hlt);have L:=mz (l:=l) (k:=k) (by rw[r.out];exact hlt);rw[hg]at N L;obtain⟨b,o,rfl,hcell⟩:=h'.2.2.2 (by omega);obtain⟨e,D,s,M,E,D',s',M',E',x0,x1,x2,x3,x4,x5,x6,x7,x8,hM,bA,hx⟩:=hcell k hlt;rw[hg]at hx
    obtain⟨rfl,a1,b1,_,_,_⟩:=lJ hM bA hx;clear hcell h' h hx hM bA
    have i1:(k:Int) < n:=by omega
    have i2:(0:Int)<=k:=by omega
    generalize dV (l.take k)=la at *;generalize dE (l.take k)=lb at *
    have T:Hid (dV (l.take (k+1))=la ++[a0]):=ie N
    have S:Hid (dE (l.take (k+1))=lb ++[b0]):=ie L
    have t:=ie J;clear N L J hg HU HV HZ G d hT F
    go_upto_region 7 with fail
    clear x0 x1 x2 x3 x4 x5 x6 x7 x8;generalize bC:wr.alloc _=w6 at *;obtain⟨Y,BW⟩:=Bo.nw bC;clear bC;refine aF ?_ x m a BW;clear x m a BW;intro x m a;have O:=Y.cell
    go_wp2_with (at_builtin;refine jE rfl _ _ rfl rfl rfl (x.below (af _ _)) a1 (Bo.new _ _ _) (by omega) (Nat.le_trans a.out.size (af _ _).size) ?_)
    intro A2 d2 w7 H G1 I
    clear O;have g:=bt a.out (af _ (.cells #[.int .i64 D,.bool s,.int .u64 M,.int .i64 E] 24));have f:=x.below (af _ (.cells #[.int .i64 D,.bool s,.int .u64 M,.int .i64 E] 24));have j:=m.below (af _ (.cells #[.int .i64 D,.bool s,.int .u64 M,.int .i64 E] 24));replace Y:=(Y.below (af _ (.cells #[.int .i64 D,.bool s,.int .u64 M,.int .i64 E] 24))).grownN f (by decide) G1
    replace a:=ie (g.grown G1 g.size (fun k y=>(f.own_lt k y).1))
    have l1:∀k,bm Q=some k->k < w6.heap.size+1:=fun k y=>by
     have:=(j.own_lt k y).2
     simpa using this
    replace m:=j.kept G1 (Cy t.out);clear x f j G1 g;have O:=Y.cell
    go_wp2_with (at_builtin;refine jE rfl _ _ rfl rfl rfl (m.below (af _ _)) b1 (Bo.new _ _ _) (by omega) (Nat.le_trans a.out.size (af _ _).size) ?_)
    intro B2 d3 w8 hA G2 Z
    clear O;have g:=bt a.out (af _ (.cells #[.int .i64 D',.bool s',.int .u64 M',.int .i64 E'] 24));have j:=m.below (af _ (.cells #[.int .i64 D',.bool s',.int .u64 M',.int .i64 E'] 24));have f:=H.below (af _ (.cells #[.int .i64 D',.bool s',.int .u64 M',.int .i64 E'] 24))
    have lA:∀k,bm A2=some k->k < w7.heap.size+1:=fun k y=>by
     have:=(f.own_lt k y).2
     simpa using this
    have bH:∀k,bm A2=some k->bm B2≠some k:=pj t.out I Z l1 lA
    have C:∀k,bm A2=some k->bm Q≠some k:=pj t.out I (.inl rfl) l1 lA
    replace a:=ie (g.grown G2 g.size (fun k y=>(j.own_lt k y).1))
    replace H:=f.kept G2 (wq C)
    have t1:=T.out;have t2:=S.out;clear f j G2 g C Y m l1 lA I Z T S t;go_wp2
    go_roundw
    case rel=>exact ⟨k+1,_,_,_,_,by omega,rfl,rfl,by go_num,by rw[t1];exact H,by rw[t2];exact hA,bH,a.out⟩
    case measure=>simp [intOf];omega
   ·obtain rfl:k=n:=by omega
    have hE:decide ((k:Int) < (k:Int))=false:=by simp
    have e1:l.take k=l:=List.take_of_length_le (by rw[r.out];omega)
    rw[e1]at x m;have L1:=x.nl (by omega);have V:=m.nl (by omega);replace d:=d.below a.out;replace hT:=hT.below a.out;replace a:=ie (bt F.out a.out);clear x m e1 J F h G
    go_wp2_with fail
    refine(Jm hT L1 HU.out).mono ?_;rintro ee w9 ⟨hK,hQ,hN,hI,rfl,fH,B⟩;refine aR ?_ d hT V a B;clear d hT V a B;intro d hT V a
    go_wp2_with fail
    refine(Jm hT V HV.out).mono ?_;rintro ee wA ⟨hL,hR,hP,hJ,rfl,fP,B⟩;replace d:=d.b B;replace a:=ak a B;clear B
    go_wp2_with fail
    refine(iq fH.top fP.top fH.rk fP.rk HZ.out).mono ?_;rintro ee wB ⟨hC,gP,hD,gS,gO,U,gB,W,R,rfl,hF,B⟩;replace d:=d.b B;replace a:=ak a B;clear B;clear L1 V hT;have P:=d.cell;have q:=d.frozen;go_wp2;clear P q;have X:=ac.t9 d hC gP hD gS gO U gB W R
    exact bq (by simp[results,results96,go_sem,X.box.cell]) rfl ⟨_,_,_,_,_,_,_,_,_,rfl,hF,(X.below a.out (by omega))⟩
 ·obtain rfl:none=z:=(zD G.out).symm.trans hr
  clear G hT h hr
  go_wp2_with fail
  refine(dr).mono ?_;rintro ee w3 ⟨rfl,B⟩;replace d:=d.b B;replace a:=ak a B;clear B;have P:=d.cell;have q:=d.frozen;go_wp2;clear P q;have X:=ac.t9 d true 0 false 0 0 0 false 0 0
  exact bq (by simp[results,results96,go_sem,X.box.cell]) rfl ⟨_,_,_,_,_,_,_,_,_,rfl,Ci.none,(X.below a.out (by omega))⟩
theorem Gq{w:World}{e:Bool}{D M E D' M' E':Int}{s s':Bool}{e2:Bool}{G P Q G' P' Q':Int}{g g':Bool}{x y z:Sp}(hT:Tb w)(hM:LQ M)(hM':LQ M')(hP:LQ P)(hP':LQ P')(hx:iJ e D s M E D' s' M' E'=x)(hy:iJ e2 G g P Q G' g' P' Q'=y)(hr:kC x y=z):Calls prog 90 #[VI e D s M E D' s' M' E',VI e2 G g P Q G' g' P' Q'] w (PV w z):=by
 delta VI
 obtain⟨m,hm⟩:∃m,ga y=m:=⟨_,rfl⟩
 have h:Ea [x,m]=z:=by rw[<-hm];exact hr
 have I:=ie hx;have J:=ie hy;have F:=ie hm;have H:=ie h;clear hx hy hm hr h
 go_enter func90,ntmps90
 go_upto_region 1 with fail
 generalize f:((w.alloc _).alloc _).alloc _=w1 at *;obtain⟨O,R,d,j⟩:=Bo.en3 f;replace hT:=hT.below j.out;clear f;refine bF [0,1,2,3,4] [6,7,8,9,10,0] [[],[],[1],[0,2],[3],[]] 6 1 [Jo.q9 e D s M E D' s' M' E',Jo.q9 e2 G g P Q G' g' P' Q',Jo.Fact.iv m,Jo.Fact.il8 2 [x,m],Jo.Fact.iv z,Jo.Fact.any] ?_ ?_
 ·iterate 2 (refine jm ?_ ?_;rotate_left)
  refine jm ?_ ?_
  ·rintro u c _ rfl K a;go_simp;exact Jo.v1 (Gp hP hP' J.out F.out) a.out
  refine jm ?_ ?_
  ·rintro u c _ rfl _ ⟨e1,L,s1,N,C,n,r,p,k,rfl,B⟩ K a;go_simp;exact a.out _ _ ⟨_,2,rfl,kJ.lit2 rfl ⟨hM,hM',I.out⟩ B.rw⟩ (af _ _)
  refine jm ?_ ?_
  ·rintro u c _ ⟨A3,c3,rfl,S⟩ K a;go_simp;exact Jo.v1 (Gn (hT.b c) S H.out) a.out
  exact jo
  all_goals (rintro u c;(repeat rintro _ rfl);intro K a;have T:=(O.b c).cell;have U:=(R.b c).cell;go_simp;exact a.out _ _ rfl (br _ _))
 rintro V c _ rfl _ rfl _ ⟨e1,L,s1,N,C,n,r,p,k,rfl,B⟩ _ ⟨_,_,rfl,_⟩ _ ⟨e2,K2,s2,M2,E2,o,t,q,l,rfl,v2⟩ -;simp only[Jo.z];replace d:=d.b c;replace j:=ak j c;have v:=d.cell;have i:=d.frozen
 refine jn 5 fun K a=>?_
 go_simp;refine a.out _ _ ?_;clear a K v i;have A:=ac.t9 d e2 K2 s2 M2 E2 o t q l;refine jd ?_;go_wp2;exact bq (by simp[results,results90,go_sem,A.box.cell]) rfl ⟨_,_,_,_,_,_,_,_,_,rfl,v2,(A.below j.out (by omega))⟩
theorem og{α:Nat}(h0:9223372036854775808<=α)(h1:α < 18446744073709551616):ae α=64:=jt (k:=63) (by omega) h0 h1
theorem Eu{up s t:Bool}{M1 E1 M2 E2 x y r:Int}{α β:Nat}(q1:Fq 1 s M1 E1 x)(q2:Fq 1 t M2 E2 y)(ha:(α:Int)=M1)(hb:(β:Int)=M2)(hr:Qt up x y r)(hβ:0 < β):
  ∃P:Bool->Bool->Int->Prop,(∀σ up r',fQ up (aj σ ((α:Int)*2^(E1-E2+(KK:Int)).toNat)) (β:Int) r'->P σ up r')/\(∀r',P (s !=t) up r'->r'=r):=by
 refine⟨_,fun _ _ _ h=>h,fun r' h=>?_⟩
 have e0:E1-E2+((0:Nat):Int)-((0:Nat):Int)+(KK:Int)=E1-E2+(KK:Int):=by omega
 exact(qC (v:=0) (w:=0) q1 q2 (by rw[<-ha];exact(Int.mul_one _).symm) (by rw[<-hb];exact(Int.mul_one _).symm) hβ (by decide) (by decide) (by rw[e0];exact h)).uniq hr
theorem JF{w:World}{D D' M M' E E':Int}{s s':Bool}{up:Bool}{x y r:Int}(hT:dL w)(hM:LQ M)(hM':LQ M')(hx:rk D s M E=x)(hy:rk D' s' M' E'=y)(hr:Qt up x y r):Calls prog 151 #[VQ D s M E,VQ D' s' M' E',.bool up] w (PN w r):=by
 delta VQ
 obtain⟨W,s1,Q,O,v⟩:=AN (D:=D) (s:=s) (M:=M) (E:=E) hM;obtain⟨K2,s2,M2,E2,A⟩:=AN (D:=D') (s:=s') (M:=M') (E:=E') hM';rw[hx]at v;rw[hy]at A;have HX:=ie hx;have HY:=ie hy;clear hx hy
 go_enter func151,ntmps151
 go_upto_region 1 with fail
 generalize T:((w.alloc _).alloc _).alloc _=w1 at *;obtain⟨n,o,f,t⟩:=Bo.en3 T;replace hT:=hT.below t.out;clear T;refine bF [0,1,2,3] [8,9,10,11,0,0] [[],[0],[],[2],[],[]] 6 2 [Jo.q4 D s M E,Jo.q4 W s1 Q O,Jo.q4 D' s' M' E',Jo.q4 K2 s2 M2 E2,Jo.Fact.any,Jo.Fact.any] ?_ ?_
 ·refine jm ?_ ?_;rotate_left
  refine jm ?_ ?_
  ·rintro F q _ rfl K l;go_simp;refine(CQ hM v HX.out).mono ?_;rintro H X ⟨rfl,B⟩;exact l.out _ _ rfl B
  refine jm ?_ ?_;rotate_left
  refine jm ?_ ?_
  ·rintro F q _ rfl K l;go_simp;refine(CQ hM' A HY.out).mono ?_;rintro H X ⟨rfl,B⟩;exact l.out _ _ rfl B
  exact jo
  all_goals (rintro F q;(repeat rintro _ rfl);intro K l;have g:=(n.b q).cell;have i:=(o.b q).cell;go_simp;exact l.out _ _ rfl (br _ _))
 rintro w2 q _ rfl _ rfl _ rfl _ rfl -;simp only[Jo.z];replace n:=n.b q;replace o:=o.b q;replace f:=f.b q;replace hT:=hT.b q;replace t:=ak t q;have g:=n.cell;have U:=n.frozen
 refine jn 4 fun K l=>?_
 go_simp;refine l.out _ _ ?_;clear l K g U;generalize S:(((w2.setCell _ _).setCell _ _).setCell _ _).setCell _ _=w3 at *;have j:=ac.of4 n S;replace o:=o.s j;replace f:=f.s j;replace hT:=hT.s j;replace t:=bi t j (by omega);replace n:=j.box;clear j S;have i:=o.cell
 have V:=o.frozen
 refine jn 5 fun K l=>?_
 go_simp;refine l.out _ _ ?_;clear l K i V;generalize S:(((w3.setCell _ _).setCell _ _).setCell _ _).setCell _ _=w4 at *;have j:=ac.of4 o S;replace n:=n.s j;replace f:=f.s j;replace hT:=hT.s j;replace t:=bi t j (by omega);replace o:=j.box;clear j S;refine jd ?_
 clear HX HY hM hM';have i1:=gH v;have i2:=gH A;have G:=v.zero_iff;have u:=A.zero_iff
 have fH:W=2\/W=0\/W=1:=by rcases v.cases with⟨h,_⟩ | ⟨h,_⟩ | ⟨h,_⟩ <;> omega
 have L:K2=2\/K2=0\/K2=1:=by rcases A.cases with⟨h,_⟩ | ⟨h,_⟩ | ⟨h,_⟩ <;> omega
 rcases fH with rfl | rfl | rfl
 ·rcases L with rfl | rfl | rfl
  ·have p:y≠0:=fun c=>absurd (u.2 c) (by decide)
   have k:r=0:=(bR p (.inr i2)).1 hr
   subst k;clear i1 i2 G u v A hr p hT;have m:=f.cell;have d:=f.frozen;have g:=n.cell;have i:=o.cell;go_wp2;clear m d g i;have j:=ac.t4 f 0 false 0 0;exact bq (by simp[results,results151,go_sem,j.box.cell]) rfl ⟨_,_,_,_,rfl,Fq.nought,(j.below t.out (by omega))⟩
  ·have k:aj (!up) TP=r:=by
    rw[u.1 rfl]at hr;exact(fg.1 hr).symm
   have C:=ie k;clear i1 i2 G u v A hr k hT;have g:=n.cell;have i:=o.cell
   go_wp2_with fail
   refine(wy C.out).mono ?_;rintro H w6 ⟨I,s3,J,E3,rfl,N,B⟩;clear g i;refine aR ?_ n o f t B;clear n o f t B;intro n o f t;have m:=f.cell;have d:=f.frozen;go_wp2;clear m d;have j:=ac.t4 f I s3 J E3
   exact bq (by simp[results,results151,go_sem,j.box.cell]) rfl ⟨_,_,_,_,rfl,N,(j.below t.out (by omega))⟩
  ·have p:y≠0:=fun c=>absurd (u.2 c) (by decide)
   have hn:¬(x=0\/ax y=true):=by
    rw[i2];rintro (c | c)
    ·exact absurd (G.2 c) (by decide)
    ·exact absurd c (by decide)
   have sx:decide (x < 0)=s1:=by
    rcases v.three with⟨a,_⟩ | ⟨_,rfl,b⟩ | ⟨_,rfl,b⟩
    ·exact absurd a (by decide)
    ·exact df (by omega)
    ·exact dt b
   have sy:decide (y < 0)=s2:=by
    rcases A.three with⟨a,_⟩ | ⟨_,rfl,b⟩ | ⟨_,rfl,b⟩
    ·exact absurd a (by decide)
    ·exact df (by omega)
    ·exact dt b
   have k:aj (s1 !=s2) TP=r:=by
    have:=(iD p hn i1).1 hr
    rw[sx,sy]at this;exact this.symm
   have C:=ie k;clear i1 i2 G u v A hr k sx sy hn p hT;have g:=n.cell;have i:=o.cell
   go_wp2_with fail
   refine(jb (s:=s1 !=s2) C.out).mono ?_;rintro H w6 ⟨I,s3,J,E3,rfl,N,B⟩;clear g i;refine aR ?_ n o f t B;clear n o f t B;intro n o f t;have m:=f.cell;have d:=f.frozen;go_wp2;clear m d;have j:=ac.t4 f I s3 J E3
   exact bq (by simp[results,results151,go_sem,j.box.cell]) rfl ⟨_,_,_,_,rfl,N,(j.below t.out (by omega))⟩
 ·rcases L with rfl | rfl | rfl
  ·have p:y≠0:=fun c=>absurd (u.2 c) (by decide)
   have k:r=0:=(bR p (.inl (G.1 rfl))).1 hr
   subst k;clear i1 i2 G u v A hr p hT;have m:=f.cell;have d:=f.frozen;have g:=n.cell;have i:=o.cell;go_wp2;clear m d g i;have j:=ac.t4 f 0 false 0 0;exact bq (by simp[results,results151,go_sem,j.box.cell]) rfl ⟨_,_,_,_,rfl,Fq.nought,(j.below t.out (by omega))⟩
  ·have k:aj (!up) TP=r:=by
    rw[u.1 rfl]at hr;exact(fg.1 hr).symm
   have C:=ie k;clear i1 i2 G u v A hr k hT;have g:=n.cell;have i:=o.cell
   go_wp2_with fail
   refine(wy C.out).mono ?_;rintro H w6 ⟨I,s3,J,E3,rfl,N,B⟩;clear g i;refine aR ?_ n o f t B;clear n o f t B;intro n o f t;have m:=f.cell;have d:=f.frozen;go_wp2;clear m d;have j:=ac.t4 f I s3 J E3
   exact bq (by simp[results,results151,go_sem,j.box.cell]) rfl ⟨_,_,_,_,rfl,N,(j.below t.out (by omega))⟩
  ·have p:y≠0:=fun c=>absurd (u.2 c) (by decide)
   have k:r=0:=(bR p (.inl (G.1 rfl))).1 hr
   subst k;clear i1 i2 G u v A hr p hT;have m:=f.cell;have d:=f.frozen;have g:=n.cell;have i:=o.cell;go_wp2;clear m d g i;have j:=ac.t4 f 0 false 0 0;exact bq (by simp[results,results151,go_sem,j.box.cell]) rfl ⟨_,_,_,_,rfl,Fq.nought,(j.below t.out (by omega))⟩
 ·rcases L with rfl | rfl | rfl
  ·have p:y≠0:=fun c=>absurd (u.2 c) (by decide)
   have k:r=0:=(bR p (.inr i2)).1 hr
   subst k;clear i1 i2 G u v A hr p hT;have m:=f.cell;have d:=f.frozen;have g:=n.cell;have i:=o.cell;go_wp2;clear m d g i;have j:=ac.t4 f 0 false 0 0;exact bq (by simp[results,results151,go_sem,j.box.cell]) rfl ⟨_,_,_,_,rfl,Fq.nought,(j.below t.out (by omega))⟩
  ·have k:aj (!up) TP=r:=by
    rw[u.1 rfl]at hr;exact(fg.1 hr).symm
   have C:=ie k;clear i1 i2 G u v A hr k hT;have g:=n.cell;have i:=o.cell
   go_wp2_with fail
   refine(wy C.out).mono ?_;rintro H w6 ⟨I,s3,J,E3,rfl,N,B⟩;clear g i;refine aR ?_ n o f t B;clear n o f t B;intro n o f t;have m:=f.cell;have d:=f.frozen;go_wp2;clear m d;have j:=ac.t4 f I s3 J E3
   exact bq (by simp[results,results151,go_sem,j.box.cell]) rfl ⟨_,_,_,_,rfl,N,(j.below t.out (by omega))⟩
  ·have p:y≠0:=fun c=>absurd (u.2 c) (by decide)
   obtain⟨a1,a2,a3,a4,_⟩:=eV v;obtain⟨b1,b2,b3,b4,_⟩:=eV A;obtain⟨α,hα⟩:∃α:Nat,(α:Int)=Q:=⟨Q.toNat,by omega⟩
   obtain⟨β,hβ⟩:∃β:Nat,(β:Int)=M2:=⟨M2.toNat,by omega⟩
   have α1:9223372036854775808<=α:=by omega
   have α2:α < 18446744073709551616:=by omega
   have β1:9223372036854775808<=β:=by omega
   have β2:β < 18446744073709551616:=by omega
   obtain⟨P,hP,R⟩:=Eu v A hα hβ hr (by omega);obtain⟨e,he⟩:∃e,O-E2=e:=⟨_,rfl⟩;rw[he]at hP
   have bC: -2200000<=e:=by omega
   have bD:e<=2200000:=by omega
   have bH:e-((ae β:Int)-(ae α:Int)+64)<=2097152:=by
    rw[og α1 α2,og β1 β2]
    omega
   have Z:=ie hP;have bA:=ie R;have HA:=ie hα;have Y:=ie hβ
   have HW:Hid (IntKind.i64.wrap (O-E2)=e):=ie (by rw[he];exact IntWalk.i64_in _ (by omega))
   have bB:Hid (wrap64 (O-E2)=e):=ie (by rw[he];exact IntWalk.wrap64_in _ (by omega))
   have α0:0 < α:=by omega
   have β0:0 < β:=by omega
   clear i1 i2 G u hr p a1 a2 a3 a4 b1 b2 b3 b4 hP R he hα hβ α1 β1 v A;have g:=n.cell;have i:=o.cell
   go_upto_region 8 with fail
   clear g i;refine bF [0,1,2,3,4,5,6,7,8,9,10,11,12,13,14,15,16,17,18] [38,39,40,41,42,43,44,45,46,47,48,49,50,51,52,53,54,55,56,0] [[],[0],[1],[],[3],[4],[],[6],[],[8],[7,9],[2,5,10],[],[12],[],[14],[13,15],[],[11,16,17],[]] 20 1 [Jo.qp w.heap.size 2,Jo.Fact.eq (.int .u64 Q),Jo.Fact.rd α 2,Jo.qp (w.heap.size+1) 2,Jo.Fact.eq (.int .u64 M2),Jo.Fact.rd β 2,Jo.qp w.heap.size 3,Jo.qi O,Jo.qp (w.heap.size+1) 3,Jo.qi E2,Jo.qi e,Jo.Fact.pk P,Jo.qp w.heap.size 1,Jo.qb s1,Jo.qp (w.heap.size+1) 1,Jo.qb s2,Jo.Fact.eq (.bool (s1 !=s2)),Jo.qb up,Jo.Fact.num r,Jo.Fact.any] ?_ ?_
   ·refine jm ?_ ?_;rotate_left
    refine jm ?_ ?_
    ·rintro F q _ rfl K l;have gB:=(n.b q).a 2 (.int .u64 Q) rfl;go_simp;exact l.out _ _ rfl (br _ _)
    refine jm ?_ ?_
    ·rintro F q _ rfl K l;go_simp;refine(CO HA.out α2).mono ?_;rintro H X ⟨A2,rfl,p2,B⟩;exact l.out _ _ ⟨A2,2,2,rfl,p2,Nat.le_refl _⟩ B
    refine jm ?_ ?_;rotate_left
    refine jm ?_ ?_
    ·rintro F q _ rfl K l;have gS:=(o.b q).a 2 (.int .u64 M2) rfl;go_simp;exact l.out _ _ rfl (br _ _)
    refine jm ?_ ?_
    ·rintro F q _ rfl K l;go_simp;refine(CO Y.out β2).mono ?_;rintro H X ⟨A5,rfl,p5,B⟩;exact l.out _ _ ⟨A5,2,2,rfl,p5,Nat.le_refl _⟩ B
    refine jm ?_ ?_;rotate_left
    refine jm ?_ ?_
    ·rintro F q _ rfl K l;have gO:=(n.b q).a 3 (.int .i64 O) rfl;go_simp;exact l.out _ _ rfl (br _ _)
    refine jm ?_ ?_;rotate_left
    refine jm ?_ ?_
    ·rintro F q _ rfl K l;have hA:=(o.b q).a 3 (.int .i64 E2) rfl;go_simp;exact l.out _ _ rfl (br _ _)
    refine jm ?_ ?_
    ·rintro F q _ rfl _ rfl K l;have hw:=HW.out;have bN:=bB.out;go_simp
     exact l.out _ _ (by first | rfl | (show Value.int _ _=Value.int _ _;first | rw[hw] | rw[bN])) (br _ _)
    refine jm ?_ ?_
    ·rintro F q _ ⟨A2,n2,c2,rfl,p2,k2⟩ _ ⟨A5,n5,c5,rfl,p5,k5⟩ _ rfl K l;go_simp;refine(rq p2 p5 (by omega) (by omega) α0 β0 bC bD bH Z.out).mono ?_;rintro H X ⟨A7,n7,c7,t7,x7,rfl,p7,B⟩;exact l.out _ _ ⟨A7,n7,c7,t7,x7,rfl,p7⟩ B
    refine jm ?_ ?_;rotate_left
    refine jm ?_ ?_
    ·rintro F q _ rfl K l;have fP:=(n.b q).a 1 (.bool s1) rfl;go_simp;exact l.out _ _ rfl (br _ _)
    refine jm ?_ ?_;rotate_left
    refine jm ?_ ?_
    ·rintro F q _ rfl K l;have gP:=(o.b q).a 1 (.bool s2) rfl;go_simp;exact l.out _ _ rfl (br _ _)
    iterate 2 (refine jm ?_ ?_;rotate_left)
    refine jm ?_ ?_
    ·rintro F q _ ⟨A7,n7,c7,t7,x7,rfl,p7⟩ _ rfl _ rfl K l;go_simp;exact Jo.n1 (CP (hT.b q) p7 bA.out) l.out
    exact jo
    all_goals (rintro F q;(repeat rintro _ rfl);intro K l;go_simp;exact l.out _ _ rfl (br _ _))
   rintro w8 q _ _ _ rfl _ ⟨_,_,_,rfl,_⟩ _ _ _ rfl _ ⟨_,_,_,rfl,_⟩ _ _ _ rfl _ _ _ rfl _ rfl _ ⟨_,_,_,_,_,rfl,_⟩ _ _ _ rfl _ _ _ rfl _ rfl _ rfl _ ⟨K9,s9,M9,E9,rfl,q9⟩ -;simp only[Jo.z];replace f:=f.b q;replace t:=ak t q;have m:=f.cell;have d:=f.frozen
   refine jn 19 fun K l=>?_
   go_simp;refine l.out _ _ ?_;clear l K m d;have j:=ac.t4 f K9 s9 M9 E9;refine jd ?_;go_wp2;exact bq (by simp[results,results151,go_sem,j.box.cell]) rfl ⟨_,_,_,_,rfl,q9,(j.below t.out (by omega))⟩
end Go.Proofs.YteigedaefgmojaaGreatDoor
namespace Go.Proofs.YteigedaefgmojaaGreatDoor
open Go.Proofs.Tryz
open Go Go.RowKit
set_option linter.unusedVariables false
theorem Fm:dC (al 1)=SC:=by
 rw[eZ (bj (by decide) (Int.le_refl _)).1,pm,Int.mul_comm];exact Int.mul_ediv_cancel _ (by have:=aE KK;omega)
theorem ta:dC 0=0:=by
 rw[eZ (bj (by decide) (by decide)).1,show vr 0=0 from rfl,Int.zero_mul]
 exact Int.zero_ediv _
theorem mg:bk 0=0:=by
 unfold bk
 rw[if_neg (by decide),show pU 0=0 by decide,Rat.intCast_zero,show (0:Rat) /SR=0 by grind,jr]
 grind
theorem AK{q:Bool->Int->Int->Int}{Z:Sp}(h:gM q (al 1) Z):∃a b,eC (lF (some (al 4,al 4)) Z) nI=some (a,b):=by
 obtain⟨o,p,r,s,t,v⟩:=fw
 rcases h with⟨c,_⟩ | ⟨_,h⟩
 ·exact absurd c (by decide)
 rcases h with⟨c,_⟩ | ⟨_,_,h⟩ | ⟨_,c,_⟩
 ·exact absurd c (by decide)
 ·rw[Fm]at h;obtain⟨f,l,u⟩:=h.is (by decide) (Int.le_refl _);rw[j8]at l u;have l:=l (qt/2) (by grind);have u:=u (qt/2) (by grind)
  have i:fU (some (al 4,al 4)):=⟨Int.le_refl _,by omega,by omega⟩
  have e:V (al 4)=4:=by
   have n:vr (al 4)=4*2^KK:=fd (by decide) (by decide)
   have a:=fK (al 4)
   rw[n,Rat.intCast_mul,show ((2^KK:Int):Rat)=BR from rfl,show ((4:Int):Rat)=4 from rfl]at a
   have d:=bX;refine Rat.le_antisymm (Rat.le_of_mul_le_mul_right (c:=BR) ?_ d) (Rat.le_of_mul_le_mul_right (c:=BR) ?_ d) <;> grind
  have k:j5 4 (some (al 4,al 4)):= .inr (by rw[<-e,fK];exact Rat.le_refl)
  have j:jO 4 (some (al 4,al 4)):= .inr (by rw[<-e,fK];exact Rat.le_refl)
  obtain⟨g,p2,m⟩:=JK i f k j l u
  rw[show 4*(qt/2)=2*qt by grind]at g p2
  exact BI m nI.fin.ok g p2 nI.holds.1 nI.holds.2
 ·exact absurd (Int.le_refl _) c
theorem CR{q:Bool->Int->Int->Int}(hq:QF q)(up:Bool){x:Int}(hx:x≠0):q up 0 x=0:=(bR hx (.inl rfl)).1 (hq up 0 x)
theorem yH:al 25-3*9223372036854775808<=eM/\eM+1<=al 13-2*9223372036854775808/\0 < al 25-3*9223372036854775808/\0 < al 13-2*9223372036854775808/\0 < al 7-9223372036854775808/\0 < al 1-9223372036854775808/\al 7 < 19342822337206103650074625/\al 3 < 19342822337206103650074625/\0 < al 3/\al 1 < 19342822337206103650074625:=by decide
theorem iE{n:Int}{k:Nat}{p:Int}(hp:0 < p)(e:p+k*9223372036854775808=al n)(h0:0<=n)(hn:n<=9223372036854775807):vr p*2^k=n*2^KK:=by
 have s:=lh hp k;rw[e,fd (by omega) hn]at s;exact s.symm
theorem ER{q:Bool->Int->Int->Int}(hq:QF q){A:Sp}(h:nE q 0 (al (-1)) A):(∃a b,eC A nI=some (a,b))/\nU A < al 1:=by
 obtain⟨S,T,U,W,X,Y⟩:=fw;obtain⟨g1,g2,g3,g4,g5,g6,Z,g8,g9,H⟩:=yH;obtain⟨o1,o2⟩:=jf
 have E:al (-1)≠0:=by decide
 have s:=nI.fin;have j:=nI.holds
 rcases h with⟨c,_⟩ | ⟨_,P,Q,m,C,e⟩
 ·exact absurd c E
 ·rw[CR hq _ E]at m C
  obtain rfl:=m.one C
  rw[if_neg (by decide),if_neg (by decide)]at e
  have n:nF q 0 P:=by
   rcases m with⟨c,_⟩ | ⟨_,h⟩
   ·exact absurd c (by decide)
   ·exact h
  have d:eO 0 P:=by
   rcases n with⟨c,_⟩ | ⟨_,_,h⟩ | ⟨_,c,_⟩
   ·exact absurd c (by decide)
   ·rw[ta]at h;exact h
   ·exact absurd (show (0:Int)<=al 1 by decide) c
  obtain⟨f,l,u⟩:=d.is (Int.le_refl _) (by decide);rw[mg]at l u;have l:=l 0 (by grind);have u:=u 0 (by grind);obtain⟨r,t,rfl,rt,r1,t1,lo,hi⟩:=pr d (Int.le_refl _) (by decide)
  have i:aZ (some (r,t)):=⟨by omega,rt,by omega,by omega,by omega⟩
  have o:bK (some (r,t)) (some (r,t))=some (r,t):=by
   rw[im i i,Int.min_self,Int.max_self]
  rw[o]at e
  have G:fU (some (r,t)):=⟨rt,by omega,by omega⟩
  have D:=Gi (v:=2*qt) (w:=0) s G;have z:=D.1 j.1 l;have B:=D.2.1 j.2 u
  rw[<-e,show 2*qt+0=2*qt by grind]at z B
  have g:=D.2.2;rw[<-e]at g;refine⟨BI g s.ok z B j.1 j.2,?_⟩
  -- how KV
  have p:=bZ;obtain⟨e1,e2,e3,R⟩:=AB;rw[mg]at lo hi;have x3:=Rat.mul_le_mul_of_nonneg_right e3 (Rat.le_of_lt p)
  have vl: -(1/100)<=V r:=Rat.le_of_mul_le_mul_right (c:=SR) (by
   generalize (1/9223372036854775808:Rat)*SR=y at *
   grind) p
  have O:V t<=1/100:=Rat.le_of_mul_le_mul_right (c:=SR) (by
   generalize (1/9223372036854775808:Rat)*SR=y at *
   grind) p
  have hp:=aE KK
  have il: -(2^KK)<=vr r*100:=Rat.intCast_le_intCast.1 (by
   rw[Rat.intCast_neg,Rat.intCast_mul,<-fK,show ((2^KK:Int):Rat)=BR from rfl,show ((100:Int):Rat)=100 from rfl]
   have:=Rat.mul_le_mul_of_nonneg_right vl (Rat.le_of_lt bX)
   grind)
  have ih:vr t*100<=2^KK:=Rat.intCast_le_intCast.1 (by
   rw[Rat.intCast_mul,<-fK,show ((2^KK:Int):Rat)=BR from rfl,show ((100:Int):Rat)=100 from rfl]
   have:=Rat.mul_le_mul_of_nonneg_right O (Rat.le_of_lt bX)
   grind)
  have N:vr (al 25-3*9223372036854775808)*2^3=25*2^KK:=iE g3 (by omega) (by decide) (by decide)
  have M:vr (al 13-2*9223372036854775808)*2^2=13*2^KK:=iE g4 (by omega) (by decide) (by decide)
  have s7:vr (al 7-9223372036854775808)*2^1=7*2^KK:=iE g5 (by omega) (by decide) (by decide)
  have s1:vr (al 1-9223372036854775808)*2^1=1*2^KK:=iE g6 (by omega) (by decide) (by decide)
  have s3:vr (al 3)=3*2^KK:=fd (by decide) (by decide)
  have v1:=bM g1;have v2:=bM g2;have F:=(bW (x:=eM) (y:=r) true (by omega) (by omega) (by omega) (by omega));have k:=(bW (x:=eM+1) (y:=t) true (by omega) (by omega) (by omega) (by omega))
  have I:al 3<=ay false eM r:=(gn (r:=al 3) (by omega) (by omega)).mono F.1 (by omega)
  have J:ay true (eM+1) t<=al 7-9223372036854775808:=k.2.mono (gE (r:=al 7-9223372036854775808) (by omega) (by omega)) (by omega)
  have L:ay false eM r<=ay true (eM+1) t:=by
   refine Int.le_trans (F.1.mono k.1 ?_) (gR k.1 k.2)
   have:=bM rt
   have:=bM (show eM<=eM+1 by omega)
   omega
  have eS:fL nI (some (r,t))=some (ay false eM r,ay true (eM+1) t):=aI L (by omega) (by omega)
  rw[e,eS];generalize ay false eM r=a at *;generalize ay true (eM+1) t=b at *
  show ay true b (-a) < al 1
  have va:=bM I;have vb:=bM J;have w:=(bW (x:=b) (y:= -a) true (by omega) (by omega) (by omega) (by omega)).2
  have:=w.mono (gE (r:=al 1-9223372036854775808) (by omega) (by omega)) (by rw[aJ];omega)
  omega
end Go.Proofs.YteigedaefgmojaaGreatDoor
namespace Go.Proofs.YteigedaefgmojaaGreatDoor
open Go.Proofs.Tryz
set_option maxHeartbeats 8000000
open Go.RowKit
set_option linter.unusedVariables false
set_option linter.unusedSimpArgs false
set_option maxRecDepth 100000
theorem AQ{w:World}{e:Bool}{D M E D' M' E':Int}{s s':Bool}{x z:Sp}(hM:LQ M)(hM':LQ M')(hx:iJ e D s M E D' s' M' E'=x)(hr:ga x=z):Calls prog 37 #[VI e D s M E D' s' M' E'] w (PV w z):=by
 delta VI
 have W:=ie hx;clear hx
 go_enter func37,ntmps37
 go_upto_region 1 with fail
 generalize p:(w.alloc _).alloc _=w1 at *;obtain⟨X1,a,k⟩:=Bo.en2 p;clear p;have U:=X1.cell
 go_wp2_with fail
 refine(ja hM hM' W.out).mono ?_;rintro ee S ⟨e1,y,s1,A,t,g,i,h,f,rfl,Y,B⟩;clear U;replace a:=a.b B;replace k:=ak k B;clear B
 go_upto_region 2 with fail
 have L:=a.lt;generalize q:S.alloc _=w3 at *;obtain⟨I,C⟩:=Bo.nw q;clear q;replace a:=a.b C;replace k:=ak k C;clear C;clear W hM hM'
 rcases x with _ | ⟨xa,xb⟩
 ·obtain⟨rfl,y1,V⟩:=Y
  obtain rfl:none=z:=hr
  have n:=a.cell;have c:=a.frozen;have j:=I.cell;go_wp2;clear n c j;have o:=ac.t9 a true y s1 A t g i h f
  exact bq (v:= .agg #[.bool true,.int .i64 y,.bool s1,.int .u64 A,.int .i64 t,.int .i64 g,.bool i,.int .u64 h,.int .i64 f]) (by simp[results,results37,go_sem,o.box.cell]) rfl ⟨_,_,_,_,_,_,_,_,_,rfl,⟨rfl,y1,V⟩,(o.below k.out (by omega))⟩
 ·obtain⟨rfl,a1,X,o1,O,N⟩:=Y;obtain⟨u,J⟩:∃u,-xb=u:=⟨_,rfl⟩;obtain⟨l,hl⟩:∃l,-xa=l:=⟨_,rfl⟩
  have r:eH u l=z:=by rw[<-J,<-hl];exact hr
  have HU:Hid (-rk g i h f=u):=ie (by rw[X.rk];exact J)
  have Z:Hid (-rk y s1 A t=l):=ie (by rw[a1.rk];exact hl)
  have HR:=ie r;clear J hl hr r o1 O N;have j:=I.cell
  go_upto_region 4 with fail
  clear j;refine bF [0,1,2,3,4,5,6] [10,11,12,13,14,15,16,0] [[],[0],[1],[],[3],[4],[2,5],[]] 8 1 [Jo.qp S.heap.size 5,Jo.q4 g i h f,Jo.Fact.num u,Jo.qp S.heap.size 1,Jo.q4 y s1 A t,Jo.Fact.num l,Jo.Fact.iv z,Jo.Fact.any] ?_ ?_
  ·iterate 2 (refine jm ?_ ?_;rotate_left)
   refine jm ?_ ?_
   ·rintro T m _ rfl K d;go_simp;exact Jo.n1 (I5 X.top HU.out) d.out
   iterate 2 (refine jm ?_ ?_;rotate_left)
   refine jm ?_ ?_
   ·rintro T m _ rfl K d;go_simp;exact Jo.n1 (I5 a1.top Z.out) d.out
   refine jm ?_ ?_
   ·rintro T m _ ⟨K2,s2,M2,E2,rfl,P⟩ _ ⟨K3,s3,M3,E3,rfl,Q⟩ K d;go_simp;exact Jo.v1 (pd P.top Q.top P.rk Q.rk HR.out) d.out
   exact jo
   all_goals (rintro T m;(repeat rintro _ rfl);intro K d;have j:=(I.b m).cell;go_simp;exact d.out _ _ rfl (br _ _))
  rintro w8 m _ _ _ rfl _ ⟨K2,s2,M2,E2,rfl,P⟩ _ _ _ rfl _ ⟨K3,s3,M3,E3,rfl,Q⟩ _ ⟨e4,K4,s4,M4,E4,G,R,H,F,rfl,v4⟩ -;simp only[Jo.z];replace a:=a.b m;replace k:=ak k m;have n:=a.cell;have c:=a.frozen
  refine jn 7 fun K d=>?_
  go_simp;refine d.out _ _ ?_;clear d K n c;have o:=ac.t9 a e4 K4 s4 M4 E4 G R H F;refine jd ?_;go_wp2;exact bq (by simp[results,results37,go_sem,o.box.cell]) rfl ⟨_,_,_,_,_,_,_,_,_,rfl,v4,(o.below k.out (by omega))⟩
theorem Nl.of4{w:World}{g:Nat}{K1 K2 K3 K4 M1 M2 M3 M4 E1 E2 E3 E4 r1 r2 r3 r4:Int}{s1 s2 s3 s4:Bool}(X:Bo w g #[.int .i64 K1,.bool s1,.int .u64 M1,.int .i64 E1,.int .i64 K2,.bool s2,.int .u64 M2,.int .i64 E2,.int .i64 K3,.bool s3,.int .u64 M3,.int .i64 E3,.int .i64 K4,.bool s4,.int .u64 M4,.int .i64 E4] 24)
  (q1:Fq K1 s1 M1 E1 r1) (q2:Fq K2 s2 M2 E2 r2) (q3:Fq K3 s3 M3 E3 r3) (q4:Fq K4 s4 M4 E4 r4):Nl w (some ⟨g,0,none⟩) 4 4 [r1,r2,r3,r4]:=by
 refine⟨rfl,Nat.le_refl _,by decide,fun _=>⟨_,0,rfl,fun k hk=>?_⟩⟩
 rcases (by omega:k=0\/k=1\/k=2\/k=3)with rfl | rfl | rfl | rfl
 ·exact⟨K1,s1,M1,E1,X.at rfl,X.at rfl,X.at rfl,X.at rfl,q1.top,q1.rk⟩
 ·exact⟨K2,s2,M2,E2,X.at rfl,X.at rfl,X.at rfl,X.at rfl,q2.top,q2.rk⟩
 ·exact⟨K3,s3,M3,E3,X.at rfl,X.at rfl,X.at rfl,X.at rfl,q3.top,q3.rk⟩
 ·exact⟨K4,s4,M4,E4,X.at rfl,X.at rfl,X.at rfl,X.at rfl,q4.top,q4.rk⟩
theorem BP{a b c d:Int}(ha:a<=19342822337206103650074625):oE [a,b,c,d]=min (min a b) (min c d):=by
 have:=dq
 show min (min (min (min TP a) b) c) d=_
 omega
theorem BZ{a b c d:Int}(ha: -19342822337206103650074625<=a):nD [a,b,c,d]=max (max a b) (max c d):=by
 have:=dq
 show max (max (max (max (-TP) a) b) c) d=_
 omega
def nK (f:Bool->Int->Int->Int)(up:Bool)(a b c d:Int):List Int:=[f up a c,f up a d,f up b c,f up b d]
theorem AJ{f:Bool->Int->Int->Int}{a b c d:Int}(h1:f false a c<=19342822337206103650074625)(h2: -19342822337206103650074625<=f true a c):eH (oE (nK f false a b c d)) (nD (nK f true a b c d))=zm f a b c d:=by
 unfold nK zm
 rw[BP h1,BZ h2]
def jH (b:Bool)(w:World):Prop:=b=true->dL w
theorem jH.below{b:Bool}{w w':World}(h:jH b w)(hb:Below w.heap.size w w'):jH b w':=fun e=>(h e).below hb
abbrev jH.b:= @jH.below
instance {b:Bool} {w w':World}:Mv (jH b w) w w' (jH b w'):=⟨fun h b=>h.below b⟩
def Kv (fid:FuncId)(F0:Bool->Int->Int->Int)(b:Bool):Prop:=(∀(args:Array Value) (w:World),(callFunc fid args).run prog w= .ok (.enter fid args) w)/\∀(w:World) (D:Int) (s:Bool) (M E D':Int) (s':Bool) (M' E':Int) (up:Bool) (x y r:Int),jH b w->M < 18446744073709551616->M' < 18446744073709551616->rk D s M E=x->rk D' s' M' E'=y->F0 up x y=r->Calls prog fid #[.agg #[.int .i64 D,.bool s,.int .u64 M,.int .i64 E],.agg #[.int .i64 D',.bool s',.int .u64 M',.int .i64 E'],.bool up] w (PN w r)
theorem AH{w:World}{fid:FuncId}{F0:Bool->Int->Int->Int}{b up:Bool}{g1 g2 g3:Nat}{K1 M1 E1 K1b M1b E1b K2 M2 E2 K2b M2b E2b:Int}{s1 s1b s2 s2b:Bool}{xa xb ya yb:Int}(hop:Kv fid F0 b)(hI:jH b w)(X1:Bo w g1 #[.func (.func fid) #[] #[]] 120)(X2:Bo w g2 #[.bool false,.int .i64 K1,.bool s1,.int .u64 M1,.int .i64 E1,.int .i64 K1b,.bool s1b,.int .u64 M1b,.int .i64 E1b] 26)(X3:Bo w g3 #[.bool false,.int .i64 K2,.bool s2,.int .u64 M2,.int .i64 E2,.int .i64 K2b,.bool s2b,.int .u64 M2b,.int .i64 E2b] 26)
  (a1:Fq K1 s1 M1 E1 xa) (b1:Fq K1b s1b M1b E1b xb) (a2:Fq K2 s2 M2 E2 ya) (b2:Fq K2b s2b M2b E2b yb):Calls prog 143 #[.bool up,.pointer (some ⟨g1,0,none⟩),.pointer (some ⟨g2,0,none⟩),.pointer (some ⟨g3,0,none⟩)] w (fun e w'=>∃A c,e= .returned (.slice A 4 c)/\Nl w' A 4 c (nK F0 up xa xb ya yb)/\Below w.heap.size w w'):=by
 obtain⟨J,h1⟩:∃u,F0 up xa ya=u:=⟨_,rfl⟩;obtain⟨L,h2⟩:∃u,F0 up xa yb=u:=⟨_,rfl⟩;obtain⟨M,E⟩:∃u,F0 up xb ya=u:=⟨_,rfl⟩;obtain⟨N,h4⟩:∃u,F0 up xb yb=u:=⟨_,rfl⟩
 have S:Hid (nK F0 up xa xb ya yb=[J,L,M,N]):=ie (by unfold nK;rw[h1,h2,E,h4])
 have O:=ie h1;have P:=ie h2;have Q:=ie E;have R:=ie h4;have g:=ie hop;have r:=ie (Below.refl w.heap.size w);clear h1 h2 E h4 hop
 go_enter func143,ntmps143
 go_upto_region 1 with fail
 refine bF [0,1,2,3,4,5,6,7,8,9,10,11,12,13,14,15,16,17,18,19,20,21,22,23,24,25,26,27,28] [7,8,9,10,11,12,13,14,15,16,17,18,19,20,21,22,23,24,25,26,27,28,29,30,31,32,33,34,35,6] [[],[],[1],[],[3],[],[0,2,4,5],[],[],[8],[],[10],[],[7,9,11,12],[],[],[15],[],[17],[],[14,16,18,19],[],[],[22],[],[24],[],[21,23,25,26],[6,13,20,27],[]] 30 1 [Jo.Fact.eq (.func (.func fid) #[] #[]),Jo.qp g2 1,Jo.q4 K1 s1 M1 E1,Jo.qp g3 1,Jo.q4 K2 s2 M2 E2,Jo.qb up,Jo.Fact.num J,Jo.Fact.eq (.func (.func fid) #[] #[]),Jo.qp g2 1,Jo.q4 K1 s1 M1 E1,Jo.qp g3 5,Jo.q4 K2b s2b M2b E2b,Jo.qb up,Jo.Fact.num L,Jo.Fact.eq (.func (.func fid) #[] #[]),Jo.qp g2 5,Jo.q4 K1b s1b M1b E1b,Jo.qp g3 1,Jo.q4 K2 s2 M2 E2,Jo.qb up,Jo.Fact.num M,Jo.Fact.eq (.func (.func fid) #[] #[]),Jo.qp g2 5,Jo.q4 K1b s1b M1b E1b,Jo.qp g3 5,Jo.q4 K2b s2b M2b E2b,Jo.qb up,Jo.Fact.num N,Jo.Fact.nl 4 [J,L,M,N],Jo.Fact.any] ?_ ?_
 ·refine jm ?_ ?_
  ·rintro i f K d;have h:=(X1.b f).a 0 (.func (.func fid) #[] #[]) rfl;go_simp;exact d.out _ _ rfl (br _ _)
  iterate 5 (refine jm ?_ ?_;rotate_left)
  refine jm ?_ ?_
  ·rintro i f _ rfl _ rfl _ rfl _ rfl K d;go_simp;rw[g.out.1];simp only[Oper.upon];exact Jo.n1 (g.out.2 _ _ _ _ _ _ _ _ _ _ _ _ _ (hI.b f) a1.top a2.top a1.rk a2.rk O.out) d.out
  refine jm ?_ ?_
  ·rintro i f K d;have h:=(X1.b f).a 0 (.func (.func fid) #[] #[]) rfl;go_simp;exact d.out _ _ rfl (br _ _)
  iterate 5 (refine jm ?_ ?_;rotate_left)
  refine jm ?_ ?_
  ·rintro i f _ rfl _ rfl _ rfl _ rfl K d;go_simp;rw[g.out.1];simp only[Oper.upon];exact Jo.n1 (g.out.2 _ _ _ _ _ _ _ _ _ _ _ _ _ (hI.b f) a1.top b2.top a1.rk b2.rk P.out) d.out
  refine jm ?_ ?_
  ·rintro i f K d;have h:=(X1.b f).a 0 (.func (.func fid) #[] #[]) rfl;go_simp;exact d.out _ _ rfl (br _ _)
  iterate 5 (refine jm ?_ ?_;rotate_left)
  refine jm ?_ ?_
  ·rintro i f _ rfl _ rfl _ rfl _ rfl K d;go_simp;rw[g.out.1];simp only[Oper.upon];exact Jo.n1 (g.out.2 _ _ _ _ _ _ _ _ _ _ _ _ _ (hI.b f) b1.top a2.top b1.rk a2.rk Q.out) d.out
  refine jm ?_ ?_
  ·rintro i f K d;have h:=(X1.b f).a 0 (.func (.func fid) #[] #[]) rfl;go_simp;exact d.out _ _ rfl (br _ _)
  iterate 5 (refine jm ?_ ?_;rotate_left)
  refine jm ?_ ?_
  ·rintro i f _ rfl _ rfl _ rfl _ rfl K d;go_simp;rw[g.out.1];simp only[Oper.upon];exact Jo.n1 (g.out.2 _ _ _ _ _ _ _ _ _ _ _ _ _ (hI.b f) b1.top b2.top b1.rk b2.rk R.out) d.out
  refine jm ?_ ?_
  ·rintro i f _ ⟨s,F,y,n,rfl,j⟩ _ ⟨t,G,B,o,rfl,k⟩ _ ⟨v,H,C,p,rfl,l⟩ _ ⟨x,I,D,q,rfl,m⟩ K d;go_simp;exact d.out _ _ ⟨_,4,rfl,Nl.of4 (Bo.new _ _ _) j k l m⟩ (af _ _)
  exact jo
  all_goals (rintro i f;(repeat rintro _ rfl);intro K d;have U:=(X2.b f).cell;have V:=(X3.b f).cell;go_simp;exact d.out _ _ rfl (br _ _))
 rintro W f _ rfl _ _ _ rfl _ _ _ rfl _ rfl _ ⟨s,F,y,n,rfl,j⟩ _ rfl _ _ _ rfl _ _ _ rfl _ rfl _ ⟨t,G,B,o,rfl,k⟩ _ rfl _ _ _ rfl _ _ _ rfl _ rfl _ ⟨v,H,C,p,rfl,l⟩ _ rfl _ _ _ rfl _ _ _ rfl _ rfl _ ⟨x,I,D,q,rfl,m⟩ _ ⟨A9,c9,rfl,T⟩ -;simp only[Jo.z];replace r:=ak r f
 refine jn 29 fun K d=>?_
 go_simp;refine d.out _ _ ?_;clear d K;refine jd ?_;go_wp2
 go_ret
 exact⟨_,_,rfl,S.out▸T,r.out⟩
theorem KE{w:World}{fid:FuncId}{F0:Bool->Int->Int->Int}{b:Bool}{K1 M1 E1 K1b M1b E1b K2 M2 E2 K2b M2b E2b:Int}{s1 s1b s2 s2b:Bool}{xa xb ya yb:Int}{z:Sp}(hop:Kv fid F0 b)(hI:jH b w)(v1:Ci false K1 s1 M1 E1 K1b s1b M1b E1b (some (xa,xb)))(v2:Ci false K2 s2 M2 E2 K2b s2b M2b E2b (some (ya,yb)))(hF:F0 false xa ya<=19342822337206103650074625/\ -19342822337206103650074625<=F0 true xa ya)(hr:zm F0 xa xb ya yb=z):
  Calls prog 83 #[VI false K1 s1 M1 E1 K1b s1b M1b E1b,VI false K2 s2 M2 E2 K2b s2b M2b E2b,.func (.func fid) #[] #[]] w (PV w z):=by
 delta VI
 have W:∀(fn:Fn) (first cap:Array Value) (w:World),(Instr.makeFunc fn first cap).run prog w= .ok (.func fn first cap) w:=fun _ _ _ _=>rfl
 obtain⟨_,a1,M,o1,C,A⟩:=v1;obtain⟨_,a2,N,o2,E,D⟩:=v2;rw[<-AJ hF.1 hF.2]at hr;obtain⟨u,x⟩:∃u,oE (nK F0 false xa xb ya yb)=u:=⟨_,rfl⟩;obtain⟨v,y⟩:∃v,nD (nK F0 true xa xb ya yb)=v:=⟨_,rfl⟩;rw[x,y]at hr;have Q:=ie x;have R:=ie y;have P:=ie hr;have h:=ie hop;clear x y hr hop hF o1 C A o2 E D
 go_enter func83,ntmps83
 go_upto_region 1 with fail
 generalize k:(((w.alloc _).alloc _).alloc _).alloc _=w1 at *;obtain⟨e,f,d,a,c⟩:=Bo.en4 k;replace hI:=hI.below c.out;clear k
 go_wp2_with fail
 refine(AH h.out hI d e f a1 M a2 N).mono ?_;rintro p Z ⟨A1,c1,rfl,I,B⟩;refine gv ?_ e f d a hI c B;clear e f d a hI c B;intro e f d a hI c
 go_wp2_with fail
 refine(sY I Q.out).mono ?_;rintro p w3 ⟨S,X,U,Km,rfl,l,B⟩;refine gv ?_ e f d a hI c B;clear e f d a hI c B;intro e f d a hI c;clear I
 go_wp2_with fail
 refine(AH h.out hI d e f a1 M a2 N).mono ?_;rintro p w4 ⟨A2,c2,rfl,J,B⟩;replace a:=a.b B;replace c:=ak c B;clear B
 go_wp2_with fail
 refine(rg J R.out).mono ?_;rintro p w5 ⟨T,Y,V,O,rfl,m,B⟩;replace a:=a.b B;replace c:=ak c B;clear B;clear J
 go_wp2_with fail
 refine(iq l.top m.top l.rk m.rk P.out).mono ?_;rintro p w6 ⟨t,r,F,s,q,i,n,j,g,rfl,G,B⟩;replace a:=a.b B;replace c:=ak c B;clear B;clear hI;clear d;have H:=a.cell;have o:=a.frozen;go_wp2;clear H o;have L:=ac.t9 a t r F s q i n j g
 exact bq (by simp[results,results83,go_sem,L.box.cell]) rfl ⟨_,_,_,_,_,_,_,_,_,rfl,G,(L.below c.out (by omega))⟩
theorem Ft:Kv 84 eN false:=⟨fun _ _=>by first | rfl | kernel_rfl | simp[callFunc,go_sem],fun _ _ _ _ _ _ _ _ _ _ _ _ _ _ hM hM' hx hy hr=>KA hM hM' hx hy hr⟩
theorem Jw{w:World}{e:Bool}{D M E D' M' E':Int}{s s':Bool}{e2:Bool}{G P Q G' P' Q':Int}{g g':Bool}{x y z:Sp}(hM:LQ M)(hM':LQ M')(hP:LQ P)(hP':LQ P')(hx:iJ e D s M E D' s' M' E'=x)(hy:iJ e2 G g P Q G' g' P' Q'=y)(hr:lF x y=z):Calls prog 27 #[VI e D s M E D' s' M' E',VI e2 G g P Q G' g' P' Q'] w (PV w z):=by
 delta VI
 obtain⟨p,hp⟩:∃p,lD [x,y]=p:=⟨_,rfl⟩;have k:=ie hp;have H:=ie hx;have I:=ie hy;clear hx hy hp
 go_enter func27,ntmps27
 go_upto_region 1 with fail
 generalize r:((w.alloc _).alloc _).alloc _=w1 at *;obtain⟨f,h,a,d⟩:=Bo.en3 r;clear r;have l:=f.cell;have m:=h.cell
 go_wp2_with fail
 refine(o7 (kJ.lit2 rfl ⟨hM,hM',H.out⟩ ⟨hP,hP',I.out⟩) k.out).mono ?_;rintro O w2 ⟨rfl,B⟩;replace B:=bt (af _ (.cells #[.bool e,.int .i64 D,.bool s,.int .u64 M,.int .i64 E,.int .i64 D',.bool s',.int .u64 M',.int .i64 E',.bool e2,.int .i64 G,.bool g,.int .u64 P,.int .i64 Q,.int .i64 G',.bool g',.int .u64 P',.int .i64 Q'] 26)) B;clear l m
 refine aR ?_ f h a d B;clear f h a d B;intro f h a d
 rcases x with _ | ⟨W,X⟩
 ·obtain rfl:true=p:=k.out
  obtain rfl:none=z:=hr
  clear k
  go_wp2_with fail
  refine(dr).mono ?_;rintro O V ⟨rfl,B⟩;refine aR ?_ f h a d B;clear f h a d B;intro f h a d;have i:=a.cell;have c:=a.frozen;go_wp2;clear i c;have j:=ac.t9 a true 0 false 0 0 0 false 0 0
  exact bq (by simp[results,results27,go_sem,j.box.cell]) rfl ⟨_,_,_,_,_,_,_,_,_,rfl,Ci.none,(j.below d.out (by omega))⟩
 ·rcases y with _ | ⟨Y,Z⟩
  ·obtain rfl:true=p:=k.out
   obtain rfl:none=z:=hr
   clear k
   go_wp2_with fail
   refine(dr).mono ?_;rintro O V ⟨rfl,B⟩;refine aR ?_ f h a d B;clear f h a d B;intro f h a d;have i:=a.cell;have c:=a.frozen;go_wp2;clear i c;have j:=ac.t9 a true 0 false 0 0 0 false 0 0
   exact bq (by simp[results,results27,go_sem,j.box.cell]) rfl ⟨_,_,_,_,_,_,_,_,_,rfl,Ci.none,(j.below d.out (by omega))⟩
  ·obtain rfl:false=p:=k.out
   have T:=lJ hM hM' H.out
   have U:=lJ hP hP' I.out
   obtain⟨rfl,a1,b1,o1,u,t⟩:=T;obtain⟨rfl,a2,b2,o2,A,v⟩:=U
   have v1:Ci false D s M E D' s' M' E' (some (W,X)):=⟨rfl,a1,b1,o1,u,t⟩
   have v2:Ci false G g P Q G' g' P' Q' (some (Y,Z)):=⟨rfl,a2,b2,o2,A,v⟩
   clear k H I
   have HR:=ie (show zm eN W X Y Z=z from hr)
   clear hr o1 u t o2 A v;have l:=f.cell;have m:=h.cell
   go_wp2_with fail
   refine(KE Ft (fun e=>by cases e) v1 v2 ⟨(fc false).2,(fc true).1⟩ HR.out).mono ?_
   rintro O V ⟨N,J,R,L,F,o,C,q,n,rfl,S,B⟩;clear l m;replace a:=a.b B;replace d:=ak d B;clear B;have i:=a.cell;have c:=a.frozen;go_wp2;clear i c
   have j:=ac.t9 a N J R L F o C q n;exact bq (by simp[results,results27,go_sem,j.box.cell]) rfl ⟨_,_,_,_,_,_,_,_,_,rfl,S,(j.below d.out (by omega))⟩
