/-
 Contracts that the proof rests on.
-/
import Derived.Test.YtomikokonmikgaaGreatDoorYTaz
namespace Go.Proofs.YtomikokonmikgaaGreatDoor
open Go.Proofs.Tryz
open Go Go.RowKit
set_option linter.unusedVariables false
theorem jG:ak 2=1+(1048576-62)*9223372036854775808:=by decide
theorem tO{p:Int}(h0:9223372036854775808 < p)(h1:p < ak 2):(vr (p+1)-vr p)*9223372036854775808<=2^KK:=by
 have e2:=jG;obtain⟨M,e⟩:∃M,M=(p-1)%9223372036854775808+9223372036854775808:=⟨_,rfl⟩;obtain⟨E,d⟩:∃E,E=(p-1) /9223372036854775808-1048576:=⟨_,rfl⟩
 have c:p=M-9223372036854775808+1+(E+1048576)*9223372036854775808:=by omega
 obtain⟨a,b,_⟩:=Ih (M:=M) (E:=E) (by omega) (by omega) (by omega);rw[<-c]at a b;rw[a,b];have f:=dL
 have k:(2:Int)^KK=2^(E+KK).toNat*9223372036854775808*2^(-63-E).toNat:=by
  rw[show (9223372036854775808:Int)=2^63 by decide,<-Int.pow_add,<-Int.pow_add]
  congr 1
  omega
 rw[k];have g:=aB (-63-E).toNat;have p2:=aB (E+KK).toNat
 have m:=Int.mul_le_mul_of_nonneg_left (show 1<=(2:Int)^(-63-E).toNat by omega) (show 0<=(2:Int)^(E+KK).toNat*9223372036854775808 by omega)
 rw[Int.mul_one]at m;generalize (2:Int)^(E+KK).toNat=x at *
 omega
theorem zN{p:Int}(h0:0<=p)(h1:p < ak 2):(vr (p+1)-vr p)*9223372036854775808<=2^KK:=by
 have e2:=jG
 by_cases c:9223372036854775808 < p
 ·exact tO c h1
 ·by_cases z:p=0
  ·subst z;have b:=CP;have d:=dL
   have e:vr (0+1)=2^(63-1048576+(KK:Int)).toNat:=by
    rw[show vr (0+1)=vp 1 from rfl]
    exact b
   rw[e,show vr 0=0 from rfl,Int.sub_zero,show (9223372036854775808:Int)=2^63 by decide,<-Int.pow_add]
   obtain⟨n,a⟩:∃n:Nat,KK=(63-1048576+(KK:Int)).toNat+63+n:=⟨1048576-126,by omega⟩
   have k:(2:Int)^KK=2^((63-1048576+(KK:Int)).toNat+63)*2^n:=by
    rw[<-Int.pow_add,<-a]
   rw[k];have h:=aB n;have p2:=aB ((63-1048576+(KK:Int)).toNat+63)
   have m:=Int.mul_le_mul_of_nonneg_left (show 1<=(2:Int)^n by omega) (Int.le_of_lt p2)
   rw[Int.mul_one]at m;exact m
  ·have s1:=mQ (r:=p) (by omega);have s2:=mQ (r:=p+1) (by omega);have g:=tO (p:=p+9223372036854775808) (by omega) (by omega)
   have f:=iZ (show p < p+1 by omega)
   rw[show p+9223372036854775808+1=p+1+9223372036854775808 by omega,s1,s2]at g
   omega
theorem Kp{p:Int}(h0: -ak 2<=p)(h1:p < ak 2):(vr (p+1)-vr p)*9223372036854775808<=2^KK:=by
 by_cases c:0<=p
 ·exact zN c h1
 ·have g:=zN (p:= -p-1) (by omega) (by omega)
  rw[show -p-1+1= -p by omega,show -p-1= -(p+1) by omega,aF,aF]at g
  omega
def V (p:Int):Rat:=((vr p:Int):Rat) /BR
theorem fA (p:Int):V p*BR=((vr p:Int):Rat):=Rat.div_mul_cancel (Rat.ne_of_gt bT)
theorem rn{p r:Int}(h:p<=r):V p<=V r:=Rat.le_of_mul_le_mul_right (c:=BR) (by rw[fA,fA];exact Rat.intCast_le_intCast.2 (bI h)) bT
theorem yt{p:Int}(h0: -ak 2<=p)(h1:p < ak 2):V (p+1)<=V p+1/9223372036854775808:=by
 have g:=Rat.intCast_le_intCast.2 (Kp h0 h1)
 rw[Rat.intCast_mul,Rat.intCast_sub,show ((9223372036854775808:Int):Rat)=9223372036854775808 from rfl,show ((2^KK:Int):Rat)=BR from rfl]at g
 have a:=fA (p+1);have b:=fA p;refine Rat.le_of_mul_le_mul_right (c:=BR) ?_ bT
 grind
theorem fM (p:Int):V (-p)= -V p:=by
 have a:=fA (-p);have b:=fA p;rw[aF,Rat.intCast_neg]at a;have d:=bT;refine Rat.le_antisymm (Rat.le_of_mul_le_mul_right (c:=BR) ?_ d) (Rat.le_of_mul_le_mul_right (c:=BR) ?_ d) <;> grind
theorem F9{l r:Int}(hr:Rq false l SC r)(h1: -(2*SC)<=l)(h2:l < 2*SC):(l:Rat)<=V r*SR+1/9223372036854775808*SR:=by
 obtain⟨o1,o2⟩:=iT;have b:=jI hr h1 (by omega);have s:=gy hr;rw[gQ]at s;obtain⟨_,_,s3,s4⟩:=s
 have a:r < ak 2:=by
  rcases Int.lt_or_le r (ak 2)with c | c
  ·exact c
  ·exfalso
   have e:vr (ak 2)=2*2^KK:=eN (by decide) (by decide)
   have k:=s3 (by omega);have v:=bI c;rw[e]at v;have m:=Int.mul_le_mul_of_nonneg_right v (Int.le_of_lt gA);have n:=Int.mul_lt_mul_of_pos_right h2 (aB KK)
   rw[show 2*2^KK*SC=2*SC*2^KK by rw[Int.mul_assoc,Int.mul_assoc,Int.mul_comm (2^KK)]]at m
   omega
 have k:=Rat.intCast_le_intCast.2 (Int.le_of_lt (s4 (by omega)))
 rw[Rat.intCast_mul,Rat.intCast_mul,show ((2^KK:Int):Rat)=BR from rfl,<-fA]at k
 have g:=yt b.1 a;have m:=Rat.mul_le_mul_of_nonneg_right g (Rat.le_of_lt (Rat.mul_pos bV bT));refine Rat.le_of_mul_le_mul_right (c:=BR) ?_ bT;generalize (1/9223372036854775808:Rat)=e at *
 grind
theorem IE{h u:Int}(hu:Rq true h SC u)(h1: -(2*SC) < h)(h2:h<=2*SC):V u*SR<=(h:Rat)+1/9223372036854775808*SR:=by
 have n:Rq false (-h) SC (-u):=by
  have s:=(gy hu).neg
  rw[show (!true)=false from rfl,<-Int.neg_mul]at s
  rw[eV (by decide),show aj (decide (SC < 0)) SC=SC from rfl,show aj (decide (SC < 0)) (-h)= -h from rfl]
  exact s
 have k:=F9 n (by omega) (by omega);rw[fM,Rat.intCast_neg]at k;generalize (1/9223372036854775808:Rat)=e at *
 grind
theorem Fj:V (ak 2)=2:=by
 have e:vr (ak 2)=2*2^KK:=eN (by decide) (by decide)
 have a:=fA (ak 2)
 rw[e,Rat.intCast_mul,show ((2^KK:Int):Rat)=BR from rfl,show ((2:Int):Rat)=2 from rfl]at a
 have b:=bT;refine Rat.le_antisymm (Rat.le_of_mul_le_mul_right (c:=BR) ?_ b) (Rat.le_of_mul_le_mul_right (c:=BR) ?_ b) <;> grind
theorem ID{p r:Int}(h:V p < V r):p < r:=by
 rcases Int.lt_or_le p r with c | c
 ·exact c
 ·exact absurd (rn c) (Rat.not_le.2 h)
theorem px{x y p:Int}(h:Dn (vr x+vr y) p)(h1: -2<=V x+V y)(h2:V x+V y < 2):V x+V y<=V p+1/9223372036854775808:=by
 obtain⟨o1,o2⟩:=iT;obtain⟨a1,a2,a3,b⟩:=h;have d:=Fj;have a:=bT
 have f:V (-ak 2)= -2:=by rw[fM,d]
 have i:p < ak 2:=by
  rcases Int.lt_or_le p (ak 2)with c | c
  ·exact c
  ·exfalso
   have k:=Rat.intCast_le_intCast.2 (a3 (by omega));rw[Rat.intCast_add,<-fA,<-fA,<-fA]at k;have m:=Rat.mul_le_mul_of_nonneg_right (rn c) (Rat.le_of_lt a);rw[d]at m;have n:=Rat.mul_lt_mul_of_pos_right h2 a
   grind
 have pl: -ak 2<=p:=by
  rcases Int.lt_or_le p (-ak 2)with c | c
  ·exfalso
   have k:=Rat.intCast_lt_intCast.2 (b (by omega));rw[Rat.intCast_add,<-fA,<-fA,<-fA]at k
   have m:=Rat.mul_le_mul_of_nonneg_right (rn (show p+1<= -ak 2 by omega)) (Rat.le_of_lt a)
   rw[f]at m;have n:=Rat.mul_le_mul_of_nonneg_right h1 (Rat.le_of_lt a)
   grind
  ·exact c
 have k:=Rat.intCast_lt_intCast.2 (b (by omega));rw[Rat.intCast_add,<-fA,<-fA,<-fA]at k;have g:=yt pl i;have m:=Rat.mul_le_mul_of_nonneg_right g (Rat.le_of_lt a);refine Rat.le_of_mul_le_mul_right (c:=BR) ?_ a;generalize (1/9223372036854775808:Rat)=e at *
 grind
theorem yr{x y p:Int}(h:Up (vr x+vr y) p)(h1: -2 < V x+V y)(h2:V x+V y<=2):V p<=V x+V y+1/9223372036854775808:=by
 have n:Dn (vr (-x)+vr (-y)) (-p):=by
  rw[aF,aF,show -vr x+ -vr y= -(vr x+vr y) by omega]
  exact h
 have k:=px n (by rw[fM,fM];grind) (by rw[fM,fM];grind);rw[fM,fM,fM]at k;generalize (1/9223372036854775808:Rat)=e at *
 grind
theorem sX{a b:Int}(h1: -ak 2-1<=a)(h2:b<=ak 2+1)(hab:a<=b)(h:V b<=V a+8/9223372036854775808):nz (some (a,b))<=yn:=by
 obtain⟨o1,o2⟩:=iT;have e2:=jG;have s:=(bS (x:=b) (y:= -a) true (by omega) (by omega) (by omega) (by omega)).2;rw[aF]at s
 have w:vr b-vr a<=vr yn:=by
  refine Rat.intCast_le_intCast.1 ?_;rw[Rat.intCast_sub,<-fA,<-fA]
  have q:((vr yn:Int):Rat)*1152921504606846976=BR:=by
   have p:vr yn*1152921504606846976=2^KK:=Ha
   have d:=congrArg (fun z:Int=>z) p
   have c:((vr yn*1152921504606846976:Int):Rat)=((2^KK:Int):Rat):=by rw[p]
   rw[Rat.intCast_mul]at c;exact c
  have m:=Rat.mul_le_mul_of_nonneg_right h (Rat.le_of_lt bT);generalize ((vr yn:Int):Rat)=W at *
  grind
 exact s.mono (gm (r:=yn) (by decide) (by decide)) (by omega)
theorem zz:(1000000:Rat)<=1/9223372036854775808*SR/\(0:Rat)<=1/9223372036854775808/\(1/9223372036854775808:Rat)<=1/1000/\(1000000:Rat)<=SR:=by decide +kernel
theorem oO{v:Int}{Z:Sp}(h:eE v Z)(h0:0<=v)(h1:v<=SC):∃r u,Z=some (r,u)/\r<=u/\ -ak 2<=r/\u<=ak 2/\be v*SR-1500<=V r*SR+1/9223372036854775808*SR/\V u*SR<=be v*SR+1500+1/9223372036854775808*SR:=by
 obtain⟨f,_,_⟩:=h.is h0 h1;obtain⟨r,u,a,b,hz⟩:=h;obtain⟨j,n⟩:=ou h0 h1;obtain⟨w1,l⟩:=jz h0 h1;obtain⟨g,i⟩:=dC h0 h1;have d:=bV;have n1:=Rat.mul_le_mul_of_nonneg_right g (Rat.le_of_lt d);have n2:=Rat.mul_le_mul_of_nonneg_right i (Rat.le_of_lt d)
 rw[Rat.intCast_add,show ((214:Int):Rat)=214 from rfl]at w1
 rw[Rat.intCast_sub,show ((214:Int):Rat)=214 from rfl]at l
 obtain⟨e1,e2,e3,m⟩:=zz
 have lo: -(2*SC)+1<=pL v:=Rat.intCast_le_intCast.1 (by
  rw[Rat.intCast_add,Rat.intCast_neg,Rat.intCast_mul,show ((2:Int):Rat)=2 from rfl,show ((1:Int):Rat)=1 from rfl]
  grind)
 have hi:pH v<=2*SC-1:=Rat.intCast_le_intCast.1 (by
  rw[Rat.intCast_sub,Rat.intCast_mul,show ((2:Int):Rat)=2 from rfl,show ((1:Int):Rat)=1 from rfl]
  grind)
 have c:pL v<=pH v:=Rat.intCast_le_intCast.1 (by grind)
 have R:=jI a (by omega) (by omega);have U:=jI b (by omega) (by omega);obtain⟨e,_⟩:=lw a b hz c (by omega) (by omega);have k:=F9 a (by omega) (by omega);have o:=IE b (by omega) (by omega);refine⟨r,u,e,lJ a b c,R.1,U.2,?_,?_⟩
 ·exact Rat.le_trans j k
 ·generalize (1/9223372036854775808:Rat)*SR=x at *
  grind
theorem rP{Z:Sp}(h:eD Z):∃r u,Z=some (r,u)/\r<=u/\ -ak 2<=r/\u<=ak 2/\qt*SR-1500<=V r*SR+1/9223372036854775808*SR/\V u*SR<=qt*SR+1500+1/9223372036854775808*SR:=by
 obtain⟨r,u,a,b,hz⟩:=h;have R:=jI a (by decide) (by decide);have U:=jI b (by decide) (by decide);obtain⟨e,_⟩:=lw a b hz (by decide) (by decide) (by decide);have c:=F9 a (by decide) (by decide);have d:=IE b (by decide) (by decide)
 have k:qt*SR-1500<=((iE/2:Int):Rat)/\((iD/2+1:Int):Rat)<=qt*SR+1500:=by decide +kernel
 refine⟨r,u,e,lJ a b (by decide),R.1,U.2,?_,?_⟩
 ·exact Rat.le_trans k.1 c
 ·generalize (1/9223372036854775808:Rat)*SR=x at *
  grind
theorem Ff{Y:Sp}(h:aY Y):nz (f7 Y)=nz Y:=by
 rcases Y with _ | ⟨a,b⟩
 ·rfl
 ·rw[eI h]
  show av true (-a) (- -b)=av true b (-a)
  rw[Int.neg_neg];exact dE true
theorem mX.tight{q:Bool->Int->Int->Int}(hq:QF q){n:Int}{Z:Sp}(h:mX q n Z)(h0:0<=n)(h1:n<=19342822337206103650074625):∃a b,Z=some (a,b)/\a<=b/\ -ak 2-1<=a/\b<=ak 2+1/\nz Z<=yn:=by
 obtain⟨q1,q2⟩:=iz;have d:=bV;obtain⟨e1,e2,e3,e4⟩:=zz
 rcases h with⟨_,h⟩ | ⟨_,c,h⟩ | ⟨e,c,H,l,k,hH,hl,hk,hz⟩
 ·obtain⟨r,u,rfl,t,s,v,a,b⟩:=rP h;refine⟨r,u,rfl,t,by omega,by omega,sX (by omega) (by omega) t (Rat.le_of_mul_le_mul_right (c:=SR) ?_ d)⟩
  have F:(8/9223372036854775808:Rat)=8*(1/9223372036854775808):=by decide +kernel
  rw[F];generalize (1/9223372036854775808:Rat)=e at *
  grind
 ·obtain⟨_,a0,a1⟩:=aZ h0 c;obtain⟨r,u,rfl,t,s,v,a,b⟩:=oO h a0 a1;refine⟨r,u,rfl,t,by omega,by omega,sX (by omega) (by omega) t (Rat.le_of_mul_le_mul_right (c:=SR) ?_ d)⟩
  have F:(8/9223372036854775808:Rat)=8*(1/9223372036854775808):=by decide +kernel
  rw[F];generalize (1/9223372036854775808:Rat)=e at *
  grind
 ·obtain⟨X,Y,b3⟩:=jC hq c (by omega);obtain⟨P,a1,a2⟩:=aZ X (by omega)
  obtain⟨Q,a3,E⟩:=aZ (show 0<=q true (ak 1) n by omega) b3
  have U:=jB P Q Y;obtain⟨C,B,rfl,h2,h3,h4,h5,h6⟩:=rP hH;obtain⟨z,A,rfl,l2,l3,l4,l5,l6⟩:=oO hl a1 a2;obtain⟨s,v,rfl,k2,k3,k4,k5,k6⟩:=oO hk a3 E;have m:=fO a1 U E;obtain⟨w1,w2⟩:=dC a1 a2;obtain⟨w3,w4⟩:=dC a3 E;have mo:=fO a3 E (Int.le_refl SC);rw[jO]at mo;obtain⟨o1,o2⟩:=iT
  -- both quotients are neighbours
  have nb:q true (ak 1) n=q false (ak 1) n\/q true (ak 1) n=q false (ak 1) n+1:=by
   obtain⟨fP,I⟩:=jE
   have n0:0 < n:=by omega
   have s1:=kJ (hq false (ak 1) n) n0 (bl (by omega) I) (bl (by omega) (by omega));have s2:=kJ (hq true (ak 1) n) n0 (bl (by omega) I) (bl (by omega) (by omega))
   rcases o8 (ip n0) s1 s2 with⟨x,_⟩ | ⟨x,_⟩
   ·exact .inl x
   ·exact .inr x
  have fH:ak 1 < ak 2:=by decide
  have vq:V (q true (ak 1) n)<=V (q false (ak 1) n)+1/9223372036854775808:=by
   rcases nb with x | x
   ·rw[x];generalize (1/9223372036854775808:Rat)=e at *
    grind
   ·have g:=yt (p:=q false (ak 1) n) (by omega) (by omega);rw[<-x]at g;exact g
  -- so their fixed numbers are close by
  have z1:=F7 P;have z2:=F7 Q
  have zv:∀p,zp p=V p*SR:=fun p=>by
   unfold zp V
   have R:=Rat.ne_of_gt bT;have x1:=Rat.div_mul_cancel (a:=((vr p:Int):Rat)*SR) R;have x2:=Rat.div_mul_cancel (a:=((vr p:Int):Rat)) R;refine Rat.le_antisymm (Rat.le_of_mul_le_mul_right (c:=BR) ?_ bT) (Rat.le_of_mul_le_mul_right (c:=BR) ?_ bT) <;> grind
  rw[zv,Rat.intCast_add,show ((1:Int):Rat)=1 from rfl]at z1 z2
  have gB:=Rat.mul_le_mul_of_nonneg_right vq (Rat.le_of_lt d);generalize bC:du (q false (ak 1) n)=O at *;generalize bD:du (q true (ak 1) n)=v2 at *
  have dv:((v2-O:Int):Rat)<=1/9223372036854775808*SR+1:=by
   rw[Rat.intCast_sub];generalize (1/9223372036854775808:Rat)=e at *
   grind
  have G:(v2-O)*1099511627776<=SC:=Rat.intCast_le_intCast.1 (by
   rw[Rat.intCast_mul,show ((1099511627776:Int):Rat)=1099511627776 from rfl]
   have x:(1/9223372036854775808*SR+1)*1099511627776<=SR:=by decide +kernel
   have y:=Rat.mul_le_mul_of_nonneg_right dv (show (0:Rat)<=1099511627776 by decide +kernel)
   exact Rat.le_trans y x)
  have bN:=Di a1 U E G
  -- the hull
  have N:aY (some (z,A)):=⟨by omega,l2,by omega,by omega,by omega⟩
  have M:aY (some (s,v)):=⟨by omega,k2,by omega,by omega,by omega⟩
  rw[gY N M]at hz
  have bB:V (max A v)*SR<=be v2*SR+1650+1/9223372036854775808*SR:=by
   rcases (by omega:max A v=A\/max A v=v)with x | x <;> rw[x]
   ·generalize (1/9223372036854775808:Rat)*SR=y at *
    grind
   ·generalize (1/9223372036854775808:Rat)*SR=y at *
    grind
  have bA:be O*SR-1650<=V (min z s)*SR+1/9223372036854775808*SR:=by
   rcases (by omega:min z s=z\/min z s=s)with x | x <;> rw[x]
   ·generalize (1/9223372036854775808:Rat)*SR=y at *
    grind
   ·generalize (1/9223372036854775808:Rat)*SR=y at *
    grind
  have rb: -ak 2<=min z s:=by omega
  have ub:max A v<=ak 2:=by omega
  have t:min z s<=max A v:=by omega
  generalize min z s=f at *;generalize max A v=i at *
  have L:aY (some (f,i)):=⟨by omega,t,by omega,by omega,by omega⟩
  have D:=(bS (x:=C) (y:= -i) true (by omega) (by omega) (by omega) (by omega)).1;have su:=(bS (x:=B) (y:= -f) true (by omega) (by omega) (by omega) (by omega)).2;have n1:=Rat.mul_le_mul_of_nonneg_right w1 (Rat.le_of_lt d);have n4:=Rat.mul_le_mul_of_nonneg_right w4 (Rat.le_of_lt d);have n5:=Rat.mul_le_mul_of_nonneg_right q1 (Rat.le_of_lt d);have n6:=Rat.mul_le_mul_of_nonneg_right q2 (Rat.le_of_lt d)
  have x3:=Rat.mul_le_mul_of_nonneg_right e3 (Rat.le_of_lt d)
  have j:=px D (by
   rw[fM];refine Rat.le_of_mul_le_mul_right (c:=SR) ?_ d;generalize (1/9223372036854775808:Rat)*SR=y at *
   grind) (by
   rw[fM];refine Rat.lt_of_mul_lt_mul_right (c:=SR) ?_ (Rat.le_of_lt d);have hv:=Rat.mul_le_mul_of_nonneg_right (rn h2) (Rat.le_of_lt d);have uv:=Rat.mul_le_mul_of_nonneg_right (rn t) (Rat.le_of_lt d);generalize (1/9223372036854775808:Rat)*SR=y at *
   grind)
  have o:=yr su (by
   rw[fM];refine Rat.lt_of_mul_lt_mul_right (c:=SR) ?_ (Rat.le_of_lt d);have hv:=Rat.mul_le_mul_of_nonneg_right (rn h2) (Rat.le_of_lt d);have uv:=Rat.mul_le_mul_of_nonneg_right (rn t) (Rat.le_of_lt d);generalize (1/9223372036854775808:Rat)*SR=y at *
   grind) (by
   rw[fM];refine Rat.le_of_mul_le_mul_right (c:=SR) ?_ d;generalize (1/9223372036854775808:Rat)*SR=y at *
   grind)
  rw[fM]at j o;have s3:=bS (x:=B) (y:= -f) true (by omega) (by omega) (by omega) (by omega)
  have J:av false C (-i)<=av true B (-f):=by
   refine Int.le_trans (D.mono s3.1 ?_) (gF s3.1 s3.2);have x1:=bI h2;have x2:=bI t;rw[aF,aF]
   omega
  have w:kM (some (C,B)) (some (f,i))=some (av false C (-i),av true B (-f)):=by
   show fN (some (C,B)) (f7 (some (f,i)))=_
   rw[eI L];exact aK J (by have:=D.2.1;omega) (by have:=su.2.1;omega)
  rw[hz,w];generalize av false C (-i)=a at *;generalize av true B (-f)=b at *
  have v0:V 0=0:=by
   have x:=fM 0
   rw[show (-0:Int)=0 from rfl]at x
   grind
  have S:V 0 < V a:=by
   rw[v0];refine Rat.lt_of_mul_lt_mul_right (c:=SR) ?_ (Rat.le_of_lt d);have W:=Rat.mul_le_mul_of_nonneg_right j (Rat.le_of_lt d);clear j o su D s3 hz w;generalize hy:(1/9223372036854775808:Rat)=e at *;obtain⟨y,bH⟩:∃y,y=e*SR:=⟨_,rfl⟩
   grind
  have T:V b < V (ak 2):=by
   rw[Fj];refine Rat.lt_of_mul_lt_mul_right (c:=SR) ?_ (Rat.le_of_lt d);have W:=Rat.mul_le_mul_of_nonneg_right o (Rat.le_of_lt d);clear j o su D s3 hz w;generalize (1/9223372036854775808:Rat)=e at *
   grind
  have a0:=ID S;have b0:=ID T;refine⟨a,b,rfl,J,by omega,by omega,sX (by omega) (by omega) J (Rat.le_of_mul_le_mul_right (c:=SR) ?_ d)⟩
  have y1:=Rat.mul_le_mul_of_nonneg_right j (Rat.le_of_lt d);have W:=Rat.mul_le_mul_of_nonneg_right o (Rat.le_of_lt d)
  have F:(8/9223372036854775808:Rat)=8*(1/9223372036854775808):=by decide +kernel
  rw[F];clear j o su D s3 hz w S T;generalize (1/9223372036854775808:Rat)=e at *
  grind
theorem jM.tight{q:Bool->Int->Int->Int}(hq:QF q){n:Int}{Z:Sp}(h:jM q n Z)(h0: -19342822337206103650074625<=n)(h1:n<=19342822337206103650074625):∃a b,Z=some (a,b)/\a<=b/\ -ak 2-1<=a/\b<=ak 2+1/\nz Z<=yn:=by
 rcases h with⟨c,Y,hY,rfl⟩ | ⟨c,h⟩
 ·obtain⟨a,b,rfl,d,e,f,w⟩:=hY.tight hq (by omega) (by omega);have ok:=(hY.ok hq (by omega) (by omega)).1;rw[Ff ok,eI ok];exact⟨-b,-a,rfl,by omega,by omega,by omega,w⟩
 ·exact h.tight hq (by omega) h1
theorem eD.one{Z Y:Sp}(h:eD Z)(k:eD Y):Z=Y:=by
 obtain⟨r,u,c,d,rfl⟩:=h;obtain⟨e,f,a,b,rfl⟩:=k;rw[c.uniq a,d.uniq b]
theorem eE.one{v:Int}{Z Y:Sp}(h:eE v Z)(k:eE v Y):Z=Y:=by
 obtain⟨r,u,c,d,rfl⟩:=h;obtain⟨e,f,a,b,rfl⟩:=k;rw[c.uniq a,d.uniq b]
theorem mX.one{q:Bool->Int->Int->Int}{n:Int}{Z Y:Sp}(h:mX q n Z)(k:mX q n Y):Z=Y:=by
 rcases h with⟨a,h⟩ | ⟨a,b,h⟩ | ⟨a,b,H,l,u,h1,h2,d,rfl⟩
 ·rcases k with⟨_,k⟩ | ⟨c,_⟩ | ⟨c,_⟩
  ·exact h.one k
  ·exact absurd a c
  ·exact absurd a c
 ·rcases k with⟨c,_⟩ | ⟨_,_,k⟩ | ⟨_,c,_⟩
  ·exact absurd c a
  ·exact h.one k
  ·exact absurd b c
 ·rcases k with⟨c,_⟩ | ⟨_,c,_⟩ | ⟨_,_,i,j,m,e,f,g,rfl⟩
  ·exact absurd c a
  ·exact absurd c b
  ·rw[h1.one e,h2.one f,d.one g]
theorem jM.one{q:Bool->Int->Int->Int}{n:Int}{Z Y:Sp}(h:jM q n Z)(k:jM q n Y):Z=Y:=by
 rcases h with⟨a,d,h,rfl⟩ | ⟨a,h⟩
 ·rcases k with⟨_,b,k,rfl⟩ | ⟨c,_⟩
  ·rw[h.one k]
  ·exact absurd a c
 ·rcases k with⟨c,_⟩ | ⟨_,k⟩
  ·exact absurd c a
  ·exact h.one k
def jv (x:Int):Prop:= -19342822337206103650074625 < x/\x < 19342822337206103650074625
def mZ:Sp:=some (fw,fw+1)
theorem mZ.fin:fK mZ:=⟨by decide,by decide,by decide⟩
theorem mZ.holds:jJ (2*qt) mZ/\jx (2*qt) mZ:=by
 obtain⟨h1,h2⟩:=kD;exact⟨FT FQ h1,FS FP h2⟩
def ol (q:Bool->Int->Int->Int)(y x:Int)(Z:Sp):Prop:=
 (x=0/\∃H,eD H/\Z=if y < 0 then f7 H else H)\/
 (x≠0/\∃P Q,jM q (q false y x) P/\jM q (q true y x) Q/\Z=if 0 < x then bY P Q else if y < 0 then kM (bY P Q) mZ else fN mZ (bY P Q))
def nB (k:Int)(Z:Sp):Prop:=∃a b,Z=some (a,b)/\ -k<=a/\a<=b/\b<=k
theorem nB.fin{k:Int}{Z:Sp}(h:nB k Z)(hk:k < 19342822337206103650074625):fK Z:=by
 obtain⟨a,b,rfl,h1,h2,c⟩:=h;exact⟨h2,by omega,by omega⟩
theorem fd:0 < ak 4/\ak 4 < ak 8/\ak 8 < 19342822337206103650074625/\ak 2+1<=ak 4/\fw+1<=ak 4/\ -ak 4<=fw:=by decide
theorem nB.add{Z Y:Sp}(h:nB (ak 4) Z)(k:nB (ak 4) Y):nB (ak 8) (fN Z Y):=by
 obtain⟨q,u,v,_⟩:=fd;obtain⟨a,b,rfl,h1,h2,f⟩:=h;obtain⟨c,d,rfl,g,i,j⟩:=k;have s:=bS (x:=a) (y:=c) true (by omega) (by omega) (by omega) (by omega);have t:=bS (x:=b) (y:=d) true (by omega) (by omega) (by omega) (by omega)
 have w:vr (ak 4)=4*2^KK:=eN (by decide) (by decide)
 have z:vr (ak 8)=8*2^KK:=eN (by decide) (by decide)
 have a1:=bI h1;have a2:=bI g;have a3:=bI f;have n:=bI j;have o:=bI h2;have p:=bI i;rw[aF]at a1 a2
 have l: -ak 8<=av false a c:=(gc (r:= -ak 8) (by omega) (by omega)).mono s.1 (by rw[aF];omega)
 have m:av true b d<=ak 8:=t.2.mono (gm (r:=ak 8) (by omega) (by omega)) (by omega)
 have e:av false a c<=av true b d:=Int.le_trans (s.1.mono t.1 (by omega)) (gF t.1 t.2)
 exact⟨_,_,aK e (by omega) (by omega),l,e,m⟩
theorem nB.neg{k:Int}{Z:Sp}(h:nB k Z)(hk:k < 19342822337206103650074625):nB k (f7 Z):=by
 obtain⟨a,b,rfl,h1,h2,c⟩:=h;rw[eI ⟨by omega,h2,by omega,by omega,by omega⟩]
 exact⟨-b,-a,rfl,by omega,by omega,by omega⟩
theorem nB.sub{Z Y:Sp}(h:nB (ak 4) Z)(k:nB (ak 4) Y):nB (ak 8) (kM Z Y):=h.add (k.neg (by have:=fd;omega))
theorem nB.up{Z:Sp}(h:nB (ak 4) Z):nB (ak 8) Z:=by
 obtain⟨c,d,_⟩:=fd;obtain⟨a,b,rfl,h1,h2,e⟩:=h;exact⟨a,b,rfl,by omega,h2,by omega⟩
theorem mZ.in4:nB (ak 4) mZ:=by
 obtain⟨_,_,_,_,a,b⟩:=fd;exact⟨_,_,rfl,b,by omega,a⟩
theorem eD.in4{Z:Sp}(h:eD Z):nB (ak 4) Z:=by
 obtain⟨b,c,d,e,_⟩:=fd;obtain⟨r,u,rfl,a,h1,h2,_⟩:=rP h;exact⟨r,u,rfl,by omega,a,by omega⟩
theorem zT{q:Bool->Int->Int->Int}(hq:QF q){m n:Int}{P Q:Sp}(h:jM q m P)(k:jM q n Q)(m1:In m)(n1:In n):nB (ak 4) (bY P Q):=by
 obtain⟨g,i,j,l,_⟩:=fd;obtain⟨o1,o2⟩:=iT;obtain⟨a,b,rfl,e,a1,a2,_⟩:=h.tight hq m1.1 m1.2;obtain⟨c,d,rfl,f,c1,c2,_⟩:=k.tight hq n1.1 n1.2;rw[gY ⟨by omega,e,by omega,by omega,by omega⟩ ⟨by omega,f,by omega,by omega,by omega⟩]
 exact⟨_,_,rfl,by omega,by omega,by omega⟩
theorem ol.in8{q:Bool->Int->Int->Int}(hq:QF q){y x:Int}{Z:Sp}(h:ol q y x Z):nB (ak 8) Z:=by
 obtain⟨e,f,b,g,j,k⟩:=fd
 rcases h with⟨_,H,a,rfl⟩ | ⟨_,P,Q,c,d,rfl⟩
 ·split
  ·exact a.in4.up.neg b
  ·exact a.in4.up
 ·have i:=zT hq c d (hq.in false y x) (hq.in true y x)
  split
  ·exact i.up
  ·split
   ·exact i.sub mZ.in4
   ·exact mZ.in4.add i
end Go.Proofs.YtomikokonmikgaaGreatDoor
namespace Go.Proofs.YtomikokonmikgaaGreatDoor
open Go.Proofs.Tryz
set_option maxHeartbeats 8000000
open Go.RowKit
set_option linter.unusedVariables false
def JQ (x:Sp)(h:Nat):Prop:=∀a b,x=some (a,b)->Fz a h/\Fz b h
theorem JQ.mono{x:Sp}{h k:Nat}(f:JQ x h)(hk:h<=k):JQ x k:=fun a b e=>⟨(f a b e).1.mono hk,(f a b e).2.mono hk⟩
def kY:List Sp->Bool
 | []=>false
 | none::_=>true
 | some _::l=>kY l
theorem tP:∀{l:List Sp} {k:Nat},k < l.length->l.getD k none=none->kY l=true
 | none::_,_,_,_=>rfl
 | some _::l,0,_,e=>by cases e
 | some _::l,k+1,h,e=>tP (l:=l) (k:=k) (Nat.lt_of_succ_lt_succ h) e
theorem tQ:∀{l:List Sp},(∀k,k < l.length->l.getD k none≠none)->kY l=false
 | [],_=>rfl
 | none::l,h=>absurd rfl (h 0 (Nat.succ_pos _))
 | some _::l,h=>tQ (l:=l) fun k hk=>h (k+1) (Nat.succ_lt_succ hk)
theorem qd:∀{l:List Sp} {k:Nat},kY l=false->k < l.length->∃a b,l.getD k none=some (a,b)
 | none::_,_,h,_=>by cases h
 | some (a,b)::l,0,_,_=>⟨a,b,rfl⟩
 | some _::l,k+1,h,hk=>qd (l:=l) (k:=k) h (Nat.lt_of_succ_lt_succ hk)
theorem kC:∀l:List Sp,l.foldl fN none=none
 | []=>rfl
 | x::l=>kC l
theorem l7:∀{l:List Sp} (x:Sp),kY l=true->l.foldl fN x=none
 | none::l,x,_=>by
  show l.foldl fN (fN x none)=none
  rw[yB,kC]
 | some _::l,x,h=>l7 (l:=l) _ h
theorem yA:∀{l:List Sp},kY l=true->Dd l=none
 | none::l,_=>kC l
 | some p::l,h=>l7 (l:=l) (some p) h
theorem tk{x y:Int}(x1: -19342822337206103650074625<=x)(x2:x < 19342822337206103650074625)(y1: -19342822337206103650074625<=y)(y2:y < 19342822337206103650074625):av false x y < 19342822337206103650074625:=by
 cases hx:au x
 ·cases hy:au y
  ·obtain⟨a,b⟩:=bj x1 (by omega) hx;obtain⟨c,d⟩:=bj y1 (by omega) hy;have h:=(bS false a b c d).1.2.1
   omega
  ·rw[ec false hx hy];exact y2
 ·have e:=bL hx
  cases hy:au y
  ·rw[dM false hx hy];exact x2
  ·have e2:=bL hy;rw[dR false hx (by omega)];exact x2
theorem Dg{x y:Int}(x1: -19342822337206103650074625 < x)(x2:x<=19342822337206103650074625)(y1: -19342822337206103650074625 < y)(y2:y<=19342822337206103650074625): -19342822337206103650074625 < av true x y:=by
 have h:=tk (x:= -x) (y:= -y) (by omega) (by omega) (by omega) (by omega);have e:=yD (x:=x) (y:=y) true;rw[Bool.not_true]at e
 omega
theorem vW{a b c d:Int}(h:aY (some (a,b)))(k:aY (some (c,d))):fN (some (a,b)) (some (c,d))=some (av false a c,av true b d)/\aY (some (av false a c,av true b d)):=by
 obtain⟨h1,h2,g,h4,i⟩:=h;obtain⟨j,l,m,n,p⟩:=k;have q:=tk h1 h4 j n;have l2:=Dg i g p m
 have r:av false a c<=av true b d:=by
  refine Int.le_trans (yC false ⟨by omega,by omega⟩ ⟨by omega,by omega⟩ ⟨by omega,by omega⟩ ⟨by omega,by omega⟩ h2 l) ?_;exact Dh (by omega) (by omega) (by omega) (by omega)
 have e:=lj (x:=a) (y:=c) false (by omega) (by omega) (by omega) (by omega);have f:=lj (x:=b) (y:=d) true (by omega) (by omega) (by omega) (by omega)
 have o:aY (some (av false a c,av true b d)):=⟨e.1,r,f.2,q,l2⟩
 exact⟨o.mk,o⟩
theorem py:∀{l:List Sp} {a b:Int},kY l=false->(∀y ∈ l,aY y)->aY (some (a,b))->l.foldl fN (some (a,b))=some ((dO l).foldl (av false) a,(dw l).foldl (av true) b)/\aY (some ((dO l).foldl (av false) a,(dw l).foldl (av true) b))
 | [],a,b,_,_,h=>⟨rfl,h⟩
 | none::l,_,_,h,_,_=>by cases h
 | some (c,d)::l,a,b,h,hl,hab=>by
  obtain⟨e,o⟩:=vW hab (hl (some (c,d)) (List.mem_cons_self ..))
  have:=py (l:=l) h (fun y hy=>hl y (List.mem_cons_of_mem _ hy)) o
  rw[<-e]at this;exact this
theorem yx:∀{l:List Sp},kY l=false->(∀y ∈ l,aY y)->eB ((dO l).foldl (av false) 0) ((dw l).foldl (av true) 0)=Dd l
 | [],_,_=>by decide
 | none::l,h,_=>by cases h
 | some (c,d)::l,h,hl=>by
  have k:=hl (some (c,d)) (List.mem_cons_self ..);have i:=k.in1
  obtain⟨e,o⟩:=py (l:=l) h (fun y hy=>hl y (List.mem_cons_of_mem _ hy)) k
  show eB ((dO l).foldl (av false) (av false 0 c)) ((dw l).foldl (av true) (av true 0 d))=l.foldl fN (some (c,d))
  rw[dE (x:=0) (y:=c),dE (x:=0) (y:=d),fG false i.1.1 i.1.2,fG true i.2.1 i.2.2,e,o.mk]
set_option linter.unusedSimpArgs false
set_option maxRecDepth 100000
theorem lk{e:Bool}{D M E D' M' E':Int}{s s':Bool}{a b:Int}(hM:LQ M)(hM':LQ M')(h:jL e D s M E D' s' M' E'=some (a,b)):Ci e D s M E D' s' M' E' (some (a,b)):=by
 rw[<-h];refine lC hM hM' ?_
 cases hm:jD e D s M E D' s' M' E'
 ·rw[lD hm]at h
  cases h
 ·rfl
theorem oG{w:World}{A:Option Addr}{n c:Nat}{l:List Sp}{r:Bool}(h:lh w A n c l)(hr:kY l=r):Calls prog 109 #[.slice A n c] w (PB w r):=by
 have z:=ie hr;have v:=ie h.1;have L:=h.2.1;have J:=h.2.2.1;have x:=h;clear hr h
 go_enter func109,ntmps109
 go_wp2
 go_loopw [7] (fun i wr=>∃k:Nat,k<=n/\i= .int .i64 k/\(∀j,j < k->l.getD j none≠none)/\Below w.heap.size w wr) (fun i _=>n-(intOf i).toNat)
 case atStart=>exact ⟨0,Nat.zero_le _,rfl,fun j h=>absurd h (Nat.not_lt_zero _),Below.refl _ _⟩
 case round=>
  obtain⟨k,Z,rfl,I,G⟩:=hrel;have C:=ie I;have d:=ie G;clear I G
  by_cases hlt:k < n
  ·have F:decide ((k:Int) < (n:Int))=true:=by simp;omega
   have h:=x.below d.out;obtain⟨b,o,rfl,hcell⟩:=h.2.2.2 (by omega);obtain⟨e,D,s,M,E,D',s',M',E',N,O,x2,P,Q,R,S,T,U,H,y,hx⟩:=hcell k hlt;clear hcell h x
   have i1:(k:Int) < n:=by omega
   have i2:(0:Int)<=k:=by omega
   have a:l.getD k none=none->r=true:=fun e=>z.out.symm.trans (tP (by rw[v.out];exact hlt) e)
   have m:l.getD k none≠none->∀j,j < k+1->l.getD j none≠none:=fun e j hj=>by
    by_cases c:j=k
    ·rw[c];exact e
    ·exact C.out j (by omega)
   rw[<-hx]at a m;clear hx z C
   cases e
   ·go_upto_region 4 with (fail)
    clear N O x2 P Q R S T U;generalize g:wr.alloc _=X at *;obtain⟨q,u⟩:=Bo.nw g;clear g;replace d:=aa d u;clear u;have t:=lD (e:=false) (K:=D) (s:=s) (M:=M) (E:=E) (K':=D') (s':=s') (M':=M') (E':=E')
    cases hm:jD false D s M E D' s' M' E'
    ·obtain rfl:=a (t hm)
     have f:=ie hm;clear a m hm t;have p:=q.cell
     go_wp2_with fail
     refine(tV H y f.out).mono ?_;rintro W Y ⟨rfl,B⟩;clear p;replace q:=q.b B;replace d:=aa d B;clear B;clear f;go_wp2
     go_ret
     exact⟨rfl,d.out⟩
    ·have V:Hid (∀j,j < k+1->l.getD j none≠none):=ie (m (of_decide_eq_true hm))
     have f:=ie hm;clear a m hm t;have p:=q.cell
     go_wp2_with fail
     refine(tV H y f.out).mono ?_;rintro W Y ⟨rfl,B⟩;clear p;replace q:=q.b B;replace d:=aa d B;clear B;clear f;go_wp2
     go_roundw
     case rel=>exact ⟨k+1,by omega,by go_num,V.out,d.out⟩
     case measure=>simp [intOf];omega
   ·go_upto_region 4 with (fail)
    clear N O x2 P Q R S T U;generalize g:wr.alloc _=X at *;obtain⟨q,u⟩:=Bo.nw g;clear g;replace d:=aa d u;clear u
    obtain rfl:=a vx
    clear a m;have p:=q.cell;go_wp2
    go_ret
    exact⟨rfl,d.out⟩
  ·obtain rfl:k=n:=by omega
   have F:decide ((k:Int) < (k:Int))=false:=by simp
   obtain rfl:false=r:=(tQ (fun j hj=>C.out j (by rw[v.out]at hj;exact hj))).symm.trans z.out
   clear C z;go_wp2
   go_ret
   exact⟨rfl,d.out⟩
theorem Fv{w:World}{e:Bool}{D M E D' M' E':Int}{s s':Bool}{x z:Sp}(hM:LQ M)(hM':LQ M')(hx:jL e D s M E D' s' M' E'=x)(hr:f7 x=z):Calls prog 39 #[VI e D s M E D' s' M' E'] w (PV w z):=by
 delta VI
 obtain⟨p,L⟩:∃p,kY [x]=p:=⟨_,rfl⟩;have k:=ie L;have r:=ie hx;clear hx L
 go_enter func39,ntmps39
 go_upto_region 1 with (fail)
 generalize n:(w.alloc _).alloc _=w1 at *;obtain⟨h,c,g⟩:=Bo.en2 n;clear n;have f:=h.cell
 go_wp2_with fail
 refine(oG (lh.lit1 rfl ⟨hM,hM',r.out⟩) k.out).mono ?_;rintro V Z ⟨rfl,B⟩;replace B:=bt (af _ (.cells #[.bool e,.int .i64 D,.bool s,.int .u64 M,.int .i64 E,.int .i64 D',.bool s',.int .u64 M',.int .i64 E'] 32)) B;clear f;replace h:=h.b B;replace c:=c.b B;replace g:=aa g B;clear B
 rcases x with _ | ⟨X,Y⟩
 ·obtain rfl:true=p:=k.out
  obtain rfl:none=z:=hr
  clear k
  go_wp2_with fail
  refine(dN).mono ?_;rintro V w3 ⟨rfl,B⟩;replace h:=h.b B;replace c:=c.b B;replace g:=aa g B;clear B;have j:=c.cell;have d:=c.frozen;go_wp2;clear j d;have m:=ae.t9 c true 0 false 0 0 0 false 0 0
  exact bq (by simp[results,results39,go_sem,m.box.cell]) rfl ⟨_,_,_,_,_,_,_,_,_,rfl,Ci.none,(m.below g.out (by omega))⟩
 ·obtain⟨rfl,a1,J,o1,C,A⟩:=lk hM hM' r.out
  obtain rfl:false=p:=k.out
  obtain⟨u,y⟩:∃u,-Y=u:=⟨_,rfl⟩;obtain⟨l,hl⟩:∃l,-X=l:=⟨_,rfl⟩
  have o:eB u l=z:=by rw[<-y,<-hl];exact hr
  have P:Hid (-rk D' s' M' E'=u):=ie (by rw[J.rk];exact y)
  have N:Hid (-rk D s M E=l):=ie (by rw[a1.rk];exact hl)
  have O:=ie o;clear y hl hr o o1 C A r k;have f:=h.cell
  go_upto_region 3 with (fail)
  clear f;refine jk [0,1,2,3,4,5,6] [some 7,some 8,some 9,some 10,some 11,some 12,some 13,none] [[],[0],[1],[],[3],[4],[2,5],[]] 8 1 [Jo.qp w.heap.size 5,Jo.q4 D' s' M' E',Jo.Fact.num u,Jo.qp w.heap.size 1,Jo.q4 D s M E,Jo.Fact.num l,Jo.Fact.iv z,Jo.Fact.any] ?_ ?_
  ·iterate 2 (refine jm ?_ ?_;rotate_left)
   refine jm ?_ ?_
   ·rintro I i _ rfl K a;simp only[Jo.z]at a|-;go_simp;exact Jo.n1 (xv J.top P.out) a.out
   iterate 2 (refine jm ?_ ?_;rotate_left)
   refine jm ?_ ?_
   ·rintro I i _ rfl K a;simp only[Jo.z]at a|-;go_simp;exact Jo.n1 (xv a1.top N.out) a.out
   refine jm ?_ ?_
   ·rintro I i _ ⟨K2,s2,M2,E2,rfl,F⟩ _ ⟨Q,s3,S,E3,rfl,G⟩ K a;simp only[Jo.z]at a|-;go_simp;exact Jo.v1 (ia F.top G.top F.rk G.rk O.out) a.out
   exact jo
   all_goals (rintro I i;(repeat rintro _ rfl);intro K a;simp only[Jo.z]at a|-;have f:=(h.b i).cell;go_simp;exact a.out _ _ rfl (br _ _))
  rintro w8 i _ _ _ rfl _ ⟨K2,s2,M2,E2,rfl,F⟩ _ _ _ rfl _ ⟨Q,s3,S,E3,rfl,G⟩ _ ⟨U,R,s4,T,E4,t,H,v,q,rfl,W⟩ -;simp only[Jo.z];replace c:=c.b i;replace g:=aa g i;have j:=c.cell;have d:=c.frozen
  refine jn 7 fun K a=>?_
  go_simp;refine a.out _ _ ?_;clear a K j d;have m:=ae.t9 c U R s4 T E4 t H v q;refine jd ?_;go_wp2;exact bq (by simp[results,results39,go_sem,m.box.cell]) rfl ⟨_,_,_,_,_,_,_,_,_,rfl,W,(m.below g.out (by omega))⟩
theorem Fu{w:World}{A:Option Addr}{n c:Nat}{l:List Sp}{z:Sp}(hT:Tb w)(h:lh w A n c l)(hr:Dd l=z):Calls prog 43 #[.slice A n c] w (PV w z):=by
 obtain⟨p,hp⟩:∃p,kY l=p:=⟨_,rfl⟩;have G:=ie hp;have r:=ie h.1;have hG:=h.2.1;have hF:=h.2.2.1;clear hp
 go_enter func43,ntmps43
 go_upto_region 1 with (fail)
 generalize bA:w.alloc _=w1 at *;obtain⟨d,a⟩:=Bo.en1 bA;replace hT:=hT.below a.out;replace h:=h.below a.out;clear bA
 go_wp2_with fail
 refine(oG h G.out).mono ?_;rintro ee w2 ⟨rfl,B⟩;replace d:=d.b B;replace hT:=hT.b B;replace h:=h.b B;replace a:=aa a B;clear B
 cases p
 ·have bH:=h.ok;have bC:=(yx G.out bH).trans hr;obtain⟨u,hu⟩:∃u,FY false (dO l)=u:=⟨_,rfl⟩;obtain⟨v,hv⟩:∃v,FY true (dw l)=v:=⟨_,rfl⟩
  have hz:eB u v=z:=by rw[<-hu,<-hv];exact bC
  have HU:=ie hu;have HV:=ie hv;have HZ:=ie hz;clear bH bC hu hv hz hr;go_wp2
  go_loopw [3,4,12] (fun va vb i wr=>∃k A1 Q c1 d1,k<=n/\va= .slice A1 k c1/\vb= .slice Q k d1/\i= .int .i64 ((k:Nat):Int)/\Iv w2 A1 Q k c1 d1 (dO (l.take k)) (dw (l.take k)) wr) (fun _ _ i _=>n-(intOf i).toNat)
  case atStart=>exact ⟨0,_,_,_,_,Nat.zero_le _,rfl,rfl,rfl,Na.nil _ _,Na.nil _ _,(fun k h=>by cases h),Below.refl _ _⟩
  case round=>
   obtain⟨k,A1,Q,c1,d1,y,rfl,rfl,rfl,x,q,J,hB⟩:=hrel;have F:=a;replace a:=ie hB;clear hB
   by_cases hlt:k < n
   ·have hD:decide ((k:Int) < (n:Int))=true:=by simp;omega
    have h':=h.below a.out
    obtain⟨a0,b0,hg⟩:=qd G.out (k:=k) (by rw[r.out];exact hlt);have N:=nW (l:=l) (k:=k) (by rw[r.out];exact hlt);have L:=l9 (l:=l) (k:=k) (by rw[r.out];exact hlt);rw[hg]at N L;obtain⟨b,o,rfl,hcell⟩:=h'.2.2.2 (by omega);obtain⟨e,D,s,M,E,D',s',M',E',x0,x1,x2,x3,x4,x5,x6,x7,x8,hM,Z,hx⟩:=hcell k hlt;rw[hg]at hx
    obtain⟨rfl,a1,b1,_,_,_⟩:=lk hM Z hx;clear hcell h' h hx hM Z
    have i1:(k:Int) < n:=by omega
    have i2:(0:Int)<=k:=by omega
    generalize dO (l.take k)=la at *;generalize dw (l.take k)=lb at *
    have T:Hid (dO (l.take (k+1))=la ++[a0]):=ie N
    have S:Hid (dw (l.take (k+1))=lb ++[b0]):=ie L
    have t:=ie J;clear N L J hg HU HV HZ G d hT F
    go_upto_region 7 with (fail)
    clear x0 x1 x2 x3 x4 x5 x6 x7 x8;generalize bB:wr.alloc _=w6 at *;obtain⟨X,BW⟩:=Bo.nw bB;clear bB;replace x:=x.b BW;replace q:=q.b BW;replace a:=aa a BW;clear BW;have O:=X.cell
    go_wp2_with (at_builtin;refine jl rfl _ _ rfl rfl rfl (x.below (af _ _)) a1 (Bo.new _ _ _) (by omega) (Nat.le_trans a.out.size (af _ _).size) ?_)
    intro A2 d2 w7 H G1 I
    clear O;have g:=bt a.out (af _ (.cells #[.int .i64 D,.bool s,.int .u64 M,.int .i64 E] 24));have f:=x.below (af _ (.cells #[.int .i64 D,.bool s,.int .u64 M,.int .i64 E] 24));have j:=q.below (af _ (.cells #[.int .i64 D,.bool s,.int .u64 M,.int .i64 E] 24));replace X:=(X.below (af _ (.cells #[.int .i64 D,.bool s,.int .u64 M,.int .i64 E] 24))).grownN f (by decide) G1
    replace a:=ie (g.grown G1 g.size (fun k y=>(f.own_lt k y).1))
    have l1:∀k,bi Q=some k->k < w6.heap.size+1:=fun k y=>by
     have:=(j.own_lt k y).2
     simpa using this
    replace q:=j.kept G1 (Bu t.out);clear x f j G1 g;have O:=X.cell
    go_wp2_with (at_builtin;refine jl rfl _ _ rfl rfl rfl (q.below (af _ _)) b1 (Bo.new _ _ _) (by omega) (Nat.le_trans a.out.size (af _ _).size) ?_)
    intro B2 d3 w8 gS G2 Y
    clear O;have g:=bt a.out (af _ (.cells #[.int .i64 D',.bool s',.int .u64 M',.int .i64 E'] 24));have j:=q.below (af _ (.cells #[.int .i64 D',.bool s',.int .u64 M',.int .i64 E'] 24));have f:=H.below (af _ (.cells #[.int .i64 D',.bool s',.int .u64 M',.int .i64 E'] 24))
    have lA:∀k,bi A2=some k->k < w7.heap.size+1:=fun k y=>by
     have:=(f.own_lt k y).2
     simpa using this
    have bD:∀k,bi A2=some k->bi B2≠some k:=oL t.out I Y l1 lA
    have C:∀k,bi A2=some k->bi Q≠some k:=oL t.out I (.inl rfl) l1 lA
    replace a:=ie (g.grown G2 g.size (fun k y=>(j.own_lt k y).1))
    replace H:=f.kept G2 (vi C)
    have t1:=T.out;have t2:=S.out;clear f j G2 g C X q l1 lA I Y T S t;go_wp2
    go_roundw
    case rel=>exact ⟨k+1,_,_,_,_,by omega,rfl,rfl,by go_num,by rw[t1];exact H,by rw[t2];exact gS,bD,a.out⟩
    case measure=>simp [intOf];omega
   ·obtain rfl:k=n:=by omega
    have hD:decide ((k:Int) < (k:Int))=false:=by simp
    have e1:l.take k=l:=List.take_of_length_le (by rw[r.out];omega)
    rw[e1]at x q;have L1:=x.nl (by omega);have L2:=q.nl (by omega);replace d:=d.below a.out;replace hT:=hT.below a.out;replace a:=ie (bt F.out a.out);clear x q e1 J F h G
    go_wp2_with fail
    refine(IH hT L1 HU.out).mono ?_;rintro ee w9 ⟨hJ,hP,hL,hH,rfl,bN,B⟩;replace d:=d.b B;replace hT:=hT.b B;replace L2:=L2.b B;replace a:=aa a B;clear B
    go_wp2_with fail
    refine(IH hT L2 HV.out).mono ?_;rintro ee wA ⟨hK,hQ,hN,hI,rfl,fH,B⟩;replace d:=d.b B;replace a:=aa a B;clear B
    go_wp2_with fail
    refine(ia bN.top fH.top bN.rk fH.rk HZ.out).mono ?_;rintro ee wB ⟨hA,gO,hC,gP,gB,U,fP,V,R,rfl,hE,B⟩;replace d:=d.b B;replace a:=aa a B;clear B;clear L1 L2 hT;have P:=d.cell;have m:=d.frozen;go_wp2;clear P m;have W:=ae.t9 d hA gO hC gP gB U fP V R
    exact bq (by simp[results,results43,go_sem,W.box.cell]) rfl ⟨_,_,_,_,_,_,_,_,_,rfl,hE,(W.below a.out (by omega))⟩
 ·obtain rfl:none=z:=(yA G.out).symm.trans hr
  clear G hT h hr
  go_wp2_with fail
  refine(dN).mono ?_;rintro ee w3 ⟨rfl,B⟩;replace d:=d.b B;replace a:=aa a B;clear B;have P:=d.cell;have m:=d.frozen;go_wp2;clear P m;have W:=ae.t9 d true 0 false 0 0 0 false 0 0
  exact bq (by simp[results,results43,go_sem,W.box.cell]) rfl ⟨_,_,_,_,_,_,_,_,_,rfl,Ci.none,(W.below a.out (by omega))⟩
theorem Fw{w:World}{e:Bool}{D M E D' M' E':Int}{s s':Bool}{e2:Bool}{G P Q G' P' Q':Int}{g g':Bool}{x y z:Sp}(hT:Tb w)(hM:LQ M)(hM':LQ M')(hP:LQ P)(hP':LQ P')(hx:jL e D s M E D' s' M' E'=x)(hy:jL e2 G g P Q G' g' P' Q'=y)(hr:kM x y=z):Calls prog 49 #[VI e D s M E D' s' M' E',VI e2 G g P Q G' g' P' Q'] w (PV w z):=by
 delta VI
 obtain⟨m,hm⟩:∃m,f7 y=m:=⟨_,rfl⟩
 have h:Dd [x,m]=z:=by rw[<-hm];exact hr
 have I:=ie hx;have J:=ie hy;have F:=ie hm;have H:=ie h;clear hx hy hm hr h
 go_enter func49,ntmps49
 go_upto_region 1 with (fail)
 generalize f:((w.alloc _).alloc _).alloc _=w1 at *;obtain⟨O,R,d,j⟩:=Bo.en3 f;replace hT:=hT.below j.out;clear f;refine jk [0,1,2,3,4] [some 5,some 6,some 7,some 8,some 9,none] [[],[],[1],[0,2],[3],[]] 6 1 [Jo.q9 e D s M E D' s' M' E',Jo.q9 e2 G g P Q G' g' P' Q',Jo.Fact.iv m,Jo.Fact.il8 2 [x,m],Jo.Fact.iv z,Jo.Fact.any] ?_ ?_
 ·iterate 2 (refine jm ?_ ?_;rotate_left)
  refine jm ?_ ?_
  ·rintro u c _ rfl K a;simp only[Jo.z]at a|-;go_simp;exact Jo.v1 (Fv hP hP' J.out F.out) a.out
  refine jm ?_ ?_
  ·rintro u c _ rfl _ ⟨e1,L,s1,N,C,n,r,p,k,rfl,B⟩ K a;simp only[Jo.z]at a|-;go_simp;exact a.out _ _ ⟨_,2,rfl,lh.lit2 rfl ⟨hM,hM',I.out⟩ B.rw⟩ (af _ _)
  refine jm ?_ ?_
  ·rintro u c _ ⟨A3,c3,rfl,S⟩ K a;simp only[Jo.z]at a|-;go_simp;exact Jo.v1 (Fu (hT.b c) S H.out) a.out
  exact jo
  all_goals (rintro u c;(repeat rintro _ rfl);intro K a;simp only[Jo.z]at a|-;have T:=(O.b c).cell;have U:=(R.b c).cell;go_simp;exact a.out _ _ rfl (br _ _))
 rintro V c _ rfl _ rfl _ ⟨e1,L,s1,N,C,n,r,p,k,rfl,B⟩ _ ⟨_,_,rfl,_⟩ _ ⟨e2,K2,s2,M2,E2,o,t,q,l,rfl,v2⟩ -;simp only[Jo.z];replace d:=d.b c;replace j:=aa j c;have v:=d.cell;have i:=d.frozen
 refine jn 5 fun K a=>?_
 go_simp;refine a.out _ _ ?_;clear a K v i;have A:=ae.t9 d e2 K2 s2 M2 E2 o t q l;refine jd ?_;go_wp2;exact bq (by simp[results,results49,go_sem,A.box.cell]) rfl ⟨_,_,_,_,_,_,_,_,_,rfl,v2,(A.below j.out (by omega))⟩
theorem nJ{α:Nat}(h0:9223372036854775808<=α)(h1:α < 18446744073709551616):ac α=64:=i9 (k:=63) (by omega) h0 h1
theorem Dz{up s t:Bool}{M1 E1 M2 E2 x y r:Int}{α β:Nat}(q1:Fq 1 s M1 E1 x)(q2:Fq 1 t M2 E2 y)(ha:(α:Int)=M1)(hb:(β:Int)=M2)(hr:Qt up x y r)(hβ:0 < β):
  ∃P:Bool->Bool->Int->Prop,(∀σ up r',fF up (aj σ ((α:Int)*2^(E1-E2+(KK:Int)).toNat)) (β:Int) r'->P σ up r')/\(∀r',P (s !=t) up r'->r'=r):=by
 refine⟨_,fun _ _ _ h=>h,fun r' h=>?_⟩
 have e0:E1-E2+((0:Nat):Int)-((0:Nat):Int)+(KK:Int)=E1-E2+(KK:Int):=by omega
 exact(pV (v:=0) (w:=0) q1 q2 (by rw[<-ha];exact(Int.mul_one _).symm) (by rw[<-hb];exact(Int.mul_one _).symm) hβ (by decide) (by decide) (by rw[e0];exact h)).uniq hr
theorem IZ{w:World}{D D' M M' E E':Int}{s s':Bool}{up:Bool}{x y r:Int}(hT:dQ w)(hM:LQ M)(hM':LQ M')(hx:rk D s M E=x)(hy:rk D' s' M' E'=y)(hr:Qt up x y r):Calls prog 160 #[VQ D s M E,VQ D' s' M' E',.bool up] w (PN w r):=by
 delta VQ
 obtain⟨W,s1,Q,O,v⟩:=zK (D:=D) (s:=s) (M:=M) (E:=E) hM;obtain⟨K2,s2,M2,E2,A⟩:=zK (D:=D') (s:=s') (M:=M') (E:=E') hM';rw[hx]at v;rw[hy]at A;have HX:=ie hx;have HY:=ie hy;clear hx hy
 go_enter func160,ntmps160
 go_upto_region 1 with (fail)
 generalize T:((w.alloc _).alloc _).alloc _=w1 at *;obtain⟨p,q,g,t⟩:=Bo.en3 T;replace hT:=hT.below t.out;clear T;refine jk [0,1,2,3] [some 7,some 8,some 9,some 10,none,none] [[],[0],[],[2],[],[]] 6 2 [Jo.q4 D s M E,Jo.q4 W s1 Q O,Jo.q4 D' s' M' E',Jo.q4 K2 s2 M2 E2,Jo.Fact.any,Jo.Fact.any] ?_ ?_
 ·refine jm ?_ ?_;rotate_left
  refine jm ?_ ?_
  ·rintro F o _ rfl K d;simp only[Jo.z]at d|-;go_simp;refine(BK hM v HX.out).mono ?_;rintro H Y ⟨rfl,B⟩;exact d.out _ _ rfl B
  refine jm ?_ ?_;rotate_left
  refine jm ?_ ?_
  ·rintro F o _ rfl K d;simp only[Jo.z]at d|-;go_simp;refine(BK hM' A HY.out).mono ?_;rintro H Y ⟨rfl,B⟩;exact d.out _ _ rfl B
  exact jo
  all_goals (rintro F o;(repeat rintro _ rfl);intro K d;simp only[Jo.z]at d|-;have i:=(p.b o).cell;have j:=(q.b o).cell;go_simp;exact d.out _ _ rfl (br _ _))
 rintro w2 o _ rfl _ rfl _ rfl _ rfl -;simp only[Jo.z];replace p:=p.b o;replace q:=q.b o;replace g:=g.b o;replace hT:=hT.b o;replace t:=aa t o;have i:=p.cell;have U:=p.frozen
 refine jn 4 fun K d=>?_
 go_simp;refine d.out _ _ ?_;clear d K i U;generalize S:(((w2.setCell _ _).setCell _ _).setCell _ _).setCell _ _=w3 at *;have k:=ae.of4 p S;replace q:=q.s k;replace g:=g.s k;replace hT:=hT.s k;replace t:=bn t k (by omega);replace p:=k.box;clear k S;have j:=q.cell
 have V:=q.frozen
 refine jn 5 fun K d=>?_
 go_simp;refine d.out _ _ ?_;clear d K j V;generalize S:(((w3.setCell _ _).setCell _ _).setCell _ _).setCell _ _=w4 at *;have k:=ae.of4 q S;replace p:=p.s k;replace g:=g.s k;replace hT:=hT.s k;replace t:=bn t k (by omega);replace q:=k.box;clear k S;refine jd ?_
 clear HX HY hM hM';have i1:=gv v;have i2:=gv A;have G:=v.zero_iff;have u:=A.zero_iff
 have fP:W=2\/W=0\/W=1:=by rcases v.cases with⟨h,_⟩ | ⟨h,_⟩ | ⟨h,_⟩ <;> omega
 have L:K2=2\/K2=0\/K2=1:=by rcases A.cases with⟨h,_⟩ | ⟨h,_⟩ | ⟨h,_⟩ <;> omega
 rcases fP with rfl | rfl | rfl
 ·rcases L with rfl | rfl | rfl
  ·have n:y≠0:=fun c=>absurd (u.2 c) (by decide)
   have l:r=0:=(bO n (.inr i2)).1 hr
   subst l;clear i1 i2 G u v A hr n hT;have m:=g.cell;have f:=g.frozen;have i:=p.cell;have j:=q.cell;go_wp2;clear m f i j;have k:=ae.t4 g 0 false 0 0;exact bq (by simp[results,results160,go_sem,k.box.cell]) rfl ⟨_,_,_,_,rfl,Fq.nought,(k.below t.out (by omega))⟩
  ·have l:aj (!up) TP=r:=by
    rw[u.1 rfl]at hr;exact(eR.1 hr).symm
   have C:=ie l;clear i1 i2 G u v A hr l hT;have i:=p.cell;have j:=q.cell
   go_wp2_with fail
   refine(vw C.out).mono ?_;rintro H w6 ⟨I,s3,J,E3,rfl,N,B⟩;clear i j;replace p:=p.b B;replace q:=q.b B;replace g:=g.b B;replace t:=aa t B;clear B;have m:=g.cell;have f:=g.frozen;go_wp2;clear m f;have k:=ae.t4 g I s3 J E3
   exact bq (by simp[results,results160,go_sem,k.box.cell]) rfl ⟨_,_,_,_,rfl,N,(k.below t.out (by omega))⟩
  ·have n:y≠0:=fun c=>absurd (u.2 c) (by decide)
   have hn:¬(x=0\/au y=true):=by
    rw[i2];rintro (c | c)
    ·exact absurd (G.2 c) (by decide)
    ·exact absurd c (by decide)
   have sx:decide (x < 0)=s1:=by
    rcases v.three with⟨a,_⟩ | ⟨_,rfl,b⟩ | ⟨_,rfl,b⟩
    ·exact absurd a (by decide)
    ·exact df (by omega)
    ·exact dt b
   have sy:decide (y < 0)=s2:=by
    rcases A.three with⟨a,_⟩ | ⟨_,rfl,b⟩ | ⟨_,rfl,b⟩
    ·exact absurd a (by decide)
    ·exact df (by omega)
    ·exact dt b
   have l:aj (s1 !=s2) TP=r:=by
    have:=(im n hn i1).1 hr
    rw[sx,sy]at this;exact this.symm
   have C:=ie l;clear i1 i2 G u v A hr l sx sy hn n hT;have i:=p.cell;have j:=q.cell
   go_wp2_with fail
   refine(iQ (s:=s1 !=s2) C.out).mono ?_;rintro H w6 ⟨I,s3,J,E3,rfl,N,B⟩;clear i j;replace p:=p.b B;replace q:=q.b B;replace g:=g.b B;replace t:=aa t B;clear B;have m:=g.cell;have f:=g.frozen;go_wp2;clear m f;have k:=ae.t4 g I s3 J E3
   exact bq (by simp[results,results160,go_sem,k.box.cell]) rfl ⟨_,_,_,_,rfl,N,(k.below t.out (by omega))⟩
 ·rcases L with rfl | rfl | rfl
  ·have n:y≠0:=fun c=>absurd (u.2 c) (by decide)
   have l:r=0:=(bO n (.inl (G.1 rfl))).1 hr
   subst l;clear i1 i2 G u v A hr n hT;have m:=g.cell;have f:=g.frozen;have i:=p.cell;have j:=q.cell;go_wp2;clear m f i j;have k:=ae.t4 g 0 false 0 0;exact bq (by simp[results,results160,go_sem,k.box.cell]) rfl ⟨_,_,_,_,rfl,Fq.nought,(k.below t.out (by omega))⟩
  ·have l:aj (!up) TP=r:=by
    rw[u.1 rfl]at hr;exact(eR.1 hr).symm
   have C:=ie l;clear i1 i2 G u v A hr l hT;have i:=p.cell;have j:=q.cell
   go_wp2_with fail
   refine(vw C.out).mono ?_;rintro H w6 ⟨I,s3,J,E3,rfl,N,B⟩;clear i j;replace p:=p.b B;replace q:=q.b B;replace g:=g.b B;replace t:=aa t B;clear B;have m:=g.cell;have f:=g.frozen;go_wp2;clear m f;have k:=ae.t4 g I s3 J E3
   exact bq (by simp[results,results160,go_sem,k.box.cell]) rfl ⟨_,_,_,_,rfl,N,(k.below t.out (by omega))⟩
  ·have n:y≠0:=fun c=>absurd (u.2 c) (by decide)
   have l:r=0:=(bO n (.inl (G.1 rfl))).1 hr
   subst l;clear i1 i2 G u v A hr n hT;have m:=g.cell;have f:=g.frozen;have i:=p.cell;have j:=q.cell;go_wp2;clear m f i j;have k:=ae.t4 g 0 false 0 0;exact bq (by simp[results,results160,go_sem,k.box.cell]) rfl ⟨_,_,_,_,rfl,Fq.nought,(k.below t.out (by omega))⟩
 ·rcases L with rfl | rfl | rfl
  ·have n:y≠0:=fun c=>absurd (u.2 c) (by decide)
   have l:r=0:=(bO n (.inr i2)).1 hr
   subst l;clear i1 i2 G u v A hr n hT;have m:=g.cell;have f:=g.frozen;have i:=p.cell;have j:=q.cell;go_wp2;clear m f i j;have k:=ae.t4 g 0 false 0 0;exact bq (by simp[results,results160,go_sem,k.box.cell]) rfl ⟨_,_,_,_,rfl,Fq.nought,(k.below t.out (by omega))⟩
  ·have l:aj (!up) TP=r:=by
    rw[u.1 rfl]at hr;exact(eR.1 hr).symm
   have C:=ie l;clear i1 i2 G u v A hr l hT;have i:=p.cell;have j:=q.cell
   go_wp2_with fail
   refine(vw C.out).mono ?_;rintro H w6 ⟨I,s3,J,E3,rfl,N,B⟩;clear i j;replace p:=p.b B;replace q:=q.b B;replace g:=g.b B;replace t:=aa t B;clear B;have m:=g.cell;have f:=g.frozen;go_wp2;clear m f;have k:=ae.t4 g I s3 J E3
   exact bq (by simp[results,results160,go_sem,k.box.cell]) rfl ⟨_,_,_,_,rfl,N,(k.below t.out (by omega))⟩
  ·have n:y≠0:=fun c=>absurd (u.2 c) (by decide)
   obtain⟨a1,a2,a3,a4,_⟩:=eH v;obtain⟨b1,b2,b3,b4,_⟩:=eH A;obtain⟨α,hα⟩:∃α:Nat,(α:Int)=Q:=⟨Q.toNat,by omega⟩
   obtain⟨β,hβ⟩:∃β:Nat,(β:Int)=M2:=⟨M2.toNat,by omega⟩
   have α1:9223372036854775808<=α:=by omega
   have α2:α < 18446744073709551616:=by omega
   have β1:9223372036854775808<=β:=by omega
   have β2:β < 18446744073709551616:=by omega
   obtain⟨P,hP,R⟩:=Dz v A hα hβ hr (by omega);obtain⟨e,X⟩:∃e,O-E2=e:=⟨_,rfl⟩;rw[X]at hP
   have bD: -2200000<=e:=by omega
   have bH:e<=2200000:=by omega
   have bN:e-((ac β:Int)-(ac α:Int)+64)<=2097152:=by
    rw[nJ α1 α2,nJ β1 β2]
    omega
   have bA:=ie hP;have bB:=ie R;have HA:=ie hα;have Z:=ie hβ
   have HW:Hid (IntKind.i64.wrap (O-E2)=e):=ie (by rw[X];exact IntWalk.i64_in _ (by omega))
   have bC:Hid (wrap64 (O-E2)=e):=ie (by rw[X];exact IntWalk.wrap64_in _ (by omega))
   have α0:0 < α:=by omega
   have β0:0 < β:=by omega
   clear i1 i2 G u hr n a1 a2 a3 a4 b1 b2 b3 b4 hP R X hα hβ α1 β1 v A;have i:=p.cell;have j:=q.cell
   go_upto_region 8 with (fail)
   clear i j;refine jk [0,1,2,3,4,5,6,7,8,9,10,11,12,13,14,15,16,17,18] [some 37,some 38,some 39,some 40,some 41,some 42,some 43,some 44,some 45,some 46,some 47,some 48,some 49,some 50,some 51,some 52,some 53,some 54,some 55,none] [[],[0],[1],[],[3],[4],[],[6],[],[8],[7,9],[2,5,10],[],[12],[],[14],[13,15],[],[11,16,17],[]] 20 1 [Jo.qp w.heap.size 2,Jo.Fact.eq (.int .u64 Q),Jo.Fact.rd α 2,Jo.qp (w.heap.size+1) 2,Jo.Fact.eq (.int .u64 M2),Jo.Fact.rd β 2,Jo.qp w.heap.size 3,Jo.qi O,Jo.qp (w.heap.size+1) 3,Jo.qi E2,Jo.qi e,Jo.Fact.pk P,Jo.qp w.heap.size 1,Jo.qb s1,Jo.qp (w.heap.size+1) 1,Jo.qb s2,Jo.Fact.eq (.bool (s1 !=s2)),Jo.qb up,Jo.Fact.num r,Jo.Fact.any] ?_ ?_
   ·refine jm ?_ ?_;rotate_left
    refine jm ?_ ?_
    ·rintro F o _ rfl K d;simp only[Jo.z]at d|-;have gO:=(p.b o).a 2 (.int .u64 Q) rfl;go_simp;exact d.out _ _ rfl (br _ _)
    refine jm ?_ ?_
    ·rintro F o _ rfl K d;simp only[Jo.z]at d|-;go_simp;refine(BI HA.out α2).mono ?_;rintro H Y ⟨A2,rfl,p2,B⟩;exact d.out _ _ ⟨A2,2,2,rfl,p2,Nat.le_refl _⟩ B
    refine jm ?_ ?_;rotate_left
    refine jm ?_ ?_
    ·rintro F o _ rfl K d;simp only[Jo.z]at d|-;have hA:=(q.b o).a 2 (.int .u64 M2) rfl;go_simp;exact d.out _ _ rfl (br _ _)
    refine jm ?_ ?_
    ·rintro F o _ rfl K d;simp only[Jo.z]at d|-;go_simp;refine(BI Z.out β2).mono ?_;rintro H Y ⟨A5,rfl,p5,B⟩;exact d.out _ _ ⟨A5,2,2,rfl,p5,Nat.le_refl _⟩ B
    refine jm ?_ ?_;rotate_left
    refine jm ?_ ?_
    ·rintro F o _ rfl K d;simp only[Jo.z]at d|-;have gP:=(p.b o).a 3 (.int .i64 O) rfl;go_simp;exact d.out _ _ rfl (br _ _)
    refine jm ?_ ?_;rotate_left
    refine jm ?_ ?_
    ·rintro F o _ rfl K d;simp only[Jo.z]at d|-;have hB:=(q.b o).a 3 (.int .i64 E2) rfl;go_simp;exact d.out _ _ rfl (br _ _)
    refine jm ?_ ?_
    ·rintro F o _ rfl _ rfl K d;simp only[Jo.z]at d|-;have hw:=HW.out;have fH:=bC.out;go_simp
     exact d.out _ _ (by first | rfl | (show Value.int _ _=Value.int _ _;first | rw[hw] | rw[fH])) (br _ _)
    refine jm ?_ ?_
    ·rintro F o _ ⟨A2,n2,c2,rfl,p2,k2⟩ _ ⟨A5,n5,c5,rfl,p5,k5⟩ _ rfl K d;simp only[Jo.z]at d|-;go_simp;refine(qK p2 p5 (by omega) (by omega) α0 β0 bD bH bN bA.out).mono ?_;rintro H Y ⟨A7,n7,c7,t7,x7,rfl,p7,B⟩;exact d.out _ _ ⟨A7,n7,c7,t7,x7,rfl,p7⟩ B
    refine jm ?_ ?_;rotate_left
    refine jm ?_ ?_
    ·rintro F o _ rfl K d;simp only[Jo.z]at d|-;have gB:=(p.b o).a 1 (.bool s1) rfl;go_simp;exact d.out _ _ rfl (br _ _)
    refine jm ?_ ?_;rotate_left
    refine jm ?_ ?_
    ·rintro F o _ rfl K d;simp only[Jo.z]at d|-;have gS:=(q.b o).a 1 (.bool s2) rfl;go_simp;exact d.out _ _ rfl (br _ _)
    iterate 2 (refine jm ?_ ?_;rotate_left)
    refine jm ?_ ?_
    ·rintro F o _ ⟨A7,n7,c7,t7,x7,rfl,p7⟩ _ rfl _ rfl K d;simp only[Jo.z]at d|-;go_simp;exact Jo.n1 (BJ (hT.b o) p7 bB.out) d.out
    exact jo
    all_goals (rintro F o;(repeat rintro _ rfl);intro K d;simp only[Jo.z]at d|-;go_simp;exact d.out _ _ rfl (br _ _))
   rintro w8 o _ _ _ rfl _ ⟨_,_,_,rfl,_⟩ _ _ _ rfl _ ⟨_,_,_,rfl,_⟩ _ _ _ rfl _ _ _ rfl _ rfl _ ⟨_,_,_,_,_,rfl,_⟩ _ _ _ rfl _ _ _ rfl _ rfl _ rfl _ ⟨K9,s9,M9,E9,rfl,q9⟩ -;simp only[Jo.z];replace g:=g.b o;replace t:=aa t o;have m:=g.cell;have f:=g.frozen
   refine jn 19 fun K d=>?_
   go_simp;refine d.out _ _ ?_;clear d K m f;have k:=ae.t4 g K9 s9 M9 E9;refine jd ?_;go_wp2;exact bq (by simp[results,results160,go_sem,k.box.cell]) rfl ⟨_,_,_,_,rfl,q9,(k.below t.out (by omega))⟩
end Go.Proofs.YtomikokonmikgaaGreatDoor
namespace Go.Proofs.YtomikokonmikgaaGreatDoor
open Go.Proofs.Tryz
open Go Go.RowKit
set_option linter.unusedVariables false
theorem El:du (ak 1)=SC:=by
 rw[eL (aZ (by decide) (Int.le_refl _)).1,oM,Int.mul_comm];exact Int.mul_ediv_cancel _ (by have:=aB KK;omega)
theorem sf:du 0=0:=by
 rw[eL (aZ (by decide) (by decide)).1,show vr 0=0 from rfl,Int.zero_mul]
 exact Int.zero_ediv _
theorem lQ:be 0=0:=by
 unfold be
 rw[if_neg (by decide),show pU 0=0 by decide,Rat.intCast_zero,show (0:Rat) /SR=0 by grind,i7]
 grind
theorem zI{q:Bool->Int->Int->Int}{Z:Sp}(h:jM q (ak 1) Z):∃a b,dX (lc (some (ak 4,ak 4)) Z) mZ=some (a,b):=by
 obtain⟨o,p,r,s,t,v⟩:=fd
 rcases h with⟨c,_⟩ | ⟨_,h⟩
 ·exact absurd c (by decide)
 rcases h with⟨c,_⟩ | ⟨_,_,h⟩ | ⟨_,c,_⟩
 ·exact absurd c (by decide)
 ·rw[El]at h;obtain⟨f,l,u⟩:=h.is (by decide) (Int.le_refl _);rw[jO]at l u;have l:=l (qt/2) (by grind);have u:=u (qt/2) (by grind)
  have i:fK (some (ak 4,ak 4)):=⟨Int.le_refl _,by omega,by omega⟩
  have e:V (ak 4)=4:=by
   have n:vr (ak 4)=4*2^KK:=eN (by decide) (by decide)
   have a:=fA (ak 4)
   rw[n,Rat.intCast_mul,show ((2^KK:Int):Rat)=BR from rfl,show ((4:Int):Rat)=4 from rfl]at a
   have d:=bT;refine Rat.le_antisymm (Rat.le_of_mul_le_mul_right (c:=BR) ?_ d) (Rat.le_of_mul_le_mul_right (c:=BR) ?_ d) <;> grind
  have k:jJ 4 (some (ak 4,ak 4)):= .inr (by rw[<-e,fA];exact Rat.le_refl)
  have j:jx 4 (some (ak 4,ak 4)):= .inr (by rw[<-e,fA];exact Rat.le_refl)
  obtain⟨g,p2,m⟩:=I4 i f k j l u
  rw[show 4*(qt/2)=2*qt by grind]at g p2
  exact AD m mZ.fin.ok g p2 mZ.holds.1 mZ.holds.2
 ·exact absurd (Int.le_refl _) c
theorem BL{q:Bool->Int->Int->Int}(hq:QF q)(up:Bool){x:Int}(hx:x≠0):q up 0 x=0:=(bO hx (.inl rfl)).1 (hq up 0 x)
theorem xC:ak 25-3*9223372036854775808<=fw/\fw+1<=ak 13-2*9223372036854775808/\0 < ak 25-3*9223372036854775808/\0 < ak 13-2*9223372036854775808/\0 < ak 7-9223372036854775808/\0 < ak 1-9223372036854775808/\ak 7 < 19342822337206103650074625/\ak 3 < 19342822337206103650074625/\0 < ak 3/\ak 1 < 19342822337206103650074625:=by decide
theorem io{n:Int}{k:Nat}{p:Int}(hp:0 < p)(e:p+k*9223372036854775808=ak n)(h0:0<=n)(hn:n<=9223372036854775807):vr p*2^k=n*2^KK:=by
 have s:=kN hp k;rw[e,eN (by omega) hn]at s;exact s.symm
theorem DY{q:Bool->Int->Int->Int}(hq:QF q){A:Sp}(h:ol q 0 (ak (-1)) A):(∃a b,dX A mZ=some (a,b))/\nz A < ak 1:=by
 obtain⟨S,T,U,W,X,Y⟩:=fd;obtain⟨g1,g2,g3,g4,g5,g6,Z,g8,g9,H⟩:=xC;obtain⟨o1,o2⟩:=iT
 have E:ak (-1)≠0:=by decide
 have s:=mZ.fin;have j:=mZ.holds
 rcases h with⟨c,_⟩ | ⟨_,P,Q,m,C,e⟩
 ·exact absurd c E
 ·rw[BL hq _ E]at m C
  obtain rfl:=m.one C
  rw[if_neg (by decide),if_neg (by decide)]at e
  have n:mX q 0 P:=by
   rcases m with⟨c,_⟩ | ⟨_,h⟩
   ·exact absurd c (by decide)
   ·exact h
  have d:eE 0 P:=by
   rcases n with⟨c,_⟩ | ⟨_,_,h⟩ | ⟨_,c,_⟩
   ·exact absurd c (by decide)
   ·rw[sf]at h;exact h
   ·exact absurd (show (0:Int)<=ak 1 by decide) c
  obtain⟨f,l,u⟩:=d.is (Int.le_refl _) (by decide);rw[lQ]at l u;have l:=l 0 (by grind);have u:=u 0 (by grind);obtain⟨r,t,rfl,rt,r1,t1,lo,hi⟩:=oO d (Int.le_refl _) (by decide)
  have i:aY (some (r,t)):=⟨by omega,rt,by omega,by omega,by omega⟩
  have o:bY (some (r,t)) (some (r,t))=some (r,t):=by
   rw[gY i i,Int.min_self,Int.max_self]
  rw[o]at e
  have G:fK (some (r,t)):=⟨rt,by omega,by omega⟩
  have D:=Fl (v:=2*qt) (w:=0) s G;have z:=D.1 j.1 l;have B:=D.2.1 j.2 u
  rw[<-e,show 2*qt+0=2*qt by grind]at z B
  have g:=D.2.2;rw[<-e]at g;refine⟨AD g s.ok z B j.1 j.2,?_⟩
  -- how Kg
  have p:=bV;obtain⟨e1,e2,e3,R⟩:=zz;rw[lQ]at lo hi;have x3:=Rat.mul_le_mul_of_nonneg_right e3 (Rat.le_of_lt p)
  have vl: -(1/100)<=V r:=Rat.le_of_mul_le_mul_right (c:=SR) (by
   generalize (1/9223372036854775808:Rat)*SR=y at *
   grind) p
  have O:V t<=1/100:=Rat.le_of_mul_le_mul_right (c:=SR) (by
   generalize (1/9223372036854775808:Rat)*SR=y at *
   grind) p
  have hp:=aB KK
  have il: -(2^KK)<=vr r*100:=Rat.intCast_le_intCast.1 (by
   rw[Rat.intCast_neg,Rat.intCast_mul,<-fA,show ((2^KK:Int):Rat)=BR from rfl,show ((100:Int):Rat)=100 from rfl]
   have:=Rat.mul_le_mul_of_nonneg_right vl (Rat.le_of_lt bT)
   grind)
  have ih:vr t*100<=2^KK:=Rat.intCast_le_intCast.1 (by
   rw[Rat.intCast_mul,<-fA,show ((2^KK:Int):Rat)=BR from rfl,show ((100:Int):Rat)=100 from rfl]
   have:=Rat.mul_le_mul_of_nonneg_right O (Rat.le_of_lt bT)
   grind)
  have N:vr (ak 25-3*9223372036854775808)*2^3=25*2^KK:=io g3 (by omega) (by decide) (by decide)
  have M:vr (ak 13-2*9223372036854775808)*2^2=13*2^KK:=io g4 (by omega) (by decide) (by decide)
  have s7:vr (ak 7-9223372036854775808)*2^1=7*2^KK:=io g5 (by omega) (by decide) (by decide)
  have s1:vr (ak 1-9223372036854775808)*2^1=1*2^KK:=io g6 (by omega) (by decide) (by decide)
  have s3:vr (ak 3)=3*2^KK:=eN (by decide) (by decide)
  have v1:=bI g1;have v2:=bI g2;have F:=(bS (x:=fw) (y:=r) true (by omega) (by omega) (by omega) (by omega));have k:=(bS (x:=fw+1) (y:=t) true (by omega) (by omega) (by omega) (by omega))
  have I:ak 3<=av false fw r:=(gc (r:=ak 3) (by omega) (by omega)).mono F.1 (by omega)
  have J:av true (fw+1) t<=ak 7-9223372036854775808:=k.2.mono (gm (r:=ak 7-9223372036854775808) (by omega) (by omega)) (by omega)
  have L:av false fw r<=av true (fw+1) t:=by
   refine Int.le_trans (F.1.mono k.1 ?_) (gF k.1 k.2)
   have:=bI rt
   have:=bI (show fw<=fw+1 by omega)
   omega
  have eS:fN mZ (some (r,t))=some (av false fw r,av true (fw+1) t):=aK L (by omega) (by omega)
  rw[e,eS];generalize av false fw r=a at *;generalize av true (fw+1) t=b at *
  show av true b (-a) < ak 1
  have va:=bI I;have vb:=bI J;have w:=(bS (x:=b) (y:= -a) true (by omega) (by omega) (by omega) (by omega)).2
  have:=w.mono (gm (r:=ak 1-9223372036854775808) (by omega) (by omega)) (by rw[aF];omega)
  omega
end Go.Proofs.YtomikokonmikgaaGreatDoor
namespace Go.Proofs.YtomikokonmikgaaGreatDoor
open Go.Proofs.Tryz
set_option maxHeartbeats 8000000
open Go.RowKit
set_option linter.unusedVariables false
set_option linter.unusedSimpArgs false
set_option maxRecDepth 100000
theorem FA{w:World}{e:Bool}{D M E D' M' E':Int}{s s':Bool}{x z:Sp}(hM:LQ M)(hM':LQ M')(hx:jL e D s M E D' s' M' E'=x)(hr:f7 x=z):Calls prog 86 #[VI e D s M E D' s' M' E'] w (PV w z):=by
 delta VI
 have W:=ie hx;clear hx
 go_enter func86,ntmps86
 go_upto_region 1 with (fail)
 generalize p:(w.alloc _).alloc _=w1 at *;obtain⟨X1,c,k⟩:=Bo.en2 p;clear p;have U:=X1.cell
 go_wp2_with fail
 refine(kF hM hM' W.out).mono ?_;rintro ee S ⟨e1,y,s1,A,t,g,i,h,f,rfl,Y,B⟩;clear U;replace c:=c.b B;replace k:=aa k B;clear B
 go_upto_region 2 with (fail)
 have L:=c.lt;generalize q:S.alloc _=w3 at *;obtain⟨I,C⟩:=Bo.nw q;clear q;replace c:=c.b C;replace k:=aa k C;clear C;clear W hM hM'
 rcases x with _ | ⟨xa,xb⟩
 ·obtain⟨rfl,y1,V⟩:=Y
  obtain rfl:none=z:=hr
  have n:=c.cell;have d:=c.frozen;have j:=I.cell;go_wp2;clear n d j;have o:=ae.t9 c true y s1 A t g i h f
  exact bq (v:= .agg #[.bool true,.int .i64 y,.bool s1,.int .u64 A,.int .i64 t,.int .i64 g,.bool i,.int .u64 h,.int .i64 f]) (by simp[results,results86,go_sem,o.box.cell]) rfl ⟨_,_,_,_,_,_,_,_,_,rfl,⟨rfl,y1,V⟩,(o.below k.out (by omega))⟩
 ·obtain⟨rfl,a1,X,o1,O,N⟩:=Y;obtain⟨u,J⟩:∃u,-xb=u:=⟨_,rfl⟩;obtain⟨l,hl⟩:∃l,-xa=l:=⟨_,rfl⟩
  have r:eB u l=z:=by rw[<-J,<-hl];exact hr
  have HU:Hid (-rk g i h f=u):=ie (by rw[X.rk];exact J)
  have Z:Hid (-rk y s1 A t=l):=ie (by rw[a1.rk];exact hl)
  have HR:=ie r;clear J hl hr r o1 O N;have j:=I.cell
  go_upto_region 4 with (fail)
  clear j;refine jk [0,1,2,3,4,5,6] [some 9,some 10,some 11,some 12,some 13,some 14,some 15,none] [[],[0],[1],[],[3],[4],[2,5],[]] 8 1 [Jo.qp S.heap.size 5,Jo.q4 g i h f,Jo.Fact.num u,Jo.qp S.heap.size 1,Jo.q4 y s1 A t,Jo.Fact.num l,Jo.Fact.iv z,Jo.Fact.any] ?_ ?_
  ·iterate 2 (refine jm ?_ ?_;rotate_left)
   refine jm ?_ ?_
   ·rintro T m _ rfl K a;simp only[Jo.z]at a|-;go_simp;exact Jo.n1 (Iq X.top HU.out) a.out
   iterate 2 (refine jm ?_ ?_;rotate_left)
   refine jm ?_ ?_
   ·rintro T m _ rfl K a;simp only[Jo.z]at a|-;go_simp;exact Jo.n1 (Iq a1.top Z.out) a.out
   refine jm ?_ ?_
   ·rintro T m _ ⟨K2,s2,M2,E2,rfl,P⟩ _ ⟨K3,s3,M3,E3,rfl,Q⟩ K a;simp only[Jo.z]at a|-;go_simp;exact Jo.v1 (oI P.top Q.top P.rk Q.rk HR.out) a.out
   exact jo
   all_goals (rintro T m;(repeat rintro _ rfl);intro K a;simp only[Jo.z]at a|-;have j:=(I.b m).cell;go_simp;exact a.out _ _ rfl (br _ _))
  rintro w8 m _ _ _ rfl _ ⟨K2,s2,M2,E2,rfl,P⟩ _ _ _ rfl _ ⟨K3,s3,M3,E3,rfl,Q⟩ _ ⟨e4,K4,s4,M4,E4,G,R,H,F,rfl,v4⟩ -;simp only[Jo.z];replace c:=c.b m;replace k:=aa k m;have n:=c.cell;have d:=c.frozen
  refine jn 7 fun K a=>?_
  go_simp;refine a.out _ _ ?_;clear a K n d;have o:=ae.t9 c e4 K4 s4 M4 E4 G R H F;refine jd ?_;go_wp2;exact bq (by simp[results,results86,go_sem,o.box.cell]) rfl ⟨_,_,_,_,_,_,_,_,_,rfl,v4,(o.below k.out (by omega))⟩
theorem Nl.of4{w:World}{g:Nat}{K1 K2 K3 K4 M1 M2 M3 M4 E1 E2 E3 E4 r1 r2 r3 r4:Int}{s1 s2 s3 s4:Bool}(X:Bo w g #[.int .i64 K1,.bool s1,.int .u64 M1,.int .i64 E1,.int .i64 K2,.bool s2,.int .u64 M2,.int .i64 E2,.int .i64 K3,.bool s3,.int .u64 M3,.int .i64 E3,.int .i64 K4,.bool s4,.int .u64 M4,.int .i64 E4] 24)
  (q1:Fq K1 s1 M1 E1 r1) (q2:Fq K2 s2 M2 E2 r2) (q3:Fq K3 s3 M3 E3 r3) (q4:Fq K4 s4 M4 E4 r4):Nl w (some ⟨g,0,none⟩) 4 4 [r1,r2,r3,r4]:=by
 refine⟨rfl,Nat.le_refl _,by decide,fun _=>⟨_,0,rfl,fun k hk=>?_⟩⟩
 rcases (by omega:k=0\/k=1\/k=2\/k=3)with rfl | rfl | rfl | rfl
 ·exact⟨K1,s1,M1,E1,X.at rfl,X.at rfl,X.at rfl,X.at rfl,q1.top,q1.rk⟩
 ·exact⟨K2,s2,M2,E2,X.at rfl,X.at rfl,X.at rfl,X.at rfl,q2.top,q2.rk⟩
 ·exact⟨K3,s3,M3,E3,X.at rfl,X.at rfl,X.at rfl,X.at rfl,q3.top,q3.rk⟩
 ·exact⟨K4,s4,M4,E4,X.at rfl,X.at rfl,X.at rfl,X.at rfl,q4.top,q4.rk⟩
theorem AM{a b c d:Int}(ha:a<=19342822337206103650074625):oc [a,b,c,d]=min (min a b) (min c d):=by
 have:=dj
 show min (min (min (min TP a) b) c) d=_
 omega
theorem AT{a b c d:Int}(ha: -19342822337206103650074625<=a):mW [a,b,c,d]=max (max a b) (max c d):=by
 have:=dj
 show max (max (max (max (-TP) a) b) c) d=_
 omega
def m9 (f:Bool->Int->Int->Int)(up:Bool)(a b c d:Int):List Int:=[f up a c,f up a d,f up b c,f up b d]
theorem zH{f:Bool->Int->Int->Int}{a b c d:Int}(h1:f false a c<=19342822337206103650074625)(h2: -19342822337206103650074625<=f true a c):eB (oc (m9 f false a b c d)) (mW (m9 f true a b c d))=yl f a b c d:=by
 unfold m9 yl
 rw[AM h1,AT h2]
def kQ (b:Bool)(w:World):Prop:=b=true->dQ w
theorem kQ.below{b:Bool}{w w':World}(h:kQ b w)(hb:Below w.heap.size w w'):kQ b w':=fun e=>(h e).below hb
abbrev kQ.b:= @kQ.below
def JR (fid:FuncId)(F0:Bool->Int->Int->Int)(b:Bool):Prop:=(∀(args:Array Value) (w:World),(callFunc fid args).run prog w= .ok (.enter fid args) w)/\∀(w:World) (D:Int) (s:Bool) (M E D':Int) (s':Bool) (M' E':Int) (up:Bool) (x y r:Int),kQ b w->M < 18446744073709551616->M' < 18446744073709551616->rk D s M E=x->rk D' s' M' E'=y->F0 up x y=r->Calls prog fid #[.agg #[.int .i64 D,.bool s,.int .u64 M,.int .i64 E],.agg #[.int .i64 D',.bool s',.int .u64 M',.int .i64 E'],.bool up] w (PN w r)
theorem zF{w:World}{fid:FuncId}{F0:Bool->Int->Int->Int}{b up:Bool}{g1 g2 g3:Nat}{K1 M1 E1 K1b M1b E1b K2 M2 E2 K2b M2b E2b:Int}{s1 s1b s2 s2b:Bool}{xa xb ya yb:Int}(hop:JR fid F0 b)(hI:kQ b w)(X1:Bo w g1 #[.func (.func fid) #[] #[]] 136)(X2:Bo w g2 #[.bool false,.int .i64 K1,.bool s1,.int .u64 M1,.int .i64 E1,.int .i64 K1b,.bool s1b,.int .u64 M1b,.int .i64 E1b] 32)(X3:Bo w g3 #[.bool false,.int .i64 K2,.bool s2,.int .u64 M2,.int .i64 E2,.int .i64 K2b,.bool s2b,.int .u64 M2b,.int .i64 E2b] 32)
  (a1:Fq K1 s1 M1 E1 xa) (b1:Fq K1b s1b M1b E1b xb) (a2:Fq K2 s2 M2 E2 ya) (b2:Fq K2b s2b M2b E2b yb):Calls prog 182 #[.bool up,.pointer (some ⟨g1,0,none⟩),.pointer (some ⟨g2,0,none⟩),.pointer (some ⟨g3,0,none⟩)] w (fun e w'=>∃A c,e= .returned (.slice A 4 c)/\Nl w' A 4 c (m9 F0 up xa xb ya yb)/\Below w.heap.size w w'):=by
 obtain⟨J,h1⟩:∃u,F0 up xa ya=u:=⟨_,rfl⟩;obtain⟨L,h2⟩:∃u,F0 up xa yb=u:=⟨_,rfl⟩;obtain⟨M,E⟩:∃u,F0 up xb ya=u:=⟨_,rfl⟩;obtain⟨N,h4⟩:∃u,F0 up xb yb=u:=⟨_,rfl⟩
 have S:Hid (m9 F0 up xa xb ya yb=[J,L,M,N]):=ie (by unfold m9;rw[h1,h2,E,h4])
 have O:=ie h1;have P:=ie h2;have Q:=ie E;have R:=ie h4;have g:=ie hop;have r:=ie (Below.refl w.heap.size w);clear h1 h2 E h4 hop
 go_enter func182,ntmps182
 go_upto_region 1 with (fail)
 refine jk [0,1,2,3,4,5,6,7,8,9,10,11,12,13,14,15,16,17,18,19,20,21,22,23,24,25,26,27,28] [some 6,some 7,some 8,some 9,some 10,some 11,some 12,some 13,some 14,some 15,some 16,some 17,some 18,some 19,some 20,some 21,some 22,some 23,some 24,some 25,some 26,some 27,some 28,some 29,some 30,some 31,some 32,some 33,some 34,some 5] [[],[],[1],[],[3],[],[0,2,4,5],[],[],[8],[],[10],[],[7,9,11,12],[],[],[15],[],[17],[],[14,16,18,19],[],[],[22],[],[24],[],[21,23,25,26],[6,13,20,27],[]] 30 1 [Jo.Fact.eq (.func (.func fid) #[] #[]),Jo.qp g2 1,Jo.q4 K1 s1 M1 E1,Jo.qp g3 1,Jo.q4 K2 s2 M2 E2,Jo.qb up,Jo.Fact.num J,Jo.Fact.eq (.func (.func fid) #[] #[]),Jo.qp g2 1,Jo.q4 K1 s1 M1 E1,Jo.qp g3 5,Jo.q4 K2b s2b M2b E2b,Jo.qb up,Jo.Fact.num L,Jo.Fact.eq (.func (.func fid) #[] #[]),Jo.qp g2 5,Jo.q4 K1b s1b M1b E1b,Jo.qp g3 1,Jo.q4 K2 s2 M2 E2,Jo.qb up,Jo.Fact.num M,Jo.Fact.eq (.func (.func fid) #[] #[]),Jo.qp g2 5,Jo.q4 K1b s1b M1b E1b,Jo.qp g3 5,Jo.q4 K2b s2b M2b E2b,Jo.qb up,Jo.Fact.num N,Jo.Fact.nl 4 [J,L,M,N],Jo.Fact.any] ?_ ?_
 ·refine jm ?_ ?_
  ·rintro i f K d;simp only[Jo.z]at d|-;have h:=(X1.b f).a 0 (.func (.func fid) #[] #[]) rfl;go_simp;exact d.out _ _ rfl (br _ _)
  iterate 5 (refine jm ?_ ?_;rotate_left)
  refine jm ?_ ?_
  ·rintro i f _ rfl _ rfl _ rfl _ rfl K d;simp only[Jo.z]at d|-;go_simp;rw[g.out.1];simp only[Oper.upon];exact Jo.n1 (g.out.2 _ _ _ _ _ _ _ _ _ _ _ _ _ (hI.b f) a1.top a2.top a1.rk a2.rk O.out) d.out
  refine jm ?_ ?_
  ·rintro i f K d;simp only[Jo.z]at d|-;have h:=(X1.b f).a 0 (.func (.func fid) #[] #[]) rfl;go_simp;exact d.out _ _ rfl (br _ _)
  iterate 5 (refine jm ?_ ?_;rotate_left)
  refine jm ?_ ?_
  ·rintro i f _ rfl _ rfl _ rfl _ rfl K d;simp only[Jo.z]at d|-;go_simp;rw[g.out.1];simp only[Oper.upon];exact Jo.n1 (g.out.2 _ _ _ _ _ _ _ _ _ _ _ _ _ (hI.b f) a1.top b2.top a1.rk b2.rk P.out) d.out
  refine jm ?_ ?_
  ·rintro i f K d;simp only[Jo.z]at d|-;have h:=(X1.b f).a 0 (.func (.func fid) #[] #[]) rfl;go_simp;exact d.out _ _ rfl (br _ _)
  iterate 5 (refine jm ?_ ?_;rotate_left)
  refine jm ?_ ?_
  ·rintro i f _ rfl _ rfl _ rfl _ rfl K d;simp only[Jo.z]at d|-;go_simp;rw[g.out.1];simp only[Oper.upon];exact Jo.n1 (g.out.2 _ _ _ _ _ _ _ _ _ _ _ _ _ (hI.b f) b1.top a2.top b1.rk a2.rk Q.out) d.out
  refine jm ?_ ?_
  ·rintro i f K d;simp only[Jo.z]at d|-;have h:=(X1.b f).a 0 (.func (.func fid) #[] #[]) rfl;go_simp;exact d.out _ _ rfl (br _ _)
  iterate 5 (refine jm ?_ ?_;rotate_left)
  refine jm ?_ ?_
  ·rintro i f _ rfl _ rfl _ rfl _ rfl K d;simp only[Jo.z]at d|-;go_simp;rw[g.out.1];simp only[Oper.upon];exact Jo.n1 (g.out.2 _ _ _ _ _ _ _ _ _ _ _ _ _ (hI.b f) b1.top b2.top b1.rk b2.rk R.out) d.out
  refine jm ?_ ?_
  ·rintro i f _ ⟨s,F,y,n,rfl,j⟩ _ ⟨t,G,B,o,rfl,k⟩ _ ⟨v,H,C,p,rfl,l⟩ _ ⟨x,I,D,q,rfl,m⟩ K d;simp only[Jo.z]at d|-;go_simp;exact d.out _ _ ⟨_,4,rfl,Nl.of4 (Bo.new _ _ _) j k l m⟩ (af _ _)
  exact jo
  all_goals (rintro i f;(repeat rintro _ rfl);intro K d;simp only[Jo.z]at d|-;have U:=(X2.b f).cell;have V:=(X3.b f).cell;go_simp;exact d.out _ _ rfl (br _ _))
 rintro W f _ rfl _ _ _ rfl _ _ _ rfl _ rfl _ ⟨s,F,y,n,rfl,j⟩ _ rfl _ _ _ rfl _ _ _ rfl _ rfl _ ⟨t,G,B,o,rfl,k⟩ _ rfl _ _ _ rfl _ _ _ rfl _ rfl _ ⟨v,H,C,p,rfl,l⟩ _ rfl _ _ _ rfl _ _ _ rfl _ rfl _ ⟨x,I,D,q,rfl,m⟩ _ ⟨A9,c9,rfl,T⟩ -;simp only[Jo.z];replace r:=aa r f
 refine jn 29 fun K d=>?_
 go_simp;refine d.out _ _ ?_;clear d K;refine jd ?_;go_wp2
 go_ret
 exact⟨_,_,rfl,S.out▸T,r.out⟩
theorem J0{w:World}{fid:FuncId}{F0:Bool->Int->Int->Int}{b:Bool}{K1 M1 E1 K1b M1b E1b K2 M2 E2 K2b M2b E2b:Int}{s1 s1b s2 s2b:Bool}{xa xb ya yb:Int}{z:Sp}(hop:JR fid F0 b)(hI:kQ b w)(v1:Ci false K1 s1 M1 E1 K1b s1b M1b E1b (some (xa,xb)))(v2:Ci false K2 s2 M2 E2 K2b s2b M2b E2b (some (ya,yb)))(hF:F0 false xa ya<=19342822337206103650074625/\ -19342822337206103650074625<=F0 true xa ya)(hr:yl F0 xa xb ya yb=z):
  Calls prog 116 #[VI false K1 s1 M1 E1 K1b s1b M1b E1b,VI false K2 s2 M2 E2 K2b s2b M2b E2b,.func (.func fid) #[] #[]] w (PV w z):=by
 delta VI
 have W:∀(fn:Fn) (first cap:Array Value) (w:World),(Instr.makeFunc fn first cap).run prog w= .ok (.func fn first cap) w:=fun _ _ _ _=>rfl
 obtain⟨_,a1,M,o1,C,A⟩:=v1;obtain⟨_,a2,N,o2,E,D⟩:=v2;rw[<-zH hF.1 hF.2]at hr;obtain⟨u,x⟩:∃u,oc (m9 F0 false xa xb ya yb)=u:=⟨_,rfl⟩;obtain⟨v,y⟩:∃v,mW (m9 F0 true xa xb ya yb)=v:=⟨_,rfl⟩;rw[x,y]at hr;have Q:=ie x;have R:=ie y;have P:=ie hr;have h:=ie hop;clear x y hr hop hF o1 C A o2 E D
 go_enter func116,ntmps116
 go_upto_region 1 with (fail)
 generalize k:(((w.alloc _).alloc _).alloc _).alloc _=w1 at *;obtain⟨e,f,d,a,c⟩:=Bo.en4 k;replace hI:=hI.below c.out;clear k
 go_wp2_with fail
 refine(zF h.out hI d e f a1 M a2 N).mono ?_;rintro p Z ⟨A1,c1,rfl,I,B⟩;replace e:=e.b B;replace f:=f.b B;replace d:=d.b B;replace a:=a.b B;replace hI:=hI.b B;replace c:=aa c B;clear B
 go_wp2_with fail
 refine(r9 I Q.out).mono ?_;rintro p w3 ⟨S,X,U,JI,rfl,l,B⟩;replace e:=e.b B;replace f:=f.b B;replace d:=d.b B;replace a:=a.b B;replace hI:=hI.b B;replace c:=aa c B;clear B;clear I
 go_wp2_with fail
 refine(zF h.out hI d e f a1 M a2 N).mono ?_;rintro p w4 ⟨A2,c2,rfl,J,B⟩;replace a:=a.b B;replace c:=aa c B;clear B
 go_wp2_with fail
 refine(qD J R.out).mono ?_;rintro p w5 ⟨T,Y,V,O,rfl,m,B⟩;replace a:=a.b B;replace c:=aa c B;clear B;clear J
 go_wp2_with fail
 refine(ia l.top m.top l.rk m.rk P.out).mono ?_;rintro p w6 ⟨t,r,F,s,q,i,n,j,g,rfl,G,B⟩;replace a:=a.b B;replace c:=aa c B;clear B;clear hI;clear d;have H:=a.cell;have o:=a.frozen;go_wp2;clear H o;have L:=ae.t9 a t r F s q i n j g
 exact bq (by simp[results,results116,go_sem,L.box.cell]) rfl ⟨_,_,_,_,_,_,_,_,_,rfl,G,(L.below c.out (by omega))⟩
theorem Ep:JR 117 eC false:=⟨fun _ _=>by first | rfl | kernel_rfl | simp[callFunc,go_sem],fun _ _ _ _ _ _ _ _ _ _ _ _ _ _ hM hM' hx hy hr=>JX hM hM' hx hy hr⟩
theorem IQ{w:World}{e:Bool}{D M E D' M' E':Int}{s s':Bool}{e2:Bool}{G P Q G' P' Q':Int}{g g':Bool}{x y z:Sp}(hM:LQ M)(hM':LQ M')(hP:LQ P)(hP':LQ P')(hx:jL e D s M E D' s' M' E'=x)(hy:jL e2 G g P Q G' g' P' Q'=y)(hr:lc x y=z):Calls prog 45 #[VI e D s M E D' s' M' E',VI e2 G g P Q G' g' P' Q'] w (PV w z):=by
 delta VI
 obtain⟨p,V⟩:∃p,kY [x,y]=p:=⟨_,rfl⟩;have k:=ie V;have H:=ie hx;have I:=ie hy;clear hx hy V
 go_enter func45,ntmps45
 go_upto_region 1 with (fail)
 generalize r:((w.alloc _).alloc _).alloc _=w1 at *;obtain⟨i,j,a,d⟩:=Bo.en3 r;clear r;have l:=i.cell;have m:=j.cell
 go_wp2_with fail
 refine(oG (lh.lit2 rfl ⟨hM,hM',H.out⟩ ⟨hP,hP',I.out⟩) k.out).mono ?_;rintro O w2 ⟨rfl,B⟩;replace B:=bt (af _ (.cells #[.bool e,.int .i64 D,.bool s,.int .u64 M,.int .i64 E,.int .i64 D',.bool s',.int .u64 M',.int .i64 E',.bool e2,.int .i64 G,.bool g,.int .u64 P,.int .i64 Q,.int .i64 G',.bool g',.int .u64 P',.int .i64 Q'] 32)) B;clear l m
 replace i:=i.b B;replace j:=j.b B;replace a:=a.b B;replace d:=aa d B;clear B
 rcases x with _ | ⟨X,Y⟩
 ·obtain rfl:true=p:=k.out
  obtain rfl:none=z:=hr
  clear k
  go_wp2_with fail
  refine(dN).mono ?_;rintro O W ⟨rfl,B⟩;replace i:=i.b B;replace j:=j.b B;replace a:=a.b B;replace d:=aa d B;clear B;have f:=a.cell;have c:=a.frozen;go_wp2;clear f c;have h:=ae.t9 a true 0 false 0 0 0 false 0 0
  exact bq (by simp[results,results45,go_sem,h.box.cell]) rfl ⟨_,_,_,_,_,_,_,_,_,rfl,Ci.none,(h.below d.out (by omega))⟩
 ·rcases y with _ | ⟨Z,yb⟩
  ·obtain rfl:true=p:=k.out
   obtain rfl:none=z:=hr
   clear k
   go_wp2_with fail
   refine(dN).mono ?_;rintro O W ⟨rfl,B⟩;replace i:=i.b B;replace j:=j.b B;replace a:=a.b B;replace d:=aa d B;clear B;have f:=a.cell;have c:=a.frozen;go_wp2;clear f c;have h:=ae.t9 a true 0 false 0 0 0 false 0 0
   exact bq (by simp[results,results45,go_sem,h.box.cell]) rfl ⟨_,_,_,_,_,_,_,_,_,rfl,Ci.none,(h.below d.out (by omega))⟩
  ·obtain rfl:false=p:=k.out
   have T:=lk hM hM' H.out
   have U:=lk hP hP' I.out
   obtain⟨rfl,a1,b1,o1,u,t⟩:=T;obtain⟨rfl,a2,b2,o2,A,v⟩:=U
   have v1:Ci false D s M E D' s' M' E' (some (X,Y)):=⟨rfl,a1,b1,o1,u,t⟩
   have v2:Ci false G g P Q G' g' P' Q' (some (Z,yb)):=⟨rfl,a2,b2,o2,A,v⟩
   clear k H I
   have HR:=ie (show yl eC X Y Z yb=z from hr)
   clear hr o1 u t o2 A v;have l:=i.cell;have m:=j.cell
   go_wp2_with fail
   refine(J0 Ep (fun e=>by cases e) v1 v2 ⟨(eM false).2,(eM true).1⟩ HR.out).mono ?_
   rintro O W ⟨N,J,R,L,F,o,C,q,n,rfl,S,B⟩;clear l m;replace a:=a.b B;replace d:=aa d B;clear B;have f:=a.cell;have c:=a.frozen;go_wp2;clear f c
   have h:=ae.t9 a N J R L F o C q n;exact bq (by simp[results,results45,go_sem,h.box.cell]) rfl ⟨_,_,_,_,_,_,_,_,_,rfl,S,(h.below d.out (by omega))⟩
