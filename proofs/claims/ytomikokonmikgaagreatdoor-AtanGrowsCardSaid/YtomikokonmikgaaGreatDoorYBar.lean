/-
 Contracts that the proof rests on.
-/
import Derived.Test.YtomikokonmikgaaGreatDoorYBaq
namespace Go.Proofs.YtomikokonmikgaaGreatDoor
open Go Go.RowKit
set_option linter.unusedVariables false
theorem eps_m:(1000000:Rat)<=1/9223372036854775808*SR/\(0:Rat)<=1/9223372036854775808/\(1/9223372036854775808:Rat)<=1/1000/\(1000000:Rat)<=SR:=by decide +kernel
theorem part_V{v:Int}{Z:Sp}(h:PartS v Z)(h0:0<=v)(h1:v<=SC):∃r u,Z=some (r,u)/\r<=u/\ -opl 2<=r/\u<=opl 2/\pAng v*SR-1500<=V r*SR+1/9223372036854775808*SR/\V u*SR<=pAng v*SR+1500+1/9223372036854775808*SR:=by
 obtain⟨f,_,_⟩:=h.is h0 h1;obtain⟨r,u,hr,hu,hz⟩:=h;obtain⟨f1,f2⟩:=ang_far h0 h1;obtain⟨w1,w2⟩:=ang_within h0 h1;obtain⟨b1,b2⟩:=ang_bd13 h0 h1;have sp:=sr_pos;have n1:=Rat.mul_le_mul_of_nonneg_right b1 (Rat.le_of_lt sp);have n2:=Rat.mul_le_mul_of_nonneg_right b2 (Rat.le_of_lt sp)
 rw[Rat.intCast_add,show ((214:Int):Rat)=214 from rfl]at w1
 rw[Rat.intCast_sub,show ((214:Int):Rat)=214 from rfl]at w2
 obtain⟨e1,e2,e3,e4⟩:=eps_m
 have lo: -(2*SC)+1<=pL v:=Rat.intCast_le_intCast.1 (by
  rw[Rat.intCast_add,Rat.intCast_neg,Rat.intCast_mul,show ((2:Int):Rat)=2 from rfl,show ((1:Int):Rat)=1 from rfl]
  grind)
 have hi:pH v<=2*SC-1:=Rat.intCast_le_intCast.1 (by
  rw[Rat.intCast_sub,Rat.intCast_mul,show ((2:Int):Rat)=2 from rfl,show ((1:Int):Rat)=1 from rfl]
  grind)
 have le:pL v<=pH v:=Rat.intCast_le_intCast.1 (by grind)
 have R:=rq_two hr (by omega) (by omega);have U:=rq_two hu (by omega) (by omega);obtain⟨e,_⟩:=from_to hr hu hz le (by omega) (by omega);have vd:=V_dn hr (by omega) (by omega);have vu:=V_up hu (by omega) (by omega);refine⟨r,u,e,rq_pair hr hu le,R.1,U.2,?_,?_⟩
 ·exact Rat.le_trans f1 vd
 ·generalize (1/9223372036854775808:Rat)*SR=x at *
  grind
theorem half_V{Z:Sp}(h:HalfS Z):∃r u,Z=some (r,u)/\r<=u/\ -opl 2<=r/\u<=opl 2/\qt*SR-1500<=V r*SR+1/9223372036854775808*SR/\V u*SR<=qt*SR+1500+1/9223372036854775808*SR:=by
 obtain⟨r,u,hr,hu,hz⟩:=h;have R:=rq_two hr (by decide) (by decide);have U:=rq_two hu (by decide) (by decide);obtain⟨e,_⟩:=from_to hr hu hz (by decide) (by decide) (by decide);have vd:=V_dn hr (by decide) (by decide);have vu:=V_up hu (by decide) (by decide)
 have k:qt*SR-1500<=((PLo/2:Int):Rat)/\((PHi/2+1:Int):Rat)<=qt*SR+1500:=by decide +kernel
 refine⟨r,u,e,rq_pair hr hu (by decide),R.1,U.2,?_,?_⟩
 ·exact Rat.le_trans k.1 vd
 ·generalize (1/9223372036854775808:Rat)*SR=x at *
  grind
theorem wid_neg{Y:Sp}(h:SpOk Y):widI (negI Y)=widI Y:=by
 rcases Y with _ | ⟨a,b⟩
 ·rfl
 ·rw[negI_some h]
  show addp true (-a) (- -b)=addp true b (-a)
  rw[Int.neg_neg];exact addp_comm true
theorem AtP.tight{q:Bool->Int->Int->Int}(hq:QF q){n:Int}{Z:Sp}(h:AtP q n Z)(h0:0<=n)(h1:n<=19342822337206103650074625):∃a b,Z=some (a,b)/\a<=b/\ -opl 2-1<=a/\b<=opl 2+1/\widI Z<=p60:=by
 obtain⟨q1,q2⟩:=qt_bd;have sp:=sr_pos;obtain⟨e1,e2,e3,e4⟩:=eps_m
 rcases h with⟨_,h⟩ | ⟨_,c,h⟩ | ⟨e,c,H,l,k,hH,hl,hk,hz⟩
 ·obtain⟨r,u,rfl,ru,r2,u2,a,b⟩:=half_V h;refine⟨r,u,rfl,ru,by omega,by omega,wid_of (by omega) (by omega) ru (Rat.le_of_mul_le_mul_right (c:=SR) ?_ sp)⟩
  have e8:(8/9223372036854775808:Rat)=8*(1/9223372036854775808):=by decide +kernel
  rw[e8];generalize (1/9223372036854775808:Rat)=e at *
  grind
 ·obtain⟨_,a0,a1⟩:=fix_unit h0 c;obtain⟨r,u,rfl,ru,r2,u2,a,b⟩:=part_V h a0 a1;refine⟨r,u,rfl,ru,by omega,by omega,wid_of (by omega) (by omega) ru (Rat.le_of_mul_le_mul_right (c:=SR) ?_ sp)⟩
  have e8:(8/9223372036854775808:Rat)=8*(1/9223372036854775808):=by decide +kernel
  rw[e8];generalize (1/9223372036854775808:Rat)=e at *
  grind
 ·obtain⟨b1,b2,b3⟩:=inv_bd hq c (by omega);obtain⟨f1,a1,a2⟩:=fix_unit b1 (by omega)
  obtain⟨f2,a3,a4⟩:=fix_unit (show 0<=q true (opl 1) n by omega) b3
  have vv:=fix_up f1 f2 b2;obtain⟨rh,uh,rfl,h2,h3,h4,h5,h6⟩:=half_V hH;obtain⟨r1,u1,rfl,l2,l3,l4,l5,l6⟩:=part_V hl a1 a2;obtain⟨r2,u2,rfl,k2,k3,k4,k5,k6⟩:=part_V hk a3 a4;have m:=ang_mono a1 vv a4;obtain⟨w1,w2⟩:=ang_bd13 a1 a2;obtain⟨w3,w4⟩:=ang_bd13 a3 a4;have mo:=ang_mono a3 a4 (Int.le_refl SC);rw[ang_one]at mo;obtain⟨o1,o2⟩:=two_bd
  -- both quotients are neighbours
  have nb:q true (opl 1) n=q false (opl 1) n\/q true (opl 1) n=q false (opl 1) n+1:=by
   obtain⟨ob1,ob2⟩:=one_bd
   have n0:0 < n:=by omega
   have s1:=qt_sid (hq false (opl 1) n) n0 (infp_fin (by omega) ob2) (infp_fin (by omega) (by omega));have s2:=qt_sid (hq true (opl 1) n) n0 (infp_fin (by omega) ob2) (infp_fin (by omega) (by omega))
   rcases sid_two (vr_pos n0) s1 s2 with⟨x,_⟩ | ⟨x,_⟩
   ·exact .inl x
   ·exact .inr x
  have o12:opl 1 < opl 2:=by decide
  have vq:V (q true (opl 1) n)<=V (q false (opl 1) n)+1/9223372036854775808:=by
   rcases nb with x | x
   ·rw[x];generalize (1/9223372036854775808:Rat)=e at *
    grind
   ·have g:=V_gap (p:=q false (opl 1) n) (by omega) (by omega);rw[<-x]at g;exact g
  -- so their fixed numbers are close by
  have z1:=zp_in f1;have z2:=zp_in f2
  have zv:∀p,zp p=V p*SR:=fun p=>by
   unfold zp V
   have hp:=Rat.ne_of_gt br_pos;have x1:=Rat.div_mul_cancel (a:=((vr p:Int):Rat)*SR) hp;have x2:=Rat.div_mul_cancel (a:=((vr p:Int):Rat)) hp;refine Rat.le_antisymm (Rat.le_of_mul_le_mul_right (c:=BR) ?_ br_pos) (Rat.le_of_mul_le_mul_right (c:=BR) ?_ br_pos) <;> grind
  rw[zv,Rat.intCast_add,show ((1:Int):Rat)=1 from rfl]at z1 z2
  have vqs:=Rat.mul_le_mul_of_nonneg_right vq (Rat.le_of_lt sp);generalize hv1:fixI (q false (opl 1) n)=v1 at *;generalize hv2:fixI (q true (opl 1) n)=v2 at *
  have dv:((v2-v1:Int):Rat)<=1/9223372036854775808*SR+1:=by
   rw[Rat.intCast_sub];generalize (1/9223372036854775808:Rat)=e at *
   grind
  have near:(v2-v1)*1099511627776<=SC:=Rat.intCast_le_intCast.1 (by
   rw[Rat.intCast_mul,show ((1099511627776:Int):Rat)=1099511627776 from rfl]
   have x:(1/9223372036854775808*SR+1)*1099511627776<=SR:=by decide +kernel
   have y:=Rat.mul_le_mul_of_nonneg_right dv (show (0:Rat)<=1099511627776 by decide +kernel)
   exact Rat.le_trans y x)
  have lip:=ang_lip a1 vv a4 near
  -- the hull
  have okl:SpOk (some (r1,u1)):=⟨by omega,l2,by omega,by omega,by omega⟩
  have okh:SpOk (some (r2,u2)):=⟨by omega,k2,by omega,by omega,by omega⟩
  rw[hullI_some okl okh]at hz
  have hul:V (max u1 u2)*SR<=pAng v2*SR+1650+1/9223372036854775808*SR:=by
   rcases (by omega:max u1 u2=u1\/max u1 u2=u2)with x | x <;> rw[x]
   ·generalize (1/9223372036854775808:Rat)*SR=y at *
    grind
   ·generalize (1/9223372036854775808:Rat)*SR=y at *
    grind
  have hll:pAng v1*SR-1650<=V (min r1 r2)*SR+1/9223372036854775808*SR:=by
   rcases (by omega:min r1 r2=r1\/min r1 r2=r2)with x | x <;> rw[x]
   ·generalize (1/9223372036854775808:Rat)*SR=y at *
    grind
   ·generalize (1/9223372036854775808:Rat)*SR=y at *
    grind
  have rb: -opl 2<=min r1 r2:=by omega
  have ub:max u1 u2<=opl 2:=by omega
  have ru:min r1 r2<=max u1 u2:=by omega
  generalize min r1 r2=ru1 at *;generalize max u1 u2=uu1 at *
  have okU:SpOk (some (ru1,uu1)):=⟨by omega,ru,by omega,by omega,by omega⟩
  have sd:=(addp_spec (x:=rh) (y:= -uu1) true (by omega) (by omega) (by omega) (by omega)).1;have su:=(addp_spec (x:=uh) (y:= -ru1) true (by omega) (by omega) (by omega) (by omega)).2;have n1:=Rat.mul_le_mul_of_nonneg_right w1 (Rat.le_of_lt sp);have n4:=Rat.mul_le_mul_of_nonneg_right w4 (Rat.le_of_lt sp);have n5:=Rat.mul_le_mul_of_nonneg_right q1 (Rat.le_of_lt sp);have n6:=Rat.mul_le_mul_of_nonneg_right q2 (Rat.le_of_lt sp)
  have x3:=Rat.mul_le_mul_of_nonneg_right e3 (Rat.le_of_lt sp)
  have dlo:=V_add_dn sd (by
   rw[V_neg];refine Rat.le_of_mul_le_mul_right (c:=SR) ?_ sp;generalize (1/9223372036854775808:Rat)*SR=y at *
   grind) (by
   rw[V_neg];refine Rat.lt_of_mul_lt_mul_right (c:=SR) ?_ (Rat.le_of_lt sp);have hv:=Rat.mul_le_mul_of_nonneg_right (V_le h2) (Rat.le_of_lt sp);have uv:=Rat.mul_le_mul_of_nonneg_right (V_le ru) (Rat.le_of_lt sp);generalize (1/9223372036854775808:Rat)*SR=y at *
   grind)
  have dup:=V_add_up su (by
   rw[V_neg];refine Rat.lt_of_mul_lt_mul_right (c:=SR) ?_ (Rat.le_of_lt sp);have hv:=Rat.mul_le_mul_of_nonneg_right (V_le h2) (Rat.le_of_lt sp);have uv:=Rat.mul_le_mul_of_nonneg_right (V_le ru) (Rat.le_of_lt sp);generalize (1/9223372036854775808:Rat)*SR=y at *
   grind) (by
   rw[V_neg];refine Rat.le_of_mul_le_mul_right (c:=SR) ?_ sp;generalize (1/9223372036854775808:Rat)*SR=y at *
   grind)
  rw[V_neg]at dlo dup;have s3:=addp_spec (x:=uh) (y:= -ru1) true (by omega) (by omega) (by omega) (by omega)
  have ab:addp false rh (-uu1)<=addp true uh (-ru1):=by
   refine Int.le_trans (sd.mono s3.1 ?_) (dn_le_up s3.1 s3.2);have x1:=vr_le h2;have x2:=vr_le ru;rw[vr_neg,vr_neg]
   omega
  have eqZ:subI (some (rh,uh)) (some (ru1,uu1))=some (addp false rh (-uu1),addp true uh (-ru1)):=by
   show addI (some (rh,uh)) (negI (some (ru1,uu1)))=_
   rw[negI_some okU];exact mkI_some ab (by have:=sd.2.1;omega) (by have:=su.2.1;omega)
  rw[hz,eqZ];generalize addp false rh (-uu1)=a at *;generalize addp true uh (-ru1)=b at *
  have v0:V 0=0:=by
   have x:=V_neg 0
   rw[show (-0:Int)=0 from rfl]at x
   grind
  have va:V 0 < V a:=by
   rw[v0];refine Rat.lt_of_mul_lt_mul_right (c:=SR) ?_ (Rat.le_of_lt sp);have y2:=Rat.mul_le_mul_of_nonneg_right dlo (Rat.le_of_lt sp);clear dlo dup su sd s3 hz eqZ;generalize hy:(1/9223372036854775808:Rat)=e at *;obtain⟨y,hy2⟩:∃y,y=e*SR:=⟨_,rfl⟩
   grind
  have vb:V b < V (opl 2):=by
   rw[V_two];refine Rat.lt_of_mul_lt_mul_right (c:=SR) ?_ (Rat.le_of_lt sp);have y2:=Rat.mul_le_mul_of_nonneg_right dup (Rat.le_of_lt sp);clear dlo dup su sd s3 hz eqZ;generalize (1/9223372036854775808:Rat)=e at *
   grind
  have a0:=V_lt va;have b0:=V_lt vb;refine⟨a,b,rfl,ab,by omega,by omega,wid_of (by omega) (by omega) ab (Rat.le_of_mul_le_mul_right (c:=SR) ?_ sp)⟩
  have y1:=Rat.mul_le_mul_of_nonneg_right dlo (Rat.le_of_lt sp);have y2:=Rat.mul_le_mul_of_nonneg_right dup (Rat.le_of_lt sp)
  have e8:(8/9223372036854775808:Rat)=8*(1/9223372036854775808):=by decide +kernel
  rw[e8];clear dlo dup su sd s3 hz eqZ va vb;generalize (1/9223372036854775808:Rat)=e at *
  grind
theorem AtV.tight{q:Bool->Int->Int->Int}(hq:QF q){n:Int}{Z:Sp}(h:AtV q n Z)(h0: -19342822337206103650074625<=n)(h1:n<=19342822337206103650074625):∃a b,Z=some (a,b)/\a<=b/\ -opl 2-1<=a/\b<=opl 2+1/\widI Z<=p60:=by
 rcases h with⟨c,Y,hY,rfl⟩ | ⟨c,h⟩
 ·obtain⟨a,b,rfl,ab,b1,b2,w⟩:=hY.tight hq (by omega) (by omega);have ok:=(hY.ok hq (by omega) (by omega)).1;rw[wid_neg ok,negI_some ok];exact⟨-b,-a,rfl,by omega,by omega,by omega,w⟩
 ·exact h.tight hq (by omega) h1
theorem AtP.ends{q:Bool->Int->Int->Int}(hq:QF q){n:Int}{a b:Int}(h:AtP q n (some (a,b)))(h0:0<=n)(h1:n<=19342822337206103650074625): -(4*(1/9223372036854775808))<=V a/\V b<=qt+4*(1/9223372036854775808):=by
 obtain⟨q1,q2⟩:=qt_bd;have sp:=sr_pos;obtain⟨e1,e2,e3,e4⟩:=eps_m;obtain⟨a',b',eZ,_,_,_,_⟩:=h.tight hq h0 h1
 injection eZ with eZ
 injection eZ with g1 g2
 subst g1;subst g2;have n5:=Rat.mul_le_mul_of_nonneg_right q1 (Rat.le_of_lt sp);have n6:=Rat.mul_le_mul_of_nonneg_right q2 (Rat.le_of_lt sp);have x3:=Rat.mul_le_mul_of_nonneg_right e3 (Rat.le_of_lt sp)
 rcases h with⟨_,h⟩ | ⟨_,c,h⟩ | ⟨e,c,H,l,k,hH,hl,hk,hz⟩
 ·obtain⟨r,u,er,ru,r2,u2,a1,b1⟩:=half_V h
  injection er with er
  injection er with g1 g2
  subst g1;subst g2
  constructor <;> refine Rat.le_of_mul_le_mul_right (c:=SR) ?_ sp
  ·generalize (1/9223372036854775808:Rat)=e at *
   grind
  ·generalize (1/9223372036854775808:Rat)=e at *
   grind
 ·obtain⟨_,c0,c1⟩:=fix_unit h0 c;obtain⟨r,u,er,ru,r2,u2,a1,b1⟩:=part_V h c0 c1;obtain⟨w1,w2⟩:=ang_bd13 c0 c1;have n1:=Rat.mul_le_mul_of_nonneg_right w1 (Rat.le_of_lt sp);have m:=Rat.mul_le_mul_of_nonneg_right w2 (Rat.le_of_lt sp)
  injection er with er
  injection er with g1 g2
  subst g1;subst g2
  constructor <;> refine Rat.le_of_mul_le_mul_right (c:=SR) ?_ sp
  ·generalize (1/9223372036854775808:Rat)=e at *
   grind
  ·generalize (1/9223372036854775808:Rat)=e at *
   grind
 ·obtain⟨b1,b2,b3⟩:=inv_bd hq c (by omega);obtain⟨f1,a1,a2⟩:=fix_unit b1 (by omega)
  obtain⟨f2,a3,a4⟩:=fix_unit (show 0<=q true (opl 1) n by omega) b3
  obtain⟨rh,uh,rfl,h2,h3,h4,h5,h6⟩:=half_V hH;obtain⟨r1,u1,rfl,l2,l3,l4,l5,l6⟩:=part_V hl a1 a2;obtain⟨r2,u2,rfl,k2,k3,k4,k5,k6⟩:=part_V hk a3 a4;obtain⟨w1,w2⟩:=ang_bd13 a1 a2;obtain⟨w3,w4⟩:=ang_bd13 a3 a4;have n1:=Rat.mul_le_mul_of_nonneg_right w1 (Rat.le_of_lt sp);have n2:=Rat.mul_le_mul_of_nonneg_right w2 (Rat.le_of_lt sp);have n3:=Rat.mul_le_mul_of_nonneg_right w3 (Rat.le_of_lt sp)
  have n4:=Rat.mul_le_mul_of_nonneg_right w4 (Rat.le_of_lt sp);obtain⟨o1,o2⟩:=two_bd
  have okl:SpOk (some (r1,u1)):=⟨by omega,l2,by omega,by omega,by omega⟩
  have okh:SpOk (some (r2,u2)):=⟨by omega,k2,by omega,by omega,by omega⟩
  rw[hullI_some okl okh]at hz
  have hul:V (max u1 u2)*SR<=3/2*SR+1500+1/9223372036854775808*SR:=by
   rcases (by omega:max u1 u2=u1\/max u1 u2=u2)with x | x <;> rw[x]
   ·generalize (1/9223372036854775808:Rat)*SR=y at *
    grind
   ·generalize (1/9223372036854775808:Rat)*SR=y at *
    grind
  have hll: -1500<=V (min r1 r2)*SR+1/9223372036854775808*SR:=by
   rcases (by omega:min r1 r2=r1\/min r1 r2=r2)with x | x <;> rw[x]
   ·generalize (1/9223372036854775808:Rat)*SR=y at *
    grind
   ·generalize (1/9223372036854775808:Rat)*SR=y at *
    grind
  have rb: -opl 2<=min r1 r2:=by omega
  have ub:max u1 u2<=opl 2:=by omega
  have ru:min r1 r2<=max u1 u2:=by omega
  generalize min r1 r2=ru1 at *;generalize max u1 u2=uu1 at *
  have okU:SpOk (some (ru1,uu1)):=⟨by omega,ru,by omega,by omega,by omega⟩
  have eqZ:subI (some (rh,uh)) (some (ru1,uu1))=mkI (addp false rh (-uu1)) (addp true uh (-ru1)):=by
   show addI (some (rh,uh)) (negI (some (ru1,uu1)))=_
   rw[negI_some okU]
   rfl
  rw[eqZ]at hz
  unfold mkI at hz
  split at hz
  ·injection hz with hz
   injection hz with g1 g2
   have sd:=(addp_spec (x:=rh) (y:= -uu1) true (by omega) (by omega) (by omega) (by omega)).1;have su:=(addp_spec (x:=uh) (y:= -ru1) true (by omega) (by omega) (by omega) (by omega)).2;rw[<-g1]at sd;rw[<-g2]at su;have hv:=Rat.mul_le_mul_of_nonneg_right (V_le h2) (Rat.le_of_lt sp);have uv:=Rat.mul_le_mul_of_nonneg_right (V_le ru) (Rat.le_of_lt sp)
   have dlo:=V_add_dn sd (by
    rw[V_neg];refine Rat.le_of_mul_le_mul_right (c:=SR) ?_ sp;generalize (1/9223372036854775808:Rat)*SR=y at *
    grind) (by
    rw[V_neg];refine Rat.lt_of_mul_lt_mul_right (c:=SR) ?_ (Rat.le_of_lt sp);generalize (1/9223372036854775808:Rat)*SR=y at *
    grind)
   have dup:=V_add_up su (by
    rw[V_neg];refine Rat.lt_of_mul_lt_mul_right (c:=SR) ?_ (Rat.le_of_lt sp);generalize (1/9223372036854775808:Rat)*SR=y at *
    grind) (by
    rw[V_neg];refine Rat.le_of_mul_le_mul_right (c:=SR) ?_ sp;generalize (1/9223372036854775808:Rat)*SR=y at *
    grind)
   rw[V_neg]at dlo dup;have y1:=Rat.mul_le_mul_of_nonneg_right dlo (Rat.le_of_lt sp);have y2:=Rat.mul_le_mul_of_nonneg_right dup (Rat.le_of_lt sp);clear dlo dup su sd eqZ
   constructor <;> refine Rat.le_of_mul_le_mul_right (c:=SR) ?_ sp
   ·generalize (1/9223372036854775808:Rat)=e at *
    grind
   ·generalize (1/9223372036854775808:Rat)=e at *
    grind
  ·cases hz
theorem AtV.ends{q:Bool->Int->Int->Int}(hq:QF q){n:Int}{a b:Int}(h:AtV q n (some (a,b)))(h0: -19342822337206103650074625<=n)(h1:n<=19342822337206103650074625): -(qt+4*(1/9223372036854775808))<=V a/\V b<=qt+4*(1/9223372036854775808):=by
 obtain⟨q1,q2⟩:=qt_bd;have e2:=eps_m.2.1
 rcases h with⟨c,Y,hY,eY⟩ | ⟨c,h⟩
 ·obtain⟨p,r,rfl,pr,_,_,_⟩:=hY.tight hq (by omega) (by omega);have ok:=(hY.ok hq (by omega) (by omega)).1;rw[negI_some ok]at eY
  injection eY with eY
  injection eY with g1 g2
  obtain⟨x1,x2⟩:=hY.ends hq (by omega) (by omega);rw[g1,g2,V_neg,V_neg];generalize (1/9223372036854775808:Rat)=e at *
  constructor <;> grind
 ·obtain⟨x1,x2⟩:=h.ends hq (by omega) h1;generalize (1/9223372036854775808:Rat)=e at *
  constructor <;> grind
theorem V_p60:V p60=8*(1/9223372036854775808):=by
 have a:=V_at p60;have b:=p60_R
 have e:(8*(1/9223372036854775808):Rat)*2^60=1:=by decide +kernel
 have p:(0:Rat) < 2^60:=by decide +kernel
 have bp:=br_pos;generalize ((vr p60:Int):Rat)=W at *;generalize (8*(1/9223372036854775808):Rat)=x at *
 have k:V p60*BR*2^60=x*BR*2^60:=by
  rw[a,b]
  grind
 refine Rat.le_antisymm (Rat.le_of_mul_le_mul_right (c:=BR) (Rat.le_of_mul_le_mul_right (c:=2^60) ?_ p) bp) (Rat.le_of_mul_le_mul_right (c:=BR) (Rat.le_of_mul_le_mul_right (c:=2^60) ?_ p) bp)
 ·rw[k];exact Rat.le_refl
 ·rw[k];exact Rat.le_refl
theorem V_pi:2*qt<=V (PIL+1):=by
 have bp:=br_pos;obtain⟨_,h2⟩:=half_turn;have k:=(rq_hi (v:=2*qt) pi_hi h2).resolve_left (by decide);rw[<-V_at]at k;exact Rat.le_of_mul_le_mul_right (c:=BR) k bp
theorem vr_of_V{x y z:Int}(h:V x+V x<=V y+V z):vr x+vr x<=vr y+vr z:=by
 have m:=Rat.mul_le_mul_of_nonneg_right h (Rat.le_of_lt br_pos);refine Rat.intCast_le_intCast.1 ?_;rw[Rat.intCast_add,Rat.intCast_add,<-V_at,<-V_at,<-V_at]
 grind
theorem at_room{q:Bool->Int->Int->Int}(hq:QF q){n:Int}{Z:Sp}(h:AtV q n Z)(h0: -19342822337206103650074625<=n)(h1:n<=19342822337206103650074625):witI (addI Z Z) (infI (some (-(PIL+1),PIL+1)) p60)=true:=by
 obtain⟨a,b,rfl,ab,b1,b2,_⟩:=h.tight hq h0 h1;obtain⟨x1,x2⟩:=h.ends hq h0 h1;obtain⟨o1,o2⟩:=two_bd;have e2:=opl_two_eq;obtain⟨p1,p2⟩:=p60_bd;have vp:=V_pi;have v6:=V_p60
 have pb:0 < PIL+1/\PIL+1 < 19342822337206103650074625:=by decide
 generalize PIL+1=P at *
 have hi:vr b+vr b<=vr P+vr p60:=vr_of_V (by
  rw[v6];generalize (1/9223372036854775808:Rat)=e at *
  grind)
 have lo:vr (-a)+vr (-a)<=vr P+vr p60:=vr_of_V (by
  rw[v6,V_neg];generalize (1/9223372036854775808:Rat)=e at *
  grind)
 rw[vr_neg]at lo;have sa:=(addp_spec (x:=a) (y:=a) true (by omega) (by omega) (by omega) (by omega));have sb:=(addp_spec (x:=b) (y:=b) true (by omega) (by omega) (by omega) (by omega));have ta:=(addp_spec (x:= -P) (y:= -p60) true (by omega) (by omega) (by omega) (by omega));have tb:=(addp_spec (x:=P) (y:=p60) true (by omega) (by omega) (by omega) (by omega));have va:=vr_le ab
 have k1:addp false (-P) (-p60)<=addp false a a:=ta.1.mono sa.1 (by rw[vr_neg,vr_neg];omega)
 have k2:addp true b b<=addp true P p60:=sb.2.mono tb.2 (by omega)
 have k3:addp false a a<=addp true b b:=Int.le_trans (sa.1.mono sb.1 (by omega)) (dn_le_up sb.1 sb.2)
 have m1:addp false a a < 19342822337206103650074625:=by have:=sa.1.2.1;omega
 have m2: -19342822337206103650074625 < addp true b b:=by have:=sb.2.2.1;omega
 have eA:addI (some (a,b)) (some (a,b))=some (addp false a a,addp true b b):=mkI_some k3 m1 m2
 have eI:infI (some (-P,P)) p60=some (addp false (-P) (-p60),addp true P p60):=by
  show (if p60 < 0 then some (-P,P)else mkI (addp false (-P) (-p60)) (addp true P p60))=_
  rw[if_neg (by omega)];exact mkI_some (by omega) (by omega) (by omega)
 rw[eA,eI]
 show (decide (addp false (-P) (-p60)<=addp false a a) && decide (addp true b b<=addp true P p60))=true
 rw[dt k1,dt k2]
 rfl
theorem HalfS.one{Z Y:Sp}(h:HalfS Z)(k:HalfS Y):Z=Y:=by
 obtain⟨r,u,hr,hu,rfl⟩:=h;obtain⟨r',u',hr',hu',rfl⟩:=k;rw[hr.uniq hr',hu.uniq hu']
theorem PartS.one{v:Int}{Z Y:Sp}(h:PartS v Z)(k:PartS v Y):Z=Y:=by
 obtain⟨r,u,hr,hu,rfl⟩:=h;obtain⟨r',u',hr',hu',rfl⟩:=k;rw[hr.uniq hr',hu.uniq hu']
theorem AtP.one{q:Bool->Int->Int->Int}{n:Int}{Z Y:Sp}(h:AtP q n Z)(k:AtP q n Y):Z=Y:=by
 rcases h with⟨a,h⟩ | ⟨a,b,h⟩ | ⟨a,b,H,l,u,h1,h2,h3,rfl⟩
 ·rcases k with⟨_,k⟩ | ⟨c,_⟩ | ⟨c,_⟩
  ·exact h.one k
  ·exact absurd a c
  ·exact absurd a c
 ·rcases k with⟨c,_⟩ | ⟨_,_,k⟩ | ⟨_,c,_⟩
  ·exact absurd c a
  ·exact h.one k
  ·exact absurd b c
 ·rcases k with⟨c,_⟩ | ⟨_,c,_⟩ | ⟨_,_,H',l',u',k1,k2,k3,rfl⟩
  ·exact absurd c a
  ·exact absurd c b
  ·rw[h1.one k1,h2.one k2,h3.one k3]
theorem AtV.one{q:Bool->Int->Int->Int}{n:Int}{Z Y:Sp}(h:AtV q n Z)(k:AtV q n Y):Z=Y:=by
 rcases h with⟨a,Z',h,rfl⟩ | ⟨a,h⟩
 ·rcases k with⟨_,Y',k,rfl⟩ | ⟨c,_⟩
  ·rw[h.one k]
  ·exact absurd a c
 ·rcases k with⟨c,_⟩ | ⟨_,k⟩
  ·exact absurd c a
  ·exact h.one k
theorem vr_ne{x:Int}(h:x≠0):vr x≠0:=by
 rcases Int.lt_or_gt_of_ne h with c | c
 ·have:=vr_pos (show 0 < -x by omega)
  rw[vr_neg]at this
  omega
 ·have:=vr_pos c
  omega
def FinP (x:Int):Prop:= -19342822337206103650074625 < x/\x < 19342822337206103650074625
theorem q_sid{q:Bool->Int->Int->Int}(hq:QF q)(up:Bool){y x:Int}(fy:FinP y)(fx:FinP x)(hx:x≠0):∃a b:Int,0 < b/\Sid up (a*2^KK) b (q up y x)/\a*vr x=vr y*b:=by
 obtain⟨y1,y2⟩:=fy;obtain⟨x1,x2⟩:=fx
 rcases Int.lt_or_gt_of_ne hx with c | c
 ·have p:0 < -x:=by omega
  refine⟨vr (-y),vr (-x),vr_pos p,qt_sid (qt_flip hx (hq up y x)) p (infp_fin (by omega) (by omega)) (infp_fin (by omega) (by omega)),?_⟩;rw[vr_neg,vr_neg]
  grind
 ·exact⟨vr y,vr x,vr_pos c,qt_sid (hq up y x) c (infp_fin y1 y2) (infp_fin x1 x2),by grind⟩
theorem q_same{q:Bool->Int->Int->Int}(hq:QF q)(up:Bool){y x y' x':Int}(fy:FinP y)(fx:FinP x)(hx:x≠0)(fy':FinP y')(fx':FinP x')(hx':x'≠0)(e:vr y*vr x'=vr y'*vr x):q up y x=q up y' x':=by
 obtain⟨a,b,b0,s,h⟩:=q_sid hq up fy fx hx;obtain⟨c,d,d0,t,k⟩:=q_sid hq up fy' fx' hx';have nx:=vr_ne hx
 have nx':=vr_ne hx'
 refine Sid.uniq d0 (s.cross b0 d0 ?_) t
 have key:a*d*(vr x*vr x')=c*b*(vr x*vr x'):=by
  generalize vr x=X at *;generalize vr x'=X' at *;generalize vr y=Y at *;generalize vr y'=Y' at *
  have h1:a*d*(X*X')=(a*X)*d*X':=by grind
  have h2:c*b*(X*X')=(c*X')*b*X:=by grind
  rw[h1,h2,h,k]
  have h3:Y*b*d*X'=(Y*X')*(b*d):=by grind
  have h4:Y'*d*b*X=(Y'*X)*(b*d):=by grind
  rw[h3,h4,e]
 have:=Int.eq_of_mul_eq_mul_right (Int.mul_ne_zero nx nx') key
 generalize (2:Int)^KK=P at *
 grind
def PiS:Sp:=some (PIL,PIL+1)
theorem PiS.fin:FinI PiS:=⟨by decide,by decide,by decide⟩
theorem PiS.holds:LoR (2*qt) PiS/\HiR (2*qt) PiS:=by
 obtain⟨h1,h2⟩:=half_turn;exact⟨rq_lo pi_lo h1,rq_hi pi_hi h2⟩
def AngV (q:Bool->Int->Int->Int)(y x:Int)(Z:Sp):Prop:=
 (x=0/\∃H,HalfS H/\Z=if y < 0 then negI H else H)\/
 (x≠0/\∃P Q,AtV q (q false y x) P/\AtV q (q true y x) Q/\Z=if 0 < x then hullI P Q else if y < 0 then subI (hullI P Q) PiS else addI PiS (hullI P Q))
def In4 (k:Int)(Z:Sp):Prop:=∃a b,Z=some (a,b)/\ -k<=a/\a<=b/\b<=k
theorem In4.fin{k:Int}{Z:Sp}(h:In4 k Z)(hk:k < 19342822337206103650074625):FinI Z:=by
 obtain⟨a,b,rfl,h1,h2,h3⟩:=h;exact⟨h2,by omega,by omega⟩
theorem four_bd:0 < opl 4/\opl 4 < opl 8/\opl 8 < 19342822337206103650074625/\opl 2+1<=opl 4/\PIL+1<=opl 4/\ -opl 4<=PIL:=by decide
theorem In4.add{Z Y:Sp}(h:In4 (opl 4) Z)(k:In4 (opl 4) Y):In4 (opl 8) (addI Z Y):=by
 obtain⟨f1,f2,f3,_⟩:=four_bd;obtain⟨a,b,rfl,h1,h2,h3⟩:=h;obtain⟨c,d,rfl,k1,k2,k3⟩:=k;have s:=addp_spec (x:=a) (y:=c) true (by omega) (by omega) (by omega) (by omega);have t:=addp_spec (x:=b) (y:=d) true (by omega) (by omega) (by omega) (by omega)
 have v4:vr (opl 4)=4*2^KK:=opl_vr (by decide) (by decide)
 have v8:vr (opl 8)=8*2^KK:=opl_vr (by decide) (by decide)
 have a1:=vr_le h1;have a2:=vr_le k1;have a3:=vr_le h3;have a4:=vr_le k3;have a5:=vr_le h2;have a6:=vr_le k2;rw[vr_neg]at a1 a2
 have m1: -opl 8<=addp false a c:=(dn_self (r:= -opl 8) (by omega) (by omega)).mono s.1 (by rw[vr_neg];omega)
 have m2:addp true b d<=opl 8:=t.2.mono (up_self (r:=opl 8) (by omega) (by omega)) (by omega)
 have m3:addp false a c<=addp true b d:=Int.le_trans (s.1.mono t.1 (by omega)) (dn_le_up t.1 t.2)
 exact⟨_,_,mkI_some m3 (by omega) (by omega),m1,m3,m2⟩
theorem In4.neg{k:Int}{Z:Sp}(h:In4 k Z)(hk:k < 19342822337206103650074625):In4 k (negI Z):=by
 obtain⟨a,b,rfl,h1,h2,h3⟩:=h;rw[negI_some ⟨by omega,h2,by omega,by omega,by omega⟩]
 exact⟨-b,-a,rfl,by omega,by omega,by omega⟩
theorem In4.sub{Z Y:Sp}(h:In4 (opl 4) Z)(k:In4 (opl 4) Y):In4 (opl 8) (subI Z Y):=h.add (k.neg (by have:=four_bd;omega))
theorem In4.up{Z:Sp}(h:In4 (opl 4) Z):In4 (opl 8) Z:=by
 obtain⟨f1,f2,_⟩:=four_bd;obtain⟨a,b,rfl,h1,h2,h3⟩:=h;exact⟨a,b,rfl,by omega,h2,by omega⟩
theorem PiS.in4:In4 (opl 4) PiS:=by
 obtain⟨_,_,_,_,f5,f6⟩:=four_bd;exact⟨_,_,rfl,f6,by omega,f5⟩
theorem HalfS.in4{Z:Sp}(h:HalfS Z):In4 (opl 4) Z:=by
 obtain⟨f1,f2,f3,f4,_⟩:=four_bd;obtain⟨r,u,rfl,ru,h1,h2,_⟩:=half_V h;exact⟨r,u,rfl,by omega,ru,by omega⟩
theorem hull_in4{q:Bool->Int->Int->Int}(hq:QF q){m n:Int}{P Q:Sp}(h:AtV q m P)(k:AtV q n Q)(m1:In m)(n1:In n):In4 (opl 4) (hullI P Q):=by
 obtain⟨f1,f2,f3,f4,_⟩:=four_bd;obtain⟨o1,o2⟩:=two_bd;obtain⟨a,b,rfl,ab,a1,a2,_⟩:=h.tight hq m1.1 m1.2;obtain⟨c,d,rfl,cd,c1,c2,_⟩:=k.tight hq n1.1 n1.2;rw[hullI_some ⟨by omega,ab,by omega,by omega,by omega⟩ ⟨by omega,cd,by omega,by omega,by omega⟩]
 exact⟨_,_,rfl,by omega,by omega,by omega⟩
theorem In4.some_R{k:Int}{Z:Sp}(h:In4 k Z):∃t:Rat,LoR t Z/\HiR t Z:=by
 obtain⟨a,b,rfl,h1,h2,h3⟩:=h;refine⟨V a,.inr (by rw[V_at];exact Rat.le_refl),.inr ?_⟩;rw[V_at];exact Rat.intCast_le_intCast.2 (vr_le h2)
theorem half_apart{A C:Sp}(hA:In4 (opl 8) A)(hC:In4 (opl 8) C)(h:∃s t:Rat,(LoR s A/\HiR s A)/\(LoR t C/\HiR t C)/\(s-t=2*qt\/s-t= -(2*qt))):∃a b,meetI (absI (subI A C)) (infI PiS p60)=some (a,b):=by
 obtain⟨f1,f2,f3,f4,f5,f6⟩:=four_bd;obtain⟨q1,q2⟩:=qt_bd;have bp:=br_pos;obtain⟨s,t,⟨s1,s2⟩,⟨t1,t2⟩,e⟩:=h;have R:=sub_R (v:=s) (w:=t) (hA.fin f3) (hC.fin f3);have l:=R.1 s1 t2;have u:=R.2.1 s2 t1;have ok:=R.2.2;generalize subI A C=D at *
 rcases D with _ | ⟨a,b⟩
 ·exact l.elim
 obtain⟨eA,okA⟩:=abs_eq ok;rw[eA];have P:=PiS.holds;have pp:=p60_bd;have sa:=(addp_spec (x:=PIL) (y:= -p60) true (by omega) (by omega) (by omega) (by omega));have sb:=(addp_spec (x:=PIL+1) (y:=p60) true (by omega) (by omega) (by omega) (by omega));have p0:=vr_pos pp.1
 have k1:addp false PIL (-p60)<=PIL:=sa.1.mono (dn_self (r:=PIL) (by omega) (by omega)) (by rw[vr_neg];omega)
 have k2:PIL+1<=addp true (PIL+1) p60:=(up_self (r:=PIL+1) (by omega) (by omega)).mono sb.2 (by omega)
 have eI:infI PiS p60=some (addp false PIL (-p60),addp true (PIL+1) p60):=by
  show (if p60 < 0 then some (PIL,PIL+1)else mkI (addp false PIL (-p60)) (addp true (PIL+1) p60))=_
  rw[if_neg (by omega)];exact mkI_some (by omega) (by omega) (by omega)
 have b1:=sa.1.1;have b2:=sb.2.2.1;rw[eI]
 have zr:((vr 0:Int):Rat)=0:=rfl
 have pq:(0:Rat)<=2*qt*BR:=Rat.mul_nonneg (by grind) (Rat.le_of_lt bp)
 refine meet_R (v:=2*qt) okA ⟨by omega,by omega,by have:=sb.2.1;omega,by omega,by omega⟩ (.inr ?_) ?_ ?_ ?_
 ·have up:∀x:Int,x=0\/(x=a/\a≠ -19342822337206103650074625)\/(x= -b/\b≠19342822337206103650074625)->((vr x:Int):Rat)<=2*qt*BR:=fun x hx=>by
   rcases hx with rfl | ⟨rfl,c⟩ | ⟨rfl,c⟩
   ·rw[zr];exact pq
   ·have l':=l.resolve_left c
    rcases e with e | e <;> rw[e]at l' <;> grind
   ·have u':=u.resolve_left c
    rw[vr_neg,Rat.intCast_neg]
    rcases e with e | e <;> rw[e]at u' <;> grind
  refine up _ ?_;obtain⟨o1,o2,o3,o4,o5⟩:=ok
  omega
 ·by_cases c:max b (-a)=19342822337206103650074625
  ·exact .inl c
  ·right
   obtain⟨o1,o2,o3,o4,o5⟩:=ok
   rcases e with e | e
   ·have u':=u.resolve_left (by omega)
    rw[e]at u';exact Rat.le_trans u' (Rat.intCast_le_intCast.2 (vr_le (by omega)))
   ·have l':=l.resolve_left (by omega)
    rw[e]at l'
    refine Rat.le_trans ?_ (Rat.intCast_le_intCast.2 (vr_le (show -a<=max b (-a) by omega)))
    rw[vr_neg,Rat.intCast_neg]
    grind
 ·right
  exact Rat.le_trans (Rat.intCast_le_intCast.2 (vr_le k1)) (P.1.resolve_left (by decide))
 ·right
  exact Rat.le_trans (P.2.resolve_left (by decide)) (Rat.intCast_le_intCast.2 (vr_le k2))
theorem AngV.in8{q:Bool->Int->Int->Int}(hq:QF q){y x:Int}{Z:Sp}(h:AngV q y x Z):In4 (opl 8) Z:=by
 obtain⟨f1,f2,f3,f4,f5,f6⟩:=four_bd
 rcases h with⟨_,H,hH,rfl⟩ | ⟨_,P,Q,hP,hQ,rfl⟩
 ·split
  ·exact hH.in4.up.neg f3
  ·exact hH.in4.up
 ·have i:=hull_in4 hq hP hQ (hq.in false y x) (hq.in true y x)
  split
  ·exact i.up
  ·split
   ·exact i.sub PiS.in4
   ·exact PiS.in4.add i
theorem ang_opp{q:Bool->Int->Int->Int}(hq:QF q){y x:Int}{A C:Sp}(fy:FinP y)(fx:FinP x)(h0:¬(y=0/\x=0))(hA:AngV q y x A)(hC:AngV q (-y) (-x) C):∃a b,meetI (absI (subI A C)) (infI PiS p60)=some (a,b):=by
 obtain⟨f1,f2,f3,f4,f5,f6⟩:=four_bd;refine half_apart (hA.in8 hq) (hC.in8 hq) ?_;have PF:=PiS.fin;have PH:=PiS.holds
 rcases hA with⟨x0,H,hH,rfl⟩ | ⟨x0,P,Q,hP,hQ,rfl⟩
 ·rcases hC with⟨_,H',hH',rfl⟩ | ⟨c,_⟩
  ·obtain rfl:=hH.one hH'
   obtain⟨f,l,u⟩:=hH.is;have l:=l qt Rat.le_refl;have u:=u qt Rat.le_refl;have n:=neg_R (v:=qt) f
   rcases Int.lt_or_gt_of_ne (show y≠0 from fun e=>h0 ⟨e,x0⟩)with c | c
   ·rw[if_pos c,if_neg (by omega)];exact⟨-qt,qt,⟨n.2.1 u,n.1 l⟩,⟨l,u⟩,.inr (by grind)⟩
   ·rw[if_neg (by omega),if_pos (by omega)];exact⟨qt,-qt,⟨l,u⟩,⟨n.2.1 u,n.1 l⟩,.inl (by grind)⟩
  ·omega
 ·rcases hC with⟨c,_⟩ | ⟨c,P',Q',hP',hQ',rfl⟩
  ·omega
  ·have fny:FinP (-y):=⟨by have:=fy.2;omega,by have:=fy.1;omega⟩
   have fnx:FinP (-x):=⟨by have:=fx.2;omega,by have:=fx.1;omega⟩
   have e:∀up,q up (-y) (-x)=q up y x:=fun up=>q_same hq up fny fnx (by omega) fy fx x0 (by rw[vr_neg,vr_neg];grind)
   rw[e]at hP' hQ'
   obtain rfl:=hP.one hP'
   obtain rfl:=hQ.one hQ'
   have i:=hull_in4 hq hP hQ (hq.in false y x) (hq.in true y x);obtain⟨t,t1,t2⟩:=i.some_R;have fi:=i.fin (by omega);generalize hullI P Q=H at *;have S:=sub_R (v:=t) (w:=2*qt) fi PF;have D:=add_R (v:=2*qt) (w:=t) PF fi;have s1:=S.1 t1 PH.2;have s2:=S.2.1 t2 PH.1;have d1:=D.1 PH.1 t1;have d2:=D.2.1 PH.2 t2
   rcases Int.lt_or_gt_of_ne x0 with cx | cx
   ·rw[if_neg (show ¬0 < x by omega),if_pos (show 0 < -x by omega)]
    by_cases cy:y < 0
    ·rw[if_pos cy];exact⟨t-2*qt,t,⟨s1,s2⟩,⟨t1,t2⟩,.inr (by grind)⟩
    ·rw[if_neg cy];exact⟨2*qt+t,t,⟨d1,d2⟩,⟨t1,t2⟩,.inl (by grind)⟩
   ·rw[if_pos cx,if_neg (show ¬0 < -x by omega)]
    by_cases cy: -y < 0
    ·rw[if_pos cy];exact⟨t,t-2*qt,⟨t1,t2⟩,⟨s1,s2⟩,.inl (by grind)⟩
    ·rw[if_neg cy];exact⟨t,2*qt+t,⟨t1,t2⟩,⟨d1,d2⟩,.inr (by grind)⟩
theorem ang_times{q:Bool->Int->Int->Int}(hq:QF q){y x y' x' m:Int}{A B:Sp}(hm:0 < m)(fy:FinP y)(fx:FinP x)(fy':FinP y')(fx':FinP x')(ey:vr y'=m*vr y)(ex:vr x'=m*vr x)(hA:AngV q y x A)(hB:AngV q y' x' B):A=B:=by
 have sg:∀{a b:Int},vr b=m*vr a->(0 < b↔0 < a)/\(b < 0↔a < 0)/\(b=0↔a=0):=fun {a b} e=>by
  have pos:∀z:Int,0 < z->0 < vr z:=fun z h=>vr_pos h
  have neg:∀z:Int,z < 0->vr z < 0:=fun z h=>by
   have:=vr_pos (show 0 < -z by omega)
   rw[vr_neg]at this
   omega
  have z0:vr 0=0:=rfl
  have pm:0 < vr a->0 < m*vr a:=fun h=>Int.mul_pos hm h
  have nm:vr a < 0->m*vr a < 0:=fun h=>Int.mul_neg_of_pos_of_neg hm h
  have zm:vr a=0->m*vr a=0:=fun h=>by rw[h,Int.mul_zero]
  rcases Int.lt_trichotomy a 0 with c | c | c <;> rcases Int.lt_trichotomy b 0 with d | d | d
  ·omega
  ·exfalso;subst d;have:=nm (neg a c);omega
  ·exfalso;have:=nm (neg a c);have:=pos b d;omega
  ·exfalso;subst c;have:=zm z0;have:=neg b d;omega
  ·omega
  ·exfalso;subst c;have:=zm z0;have:=pos b d;omega
  ·exfalso;have:=pm (pos a c);have:=neg b d;omega
  ·exfalso;subst d;have:=pm (pos a c);omega
  ·omega
 have sy:=sg ey;have sx:=sg ex
 rcases hA with⟨x0,H,hH,rfl⟩ | ⟨x0,P,Q,hP,hQ,rfl⟩
 ·rcases hB with⟨_,H',hH',rfl⟩ | ⟨c,_⟩
  ·rw[hH.one hH']
   by_cases c:y < 0
   ·rw[if_pos c,if_pos (sy.2.1.2 c)]
   ·rw[if_neg c,if_neg (fun d=>c (sy.2.1.1 d))]
  ·exact absurd (sx.2.2.2 x0) c
 ·rcases hB with⟨c,_⟩ | ⟨c,P',Q',hP',hQ',rfl⟩
  ·exact absurd (sx.2.2.1 c) x0
  ·have e:∀up,q up y' x'=q up y x:=fun up=>q_same hq up fy' fx' c fy fx x0 (by rw[ey,ex];grind)
   rw[e]at hP' hQ';rw[hP.one hP',hQ.one hQ']
   by_cases c1:0 < x
   ·rw[if_pos c1,if_pos (sx.1.2 c1)]
   ·rw[if_neg c1,if_neg (fun d=>c1 (sx.1.1 d))]
    by_cases c2:y < 0
    ·rw[if_pos c2,if_pos (sy.2.1.2 c2)]
    ·rw[if_neg c2,if_neg (fun d=>c2 (sy.2.1.1 d))]
theorem self_meet{A:Sp}(h:In4 (opl 8) A):∃a b,meetI A A=some (a,b):=by
 obtain⟨t,t1,t2⟩:=h.some_R;have f:=(h.fin four_bd.2.2.1).ok;exact meet_R f f t1 t2 t1 t2
def AtOfV (q:Bool->Int->Int->Int)(X Z:Sp):Prop:=match X with
 | none=>Z=none
 | some (a,b)=>∃Za Zb,AtV q a Za/\AtV q b Zb/\Z=hullI Za Zb
theorem ends_R{a b c d:Int}(ha: -19342822337206103650074625<=d)(hd:a<=19342822337206103650074625)(h:∃x,LoR x (some (a,b))/\HiR x (some (c,d))):a<=d:=by
 obtain⟨x,h1,h2⟩:=h;exact ends_le ha hd h1 h2
theorem wid_vr{a b:Int}(h1: -opl 2-1<=a)(h2:b<=opl 2+1)(hab:a<=b)(h:widI (some (a,b))<=p60):vr b-vr a<=vr p60:=by
 obtain⟨o1,o2⟩:=two_bd;have e2:=opl_two_eq;have s:=(addp_spec (x:=b) (y:= -a) true (by omega) (by omega) (by omega) (by omega)).2;obtain⟨_,_,u,_⟩:=s;have p:=p60_bd
 have hw:addp true b (-a)<=p60:=h
 have k:=u (by omega);rw[vr_neg,vr_neg]at k;have v:=vr_le hw
 omega
theorem less_60{L lo hi:Int}(h1: -opl 2-1<=lo)(h2:hi<=opl 2+1)(h3:lo<=hi)(l1: -opl 2-1<=L)(l2:L<=hi)(w:vr hi-vr lo<=vr p60):addp false L (-p60)<=lo:=by
 obtain⟨o1,o2⟩:=two_bd;have e2:=opl_two_eq;obtain⟨q1,q2⟩:=p60_bd;have s:=(addp_spec (x:=L) (y:= -p60) true (by omega) (by omega) (by omega) (by omega)).1;rw[vr_neg]at s;have v:=vr_le l2;exact s.mono (dn_self (r:=lo) (by omega) (by omega)) (by omega)
theorem more_60{H lo hi:Int}(h1: -opl 2-1<=lo)(h2:hi<=opl 2+1)(h3:lo<=hi)(l1:H<=opl 2+1)(l2:lo<=H)(w:vr hi-vr lo<=vr p60):hi<=addp true H p60:=by
 obtain⟨o1,o2⟩:=two_bd;have e2:=opl_two_eq;obtain⟨q1,q2⟩:=p60_bd;have s:=(addp_spec (x:=H) (y:=p60) true (by omega) (by omega) (by omega) (by omega)).2;have v:=vr_le l2;exact(up_self (r:=hi) (by omega) (by omega)).mono s (by omega)
theorem at_grows{q:Bool->Int->Int->Int}(hq:QF q){X Y Zx Zy:Sp}(hX:AtOfV q X Zx)(hY:AtOfV q Y Zy)(okX:SpOk X)(okY:SpOk Y)(hw:witI X Y=true):witI Zx (infI Zy p60)=true:=by
 rcases X with _ | ⟨a,b⟩
 ·have e:Zx=none:=hX
  rw[e]
  rfl
 rcases Y with _ | ⟨c,d⟩
 ·cases hw
 have hw':c<=a/\b<=d:=by
  simp only[witI,Bool.and_eq_true,decide_eq_true_eq]at hw;exact hw
 obtain⟨A1,A2,A3,A4,A5⟩:=okX;obtain⟨B1,B2,B3,B4,B5⟩:=okY;obtain⟨o1,o2⟩:=two_bd;have e2:=opl_two_eq;obtain⟨q1,q2⟩:=p60_bd;obtain⟨Za,Zb,ha,hb,rfl⟩:=hX;obtain⟨Zc,Zd,hc,hd,rfl⟩:=hY;have gca:=(AtV.grow hq hc ha B1 hw'.1 (by omega)).2.2;have gcb:=(AtV.grow hq hc hb B1 (by omega) (by omega)).2.2;have gad:=(AtV.grow hq ha hd A1 (by omega) B3).2.2;have gbd:=(AtV.grow hq hb hd (by omega) hw'.2 B3).2.2
 obtain⟨la,ua,rfl,a1,a2,a3,a4⟩:=ha.tight hq A1 (by omega);obtain⟨lb,ub,rfl,b1,b2,b3,b4⟩:=hb.tight hq (by omega) A3;obtain⟨lc,uc,rfl,c1,c2,c3,c4⟩:=hc.tight hq B1 (by omega);obtain⟨ld,ud,rfl,d1,d2,d3,d4⟩:=hd.tight hq (by omega) B3;have k1:=ends_R (by omega) (by omega) gca;have k2:=ends_R (by omega) (by omega) gcb;have k3:=ends_R (by omega) (by omega) gad
 have k4:=ends_R (by omega) (by omega) gbd;have wa:=wid_vr a2 a3 a1 a4;have wb:=wid_vr b2 b3 b1 b4;rw[hullI_some ⟨by omega,a1,by omega,by omega,by omega⟩ ⟨by omega,b1,by omega,by omega,by omega⟩,hullI_some ⟨by omega,c1,by omega,by omega,by omega⟩ ⟨by omega,d1,by omega,by omega,by omega⟩]
 have m1:=less_60 (L:=min lc ld) a2 a3 a1 (by omega) (by omega) wa;have m2:=less_60 (L:=min lc ld) b2 b3 b1 (by omega) (by omega) wb;have m3:=more_60 (H:=max uc ud) a2 a3 a1 (by omega) (by omega) wa;have m4:=more_60 (H:=max uc ud) b2 b3 b1 (by omega) (by omega) wb;have s:=(addp_spec (x:=min lc ld) (y:= -p60) true (by omega) (by omega) (by omega) (by omega)).1;have t:=(addp_spec (x:=max uc ud) (y:=p60) true (by omega) (by omega) (by omega) (by omega)).2
 have e:infI (some (min lc ld,max uc ud)) p60=some (addp false (min lc ld) (-p60),addp true (max uc ud) p60):=by
  show (if p60 < 0 then some (min lc ld,max uc ud)else mkI (addp false (min lc ld) (-p60)) (addp true (max uc ud) p60))=_
  rw[if_neg (by omega)];exact mkI_some (by omega) (by have:=s.2.1;omega) (by have:=t.2.1;omega)
 rw[e]
 show (decide (addp false (min lc ld) (-p60)<=min la lb) && decide (max ua ub<=addp true (max uc ud) p60))=true
 rw[dt (show addp false (min lc ld) (-p60)<=min la lb by omega),dt (show max ua ub<=addp true (max uc ud) p60 by omega)]
 rfl
end Go.Proofs.YtomikokonmikgaaGreatDoor
namespace Go.Proofs.YtomikokonmikgaaGreatDoor
set_option maxHeartbeats 8000000
open Go.RowKit
set_option linter.unusedVariables false
def FzI (x:Sp)(h:Nat):Prop:=∀a b,x=some (a,b)->Fz a h/\Fz b h
theorem FzI.mono{x:Sp}{h k:Nat}(f:FzI x h)(hk:h<=k):FzI x k:=fun a b e=>⟨(f a b e).1.mono hk,(f a b e).2.mono hk⟩
theorem FzI.mk{a b:Int}{h:Nat}(f:Fz a h)(g:Fz b h):FzI (mkI a b) h:=fun c d e=>by
 unfold mkI at e
 split at e
 ·cases e
  exact⟨f,g⟩
 ·cases e
theorem FzI.add{x y:Sp}{h:Nat}(hh:h<=90000)(f:FzI x h)(g:FzI y h):FzI (addI x y) (h+66):=by
 rcases x with _ | ⟨a,b⟩
 ·exact fun _ _ e=>by cases e
 rcases y with _ | ⟨c,d⟩
 ·exact fun _ _ e=>by cases e
 exact FzI.mk (addp_fz false hh (f a b rfl).1 (g c d rfl).1) (addp_fz true hh (f a b rfl).2 (g c d rfl).2)
def gone:List Sp->Bool
 | []=>false
 | none::_=>true
 | some _::l=>gone l
theorem gone_at:∀{l:List Sp} {k:Nat},k < l.length->l.getD k none=none->gone l=true
 | none::_,_,_,_=>rfl
 | some _::l,0,_,e=>by cases e
 | some _::l,k+1,h,e=>gone_at (l:=l) (k:=k) (Nat.lt_of_succ_lt_succ h) e
theorem gone_no:∀{l:List Sp},(∀k,k < l.length->l.getD k none≠none)->gone l=false
 | [],_=>rfl
 | none::l,h=>absurd rfl (h 0 (Nat.succ_pos _))
 | some _::l,h=>gone_no (l:=l) fun k hk=>h (k+1) (Nat.succ_lt_succ hk)
theorem gone_get:∀{l:List Sp} {k:Nat},gone l=false->k < l.length->∃a b,l.getD k none=some (a,b)
 | none::_,_,h,_=>by cases h
 | some (a,b)::l,0,_,_=>⟨a,b,rfl⟩
 | some _::l,k+1,h,hk=>gone_get (l:=l) (k:=k) h (Nat.lt_of_succ_lt_succ hk)
theorem gone_fold:∀l:List Sp,l.foldl addI none=none
 | []=>rfl
 | x::l=>gone_fold l
theorem gone_fold2:∀{l:List Sp} (x:Sp),gone l=true->l.foldl addI x=none
 | none::l,x,_=>by
  show l.foldl addI (addI x none)=none
  rw[add_none,gone_fold]
 | some _::l,x,h=>gone_fold2 (l:=l) _ h
theorem add_gone:∀{l:List Sp},gone l=true->addL l=none
 | none::l,_=>gone_fold l
 | some p::l,h=>gone_fold2 (l:=l) (some p) h
theorem addp_lt{x y:Int}(x1: -19342822337206103650074625<=x)(x2:x < 19342822337206103650074625)(y1: -19342822337206103650074625<=y)(y2:y < 19342822337206103650074625):addp false x y < 19342822337206103650074625:=by
 cases hx:infp x
 ·cases hy:infp y
  ·obtain⟨a,b⟩:=infp_false x1 (by omega) hx;obtain⟨c,d⟩:=infp_false y1 (by omega) hy;have h:=(addp_spec false a b c d).1.2.1
   omega
  ·rw[addp_ft false hx hy];exact y2
 ·have e:=infp_true hx
  cases hy:infp y
  ·rw[addp_tf false hx hy];exact x2
  ·have e2:=infp_true hy;rw[addp_same false hx (by omega)];exact x2
theorem addp_gt{x y:Int}(x1: -19342822337206103650074625 < x)(x2:x<=19342822337206103650074625)(y1: -19342822337206103650074625 < y)(y2:y<=19342822337206103650074625): -19342822337206103650074625 < addp true x y:=by
 have h:=addp_lt (x:= -x) (y:= -y) (by omega) (by omega) (by omega) (by omega);have e:=addp_neg (x:=x) (y:=y) true;rw[Bool.not_true]at e
 omega
theorem addI_some{a b c d:Int}(h:SpOk (some (a,b)))(k:SpOk (some (c,d))):addI (some (a,b)) (some (c,d))=some (addp false a c,addp true b d)/\SpOk (some (addp false a c,addp true b d)):=by
 obtain⟨h1,h2,h3,h4,h5⟩:=h;obtain⟨k1,k2,k3,k4,k5⟩:=k;have l1:=addp_lt h1 h4 k1 k4;have l2:=addp_gt h5 h3 k5 k3
 have l3:addp false a c<=addp true b d:=by
  refine Int.le_trans (addp_le2 false ⟨by omega,by omega⟩ ⟨by omega,by omega⟩ ⟨by omega,by omega⟩ ⟨by omega,by omega⟩ h2 k2) ?_;exact addp_le (by omega) (by omega) (by omega) (by omega)
 have b1:=addp_bd (x:=a) (y:=c) false (by omega) (by omega) (by omega) (by omega);have b2:=addp_bd (x:=b) (y:=d) true (by omega) (by omega) (by omega) (by omega)
 have o:SpOk (some (addp false a c,addp true b d)):=⟨b1.1,l3,b2.2,l1,l2⟩
 exact⟨o.mk,o⟩
theorem add_fold:∀{l:List Sp} {a b:Int},gone l=false->(∀y ∈ l,SpOk y)->SpOk (some (a,b))->l.foldl addI (some (a,b))=some ((lowL l).foldl (addp false) a,(highL l).foldl (addp true) b)/\SpOk (some ((lowL l).foldl (addp false) a,(highL l).foldl (addp true) b))
 | [],a,b,_,_,h=>⟨rfl,h⟩
 | none::l,_,_,h,_,_=>by cases h
 | some (c,d)::l,a,b,h,hl,hab=>by
  obtain⟨e,o⟩:=addI_some hab (hl (some (c,d)) (List.mem_cons_self ..))
  have:=add_fold (l:=l) h (fun y hy=>hl y (List.mem_cons_of_mem _ hy)) o
  rw[<-e]at this;exact this
theorem add_ends:∀{l:List Sp},gone l=false->(∀y ∈ l,SpOk y)->mkI ((lowL l).foldl (addp false) 0) ((highL l).foldl (addp true) 0)=addL l
 | [],_,_=>by decide
 | none::l,h,_=>by cases h
 | some (c,d)::l,h,hl=>by
  have k:=hl (some (c,d)) (List.mem_cons_self ..);have i:=k.in1
  obtain⟨e,o⟩:=add_fold (l:=l) h (fun y hy=>hl y (List.mem_cons_of_mem _ hy)) k
  show mkI ((lowL l).foldl (addp false) (addp false 0 c)) ((highL l).foldl (addp true) (addp true 0 d))=l.foldl addI (some (c,d))
  rw[addp_comm (x:=0) (y:=c),addp_comm (x:=0) (y:=d),addp_zero false i.1.1 i.1.2,addp_zero true i.2.1 i.2.2,e,o.mk]
set_option linter.unusedSimpArgs false
set_option maxRecDepth 100000
theorem ci_some{e:Bool}{D M E D' M' E':Int}{s s':Bool}{a b:Int}(hM:LQ M)(hM':LQ M')(h:rkI e D s M E D' s' M' E'=some (a,b)):Ci e D s M E D' s' M' E' (some (a,b)):=by
 rw[<-h];refine mayI_ci hM hM' ?_
 cases hm:mayI e D s M E D' s' M' E'
 ·rw[mayI_no hm]at h
  cases h
 ·rfl
theorem fkEmpty{w:World}{A:Option Addr}{n c:Nat}{l:List Sp}{r:Bool}(h:Il8 w A n c l)(hr:gone l=r):Calls Tryz.prog 109 #[.slice A n c] w (PB w r):=by
 have HR:=ie hr;have HLn:=ie h.1;have hcap:=h.2.1;have hbig:=h.2.2.1;have hD0:=h;clear hr h
 go_enter Tryz.func109,Tryz.ntmps109
 go_wp2
 go_loopw [7] (fun i wr=>∃k:Nat,k<=n/\i= .int .i64 k/\(∀j,j < k->l.getD j none≠none)/\Below w.heap.size w wr) (fun i _=>n-(intOf i).toNat)
 case atStart=>exact ⟨0,Nat.zero_le _,rfl,fun j h=>absurd h (Nat.not_lt_zero _),Below.refl _ _⟩
 case round=>
  obtain⟨k,hk,rfl,hU,hB⟩:=hrel;have HU:=ie hU;have HB:=ie hB;clear hU hB
  by_cases hlt:k < n
  ·have tlt:decide ((k:Int) < (n:Int))=true:=by simp;omega
   have h:=hD0.below HB.out;obtain⟨b,o,rfl,hcell⟩:=h.2.2.2 (by omega);obtain⟨e,D,s,M,E,D',s',M',E',x0,x1,x2,x3,x4,x5,x6,x7,x8,hM,hM',hx⟩:=hcell k hlt;clear hcell h hD0
   have i1:(k:Int) < n:=by omega
   have i2:(0:Int)<=k:=by omega
   have hyes:l.getD k none=none->r=true:=fun e=>HR.out.symm.trans (gone_at (by rw[HLn.out];exact hlt) e)
   have hnx:l.getD k none≠none->∀j,j < k+1->l.getD j none≠none:=fun e j hj=>by
    by_cases c:j=k
    ·rw[c];exact e
    ·exact HU.out j (by omega)
   rw[<-hx]at hyes hnx;clear hx HR HU
   cases e
   ·go_upto_region 4 with (fail)
    clear x0 x1 x2 x3 x4 x5 x6 x7 x8;generalize hWn:wr.alloc _=w3 at *;obtain⟨X4,BW⟩:=Bo.nw hWn;clear hWn;replace HB:=Hqb HB BW;clear BW;have hm0:=mayI_no (e:=false) (K:=D) (s:=s) (M:=M) (E:=E) (K':=D') (s':=s') (M':=M') (E':=E')
    cases hm:mayI false D s M E D' s' M' E'
    ·obtain rfl:=hyes (hm0 hm)
     have HMY:=ie hm;clear hyes hnx hm hm0;have xX4:=X4.cell
     go_wp2_with fail
     refine(kvMay hM hM' HMY.out).mono ?_;rintro ee w4 ⟨rfl,B⟩;clear xX4;replace X4:=X4.b B;replace HB:=Hqb HB B;clear B;clear HMY;go_wp2
     go_ret
     exact⟨rfl,HB.out⟩
    ·have HN:Hid (∀j,j < k+1->l.getD j none≠none):=ie (hnx (of_decide_eq_true hm))
     have HMY:=ie hm;clear hyes hnx hm hm0;have xX4:=X4.cell
     go_wp2_with fail
     refine(kvMay hM hM' HMY.out).mono ?_;rintro ee w4 ⟨rfl,B⟩;clear xX4;replace X4:=X4.b B;replace HB:=Hqb HB B;clear B;clear HMY;go_wp2
     go_roundw
     case rel=>exact ⟨k+1,by omega,by go_num,HN.out,HB.out⟩
     case measure=>simp [intOf];omega
   ·go_upto_region 4 with (fail)
    clear x0 x1 x2 x3 x4 x5 x6 x7 x8;generalize hWn:wr.alloc _=w3 at *;obtain⟨X4,BW⟩:=Bo.nw hWn;clear hWn;replace HB:=Hqb HB BW;clear BW
    obtain rfl:=hyes rkI_t
    clear hyes hnx;have xX4:=X4.cell;go_wp2
    go_ret
    exact⟨rfl,HB.out⟩
  ·obtain rfl:k=n:=by omega
   have tlt:decide ((k:Int) < (k:Int))=false:=by simp
   obtain rfl:false=r:=(gone_no (fun j hj=>HU.out j (by rw[HLn.out]at hj;exact hj))).symm.trans HR.out
   clear HU HR;go_wp2
   go_ret
   exact⟨rfl,HB.out⟩
theorem fkNeg{w:World}{e:Bool}{D M E D' M' E':Int}{s s':Bool}{x z:Sp}(hM:LQ M)(hM':LQ M')(hx:rkI e D s M E D' s' M' E'=x)(hr:negI x=z):Calls Tryz.prog 39 #[VI e D s M E D' s' M' E'] w (PV w z):=by
 delta VI
 obtain⟨p,hp⟩:∃p,gone [x]=p:=⟨_,rfl⟩;have HP:=ie hp;have HX:=ie hx;clear hx hp
 go_enter Tryz.func39,Tryz.ntmps39
 go_upto_region 1 with (fail)
 generalize hW1:(w.alloc _).alloc _=w1 at *;obtain⟨X1,XR,HB⟩:=Bo.en2 hW1;clear hW1;have xX1:=X1.cell
 go_wp2_with fail
 refine(fkEmpty (Il8.lit1 rfl ⟨hM,hM',HX.out⟩) HP.out).mono ?_;rintro ee w2 ⟨rfl,B⟩;replace B:=bt (bel1 _ (.cells #[.bool e,.int .i64 D,.bool s,.int .u64 M,.int .i64 E,.int .i64 D',.bool s',.int .u64 M',.int .i64 E'] 32)) B;clear xX1;replace X1:=X1.b B;replace XR:=XR.b B;replace HB:=Hqb HB B;clear B
 rcases x with _ | ⟨xa,xb⟩
 ·obtain rfl:true=p:=HP.out
  obtain rfl:none=z:=hr
  clear HP
  go_wp2_with fail
  refine(kvNoneE).mono ?_;rintro ee w3 ⟨rfl,B⟩;replace X1:=X1.b B;replace XR:=XR.b B;replace HB:=Hqb HB B;clear B;have xXR:=XR.cell;have zXR0:=XR.frozen;go_wp2;clear xXR zXR0;have SX:=StN.t9 XR true 0 false 0 0 0 false 0 0
  exact bq (by simp[results,Tryz.results39,go_sem,SX.box.cell]) rfl ⟨_,_,_,_,_,_,_,_,_,rfl,Ci.none,(SX.below HB.out (by omega))⟩
 ·obtain⟨rfl,a1,b1,o1,o1l,o1h⟩:=ci_some hM hM' HX.out
  obtain rfl:false=p:=HP.out
  obtain⟨u,hu⟩:∃u,-xb=u:=⟨_,rfl⟩;obtain⟨l,hl⟩:∃l,-xa=l:=⟨_,rfl⟩
  have hr2:mkI u l=z:=by rw[<-hu,<-hl];exact hr
  have HU:Hid (-rk D' s' M' E'=u):=ie (by rw[b1.rk];exact hu)
  have HL:Hid (-rk D s M E=l):=ie (by rw[a1.rk];exact hl)
  have HR:=ie hr2;clear hu hl hr hr2 o1 o1l o1h HX HP;have xX1:=X1.cell
  go_upto_region 3 with (fail)
  clear xX1;refine jk [0,1,2,3,4,5,6] [some 7,some 8,some 9,some 10,some 11,some 12,some 13,none] [[],[0],[1],[],[3],[4],[2,5],[]] 8 1 [Jo.qp w.heap.size 5,Jo.q4 D' s' M' E',Jo.Fact.num u,Jo.qp w.heap.size 1,Jo.q4 D s M E,Jo.Fact.num l,Jo.Fact.iv z,Jo.Fact.any] ?_ ?_
  ·iterate 2 (refine jm ?_ ?_;rotate_left)
   refine jm ?_ ?_
   ·rintro wj hJ _ rfl K hK;simp only[Jo.z]at hK|-;go_simp;exact Jo.n1 (nNeg b1.top HU.out) hK.out
   iterate 2 (refine jm ?_ ?_;rotate_left)
   refine jm ?_ ?_
   ·rintro wj hJ _ rfl K hK;simp only[Jo.z]at hK|-;go_simp;exact Jo.n1 (nNeg a1.top HL.out) hK.out
   refine jm ?_ ?_
   ·rintro wj hJ _ ⟨K2,s2,M2,E2,rfl,q2⟩ _ ⟨K3,s3,M3,E3,rfl,q3⟩ K hK;simp only[Jo.z]at hK|-;go_simp;exact Jo.v1 (kvMake q2.top q3.top q2.rk q3.rk HR.out) hK.out
   exact jo
   all_goals (rintro wj hJ;(repeat rintro _ rfl);intro K hK;simp only[Jo.z]at hK|-;have xX1:=(X1.b hJ).cell;go_simp;exact hK.out _ _ rfl (br _ _))
  rintro w8 hJ _ _ _ rfl _ ⟨K2,s2,M2,E2,rfl,q2⟩ _ _ _ rfl _ ⟨K3,s3,M3,E3,rfl,q3⟩ _ ⟨e4,K4,s4,M4,E4,K4b,s4b,M4b,E4b,rfl,v4⟩ -;simp only[Jo.z];replace XR:=XR.b hJ;replace HB:=Hqb HB hJ;have xXR:=XR.cell;have zXR0:=XR.frozen
  refine jn 7 fun K hK=>?_
  go_simp;refine hK.out _ _ ?_;clear hK K xXR zXR0;have SX:=StN.t9 XR e4 K4 s4 M4 E4 K4b s4b M4b E4b;refine jd ?_;go_wp2;exact bq (by simp[results,Tryz.results39,go_sem,SX.box.cell]) rfl ⟨_,_,_,_,_,_,_,_,_,rfl,v4,(SX.below HB.out (by omega))⟩
theorem fkAdd{w:World}{A:Option Addr}{n c:Nat}{l:List Sp}{z:Sp}(hT:Tb w)(h:Il8 w A n c l)(hr:addL l=z):Calls Tryz.prog 43 #[.slice A n c] w (PV w z):=by
 obtain⟨p,hp⟩:∃p,gone l=p:=⟨_,rfl⟩;have HP:=ie hp;have HLn:=ie h.1;have hcap:=h.2.1;have hbig:=h.2.2.1;clear hp
 go_enter Tryz.func43,Tryz.ntmps43
 go_upto_region 1 with (fail)
 generalize hW1:w.alloc _=w1 at *;obtain⟨XR,HB⟩:=Bo.en1 hW1;replace hT:=hT.below HB.out;replace h:=h.below HB.out;clear hW1
 go_wp2_with fail
 refine(fkEmpty h HP.out).mono ?_;rintro ee w2 ⟨rfl,B⟩;replace XR:=XR.b B;replace hT:=hT.b B;replace h:=h.b B;replace HB:=Hqb HB B;clear B
 cases p
 ·have hok:=h.ok;have hae:=(add_ends HP.out hok).trans hr;obtain⟨u,hu⟩:∃u,smA false (lowL l)=u:=⟨_,rfl⟩;obtain⟨v,hv⟩:∃v,smA true (highL l)=v:=⟨_,rfl⟩
  have hz:mkI u v=z:=by rw[<-hu,<-hv];exact hae
  have HU:=ie hu;have HV:=ie hv;have HZ:=ie hz;clear hok hae hu hv hz hr;go_wp2
  go_loopw [3,4,12] (fun va vb i wr=>∃k A1 B1 c1 d1,k<=n/\va= .slice A1 k c1/\vb= .slice B1 k d1/\i= .int .i64 ((k:Nat):Int)/\EInv w2 A1 B1 k c1 d1 (lowL (l.take k)) (highL (l.take k)) wr) (fun _ _ i _=>n-(intOf i).toNat)
  case atStart=>exact ⟨0,_,_,_,_,Nat.zero_le _,rfl,rfl,rfl,Na.nil _ _,Na.nil _ _,(fun k h=>by cases h),Below.refl _ _⟩
  case round=>
   obtain⟨k,A1,B1,c1,d1,hk,rfl,rfl,rfl,N1,N2,hne,hB⟩:=hrel;have HB0:=HB;replace HB:=ie hB;clear hB
   by_cases hlt:k < n
   ·have tlt:decide ((k:Int) < (n:Int))=true:=by simp;omega
    have h':=h.below HB.out
    obtain⟨a0,b0,hg⟩:=gone_get HP.out (k:=k) (by rw[HLn.out];exact hlt);have hsl:=lowL_take (l:=l) (k:=k) (by rw[HLn.out];exact hlt);have hsh:=highL_take (l:=l) (k:=k) (by rw[HLn.out];exact hlt);rw[hg]at hsl hsh;obtain⟨b,o,rfl,hcell⟩:=h'.2.2.2 (by omega);obtain⟨e,D,s,M,E,D',s',M',E',x0,x1,x2,x3,x4,x5,x6,x7,x8,hM,hM',hx⟩:=hcell k hlt;rw[hg]at hx
    obtain⟨rfl,a1,b1,_,_,_⟩:=ci_some hM hM' hx;clear hcell h' h hx hM hM'
    have i1:(k:Int) < n:=by omega
    have i2:(0:Int)<=k:=by omega
    generalize lowL (l.take k)=la at *;generalize highL (l.take k)=lb at *
    have HSL:Hid (lowL (l.take (k+1))=la ++[a0]):=ie hsl
    have HSH:Hid (highL (l.take (k+1))=lb ++[b0]):=ie hsh
    have HNE:=ie hne;clear hsl hsh hne hg HU HV HZ HP XR hT HB0
    go_upto_region 7 with (fail)
    clear x0 x1 x2 x3 x4 x5 x6 x7 x8;generalize hWn:wr.alloc _=w6 at *;obtain⟨X6,BW⟩:=Bo.nw hWn;clear hWn;replace N1:=N1.b BW;replace N2:=N2.b BW;replace HB:=Hqb HB BW;clear BW;have xX6:=X6.cell
    go_wp2_with (at_builtin;refine wpList_na rfl _ _ rfl rfl rfl (N1.below (bel1 _ _)) a1 (Bo.new _ _ _) (by omega) (Nat.le_trans HB.out.size (bel1 _ _).size) ?_)
    intro A2 d2 w7 N1' G1 at1
    clear xX6;have hB2:=bt HB.out (bel1 _ (.cells #[.int .i64 D,.bool s,.int .u64 M,.int .i64 E] 24));have N1b:=N1.below (bel1 _ (.cells #[.int .i64 D,.bool s,.int .u64 M,.int .i64 E] 24));have N2b:=N2.below (bel1 _ (.cells #[.int .i64 D,.bool s,.int .u64 M,.int .i64 E] 24));replace X6:=(X6.below (bel1 _ (.cells #[.int .i64 D,.bool s,.int .u64 M,.int .i64 E] 24))).grownN N1b (by decide) G1
    replace HB:=ie (hB2.grown G1 hB2.size (fun k hk=>(N1b.own_lt k hk).1))
    have l1:∀k,ownA B1=some k->k < w6.heap.size+1:=fun k hk=>by
     have:=(N2b.own_lt k hk).2
     simpa using this
    replace N2:=N2b.kept G1 (own_ne HNE.out);clear N1 N1b N2b G1 hB2;have xX6:=X6.cell
    go_wp2_with (at_builtin;refine wpList_na rfl _ _ rfl rfl rfl (N2.below (bel1 _ _)) b1 (Bo.new _ _ _) (by omega) (Nat.le_trans HB.out.size (bel1 _ _).size) ?_)
    intro B2 d3 w8 N2' G2 at2
    clear xX6;have hB2:=bt HB.out (bel1 _ (.cells #[.int .i64 D',.bool s',.int .u64 M',.int .i64 E'] 24));have N2b:=N2.below (bel1 _ (.cells #[.int .i64 D',.bool s',.int .u64 M',.int .i64 E'] 24));have N1b:=N1'.below (bel1 _ (.cells #[.int .i64 D',.bool s',.int .u64 M',.int .i64 E'] 24))
    have lA:∀k,ownA A2=some k->k < w7.heap.size+1:=fun k hk=>by
     have:=(N1b.own_lt k hk).2
     simpa using this
    have hne2:∀k,ownA A2=some k->ownA B2≠some k:=ne_row HNE.out at1 at2 l1 lA
    have hne1:∀k,ownA A2=some k->ownA B1≠some k:=ne_row HNE.out at1 (.inl rfl) l1 lA
    replace HB:=ie (hB2.grown G2 hB2.size (fun k hk=>(N2b.own_lt k hk).1))
    replace N1':=N1b.kept G2 (own_ne' hne1)
    have t1:=HSL.out;have t2:=HSH.out;clear N1b N2b G2 hB2 hne1 X6 N2 l1 lA at1 at2 HSL HSH HNE;go_wp2
    go_roundw
    case rel=>exact ⟨k+1,_,_,_,_,by omega,rfl,rfl,by go_num,by rw[t1];exact N1',by rw[t2];exact N2',hne2,HB.out⟩
    case measure=>simp [intOf];omega
   ·obtain rfl:k=n:=by omega
    have tlt:decide ((k:Int) < (k:Int))=false:=by simp
    have e1:l.take k=l:=List.take_of_length_le (by rw[HLn.out];omega)
    rw[e1]at N1 N2;have L1:=N1.nl (by omega);have L2:=N2.nl (by omega);replace XR:=XR.below HB.out;replace hT:=hT.below HB.out;replace HB:=ie (bt HB0.out HB.out);clear N1 N2 e1 hne HB0 h HP
    go_wp2_with fail
    refine(aSum hT L1 HU.out).mono ?_;rintro ee w9 ⟨K21,s21,M21,E21,rfl,q21,B⟩;replace XR:=XR.b B;replace hT:=hT.b B;replace L2:=L2.b B;replace HB:=Hqb HB B;clear B
    go_wp2_with fail
    refine(aSum hT L2 HV.out).mono ?_;rintro ee wA ⟨K22,s22,M22,E22,rfl,q22,B⟩;replace XR:=XR.b B;replace HB:=Hqb HB B;clear B
    go_wp2_with fail
    refine(kvMake q21.top q22.top q21.rk q22.rk HZ.out).mono ?_;rintro ee wB ⟨e23,K23,s23,M23,E23,K23b,s23b,M23b,E23b,rfl,v23,B⟩;replace XR:=XR.b B;replace HB:=Hqb HB B;clear B;clear L1 L2 hT;have xXR:=XR.cell;have zXR0:=XR.frozen;go_wp2;clear xXR zXR0;have SX:=StN.t9 XR e23 K23 s23 M23 E23 K23b s23b M23b E23b
    exact bq (by simp[results,Tryz.results43,go_sem,SX.box.cell]) rfl ⟨_,_,_,_,_,_,_,_,_,rfl,v23,(SX.below HB.out (by omega))⟩
 ·obtain rfl:none=z:=(add_gone HP.out).symm.trans hr
  clear HP hT h hr
  go_wp2_with fail
  refine(kvNoneE).mono ?_;rintro ee w3 ⟨rfl,B⟩;replace XR:=XR.b B;replace HB:=Hqb HB B;clear B;have xXR:=XR.cell;have zXR0:=XR.frozen;go_wp2;clear xXR zXR0;have SX:=StN.t9 XR true 0 false 0 0 0 false 0 0
  exact bq (by simp[results,Tryz.results43,go_sem,SX.box.cell]) rfl ⟨_,_,_,_,_,_,_,_,_,rfl,Ci.none,(SX.below HB.out (by omega))⟩
theorem fkSub{w:World}{e:Bool}{D M E D' M' E':Int}{s s':Bool}{e2:Bool}{G P Q G' P' Q':Int}{g g':Bool}{x y z:Sp}(hT:Tb w)(hM:LQ M)(hM':LQ M')(hP:LQ P)(hP':LQ P')(hx:rkI e D s M E D' s' M' E'=x)(hy:rkI e2 G g P Q G' g' P' Q'=y)(hr:subI x y=z):Calls Tryz.prog 49 #[VI e D s M E D' s' M' E',VI e2 G g P Q G' g' P' Q'] w (PV w z):=by
 delta VI
 obtain⟨m,hm⟩:∃m,negI y=m:=⟨_,rfl⟩
 have hr2:addL [x,m]=z:=by rw[<-hm];exact hr
 have HX:=ie hx;have HY:=ie hy;have HM:=ie hm;have HR:=ie hr2;clear hx hy hm hr hr2
 go_enter Tryz.func49,Tryz.ntmps49
 go_upto_region 1 with (fail)
 generalize hW1:((w.alloc _).alloc _).alloc _=w1 at *;obtain⟨X2,X3,XR,HB⟩:=Bo.en3 hW1;replace hT:=hT.below HB.out;clear hW1;refine jk [0,1,2,3,4] [some 5,some 6,some 7,some 8,some 9,none] [[],[],[1],[0,2],[3],[]] 6 1 [Jo.q9 e D s M E D' s' M' E',Jo.q9 e2 G g P Q G' g' P' Q',Jo.Fact.iv m,Jo.Fact.il8 2 [x,m],Jo.Fact.iv z,Jo.Fact.any] ?_ ?_
 ·iterate 2 (refine jm ?_ ?_;rotate_left)
  refine jm ?_ ?_
  ·rintro wj hJ _ rfl K hK;simp only[Jo.z]at hK|-;go_simp;exact Jo.v1 (fkNeg hP hP' HY.out HM.out) hK.out
  refine jm ?_ ?_
  ·rintro wj hJ _ rfl _ ⟨e1,K1,s1,M1,E1,K1b,s1b,M1b,E1b,rfl,v1⟩ K hK;simp only[Jo.z]at hK|-;go_simp;exact hK.out _ _ ⟨_,2,rfl,Il8.lit2 rfl ⟨hM,hM',HX.out⟩ v1.rw⟩ (bel1 _ _)
  refine jm ?_ ?_
  ·rintro wj hJ _ ⟨A3,c3,rfl,h3⟩ K hK;simp only[Jo.z]at hK|-;go_simp;exact Jo.v1 (fkAdd (hT.b hJ) h3 HR.out) hK.out
  exact jo
  all_goals (rintro wj hJ;(repeat rintro _ rfl);intro K hK;simp only[Jo.z]at hK|-;have xX2:=(X2.b hJ).cell;have xX3:=(X3.b hJ).cell;go_simp;exact hK.out _ _ rfl (br _ _))
 rintro w8 hJ _ rfl _ rfl _ ⟨e1,K1,s1,M1,E1,K1b,s1b,M1b,E1b,rfl,v1⟩ _ ⟨_,_,rfl,_⟩ _ ⟨e2,K2,s2,M2,E2,K2b,s2b,M2b,E2b,rfl,v2⟩ -;simp only[Jo.z];replace XR:=XR.b hJ;replace HB:=Hqb HB hJ;have xXR:=XR.cell;have zXR0:=XR.frozen
 refine jn 5 fun K hK=>?_
 go_simp;refine hK.out _ _ ?_;clear hK K xXR zXR0;have SX:=StN.t9 XR e2 K2 s2 M2 E2 K2b s2b M2b E2b;refine jd ?_;go_wp2;exact bq (by simp[results,Tryz.results49,go_sem,SX.box.cell]) rfl ⟨_,_,_,_,_,_,_,_,_,rfl,v2,(SX.below HB.out (by omega))⟩
theorem blen_word{α:Nat}(h0:9223372036854775808<=α)(h1:α < 18446744073709551616):blen α=64:=blen_uniq (k:=63) (by omega) h0 h1
theorem div_pre{up s t:Bool}{M1 E1 M2 E2 x y r:Int}{α β:Nat}(q1:Fq 1 s M1 E1 x)(q2:Fq 1 t M2 E2 y)(ha:(α:Int)=M1)(hb:(β:Int)=M2)(hr:Qt up x y r)(hβ:0 < β):
  ∃P:Bool->Bool->Int->Prop,(∀σ up r',Sid up (sgi σ ((α:Int)*2^(E1-E2+(KK:Int)).toNat)) (β:Int) r'->P σ up r')/\(∀r',P (s !=t) up r'->r'=r):=by
 refine⟨_,fun _ _ _ h=>h,fun r' h=>?_⟩
 have e0:E1-E2+((0:Nat):Int)-((0:Nat):Int)+(KK:Int)=E1-E2+(KK:Int):=by omega
 exact(div_side (v:=0) (w:=0) q1 q2 (by rw[<-ha];exact(Int.mul_one _).symm) (by rw[<-hb];exact(Int.mul_one _).symm) hβ (by decide) (by decide) (by rw[e0];exact h)).uniq hr
theorem kDiv{w:World}{D D' M M' E E':Int}{s s':Bool}{up:Bool}{x y r:Int}(hT:Tab w)(hM:LQ M)(hM':LQ M')(hx:rk D s M E=x)(hy:rk D' s' M' E'=y)(hr:Qt up x y r):Calls Tryz.prog 160 #[VQ D s M E,VQ D' s' M' E',.bool up] w (PN w r):=by
 delta VQ
 obtain⟨K1,s1,M1,E1,q1⟩:=fq_tk7 (D:=D) (s:=s) (M:=M) (E:=E) hM;obtain⟨K2,s2,M2,E2,q2⟩:=fq_tk7 (D:=D') (s:=s') (M:=M') (E:=E') hM';rw[hx]at q1;rw[hy]at q2;have HX:=ie hx;have HY:=ie hy;clear hx hy
 go_enter Tryz.func160,Tryz.ntmps160
 go_upto_region 1 with (fail)
 generalize hW1:((w.alloc _).alloc _).alloc _=w1 at *;obtain⟨X3,X4,XR,HB⟩:=Bo.en3 hW1;replace hT:=hT.below HB.out;clear hW1;refine jk [0,1,2,3] [some 7,some 8,some 9,some 10,none,none] [[],[0],[],[2],[],[]] 6 2 [Jo.q4 D s M E,Jo.q4 K1 s1 M1 E1,Jo.q4 D' s' M' E',Jo.q4 K2 s2 M2 E2,Jo.Fact.any,Jo.Fact.any] ?_ ?_
 ·refine jm ?_ ?_;rotate_left
  refine jm ?_ ?_
  ·rintro wj hJ _ rfl K hK;simp only[Jo.z]at hK|-;go_simp;refine(qTaken hM q1 HX.out).mono ?_;rintro ee wk ⟨rfl,B⟩;exact hK.out _ _ rfl B
  refine jm ?_ ?_;rotate_left
  refine jm ?_ ?_
  ·rintro wj hJ _ rfl K hK;simp only[Jo.z]at hK|-;go_simp;refine(qTaken hM' q2 HY.out).mono ?_;rintro ee wk ⟨rfl,B⟩;exact hK.out _ _ rfl B
  exact jo
  all_goals (rintro wj hJ;(repeat rintro _ rfl);intro K hK;simp only[Jo.z]at hK|-;have xX3:=(X3.b hJ).cell;have xX4:=(X4.b hJ).cell;go_simp;exact hK.out _ _ rfl (br _ _))
 rintro w2 hJ _ rfl _ rfl _ rfl _ rfl -;simp only[Jo.z];replace X3:=X3.b hJ;replace X4:=X4.b hJ;replace XR:=XR.b hJ;replace hT:=hT.b hJ;replace HB:=Hqb HB hJ;have xX3:=X3.cell;have zX30:=X3.frozen
 refine jn 4 fun K hK=>?_
 go_simp;refine hK.out _ _ ?_;clear hK K xX3 zX30;generalize hS:(((w2.setCell _ _).setCell _ _).setCell _ _).setCell _ _=w3 at *;have SX:=StN.of4 X3 hS;replace X4:=X4.s SX;replace XR:=XR.s SX;replace hT:=hT.s SX;replace HB:=Hqs HB SX (by omega);replace X3:=SX.box;clear SX hS;have xX4:=X4.cell
 have zX40:=X4.frozen
 refine jn 5 fun K hK=>?_
 go_simp;refine hK.out _ _ ?_;clear hK K xX4 zX40;generalize hS:(((w3.setCell _ _).setCell _ _).setCell _ _).setCell _ _=w4 at *;have SX:=StN.of4 X4 hS;replace X3:=X3.s SX;replace XR:=XR.s SX;replace hT:=hT.s SX;replace HB:=Hqs HB SX (by omega);replace X4:=SX.box;clear SX hS;refine jd ?_
 clear HX HY hM hM';have i1:=fq_inf q1;have i2:=fq_inf q2;have z1:=q1.zero_iff;have z2:=q2.zero_iff
 have kk1:K1=2\/K1=0\/K1=1:=by rcases q1.cases with⟨h,_⟩ | ⟨h,_⟩ | ⟨h,_⟩ <;> omega
 have kk2:K2=2\/K2=0\/K2=1:=by rcases q2.cases with⟨h,_⟩ | ⟨h,_⟩ | ⟨h,_⟩ <;> omega
 rcases kk1 with rfl | rfl | rfl
 ·rcases kk2 with rfl | rfl | rfl
  ·have hy0:y≠0:=fun c=>absurd (z2.2 c) (by decide)
   have hr2:r=0:=(qt_zero hy0 (.inr i2)).1 hr
   subst hr2;clear i1 i2 z1 z2 q1 q2 hr hy0 hT;have xXR:=XR.cell;have zXR0:=XR.frozen;have xX3:=X3.cell;have xX4:=X4.cell;go_wp2;clear xXR zXR0 xX3 xX4;have SX:=StN.t4 XR 0 false 0 0;exact bq (by simp[results,Tryz.results160,go_sem,SX.box.cell]) rfl ⟨_,_,_,_,rfl,Fq.nought,(SX.below HB.out (by omega))⟩
  ·have hr2:sgi (!up) TP=r:=by
    rw[z2.1 rfl]at hr;exact(qt_none'.1 hr).symm
   have HRR:=ie hr2;clear i1 i2 z1 z2 q1 q2 hr hr2 hT;have xX3:=X3.cell;have xX4:=X4.cell
   go_wp2_with fail
   refine(qAway HRR.out).mono ?_;rintro ee w6 ⟨K3,s3,M3,E3,rfl,q3,B⟩;clear xX3 xX4;replace X3:=X3.b B;replace X4:=X4.b B;replace XR:=XR.b B;replace HB:=Hqb HB B;clear B;have xXR:=XR.cell;have zXR0:=XR.frozen;go_wp2;clear xXR zXR0;have SX:=StN.t4 XR K3 s3 M3 E3
   exact bq (by simp[results,Tryz.results160,go_sem,SX.box.cell]) rfl ⟨_,_,_,_,rfl,q3,(SX.below HB.out (by omega))⟩
  ·have hy0:y≠0:=fun c=>absurd (z2.2 c) (by decide)
   have hn:¬(x=0\/infp y=true):=by
    rw[i2];rintro (c | c)
    ·exact absurd (z1.2 c) (by decide)
    ·exact absurd c (by decide)
   have sx:decide (x < 0)=s1:=by
    rcases q1.three with⟨a,_⟩ | ⟨_,rfl,b⟩ | ⟨_,rfl,b⟩
    ·exact absurd a (by decide)
    ·exact df (by omega)
    ·exact dt b
   have sy:decide (y < 0)=s2:=by
    rcases q2.three with⟨a,_⟩ | ⟨_,rfl,b⟩ | ⟨_,rfl,b⟩
    ·exact absurd a (by decide)
    ·exact df (by omega)
    ·exact dt b
   have hr2:sgi (s1 !=s2) TP=r:=by
    have:=(qt_inf hy0 hn i1).1 hr
    rw[sx,sy]at this;exact this.symm
   have HRR:=ie hr2;clear i1 i2 z1 z2 q1 q2 hr hr2 sx sy hn hy0 hT;have xX3:=X3.cell;have xX4:=X4.cell
   go_wp2_with fail
   refine(nInf (s:=s1 !=s2) HRR.out).mono ?_;rintro ee w6 ⟨K3,s3,M3,E3,rfl,q3,B⟩;clear xX3 xX4;replace X3:=X3.b B;replace X4:=X4.b B;replace XR:=XR.b B;replace HB:=Hqb HB B;clear B;have xXR:=XR.cell;have zXR0:=XR.frozen;go_wp2;clear xXR zXR0;have SX:=StN.t4 XR K3 s3 M3 E3
   exact bq (by simp[results,Tryz.results160,go_sem,SX.box.cell]) rfl ⟨_,_,_,_,rfl,q3,(SX.below HB.out (by omega))⟩
 ·rcases kk2 with rfl | rfl | rfl
  ·have hy0:y≠0:=fun c=>absurd (z2.2 c) (by decide)
   have hr2:r=0:=(qt_zero hy0 (.inl (z1.1 rfl))).1 hr
   subst hr2;clear i1 i2 z1 z2 q1 q2 hr hy0 hT;have xXR:=XR.cell;have zXR0:=XR.frozen;have xX3:=X3.cell;have xX4:=X4.cell;go_wp2;clear xXR zXR0 xX3 xX4;have SX:=StN.t4 XR 0 false 0 0;exact bq (by simp[results,Tryz.results160,go_sem,SX.box.cell]) rfl ⟨_,_,_,_,rfl,Fq.nought,(SX.below HB.out (by omega))⟩
  ·have hr2:sgi (!up) TP=r:=by
    rw[z2.1 rfl]at hr;exact(qt_none'.1 hr).symm
   have HRR:=ie hr2;clear i1 i2 z1 z2 q1 q2 hr hr2 hT;have xX3:=X3.cell;have xX4:=X4.cell
   go_wp2_with fail
   refine(qAway HRR.out).mono ?_;rintro ee w6 ⟨K3,s3,M3,E3,rfl,q3,B⟩;clear xX3 xX4;replace X3:=X3.b B;replace X4:=X4.b B;replace XR:=XR.b B;replace HB:=Hqb HB B;clear B;have xXR:=XR.cell;have zXR0:=XR.frozen;go_wp2;clear xXR zXR0;have SX:=StN.t4 XR K3 s3 M3 E3
   exact bq (by simp[results,Tryz.results160,go_sem,SX.box.cell]) rfl ⟨_,_,_,_,rfl,q3,(SX.below HB.out (by omega))⟩
  ·have hy0:y≠0:=fun c=>absurd (z2.2 c) (by decide)
   have hr2:r=0:=(qt_zero hy0 (.inl (z1.1 rfl))).1 hr
   subst hr2;clear i1 i2 z1 z2 q1 q2 hr hy0 hT;have xXR:=XR.cell;have zXR0:=XR.frozen;have xX3:=X3.cell;have xX4:=X4.cell;go_wp2;clear xXR zXR0 xX3 xX4;have SX:=StN.t4 XR 0 false 0 0;exact bq (by simp[results,Tryz.results160,go_sem,SX.box.cell]) rfl ⟨_,_,_,_,rfl,Fq.nought,(SX.below HB.out (by omega))⟩
 ·rcases kk2 with rfl | rfl | rfl
  ·have hy0:y≠0:=fun c=>absurd (z2.2 c) (by decide)
   have hr2:r=0:=(qt_zero hy0 (.inr i2)).1 hr
   subst hr2;clear i1 i2 z1 z2 q1 q2 hr hy0 hT;have xXR:=XR.cell;have zXR0:=XR.frozen;have xX3:=X3.cell;have xX4:=X4.cell;go_wp2;clear xXR zXR0 xX3 xX4;have SX:=StN.t4 XR 0 false 0 0;exact bq (by simp[results,Tryz.results160,go_sem,SX.box.cell]) rfl ⟨_,_,_,_,rfl,Fq.nought,(SX.below HB.out (by omega))⟩
  ·have hr2:sgi (!up) TP=r:=by
    rw[z2.1 rfl]at hr;exact(qt_none'.1 hr).symm
   have HRR:=ie hr2;clear i1 i2 z1 z2 q1 q2 hr hr2 hT;have xX3:=X3.cell;have xX4:=X4.cell
   go_wp2_with fail
   refine(qAway HRR.out).mono ?_;rintro ee w6 ⟨K3,s3,M3,E3,rfl,q3,B⟩;clear xX3 xX4;replace X3:=X3.b B;replace X4:=X4.b B;replace XR:=XR.b B;replace HB:=Hqb HB B;clear B;have xXR:=XR.cell;have zXR0:=XR.frozen;go_wp2;clear xXR zXR0;have SX:=StN.t4 XR K3 s3 M3 E3
   exact bq (by simp[results,Tryz.results160,go_sem,SX.box.cell]) rfl ⟨_,_,_,_,rfl,q3,(SX.below HB.out (by omega))⟩
  ·have hy0:y≠0:=fun c=>absurd (z2.2 c) (by decide)
   obtain⟨a1,a2,a3,a4,_⟩:=fq_vr q1;obtain⟨b1,b2,b3,b4,_⟩:=fq_vr q2;obtain⟨α,hα⟩:∃α:Nat,(α:Int)=M1:=⟨M1.toNat,by omega⟩
   obtain⟨β,hβ⟩:∃β:Nat,(β:Int)=M2:=⟨M2.toNat,by omega⟩
   have α1:9223372036854775808<=α:=by omega
   have α2:α < 18446744073709551616:=by omega
   have β1:9223372036854775808<=β:=by omega
   have β2:β < 18446744073709551616:=by omega
   obtain⟨P,hP,hPr⟩:=div_pre q1 q2 hα hβ hr (by omega);obtain⟨e,he⟩:∃e,E1-E2=e:=⟨_,rfl⟩;rw[he]at hP
   have eb1: -2200000<=e:=by omega
   have eb2:e<=2200000:=by omega
   have eb3:e-((blen β:Int)-(blen α:Int)+64)<=2097152:=by
    rw[blen_word α1 α2,blen_word β1 β2]
    omega
   have HPP:=ie hP;have HPR:=ie hPr;have HA:=ie hα;have HBE:=ie hβ
   have HW:Hid (IntKind.i64.wrap (E1-E2)=e):=ie (by rw[he];exact IntWalk.i64_in _ (by omega))
   have HW2:Hid (wrap64 (E1-E2)=e):=ie (by rw[he];exact IntWalk.wrap64_in _ (by omega))
   have α0:0 < α:=by omega
   have β0:0 < β:=by omega
   clear i1 i2 z1 z2 hr hy0 a1 a2 a3 a4 b1 b2 b3 b4 hP hPr he hα hβ α1 β1 q1 q2;have xX3:=X3.cell;have xX4:=X4.cell
   go_upto_region 8 with (fail)
   clear xX3 xX4;refine jk [0,1,2,3,4,5,6,7,8,9,10,11,12,13,14,15,16,17,18] [some 37,some 38,some 39,some 40,some 41,some 42,some 43,some 44,some 45,some 46,some 47,some 48,some 49,some 50,some 51,some 52,some 53,some 54,some 55,none] [[],[0],[1],[],[3],[4],[],[6],[],[8],[7,9],[2,5,10],[],[12],[],[14],[13,15],[],[11,16,17],[]] 20 1 [Jo.qp w.heap.size 2,Jo.Fact.eq (.int .u64 M1),Jo.Fact.rd α 2,Jo.qp (w.heap.size+1) 2,Jo.Fact.eq (.int .u64 M2),Jo.Fact.rd β 2,Jo.qp w.heap.size 3,Jo.qi E1,Jo.qp (w.heap.size+1) 3,Jo.qi E2,Jo.qi e,Jo.Fact.pk P,Jo.qp w.heap.size 1,Jo.qb s1,Jo.qp (w.heap.size+1) 1,Jo.qb s2,Jo.Fact.eq (.bool (s1 !=s2)),Jo.qb up,Jo.Fact.num r,Jo.Fact.any] ?_ ?_
   ·refine jm ?_ ?_;rotate_left
    refine jm ?_ ?_
    ·rintro wj hJ _ rfl K hK;simp only[Jo.z]at hK|-;have xX32:=(X3.b hJ).a 2 (.int .u64 M1) rfl;go_simp;exact hK.out _ _ rfl (br _ _)
    refine jm ?_ ?_
    ·rintro wj hJ _ rfl K hK;simp only[Jo.z]at hK|-;go_simp;refine(qLimbs HA.out α2).mono ?_;rintro ee wk ⟨A2,rfl,p2,B⟩;exact hK.out _ _ ⟨A2,2,2,rfl,p2,Nat.le_refl _⟩ B
    refine jm ?_ ?_;rotate_left
    refine jm ?_ ?_
    ·rintro wj hJ _ rfl K hK;simp only[Jo.z]at hK|-;have xX42:=(X4.b hJ).a 2 (.int .u64 M2) rfl;go_simp;exact hK.out _ _ rfl (br _ _)
    refine jm ?_ ?_
    ·rintro wj hJ _ rfl K hK;simp only[Jo.z]at hK|-;go_simp;refine(qLimbs HBE.out β2).mono ?_;rintro ee wk ⟨A5,rfl,p5,B⟩;exact hK.out _ _ ⟨A5,2,2,rfl,p5,Nat.le_refl _⟩ B
    refine jm ?_ ?_;rotate_left
    refine jm ?_ ?_
    ·rintro wj hJ _ rfl K hK;simp only[Jo.z]at hK|-;have xX33:=(X3.b hJ).a 3 (.int .i64 E1) rfl;go_simp;exact hK.out _ _ rfl (br _ _)
    refine jm ?_ ?_;rotate_left
    refine jm ?_ ?_
    ·rintro wj hJ _ rfl K hK;simp only[Jo.z]at hK|-;have xX43:=(X4.b hJ).a 3 (.int .i64 E2) rfl;go_simp;exact hK.out _ _ rfl (br _ _)
    refine jm ?_ ?_
    ·rintro wj hJ _ rfl _ rfl K hK;simp only[Jo.z]at hK|-;have hw:=HW.out;have hw2:=HW2.out;go_simp
     exact hK.out _ _ (by first | rfl | (show Value.int _ _=Value.int _ _;first | rw[hw] | rw[hw2])) (br _ _)
    refine jm ?_ ?_
    ·rintro wj hJ _ ⟨A2,n2,c2,rfl,p2,k2⟩ _ ⟨A5,n5,c5,rfl,p5,k5⟩ _ rfl K hK;simp only[Jo.z]at hK|-;go_simp;refine(qDivided p2 p5 (by omega) (by omega) α0 β0 eb1 eb2 eb3 HPP.out).mono ?_;rintro ee wk ⟨A7,n7,c7,t7,x7,rfl,p7,B⟩;exact hK.out _ _ ⟨A7,n7,c7,t7,x7,rfl,p7⟩ B
    refine jm ?_ ?_;rotate_left
    refine jm ?_ ?_
    ·rintro wj hJ _ rfl K hK;simp only[Jo.z]at hK|-;have xX31:=(X3.b hJ).a 1 (.bool s1) rfl;go_simp;exact hK.out _ _ rfl (br _ _)
    refine jm ?_ ?_;rotate_left
    refine jm ?_ ?_
    ·rintro wj hJ _ rfl K hK;simp only[Jo.z]at hK|-;have xX41:=(X4.b hJ).a 1 (.bool s2) rfl;go_simp;exact hK.out _ _ rfl (br _ _)
    iterate 2 (refine jm ?_ ?_;rotate_left)
    refine jm ?_ ?_
    ·rintro wj hJ _ ⟨A7,n7,c7,t7,x7,rfl,p7⟩ _ rfl _ rfl K hK;simp only[Jo.z]at hK|-;go_simp;exact Jo.n1 (qRound (hT.b hJ) p7 HPR.out) hK.out
    exact jo
    all_goals (rintro wj hJ;(repeat rintro _ rfl);intro K hK;simp only[Jo.z]at hK|-;go_simp;exact hK.out _ _ rfl (br _ _))
   rintro w8 hJ _ _ _ rfl _ ⟨_,_,_,rfl,_⟩ _ _ _ rfl _ ⟨_,_,_,rfl,_⟩ _ _ _ rfl _ _ _ rfl _ rfl _ ⟨_,_,_,_,_,rfl,_⟩ _ _ _ rfl _ _ _ rfl _ rfl _ rfl _ ⟨K9,s9,M9,E9,rfl,q9⟩ -;simp only[Jo.z];replace XR:=XR.b hJ;replace HB:=Hqb HB hJ;have xXR:=XR.cell;have zXR0:=XR.frozen
   refine jn 19 fun K hK=>?_
   go_simp;refine hK.out _ _ ?_;clear hK K xXR zXR0;have SX:=StN.t4 XR K9 s9 M9 E9;refine jd ?_;go_wp2;exact bq (by simp[results,Tryz.results160,go_sem,SX.box.cell]) rfl ⟨_,_,_,_,rfl,q9,(SX.below HB.out (by omega))⟩
end Go.Proofs.YtomikokonmikgaaGreatDoor
namespace Go.Proofs.YtomikokonmikgaaGreatDoor
open Go Go.RowKit
set_option linter.unusedVariables false
theorem one_fix:fixI (opl 1)=SC:=by
 rw[fixI_yes (fix_unit (by decide) (Int.le_refl _)).1,one_vr,Int.mul_comm];exact Int.mul_ediv_cancel _ (by have:=p2pos KK;omega)
theorem nought_fix:fixI 0=0:=by
 rw[fixI_yes (fix_unit (by decide) (by decide)).1,show vr 0=0 from rfl,Int.zero_mul]
 exact Int.zero_ediv _
theorem ang_nought:pAng 0=0:=by
 unfold pAng
 rw[if_neg (by decide),show pU 0=0 by decide,Rat.intCast_zero,show (0:Rat) /SR=0 by grind,at_zero]
 grind
theorem four_one{q:Bool->Int->Int->Int}{Z:Sp}(h:AtV q (opl 1) Z):∃a b,meetI (mulI (some (opl 4,opl 4)) Z) PiS=some (a,b):=by
 obtain⟨f1,f2,f3,f4,f5,f6⟩:=four_bd
 rcases h with⟨c,_⟩ | ⟨_,h⟩
 ·exact absurd c (by decide)
 rcases h with⟨c,_⟩ | ⟨_,_,h⟩ | ⟨_,c,_⟩
 ·exact absurd c (by decide)
 ·rw[one_fix]at h;obtain⟨f,l,u⟩:=h.is (by decide) (Int.le_refl _);rw[ang_one]at l u;have l:=l (qt/2) (by grind);have u:=u (qt/2) (by grind)
  have fn:FinI (some (opl 4,opl 4)):=⟨Int.le_refl _,by omega,by omega⟩
  have e:V (opl 4)=4:=by
   have v4:vr (opl 4)=4*2^KK:=opl_vr (by decide) (by decide)
   have a:=V_at (opl 4)
   rw[v4,Rat.intCast_mul,show ((2^KK:Int):Rat)=BR from rfl,show ((4:Int):Rat)=4 from rfl]at a
   have bp:=br_pos;refine Rat.le_antisymm (Rat.le_of_mul_le_mul_right (c:=BR) ?_ bp) (Rat.le_of_mul_le_mul_right (c:=BR) ?_ bp) <;> grind
  have nl:LoR 4 (some (opl 4,opl 4)):= .inr (by rw[<-e,V_at];exact Rat.le_refl)
  have nh:HiR 4 (some (opl 4,opl 4)):= .inr (by rw[<-e,V_at];exact Rat.le_refl)
  obtain⟨p1,p2,p3⟩:=mul_R fn f nl nh l u
  rw[show 4*(qt/2)=2*qt by grind]at p1 p2
  exact meet_R p3 PiS.fin.ok p1 p2 PiS.holds.1 PiS.holds.2
 ·exact absurd (Int.le_refl _) c
theorem q_nought{q:Bool->Int->Int->Int}(hq:QF q)(up:Bool){x:Int}(hx:x≠0):q up 0 x=0:=(qt_zero hx (.inl rfl)).1 (hq up 0 x)
theorem pi_places:opl 25-3*9223372036854775808<=PIL/\PIL+1<=opl 13-2*9223372036854775808/\0 < opl 25-3*9223372036854775808/\0 < opl 13-2*9223372036854775808/\0 < opl 7-9223372036854775808/\0 < opl 1-9223372036854775808/\opl 7 < 19342822337206103650074625/\opl 3 < 19342822337206103650074625/\0 < opl 3/\opl 1 < 19342822337206103650074625:=by decide
theorem shift_down{n:Int}{k:Nat}{p:Int}(hp:0 < p)(e:p+k*9223372036854775808=opl n)(h0:0<=n)(hn:n<=9223372036854775807):vr p*2^k=n*2^KK:=by
 have s:=vr_shifts hp k;rw[e,opl_vr (by omega) hn]at s;exact s.symm
theorem left_ok{q:Bool->Int->Int->Int}(hq:QF q){A:Sp}(h:AngV q 0 (opl (-1)) A):(∃a b,meetI A PiS=some (a,b))/\widI A < opl 1:=by
 obtain⟨f1,f2,f3,f4,f5,f6⟩:=four_bd;obtain⟨g1,g2,g3,g4,g5,g6,g7,g8,g9,g10⟩:=pi_places;obtain⟨o1,o2⟩:=two_bd
 have ne:opl (-1)≠0:=by decide
 have PF:=PiS.fin;have PH:=PiS.holds
 rcases h with⟨c,_⟩ | ⟨_,P,Q,hP,hQ,eA⟩
 ·exact absurd c ne
 ·rw[q_nought hq _ ne]at hP hQ
  obtain rfl:=hP.one hQ
  rw[if_neg (by decide),if_neg (by decide)]at eA
  have hPP:AtP q 0 P:=by
   rcases hP with⟨c,_⟩ | ⟨_,h⟩
   ·exact absurd c (by decide)
   ·exact h
  have part:PartS 0 P:=by
   rcases hPP with⟨c,_⟩ | ⟨_,_,h⟩ | ⟨_,c,_⟩
   ·exact absurd c (by decide)
   ·rw[nought_fix]at h;exact h
   ·exact absurd (show (0:Int)<=opl 1 by decide) c
  obtain⟨f,l,u⟩:=part.is (Int.le_refl _) (by decide);rw[ang_nought]at l u;have l:=l 0 (by grind);have u:=u 0 (by grind);obtain⟨r,t,rfl,rt,r1,t1,lo,hi⟩:=part_V part (Int.le_refl _) (by decide)
  have okP:SpOk (some (r,t)):=⟨by omega,rt,by omega,by omega,by omega⟩
  have hul:hullI (some (r,t)) (some (r,t))=some (r,t):=by
   rw[hullI_some okP okP,Int.min_self,Int.max_self]
  rw[hul]at eA
  have fP:FinI (some (r,t)):=⟨rt,by omega,by omega⟩
  have D:=add_R (v:=2*qt) (w:=0) PF fP;have d1:=D.1 PH.1 l;have d2:=D.2.1 PH.2 u
  rw[<-eA,show 2*qt+0=2*qt by grind]at d1 d2
  have okA:=D.2.2;rw[<-eA]at okA;refine⟨meet_R okA PF.ok d1 d2 PH.1 PH.2,?_⟩
  -- how wide
  have sp:=sr_pos;obtain⟨e1,e2,e3,e4⟩:=eps_m;rw[ang_nought]at lo hi;have x3:=Rat.mul_le_mul_of_nonneg_right e3 (Rat.le_of_lt sp)
  have vl: -(1/100)<=V r:=Rat.le_of_mul_le_mul_right (c:=SR) (by
   generalize (1/9223372036854775808:Rat)*SR=y at *
   grind) sp
  have vh:V t<=1/100:=Rat.le_of_mul_le_mul_right (c:=SR) (by
   generalize (1/9223372036854775808:Rat)*SR=y at *
   grind) sp
  have hp:=p2pos KK
  have il: -(2^KK)<=vr r*100:=Rat.intCast_le_intCast.1 (by
   rw[Rat.intCast_neg,Rat.intCast_mul,<-V_at,show ((2^KK:Int):Rat)=BR from rfl,show ((100:Int):Rat)=100 from rfl]
   have:=Rat.mul_le_mul_of_nonneg_right vl (Rat.le_of_lt br_pos)
   grind)
  have ih:vr t*100<=2^KK:=Rat.intCast_le_intCast.1 (by
   rw[Rat.intCast_mul,<-V_at,show ((2^KK:Int):Rat)=BR from rfl,show ((100:Int):Rat)=100 from rfl]
   have:=Rat.mul_le_mul_of_nonneg_right vh (Rat.le_of_lt br_pos)
   grind)
  have s25:vr (opl 25-3*9223372036854775808)*2^3=25*2^KK:=shift_down g3 (by omega) (by decide) (by decide)
  have s13:vr (opl 13-2*9223372036854775808)*2^2=13*2^KK:=shift_down g4 (by omega) (by decide) (by decide)
  have s7:vr (opl 7-9223372036854775808)*2^1=7*2^KK:=shift_down g5 (by omega) (by decide) (by decide)
  have s1:vr (opl 1-9223372036854775808)*2^1=1*2^KK:=shift_down g6 (by omega) (by decide) (by decide)
  have s3:vr (opl 3)=3*2^KK:=opl_vr (by decide) (by decide)
  have v1:=vr_le g1;have v2:=vr_le g2;have sa:=(addp_spec (x:=PIL) (y:=r) true (by omega) (by omega) (by omega) (by omega));have sb:=(addp_spec (x:=PIL+1) (y:=t) true (by omega) (by omega) (by omega) (by omega))
  have k1:opl 3<=addp false PIL r:=(dn_self (r:=opl 3) (by omega) (by omega)).mono sa.1 (by omega)
  have k2:addp true (PIL+1) t<=opl 7-9223372036854775808:=sb.2.mono (up_self (r:=opl 7-9223372036854775808) (by omega) (by omega)) (by omega)
  have k3:addp false PIL r<=addp true (PIL+1) t:=by
   refine Int.le_trans (sa.1.mono sb.1 ?_) (dn_le_up sb.1 sb.2)
   have:=vr_le rt
   have:=vr_le (show PIL<=PIL+1 by omega)
   omega
  have eS:addI PiS (some (r,t))=some (addp false PIL r,addp true (PIL+1) t):=mkI_some k3 (by omega) (by omega)
  rw[eA,eS];generalize addp false PIL r=a at *;generalize addp true (PIL+1) t=b at *
  show addp true b (-a) < opl 1
  have va:=vr_le k1;have vb:=vr_le k2;have w:=(addp_spec (x:=b) (y:= -a) true (by omega) (by omega) (by omega) (by omega)).2
  have:=w.mono (up_self (r:=opl 1-9223372036854775808) (by omega) (by omega)) (by rw[vr_neg];omega)
  omega
end Go.Proofs.YtomikokonmikgaaGreatDoor
namespace Go.Proofs.YtomikokonmikgaaGreatDoor
set_option maxHeartbeats 8000000
open Go.RowKit
set_option linter.unusedVariables false
set_option linter.unusedSimpArgs false
set_option maxRecDepth 100000
theorem Nl.of4{w:World}{g:Nat}{K1 K2 K3 K4 M1 M2 M3 M4 E1 E2 E3 E4 r1 r2 r3 r4:Int}{s1 s2 s3 s4:Bool}(X:Bo w g #[.int .i64 K1,.bool s1,.int .u64 M1,.int .i64 E1,.int .i64 K2,.bool s2,.int .u64 M2,.int .i64 E2,.int .i64 K3,.bool s3,.int .u64 M3,.int .i64 E3,.int .i64 K4,.bool s4,.int .u64 M4,.int .i64 E4] 24)
  (q1:Fq K1 s1 M1 E1 r1) (q2:Fq K2 s2 M2 E2 r2) (q3:Fq K3 s3 M3 E3 r3) (q4:Fq K4 s4 M4 E4 r4):Nl w (some ⟨g,0,none⟩) 4 4 [r1,r2,r3,r4]:=by
 refine⟨rfl,Nat.le_refl _,by decide,fun _=>⟨_,0,rfl,fun k hk=>?_⟩⟩
 rcases (by omega:k=0\/k=1\/k=2\/k=3)with rfl | rfl | rfl | rfl
 ·exact⟨K1,s1,M1,E1,X.at rfl,X.at rfl,X.at rfl,X.at rfl,q1.top,q1.rk⟩
 ·exact⟨K2,s2,M2,E2,X.at rfl,X.at rfl,X.at rfl,X.at rfl,q2.top,q2.rk⟩
 ·exact⟨K3,s3,M3,E3,X.at rfl,X.at rfl,X.at rfl,X.at rfl,q3.top,q3.rk⟩
 ·exact⟨K4,s4,M4,E4,X.at rfl,X.at rfl,X.at rfl,X.at rfl,q4.top,q4.rk⟩
theorem mnp_four{a b c d:Int}(ha:a<=19342822337206103650074625):mnp [a,b,c,d]=min (min a b) (min c d):=by
 have:=TP_eq
 show min (min (min (min TP a) b) c) d=_
 omega
theorem mxp_four{a b c d:Int}(ha: -19342822337206103650074625<=a):mxp [a,b,c,d]=max (max a b) (max c d):=by
 have:=TP_eq
 show max (max (max (max (-TP) a) b) c) d=_
 omega
def four (f:Bool->Int->Int->Int)(up:Bool)(a b c d:Int):List Int:=[f up a c,f up a d,f up b c,f up b d]
theorem four_cor{f:Bool->Int->Int->Int}{a b c d:Int}(h1:f false a c<=19342822337206103650074625)(h2: -19342822337206103650074625<=f true a c):mkI (mnp (four f false a b c d)) (mxp (four f true a b c d))=cor f a b c d:=by
 unfold four cor
 rw[mnp_four h1,mxp_four h2]
def TabIf (b:Bool)(w:World):Prop:=b=true->Tab w
theorem TabIf.below{b:Bool}{w w':World}(h:TabIf b w)(hb:Below w.heap.size w w'):TabIf b w':=fun e=>(h e).below hb
abbrev TabIf.b:= @TabIf.below
def OpQ (fid:FuncId)(F0:Bool->Int->Int->Int)(b:Bool):Prop:=(∀(args:Array Value) (w:World),(callFunc fid args).run Tryz.prog w= .ok (.enter fid args) w)/\∀(w:World) (D:Int) (s:Bool) (M E D':Int) (s':Bool) (M' E':Int) (up:Bool) (x y r:Int),TabIf b w->M < 18446744073709551616->M' < 18446744073709551616->rk D s M E=x->rk D' s' M' E'=y->F0 up x y=r->Calls Tryz.prog fid #[.agg #[.int .i64 D,.bool s,.int .u64 M,.int .i64 E],.agg #[.int .i64 D',.bool s',.int .u64 M',.int .i64 E'],.bool up] w (PN w r)
theorem fkFour{w:World}{fid:FuncId}{F0:Bool->Int->Int->Int}{b up:Bool}{g1 g2 g3:Nat}{K1 M1 E1 K1b M1b E1b K2 M2 E2 K2b M2b E2b:Int}{s1 s1b s2 s2b:Bool}{xa xb ya yb:Int}(hop:OpQ fid F0 b)(hI:TabIf b w)(X1:Bo w g1 #[.func (.func fid) #[] #[]] 136)(X2:Bo w g2 #[.bool false,.int .i64 K1,.bool s1,.int .u64 M1,.int .i64 E1,.int .i64 K1b,.bool s1b,.int .u64 M1b,.int .i64 E1b] 32)(X3:Bo w g3 #[.bool false,.int .i64 K2,.bool s2,.int .u64 M2,.int .i64 E2,.int .i64 K2b,.bool s2b,.int .u64 M2b,.int .i64 E2b] 32)
  (a1:Fq K1 s1 M1 E1 xa) (b1:Fq K1b s1b M1b E1b xb) (a2:Fq K2 s2 M2 E2 ya) (b2:Fq K2b s2b M2b E2b yb):Calls Tryz.prog 182 #[.bool up,.pointer (some ⟨g1,0,none⟩),.pointer (some ⟨g2,0,none⟩),.pointer (some ⟨g3,0,none⟩)] w (fun e w'=>∃A c,e= .returned (.slice A 4 c)/\Nl w' A 4 c (four F0 up xa xb ya yb)/\Below w.heap.size w w'):=by
 obtain⟨u1,h1⟩:∃u,F0 up xa ya=u:=⟨_,rfl⟩;obtain⟨u2,h2⟩:∃u,F0 up xa yb=u:=⟨_,rfl⟩;obtain⟨u3,h3⟩:∃u,F0 up xb ya=u:=⟨_,rfl⟩;obtain⟨u4,h4⟩:∃u,F0 up xb yb=u:=⟨_,rfl⟩
 have HF:Hid (four F0 up xa xb ya yb=[u1,u2,u3,u4]):=ie (by unfold four;rw[h1,h2,h3,h4])
 have H1:=ie h1;have H2:=ie h2;have H3:=ie h3;have H4:=ie h4;have HOP:=ie hop;have HB:=ie (Below.refl w.heap.size w);clear h1 h2 h3 h4 hop
 go_enter Tryz.func182,Tryz.ntmps182
 go_upto_region 1 with (fail)
 refine jk [0,1,2,3,4,5,6,7,8,9,10,11,12,13,14,15,16,17,18,19,20,21,22,23,24,25,26,27,28] [some 6,some 7,some 8,some 9,some 10,some 11,some 12,some 13,some 14,some 15,some 16,some 17,some 18,some 19,some 20,some 21,some 22,some 23,some 24,some 25,some 26,some 27,some 28,some 29,some 30,some 31,some 32,some 33,some 34,some 5] [[],[],[1],[],[3],[],[0,2,4,5],[],[],[8],[],[10],[],[7,9,11,12],[],[],[15],[],[17],[],[14,16,18,19],[],[],[22],[],[24],[],[21,23,25,26],[6,13,20,27],[]] 30 1 [Jo.Fact.eq (.func (.func fid) #[] #[]),Jo.qp g2 1,Jo.q4 K1 s1 M1 E1,Jo.qp g3 1,Jo.q4 K2 s2 M2 E2,Jo.qb up,Jo.Fact.num u1,Jo.Fact.eq (.func (.func fid) #[] #[]),Jo.qp g2 1,Jo.q4 K1 s1 M1 E1,Jo.qp g3 5,Jo.q4 K2b s2b M2b E2b,Jo.qb up,Jo.Fact.num u2,Jo.Fact.eq (.func (.func fid) #[] #[]),Jo.qp g2 5,Jo.q4 K1b s1b M1b E1b,Jo.qp g3 1,Jo.q4 K2 s2 M2 E2,Jo.qb up,Jo.Fact.num u3,Jo.Fact.eq (.func (.func fid) #[] #[]),Jo.qp g2 5,Jo.q4 K1b s1b M1b E1b,Jo.qp g3 5,Jo.q4 K2b s2b M2b E2b,Jo.qb up,Jo.Fact.num u4,Jo.Fact.nl 4 [u1,u2,u3,u4],Jo.Fact.any] ?_ ?_
 ·refine jm ?_ ?_
  ·rintro wj hJ K hK;simp only[Jo.z]at hK|-;have xX10:=(X1.b hJ).a 0 (.func (.func fid) #[] #[]) rfl;go_simp;exact hK.out _ _ rfl (br _ _)
  iterate 5 (refine jm ?_ ?_;rotate_left)
  refine jm ?_ ?_
  ·rintro wj hJ _ rfl _ rfl _ rfl _ rfl K hK;simp only[Jo.z]at hK|-;go_simp;rw[HOP.out.1];simp only[Oper.upon];exact Jo.n1 (HOP.out.2 _ _ _ _ _ _ _ _ _ _ _ _ _ (hI.b hJ) a1.top a2.top a1.rk a2.rk H1.out) hK.out
  refine jm ?_ ?_
  ·rintro wj hJ K hK;simp only[Jo.z]at hK|-;have xX10:=(X1.b hJ).a 0 (.func (.func fid) #[] #[]) rfl;go_simp;exact hK.out _ _ rfl (br _ _)
  iterate 5 (refine jm ?_ ?_;rotate_left)
  refine jm ?_ ?_
  ·rintro wj hJ _ rfl _ rfl _ rfl _ rfl K hK;simp only[Jo.z]at hK|-;go_simp;rw[HOP.out.1];simp only[Oper.upon];exact Jo.n1 (HOP.out.2 _ _ _ _ _ _ _ _ _ _ _ _ _ (hI.b hJ) a1.top b2.top a1.rk b2.rk H2.out) hK.out
  refine jm ?_ ?_
  ·rintro wj hJ K hK;simp only[Jo.z]at hK|-;have xX10:=(X1.b hJ).a 0 (.func (.func fid) #[] #[]) rfl;go_simp;exact hK.out _ _ rfl (br _ _)
  iterate 5 (refine jm ?_ ?_;rotate_left)
  refine jm ?_ ?_
  ·rintro wj hJ _ rfl _ rfl _ rfl _ rfl K hK;simp only[Jo.z]at hK|-;go_simp;rw[HOP.out.1];simp only[Oper.upon];exact Jo.n1 (HOP.out.2 _ _ _ _ _ _ _ _ _ _ _ _ _ (hI.b hJ) b1.top a2.top b1.rk a2.rk H3.out) hK.out
  refine jm ?_ ?_
  ·rintro wj hJ K hK;simp only[Jo.z]at hK|-;have xX10:=(X1.b hJ).a 0 (.func (.func fid) #[] #[]) rfl;go_simp;exact hK.out _ _ rfl (br _ _)
  iterate 5 (refine jm ?_ ?_;rotate_left)
  refine jm ?_ ?_
  ·rintro wj hJ _ rfl _ rfl _ rfl _ rfl K hK;simp only[Jo.z]at hK|-;go_simp;rw[HOP.out.1];simp only[Oper.upon];exact Jo.n1 (HOP.out.2 _ _ _ _ _ _ _ _ _ _ _ _ _ (hI.b hJ) b1.top b2.top b1.rk b2.rk H4.out) hK.out
  refine jm ?_ ?_
  ·rintro wj hJ _ ⟨K21,s21,M21,E21,rfl,q21⟩ _ ⟨K22,s22,M22,E22,rfl,q22⟩ _ ⟨K23,s23,M23,E23,rfl,q23⟩ _ ⟨K24,s24,M24,E24,rfl,q24⟩ K hK;simp only[Jo.z]at hK|-;go_simp;exact hK.out _ _ ⟨_,4,rfl,Nl.of4 (Bo.new _ _ _) q21 q22 q23 q24⟩ (bel1 _ _)
  exact jo
  all_goals (rintro wj hJ;(repeat rintro _ rfl);intro K hK;simp only[Jo.z]at hK|-;have xX2:=(X2.b hJ).cell;have xX3:=(X3.b hJ).cell;go_simp;exact hK.out _ _ rfl (br _ _))
 rintro w8 hJ _ rfl _ _ _ rfl _ _ _ rfl _ rfl _ ⟨K21,s21,M21,E21,rfl,q21⟩ _ rfl _ _ _ rfl _ _ _ rfl _ rfl _ ⟨K22,s22,M22,E22,rfl,q22⟩ _ rfl _ _ _ rfl _ _ _ rfl _ rfl _ ⟨K23,s23,M23,E23,rfl,q23⟩ _ rfl _ _ _ rfl _ _ _ rfl _ rfl _ ⟨K24,s24,M24,E24,rfl,q24⟩ _ ⟨A9,c9,rfl,h9⟩ -;simp only[Jo.z];replace HB:=Hqb HB hJ
 refine jn 29 fun K hK=>?_
 go_simp;refine hK.out _ _ ?_;clear hK K;refine jd ?_;go_wp2
 go_ret
 exact⟨_,_,rfl,HF.out▸h9,HB.out⟩
theorem fkOf{w:World}{fid:FuncId}{F0:Bool->Int->Int->Int}{b:Bool}{K1 M1 E1 K1b M1b E1b K2 M2 E2 K2b M2b E2b:Int}{s1 s1b s2 s2b:Bool}{xa xb ya yb:Int}{z:Sp}(hop:OpQ fid F0 b)(hI:TabIf b w)(v1:Ci false K1 s1 M1 E1 K1b s1b M1b E1b (some (xa,xb)))(v2:Ci false K2 s2 M2 E2 K2b s2b M2b E2b (some (ya,yb)))(hF:F0 false xa ya<=19342822337206103650074625/\ -19342822337206103650074625<=F0 true xa ya)(hr:cor F0 xa xb ya yb=z):
  Calls Tryz.prog 116 #[VI false K1 s1 M1 E1 K1b s1b M1b E1b,VI false K2 s2 M2 E2 K2b s2b M2b E2b,.func (.func fid) #[] #[]] w (PV w z):=by
 delta VI
 have hmf:∀(fn:Fn) (first cap:Array Value) (w:World),(Instr.makeFunc fn first cap).run Tryz.prog w= .ok (.func fn first cap) w:=fun _ _ _ _=>rfl
 obtain⟨_,a1,b1,o1,o1l,o1h⟩:=v1;obtain⟨_,a2,b2,o2,o2l,o2h⟩:=v2;rw[<-four_cor hF.1 hF.2]at hr;obtain⟨u,hu⟩:∃u,mnp (four F0 false xa xb ya yb)=u:=⟨_,rfl⟩;obtain⟨v,hv⟩:∃v,mxp (four F0 true xa xb ya yb)=v:=⟨_,rfl⟩;rw[hu,hv]at hr;have HU:=ie hu;have HV:=ie hv;have HR:=ie hr;have HOP:=ie hop;clear hu hv hr hop hF o1 o1l o1h o2 o2l o2h
 go_enter Tryz.func116,Tryz.ntmps116
 go_upto_region 1 with (fail)
 generalize hW1:(((w.alloc _).alloc _).alloc _).alloc _=w1 at *;obtain⟨X3,X4,X5,XR,HB⟩:=Bo.en4 hW1;replace hI:=hI.below HB.out;clear hW1
 go_wp2_with fail
 refine(fkFour HOP.out hI X5 X3 X4 a1 b1 a2 b2).mono ?_;rintro ee w2 ⟨A1,c1,rfl,N1,B⟩;replace X3:=X3.b B;replace X4:=X4.b B;replace X5:=X5.b B;replace XR:=XR.b B;replace hI:=hI.b B;replace HB:=Hqb HB B;clear B
 go_wp2_with fail
 refine(nLeast N1 HU.out).mono ?_;rintro ee w3 ⟨K11,s11,M11,E11,rfl,q11,B⟩;replace X3:=X3.b B;replace X4:=X4.b B;replace X5:=X5.b B;replace XR:=XR.b B;replace hI:=hI.b B;replace HB:=Hqb HB B;clear B;clear N1
 go_wp2_with fail
 refine(fkFour HOP.out hI X5 X3 X4 a1 b1 a2 b2).mono ?_;rintro ee w4 ⟨A2,c2,rfl,N2,B⟩;replace XR:=XR.b B;replace HB:=Hqb HB B;clear B
 go_wp2_with fail
 refine(nMost N2 HV.out).mono ?_;rintro ee w5 ⟨K12,s12,M12,E12,rfl,q12,B⟩;replace XR:=XR.b B;replace HB:=Hqb HB B;clear B;clear N2
 go_wp2_with fail
 refine(kvMake q11.top q12.top q11.rk q12.rk HR.out).mono ?_;rintro ee w6 ⟨e13,K13,s13,M13,E13,K13b,s13b,M13b,E13b,rfl,v13,B⟩;replace XR:=XR.b B;replace HB:=Hqb HB B;clear B;clear hI;clear X5;have xXR:=XR.cell;have zXR0:=XR.frozen;go_wp2;clear xXR zXR0;have SX:=StN.t9 XR e13 K13 s13 M13 E13 K13b s13b M13b E13b
 exact bq (by simp[results,Tryz.results116,go_sem,SX.box.cell]) rfl ⟨_,_,_,_,_,_,_,_,_,rfl,v13,(SX.below HB.out (by omega))⟩
theorem opq_mul:OpQ 117 mulp false:=⟨fun _ _=>by first | rfl | kernel_rfl | simp[callFunc,go_sem],fun _ _ _ _ _ _ _ _ _ _ _ _ _ _ hM hM' hx hy hr=>aMul hM hM' hx hy hr⟩
theorem fkMul{w:World}{e:Bool}{D M E D' M' E':Int}{s s':Bool}{e2:Bool}{G P Q G' P' Q':Int}{g g':Bool}{x y z:Sp}(hM:LQ M)(hM':LQ M')(hP:LQ P)(hP':LQ P')(hx:rkI e D s M E D' s' M' E'=x)(hy:rkI e2 G g P Q G' g' P' Q'=y)(hr:mulI x y=z):Calls Tryz.prog 45 #[VI e D s M E D' s' M' E',VI e2 G g P Q G' g' P' Q'] w (PV w z):=by
 delta VI
 obtain⟨p,hp⟩:∃p,gone [x,y]=p:=⟨_,rfl⟩;have HP:=ie hp;have HX:=ie hx;have HY:=ie hy;clear hx hy hp
 go_enter Tryz.func45,Tryz.ntmps45
 go_upto_region 1 with (fail)
 generalize hW1:((w.alloc _).alloc _).alloc _=w1 at *;obtain⟨X2,X3,XR,HB⟩:=Bo.en3 hW1;clear hW1;have xX2:=X2.cell;have xX3:=X3.cell
 go_wp2_with fail
 refine(fkEmpty (Il8.lit2 rfl ⟨hM,hM',HX.out⟩ ⟨hP,hP',HY.out⟩) HP.out).mono ?_;rintro ee w2 ⟨rfl,B⟩;replace B:=bt (bel1 _ (.cells #[.bool e,.int .i64 D,.bool s,.int .u64 M,.int .i64 E,.int .i64 D',.bool s',.int .u64 M',.int .i64 E',.bool e2,.int .i64 G,.bool g,.int .u64 P,.int .i64 Q,.int .i64 G',.bool g',.int .u64 P',.int .i64 Q'] 32)) B;clear xX2 xX3
 replace X2:=X2.b B;replace X3:=X3.b B;replace XR:=XR.b B;replace HB:=Hqb HB B;clear B
 rcases x with _ | ⟨xa,xb⟩
 ·obtain rfl:true=p:=HP.out
  obtain rfl:none=z:=hr
  clear HP
  go_wp2_with fail
  refine(kvNoneE).mono ?_;rintro ee w3 ⟨rfl,B⟩;replace X2:=X2.b B;replace X3:=X3.b B;replace XR:=XR.b B;replace HB:=Hqb HB B;clear B;have xXR:=XR.cell;have zXR0:=XR.frozen;go_wp2;clear xXR zXR0;have SX:=StN.t9 XR true 0 false 0 0 0 false 0 0
  exact bq (by simp[results,Tryz.results45,go_sem,SX.box.cell]) rfl ⟨_,_,_,_,_,_,_,_,_,rfl,Ci.none,(SX.below HB.out (by omega))⟩
 ·rcases y with _ | ⟨ya,yb⟩
  ·obtain rfl:true=p:=HP.out
   obtain rfl:none=z:=hr
   clear HP
   go_wp2_with fail
   refine(kvNoneE).mono ?_;rintro ee w3 ⟨rfl,B⟩;replace X2:=X2.b B;replace X3:=X3.b B;replace XR:=XR.b B;replace HB:=Hqb HB B;clear B;have xXR:=XR.cell;have zXR0:=XR.frozen;go_wp2;clear xXR zXR0;have SX:=StN.t9 XR true 0 false 0 0 0 false 0 0
   exact bq (by simp[results,Tryz.results45,go_sem,SX.box.cell]) rfl ⟨_,_,_,_,_,_,_,_,_,rfl,Ci.none,(SX.below HB.out (by omega))⟩
  ·obtain rfl:false=p:=HP.out
   have w1':=ci_some hM hM' HX.out
   have w2':=ci_some hP hP' HY.out
   obtain⟨rfl,a1,b1,o1,o1l,o1h⟩:=w1';obtain⟨rfl,a2,b2,o2,o2l,o2h⟩:=w2'
   have v1:Ci false D s M E D' s' M' E' (some (xa,xb)):=⟨rfl,a1,b1,o1,o1l,o1h⟩
   have v2:Ci false G g P Q G' g' P' Q' (some (ya,yb)):=⟨rfl,a2,b2,o2,o2l,o2h⟩
   clear HP HX HY
   have HR:=ie (show cor mulp xa xb ya yb=z from hr)
   clear hr o1 o1l o1h o2 o2l o2h;have xX2:=X2.cell;have xX3:=X3.cell
   go_wp2_with fail
   refine(fkOf opq_mul (fun e=>by cases e) v1 v2 ⟨(mulp_bd false).2,(mulp_bd true).1⟩ HR.out).mono ?_
   rintro ee w3 ⟨e13,K13,s13,M13,E13,K13b,s13b,M13b,E13b,rfl,v13,B⟩;clear xX2 xX3;replace XR:=XR.b B;replace HB:=Hqb HB B;clear B;have xXR:=XR.cell;have zXR0:=XR.frozen;go_wp2;clear xXR zXR0
   have SX:=StN.t9 XR e13 K13 s13 M13 E13 K13b s13b M13b E13b;exact bq (by simp[results,Tryz.results45,go_sem,SX.box.cell]) rfl ⟨_,_,_,_,_,_,_,_,_,rfl,v13,(SX.below HB.out (by omega))⟩
theorem fkAbs{w:World}{e:Bool}{D M E D' M' E':Int}{s s':Bool}{x z:Sp}(hM:LQ M)(hM':LQ M')(hx:rkI e D s M E D' s' M' E'=x)(hr:absI x=z):Calls Tryz.prog 48 #[VI e D s M E D' s' M' E'] w (PV w z):=by
 delta VI
 obtain⟨p,hp⟩:∃p,gone [x]=p:=⟨_,rfl⟩;have HP:=ie hp;have HX:=ie hx;clear hx hp
 go_enter Tryz.func48,Tryz.ntmps48
 go_upto_region 1 with (fail)
 generalize hW1:(w.alloc _).alloc _=w1 at *;obtain⟨X1,XR,HB⟩:=Bo.en2 hW1;clear hW1;have xX1:=X1.cell
 go_wp2_with fail
 refine(fkEmpty (Il8.lit1 rfl ⟨hM,hM',HX.out⟩) HP.out).mono ?_;rintro ee w2 ⟨rfl,B⟩;replace B:=bt (bel1 _ (.cells #[.bool e,.int .i64 D,.bool s,.int .u64 M,.int .i64 E,.int .i64 D',.bool s',.int .u64 M',.int .i64 E'] 32)) B;clear xX1;replace X1:=X1.b B;replace XR:=XR.b B;replace HB:=Hqb HB B;clear B
 rcases x with _ | ⟨xa,xb⟩
 ·obtain rfl:true=p:=HP.out
  obtain rfl:none=z:=hr
  clear HP
  go_wp2_with fail
  refine(kvNoneE).mono ?_;rintro ee w3 ⟨rfl,B⟩;replace X1:=X1.b B;replace XR:=XR.b B;replace HB:=Hqb HB B;clear B;have xXR:=XR.cell;have zXR0:=XR.frozen;go_wp2;clear xXR zXR0;have SX:=StN.t9 XR true 0 false 0 0 0 false 0 0
  exact bq (by simp[results,Tryz.results48,go_sem,SX.box.cell]) rfl ⟨_,_,_,_,_,_,_,_,_,rfl,Ci.none,(SX.below HB.out (by omega))⟩
 ·obtain⟨rfl,a1,b1,o1,o1l,o1h⟩:=ci_some hM hM' HX.out
  obtain rfl:false=p:=HP.out
  clear HP HX
  have hr2:(if 0<=xa then some (xa,xb)else if xb<=0 then negI (some (xa,xb))else mkI 0 (max xb (-xa)))=z:=hr
  obtain⟨σ,hσ⟩:∃σ,cmpI xa 0=σ:=⟨_,rfl⟩;have ht:=cmp_geE hσ
  have HS:Hid (cmpI (rk D s M E) 0=σ):=ie (by rw[a1.rk];exact hσ)
  clear hσ hr;have xX1:=X1.cell
  go_wp2_with fail
  refine(nSign a1.top HS.out).mono ?_;rintro ee w4 ⟨rfl,B⟩;clear xX1;replace X1:=X1.b B;replace XR:=XR.b B;replace HB:=Hqb HB B;clear B;clear HS
  by_cases h0:0<=xa
  ·rw[dt h0]at ht;rw[if_pos h0]at hr2
   obtain rfl:some (xa,xb)=z:=hr2
   clear h0;have xXR:=XR.cell;have zXR0:=XR.frozen;have xX1:=X1.cell;go_wp2;clear xXR zXR0 xX1;have SX:=StN.t9 XR false D s M E D' s' M' E'
   exact bq (v:= .agg #[.bool false,.int .i64 D,.bool s,.int .u64 M,.int .i64 E,.int .i64 D',.bool s',.int .u64 M',.int .i64 E']) (by simp[results,Tryz.results48,go_sem,SX.box.cell]) rfl ⟨_,_,_,_,_,_,_,_,_,rfl,⟨rfl,a1,b1,o1,o1l,o1h⟩,(SX.below HB.out (by omega))⟩
  ·rw[df h0]at ht;rw[if_neg h0]at hr2;obtain⟨τ,hτ⟩:∃τ,cmpI xb 0=τ:=⟨_,rfl⟩;have ht2:=cmp_le hτ
   have HS2:Hid (cmpI (rk D' s' M' E') 0=τ):=ie (by rw[b1.rk];exact hτ)
   clear hτ h0;have xX1:=X1.cell
   go_wp2_with fail
   refine(nSign b1.top HS2.out).mono ?_;rintro ee w5 ⟨rfl,B⟩;clear xX1;replace X1:=X1.b B;replace XR:=XR.b B;replace HB:=Hqb HB B;clear B;clear HS2
   by_cases h1:xb<=0
   ·rw[dt h1]at ht2;rw[if_pos h1]at hr2;have HN:=ie hr2
    have hci:Ci false D s M E D' s' M' E' (some (xa,xb)):=⟨rfl,a1,b1,o1,o1l,o1h⟩
    clear hr2 h1 o1 o1l o1h;have xX1:=X1.cell
    go_wp2_with fail
    refine(fkNeg a1.top b1.top hci.rk HN.out).mono ?_;rintro ee w6 ⟨e2,K2,s2,M2,E2,K2b,s2b,M2b,E2b,rfl,v2,B⟩;clear xX1;replace X1:=X1.b B;replace XR:=XR.b B;replace HB:=Hqb HB B;clear B;clear hci HN;have xXR:=XR.cell;have zXR0:=XR.frozen;go_wp2;clear xXR zXR0
    have SX:=StN.t9 XR e2 K2 s2 M2 E2 K2b s2b M2b E2b;exact bq (by simp[results,Tryz.results48,go_sem,SX.box.cell]) rfl ⟨_,_,_,_,_,_,_,_,_,rfl,v2,(SX.below HB.out (by omega))⟩
   ·rw[df h1]at ht2;rw[if_neg h1]at hr2;obtain⟨m,hm⟩:∃m,-xa=m:=⟨_,rfl⟩
    have hu:mxp [xb,m]=max xb m:=mxp_two b1.bd.1
    obtain⟨u,hu2⟩:∃u,max xb m=u:=⟨_,rfl⟩;rw[hu2]at hu
    have hr3:mkI 0 u=z:=by rw[<-hu2,<-hm];exact hr2
    have H0:Hid (sgi (decide ((0:Int) < 0)) (lo (0:Int).natAbs 0)=0):=ie rfl
    have HNG:Hid (-rk D s M E=m):=ie (by rw[a1.rk];exact hm)
    have HU:=ie hu;have HR:=ie hr3;clear hm hu hu2 hr2 hr3 h1 o1 o1l o1h;have xX1:=X1.cell
    go_upto_region 7 with (fail)
    clear xX1;refine jk [0,1,2,3,4,5,6,7,8] [some 21,some 22,some 23,some 24,some 25,some 26,some 27,some 28,some 29,none] [[],[],[1],[],[3],[4],[2,5],[6],[0,7],[]] 10 1 [Jo.Fact.num 0,Jo.qp w.heap.size 5,Jo.q4 D' s' M' E',Jo.qp w.heap.size 1,Jo.q4 D s M E,Jo.Fact.num m,Jo.Fact.nl 2 [xb,m],Jo.Fact.num u,Jo.Fact.iv z,Jo.Fact.any] ?_ ?_
    ·refine jm ?_ ?_
     ·rintro wj hJ K hK;simp only[Jo.z]at hK|-;go_simp;exact Jo.n1 (nOf _ (by decide) (by decide) H0.out) hK.out
     iterate 4 (refine jm ?_ ?_;rotate_left)
     refine jm ?_ ?_
     ·rintro wj hJ _ rfl K hK;simp only[Jo.z]at hK|-;go_simp;exact Jo.n1 (nNeg a1.top HNG.out) hK.out
     refine jm ?_ ?_
     ·rintro wj hJ _ rfl _ ⟨K2,s2,M2,E2,rfl,q2⟩ K hK;simp only[Jo.z]at hK|-;go_simp;exact hK.out _ _ ⟨_,2,rfl,Nl.lit2 rfl b1.top q2.top b1.rk q2.rk⟩ (bel1 _ _)
     refine jm ?_ ?_
     ·rintro wj hJ _ ⟨A6,c6,rfl,h6⟩ K hK;simp only[Jo.z]at hK|-;go_simp;exact Jo.n1 (nMost h6 HU.out) hK.out
     refine jm ?_ ?_
     ·rintro wj hJ _ ⟨K5,s5,M5,E5,rfl,q5⟩ _ ⟨K3,s3,M3,E3,rfl,q3⟩ K hK;simp only[Jo.z]at hK|-;go_simp;exact Jo.v1 (kvMake q5.top q3.top q5.rk q3.rk HR.out) hK.out
     exact jo
     all_goals (rintro wj hJ;(repeat rintro _ rfl);intro K hK;simp only[Jo.z]at hK|-;have xX1:=(X1.b hJ).cell;go_simp;exact hK.out _ _ rfl (br _ _))
    rintro w8 hJ _ ⟨K5,s5,M5,E5,rfl,q5⟩ _ _ _ rfl _ _ _ rfl _ ⟨K2,s2,M2,E2,rfl,q2⟩ _ ⟨A6,c6,rfl,_⟩ _ ⟨K3,s3,M3,E3,rfl,q3⟩ _ ⟨e4,K4,s4,M4,E4,K4b,s4b,M4b,E4b,rfl,v4⟩ -;simp only[Jo.z];replace XR:=XR.b hJ;replace HB:=Hqb HB hJ;have xXR:=XR.cell;have zXR0:=XR.frozen
    refine jn 9 fun K hK=>?_
    go_simp;refine hK.out _ _ ?_;clear hK K xXR zXR0;have SX:=StN.t9 XR e4 K4 s4 M4 E4 K4b s4b M4b E4b;refine jd ?_;go_wp2;exact bq (by simp[results,Tryz.results48,go_sem,SX.box.cell]) rfl ⟨_,_,_,_,_,_,_,_,_,rfl,v4,(SX.below HB.out (by omega))⟩
