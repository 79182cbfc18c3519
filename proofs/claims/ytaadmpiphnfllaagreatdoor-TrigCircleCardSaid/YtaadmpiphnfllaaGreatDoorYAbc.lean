/-
 Contracts that the proof rests on.
-/
import Derived.Test.YtaadmpiphnfllaaGreatDoorYAbb
namespace Go.Proofs.YtaadmpiphnfllaaGreatDoor
open Go Go.RowKit
set_option linter.unusedVariables false
theorem sv_cases{cos:Bool}{n:Int}{Z:Sp}(h:Sv cos n Z):(fixB n=false∧Z=unitI)∨(fixB n=true∧SB (su cos n*SR) Z∧ -(17/10)≤ang (ofX cos (fixI n)) (zq cos n)∧ang (ofX cos (fixI n)) (zq cos n)≤17/10):=by
 cases e:fixB n
 ·left
  rcases h with⟨_,h⟩ | ⟨c,_⟩
  ·exact⟨rfl,h.symm⟩
  ·rw [e]at c
   cases c
 ·exact .inr ⟨rfl,sv_box e h⟩
theorem su_near{cos:Bool}{n:Int}(h: -(17/10)≤ang (ofX cos (fixI n)) (zq cos n)∧ang (ofX cos (fixI n)) (zq cos n)≤17/10): -(1+1/2^240)≤su cos n∧su cos n≤1+1/2^240:=su_bd h
theorem SB.us{σ:Rat}{Z:Sp}(h:SB σ Z):UnitS Z:=h.unit
theorem SB.self{s:Rat}{Z:Sp}(h:SB (s*SR) Z)(s1: -(1+1/2^240)≤s)(s2:s≤1+1/2^240):LoR (cut1 s) Z∧HiR (cut1 s) Z:=by
 obtain⟨e1,e2,e3,e4,e5,e6,e7,e8⟩:=eps_c;generalize (1/2^240:Rat)=t at *;generalize (1/2^200:Rat)=d at *;obtain⟨c1,c2⟩:=cut_bd s;obtain⟨n1,n2⟩:=cut_near s1 s2 (Rat.le_of_lt e5)
 have dd:d*SR≤99:=by grind
 exact h.has c1 c2 (dist (e:=d) (by grind) dd) (dist (e:=d) (by grind) dd)
theorem sr_99:(72/2^192:Rat)*SR=72∧(27/2^192:Rat)*SR=27∧(1/2^240:Rat)≤27/2^192:=by decide +kernel
theorem SB.lo_of{s a v:Rat}{Z:Sp}(h:SB (a*SR) Z)(v1: -1≤v)(d:s≤v+27/2^192)(e:a≤s+72/2^192):LoR v Z:=by
 obtain⟨e1,e2,e3⟩:=sr_99;refine h.lo v1 ?_
 have g:=Rat.mul_le_mul_of_nonneg_right (show a≤v+(27/2^192+72/2^192) by grind) (Rat.le_of_lt sr_pos)
 generalize (72/2^192:Rat)=q at *;generalize (27/2^192:Rat)=r at *
 grind
theorem SB.hi_of{s a v:Rat}{Z:Sp}(h:SB (a*SR) Z)(v1:v≤1)(d:v≤s+27/2^192)(e:s≤a+72/2^192):HiR v Z:=by
 obtain⟨e1,e2,e3⟩:=sr_99;refine h.hi v1 ?_
 have g:=Rat.mul_le_mul_of_nonneg_right (show v≤a+(27/2^192+72/2^192) by grind) (Rat.le_of_lt sr_pos)
 generalize (72/2^192:Rat)=q at *;generalize (27/2^192:Rat)=r at *
 grind
theorem zq_le{cos:Bool}{x y:Int}(h:x≤y):zq cos x≤zq cos y:=by
 have:=zp_le h
 unfold zq
 cases cos
 ·simp only [Bool.false_eq_true,if_false];exact this
 ·simp only [if_true]
  grind
theorem hull_us{x y:Sp}(hx:UnitS x)(hy:UnitS y):UnitS (hullI x y):=by
 obtain⟨o1,o2⟩:=one_bd;obtain⟨r,u,rfl,a1,a2,a3⟩:=hx;obtain⟨p,q,rfl,b1,b2,b3⟩:=hy;refine⟨min r p,max u q,hullI_some ⟨by omega,a2,by omega,by omega,by omega⟩ ⟨by omega,b2,by omega,by omega,by omega⟩,by omega,by omega,by omega⟩
theorem us_lo{x:Sp}{v:Rat}(h:∃u,x=some (-opl 1,u))(v1: -1≤v):LoR v x:=by
 obtain⟨u,rfl⟩:=h
 have:=unit_R.1 v1
 rw [unitI_some]at this;exact this
theorem us_hi{x:Sp}{v:Rat}(h:∃r,x=some (r,opl 1))(v1:v≤1):HiR v x:=by
 obtain⟨u,rfl⟩:=h
 have:=unit_R.2.1 v1
 rw [unitI_some]at this;exact this
theorem all_loM{cos:Bool}{a b x:Int}{z:Rat}{Z:Sp}(h:AllV cos (some (a,b)) Z)(gn: -(17/10)≤ang x z∧ang x z≤17/10)(an:zq cos a≤z)(nb:z≤zq cos b):
  UnitS Z∧(∀v:Rat,-1≤v→sinU x z≤v+27/2^192→LoR v Z)∧(∀v:Rat,v≤1→v≤sinU x z+27/2^192→HiR v Z):=by
 rcases h with⟨_,rfl⟩ | ⟨fa,fb,hw,za,zb,ha,hb,rfl⟩
 ·exact⟨unit_unit,fun v c1 _=>unit_R.1 c1,fun v c2 _=>unit_R.2.1 c2⟩
 ·obtain⟨Ba,ga⟩:=sv_box fa ha;obtain⟨Bb,gb⟩:=sv_box fb hb;have ua:=Ba.us;have ub:=Bb.us;have lo:=lower gn ga gb an nb;have up:=upper gn ga gb an nb;have hu:=hull_us ua ub
  have na:za≠none:=by obtain⟨_,_,e,_⟩:=ua;rw [e];exact Option.some_ne_none _
  have nb':zb≠none:=by obtain⟨_,_,e,_⟩:=ub;rw [e];exact Option.some_ne_none _
  obtain⟨r,u,he,h1,h2,h3⟩:=hu;obtain⟨e,f,eq,hlo,hhi⟩:=loop_is (cos:=cos) (x:=fixI a*2) (y:=fixI b*2+2) (j:=(fixI a*2).fdiv (PLo*2)) h1 h2 h3 13;rw [he,eq]
  have be: -opl 1≤e∧e≤f∧f≤opl 1:=by
   obtain⟨o1,o2⟩:=one_bd
   rcases hlo with⟨a,_⟩ | ⟨a,_⟩ <;> rcases hhi with⟨b,_⟩ | ⟨b,_⟩ <;> omega
  refine⟨⟨e,f,rfl,be⟩,fun v c1 dv=>?_,fun v c2 dv=>?_⟩
  ·rcases hlo with⟨rfl,no⟩ | ⟨rfl,_⟩
   ·rcases lo with⟨i,i1,i2,i3⟩ | lo | lo
    ·exfalso
     have m:=met_of fa fb i2 i3;obtain⟨t,t1,t2⟩:=search fa fb hw m;rw [t2]at m i1;exact i1 (no t t1 m)
    ·have g:=hull_lo ua.fin.ok ub.fin.ok na nb' (.inl (Ba.lo_of c1 dv lo));rw [he]at g;exact g
    ·have g:=hull_lo ua.fin.ok ub.fin.ok na nb' (.inr (Bb.lo_of c1 dv lo));rw [he]at g;exact g
   ·exact us_lo ⟨f,rfl⟩ c1
  ·rcases hhi with⟨rfl,no⟩ | ⟨rfl,_⟩
   ·rcases up with⟨i,i1,i2,i3⟩ | up | up
    ·exfalso
     have m:=met_of fa fb i2 i3;obtain⟨t,t1,t2⟩:=search fa fb hw m;rw [t2]at m i1;exact no t t1 m i1
    ·have g:=hull_hi ua.fin.ok ub.fin.ok na nb' (.inl (Ba.hi_of c2 dv up));rw [he]at g;exact g
    ·have g:=hull_hi ua.fin.ok ub.fin.ok na nb' (.inr (Bb.hi_of c2 dv up));rw [he]at g;exact g
   ·exact us_hi ⟨e,rfl⟩ c2
theorem all_loZ{cos:Bool}{a b x:Int}{z:Rat}{Z:Sp}(h:AllV cos (some (a,b)) Z)(gn: -(17/10)≤ang x z∧ang x z≤17/10)(an:zq cos a≤z)(nb:z≤zq cos b):UnitS Z∧LoR (cut1 (sinU x z)) Z∧HiR (cut1 (sinU x z)) Z:=by
 obtain⟨u,l1,l2⟩:=all_loM h gn an nb;obtain⟨c1,c2⟩:=cut_bd (sinU x z);obtain⟨s1,s2⟩:=su_bd gn;obtain⟨_,_,e⟩:=sr_99
 have e0:(0:Rat)≤1/2^240:=by decide +kernel
 obtain⟨n1,n2⟩:=cut_near s1 s2 e0;generalize (1/2^240:Rat)=t at *;exact⟨u,l1 _ c1 (by grind),l2 _ c2 (by grind)⟩
theorem all_lo{cos:Bool}{a b n:Int}{Z:Sp}(h:AllV cos (some (a,b)) Z)(fn:fixB n=true)(an:a≤n)(nb:n≤b):UnitS Z∧LoR (cut1 (su cos n)) Z∧HiR (cut1 (su cos n)) Z:=by
 obtain⟨Zn,hn⟩:=sv_ex cos n;exact all_loZ h (sv_box fn hn).2 (zq_le an) (zq_le nb)
theorem fix_no{a n b:Int}(an:a≤n)(nb:n≤b)(h:fixB n=false):fixB a=false∨fixB b=false:=by
 have k:=of_decide_eq_false h
 by_cases c: -opl 1073741824 < a∧b < opl 1073741824
 ·exact absurd ⟨by omega,by omega⟩ k
 ·by_cases d: -opl 1073741824 < a
  ·right
   exact decide_eq_false (by omega)
  ·left
   exact decide_eq_false (by omega)
theorem all_meets{cos:Bool}{X Zn Z:Sp}{n:Int}(h:AllV cos X Z)(hn:hasI X n=true)(n1: -19342822337206103650074625≤n)(n2:n≤19342822337206103650074625)(hz:Sv cos n Zn):∃a b,meetI Zn Z=some (a,b):=by
 rcases X with _ | ⟨a,b⟩
 ·cases hn
 obtain⟨_,_,an,nb⟩:=has_out hn ⟨n1,n2⟩
 rcases sv_cases hz with⟨fn,rfl⟩ | ⟨fn,B,g⟩
 ·have eZ:Z=unitI:=by
   rcases h with⟨_,h⟩ | ⟨fa,fb,_⟩
   ·exact h
   ·rcases fix_no an nb fn with c | c
    ·rw [fa]at c;cases c
    ·rw [fb]at c;cases c
  rw [eZ];have u:=unit_R (v:=0);exact meet_R u.2.2.ok u.2.2.ok (u.1 (by decide)) (u.2.1 (by decide)) (u.1 (by decide)) (u.2.1 (by decide))
 ·obtain⟨u,l1,l2⟩:=all_lo h fn an nb;have s:=su_near g;obtain⟨b1,b2⟩:=B.self s.1 s.2;exact meet_R B.fin.ok u.fin.ok b1 b2 l1 l2
theorem p60_R:((vr p60:Int):Rat)*2^60=BR:=by
 have h:((vr p60*2^60:Int):Rat)=((2^KK:Int):Rat):=by rw [p60_vr]
 have e:((2^60:Int):Rat)=2^60:=by decide +kernel
 rw [Rat.intCast_mul,e]at h;exact h
theorem p60_bd:0 < p60∧p60 < 19342822337206103650074625:=by decide
theorem inf_is{r u:Int}(h1: -opl 1≤r)(h2:r≤u)(h3:u≤opl 1):infI (some (r,u)) p60=some (addp false r (-p60),addp true u p60)∧addp false r (-p60)≤r∧u≤addp true u p60∧
  (addp false r (-p60)= -19342822337206103650074625∨vr (addp false r (-p60))≤vr r-vr p60)∧(addp true u p60=19342822337206103650074625∨vr u+vr p60≤vr (addp true u p60)):=by
 obtain⟨o1,o2⟩:=one_bd;obtain⟨q1,q2⟩:=p60_bd;have s:=(addp_spec (x:=r) (y:= -p60) true (by omega) (by omega) (by omega) (by omega)).1;have t:=(addp_spec (x:=u) (y:=p60) true (by omega) (by omega) (by omega) (by omega)).2;have pp:=vr_pos q1;rw [vr_neg]at s
 have l1:addp false r (-p60)≤r:=s.mono (dn_self (by omega) (by omega)) (by omega)
 have l2:u≤addp true u p60:=(up_self (by omega) (by omega)).mono t (by omega)
 refine⟨?_,l1,l2,?_,?_⟩
 ·show (if p60 < 0 then some (r,u)else mkI (addp false r (-p60)) (addp true u p60))=_
  rw [if_neg (by omega)];exact mkI_some (by omega) (by omega) (by omega)
 ·obtain⟨_,_,a,_⟩:=s
  by_cases c:addp false r (-p60)= -19342822337206103650074625
  ·exact .inl c
  ·exact .inr (by have:=a (by omega);omega)
 ·obtain⟨_,_,a,_⟩:=t
  by_cases c:addp true u p60=19342822337206103650074625
  ·exact .inl c
  ·right
   have:=a (by omega)
   rw [vr_neg]at this
   omega
theorem units_60:(17592186044416:Rat)*2^60≤SR:=by decide +kernel
theorem end_lo{s:Rat}{l r p e:Int}(hr:Rq false l SC r)(l1: -SC≤l)(l2:l≤SC)(hs:s*SR≤((l+17592186044416:Int):Rat))(s2:s≤1+1/2^240)(he:e= -19342822337206103650074625∨((vr e:Int):Rat)≤cut1 s*BR)(e1: -opl 1≤e)
  (hp:p= -19342822337206103650074625∨vr p≤vr e-vr p60) (p1:p≤e) (e2:e≤opl 1):p≤r:=by
 obtain⟨o1,o2⟩:=one_bd;have ru:=rq_unit hr l1 l2
 rcases hp with hp | hp
 ·omega
 by_cases pf:p≤ -19342822337206103650074625
 ·omega
 refine place_le hr (by omega) (by omega) ?_
 ·refine Rat.intCast_le_intCast.1 ?_;replace he:=he.resolve_left (by omega)
  have hp':=Rat.intCast_le_intCast.2 hp
  rw [Rat.intCast_sub]at hp';have q:=p60_R;have u60:=units_60;have sp:=sr_pos;have bp:=br_pos
  have eB:((2^KK:Int):Rat)=BR:=rfl
  rw [Rat.intCast_mul,Rat.intCast_mul,eB]
  have cs:cut1 s*SR≤(l:Rat)+17592186044416:=by
   rw [Rat.intCast_add]at hs
   have e':((17592186044416:Int):Rat)=17592186044416:=rfl
   rw [e']at hs
   unfold cut1
   split
   ·have:=Rat.intCast_le_intCast.2 l1
    rw [Rat.intCast_neg]at this
    grind
   ·split
    ·rename_i k
     have:=Rat.mul_le_mul_of_nonneg_right (Rat.le_of_lt k) (Rat.le_of_lt sp)
     grind
    ·exact hs
  generalize cut1 s=v at *;generalize ((vr p:Int):Rat)=P at *;generalize ((vr e:Int):Rat)=E at *;generalize ((vr p60:Int):Rat)=W at *
  have m1:=Rat.mul_le_mul_of_nonneg_right (Rat.le_trans hp' (show E-W≤v*BR-W by grind)) (Rat.le_of_lt sp)
  have m2:=Rat.mul_le_mul_of_nonneg_right cs (Rat.le_of_lt bp)
  have w0:0≤W:=by
   by_cases c:0≤W
   ·exact c
   ·exfalso
    have:=Rat.mul_le_mul_of_nonneg_right (Rat.le_of_lt (Rat.not_le.1 c)) (show (0:Rat)≤2^60 by decide +kernel)
    grind
  have m3:=Rat.mul_le_mul_of_nonneg_right u60 w0
  have m4:(17592186044416:Rat)*BR≤SR*W:=by
   rw [←q]
   grind
  grind
theorem rq_neg{h u:Int}(k:Rq true h SC u):Rq false (-h) SC (-u):=by
 have s:=(rq_sid k).neg
 rw [show (!true)=false from rfl,←Int.neg_mul]at s
 rw [rq_some (by decide),show sgi (decide (SC < 0)) SC=SC from rfl,show sgi (decide (SC < 0)) (-h)= -h from rfl]
 exact s
theorem cut_neg (s:Rat):cut1 (-s)= -cut1 s:=by
 unfold cut1
 split
 ·split
  ·grind
  ·split
   ·grind
   ·grind
 ·split
  ·split
   ·grind
   ·grind
  ·split
   ·grind
   ·split
    ·grind
    ·grind
theorem end_hi{s:Rat}{h u p e:Int}(hu:Rq true h SC u)(h1: -SC≤h)(h2:h≤SC)(hs:((h-17592186044416:Int):Rat)≤s*SR)(s1: -(1+1/2^240)≤s)(he:e=19342822337206103650074625∨cut1 s*BR≤((vr e:Int):Rat))(e1: -opl 1≤e)
  (hp:p=19342822337206103650074625∨vr e+vr p60≤vr p) (p1:e≤p) (e2:e≤opl 1):u≤p:=by
 have g:=end_lo (s:= -s) (e:= -e) (p:= -p) (rq_neg hu) (by omega) (by omega) (by
  rw [show -h+17592186044416= -(h-17592186044416) by omega,Rat.intCast_neg,Rat.neg_mul]
  exact Rat.neg_le_neg hs) (by
  generalize (1/2^240:Rat)=t at *
  grind) (by
  rcases he with c | c
  ·exact .inl (by omega)
  ·right
   rw [cut_neg,vr_neg,Rat.intCast_neg,Rat.neg_mul];exact Rat.neg_le_neg c) (by omega) (by
  rcases hp with c | c
  ·exact .inl (by omega)
  ·right
   rw [vr_neg,vr_neg]
   omega) (by omega) (by omega)
 omega
theorem fix_mono{x y:Int}(fx:fixB x=true)(fy:fixB y=true)(h:x≤y):fixI x≤fixI y:=by
 rw [fixI_yes fx,fixI_yes fy];exact Int.ediv_le_ediv (p2pos KK) (Int.mul_le_mul_of_nonneg_right (vr_le h) (Int.le_of_lt sc_pos))
theorem all_us{cos:Bool}{a b:Int}{Z:Sp}(h:AllV cos (some (a,b)) Z):UnitS Z:=by
 rcases h with⟨_,rfl⟩ | ⟨fa,fb,hw,za,zb,ha,hb,rfl⟩
 ·exact unit_unit
 ·obtain⟨Ba,_⟩:=sv_box fa ha;obtain⟨Bb,_⟩:=sv_box fb hb;obtain⟨r,u,he,h1,h2,h3⟩:=hull_us Ba.us Bb.us;obtain⟨e,f,eq,hlo,hhi⟩:=loop_is (cos:=cos) (x:=fixI a*2) (y:=fixI b*2+2) (j:=(fixI a*2).fdiv (PLo*2)) h1 h2 h3 13;obtain⟨o1,o2⟩:=one_bd;rw [he]
  exact⟨e,f,eq,by rcases hlo with⟨a,_⟩ | ⟨a,_⟩ <;> rcases hhi with⟨b,_⟩ | ⟨b,_⟩ <;> omega,by rcases hlo with⟨a,_⟩ | ⟨a,_⟩ <;> rcases hhi with⟨b,_⟩ | ⟨b,_⟩ <;> omega,by rcases hlo with⟨a,_⟩ | ⟨a,_⟩ <;> rcases hhi with⟨b,_⟩ | ⟨b,_⟩ <;> omega⟩
theorem wid_mono{a b c d:Int}(h1: -19342822337206103650074625≤c)(h2:c≤a)(h3:a≤b)(h4:b≤d)(h5:d≤19342822337206103650074625):widI (some (a,b))≤widI (some (c,d)):=by
 show addp true b (-a)≤addp true d (-c)
 have m1:=addp_mono (x:=b) (y:=d) (z:= -a) true (by omega) (by omega) (by omega) (by omega) (by omega) (by omega) h4;have m2:=addp_mono (x:= -a) (y:= -c) (z:=d) true (by omega) (by omega) (by omega) (by omega) (by omega) (by omega) (by omega);rw [addp_comm true (x:= -a),addp_comm true (x:= -c)]at m2
 omega
theorem all_within{cos:Bool}{X Y Zx Zy:Sp}(hX:AllV cos X Zx)(hY:AllV cos Y Zy)(okX:SpOk X)(okY:SpOk Y)(hw:witI X Y=true):witI Zx (infI Zy p60)=true:=by
 rcases X with _ | ⟨a,b⟩
 ·have e:Zx=none:=hX
  rw [e]
  rfl
 rcases Y with _ | ⟨c,d⟩
 ·cases hw
 have hw':c≤a∧b≤d:=by
  simp only [witI,Bool.and_eq_true,decide_eq_true_eq]at hw;exact hw
 obtain⟨A1,A2,A3,A4,A5⟩:=okX;obtain⟨B1,B2,B3,B4,B5⟩:=okY;obtain⟨o1,o2⟩:=one_bd;obtain⟨e,f,eX,x1,x2,x3⟩:=all_us hX;obtain⟨r,u,eY,y1,y2,y3⟩:=all_us hY;obtain⟨i1,i2,i3,i4,i5⟩:=inf_is y1 y2 y3;rw [eX,eY,i1];generalize addp false r (-p60)=p at *;generalize addp true u p60=q at *
 suffices hh:p≤e∧f≤q by
  show (decide (p≤e) && decide (f≤q))=true
  rw [decide_eq_true hh.1,decide_eq_true hh.2]
  rfl
 rcases hY with⟨_,hY⟩ | ⟨fc,fd,hwY,zc,zd,hc,hd,hY'⟩
 ·rw [hY,unitI_some]at eY
  injection eY with eY
  injection eY with g1 g2
  omega
 ·have fa:fixB a=true:=by
   cases k:fixB a
   ·rcases fix_no (n:=a) (a:=c) (b:=d) hw'.1 (by omega) k with g | g
    ·rw [fc]at g;cases g
    ·rw [fd]at g;cases g
   ·rfl
  have fb:fixB b=true:=by
   cases k:fixB b
   ·rcases fix_no (n:=b) (a:=c) (b:=d) (by omega) hw'.2 k with g | g
    ·rw [fc]at g;cases g
    ·rw [fd]at g;cases g
   ·rfl
  have la:=all_lo (.inr ⟨fc,fd,hwY,zc,zd,hc,hd,hY'⟩:AllV cos (some (c,d)) Zy) fa hw'.1 (by omega);have lb:=all_lo (.inr ⟨fc,fd,hwY,zc,zd,hc,hd,hY'⟩:AllV cos (some (c,d)) Zy) fb (by omega) hw'.2;rw [eY]at la lb
  rcases hX with⟨k,_⟩ | ⟨_,_,hwX,za,zb,ha,hb,hX'⟩
  ·exfalso
   rcases k with k | k | k
   ·rw [fa]at k;cases k
   ·rw [fb]at k;cases k
   ·have:=wid_mono B1 hw'.1 A2 hw'.2 B3
    omega
  ·obtain⟨Ba,ga⟩:=sv_box fa ha;obtain⟨Bb,gb⟩:=sv_box fb hb;have sa:=su_near ga;have sb:=su_near gb;obtain⟨Bc,_⟩:=sv_box fc hc;obtain⟨Bd,_⟩:=sv_box fd hd;have hx:=hull_us Ba.us Bb.us;have hy:=hull_us Bc.us Bd.us;obtain⟨l,h,r1,u1,rfl,ra,ua,p1,p2,p3,_,_,p6,p7⟩:=Ba;obtain⟨m,k,r2,u2,rfl,rb,ub,q1,q2,q3,_,_,q6,q7⟩:=Bb;have R1:=rq_unit ra p1 (by omega)
   have U1:=rq_unit ua (by omega) p3;have L1:=rq_pair ra ua p2;have R2:=rq_unit rb q1 (by omega);have U2:=rq_unit ub (by omega) q3;have L2:=rq_pair rb ub q2;have hul:=hullI_some (a:=r1) (b:=u1) (c:=r2) (d:=u2) ⟨by omega,L1,by omega,by omega,by omega⟩ ⟨by omega,L2,by omega,by omega,by omega⟩
   rw [hul]at hX' hx;have ca:=fix_mono fc fa hw'.1;have bd:=fix_mono fb fd hw'.2;obtain⟨e',f',eq,hlo,hhi⟩:=loop_is (cos:=cos) (x:=fixI a*2) (y:=fixI b*2+2) (j:=(fixI a*2).fdiv (PLo*2)) (r:=min r1 r2) (u:=max u1 u2) (by omega) (by omega) (by omega) 13;rw [eq,eX]at hX'
   injection hX' with hX'
   injection hX' with g1 g2
   subst g1;subst g2;obtain⟨ry,uy,ey,y4,y5,y6⟩:=hy;obtain⟨e2,f2,eq2,hlo2,hhi2⟩:=loop_is (cos:=cos) (x:=fixI c*2) (y:=fixI d*2+2) (j:=(fixI c*2).fdiv (PLo*2)) y4 y5 y6 13;rw [ey,eq2,eY]at hY'
   injection hY' with hY'
   injection hY' with g1 g2
   subst g1;subst g2
   constructor
   ·rcases hlo with⟨he,_⟩ | ⟨he,t,t1,t2,t3⟩
    ·have k1:=end_lo ra p1 (by omega) p6 sa.2 la.2.1 y1 i4 i2 (by omega);have k2:=end_lo rb q1 (by omega) q6 sb.2 lb.2.1 y1 i4 i2 (by omega)
     omega
    ·have mt:=met_mono t2 (show fixI c*2≤fixI a*2 by omega) (show fixI b*2+2≤fixI d*2+2 by omega)
     obtain⟨t',v1,v2⟩:=search fc fd hwY mt;rw [v2]at mt t3
     rcases hlo2 with⟨_,no⟩ | ⟨w,_⟩
     ·exact absurd (no t' v1 mt) t3
     ·omega
   ·rcases hhi with⟨he,_⟩ | ⟨he,t,t1,t2,t3⟩
    ·have k1:=end_hi ua (by omega) p3 p7 sa.1 la.2.2 (by omega) i5 i3 y3;have k2:=end_hi ub (by omega) q3 q7 sb.1 lb.2.2 (by omega) i5 i3 y3
     omega
    ·have mt:=met_mono t2 (show fixI c*2≤fixI a*2 by omega) (show fixI b*2+2≤fixI d*2+2 by omega)
     obtain⟨t',v1,v2⟩:=search fc fd hwY mt;rw [v2]at mt t3
     rcases hhi2 with⟨_,no⟩ | ⟨w,_⟩
     ·exact absurd t3 (no t' v1 mt)
     ·omega
theorem meetL2{x y:Sp}(hx:SpOk x):meetL [x,y]=meetI x y:=by
 show meetI (meetI allI x) y=_
 rw [meet_all hx]
theorem sv_us{cos:Bool}{n:Int}{Z:Sp}(h:Sv cos n Z):UnitS Z:=by
 rcases sv_cases h with⟨_,rfl⟩ | ⟨_,b,_⟩
 ·exact unit_unit
 ·exact b.us
theorem us_wit{Z:Sp}(h:UnitS Z):witI Z unitI=true:=by
 obtain⟨r,u,rfl,h1,h2,h3⟩:=h;rw [unitI_some]
 show (decide (-opl 1≤r) && decide (u≤opl 1))=true
 rw [decide_eq_true h1,decide_eq_true h3]
 rfl
theorem us_some{Z:Sp}(h:UnitS Z):∃r u,Z=some (r,u):=by
 obtain⟨r,u,rfl,_⟩:=h;exact⟨r,u,rfl⟩
theorem sv_tight{cos:Bool}{n:Int}{Z:Sp}(hf:fixB n=true)(h:Sv cos n Z):widI Z≤p60:=(sv_box hf h).1.tight
theorem fixB_neg (x:Int):fixB (-x)=fixB x:=by
 unfold fixB
 by_cases c: -opl 1073741824 < x∧x < opl 1073741824
 ·rw [decide_eq_true c,decide_eq_true (show -opl 1073741824 < -x∧ -x < opl 1073741824 by omega)]
 ·rw [decide_eq_false c,decide_eq_false (show ¬(-opl 1073741824 < -x∧ -x < opl 1073741824) by omega)]
theorem us_fin{Z:Sp}(h:UnitS Z):FinI (sqrI Z):=by
 obtain⟨r,u,e,h1,h2,h3⟩:=h;exact unit_sq e h1 h2 h3
theorem sqn_u:LoR (0*0+1*1) (addI (sqrI unitI) (sqrI unitI))∧HiR (0*0+1*1) (addI (sqrI unitI) (sqrI unitI))∧SpOk (addI (sqrI unitI) (sqrI unitI)):=by
 have f:=us_fin unit_unit;have a:=unit_R (v:=0);have b:=unit_R (v:=1);obtain⟨A1,A2,_⟩:=sqr_R a.2.2 (a.1 (by decide)) (a.2.1 (by decide));obtain⟨B1,B2,_⟩:=sqr_R b.2.2 (b.1 (by decide)) (b.2.1 (by decide));obtain⟨s1,s2,s3⟩:=add_R (v:=0*0) (w:=1*1) f f;exact⟨s1 A1 B1,s2 A2 B2,s3⟩
theorem one_e:(1:Rat)*BR=((vr (opl 1):Int):Rat):=by
 rw [one_vr,Rat.one_mul]
 rfl
theorem circle_ok{x:Int}{Zs Zc:Sp}(hs:Sv false x Zs)(hc:Sv true x Zc):hasI (addI (sqrI Zs) (sqrI Zc)) (opl 1)=true:=by
 obtain⟨o1,o2⟩:=one_bd
 rcases sv_cases hs with⟨f,rfl⟩ | ⟨f,bs,gs⟩
 ·rcases sv_cases hc with⟨_,rfl⟩ | ⟨f',_⟩
  ·obtain⟨a,b,c⟩:=sqn_u
   have e:(0:Rat)*0+1*1=1:=by grind
   rw [e]at a b;exact has_R (by omega) (by omega) one_e c a b
  ·rw [f]at f';cases f'
 ·rcases sv_cases hc with⟨f',_⟩ | ⟨_,bc,gc⟩
  ·rw [f]at f';cases f'
  ·have s:=su_near gs;have c:=su_near gc
   have zc:zq true x=zq false x+qt*SR:=rfl
   have gc':=gc
   rw [zc]at gc';obtain⟨k1,k2⟩:=circleU gs gc';rw [←zc]at k1 k2;exact circle_box bs bc s.1 s.2 c.1 c.2 (tiny_lo k1) (tiny_hi k2) (us_fin bs.us) (us_fin bc.us)
theorem zp_neg_q (x:Int):zq false (-x)= -zq false x:=zp_neg x
theorem neg_box{s:Rat}{Z:Sp}(h:SB (s*SR) Z):∀v,LoR v Z∧HiR v Z→LoR (-v) (negI Z)∧HiR (-v) (negI Z):=fun v k=>by
 obtain⟨a,b,_⟩:=neg_R (v:=v) h.fin;exact⟨b k.2,a k.1⟩
theorem neg_ok{x:Int}{Zs Zn:Sp}(hs:Sv false x Zs)(hn:Sv false (-x) Zn):∃a b,meetI Zn (negI Zs)=some (a,b):=by
 rcases sv_cases hs with⟨f,rfl⟩ | ⟨f,bs,gs⟩
 ·rcases sv_cases hn with⟨_,rfl⟩ | ⟨f',_⟩
  ·have u:=unit_R (v:=0);have n:=neg_R (v:=0) u.2.2
   rw [show (-0:Rat)=0 from by decide]at n
   exact meet_R u.2.2.ok n.2.2.ok (u.1 (by decide)) (u.2.1 (by decide)) (n.2.1 (u.2.1 (by decide))) (n.1 (u.1 (by decide)))
  ·rw [fixB_neg,f]at f';cases f'
 ·rcases sv_cases hn with⟨f',_⟩ | ⟨_,bn,gn⟩
  ·rw [fixB_neg,f]at f';cases f'
  ·have s:=su_near gs
   have s':=su_near gn
   have gn':=gn
   rw [zp_neg_q]at gn';obtain⟨k1,k2⟩:=negU gs gn'
   have e:su false (-x)=sinU (ofX false (fixI (-x))) (-zq false x):=by
    unfold su
    rw [zp_neg_q]
   rw [←e,show sinU (ofX false (fixI x)) (zq false x)=su false x from rfl]at k1 k2
   obtain⟨e1,e2,e3,e4,e5,e6,e7,e8⟩:=eps_c;have t1:=tiny_lo k1;have t2:=tiny_hi k2;generalize (1/2^240:Rat)=t at *;generalize (1/2^200:Rat)=d at *;generalize (1/2^190:Rat)=q at *;obtain⟨c1,c2⟩:=cut_bd (su false x);obtain⟨n1,n2⟩:=cut_near s.1 s.2 (Rat.le_of_lt e5)
   have ff:(2*q)*SR≤99:=by grind
   have P:=bs.has c1 c2 (dist (e:=2*q) (by grind) ff) (dist (e:=2*q) (by grind) ff);have N:=neg_box bs _ P;have Q:=bn.has (v:= -cut1 (su false x)) (by grind) (by grind) (dist (e:=2*q) (by grind) ff) (dist (e:=2*q) (by grind) ff);exact meet_R bn.fin.ok (neg_R (v:=0) bs.fin).2.2.ok Q.1 Q.2 N.1 N.2
theorem negc_ok{x:Int}{Zc Zn:Sp}(hs:Sv true x Zc)(hn:Sv true (-x) Zn):∃a b,meetI Zn Zc=some (a,b):=by
 rcases sv_cases hs with⟨f,rfl⟩ | ⟨f,bs,gs⟩
 ·rcases sv_cases hn with⟨_,rfl⟩ | ⟨f',_⟩
  ·have u:=unit_R (v:=0);exact meet_R u.2.2.ok u.2.2.ok (u.1 (by decide)) (u.2.1 (by decide)) (u.1 (by decide)) (u.2.1 (by decide))
  ·rw [fixB_neg,f]at f';cases f'
 ·rcases sv_cases hn with⟨f',_⟩ | ⟨_,bn,gn⟩
  ·rw [fixB_neg,f]at f';cases f'
  ·have s':=su_near gn
   have z1:zq true x=zp x+qt*SR:=rfl
   have z2:zq true (-x)= -zp x+qt*SR:=by
    show zp (-x)+qt*SR=_
    rw [zp_neg]
   have gs':=gs
   have gn':=gn
   rw [z1]at gs';rw [z2]at gn';obtain⟨k1,k2⟩:=negC gs' gn'
   have e1:sinU (ofX true (fixI (-x))) (-zp x+qt*SR)=su true (-x):=by
    unfold su
    rw [z2]
   have e2:sinU (ofX true (fixI x)) (zp x+qt*SR)=su true x:=rfl
   rw [e1,e2]at k1 k2;exact boxes_meet bn bs s'.1 s'.2 k1 k2
theorem double_ok{x y:Int}{Zs Zc Zd T:Sp}(hy:vr y=2*vr x)(fx:fixB x=true)(fy:fixB y=true)(hs:Sv false x Zs)(hc:Sv true x Zc)(hd:Sv false y Zd)(hT:T=some (opl 2,opl 2))(fP:FinI (mulI Zs Zc)):∃a b,meetI (mulI T (mulI Zs Zc)) Zd=some (a,b):=by
 obtain⟨bs,gs⟩:=sv_box fx hs;obtain⟨bc,gc⟩:=sv_box fx hc;obtain⟨bd,gd⟩:=sv_box fy hd;have s:=su_near gs;have c:=su_near gc
 have zc:zq true x=zq false x+qt*SR:=rfl
 have zd:zq false y=2*zq false x:=by
  show zp y=2*zp x
  have e:=zp_at x;have f:=zp_at y
  rw [hy,Rat.intCast_mul,show ((2:Int):Rat)=2 from rfl]at f
  have hp:=br_pos;refine Rat.le_antisymm (Rat.le_of_mul_le_mul_right (c:=BR) ?_ hp) (Rat.le_of_mul_le_mul_right (c:=BR) ?_ hp) <;> grind
 have gc':=gc
 have gd':=gd
 rw [zc]at gc';rw [zd]at gd';obtain⟨k1,k2⟩:=circleU gs gc';obtain⟨d1,d2⟩:=doubleU gs gc' gd'
 have e1:sinU (ofX false (fixI y)) (2*zq false x)=su false y:=by
  unfold su
  rw [zd]
 have e2:sinU (ofX true (fixI x)) (zq false x+qt*SR)=su true x:=rfl
 have e3:sinU (ofX false (fixI x)) (zq false x)=su false x:=rfl
 rw [e1,e2,e3]at d1 d2;rw [e2,e3]at k1 k2;exact double_box bs bc bd s.1 s.2 c.1 c.2 (tiny_hi k2) d1 d2 hT fP
theorem mul_unit{X Y:Sp}(hX:UnitS X)(hY:UnitS Y):FinI (mulI X Y):=by
 obtain⟨o1,o2⟩:=one_bd;obtain⟨a,b,rfl,a1,a2,a3⟩:=hX;obtain⟨c,d,rfl,c1,c2,c3⟩:=hY
 have bd:∀i j,-opl 1≤i→i≤opl 1→ -opl 1≤j→j≤opl 1→∀up,-opl 1≤mulp up i j∧mulp up i j≤opl 1:=fun i j i1 i2 j1 j2 up=>by
  have s:=mulp_spec (x:=i) (y:=j) (by omega) (by omega) (by omega) (by omega);have p:=(pro_spec (x:=i) (y:=j) (by omega) (by omega) (by omega) (by omega)).2;have hp:=p2pos KK;have vi1:=vr_le i1;have vi2:=vr_le i2;have vj1:=vr_le j1;have vj2:=vr_le j2;rw [vr_neg,one_vr]at vi1 vj1;rw [one_vr]at vi2 vj2;have ov:=one_vr;generalize (2:Int)^KK=P at *
  have q: -(P*P)≤vr i*vr j∧vr i*vr j≤P*P:=by
   have m1:=Int.mul_nonneg (show 0≤P-vr i by omega) (show 0≤P+vr j by omega)
   have m2:=Int.mul_nonneg (show 0≤P+vr i by omega) (show 0≤P-vr j by omega)
   have m3:=Int.mul_nonneg (show 0≤P-vr i by omega) (show 0≤P-vr j by omega)
   have m4:=Int.mul_nonneg (show 0≤P+vr i by omega) (show 0≤P+vr j by omega)
   constructor <;> grind
  have u1:vl (ml (ep i) (ep j))≤vr (opl 1):=by
   rw [ov];exact Int.le_of_mul_le_mul_right (by rw [p];exact q.2) hp
  have u2:vr (-opl 1)≤vl (ml (ep i) (ep j)):=by
   rw [vr_neg,ov];exact Int.le_of_mul_le_mul_right (by rw [p,Int.neg_mul];exact q.1) hp
  have le:=dn_le_up s.1 s.2;have k1:=(dn_self (r:= -opl 1) (by omega) (by omega)).mono s.1 u2;have k2:=s.2.mono (up_self (r:=opl 1) (by omega) (by omega)) u1
  cases up <;> omega
 obtain⟨m,hm,m1,m2,m3,m4,_⟩:=least4 (mulp false a c) (mulp false a d) (mulp false b c) (mulp false b d);obtain⟨M,hM,M1,M2,M3,M4,_⟩:=most4 (mulp true a c) (mulp true a d) (mulp true b c) (mulp true b d);have s:=mulp_spec (x:=a) (y:=c) (by omega) (by omega) (by omega) (by omega);have le:=dn_le_up s.1 s.2;have b1:=bd a c (by omega) (by omega) (by omega) (by omega);have b2:=bd a d (by omega) (by omega) (by omega) (by omega)
 have b3:=bd b c (by omega) (by omega) (by omega) (by omega);have b4:=bd b d (by omega) (by omega) (by omega) (by omega);have f1:=(b1 false).1;have f2:=(b2 false).1;have f3:=(b3 false).1;have f4:=(b4 false).1;have g1:=(b1 true).2;have g2:=(b2 true).2;have g3:=(b3 true).2;have g4:=(b4 true).2
 have eq:mulI (some (a,b)) (some (c,d))=some (m,M):=by
  show cor mulp a b c d=_
  unfold cor
  rw [hm,hM];exact mkI_some (by omega) (by omega) (by omega)
 rw [eq];exact⟨by omega,by omega,by omega⟩
end Go.Proofs.YtaadmpiphnfllaaGreatDoor
namespace Go.Proofs.YtaadmpiphnfllaaGreatDoor
open Go.RowKit
set_option linter.unusedVariables false
def lo1:Sp→List Int
 | none=>[]
 | some (a,_)=>[a]
def hi1:Sp→List Int
 | none=>[]
 | some (_,b)=>[b]
def lowL:List Sp→List Int
 | []=>[]
 | x::l=>lo1 x ++lowL l
def highL:List Sp→List Int
 | []=>[]
 | x::l=>hi1 x ++highL l
theorem lowL_append:∀(l m:List Sp),lowL (l ++m)=lowL l ++lowL m
 | [],m=>rfl
 | x::l,m=>by
  show lo1 x ++lowL (l ++m)=(lo1 x ++lowL l)++lowL m
  rw [lowL_append l m,List.append_assoc]
theorem highL_append:∀(l m:List Sp),highL (l ++m)=highL l ++highL m
 | [],m=>rfl
 | x::l,m=>by
  show hi1 x ++highL (l ++m)=(hi1 x ++highL l)++highL m
  rw [highL_append l m,List.append_assoc]
theorem lowL_take{l:List Sp}{k:Nat}(h:k < l.length):lowL (l.take (k+1))=lowL (l.take k)++lo1 (l.getD k none):=by
 rw [List.take_succ_eq_append_getElem h,lowL_append,List.getD_eq_getElem?_getD,List.getElem?_eq_getElem h];exact congrArg _ (List.append_nil _)
theorem highL_take{l:List Sp}{k:Nat}(h:k < l.length):highL (l.take (k+1))=highL (l.take k)++hi1 (l.getD k none):=by
 rw [List.take_succ_eq_append_getElem h,highL_append,List.getD_eq_getElem?_getD,List.getElem?_eq_getElem h];exact congrArg _ (List.append_nil _)
theorem len_lo:∀l:List Sp,(lowL l).length≤l.length
 | []=>Nat.le_refl _
 | none::l=>Nat.le_succ_of_le (len_lo l)
 | some (a,b)::l=>Nat.succ_le_succ (len_lo l)
theorem meetI_mk (A B a b:Int):meetI (mkI A B) (some (a,b))=mkI (max A a) (min B b):=by
 by_cases h:A≤B∧A < 19342822337206103650074625∧ -19342822337206103650074625 < B
 ·rw [mkI_some h.1 h.2.1 h.2.2]
  rfl
 ·rw [mkI_none h,mkI_none (fun c=>h (by omega))]
  rfl
theorem meet_fold:∀(l:List Sp) (A B:Int),(lowL l).length=l.length→l.foldl meetI (mkI A B)=mkI ((lowL l).foldl max A) ((highL l).foldl min B)
 | [],A,B,_=>rfl
 | none::l,A,B,h=>by
  have h1:(lowL l).length=l.length+1:=h
  have h2:=len_lo l
  omega
 | some (a,b)::l,A,B,h=>by
  show l.foldl meetI (meetI (mkI A B) (some (a,b)))=_
  rw [meetI_mk];exact meet_fold l (max A a) (min B b) (Nat.succ_inj.1 h)
theorem meet_some{l:List Sp}(h:(lowL l).length=l.length):meetL l=mkI (mxp (lowL l)) (mnp (highL l)):=by
 have e:allI=mkI (-19342822337206103650074625) 19342822337206103650074625:=(mkI_some (by omega) (by omega) (by omega)).symm
 unfold meetL mxp mnp
 rw [e,TP_eq];exact meet_fold l _ _ h
theorem meet_gone:∀(l:List Sp) (x:Sp),(lowL l).length < l.length→l.foldl meetI x=none
 | [],x,h=>absurd h (Nat.lt_irrefl _)
 | none::l,x,h=>by
  show l.foldl meetI (meetI x none)=none
  rw [meetI_none];exact meet_stuck l
 | some (a,b)::l,x,h=>meet_gone l _ (Nat.lt_of_succ_lt_succ h)
theorem meet_no{l:List Sp}(h:(lowL l).length < l.length):meetL l=none:=meet_gone l allI h
theorem hullI_mk{A B a b:Int}(h:A=19342822337206103650074625∧B= -19342822337206103650074625∨A≤B∧A < 19342822337206103650074625∧ -19342822337206103650074625 < B)(k:SpOk (some (a,b))):
  hullI (mkI A B) (some (a,b))=mkI (min A a) (max B b)∧(min A a≤max B b∧min A a < 19342822337206103650074625∧ -19342822337206103650074625 < max B b):=by
 obtain⟨k1,k2,k3,k4,k5⟩:=k;refine⟨?_,by omega,by omega,by omega⟩
 rcases h with⟨rfl,rfl⟩ | ⟨h1,h2,h3⟩
 ·rw [mkI_none (by omega),mkI_some (by omega) (by omega) (by omega)]
  have e1:min 19342822337206103650074625 a=a:=by omega
  have e2:max (-19342822337206103650074625) b=b:=by omega
  rw [e1,e2]
  rfl
 ·rw [mkI_some h1 h2 h3]
  rfl
theorem hull_fold:∀(l:List Sp) (A B:Int),(A=19342822337206103650074625∧B= -19342822337206103650074625∨A≤B∧A < 19342822337206103650074625∧ -19342822337206103650074625 < B)→(∀y ∈ l,SpOk y)→l.foldl hullI (mkI A B)=mkI ((lowL l).foldl min A) ((highL l).foldl max B)
 | [],A,B,_,_=>rfl
 | none::l,A,B,h,k=>by
  show l.foldl hullI (hullI (mkI A B) none)=_
  rw [hullI_none]
  exact hull_fold l A B h (fun y hy=>k y (List.mem_cons_of_mem _ hy))
 | some (a,b)::l,A,B,h,k=>by
  obtain⟨e,g⟩:=hullI_mk h (k _ (List.mem_cons_self ..))
  show l.foldl hullI (hullI (mkI A B) (some (a,b)))=_
  rw [e]
  exact hull_fold l _ _ (.inr g) (fun y hy=>k y (List.mem_cons_of_mem _ hy))
theorem hull_ends{l:List Sp}(h:∀y ∈ l,SpOk y):hullL l=mkI (mnp (lowL l)) (mxp (highL l)):=by
 have e:(none:Sp)=mkI 19342822337206103650074625 (-19342822337206103650074625):=(mkI_none (by omega)).symm
 unfold hullL mxp mnp
 rw [e,TP_eq];exact hull_fold l _ _ (.inl ⟨rfl,rfl⟩) h
def nrow:List (Int × Bool × Int × Int)→List Value
 | []=>[]
 | (K,s,M,E)::l=> .int .i64 K:: .bool s:: .int .u64 M:: .int .i64 E::nrow l
theorem nrow_append:∀l m,nrow (l ++m)=nrow l ++nrow m
 | [],m=>rfl
 | (K,s,M,E)::l,m=>by
  show _::_::_::_::nrow (l ++m)=_
  rw [nrow_append l m]
  rfl
theorem nrow_at:∀(l:List (Int × Bool × Int × Int)) (k:Nat) (K:Int) (s:Bool) (M E:Int),l[k]?=some (K,s,M,E)→(nrow l)[k*4]?=some (.int .i64 K)∧(nrow l)[k*4+1]?=some (.bool s)∧(nrow l)[k*4+2]?=some (.int .u64 M)∧(nrow l)[k*4+3]?=some (.int .i64 E)
 | [],k,_,_,_,_,h=>by cases h
 | (K,s,M,E)::l,0,_,_,_,_,h=>by
  cases h
  exact⟨rfl,rfl,rfl,rfl⟩
 | (K,s,M,E)::l,k+1,K2,s2,M2,E2,h=>by
  have:=nrow_at l k K2 s2 M2 E2 h
  have e:(k+1)*4=k*4+4:=by omega
  rw [e];exact this
def Na (w:World)(base:Nat)(A:Option Addr)(n c:Nat)(l:List Int):Prop:=
 ∃r:List (Int × Bool × Int × Int),w.ownsRow base 24 4 (.slice A n c) n (nrow r)∧r.length=n∧l.length=n∧∀k,k < n→∃K s M E,r[k]?=some (K,s,M,E)∧Fq K s M E (l.getD k 0)
theorem Na.nil (w:World)(base:Nat):Na w base none 0 0 []:=⟨[],World.ownsRow_nil w base _ 4,rfl,rfl,fun k h=>absurd h (Nat.not_lt_zero _)⟩
theorem Na.len{w:World}{base n c:Nat}{A:Option Addr}{l:List Int}(h:Na w base A n c l):l.length=n:=by
 obtain⟨_,_,_,h,_⟩:=h;exact h
theorem Na.below{w w':World}{base n c:Nat}{A:Option Addr}{l:List Int}(h:Na w base A n c l)(hb:Below w.heap.size w w'):Na w' base A n c l:=by
 obtain⟨r,h1,h2⟩:=h;refine⟨r,⟨h1.1,?_⟩,h2⟩
 rcases h1.2 with h3 | ⟨g,cap,cur,hv,hg,hh,q⟩
 ·exact .inl h3
 ·refine .inr ⟨g,cap,cur,hv,hg,?_,q⟩;rw [hb.block g (Array.getElem?_eq_some_iff.1 hh).1];exact hh
theorem Na.nl{w:World}{base n c:Nat}{A:Option Addr}{l:List Int}(h:Na w base A n c l)(hn:n≤1099511627776):Nl w A n c l:=by
 obtain⟨r,h1,h2,h3,h4⟩:=h
 rcases h1.2 with⟨e1,e2⟩ | ⟨g,cap,cur,hv,hg,hh,hc,hm,hs,ht⟩
 ·injection e1 with a1 a2 a3
  subst a1;subst a2;subst a3
  exact⟨h3,Nat.le_refl _,by omega,fun h=>absurd h (Nat.lt_irrefl _)⟩
 ·injection hv with a1 a2 a3
  subst a1;subst a3
  refine⟨h3,hc,hn,fun _=>⟨g,0,rfl,fun k hk=>?_⟩⟩
  obtain⟨K,s,M,E,hr,q⟩:=h4 k hk;obtain⟨c0,c1,c2,c3⟩:=nrow_at r k K s M E hr
  have cell:∀j v,(nrow r)[j]?=some v→w.cell? ⟨g,0+j,none⟩=some v:=by
   intro j v hv
   rw [cell_of_row w g (0+j) _ _ (0,0) hh,Nat.zero_add,←Array.getElem?_toList];rw [←ht,List.getElem?_take]at hv
   split at hv
   ·exact hv
   ·cases hv
  exact⟨K,s,M,E,cell _ _ c0,by rw [Nat.add_assoc];exact cell _ _ c1,by rw [Nat.add_assoc];exact cell _ _ c2,by rw [Nat.add_assoc];exact cell _ _ c3,q.top,q.rk⟩
end Go.Proofs.YtaadmpiphnfllaaGreatDoor
namespace Go.Proofs.YtaadmpiphnfllaaGreatDoor
open Go Go.RowKit
set_option linter.unusedVariables false
def crZ (cos:Bool)(i:Int):Int:=if cos then 2*i else 2*i+1
def loZ (z:Int):Int:=if z < 0 then z*PHi else z*PLo
def hiZ (z:Int):Int:=if z < 0 then z*PLo else z*PHi
theorem meets_z (z x y:Int):meetsB z x y=(decide (loZ z≤y) && decide (x≤hiZ z)):=by
 unfold meetsB loZ hiZ
 by_cases c:z < 0
 ·rw [if_pos c,if_pos c,if_pos c,Int.mul_comm PHi,Int.mul_comm PLo]
 ·rw [if_neg c,if_neg c,if_neg c,Int.mul_comm PHi,Int.mul_comm PLo]
def crL (cos:Bool)(x y j:Int):Nat→List Sp
 | 0=>[]
 | k+1=>crL cos x y j k ++(if meetsB (crZ cos (j+k)) x y=true then [ptI (j+k)]else [])
theorem crL_len (cos:Bool)(x y j:Int):∀k:Nat,(crL cos x y j k).length≤k
 | 0=>Nat.le_refl _
 | k+1=>by
  have:=crL_len cos x y j k
  show (crL cos x y j k ++_).length≤k+1
  rw [List.length_append]
  split <;> simp <;> omega
theorem pt_us (i:Int):∃p,ptI i=some (p,p)∧ -opl 1≤p∧p≤opl 1:=by
 obtain⟨o1,o2⟩:=one_bd
 by_cases h:i%2=0
 ·exact⟨_,pt_even h,by omega,Int.le_refl _⟩
 ·exact⟨_,pt_odd h,Int.le_refl _,by omega⟩
theorem us_ok{z:Sp}(h:UnitS z):SpOk z:=by
 obtain⟨o1,o2⟩:=one_bd;obtain⟨r,u,rfl,a,b,c⟩:=h;exact⟨by omega,b,by omega,by omega,by omega⟩
theorem pt_UnitS (i:Int):UnitS (ptI i):=by
 obtain⟨p,e,a,b⟩:=pt_us i;exact⟨p,p,e,a,Int.le_refl _,b⟩
theorem crL_us (cos:Bool)(x y j:Int):∀k:Nat,∀z ∈ crL cos x y j k,UnitS z
 | 0=>fun z h=>by cases h
 | k+1=>fun z h=>by
  rcases List.mem_append.1 h with h | h
  ·exact crL_us cos x y j k z h
  ·split at h
   ·obtain rfl:=List.mem_singleton.1 h
    exact pt_UnitS _
   ·cases h
theorem crL_ok (cos:Bool)(x y j:Int)(k:Nat):SpOk (hullL (crL cos x y j k)):=hullL_ok fun z h=>us_ok (crL_us cos x y j k z h)
theorem hullL_app1 (l:List Sp)(a:Sp):hullL (l ++[a])=hullI (hullL l) a:=by
 unfold hullL
 rw [List.foldl_append]
 rfl
theorem cr_is{cos:Bool}{x y j r u:Int}(h1: -opl 1≤r)(h2:r≤u)(h3:u≤opl 1):∀k:Nat,∃e f,hullI (hullL (crL cos x y j k)) (some (r,u))=some (e,f)∧
  ((e=r∧∀t:Nat,t < k→MT cos x y (j+t)→(j+(t:Int))%2=0)∨(e= -opl 1∧∃t:Nat,t < k∧MT cos x y (j+t)∧¬(j+(t:Int))%2=0))∧
  ((f=u∧∀t:Nat,t < k→MT cos x y (j+t)→¬(j+(t:Int))%2=0)∨(f=opl 1∧∃t:Nat,t < k∧MT cos x y (j+t)∧(j+(t:Int))%2=0))
 | 0=>⟨r,u,rfl,.inl ⟨rfl,fun t ht=>absurd ht (Nat.not_lt_zero _)⟩,.inl ⟨rfl,fun t ht=>absurd ht (Nat.not_lt_zero _)⟩⟩
 | k+1=>by
  obtain⟨o1,o2⟩:=one_bd;obtain⟨e,f,eq,he,hf⟩:=cr_is (cos:=cos) (x:=x) (y:=y) (j:=j) h1 h2 h3 k
  have be: -opl 1≤e∧e≤f∧f≤opl 1:=by
   rcases he with⟨a,_⟩ | ⟨a,_⟩ <;> rcases hf with⟨b,_⟩ | ⟨b,_⟩ <;> omega
  have less:∀t:Nat,t < k+1→t < k∨t=k:=fun t ht=>by omega
  have okB:SpOk (some (r,u)):=⟨by omega,h2,by omega,by omega,by omega⟩
  by_cases hm:MT cos x y (j+k)
  ·have hm':meetsB (crZ cos (j+k)) x y=true:=hm
   have e1:hullI (hullL (crL cos x y j (k+1))) (some (r,u))=hullI (some (e,f)) (ptI (j+k)):=by
    show hullI (hullL (crL cos x y j k ++(if meetsB (crZ cos (j+k)) x y=true then [ptI (j+k)]else []))) (some (r,u))=_
    rw [if_pos hm',hullL_app1,hull_assoc (crL_ok cos x y j k) (us_ok (pt_UnitS _)) okB,hull_comm (x:=ptI _),←hull_assoc (crL_ok cos x y j k) okB (us_ok (pt_UnitS _)),eq]
   rw [e1]
   by_cases hp:(j+(k:Int))%2=0
   ·rw [pt_even hp,hull_unit be.1 be.2.1 be.2.2 (by omega) (by omega)];refine⟨e,opl 1,by rw [Int.min_eq_left (by omega),Int.max_eq_right (by omega)],?_,.inr ⟨rfl,k,by omega,hm,hp⟩⟩
    rcases he with⟨a,b⟩ | ⟨a,t,b1,b2,b3⟩
    ·refine .inl ⟨a,fun t ht mt=>?_⟩
     rcases less t ht with c | rfl
     ·exact b t c mt
     ·exact hp
    ·exact .inr ⟨a,t,by omega,b2,b3⟩
   ·rw [pt_odd hp,hull_unit be.1 be.2.1 be.2.2 (by omega) (by omega)];refine⟨-opl 1,f,by rw [Int.min_eq_right (by omega),Int.max_eq_left (by omega)],.inr ⟨rfl,k,by omega,hm,hp⟩,?_⟩
    rcases hf with⟨a,b⟩ | ⟨a,t,b1,b2,b3⟩
    ·refine .inl ⟨a,fun t ht mt=>?_⟩
     rcases less t ht with c | rfl
     ·exact b t c mt
     ·exact hp
    ·exact .inr ⟨a,t,by omega,b2,b3⟩
  ·have hm':¬meetsB (crZ cos (j+k)) x y=true:=hm
   have e1:hullI (hullL (crL cos x y j (k+1))) (some (r,u))=some (e,f):=by
    show hullI (hullL (crL cos x y j k ++(if meetsB (crZ cos (j+k)) x y=true then [ptI (j+k)]else []))) (some (r,u))=_
    rw [if_neg hm',List.append_nil,eq]
   rw [e1];refine⟨e,f,rfl,?_,?_⟩
   ·rcases he with⟨a,b⟩ | ⟨a,t,b1,b2,b3⟩
    ·refine .inl ⟨a,fun t ht mt=>?_⟩
     rcases less t ht with c | rfl
     ·exact b t c mt
     ·exact absurd mt hm
    ·exact .inr ⟨a,t,by omega,b2,b3⟩
   ·rcases hf with⟨a,b⟩ | ⟨a,t,b1,b2,b3⟩
    ·refine .inl ⟨a,fun t ht mt=>?_⟩
     rcases less t ht with c | rfl
     ·exact b t c mt
     ·exact absurd mt hm
    ·exact .inr ⟨a,t,by omega,b2,b3⟩
theorem loZ_mono{a b:Int}(h:a≤b):loZ a≤loZ b:=by
 unfold loZ PLo PHi
 split <;> split <;> omega
theorem crZ_mono (cos:Bool){a b:Int}(h:a≤b):crZ cos a≤crZ cos b:=by
 unfold crZ
 cases cos
 ·simp only [Bool.false_eq_true,if_false]
  omega
 ·simp only [if_true]
  omega
theorem cr_first{cos:Bool}{X y j i:Int}(hX: -4294967296*SC≤X∧X≤4294967296*SC)(hj:X.fdiv (PLo*2)=j)(hm:MT cos X y i):j≤i:=by
 rw [Int.fdiv_eq_ediv_of_nonneg _ (by decide)]at hj
 have j1:=Int.ediv_mul_le X (show (PLo*2:Int)≠0 by decide)
 have j2:=Int.lt_ediv_add_one_mul_self X (show (0:Int) < PLo*2 by decide)
 rw [hj]at j1 j2;clear hj;obtain⟨h1,h2⟩:=hX
 unfold MT meetsB at hm
 cases cos
 ·simp only [Bool.false_eq_true,if_false]at hm
  by_cases c:2*i+1 < 0
  ·rw [if_pos c]at hm;simp only [Bool.and_eq_true,decide_eq_true_eq]at hm
   unfold SC PLo PHi at *
   omega
  ·rw [if_neg c]at hm;simp only [Bool.and_eq_true,decide_eq_true_eq]at hm
   unfold SC PLo PHi at *
   omega
 ·simp only [if_true]at hm
  by_cases c:2*i < 0
  ·rw [if_pos c]at hm;simp only [Bool.and_eq_true,decide_eq_true_eq]at hm
   unfold SC PLo PHi at *
   omega
  ·rw [if_neg c]at hm;simp only [Bool.and_eq_true,decide_eq_true_eq]at hm
   unfold SC PLo PHi at *
   omega
theorem cr_last{cos:Bool}{x y i k:Int}(hs:y < loZ (crZ cos k))(hm:MT cos x y i):i < k:=by
 refine Int.not_le.1 fun c=>?_
 have hm':meetsB (crZ cos i) x y=true:=hm
 rw [meets_z,Bool.and_eq_true,decide_eq_true_eq]at hm'
 have:=loZ_mono (crZ_mono cos c)
 omega
theorem cr_stop{cos:Bool}{X y j:Int}(hX: -4294967296*SC≤X∧X≤4294967296*SC)(hj:X.fdiv (PLo*2)=j)(hy:y≤X+14*SC+2):y < loZ (crZ cos (j+6)):=by
 rw [Int.fdiv_eq_ediv_of_nonneg _ (by decide)]at hj
 have j1:=Int.ediv_mul_le X (show (PLo*2:Int)≠0 by decide)
 have j2:=Int.lt_ediv_add_one_mul_self X (show (0:Int) < PLo*2 by decide)
 rw [hj]at j1 j2;clear hj;obtain⟨h1,h2⟩:=hX
 unfold loZ crZ
 cases cos
 ·simp only [Bool.false_eq_true,if_false]
  unfold SC PLo PHi at *
  split <;> omega
 ·simp only [if_true]
  unfold SC PLo PHi at *
  split <;> omega
theorem cr_all{cos:Bool}{a b j:Int}{za zb:Sp}{k:Nat}(fa:fixB a=true)(fb:fixB b=true)(hw:¬opl 7≤widI (some (a,b)))(ha:Sv cos a za)(hb:Sv cos b zb)(hj:(fixI a*2).fdiv (PLo*2)=j)(hs:fixI b*2+2 < loZ (crZ cos (j+k))):
  hullL (crL cos (fixI a*2) (fixI b*2+2) j k ++[za,zb])=loopV cos (fixI a*2) (fixI b*2+2) j (hullI za zb) 13:=by
 obtain⟨o1,o2⟩:=one_bd;have ua:=sv_us ha;have ub:=sv_us hb;obtain⟨r,u,hz,h1,h2,h3⟩:=hull_us ua ub
 have e1:hullL (crL cos (fixI a*2) (fixI b*2+2) j k ++[za,zb])=hullI (hullL (crL cos (fixI a*2) (fixI b*2+2) j k)) (hullI za zb):=by
  rw [←hull_assoc (crL_ok _ _ _ _ _) (us_ok ua) (us_ok ub),←hullL_app1,←hullL_app1,List.append_assoc]
  rfl
 obtain⟨ba,bb⟩:=fix_bd fa
 have hX: -4294967296*SC≤fixI a*2∧fixI a*2≤4294967296*SC:=by
  generalize fixI a=A at *
  unfold SC at *
  omega
 have fw:∀i,MT cos (fixI a*2) (fixI b*2+2) i→∃t:Nat,t < k∧i=j+t:=fun i hm=>by
  have c1:=cr_first hX hj hm;have c2:=cr_last hs hm;exact⟨(i-j).toNat,by omega,by omega⟩
 have gw:∀i,MT cos (fixI a*2) (fixI b*2+2) i→∃t:Nat,t < 13∧i=j-4+t:=fun i hm=>by
  have:=search fa fb hw hm
  rw [hj]at this;exact this
 rw [e1,hz];obtain⟨e,f,eq,he,hf⟩:=cr_is (cos:=cos) (x:=fixI a*2) (y:=fixI b*2+2) (j:=j) h1 h2 h3 k;obtain⟨e',f',eq',he',hf'⟩:=loop_is (cos:=cos) (x:=fixI a*2) (y:=fixI b*2+2) (j:=j) h1 h2 h3 13;rw [eq,eq']
 obtain rfl:e=e':=by
  rcases he with⟨p,q⟩ | ⟨p,t,q1,q2,q3⟩ <;> rcases he' with⟨p',q'⟩ | ⟨p',t',q1',q2',q3'⟩
  ·omega
  ·obtain⟨s,s1,s2⟩:=fw _ q2';exact absurd (by have:=q s s1 (s2▸q2');omega) q3'
  ·obtain⟨s,s1,s2⟩:=gw _ q2;exact absurd (by have:=q' s s1 (s2▸q2);omega) q3
  ·omega
 obtain rfl:f=f':=by
  rcases hf with⟨p,q⟩ | ⟨p,t,q1,q2,q3⟩ <;> rcases hf' with⟨p',q'⟩ | ⟨p',t',q1',q2',q3'⟩
  ·omega
  ·obtain⟨s,s1,s2⟩:=fw _ q2';exact absurd q3' (by have:=q s s1 (s2▸q2');omega)
  ·obtain⟨s,s1,s2⟩:=gw _ q2;exact absurd q3 (by have:=q' s s1 (s2▸q2);omega)
  ·omega
 rfl
end Go.Proofs.YtaadmpiphnfllaaGreatDoor
namespace Go.Proofs.YtaadmpiphnfllaaGreatDoor
open Go.RowKit
set_option linter.unusedVariables false
set_option maxRecDepth 100000
theorem infoNum:(Tryz.prog.info? 24).map (fun i=>(i.zero,i.size,i.bytes))=some (some (.agg #[.int .i64 0,.bool false,.int .u64 0,.int .i64 0]),4,32):=by kernel_rfl
section
variable {w w':World} {base n c:Nat} {A:Option Addr} {l:List Int}
def ownA (A:Option Addr):Option Nat:=A.map (·.block)
theorem own_eq (A:Option Addr)(n c:Nat):(Value.slice A n c).ownBlock=ownA A:=by cases A <;> rfl
theorem Na.kept{row:Option Nat}(h:Na w base A n c l)(hg:w.grownBy w' row)(hne:ownA A=none∨ownA A≠row):Na w' base A n c l:=by
 obtain⟨r,h1,h2⟩:=h;exact⟨r,h1.kept hg (by rw [own_eq];exact hne),h2⟩
theorem Na.own_lt (h:Na w base A n c l):∀k,ownA A=some k→base≤k∧k < w.heap.size:=by
 obtain⟨r,h1,h2⟩:=h
 intro k hk
 exact h1.lt k (by rw [own_eq];exact hk)
theorem run_na{ty:TypeId}{g:Nat}{K M E a:Int}{s:Bool}(h:Na w base A n c l)(q:Fq K s M E a)(X:Bo w g #[.int .i64 K,.bool s,.int .u64 M,.int .i64 E] 24)(hn:n+1≤1099511627776)(hb:base≤w.heap.size):
  ∃A2 c2 w',(Builtin.append_ #[74,74] ty #[.slice A n c,.slice (some ⟨g,0,none⟩) 1 1]).run Tryz.prog w= .ok (.slice A2 (n+1) c2) w'∧Na w' base A2 (n+1) c2 (l ++[a])∧w.grownBy w' (ownA A)∧(ownA A2=ownA A∨ownA A2=some w.heap.size):=by
 obtain⟨i,hi,hz,hsi,hby⟩:=info_parts infoNum;obtain⟨r,h1,h2,h3,h4⟩:=h
 obtain⟨v',w',hr,ho,hg,_,hat⟩:=run_append_own_at (P:=Tryz.prog) w base 74 ty 24 i _ 4 32 Tryz.underlying74 hi hz hsi hby rfl (by decide) _ n (nrow r) h1 ⟨g,0,none⟩ 1 1 (nrow [(K,s,M,E)]) rfl (by
  intro j u hj
  have hc:=X.cell
  rcases j with _ | _ | _ | _ | j
  ·cases hj
   exact hc 0
  ·cases hj
   exact hc 1
  ·cases hj
   exact hc 2
  ·cases hj
   exact hc 3
  ·cases hj) (by
  intro u hu
  simp only [nrow,List.mem_cons,List.not_mem_nil,or_false]at hu
  rcases hu with rfl | rfl | rfl | rfl <;> rfl) (by unfold maxLen;omega) (by omega) hb
 rw [own_eq]at hg hat;rw [←nrow_append]at ho
 obtain⟨A2,c2,rfl⟩:∃A2 c2,v'= .slice A2 (n+1) c2:=by
  rcases ho.2 with⟨_,h0⟩ | ⟨g',cap',cur',hv,_⟩
  ·omega
  ·exact⟨_,_,hv⟩
 rw [own_eq]at hat
 refine⟨A2,c2,w',hr,⟨_,ho,by rw [List.length_append,h2];rfl,by rw [List.length_append,h3];rfl,fun k hk=>?_⟩,hg,hat⟩
 by_cases hkn:k < n
 ·obtain⟨K1,s1,M1,E1,hq,qq⟩:=h4 k hkn;refine⟨K1,s1,M1,E1,by rw [List.getElem?_append_left (by omega)];exact hq,?_⟩
  rw [List.getD_eq_getElem?_getD,List.getElem?_append_left (by omega),←List.getD_eq_getElem?_getD];exact qq
 ·obtain rfl:k=n:=by omega
  refine⟨K,s,M,E,by rw [List.getElem?_append_right (by omega),h2];simp,?_⟩
  rw [List.getD_eq_getElem?_getD,List.getElem?_append_right (by omega),h3]
  simpa using q
theorem wpList_na{ops:Array Oper}{rest:List Oper}{o:Oper}{a:Act}{Q:Exit→Act→World→Prop}(hgd:o.guard=none)(s x:Operand)
  (ho:o.op= .call {callee:= .builtin .append,args:= #[s,x],argTypes:= #[74,74]}) {g:Nat} {K M E p:Int} {b:Bool}
  (hs:a.eval s= .slice A n c) (hx:a.eval x= .slice (some ⟨g,0,none⟩) 1 1) (h:Na w base A n c l) (q:Fq K b M E p) (X:Bo w g #[.int .i64 K,.bool b,.int .u64 M,.int .i64 E] 24) (hn:n+1≤1099511627776) (hb:base≤w.heap.size)
  (hK:∀A2 c2 w',Na w' base A2 (n+1) c2 (l ++[p])→w.grownBy w' (ownA A)→(ownA A2=ownA A∨ownA A2=some w.heap.size)→wpList Tryz.prog ops Q rest (a.put o.dst (.slice A2 (n+1) c2)) w'):wpList Tryz.prog ops Q (o::rest) a w:=by
 refine wpList_plain hgd fun K hK2=>?_
 obtain⟨A2,c2,w',hr,h1,h2,h3⟩:=run_na (ty:=o.type) h q X hn hb
 unfold Oper.wp execOp
 simp only [ho,resolve,invoke,builtin,Sem.run_bind,Sem.run_pure,Result.andThen_ok,List.map_toArray,List.map_cons,List.map_nil,hs,hx,hr];exact hK2 _ _ (hK A2 c2 w' h1 h2 h3)
end
set_option linter.unusedSimpArgs false
theorem Nl.lit2{W:World}{g:Nat}{D1 D2 M1 M2 E1 E2 r1 r2:Int}{s1 s2:Bool}(hg:W.heap.size=g)(h1:LQ M1)(h2:LQ M2)(k1:rk D1 s1 M1 E1=r1)(k2:rk D2 s2 M2 E2=r2):
  Nl (W.alloc (.cells #[.int .i64 D1,.bool s1,.int .u64 M1,.int .i64 E1,.int .i64 D2,.bool s2,.int .u64 M2,.int .i64 E2] 24)) (some ⟨g,0,none⟩) 2 2 [r1,r2]:=by
 subst hg;have hh:=heap_alloc_new W (.cells #[.int .i64 D1,.bool s1,.int .u64 M1,.int .i64 E1,.int .i64 D2,.bool s2,.int .u64 M2,.int .i64 E2] 24)
 refine⟨rfl,Nat.le_refl _,by decide,fun _=>⟨_,0,rfl,fun k hk=>?_⟩⟩
 rcases (by omega:k=0∨k=1)with rfl | rfl
 ·exact⟨D1,s1,M1,E1,by rw [cell_of_row _ _ _ _ _ _ hh];rfl,by rw [cell_of_row _ _ _ _ _ _ hh];rfl,by rw [cell_of_row _ _ _ _ _ _ hh];rfl,by rw [cell_of_row _ _ _ _ _ _ hh];rfl,h1,k1⟩
 ·exact⟨D2,s2,M2,E2,by rw [cell_of_row _ _ _ _ _ _ hh];rfl,by rw [cell_of_row _ _ _ _ _ _ hh];rfl,by rw [cell_of_row _ _ _ _ _ _ hh];rfl,by rw [cell_of_row _ _ _ _ _ _ hh];rfl,h2,k2⟩
theorem mxp_two{a b:Int}(ha: -19342822337206103650074625≤a):mxp [a,b]=max a b:=by
 have:=TP_eq
 show max (max (-TP) a) b=_
 omega
end Go.Proofs.YtaadmpiphnfllaaGreatDoor
