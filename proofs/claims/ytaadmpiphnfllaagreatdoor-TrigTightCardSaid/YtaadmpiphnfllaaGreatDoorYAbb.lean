/-
 Contracts that the proof rests on.
-/
import Derived.Test.YtaadmpiphnfllaaGreatDoorYAba
namespace Go.Proofs.YtaadmpiphnfllaaGreatDoor
open Go Go.RowKit
set_option linter.unusedVariables false
theorem rq_sid{up:Bool}{l r:Int}(h:Rq up l SC r):Sid up (l*2^KK) SC r:=by
 rw [rq_some (by decide),show sgi (decide (SC < 0)) SC=SC from rfl,show sgi (decide (SC < 0)) l=l from rfl]at h
 exact h
theorem sc_pos:(0:Int) < SC:=by decide
theorem place_le{up:Bool}{l r p:Int}(h:Rq up l SC r)(p1: -19342822337206103650074625 < p)(p2:p < 19342822337206103650074625)(e:vr p*SC≤l*2^KK):p≤r:=
 Sid.mono (up:=up) (B:=1) (by decide) sc_pos (sid_exact (by decide) p1 p2 (Int.mul_one _)) (rq_sid h) (by rw [Int.mul_one];exact e)
theorem le_place{up:Bool}{l r p:Int}(h:Rq up l SC r)(p1: -19342822337206103650074625 < p)(p2:p < 19342822337206103650074625)(e:l*2^KK≤vr p*SC):r≤p:=
 Sid.mono (up:=up) (D:=1) sc_pos (by decide) (rq_sid h) (sid_exact (by decide) p1 p2 (Int.mul_one _)) (by rw [Int.mul_one];exact e)
theorem one_vr:vr (opl 1)=2^KK:=by rw [opl_vr (by decide) (by decide),Int.one_mul]
theorem one_neg:opl (-1)= -opl 1:=rfl
theorem one_bd:0 < opl 1∧opl 1 < 19342822337206103650074625:=opl_pos (by decide) (by decide)
theorem rq_unit{up:Bool}{l r:Int}(h:Rq up l SC r)(h1: -SC≤l)(h2:l≤SC): -opl 1≤r∧r≤opl 1:=by
 obtain⟨o1,o2⟩:=one_bd;have hp:=p2pos KK
 constructor
 ·refine place_le h (by omega) (by omega) ?_;rw [vr_neg,one_vr,Int.neg_mul,Int.mul_comm,←Int.neg_mul];exact Int.mul_le_mul_of_nonneg_right h1 (by omega)
 ·refine le_place h (by omega) (by omega) ?_;rw [one_vr,Int.mul_comm (2^KK)];exact Int.mul_le_mul_of_nonneg_right h2 (by omega)
theorem rq_pair{l h r u:Int}(hr:Rq false l SC r)(hu:Rq true h SC u)(le:l≤h):r≤u:=by
 obtain⟨t,ht⟩:=rq_ex true l SC;have a:=Sid.mono sc_pos sc_pos (rq_sid ht) (rq_sid hu) (Int.mul_le_mul_of_nonneg_right (Int.mul_le_mul_of_nonneg_right le (by have:=p2pos KK;omega)) (Int.le_of_lt sc_pos))
 rcases sid_two sc_pos (rq_sid hr) (rq_sid ht)with ⟨b,_⟩ | ⟨b,_⟩ <;> omega
def SB (σ:Rat)(Z:Sp):Prop:=∃l h r u:Int,Z=some (r,u)∧Rq false l SC r∧Rq true h SC u∧ -SC≤l∧l≤h∧h≤SC∧(l= -SC∨((l+99:Int):Rat)≤σ)∧(h=SC∨σ≤((h-99:Int):Rat))∧σ≤((l+17592186044416:Int):Rat)∧((h-17592186044416:Int):Rat)≤σ
theorem SB.unit{σ:Rat}{Z:Sp}(h:SB σ Z):∃r u,Z=some (r,u)∧ -opl 1≤r∧r≤u∧u≤opl 1:=by
 obtain⟨l,h,r,u,rfl,hr,hu,h1,h2,h3,_⟩:=h;exact⟨r,u,rfl,(rq_unit hr h1 (by omega)).1,rq_pair hr hu h2,(rq_unit hu (by omega) h3).2⟩
theorem SB.fin{σ:Rat}{Z:Sp}(h:SB σ Z):FinI Z:=by
 obtain⟨o1,o2⟩:=one_bd;obtain⟨r,u,rfl,a,b,c⟩:=h.unit;exact⟨b,by omega,by omega⟩
theorem rq_lo{l r:Int}{v:Rat}(h:Rq false l SC r)(e:(l:Rat)≤v*SR):r= -19342822337206103650074625∨((vr r:Int):Rat)≤v*BR:=by
 have s:=rq_sid h;rw [sid_f]at s;obtain⟨_,_,h3,_⟩:=s
 by_cases c:r= -19342822337206103650074625
 ·exact .inl c
 ·right
  have a:=Rat.intCast_le_intCast.2 (h3 (by rename_i h1 _;omega));rw [Rat.intCast_mul,Rat.intCast_mul]at a;refine Rat.le_of_mul_le_mul_right (c:=SR) ?_ sr_pos;have b:=Rat.mul_le_mul_of_nonneg_right e (Rat.le_of_lt br_pos)
  unfold BR at *
  grind
theorem rq_hi{h u:Int}{v:Rat}(k:Rq true h SC u)(e:v*SR≤(h:Rat)):u=19342822337206103650074625∨v*BR≤((vr u:Int):Rat):=by
 have s:=(rq_sid k);rw [sid_t]at s;obtain⟨_,_,h3,_⟩:=s
 by_cases c:u=19342822337206103650074625
 ·exact .inl c
 ·right
  have a:=Rat.intCast_le_intCast.2 (h3 (by rename_i h1 _;omega));rw [vr_neg,Rat.intCast_mul,Rat.intCast_neg,Rat.intCast_neg,Rat.intCast_mul]at a;refine Rat.le_of_mul_le_mul_right (c:=SR) ?_ sr_pos;have b:=Rat.mul_le_mul_of_nonneg_right e (Rat.le_of_lt br_pos)
  unfold BR at *
  grind
theorem SB.lo{σ v:Rat}{Z:Sp}(h:SB σ Z)(v1: -1≤v)(v2:σ≤v*SR+99):LoR v Z:=by
 obtain⟨l,h,r,u,rfl,hr,hu,h1,h2,h3,hl,hh,_⟩:=h;refine rq_lo hr ?_
 rcases hl with rfl | hl
 ·have:=Rat.mul_le_mul_of_nonneg_right v1 (Rat.le_of_lt sr_pos)
  rw [Rat.intCast_neg]
  grind
 ·rw [Rat.intCast_add]at hl
  have e:((99:Int):Rat)=99:=rfl
  rw [e]at hl
  grind
theorem SB.hi{σ v:Rat}{Z:Sp}(h:SB σ Z)(v1:v≤1)(v2:v*SR≤σ+99):HiR v Z:=by
 obtain⟨l,h,r,u,rfl,hr,hu,h1,h2,h3,hl,hh,_⟩:=h;refine rq_hi hu ?_
 rcases hh with rfl | hh
 ·have:=Rat.mul_le_mul_of_nonneg_right v1 (Rat.le_of_lt sr_pos)
  grind
 ·rw [Rat.intCast_sub]at hh
  have e:((99:Int):Rat)=99:=rfl
  rw [e]at hh
  grind
theorem unitI_some:unitI=some (-opl 1,opl 1):=by
 obtain⟨o1,o2⟩:=one_bd;exact mkI_some (by rw [one_neg];omega) (by rw [one_neg];omega) (by omega)
theorem unit_R{v:Rat}:(-1≤v→LoR v unitI)∧(v≤1→HiR v unitI)∧FinI unitI:=by
 obtain⟨o1,o2⟩:=one_bd
 have e:((vr (opl 1):Int):Rat)=BR:=by rw [one_vr];rfl
 rw [unitI_some]
 refine⟨fun h=> .inr ?_,fun h=> .inr ?_,⟨by omega,by omega,by omega⟩⟩
 ·rw [vr_neg,Rat.intCast_neg,e]
  have:=Rat.mul_le_mul_of_nonneg_right h (Rat.le_of_lt br_pos)
  grind
 ·rw [e]
  have:=Rat.mul_le_mul_of_nonneg_right h (Rat.le_of_lt br_pos)
  grind
theorem bt_wide{x y:Int}(h1: -2147483648*SC≤x)(h2:x≤2147483648*SC):btL x y=(wide x y).1∧btH x y=(wide x y).2:=by
 have hs:serI (rI x)=si (rI x) 40:=by
  obtain⟨a,b⟩:=rI_bd h1 h2;exact if_neg (by unfold SC at *;omega)
 unfold btL btH wide
 rw [hs]
 by_cases c:qI x%2=0
 ·rw [if_pos c,if_pos c,if_pos c];exact⟨rfl,rfl⟩
 ·rw [if_neg c,if_neg c,if_neg c];exact⟨rfl,rfl⟩
theorem wide_far{x y:Int}(h1: -2147483648*SC≤x)(h2:x≤2147483648*SC)(h3:x≤y)(h4:y-x≤2000000):(wide x y).2-(wide x y).1≤8796093022664∧(wide x y).1≤(wide x y).2:=by
 obtain⟨c,d⟩:=tI_bd h1 h2 h3 h4
 unfold wide
 by_cases c:qI x%2=0
 ·rw [if_pos c];simp only []
  omega
 ·rw [if_neg c];simp only []
  omega
theorem su_bd{x:Int}{z:Rat}(a: -(17/10)≤ang x z∧ang x z≤17/10): -(1+1/2^240)≤sinU x z∧sinU x z≤1+1/2^240:=by
 obtain⟨s1,s2⟩:=sin_bd (x:=ang x z) (by grind) (by grind);generalize (1/2^240:Rat)=t at *;rw [sinU_ang]
 by_cases c:qI x%2=0
 ·rw [if_pos c];exact⟨s1,s2⟩
 ·rw [if_neg c]
  constructor <;> grind
theorem sr_eps:(1/2^240:Rat)*SR≤1:=by decide +kernel
theorem box_of{x y l h r u:Int}{Z:Sp}{z:Rat}(h1: -2147483648*SC≤x)(h2:x≤2147483648*SC)(h3:x≤y)(h4:y-x≤2000000)(z1:(x:Rat)≤z)(z2:z≤(y:Rat))
  (hl:bndI (btL x y) (-SC) SC=l) (hh:bndI (btH x y) (-SC) SC=h) (hr:Rq false l SC r) (hu:Rq true h SC u) (hz:mkI r u=Z):SB (sinU x z*SR) Z:=by
 obtain⟨w1,w2⟩:=wide_sin h1 h2 h3 h4 z1 z2;obtain⟨f1,f2⟩:=wide_far h1 h2 h3 h4;obtain⟨b1,b2⟩:=su_bd (ang_bd h1 h2 h3 h4 z1 z2);obtain⟨e1,e2⟩:=bt_wide (y:=y) h1 h2;rw [e1]at hl;rw [e2]at hh;generalize (wide x y).1=lo at *;generalize (wide x y).2=hi at *;have sp:=sr_pos;have ep:=sr_eps;have g1:=Rat.mul_le_mul_of_nonneg_right b1 (Rat.le_of_lt sp);have g2:=Rat.mul_le_mul_of_nonneg_right b2 (Rat.le_of_lt sp)
 generalize (1/2^240:Rat)=t at *;generalize sinU x z=s at *
 have c1:((1:Int):Rat)=1:=rfl
 have k1:lo≤SC-98:=by
  have a:((lo+99:Int):Rat)≤((SC+1:Int):Rat):=by
   refine Rat.le_trans w1 ?_;rw [Rat.intCast_add,c1]
   grind
  have:=Rat.intCast_le_intCast.1 a
  omega
 have k2: -SC+98≤hi:=by
  have a:((-SC-1:Int):Rat)≤((hi-99:Int):Rat):=by
   refine Rat.le_trans ?_ w2;rw [Rat.intCast_sub,Rat.intCast_neg,c1]
   grind
  have:=Rat.intCast_le_intCast.1 a
  omega
 have hl2:(l= -SC∨l=lo)∧lo≤l∧ -SC≤l:=by
  unfold bndI at hl
  split at hl
  ·omega
  ·split at hl <;> omega
 have hh2:(h=SC∨h=hi)∧h≤hi∧h≤SC:=by
  unfold bndI at hh
  split at hh
  ·omega
  ·split at hh <;> omega
 have sc:=sc_pos
 have lh:l≤h:=by omega
 have hSC:l≤SC∧ -SC≤h:=by omega
 obtain⟨o1,o2⟩:=one_bd;have u1:=rq_unit hr hl2.2.2 hSC.1;have u2:=rq_unit hu hSC.2 hh2.2.2;refine⟨l,h,r,u,?_,hr,hu,hl2.2.2,lh,hh2.2.2,?_,?_,?_,?_⟩
 ·rw [←hz];exact mkI_some (rq_pair hr hu lh) (by omega) (by omega)
 ·rcases hl2.1 with e | e
  ·exact .inl e
  ·exact .inr (by rw [e];exact w1)
 ·rcases hh2.1 with e | e
  ·exact .inl e
  ·exact .inr (by rw [e];exact w2)
 ·exact Rat.le_trans w2 (Rat.intCast_le_intCast.2 (by omega))
 ·exact Rat.le_trans (Rat.intCast_le_intCast.2 (by omega)) w1
def zp (x:Int):Rat:=((vr x:Int):Rat)*SR/BR
theorem zp_at (x:Int):zp x*BR=((vr x:Int):Rat)*SR:=Rat.div_mul_cancel (Rat.ne_of_gt br_pos)
theorem zp_in{x:Int}(h:fixB x=true):((fixI x:Int):Rat)≤zp x∧zp x≤((fixI x+1:Int):Rat):=by
 obtain⟨a,b⟩:=fix_holds h
 have a':=Rat.intCast_le_intCast.2 a
 have b':=Rat.intCast_lt_intCast.2 b
 rw [Rat.intCast_mul,Rat.intCast_mul]at a' b';have e:=zp_at x;have hp:=br_pos
 have e2:((2^KK:Int):Rat)=BR:=rfl
 rw [e2]at a' b'
 constructor
 ·refine Rat.le_of_mul_le_mul_right (c:=BR) ?_ hp;rw [e];exact a'
 ·refine Rat.le_of_mul_le_mul_right (c:=BR) ?_ hp;rw [e];exact Rat.le_of_lt b'
theorem zp_le{x y:Int}(h:x≤y):zp x≤zp y:=by
 refine Rat.le_of_mul_le_mul_right (c:=BR) ?_ br_pos;rw [zp_at,zp_at];exact Rat.mul_le_mul_of_nonneg_right (Rat.intCast_le_intCast.2 (vr_le h)) (Rat.le_of_lt sr_pos)
theorem zp_neg (x:Int):zp (-x)= -zp x:=by
 have e:=zp_at x;have f:=zp_at (-x);rw [vr_neg,Rat.intCast_neg]at f;have hp:=br_pos;refine Rat.le_antisymm (Rat.le_of_mul_le_mul_right (c:=BR) ?_ hp) (Rat.le_of_mul_le_mul_right (c:=BR) ?_ hp) <;> grind
def zq (cos:Bool)(x:Int):Rat:=if cos then zp x+qt*SR else zp x
def su (cos:Bool)(x:Int):Rat:=sinU (ofX cos (fixI x)) (zq cos x)
theorem fix_bd{x:Int}(h:fixB x=true): -1073741825*SC≤fixI x∧fixI x≤1073741824*SC:=by
 obtain⟨a,b⟩:=fix_holds h;have hb:=of_decide_eq_true h;have v1:=vr_lt hb.2;have v2:=vr_lt hb.1;rw [vr_neg,opl_vr (by decide) (by decide)]at v2;rw [opl_vr (by decide) (by decide)]at v1;have hp:=p2pos KK;have d1:=Int.mul_lt_mul_of_pos_right v1 sc_pos;have d2:=Int.mul_lt_mul_of_pos_right v2 sc_pos
 constructor
 ·refine Int.le_of_lt_add_one (Int.lt_of_mul_lt_mul_right (a:=2^KK) ?_ (Int.le_of_lt hp))
  have e: -1073741825*SC*2^KK≤ -(1073741824*2^KK)*SC:=by
   have:=Int.mul_nonneg (Int.le_of_lt sc_pos) (Int.le_of_lt hp)
   have e1: -1073741825*SC*2^KK= -1073741825*(SC*2^KK):=Int.mul_assoc _ _ _
   have e2: -(1073741824*2^KK)*SC= -(1073741824*(SC*2^KK)):=by rw [Int.neg_mul,Int.mul_assoc,Int.mul_comm (2^KK) SC]
   rw [e1,e2];generalize SC*2^KK=P at *
   omega
  omega
 ·refine Int.le_of_mul_le_mul_right (a:=2^KK) ?_ hp
  have e:1073741824*SC*2^KK=1073741824*2^KK*SC:=by rw [Int.mul_assoc,Int.mul_comm SC,←Int.mul_assoc]
  omega
theorem of_bd{cos:Bool}{x:Int}(h:fixB x=true): -2147483648*SC≤ofX cos (fixI x)∧ofX cos (fixI x)≤2147483648*SC∧ofX cos (fixI x)≤ofY cos (fixI x)∧ofY cos (fixI x)-ofX cos (fixI x)≤2000000:=by
 obtain⟨a,b⟩:=fix_bd h;generalize fixI x=g at *
 unfold ofX ofY
 cases cos
 ·simp only [Bool.false_eq_true,if_false]
  unfold SC at *
  omega
 ·simp only [if_true]
  unfold SC PLo PHi at *
  omega
theorem zq_in{cos:Bool}{x:Int}(h:fixB x=true):((ofX cos (fixI x):Int):Rat)≤zq cos x∧zq cos x≤((ofY cos (fixI x):Int):Rat):=by
 obtain⟨a,b⟩:=zp_in h
 unfold ofX ofY zq
 cases cos
 ·simp only [Bool.false_eq_true,if_false];exact⟨a,b⟩
 ·simp only [if_true];obtain⟨p1,p2⟩:=half_turn
  have c2:((2:Int):Rat)=2:=rfl
  have q1:((PLo/2:Int):Rat)≤qt*SR:=by
   have f:=(fl_bd PLo 2 (by decide)).1;rw [c2]at f
   grind
  have q2:qt*SR≤(((PHi+1) /2:Int):Rat):=by
   have f:=Rat.intCast_le_intCast.2 (show PHi≤(PHi+1) /2*2 by decide)
   rw [Rat.intCast_mul,c2]at f
   grind
  constructor
  ·rw [Rat.intCast_add];exact radd a q1
  ·rw [Rat.intCast_add];exact radd b q2
theorem sv_box{cos:Bool}{x:Int}{Z:Sp}(hf:fixB x=true)(h:Sv cos x Z):SB (su cos x*SR) Z∧ -(17/10)≤ang (ofX cos (fixI x)) (zq cos x)∧ang (ofX cos (fixI x)) (zq cos x)≤17/10:=by
 obtain⟨b1,b2,b3,b4⟩:=of_bd (cos:=cos) hf;obtain⟨z1,z2⟩:=zq_in (cos:=cos) hf
 rcases h with⟨c,_⟩ | ⟨_,r,u,hr,hu,hz⟩
 ·rw [hf]at c
  cases c
 ·exact⟨box_of b1 b2 b3 b4 z1 z2 rfl rfl hr hu hz,ang_bd b1 b2 b3 b4 z1 z2⟩
theorem SB.has{s v:Rat}{Z:Sp}(h:SB (s*SR) Z)(v1: -1≤v)(v2:v≤1)(d1:(s-v)*SR≤99)(d2:(v-s)*SR≤99):LoR v Z∧HiR v Z:=
 ⟨h.lo v1 (by grind),h.hi v2 (by grind)⟩
theorem eps_c:(1/2^200:Rat)*SR≤1∧(1/2^190:Rat)*SR≤4∧(1/2^240:Rat)≤1/2^200∧(1/2^240:Rat)*2≤1/2^200∧(0:Rat) < 1/2^240∧(1/2^200:Rat)≤1/2^190∧(1/2^200:Rat)*16≤1/2^190∧(1/2^190:Rat)≤1/100:=by decide +kernel
def cut1 (s:Rat):Rat:=if s < -1 then -1 else if 1 < s then 1 else s
theorem cut_bd (s:Rat): -1≤cut1 s∧cut1 s≤1:=by
 unfold cut1
 split
 ·constructor <;> grind
 ·split <;> constructor <;> grind
theorem cut_near{s t:Rat}(h1: -(1+t)≤s)(h2:s≤1+t)(ht:0≤t):s-cut1 s≤t∧cut1 s-s≤t:=by
 unfold cut1
 split
 ·constructor <;> grind
 ·split <;> constructor <;> grind
theorem dist{d e:Rat}(h:d≤e){n:Rat}(k:e*SR≤n):d*SR≤n:=Rat.le_trans (Rat.mul_le_mul_of_nonneg_right h (Rat.le_of_lt sr_pos)) k
theorem up_sq{t d:Rat}(t0:0 < t)(d0:0≤d)(h:t*2≤d)(db:d≤1/100):1≤(1-t)*((1+d)*(1+d)):=by
 have a:=Rat.mul_nonneg (show 0≤1-t by grind) (sqn d)
 have b:=Rat.mul_nonneg (Rat.le_of_lt t0) (show 0≤1/100-d by grind)
 grind
theorem circle_box{s c:Rat}{X Y:Sp}(hX:SB (s*SR) X)(hY:SB (c*SR) Y)(s1: -(1+1/2^240)≤s)(s2:s≤1+1/2^240)(c1: -(1+1/2^240)≤c)(c2:c≤1+1/2^240)
  (h1: -(1/2^240)≤s*s+c*c-1) (h2:s*s+c*c-1≤1/2^240) (fX:FinI (sqrI X)) (fY:FinI (sqrI Y)):hasI (addI (sqrI X) (sqrI Y)) (opl 1)=true:=by
 obtain⟨e1,e2,e3,e4,e5,e6,e7,e8⟩:=eps_c;generalize (1/2^240:Rat)=t at *;generalize (1/2^200:Rat)=d at *;generalize (1/2^190:Rat)=f at *;obtain⟨o1,o2⟩:=one_bd
 have tb:t≤1/100:=by grind
 have db:d≤1/100:=by grind
 -- within:both a little less
 have sb:(1+t)*(1-d)≤1:=by
  have:=Rat.mul_nonneg (Rat.le_of_lt e5) (show 0≤d by grind)
  grind
 have low:∀{a:Rat},-(1+t)≤a→a≤1+t→ -1≤a*(1-d)∧a*(1-d)≤1∧a-a*(1-d)≤2*d∧a*(1-d)-a≤2*d:=fun {a} x y=>by
  have u1:=Rat.mul_le_mul_of_nonneg_right x (show 0≤1-d by grind)
  have u2:=Rat.mul_le_mul_of_nonneg_right y (show 0≤1-d by grind)
  have w1:=Rat.mul_le_mul_of_nonneg_right x (show 0≤d by grind)
  have w2:=Rat.mul_le_mul_of_nonneg_right y (show 0≤d by grind)
  have w3:=Rat.mul_le_mul_of_nonneg_right (show 1+t≤2 by grind) (show 0≤d by grind)
  refine⟨?_,?_,?_,?_⟩ <;> grind
 have dd:(2*d)*SR≤99:=by grind
 obtain⟨p1,p2,p3,p4⟩:=low s1 s2;obtain⟨q1,q2,q3,q4⟩:=low c1 c2;obtain⟨P1,P2⟩:=hX.has p1 p2 (dist p3 dd) (dist p4 dd);obtain⟨Q1,Q2⟩:=hY.has q1 q2 (dist q3 dd) (dist q4 dd);obtain⟨A1,A2,A3⟩:=sqr_R hX.fin P1 P2;obtain⟨B1,B2,B3⟩:=sqr_R hY.fin Q1 Q2;obtain⟨S1,S2,S3⟩:=add_R (v:=s*(1-d)*(s*(1-d))) (w:=c*(1-d)*(c*(1-d))) fX fY;have lo:=S1 A1 B1
 have lo1:LoR 1 (addI (sqrI X) (sqrI Y)):=lo.mono (by
  have k1:=Rat.mul_le_mul_of_nonneg_right h2 (show 0≤(1-d)*(1-d) by exact Rat.mul_nonneg (by grind) (by grind))
  have k2:=Rat.mul_le_mul_of_nonneg_right sb (show 0≤(1-d) by grind)
  have k3:(1+t)*((1-d)*(1-d))≤1:=by grind
  grind)
 -- without:both a little more,or one
 have high:∀{a:Rat},-(1+t)≤a→a≤1+t→∃b,-1≤b∧b≤1∧a-b≤4*d∧b-a≤4*d∧(b*b=1∨b=a*(1+d)):=fun {a} x y=>by
  have w1:=Rat.mul_le_mul_of_nonneg_right x (show 0≤d by grind)
  have w2:=Rat.mul_le_mul_of_nonneg_right y (show 0≤d by grind)
  have w3:=Rat.mul_le_mul_of_nonneg_right (show 1+t≤2 by grind) (show 0≤d by grind)
  by_cases g1:1 < a*(1+d)
  ·exact⟨1,by grind,by grind,by grind,by grind,.inl (by grind)⟩
  ·by_cases g2:a*(1+d) < -1
   ·exact⟨-1,by grind,by grind,by grind,by grind,.inl (by grind)⟩
   ·exact⟨a*(1+d),by grind,by grind,by grind,by grind,.inr rfl⟩
 have dd4:(4*d)*SR≤99:=by grind
 obtain⟨b,b1,b2,b3,b4,b5⟩:=high s1 s2;obtain⟨g,g1,g2,g3,g4,g5⟩:=high c1 c2;obtain⟨U1,U2⟩:=hX.has b1 b2 (dist b3 dd4) (dist b4 dd4);obtain⟨V1,V2⟩:=hY.has g1 g2 (dist g3 dd4) (dist g4 dd4);obtain⟨C1,C2,C3⟩:=sqr_R hX.fin U1 U2;obtain⟨D1,D2,D3⟩:=sqr_R hY.fin V1 V2;obtain⟨T1,T2,T3⟩:=add_R (v:=b*b) (w:=g*g) fX fY;have hi:=T2 C2 D2
 have hi1:HiR 1 (addI (sqrI X) (sqrI Y)):=hi.mono (by
  have n1:=sqn b;have n2:=sqn g
  rcases b5 with e | e
  ·grind
  ·rcases g5 with k | k
   ·grind
   ·rw [e,k]
    have k1:=Rat.mul_le_mul_of_nonneg_right (show 1-t≤s*s+c*c by grind) (show 0≤(1+d)*(1+d) by exact Rat.mul_nonneg (by grind) (by grind))
    have k2:=up_sq e5 (show 0≤d by grind) e4 db
    grind)
 exact has_R (by omega) (by omega) (v:=1) (by rw [one_vr,Rat.one_mul];rfl) S3 lo1 hi1
theorem boxes_meet{s c:Rat}{X Y:Sp}(hX:SB (s*SR) X)(hY:SB (c*SR) Y)(s1: -(1+1/2^240)≤s)(s2:s≤1+1/2^240)(d1: -1≤(s-c)*2^190)(d2:(s-c)*2^190≤1):∃a b,meetI X Y=some (a,b):=by
 obtain⟨e1,e2,e3,e4,e5,e6,e7,e8⟩:=eps_c;have t1:=tiny_lo d1;have t2:=tiny_hi d2;generalize (1/2^240:Rat)=t at *;generalize (1/2^200:Rat)=d at *;generalize (1/2^190:Rat)=f at *;obtain⟨c1,c2⟩:=cut_bd s;obtain⟨n1,n2⟩:=cut_near s1 s2 (Rat.le_of_lt e5)
 have ff:(2*f)*SR≤99:=by grind
 obtain⟨P1,P2⟩:=hX.has c1 c2 (dist (e:=2*f) (by grind) ff) (dist (e:=2*f) (by grind) ff);obtain⟨Q1,Q2⟩:=hY.has c1 c2 (dist (e:=2*f) (by grind) ff) (dist (e:=2*f) (by grind) ff);exact meet_R hX.fin.ok hY.fin.ok P1 P2 Q1 Q2
theorem unit_sq{x:Sp}{r u:Int}(h:x=some (r,u))(h1: -opl 1≤r)(h2:r≤u)(h3:u≤opl 1):FinI (sqrI x):=by
 subst h;obtain⟨o1,o2⟩:=one_bd
 have ok:SpOk (some (r,u)):=⟨by omega,h2,by omega,by omega,by omega⟩
 rw [sqr_eq ok];obtain⟨m,hm⟩:∃m,m=max 0 (max r (-u)):=⟨_,rfl⟩;obtain⟨M,hM⟩:∃M,M=max u (-r):=⟨_,rfl⟩;rw [←hm,←hM];have a1:=mulp_sq (x:=0) (y:=m) false (by omega) (by omega) (by omega);have a2:=mulp_sq (x:=m) (y:=M) false (by omega) (by omega) (by omega);have a3:=mulp_sq (x:=M) (y:=opl 1) true (by omega) (by omega) (by omega);rw [mulp_zero false (.inl rfl)]at a1
 rw [mulp_one true (by omega) (by omega)]at a3;have s:=mulp_spec (x:=M) (y:=M) (by omega) (by omega) (by omega) (by omega);have le:=dn_le_up s.1 s.2;rw [mkI_some (by omega) (by omega) (by omega)];exact⟨by omega,by omega,by omega⟩
theorem double_box{s c w:Rat}{X Y Z:Sp}(hX:SB (s*SR) X)(hY:SB (c*SR) Y)(hZ:SB (w*SR) Z)(s1: -(1+1/2^240)≤s)(s2:s≤1+1/2^240)(c1: -(1+1/2^240)≤c)(c2:c≤1+1/2^240)
  (h2:s*s+c*c-1≤1/2^240) (d1: -1≤(w-2*(s*c))*2^200) (d2:(w-2*(s*c))*2^200≤1) {T:Sp} (hT:T=some (opl 2,opl 2)) (fP:FinI (mulI X Y)):∃a b,meetI (mulI T (mulI X Y)) Z=some (a,b):=by
 obtain⟨e1,e2,e3,e4,e5,e6,e7,e8⟩:=eps_c;have t1:=tiny_lo d1;have t2:=tiny_hi d2;generalize (1/2^240:Rat)=t at *;generalize (1/2^200:Rat)=d at *;generalize (1/2^190:Rat)=f at *
 have tb:t≤1/100:=by grind
 have db:d≤1/100:=by grind
 have sb:(1+t)*(1-d)≤1:=by
  have:=Rat.mul_nonneg (Rat.le_of_lt e5) (show 0≤d by grind)
  grind
 have low:∀{a:Rat},-(1+t)≤a→a≤1+t→ -1≤a*(1-d)∧a*(1-d)≤1∧a-a*(1-d)≤2*d∧a*(1-d)-a≤2*d:=fun {a} x y=>by
  have u1:=Rat.mul_le_mul_of_nonneg_right x (show 0≤1-d by grind)
  have u2:=Rat.mul_le_mul_of_nonneg_right y (show 0≤1-d by grind)
  have w1:=Rat.mul_le_mul_of_nonneg_right x (show 0≤d by grind)
  have w2:=Rat.mul_le_mul_of_nonneg_right y (show 0≤d by grind)
  have w3:=Rat.mul_le_mul_of_nonneg_right (show 1+t≤2 by grind) (show 0≤d by grind)
  refine⟨?_,?_,?_,?_⟩ <;> grind
 have dd:(2*d)*SR≤99:=by grind
 obtain⟨p1,p2,p3,p4⟩:=low s1 s2;obtain⟨q1,q2,q3,q4⟩:=low c1 c2;obtain⟨P1,P2⟩:=hX.has p1 p2 (dist p3 dd) (dist p4 dd);obtain⟨Q1,Q2⟩:=hY.has q1 q2 (dist q3 dd) (dist q4 dd);obtain⟨A1,A2,A3⟩:=mul_R hX.fin hY.fin P1 P2 Q1 Q2
 have two:((vr (opl 2):Int):Rat)=2*BR:=by
  rw [opl_vr (by decide) (by decide),Rat.intCast_mul]
  rfl
 obtain⟨o3,o4⟩:=opl_pos (n:=2) (by decide) (by decide)
 have fT:FinI T:=by rw [hT];exact⟨by omega,by omega,by omega⟩
 have T1:LoR 2 T:=by rw [hT];exact .inr (by rw [two];exact Rat.le_refl)
 have T2:HiR 2 T:=by rw [hT];exact .inr (by rw [two];exact Rat.le_refl)
 obtain⟨B1,B2,B3⟩:=mul_R fT fP T1 T2 A1 A2;obtain⟨v,hv⟩:∃v,2*(s*(1-d)*(c*(1-d)))=v:=⟨_,rfl⟩;rw [hv]at B1 B2
 -- twice a product is at most one
 have am: -(s*s+c*c)≤2*(s*c)∧2*(s*c)≤s*s+c*c:=by
  have m1:=sqn (s+c);have m2:=sqn (s-c)
  constructor <;> grind
 have k0:0≤(1-d)*(1-d):=Rat.mul_nonneg (by grind) (by grind)
 have k3:(1+t)*((1-d)*(1-d))≤1:=by
  have k2:=Rat.mul_le_mul_of_nonneg_right sb (show 0≤(1-d) by grind)
  grind
 have u1:=Rat.mul_le_mul_of_nonneg_right (show 2*(s*c)≤1+t by grind) k0
 have u2:=Rat.mul_le_mul_of_nonneg_right (show -(1+t)≤2*(s*c) by grind) k0
 have ev:2*(s*c)*((1-d)*(1-d))=v:=by grind
 rw [ev]at u1 u2
 have v1: -1≤v:=by grind
 have v2:v≤1:=by grind
 have near:2*(s*c)-v≤4*d∧v-2*(s*c)≤4*d:=by
  have g0:0≤2*d-d*d:=by
   have:=Rat.mul_nonneg (show 0≤d by grind) (show 0≤2-d by grind)
   grind
  have dd0:=sqn d
  have g1:=Rat.mul_le_mul_of_nonneg_right (show 2*(s*c)≤2 by grind) g0
  have g2:=Rat.mul_le_mul_of_nonneg_right (show -2≤2*(s*c) by grind) g0
  constructor <;> grind
 have d5:(5*d)*SR≤99:=by grind
 obtain⟨Z1,Z2⟩:=hZ.has v1 v2 (dist (e:=5*d) (by grind) d5) (dist (e:=5*d) (by grind) d5);exact meet_R B3 hZ.fin.ok B1 B2 Z1 Z2
theorem vr_shifts{r:Int}(h:0 < r):∀k:Nat,vr (r+k*9223372036854775808)=vr r*2^k
 | 0=>by rw [show r+((0:Nat):Int)*9223372036854775808=r by omega,Int.pow_zero,Int.mul_one]
 | k+1=>by
  rw [show r+((k+1:Nat):Int)*9223372036854775808=(r+k*9223372036854775808)+9223372036854775808 by omega,vr_shift (by omega),vr_shifts h k,Int.pow_succ,Int.mul_assoc]
def p60:Int:=9670272082156500260225025
theorem p60_vr:vr p60*2^60=2^KK:=by
 have h:=vr_shifts (r:=p60) (by decide) 60
 have e:p60+((60:Nat):Int)*9223372036854775808=opl 1:=by decide
 rw [e,opl_vr (by decide) (by decide),Int.one_mul]at h;exact h.symm
theorem opl_one_eq:opl 1=1+(1048576-63)*9223372036854775808:=by decide
theorem frac_pos{m:Int}(h:0 < m)(h2:m≤4611686018427387904):∃p,0 < p∧p < 19342822337206103650074625∧vr p*2^62=m*2^KK:=by
 obtain⟨a,b⟩:=opl_pos h (by omega)
 have c:opl 1≤opl m:=opl_le (by decide) (by omega) (by omega)
 have e1:=opl_one_eq;have s:=vr_shifts (r:=opl m-62*9223372036854775808) (by omega) 62
 rw [show opl m-62*9223372036854775808+((62:Nat):Int)*9223372036854775808=opl m by omega,opl_vr (by omega) (by omega)]at s
 exact⟨_,by omega,by omega,s.symm⟩
theorem frac{m:Int}(h1: -4611686018427387904≤m)(h2:m≤4611686018427387904):∃p,-19342822337206103650074625 < p∧p < 19342822337206103650074625∧vr p*2^62=m*2^KK:=by
 rcases (by omega:m < 0∨m=0∨0 < m)with h | rfl | h
 ·obtain⟨p,a,b,c⟩:=frac_pos (m:= -m) (by omega) (by omega);refine⟨-p,by omega,by omega,?_⟩
  rw [vr_neg,Int.neg_mul,c,Int.neg_mul,Int.neg_neg]
 ·exact⟨0,by decide,by decide,by rw [show vr 0=0 from rfl,Int.zero_mul,Int.zero_mul]⟩
 ·obtain⟨p,a,b,c⟩:=frac_pos h h2;exact⟨p,by omega,b,c⟩
theorem rnd_up{h u:Int}(hu:Rq true h SC u)(h1: -SC≤h)(h2:h≤SC):∃m,vr u*2^62≤m*2^KK∧m*SC < h*4611686018427387904+SC:=by
 obtain⟨m,hm⟩:∃m,-((-(h*4611686018427387904)) /SC)=m:=⟨_,rfl⟩;have sc:=sc_pos;have a:=Int.ediv_mul_le (-(h*4611686018427387904)) (Int.ne_of_gt sc);have b:=Int.lt_ediv_add_one_mul_self (-(h*4611686018427387904)) sc
 rw [show -(h*4611686018427387904) /SC= -m by omega]at a b
 rw [Int.neg_mul]at a;rw [Int.add_mul,Int.neg_mul,Int.one_mul]at b
 have m1:m≤4611686018427387904:=by
  rcases Int.lt_or_le 4611686018427387904 m with c | c
  ·exfalso
   have:=Int.mul_le_mul_of_nonneg_right (show 4611686018427387905≤m by omega) (Int.le_of_lt sc)
   unfold SC at *
   omega
  ·exact c
 have m2: -4611686018427387904≤m:=by
  rcases Int.lt_or_le m (-4611686018427387904)with c | c
  ·exfalso
   have:=Int.mul_le_mul_of_nonneg_right (show m≤ -4611686018427387905 by omega) (Int.le_of_lt sc)
   unfold SC at *
   omega
  ·exact c
 obtain⟨p,p1,p2,p3⟩:=frac m2 m1;refine⟨m,?_,by omega⟩
 have hp:=p2pos KK
 have le:u≤p:=by
  refine le_place hu p1 p2 ?_;refine Int.le_of_mul_le_mul_right (a:=2^62) ?_ (by decide)
  rw [show vr p*SC*2^62=vr p*2^62*SC by rw [Int.mul_assoc,Int.mul_comm SC,←Int.mul_assoc],p3,show h*2^KK*2^62=h*4611686018427387904*2^KK by rw [Int.mul_assoc,Int.mul_comm (2^KK),←Int.mul_assoc];rfl,show m*2^KK*SC=m*SC*2^KK by rw [Int.mul_assoc,Int.mul_comm (2^KK),←Int.mul_assoc]]
  exact Int.mul_le_mul_of_nonneg_right (by omega) (Int.le_of_lt hp)
 rw [←p3];exact Int.mul_le_mul_of_nonneg_right (vr_le le) (by decide)
theorem rnd_dn{l r:Int}(hr:Rq false l SC r)(h1: -SC≤l)(h2:l≤SC):∃m,m*2^KK≤vr r*2^62∧l*4611686018427387904 < m*SC+SC:=by
 obtain⟨m,hm⟩:∃m,(l*4611686018427387904) /SC=m:=⟨_,rfl⟩;have sc:=sc_pos;have a:=Int.ediv_mul_le (l*4611686018427387904) (Int.ne_of_gt sc);have b:=Int.lt_ediv_add_one_mul_self (l*4611686018427387904) sc;rw [hm]at a b;rw [Int.add_mul,Int.one_mul]at b
 have m1:m≤4611686018427387904:=by
  rcases Int.lt_or_le 4611686018427387904 m with c | c
  ·exfalso
   have:=Int.mul_le_mul_of_nonneg_right (show 4611686018427387905≤m by omega) (Int.le_of_lt sc)
   unfold SC at *
   omega
  ·exact c
 have m2: -4611686018427387904≤m:=by
  rcases Int.lt_or_le m (-4611686018427387904)with c | c
  ·exfalso
   have:=Int.mul_le_mul_of_nonneg_right (show m≤ -4611686018427387905 by omega) (Int.le_of_lt sc)
   unfold SC at *
   omega
  ·exact c
 obtain⟨p,p1,p2,p3⟩:=frac m2 m1;refine⟨m,?_,by omega⟩
 have hp:=p2pos KK
 have le:p≤r:=by
  refine place_le hr p1 p2 ?_;refine Int.le_of_mul_le_mul_right (a:=2^62) ?_ (by decide)
  rw [show vr p*SC*2^62=vr p*2^62*SC by rw [Int.mul_assoc,Int.mul_comm SC,←Int.mul_assoc],p3,show l*2^KK*2^62=l*4611686018427387904*2^KK by rw [Int.mul_assoc,Int.mul_comm (2^KK),←Int.mul_assoc];rfl,show m*2^KK*SC=m*SC*2^KK by rw [Int.mul_assoc,Int.mul_comm (2^KK),←Int.mul_assoc]]
  exact Int.mul_le_mul_of_nonneg_right (by omega) (Int.le_of_lt hp)
 rw [←p3];exact Int.mul_le_mul_of_nonneg_right (vr_le le) (by decide)
theorem SB.tight{σ:Rat}{Z:Sp}(h:SB σ Z):widI Z≤p60:=by
 obtain⟨o1,o2⟩:=one_bd;obtain⟨r',u',e',b1,b2,b3⟩:=h.unit;obtain⟨l,h,r,u,rfl,hr,hu,h1,h2,h3,_,_,s1,s2⟩:=h
 injection e' with e'
 injection e' with e1 e2
 subst e1;subst e2
 have far:h-l≤35184372088832:=by
  have:=Rat.intCast_le_intCast.1 (Rat.le_trans s2 s1)
  omega
 obtain⟨m,m1,m2⟩:=rnd_up hu (by omega) h3;obtain⟨k,k1,k2⟩:=rnd_dn hr h1 (by omega)
 have mk2:m-k≤2:=by
  rcases Int.lt_or_le 2 (m-k)with c | c
  ·exfalso
   have:=Int.mul_le_mul_of_nonneg_right (show 3≤m-k by omega) (Int.le_of_lt sc_pos)
   rw [Int.sub_mul]at this
   unfold SC at *
   omega
  ·exact c
 have hp:=p2pos KK
 have w:vr u-vr r≤vr p60:=by
  refine Int.le_of_mul_le_mul_right (a:=2^62) ?_ (by decide);rw [Int.sub_mul]
  have e:vr p60*2^62=4*2^KK:=by
   rw [show (2:Int)^62=2^60*4 by decide,←Int.mul_assoc,p60_vr,Int.mul_comm]
  have g:=Int.mul_le_mul_of_nonneg_right mk2 (Int.le_of_lt hp);rw [Int.sub_mul]at g;rw [e]
  omega
 have s:=(addp_spec (x:=u) (y:= -r) true (by omega) (by omega) (by omega) (by omega)).2;rw [vr_neg]at s;exact s.mono (up_self (r:=p60) (by decide) (by decide)) (by omega)
end Go.Proofs.YtaadmpiphnfllaaGreatDoor
namespace Go.Proofs.YtaadmpiphnfllaaGreatDoor
open Go.RowKit
set_option linter.unusedVariables false
set_option linter.unusedSimpArgs false
set_option maxRecDepth 100000
def meetsB (z x y:Int):Bool:=if z < 0 then decide (PHi*z≤y) && decide (x≤PLo*z)else decide (PLo*z≤y) && decide (x≤PHi*z)
theorem cmp_le12{x y c:Int}(h:cmpI x y=c):decide (c≤0)=decide (x≤y):=by
 rw [←h]
 rcases cmpI_tri x y with⟨a,b⟩ | ⟨a,b⟩ | ⟨a,b⟩ <;> rw [b]
 ·rw [decide_eq_true (show x≤y by omega)];rfl
 ·rw [decide_eq_true (show x≤y by omega)];rfl
 ·rw [decide_eq_false (show ¬x≤y by omega)];rfl
theorem cmp_le{x y c:Int}(h:cmpI x y=c):decide (c≤0)=decide (x≤y):=by
 rw [←h]
 by_cases e:x≤y
 ·rw [decide_eq_true e]
  exact decide_eq_true (by rcases cmpI_tri x y with⟨a,b⟩ | ⟨a,b⟩ | ⟨a,b⟩ <;> rw [b] <;> omega)
 ·rw [decide_eq_false e]
  exact decide_eq_false (by rcases cmpI_tri x y with⟨a,b⟩ | ⟨a,b⟩ | ⟨a,b⟩ <;> rw [b] <;> omega)
theorem cmp_ge12{x y c:Int}(h:cmpI x y=c):decide (0≤c)=decide (y≤x):=by
 rw [←h]
 rcases cmpI_tri x y with⟨a,b⟩ | ⟨a,b⟩ | ⟨a,b⟩ <;> rw [b]
 ·rw [decide_eq_false (show ¬y≤x by omega)];rfl
 ·rw [decide_eq_true (show y≤x by omega)];rfl
 ·rw [decide_eq_true (show y≤x by omega)];rfl
def ptI (i:Int):Sp:=if i%2=0 then mkI (opl 1) (opl 1)else mkI (opl (-1)) (opl (-1))
def stepV (cos:Bool)(x y:Int)(z:Sp)(i:Int):Sp:=if meetsB (if cos then 2*i else 2*i+1) x y then hullI z (ptI i)else z
def loopV (cos:Bool)(x y j:Int)(z:Sp):Nat→Sp
 | 0=>z
 | k+1=>stepV cos x y (loopV cos x y j z k) (j-4+k)
end Go.Proofs.YtaadmpiphnfllaaGreatDoor
namespace Go.Proofs.YtaadmpiphnfllaaGreatDoor
open Go Go.RowKit
set_option linter.unusedVariables false
def UnitS (z:Sp):Prop:=∃r u,z=some (r,u)∧ -opl 1≤r∧r≤u∧u≤opl 1
theorem UnitS.fin{z:Sp}(h:UnitS z):FinI z:=by
 obtain⟨o1,o2⟩:=one_bd;obtain⟨r,u,rfl,a,b,c⟩:=h;exact⟨b,by omega,by omega⟩
theorem unit_unit:UnitS unitI:=by
 obtain⟨o1,o2⟩:=one_bd;exact⟨_,_,unitI_some,Int.le_refl _,by omega,Int.le_refl _⟩
def MT (cos:Bool)(x y i:Int):Prop:=meetsB (if cos then 2*i else 2*i+1) x y=true
theorem pt_even{i:Int}(h:i%2=0):ptI i=some (opl 1,opl 1):=by
 obtain⟨o1,o2⟩:=one_bd
 unfold ptI
 rw [if_pos h];exact mkI_some (Int.le_refl _) (by omega) (by omega)
theorem pt_odd{i:Int}(h:¬i%2=0):ptI i=some (-opl 1,-opl 1):=by
 obtain⟨o1,o2⟩:=one_bd
 unfold ptI
 rw [if_neg h,one_neg];exact mkI_some (Int.le_refl _) (by omega) (by omega)
theorem hull_unit{r u p:Int}(h1: -opl 1≤r)(h2:r≤u)(h3:u≤opl 1)(p1: -opl 1≤p)(p2:p≤opl 1):hullI (some (r,u)) (some (p,p))=some (min r p,max u p):=by
 obtain⟨o1,o2⟩:=one_bd;exact hullI_some ⟨by omega,h2,by omega,by omega,by omega⟩ ⟨by omega,Int.le_refl _,by omega,by omega,by omega⟩
theorem loop_is{cos:Bool}{x y j r u:Int}(h1: -opl 1≤r)(h2:r≤u)(h3:u≤opl 1):∀k:Nat,∃e f,loopV cos x y j (some (r,u)) k=some (e,f)∧
  ((e=r∧∀t:Nat,t < k→MT cos x y (j-4+t)→(j-4+(t:Int))%2=0)∨(e= -opl 1∧∃t:Nat,t < k∧MT cos x y (j-4+t)∧¬(j-4+(t:Int))%2=0))∧
  ((f=u∧∀t:Nat,t < k→MT cos x y (j-4+t)→¬(j-4+(t:Int))%2=0)∨(f=opl 1∧∃t:Nat,t < k∧MT cos x y (j-4+t)∧(j-4+(t:Int))%2=0))
 | 0=>⟨r,u,rfl,.inl ⟨rfl,fun t ht=>absurd ht (Nat.not_lt_zero _)⟩,.inl ⟨rfl,fun t ht=>absurd ht (Nat.not_lt_zero _)⟩⟩
 | k+1=>by
  obtain⟨o1,o2⟩:=one_bd;obtain⟨e,f,eq,he,hf⟩:=loop_is (cos:=cos) (x:=x) (y:=y) (j:=j) h1 h2 h3 k
  have be: -opl 1≤e∧e≤f∧f≤opl 1:=by
   rcases he with⟨a,_⟩ | ⟨a,_⟩ <;> rcases hf with⟨b,_⟩ | ⟨b,_⟩ <;> omega
  show ∃e f,stepV cos x y (loopV cos x y j (some (r,u)) k) (j-4+k)=some (e,f)∧_
  rw [eq]
  unfold stepV
  have less:∀t:Nat,t < k+1→t < k∨t=k:=fun t ht=>by omega
  by_cases hm:MT cos x y (j-4+k)
  ·have hm':meetsB (if cos=true then 2*(j-4+(k:Int))else 2*(j-4+(k:Int))+1) x y=true:=hm
   rw [if_pos hm']
   by_cases hp:(j-4+(k:Int))%2=0
   ·rw [pt_even hp,hull_unit be.1 be.2.1 be.2.2 (by omega) (by omega)];refine⟨e,opl 1,by rw [Int.min_eq_left (by omega),Int.max_eq_right (by omega)],?_,.inr ⟨rfl,k,by omega,hm,hp⟩⟩
    rcases he with⟨a,b⟩ | ⟨a,t,b1,b2,b3⟩
    ·refine .inl ⟨a,fun t ht mt=>?_⟩
     rcases less t ht with c | rfl
     ·exact b t c mt
     ·exact hp
    ·exact .inr ⟨a,t,by omega,b2,b3⟩
   ·rw [pt_odd hp,hull_unit be.1 be.2.1 be.2.2 (by omega) (by omega)];refine⟨-opl 1,f,by rw [Int.min_eq_right (by omega),Int.max_eq_left (by omega)],.inr ⟨rfl,k,by omega,hm,hp⟩,?_⟩
    rcases hf with⟨a,b⟩ | ⟨a,t,b1,b2,b3⟩
    ·refine .inl ⟨a,fun t ht mt=>?_⟩
     rcases less t ht with c | rfl
     ·exact b t c mt
     ·exact hp
    ·exact .inr ⟨a,t,by omega,b2,b3⟩
  ·have hm':¬meetsB (if cos=true then 2*(j-4+(k:Int))else 2*(j-4+(k:Int))+1) x y=true:=hm
   rw [if_neg hm'];refine⟨e,f,rfl,?_,?_⟩
   ·rcases he with⟨a,b⟩ | ⟨a,t,b1,b2,b3⟩
    ·refine .inl ⟨a,fun t ht mt=>?_⟩
     rcases less t ht with c | rfl
     ·exact b t c mt
     ·exact absurd mt hm
    ·exact .inr ⟨a,t,by omega,b2,b3⟩
   ·rcases hf with⟨a,b⟩ | ⟨a,t,b1,b2,b3⟩
    ·refine .inl ⟨a,fun t ht mt=>?_⟩
     rcases less t ht with c | rfl
     ·exact b t c mt
     ·exact absurd mt hm
    ·exact .inr ⟨a,t,by omega,b2,b3⟩
theorem met_mono{cos:Bool}{x y x' y' i:Int}(h:MT cos x y i)(hx:x'≤x)(hy:y≤y'):MT cos x' y' i:=by
 unfold MT meetsB at *
 generalize (if cos=true then 2*i else 2*i+1)=z at *
 by_cases c:z < 0
 ·rw [if_pos c]at h⊢;simp only [Bool.and_eq_true,decide_eq_true_eq]at h⊢
  omega
 ·rw [if_neg c]at h⊢;simp only [Bool.and_eq_true,decide_eq_true_eq]at h⊢
  omega
theorem met_rat{z x y:Int}(h1:(x:Rat)≤(z:Rat)*(2*qt*SR))(h2:(z:Rat)*(2*qt*SR)≤(y:Rat)):meetsB z x y=true:=by
 obtain⟨p1,p2⟩:=half_turn;generalize 2*qt*SR=w at *
 unfold meetsB
 by_cases c:z < 0
 ·have z0:(z:Rat)≤0:=Rat.intCast_le_intCast.2 (Int.le_of_lt c)
  have m1:=Rat.mul_le_mul_of_nonneg_right p1 (show 0≤ -(z:Rat) by grind)
  have m2:=Rat.mul_le_mul_of_nonneg_right p2 (show 0≤ -(z:Rat) by grind)
  have a:PHi*z≤y:=Rat.intCast_le_intCast.1 (by rw [Rat.intCast_mul];grind)
  have b:x≤PLo*z:=Rat.intCast_le_intCast.1 (by rw [Rat.intCast_mul];grind)
  rw [if_pos c,decide_eq_true a,decide_eq_true b]
  rfl
 ·have z0:(0:Rat)≤(z:Rat):=Rat.intCast_le_intCast.2 (Int.not_lt.1 c)
  have m1:=Rat.mul_le_mul_of_nonneg_right p1 z0;have m2:=Rat.mul_le_mul_of_nonneg_right p2 z0
  have a:PLo*z≤y:=Rat.intCast_le_intCast.1 (by rw [Rat.intCast_mul];grind)
  have b:x≤PHi*z:=Rat.intCast_le_intCast.1 (by rw [Rat.intCast_mul];grind)
  rw [if_neg c,decide_eq_true a,decide_eq_true b]
  rfl
theorem met_of{cos:Bool}{a b i:Int}(fa:fixB a=true)(fb:fixB b=true)(h1:zq cos a≤(2*(i:Rat)+1)*(qt*SR))(h2:(2*(i:Rat)+1)*(qt*SR)≤zq cos b):MT cos (fixI a*2) (fixI b*2+2) i:=by
 obtain⟨a1,_⟩:=zp_in fa;obtain⟨_,b2⟩:=zp_in fb
 have c2:((2:Int):Rat)=2:=rfl
 have k1:((fixI a*2:Int):Rat)≤zp a*2:=by
  rw [Rat.intCast_mul,c2]
  grind
 have k2:zp b*2≤((fixI b*2+2:Int):Rat):=by
  rw [show fixI b*2+2=(fixI b+1)*2 by omega,Rat.intCast_mul,c2]
  grind
 unfold MT
 unfold zq at h1 h2
 cases cos
 ·simp only [Bool.false_eq_true,if_false]at h1 h2⊢
  have e:((2*i+1:Int):Rat)=2*(i:Rat)+1:=by
   rw [Rat.intCast_add,Rat.intCast_mul,c2]
   rfl
  refine met_rat (Rat.le_trans k1 ?_) (Rat.le_trans ?_ k2)
  ·rw [e]
   grind
  ·rw [e]
   grind
 ·simp only [if_true]at h1 h2⊢
  have e:((2*i:Int):Rat)=2*(i:Rat):=by rw [Rat.intCast_mul,c2]
  refine met_rat (Rat.le_trans k1 ?_) (Rat.le_trans ?_ k2)
  ·rw [e]
   grind
  ·rw [e]
   grind
theorem wid_far{a b:Int}(fa:fixB a=true)(fb:fixB b=true)(hw:¬opl 7≤widI (some (a,b))):fixI b-fixI a≤7*SC:=by
 obtain⟨a1,a2⟩:=fixB_fin fa;obtain⟨b1,b2⟩:=fixB_fin fb;have s:=(addp_spec (x:=b) (y:= -a) true b1 b2 (by omega) (by omega)).2
 have w7:addp true b (-a) < opl 7:=Int.not_le.1 hw
 obtain⟨_,_,u,_⟩:=s;have o7:=opl_pos (n:=7) (by decide) (by decide)
 have u':=u (by omega)
 rw [vr_neg,vr_neg]at u';have v7:=vr_lt w7;rw [opl_vr (by decide) (by decide)]at v7;obtain⟨_,fa2⟩:=fix_holds fa;obtain⟨fb1,_⟩:=fix_holds fb;have hp:=p2pos KK
 have d:(vr b-vr a)*SC < 7*2^KK*SC:=Int.mul_lt_mul_of_pos_right (by omega) sc_pos
 rw [Int.sub_mul]at d
 have e:(fixI b-(fixI a+1))*2^KK < 7*SC*2^KK:=by
  rw [Int.sub_mul,show 7*SC*2^KK=7*2^KK*SC by rw [Int.mul_assoc,Int.mul_comm SC,←Int.mul_assoc]]
  omega
 have:=Int.lt_of_mul_lt_mul_right e (Int.le_of_lt hp)
 omega
theorem search{cos:Bool}{a b i:Int}(fa:fixB a=true)(fb:fixB b=true)(hw:¬opl 7≤widI (some (a,b)))(hm:MT cos (fixI a*2) (fixI b*2+2) i):∃t:Nat,t < 13∧i=(fixI a*2).fdiv (PLo*2)-4+t:=by
 have w:=wid_far fa fb hw;obtain⟨ba,bb⟩:=fix_bd fa;obtain⟨j,hj⟩:∃j,(fixI a*2).fdiv (PLo*2)=j:=⟨_,rfl⟩;rw [hj];rw [Int.fdiv_eq_ediv_of_nonneg _ (by decide)]at hj
 have j1:=Int.ediv_mul_le (fixI a*2) (show (PLo*2:Int)≠0 by decide)
 have j2:=Int.lt_ediv_add_one_mul_self (fixI a*2) (show (0:Int) < PLo*2 by decide)
 rw [hj]at j1 j2;generalize fixI a=A at *;generalize fixI b=B at *;clear hj fa fb hw
 have key:j-4≤i∧i≤j+8:=by
  unfold MT meetsB at hm
  cases cos
  ·simp only [Bool.false_eq_true,if_false]at hm
   by_cases c:2*i+1 < 0
   ·rw [if_pos c]at hm;simp only [Bool.and_eq_true,decide_eq_true_eq]at hm
    unfold SC PLo PHi at *
    omega
   ·rw [if_neg c]at hm;simp only [Bool.and_eq_true,decide_eq_true_eq]at hm
    unfold SC PLo PHi at *
    omega
  ·simp only [if_true]at hm
   by_cases c:2*i < 0
   ·rw [if_pos c]at hm;simp only [Bool.and_eq_true,decide_eq_true_eq]at hm
    unfold SC PLo PHi at *
    omega
   ·rw [if_neg c]at hm;simp only [Bool.and_eq_true,decide_eq_true_eq]at hm
    unfold SC PLo PHi at *
    omega
 exact⟨(i-(j-4)).toNat,by omega,by omega⟩
theorem search_bd{a:Int}(fa:fixB a=true): -1099511627776≤(fixI a*2).fdiv (PLo*2)∧(fixI a*2).fdiv (PLo*2)≤1099511627776:=by
 obtain⟨ba,bb⟩:=fix_bd fa;obtain⟨j,hj⟩:∃j,(fixI a*2).fdiv (PLo*2)=j:=⟨_,rfl⟩;rw [hj];rw [Int.fdiv_eq_ediv_of_nonneg _ (by decide)]at hj
 have j1:=Int.ediv_mul_le (fixI a*2) (show (PLo*2:Int)≠0 by decide)
 have j2:=Int.lt_ediv_add_one_mul_self (fixI a*2) (show (0:Int) < PLo*2 by decide)
 rw [hj]at j1 j2;generalize fixI a=A at *;clear hj fa
 unfold SC PLo at *
 omega
def AllV (cos:Bool)(X Z:Sp):Prop:=match X with
 | none=>Z=none
 | some (a,b)=>((fixB a=false∨fixB b=false∨opl 7≤widI (some (a,b)))∧Z=unitI)∨
   (fixB a=true∧fixB b=true∧¬opl 7≤widI (some (a,b))∧∃za zb,Sv cos a za∧Sv cos b zb∧Z=loopV cos (fixI a*2) (fixI b*2+2) ((fixI a*2).fdiv (PLo*2)) (hullI za zb) 13)
theorem all_ex (cos:Bool)(X:Sp):∃Z,AllV cos X Z:=by
 rcases X with _ | ⟨a,b⟩
 ·exact⟨none,rfl⟩
 ·by_cases h:fixB a=true∧fixB b=true∧¬opl 7≤widI (some (a,b))
  ·obtain⟨za,ha⟩:=sv_ex cos a;obtain⟨zb,hb⟩:=sv_ex cos b;exact⟨_,.inr ⟨h.1,h.2.1,h.2.2,za,zb,ha,hb,rfl⟩⟩
  ·refine⟨unitI,.inl ⟨?_,rfl⟩⟩
   cases e:fixB a
   ·exact .inl rfl
   ·cases f:fixB b
    ·exact .inr (.inl rfl)
    ·right;right
     rcases Int.lt_or_le (widI (some (a,b))) (opl 7)with c | c
     ·exact absurd ⟨e,f,Int.not_le.2 c⟩ h
     ·exact c
end Go.Proofs.YtaadmpiphnfllaaGreatDoor
