/-
 Contracts that the proof rests on.
-/
import Derived.Test.YtomikokonmikgaaGreatDoorYSaq
namespace Go.Proofs.YtomikokonmikgaaGreatDoor
open Go.RowKit
set_option linter.unusedVariables false
set_option linter.unusedSimpArgs false
set_option maxRecDepth 100000
def serA (m:Int):Int:=if SC < (m.natAbs:Int)then 0 else aS m 111
theorem sc_step{t m:Int}(t1: -SC<=t)(t2:t<=SC)(m1: -SC<=m)(m2:m<=SC): -SC<=t*m/SC/\t*m/SC<=SC:=by
 have a:=Int.mul_nonneg (show 0<=SC-t by omega) (show 0<=SC+m by omega)
 have b:=Int.mul_nonneg (show 0<=SC+t by omega) (show 0<=SC-m by omega)
 have c:=Int.mul_nonneg (show 0<=SC-t by omega) (show 0<=SC-m by omega)
 have d:=Int.mul_nonneg (show 0<=SC+t by omega) (show 0<=SC+m by omega)
 have sp:(0:Int) < SC:=by decide
 constructor
 ·refine(Int.le_ediv_iff_mul_le sp).2 ?_
  grind
 ·refine Int.le_of_lt_add_one ((Int.ediv_lt_iff_lt_mul sp).2 ?_)
  grind
theorem aT_small{m:Int}(m1: -SC<=m)(m2:m<=SC):∀j:Nat,-SC<=aT m j/\aT m j<=SC
 | 0=>⟨m1,m2⟩
 | j+1=>by
  obtain⟨a,b⟩:=aT_small m1 m2 j;obtain⟨c,d⟩:=sc_step a b m1 m2;exact sc_step c d m1 m2
theorem sc_fits{z:Int}(h1: -SC<=z)(h2:z<=SC):z.natAbs < 4294967296^7:=by
 have e:(4294967296:Nat)^7=26959946667150639794667015087019630673637144422540572481103610249216:=by decide
 rw[e]
 unfold SC at *
 omega
end Go.Proofs.YtomikokonmikgaaGreatDoor
namespace Go.Proofs.YtomikokonmikgaaGreatDoor
open Go Go.RowKit
set_option linter.unusedVariables false
theorem eps_g:(1/2^220:Rat)*SR<=1/100/\(1/2^200:Rat)*SR<=1/100/\(0:Rat)<=1/2^220/\(0:Rat)<=1/2^200/\(1/2^200:Rat)<=1/100/\(1/2^220:Rat)<=1/100:=by decide +kernel
theorem turned{w y s c s0 c0 S C d e r:Rat}(y0:0<=y)(y1:y<=1)(hs1: -e<=s-w*c)(hs2:s-w*c<=e)(he:0<=e)(cb1: -(101/100)<=c)(cb2:c<=101/100)(sb1: -(101/100)<=s)(sb2:s<=101/100)
  (a1: -d<=S-(s0*c+c0*s)) (a2:S-(s0*c+c0*s)<=d) (b1: -d<=C-(c0*c-s0*s)) (b2:C-(c0*c-s0*s)<=d) (hd:0<=d) (z1: -d<=s0-c0) (z2:s0-c0<=d) (g1:2/3<=s0) (g2:s0<=3/4)
  (r1: -r<=1-y+w*(1+y)) (r2:1-y+w*(1+y)<=0) (r0:0<=r): -(r+2*e+5*d)<=S-y*C/\S-y*C<=r+2*e+5*d:=by
 obtain⟨q,hq⟩:∃q,q=1-y+w*(1+y):=⟨_,rfl⟩;rw[<-hq]at r1 r2;have m1:=mul_bd (b:=101/100) (x:=c) (a:=r) (e:=q) cb1 cb2 r1 (by grind);have m2:=mul_bd (b:=3/4) (x:=s0) (by grind) g2 m1.1 m1.2;have m3:=mul_bd (b:=2) (x:=1+y) (by grind) (by grind) hs1 hs2;have m4:=mul_bd (b:=3/4) (x:=s0) (by grind) g2 m3.1 m3.2;have m5:=mul_bd (b:=1) (x:=y) (by grind) y1 cb1 cb2
 have m6:=mul_bd (b:=1*(101/100)+101/100) (x:=s-y*c) (by grind) (by grind) z1 z2;have m7:=mul_bd (b:=1) (x:=y) (by grind) y1 b1 b2
 have eq:S-y*C=(S-(s0*c+c0*s))-y*(C-(c0*c-s0*s))+(s0*(c*q)+s0*((1+y)*(s-w*c))-(s-y*c)*(s0-c0)):=by
  rw[hq]
  grind
 rw[eq];generalize S-(s0*c+c0*s)=A1 at *;generalize y*(C-(c0*c-s0*s))=A2 at *;generalize s0*(c*q)=A3 at *;generalize s0*((1+y)*(s-w*c))=A4 at *;generalize (s-y*c)*(s0-c0)=A5 at *
 constructor <;> grind
theorem cs_bd{x:Rat}(h1: -2<=x)(h2:x<=2):(-(101/100)<=cosT x/\cosT x<=101/100)/\ -(101/100)<=sinT x/\sinT x<=101/100:=by
 obtain⟨a,b⟩:=cosT_bd h1 h2;obtain⟨c,d⟩:=sin_bd h1 h2
 have e:(1/2^200:Rat)<=1/100:=by decide +kernel
 have f:(1/2^240:Rat)<=1/100:=by decide +kernel
 generalize (1/2^200:Rat)=t at *;generalize (1/2^240:Rat)=u at *;refine⟨⟨?_,?_⟩,?_,?_⟩ <;> grind
theorem ang_slope{v:Int}(h0:0<=v)(h1:v<=SC): -3<=(sinT (pAng v)-(v:Rat) /SR*cosT (pAng v))*SR/\(sinT (pAng v)-(v:Rat) /SR*cosT (pAng v))*SR<=3:=by
 obtain⟨f1,f2⟩:=frac_bd h0 h1;obtain⟨e1,e2,e3,e4,e5,e6⟩:=eps_g;have sl:=slope_small f1 f2;have sp:=sr_pos
 unfold pAng
 by_cases c:SC < v*2
 ·rw[if_pos c];obtain⟨q1,q2⟩:=qt_bd;obtain⟨i1,i2⟩:=at_bd f1 f2;have ev:=frac_at v;have eu:=frac_at (pU v);have v0:=Rat.intCast_le_intCast.2 h0;have v1:=Rat.intCast_le_intCast.2 h1;rw[Rat.intCast_zero]at v0
  have hU:pU v=(v-SC)*SC/ (v+SC):=if_pos c
  have hd:0 < v+SC:=by
   have:(0:Int) < SC:=by decide
   omega
  have k1:=Int.ediv_mul_le ((v-SC)*SC) (Int.ne_of_gt hd);have k2:=Int.lt_ediv_add_one_mul_self ((v-SC)*SC) hd;rw[<-hU]at k1 k2
  have k1':=Rat.intCast_le_intCast.2 k1
  have k2':=Rat.intCast_le_intCast.2 (Int.le_of_lt k2)
  rw[Rat.intCast_mul,Rat.intCast_mul,Rat.intCast_sub,Rat.intCast_add]at k1'
  rw[Rat.intCast_mul,Rat.intCast_mul,Rat.intCast_sub,Rat.intCast_add,Rat.intCast_add,show ((1:Int):Rat)=1 from rfl]at k2'
  rw[<-ev,<-eu]at k1' k2';rw[<-ev]at v0 v1;generalize (v:Rat) /SR=y at *;generalize (pU v:Rat) /SR=w at *
  have y0:0<=y:=Rat.le_of_mul_le_mul_right (c:=SR) (by rw[Rat.zero_mul];exact v0) sp
  have y1:y<=1:=Rat.le_of_mul_le_mul_right (c:=SR) (by rw[Rat.one_mul];exact v1) sp
  obtain⟨r,hr⟩:∃r,r*SR=2:=⟨2/SR,Rat.div_mul_cancel (Rat.ne_of_gt sp)⟩
  have r2:1-y+w*(1+y)<=0:=by
   refine Rat.le_of_mul_le_mul_right (c:=SR) (Rat.le_of_mul_le_mul_right (c:=SR) ?_ sp) sp
   grind
  have r1: -r<=1-y+w*(1+y):=by
   have ry:=Rat.mul_nonneg (show 0<=1-y by grind) (Rat.le_of_lt sp)
   refine Rat.le_of_mul_le_mul_right (c:=SR) (Rat.le_of_mul_le_mul_right (c:=SR) ?_ sp) sp
   have:r*SR*SR=2*SR:=by rw[hr]
   grind
  have r0:0<=r:=Rat.le_of_mul_le_mul_right (c:=SR) (by rw[hr];grind) sp
  have b:=cs_bd (x:=atT w) (by grind) (by grind);obtain⟨p1,p2⟩:=sin_add (m:=qt/2) (h:=atT w) (by grind) (by grind) (by grind) (by grind);obtain⟨p3,p4⟩:=cos_add (m:=qt/2) (h:=atT w) (by grind) (by grind) (by grind) (by grind);obtain⟨g1,g2,g3,g4⟩:=eighth;have t:=turned y0 y1 sl.1 sl.2 e3 b.1.1 b.1.2 b.2.1 b.2.2 (tiny_lo p1) (tiny_hi p2) (tiny_lo p3) (tiny_hi p4) e4 (tiny_lo g2) (tiny_hi g1) g4 g3 r1 r2 r0
  generalize sinT (qt/2+atT w)-y*cosT (qt/2+atT w)=X at *;generalize (1/2^220:Rat)=e at *;generalize (1/2^200:Rat)=d at *;have n1:=Rat.mul_le_mul_of_nonneg_right t.1 (Rat.le_of_lt sp);have n2:=Rat.mul_le_mul_of_nonneg_right t.2 (Rat.le_of_lt sp)
  constructor <;> grind
 ·rw[if_neg c]
  have hU:pU v=v:=if_neg c
  rw[hU]at sl|-
  rw[show (0:Rat)+atT ((v:Rat) /SR)=atT ((v:Rat) /SR) by grind]
  generalize sinT (atT ((v:Rat) /SR))-(v:Rat) /SR*cosT (atT ((v:Rat) /SR))=X at *;have n1:=Rat.mul_le_mul_of_nonneg_right sl.1 (Rat.le_of_lt sp);have n2:=Rat.mul_le_mul_of_nonneg_right sl.2 (Rat.le_of_lt sp);generalize (1/2^220:Rat)=e at *
  constructor <;> grind
theorem ang_bd13{v:Int}(h0:0<=v)(h1:v<=SC):0<=pAng v/\pAng v<=3/2:=by
 obtain⟨f1,f2⟩:=frac_bd h0 h1;obtain⟨q1,q2⟩:=qt_bd;obtain⟨i1,i2⟩:=at_bd f1 f2
 unfold pAng
 by_cases c:SC < v*2
 ·rw[if_pos c]
  constructor <;> grind
 ·rw[if_neg c]
  have hU:pU v=v:=if_neg c
  have z:=at_zero;have e:=frac_at v;have sp:=sr_pos
  have w0:0<=(v:Rat) /SR:=Rat.le_of_mul_le_mul_right (c:=SR) (by rw[e,Rat.zero_mul];exact Rat.intCast_le_intCast.2 h0) sp
  rw[hU]at i1 i2 f1 f2|-
  have k:=Df.rise (B:=1/2) (k:=0) (by grind) at_df (a:=1/2) (x:=0) (h:=(v:Rat) /SR) w0 (by grind) (by grind) (by grind) (by grind) (by grind) (fun y y1 y2=>(atD_bd y1 y2).1)
  rw[show (0:Rat)+(v:Rat) /SR=(v:Rat) /SR by grind,z]at k
  generalize atT ((v:Rat) /SR)=t at *
  constructor <;> grind
theorem eps_h:(1/2^189:Rat)<=1/1000/\(1/2^200:Rat)<=1/1000/\(3:Rat) /SR<=1/1000/\(1/2^200:Rat)*3<=1/SR/\(1/2^189:Rat)<=8*(1/SR)/\(0:Rat)<=1/2^200/\(1/2^240:Rat)<=1/1000:=by decide +kernel
theorem part_bd{v:Int}(h0:0<=v)(h1:v<=SC):0<=(v:Rat) /SR/\(v:Rat) /SR<=1:=by
 have sp:=sr_pos;have e:=frac_at v;exact⟨Rat.le_of_mul_le_mul_right (c:=SR) (by rw[e,Rat.zero_mul];exact Rat.intCast_le_intCast.2 h0) sp,Rat.le_of_mul_le_mul_right (c:=SR) (by rw[e,Rat.one_mul];exact Rat.intCast_le_intCast.2 h1) sp⟩
theorem slope_e{v:Int}(h0:0<=v)(h1:v<=SC): -(3/SR)<=sinT (pAng v)-(v:Rat) /SR*cosT (pAng v)/\sinT (pAng v)-(v:Rat) /SR*cosT (pAng v)<=3/SR:=by
 obtain⟨a,b⟩:=ang_slope h0 h1;have sp:=sr_pos
 have e:(3:Rat) /SR*SR=3:=Rat.div_mul_cancel (Rat.ne_of_gt sp)
 generalize sinT (pAng v)-(v:Rat) /SR*cosT (pAng v)=X at *;generalize (3:Rat) /SR=t at *
 constructor
 ·exact Rat.le_of_mul_le_mul_right (c:=SR) (by grind) sp
 ·exact Rat.le_of_mul_le_mul_right (c:=SR) (by grind) sp
theorem ang_cos{v:Int}(h0:0<=v)(h1:v<=SC):2/3<=cosT (pAng v):=by
 obtain⟨b1,b2⟩:=ang_bd13 h0 h1;obtain⟨q1,q2⟩:=qt_bd;obtain⟨y0,y1⟩:=part_bd h0 h1;obtain⟨s1,s2⟩:=slope_e h0 h1;obtain⟨e1,e2,e3,e4,e7,e5,e6⟩:=eps_h;have n:=cos_nn (m:=pAng v) (by grind) (by grind);obtain⟨c1,c2⟩:=circleD (x:=pAng v) (by grind) (by grind)
 have c1':=tiny_lo c1
 obtain⟨k1,k2⟩:=cs_bd (x:=pAng v) (by grind) (by grind);generalize sinT (pAng v)=s at *;generalize cosT (pAng v)=c at *;generalize (v:Rat) /SR=y at *;generalize (1/2^189:Rat)=a at *;generalize (1/2^200:Rat)=b at *;generalize (3:Rat) /SR=g at *;clear e4 e7
 by_cases h:2/3<=c
 ·exact h
 ·exfalso
  have cm: -(67/100)<=c/\c<=67/100:=⟨by grind,by grind⟩
  have yc:=mul_bd (b:=1) (x:=y) (by grind) y1 cm.1 cm.2
  have sb: -(68/100)<=s/\s<=68/100:=⟨by grind,by grind⟩
  have ss:=mul_bd sb.1 sb.2 sb.1 sb.2;have cc:=mul_bd cm.1 cm.2 cm.1 cm.2
  grind
theorem apart{y z s c S C k t e g n:Rat}(y0:0<=y)(y1:y<=1)(z0:0<=z)(z1:z<=1)(yz:y<=z)(v1: -(3*g)<=S-y*C)(v2:S-y*C<=3*g)(u1: -(3*g)<=s-z*c)(u2:s-z*c<=3*g)(cu:2/3<=c)
  (k1: -(101/100)<=k) (k2:k<=101/100) (t1: -(101/100)<=t) (t2:t<=101/100) (c2:c<=101/100) (a1: -e<=S-(s*k+c*t)) (a2:S-(s*k+c*t)<=e) (b1: -e<=C-(c*k-s*t)) (b2:C-(c*k-s*t)<=e)
  (he:e*3<=g) (hn:n<=8*g) (e0:0<=e) (g0:0<=g) (kn: -n<=k):t<=30*g:=by
 by_cases sd:t<=0
 ·grind
 have sd':0<=t:=by grind
 have r1:=mul_bd (b:=1) (x:=y) (by grind) y1 b1 b2;have r2:=mul_bd (b:=101/100) (x:=k) k1 k2 u1 u2;have r3:=mul_bd (b:=1) (x:=y) (by grind) y1 u1 u2;have r4:=mul_bd (b:=101/100) (x:=t) t1 t2 r3.1 r3.2
 have eq:S-y*C=(S-(s*k+c*t))-y*(C-(c*k-s*t))+k*(s-z*c)+t*(y*(s-z*c))+c*((z-y)*k)+c*(t*(1+y*z)):=by grind
 have pz:=Rat.mul_nonneg y0 z0;have t3:=Rat.mul_nonneg sd' pz
 have ct:=Rat.mul_nonneg (show 0<=c-2/3 by grind) (show 0<=t*(1+y*z) by grind)
 have zk: -(8*g)<=(z-y)*k:=by
  by_cases k0:0<=k
  ·have:=Rat.mul_nonneg (show 0<=z-y by grind) k0
   grind
  ·have:=Rat.mul_nonneg (show 0<=1-(z-y) by grind) (show 0<= -k by grind)
   grind
 have czk: -(9*g)<=c*((z-y)*k):=by
  have m1:=Rat.mul_nonneg (show 0<=c by grind) (show 0<=(z-y)*k+8*g by grind)
  have m2:=Rat.mul_nonneg (show 0<=101/100-c by grind) g0
  grind
 generalize S-(s*k+c*t)=A1 at *;generalize y*(C-(c*k-s*t))=A3 at *;generalize k*(s-z*c)=A4 at *;generalize t*(y*(s-z*c))=A5 at *;generalize c*((z-y)*k)=A6 at *;generalize S-y*C=A7 at *
 grind
theorem ang_mono{v u:Int}(h0:0<=v)(h:v<=u)(h1:u<=SC):pAng v*SR<=pAng u*SR+150:=by
 by_cases hle:pAng v<=pAng u
 ·have:=Rat.mul_le_mul_of_nonneg_right hle (Rat.le_of_lt sr_pos)
  grind
 obtain⟨d,hd⟩:∃d,pAng v=pAng u+d:=⟨pAng v-pAng u,by grind⟩
 obtain⟨b1,b2⟩:=ang_bd13 h0 (by omega:v<=SC);obtain⟨a1,a2⟩:=ang_bd13 (by omega:0<=u) h1;obtain⟨q1,q2⟩:=qt_bd
 have d0:0<=d:=by grind
 have d2:d<=3/2:=by grind
 have dn:=cos_nn (m:=d) (by grind) (by grind);obtain⟨yv0,yv1⟩:=part_bd h0 (by omega:v<=SC);obtain⟨yu0,yu1⟩:=part_bd (by omega:0<=u) h1
 have yle:(v:Rat) /SR<=(u:Rat) /SR:=Rat.le_of_mul_le_mul_right (c:=SR) (by rw[frac_at,frac_at];exact Rat.intCast_le_intCast.2 h) sr_pos
 obtain⟨sv1,sv2⟩:=slope_e h0 (by omega:v<=SC);obtain⟨su1,su2⟩:=slope_e (by omega:0<=u) h1;have cu:=ang_cos (by omega:0<=u) h1;have cv:=ang_cos h0 (by omega:v<=SC);obtain⟨p1,p2⟩:=sin_add (m:=pAng u) (h:=d) (by grind) (by grind) (by grind) (by grind);obtain⟨p3,p4⟩:=cos_add (m:=pAng u) (h:=d) (by grind) (by grind) (by grind) (by grind);have bu:=cs_bd (x:=pAng u) (by grind) (by grind)
 have bd:=cs_bd (x:=d) (by grind) (by grind);rw[hd]at sv1 sv2 cv
 have p1':=tiny_lo p1
 have p2':=tiny_hi p2
 have p3':=tiny_lo p3
 have p4':=tiny_hi p4
 obtain⟨e1,e2,e3,e4,e7,e5,e6⟩:=eps_h;have sp:=sr_pos
 -- the sine of what they are apart is small
 have key:sinT d<=30*(1/SR):=by
  have o3:(3:Rat) /SR=3*(1/SR):=by
   have o1:(1:Rat) /SR*SR=1:=Rat.div_mul_cancel (Rat.ne_of_gt sp)
   have:(3:Rat) /SR*SR=3:=Rat.div_mul_cancel (Rat.ne_of_gt sp)
   refine Rat.le_antisymm (Rat.le_of_mul_le_mul_right (c:=SR) ?_ sp) (Rat.le_of_mul_le_mul_right (c:=SR) ?_ sp) <;> grind
  have g0:(0:Rat)<=1/SR:=by
   have o1:(1:Rat) /SR*SR=1:=Rat.div_mul_cancel (Rat.ne_of_gt sp)
   refine Rat.le_of_mul_le_mul_right (c:=SR) ?_ sp;rw[o1]
   grind
  rw[o3]at su1 su2 sv1 sv2 e3;exact apart yv0 yv1 yu0 yu1 yle sv1 sv2 su1 su2 cu bd.1.1 bd.1.2 bd.2.1 bd.2.2 bu.1.2 p1' p2' p3' p4' e4 e7 e5 g0 dn
 have low:=sin_low d0 (by grind)
 have o1:(1:Rat) /SR*SR=1:=Rat.div_mul_cancel (Rat.ne_of_gt sp)
 have dd:d<=150*(1/SR):=by grind
 have m:=Rat.mul_le_mul_of_nonneg_right dd (Rat.le_of_lt sp);rw[hd]
 grind
theorem radd{a b c d:Rat}(h:a<=b)(k:c<=d):a+c<=b+d:=by grind
def BR:Rat:=((2^KK:Int):Rat)
theorem br_pos:(0:Rat) < BR:=Rat.intCast_lt_intCast.2 (p2pos KK)
def LoR (v:Rat)(x:Sp):Prop:=match x with
 | none=>False
 | some (a,_)=>a= -19342822337206103650074625\/((vr a:Int):Rat)<=v*BR
def HiR (v:Rat)(x:Sp):Prop:=match x with
 | none=>False
 | some (_,b)=>b=19342822337206103650074625\/v*BR<=((vr b:Int):Rat)
def FinI (x:Sp):Prop:=match x with
 | none=>False
 | some (a,b)=>a<=b/\ -19342822337206103650074625 < a/\b < 19342822337206103650074625
theorem FinI.ok{x:Sp}(h:FinI x):SpOk x:=by
 rcases x with _ | ⟨a,b⟩
 ·exact trivial
 ·obtain⟨h1,h2,h3⟩:=h;exact⟨by omega,h1,by omega,by omega,by omega⟩
theorem LoR.mono{v w:Rat}{x:Sp}(h:LoR v x)(e:v<=w):LoR w x:=by
 rcases x with _ | ⟨a,b⟩
 ·exact h
 ·rcases h with h | h
  ·exact .inl h
  ·exact .inr (Rat.le_trans h (Rat.mul_le_mul_of_nonneg_right e (Rat.le_of_lt br_pos)))
theorem HiR.mono{v w:Rat}{x:Sp}(h:HiR v x)(e:w<=v):HiR w x:=by
 rcases x with _ | ⟨a,b⟩
 ·exact h
 ·rcases h with h | h
  ·exact .inl h
  ·exact .inr (Rat.le_trans (Rat.mul_le_mul_of_nonneg_right e (Rat.le_of_lt br_pos)) h)
theorem ends_le{a d:Int}{v:Rat}(ha: -19342822337206103650074625<=d)(hd:a<=19342822337206103650074625)(h:a= -19342822337206103650074625\/((vr a:Int):Rat)<=v*BR)(k:d=19342822337206103650074625\/v*BR<=((vr d:Int):Rat)):a<=d:=by
 rcases h with h | h
 ·omega
 ·rcases k with k | k
  ·omega
  ·rcases Int.lt_or_le d a with c | c
   ·exfalso
    have e:=vr_lt c;have f:=Rat.intCast_le_intCast.1 (Rat.le_trans h k)
    omega
   ·exact c
theorem meet_R{v:Rat}{x y:Sp}(hx:SpOk x)(hy:SpOk y)(h1:LoR v x)(h2:HiR v x)(k1:LoR v y)(k2:HiR v y):∃a b,meetI x y=some (a,b):=by
 rcases x with _ | ⟨a,b⟩
 ·exact h1.elim
 rcases y with _ | ⟨c,d⟩
 ·exact k1.elim
 obtain⟨A1,A2,A3,A4,A5⟩:=hx;obtain⟨B1,B2,B3,B4,B5⟩:=hy;have e1:=ends_le (by omega) (by omega) h1 k2;have e2:=ends_le (by omega) (by omega) k1 h2;exact⟨_,_,mkI_some (by omega) (by omega) (by omega)⟩
theorem hull_lo{v:Rat}{x y:Sp}(hx:SpOk x)(hy:SpOk y)(fx:x≠none)(fy:y≠none)(h:LoR v x\/LoR v y):LoR v (hullI x y):=by
 rcases x with _ | ⟨a,b⟩
 ·exact absurd rfl fx
 rcases y with _ | ⟨c,d⟩
 ·exact absurd rfl fy
 obtain⟨A1,A2,A3,A4,A5⟩:=hx;obtain⟨B1,B2,B3,B4,B5⟩:=hy
 show LoR v (mkI (min a c) (max b d))
 rw[mkI_some (by omega) (by omega) (by omega)]
 have key:∀t:Int,(t= -19342822337206103650074625\/((vr t:Int):Rat)<=v*BR)->min a c<=t->(min a c= -19342822337206103650074625\/((vr (min a c):Int):Rat)<=v*BR):=fun t ht hm=>by
  rcases ht with ht | ht
  ·left;omega
  ·exact .inr (Rat.le_trans (Rat.intCast_le_intCast.2 (vr_le hm)) ht)
 rcases h with h | h
 ·exact key a h (by omega)
 ·exact key c h (by omega)
theorem hull_hi{v:Rat}{x y:Sp}(hx:SpOk x)(hy:SpOk y)(fx:x≠none)(fy:y≠none)(h:HiR v x\/HiR v y):HiR v (hullI x y):=by
 rcases x with _ | ⟨a,b⟩
 ·exact absurd rfl fx
 rcases y with _ | ⟨c,d⟩
 ·exact absurd rfl fy
 obtain⟨A1,A2,A3,A4,A5⟩:=hx;obtain⟨B1,B2,B3,B4,B5⟩:=hy
 show HiR v (mkI (min a c) (max b d))
 rw[mkI_some (by omega) (by omega) (by omega)]
 have key:∀t:Int,(t=19342822337206103650074625\/v*BR<=((vr t:Int):Rat))->t<=max b d->(max b d=19342822337206103650074625\/v*BR<=((vr (max b d):Int):Rat)):=fun t ht hm=>by
  rcases ht with ht | ht
  ·left;omega
  ·exact .inr (Rat.le_trans ht (Rat.intCast_le_intCast.2 (vr_le hm)))
 rcases h with h | h
 ·exact key b h (by omega)
 ·exact key d h (by omega)
theorem neg_R{v:Rat}{x:Sp}(hx:FinI x):(LoR v x->HiR (-v) (negI x))/\(HiR v x->LoR (-v) (negI x))/\FinI (negI x):=by
 rcases x with _ | ⟨a,b⟩
 ·exact hx.elim
 have ok:=hx.ok;obtain⟨h1,h2,h3⟩:=hx;rw[negI_some ok]
 refine⟨fun h=>?_,fun h=>?_,⟨by omega,by omega,by omega⟩⟩
 ·rcases h with h | h
  ·omega
  ·right
   rw[vr_neg,Rat.intCast_neg,Rat.neg_mul];exact Rat.neg_le_neg h
 ·rcases h with h | h
  ·omega
  ·right
   rw[vr_neg,Rat.intCast_neg,Rat.neg_mul];exact Rat.neg_le_neg h
theorem dn_R{V p:Int}(h:Dn V p):p= -19342822337206103650074625\/((vr p:Int):Rat)<=((V:Int):Rat):=by
 obtain⟨h1,h2,h3,h4⟩:=h
 by_cases c:p= -19342822337206103650074625
 ·exact .inl c
 ·exact .inr (Rat.intCast_le_intCast.2 (h3 (by omega)))
theorem up_R{V p:Int}(h:Up V p):p=19342822337206103650074625\/((V:Int):Rat)<=((vr p:Int):Rat):=by
 obtain⟨h1,h2,h3,h4⟩:=h
 by_cases c:p=19342822337206103650074625
 ·exact .inl c
 ·have:=h3 (by omega)
  rw[vr_neg]at this;exact .inr (Rat.intCast_le_intCast.2 (by omega))
theorem add_R{v w:Rat}{x y:Sp}(hx:FinI x)(hy:FinI y):(LoR v x->LoR w y->LoR (v+w) (addI x y))/\(HiR v x->HiR w y->HiR (v+w) (addI x y))/\SpOk (addI x y):=by
 rcases x with _ | ⟨a,b⟩
 ·exact hx.elim
 rcases y with _ | ⟨c,d⟩
 ·exact hy.elim
 obtain⟨h1,h2,h3⟩:=hx;obtain⟨k1,k2,k3⟩:=hy;have s1:=(addp_spec (x:=a) (y:=c) true (by omega) (by omega) (by omega) (by omega)).1;have s2:=addp_spec (x:=b) (y:=d) true (by omega) (by omega) (by omega) (by omega);have m1:=s1.mono s2.1 (Int.add_le_add (vr_le h1) (vr_le k1));have m2:=dn_le_up s2.1 s2.2;have b1:=s1.1;have b2:=s1.2.1;have b3:=s2.2.1;have b4:=s2.2.2.1
 have e:addI (some (a,b)) (some (c,d))=some (addp false a c,addp true b d):=mkI_some (by omega) (by omega) (by omega)
 rw[e]
 refine⟨fun h k=>?_,fun h k=>?_,⟨by omega,by omega,by omega,by omega,by omega⟩⟩
 ·rcases h with h | h
  ·omega
  rcases k with k | k
  ·omega
  rcases dn_R s1 with g | g
  ·exact .inl g
  ·right
   rw[Rat.intCast_add]at g;rw[Rat.add_mul];exact Rat.le_trans g (radd h k)
 ·rcases h with h | h
  ·omega
  rcases k with k | k
  ·omega
  rcases up_R s2.2 with g | g
  ·exact .inl g
  ·right
   rw[Rat.intCast_add]at g;rw[Rat.add_mul];exact Rat.le_trans (radd h k) g
theorem corner{A B C D x y:Rat}(h1:A<=x)(h2:x<=B)(k1:C<=y)(k2:y<=D):(A*C<=x*y\/A*D<=x*y\/B*C<=x*y\/B*D<=x*y)/\(x*y<=A*C\/x*y<=A*D\/x*y<=B*C\/x*y<=B*D):=by
 have nn:∀{p q s t:Rat},p<=q->s<=t->0<=(q-p)*(t-s):=fun a b=>Rat.mul_nonneg ((Rat.le_iff_sub_nonneg _ _).1 a) ((Rat.le_iff_sub_nonneg _ _).1 b)
 by_cases cy:0<=y
 ·have e1:=nn h1 cy;have e2:=nn h2 cy
  constructor
  ·by_cases cA:0<=A
   ·left
    have:=nn cA k1
    grind
   ·right;left
    have:=nn (Rat.le_of_lt (Rat.not_le.1 cA)) k2
    grind
  ·by_cases cB:0<=B
   ·right;right;right
    have:=nn cB k2
    grind
   ·right;right;left
    have:=nn (Rat.le_of_lt (Rat.not_le.1 cB)) k1
    grind
 ·have cy':=Rat.le_of_lt (Rat.not_le.1 cy)
  have e1:=nn h1 cy';have e2:=nn h2 cy'
  constructor
  ·by_cases cB:0<=B
   ·right;right;left
    have:=nn cB k1
    grind
   ·right;right;right
    have:=nn (Rat.le_of_lt (Rat.not_le.1 cB)) k2
    grind
  ·by_cases cA:0<=A
   ·right;left
    have:=nn cA k2
    grind
   ·left
    have:=nn (Rat.le_of_lt (Rat.not_le.1 cA)) k1
    grind
theorem pro_R{x y:Int}(x1: -19342822337206103650074625 < x)(x2:x < 19342822337206103650074625)(y1: -19342822337206103650074625 < y)(y2:y < 19342822337206103650074625):
  ((vl (ml (ep x) (ep y)):Int):Rat)*BR=((vr x:Int):Rat)*((vr y:Int):Rat):=by
 have h:=(pro_spec x1 x2 y1 y2).2
 unfold BR
 rw[<-Rat.intCast_mul,<-Rat.intCast_mul,h]
theorem under{p:Int}{P v:Rat}{V:Int}(h:p= -19342822337206103650074625\/((vr p:Int):Rat)<=((V:Int):Rat))(e:((V:Int):Rat)*BR=P)(k:P<=v*BR*BR):p= -19342822337206103650074625\/((vr p:Int):Rat)<=v*BR:=by
 rcases h with h | h
 ·exact .inl h
 ·right
  refine Rat.le_trans h (Rat.le_of_mul_le_mul_right (c:=BR) ?_ br_pos);rw[e];exact k
theorem above{p:Int}{P v:Rat}{V:Int}(h:p=19342822337206103650074625\/((V:Int):Rat)<=((vr p:Int):Rat))(e:((V:Int):Rat)*BR=P)(k:v*BR*BR<=P):p=19342822337206103650074625\/v*BR<=((vr p:Int):Rat):=by
 rcases h with h | h
 ·exact .inl h
 ·right
  refine Rat.le_trans (Rat.le_of_mul_le_mul_right (c:=BR) ?_ br_pos) h;rw[e];exact k
theorem lo_less{m p:Int}{v:Rat}(h:p= -19342822337206103650074625\/((vr p:Int):Rat)<=v*BR)(hm:m<=p)(hb: -19342822337206103650074625<=m):m= -19342822337206103650074625\/((vr m:Int):Rat)<=v*BR:=by
 rcases h with h | h
 ·left;omega
 ·exact .inr (Rat.le_trans (Rat.intCast_le_intCast.2 (vr_le hm)) h)
theorem hi_more{m p:Int}{v:Rat}(h:p=19342822337206103650074625\/v*BR<=((vr p:Int):Rat))(hm:p<=m)(hb:m<=19342822337206103650074625):m=19342822337206103650074625\/v*BR<=((vr m:Int):Rat):=by
 rcases h with h | h
 ·left;omega
 ·exact .inr (Rat.le_trans h (Rat.intCast_le_intCast.2 (vr_le hm)))
theorem mul_R{v w:Rat}{x y:Sp}(hx:FinI x)(hy:FinI y)(v1:LoR v x)(v2:HiR v x)(w1:LoR w y)(w2:HiR w y):LoR (v*w) (mulI x y)/\HiR (v*w) (mulI x y)/\SpOk (mulI x y):=by
 rcases x with _ | ⟨a,b⟩
 ·exact hx.elim
 rcases y with _ | ⟨c,d⟩
 ·exact hy.elim
 obtain⟨h1,h2,h3⟩:=hx;obtain⟨k1,k2,k3⟩:=hy;replace v1:=v1.resolve_left (by omega);replace v2:=v2.resolve_left (by omega);replace w1:=w1.resolve_left (by omega);replace w2:=w2.resolve_left (by omega);obtain⟨cl,ch⟩:=corner v1 v2 w1 w2
 have e:v*BR*(w*BR)=v*w*BR*BR:=by grind
 rw[e]at cl ch;have s1:=mulp_spec (x:=a) (y:=c) (by omega) (by omega) (by omega) (by omega);have s2:=mulp_spec (x:=a) (y:=d) (by omega) (by omega) (by omega) (by omega);have s3:=mulp_spec (x:=b) (y:=c) (by omega) (by omega) (by omega) (by omega);have s4:=mulp_spec (x:=b) (y:=d) (by omega) (by omega) (by omega) (by omega);have p1:=pro_R (x:=a) (y:=c) (by omega) (by omega) (by omega) (by omega)
 have p2:=pro_R (x:=a) (y:=d) (by omega) (by omega) (by omega) (by omega);have p3:=pro_R (x:=b) (y:=c) (by omega) (by omega) (by omega) (by omega);have p4:=pro_R (x:=b) (y:=d) (by omega) (by omega) (by omega) (by omega);obtain⟨m,hm,m1,m2,m3,m4,_⟩:=least4 (mulp false a c) (mulp false a d) (mulp false b c) (mulp false b d);obtain⟨M,hM,M1,M2,M3,M4,_⟩:=most4 (mulp true a c) (mulp true a d) (mulp true b c) (mulp true b d)
 have le:=dn_le_up s1.1 s1.2;have t1:=s1.1.2.1;have t2:=s1.2.2.1;have B1:=(mulp_bd (x:=a) (y:=c) false).1;have B2:=(mulp_bd (x:=a) (y:=d) false).1;have B3:=(mulp_bd (x:=b) (y:=c) false).1;have B4:=(mulp_bd (x:=b) (y:=d) false).1;have C1:=(mulp_bd (x:=a) (y:=c) true).2;have C2:=(mulp_bd (x:=a) (y:=d) true).2;have C3:=(mulp_bd (x:=b) (y:=c) true).2
 have C4:=(mulp_bd (x:=b) (y:=d) true).2
 have b1: -19342822337206103650074625<=m:=by omega
 have b2:M<=19342822337206103650074625:=by omega
 have eq:mulI (some (a,b)) (some (c,d))=some (m,M):=by
  show cor mulp a b c d=_
  unfold cor
  rw[hm,hM];exact mkI_some (by omega) (by omega) (by omega)
 rw[eq];refine⟨?_,?_,⟨b1,by omega,b2,by omega,by omega⟩⟩
 ·rcases cl with g | g | g | g
  ·exact lo_less (under (dn_R s1.1) p1 g) m1 b1
  ·exact lo_less (under (dn_R s2.1) p2 g) m2 b1
  ·exact lo_less (under (dn_R s3.1) p3 g) m3 b1
  ·exact lo_less (under (dn_R s4.1) p4 g) m4 b1
 ·rcases ch with g | g | g | g
  ·exact hi_more (above (up_R s1.2) p1 g) M1 b2
  ·exact hi_more (above (up_R s2.2) p2 g) M2 b2
  ·exact hi_more (above (up_R s3.2) p3 g) M3 b2
  ·exact hi_more (above (up_R s4.2) p4 g) M4 b2
def sgq (q:Int)(v:Rat):Rat:=if q%2=0 then v else -v
theorem rep{x q:Int}{z f:Rat}(a: -(17/10)<=ang x z/\ang x z<=17/10)(hf:f*SR=z-(q:Rat)*(2*qt*SR))(f1: -(17/10)<=f)(f2:f<=17/10):
  -1<=(sinU x z-sgq q (sinT f))*2^190/\(sinU x z-sgq q (sinT f))*2^190<=1:=by
 obtain⟨k,hk⟩:∃k,k=qI x-q:=⟨_,rfl⟩
 have e:f=ang x z+(k:Rat)*(2*qt):=by
  have p:=ang_at x z;have sp:=sr_pos;rw[hk,Rat.intCast_sub];refine Rat.le_antisymm (Rat.le_of_mul_le_mul_right (c:=SR) ?_ sp) (Rat.le_of_mul_le_mul_right (c:=SR) ?_ sp) <;> grind
 have hk3:=kbd (k:=k) (by grind) (by grind);rw[sinU_ang]
 unfold sgq
 rcases hk3 with rfl | rfl | rfl
 ·rw[c0]at e
  rw[show f=ang x z by grind]
  by_cases c:q%2=0
  ·rw[if_pos c,if_pos (by omega)]
   constructor <;> grind
  ·rw[if_neg c,if_neg (by omega)]
   constructor <;> grind
 ·rw[c1]at e;obtain⟨h1,h2⟩:=half_on (x:=ang x z) (by grind) (by grind)
  rw[show ang x z+2*qt=f by grind]at h1 h2
  by_cases c:q%2=0
  ·rw[if_pos c,if_neg (by omega)]
   constructor <;> grind
  ·rw[if_neg c,if_pos (by omega)]
   constructor <;> grind
 ·rw[cm]at e;obtain⟨h1,h2⟩:=half_on (x:=f) (by grind) (by grind)
  rw[show f+2*qt=ang x z by grind]at h1 h2
  by_cases c:q%2=0
  ·rw[if_pos c,if_neg (by omega)]
   constructor <;> grind
  ·rw[if_neg c,if_pos (by omega)]
   constructor <;> grind
theorem canon{x:Int}{z:Rat}(a: -(17/10)<=ang x z/\ang x z<=17/10):∃(q:Int) (f:Rat),f*SR=z-(q:Rat)*(2*qt*SR)/\ -qt<=f/\f<=qt:=by
 obtain⟨q1,q2⟩:=qt_bd;have p:=ang_at x z
 by_cases c:ang x z<=qt
 ·by_cases d: -qt<=ang x z
  ·exact⟨qI x,ang x z,p,d,c⟩
  ·have d':=Rat.not_le.1 d
   refine⟨qI x-1,ang x z+2*qt,?_,by grind,by grind⟩
   rw[Rat.intCast_sub,c1]
   grind
 ·have c':=Rat.not_le.1 c
  refine⟨qI x+1,ang x z-2*qt,?_,by grind,by grind⟩
  rw[Rat.intCast_add,c1]
  grind
theorem rest_ex (z:Rat)(q:Int):∃f:Rat,f*SR=z-(q:Rat)*(2*qt*SR):=⟨(z-(q:Rat)*(2*qt*SR)) /SR,Rat.div_mul_cancel (Rat.ne_of_gt sr_pos)⟩
theorem units_le{f g u v:Rat}(hf:f*SR=u)(hg:g*SR=v)(h:u<=v):f<=g:=Rat.le_of_mul_le_mul_right (c:=SR) (by rw[hf,hg];exact h) sr_pos
theorem eps_sum:(1/2^186:Rat)+1/2^190+1/2^190<=72/2^192:=by decide +kernel
theorem upper{x x1 x2:Int}{z z1 z2:Rat}(a: -(17/10)<=ang x z/\ang x z<=17/10)(a1: -(17/10)<=ang x1 z1/\ang x1 z1<=17/10)(a2: -(17/10)<=ang x2 z2/\ang x2 z2<=17/10)(h1:z1<=z)(h2:z<=z2):
  (∃i:Int,i%2=0/\z1<=(2*(i:Rat)+1)*(qt*SR)/\(2*(i:Rat)+1)*(qt*SR)<=z2)\/sinU x z<=sinU x1 z1+72/2^192\/sinU x z<=sinU x2 z2+72/2^192:=by
 obtain⟨q1,q2⟩:=qt_bd;obtain⟨q,f,hf,f1,f2⟩:=canon a;obtain⟨r1,r2⟩:=rep a hf (by grind) (by grind);have sp:=sr_pos;have ep:=eps_sum
 by_cases c:q%2=0
 ·by_cases d:(2*(q:Rat)+1)*(qt*SR)<=z2
  ·refine .inl ⟨q,c,?_,d⟩
   have:=Rat.mul_le_mul_of_nonneg_right f2 (Rat.le_of_lt sp)
   grind
  ·have d':=Rat.not_le.1 d
   obtain⟨g,hg⟩:=rest_ex z2 q
   have g1:f<=g:=units_le hf hg (by grind)
   have g2:g<=qt:=Rat.le_of_mul_le_mul_right (c:=SR) (by rw[hg];grind) sp
   obtain⟨s1,s2⟩:=rep a2 hg (by grind) (by grind);have m:=sin_mono f1 g1 g2
   unfold sgq at r1 r2 s1 s2
   rw[if_pos c]at r1 r2 s1 s2;have t1:=tiny_hi r2;have t2:=tiny_lo s1;exact .inr (.inr (by grind))
 ·by_cases d:z1<=(2*((q-1:Int):Rat)+1)*(qt*SR)
  ·refine .inl ⟨q-1,by omega,d,?_⟩
   have:=Rat.mul_le_mul_of_nonneg_right f1 (Rat.le_of_lt sp)
   rw[Rat.intCast_sub,c1]
   grind
  ·have d':=Rat.not_le.1 d
   rw[Rat.intCast_sub,c1]at d';obtain⟨g,hg⟩:=rest_ex z1 q
   have g1:g<=f:=units_le hg hf (by grind)
   have g2: -qt<=g:=Rat.le_of_mul_le_mul_right (c:=SR) (by rw[hg];grind) sp
   obtain⟨s1,s2⟩:=rep a1 hg (by grind) (by grind);have m:=sin_mono g2 g1 f2
   unfold sgq at r1 r2 s1 s2
   rw[if_neg c]at r1 r2 s1 s2;have t1:=tiny_hi r2;have t2:=tiny_lo s1;exact .inr (.inl (by grind))
theorem lower{x x1 x2:Int}{z z1 z2:Rat}(a: -(17/10)<=ang x z/\ang x z<=17/10)(a1: -(17/10)<=ang x1 z1/\ang x1 z1<=17/10)(a2: -(17/10)<=ang x2 z2/\ang x2 z2<=17/10)(h1:z1<=z)(h2:z<=z2):
  (∃i:Int,i%2≠0/\z1<=(2*(i:Rat)+1)*(qt*SR)/\(2*(i:Rat)+1)*(qt*SR)<=z2)\/sinU x1 z1<=sinU x z+72/2^192\/sinU x2 z2<=sinU x z+72/2^192:=by
 obtain⟨q1,q2⟩:=qt_bd;obtain⟨q,f,hf,f1,f2⟩:=canon a;obtain⟨r1,r2⟩:=rep a hf (by grind) (by grind);have sp:=sr_pos;have ep:=eps_sum
 by_cases c:q%2=0
 ·by_cases d:z1<=(2*((q-1:Int):Rat)+1)*(qt*SR)
  ·refine .inl ⟨q-1,by omega,d,?_⟩
   have:=Rat.mul_le_mul_of_nonneg_right f1 (Rat.le_of_lt sp)
   rw[Rat.intCast_sub,c1]
   grind
  ·have d':=Rat.not_le.1 d
   rw[Rat.intCast_sub,c1]at d';obtain⟨g,hg⟩:=rest_ex z1 q
   have g1:g<=f:=units_le hg hf (by grind)
   have g2: -qt<=g:=Rat.le_of_mul_le_mul_right (c:=SR) (by rw[hg];grind) sp
   obtain⟨s1,s2⟩:=rep a1 hg (by grind) (by grind);have m:=sin_mono g2 g1 f2
   unfold sgq at r1 r2 s1 s2
   rw[if_pos c]at r1 r2 s1 s2;have t1:=tiny_lo r1;have t2:=tiny_hi s2;exact .inr (.inl (by grind))
 ·by_cases d:(2*(q:Rat)+1)*(qt*SR)<=z2
  ·refine .inl ⟨q,c,?_,d⟩
   have:=Rat.mul_le_mul_of_nonneg_right f2 (Rat.le_of_lt sp)
   grind
  ·have d':=Rat.not_le.1 d
   obtain⟨g,hg⟩:=rest_ex z2 q
   have g1:f<=g:=units_le hf hg (by grind)
   have g2:g<=qt:=Rat.le_of_mul_le_mul_right (c:=SR) (by rw[hg];grind) sp
   obtain⟨s1,s2⟩:=rep a2 hg (by grind) (by grind);have m:=sin_mono f1 g1 g2
   unfold sgq at r1 r2 s1 s2
   rw[if_neg c]at r1 r2 s1 s2;have t1:=tiny_lo r1;have t2:=tiny_hi s2;exact .inr (.inr (by grind))
theorem rq_sid{up:Bool}{l r:Int}(h:Rq up l SC r):Sid up (l*2^KK) SC r:=by
 rw[rq_some (by decide),show sgi (decide (SC < 0)) SC=SC from rfl,show sgi (decide (SC < 0)) l=l from rfl]at h
 exact h
theorem sc_pos:(0:Int) < SC:=by decide
theorem place_le{up:Bool}{l r p:Int}(h:Rq up l SC r)(p1: -19342822337206103650074625 < p)(p2:p < 19342822337206103650074625)(e:vr p*SC<=l*2^KK):p<=r:=
 Sid.mono (up:=up) (B:=1) (by decide) sc_pos (sid_exact (by decide) p1 p2 (Int.mul_one _)) (rq_sid h) (by rw[Int.mul_one];exact e)
theorem le_place{up:Bool}{l r p:Int}(h:Rq up l SC r)(p1: -19342822337206103650074625 < p)(p2:p < 19342822337206103650074625)(e:l*2^KK<=vr p*SC):r<=p:=
 Sid.mono (up:=up) (D:=1) sc_pos (by decide) (rq_sid h) (sid_exact (by decide) p1 p2 (Int.mul_one _)) (by rw[Int.mul_one];exact e)
theorem one_vr:vr (opl 1)=2^KK:=by rw[opl_vr (by decide) (by decide),Int.one_mul]
theorem one_neg:opl (-1)= -opl 1:=rfl
theorem one_bd:0 < opl 1/\opl 1 < 19342822337206103650074625:=opl_pos (by decide) (by decide)
theorem rq_unit{up:Bool}{l r:Int}(h:Rq up l SC r)(h1: -SC<=l)(h2:l<=SC): -opl 1<=r/\r<=opl 1:=by
 obtain⟨o1,o2⟩:=one_bd;have hp:=p2pos KK
 constructor
 ·refine place_le h (by omega) (by omega) ?_;rw[vr_neg,one_vr,Int.neg_mul,Int.mul_comm,<-Int.neg_mul];exact Int.mul_le_mul_of_nonneg_right h1 (by omega)
 ·refine le_place h (by omega) (by omega) ?_;rw[one_vr,Int.mul_comm (2^KK)];exact Int.mul_le_mul_of_nonneg_right h2 (by omega)
theorem rq_pair{l h r u:Int}(hr:Rq false l SC r)(hu:Rq true h SC u)(le:l<=h):r<=u:=by
 obtain⟨t,ht⟩:=rq_ex true l SC;have a:=Sid.mono sc_pos sc_pos (rq_sid ht) (rq_sid hu) (Int.mul_le_mul_of_nonneg_right (Int.mul_le_mul_of_nonneg_right le (by have:=p2pos KK;omega)) (Int.le_of_lt sc_pos))
 rcases sid_two sc_pos (rq_sid hr) (rq_sid ht)with ⟨b,_⟩ | ⟨b,_⟩ <;> omega
def SB (σ:Rat)(Z:Sp):Prop:=∃l h r u:Int,Z=some (r,u)/\Rq false l SC r/\Rq true h SC u/\ -SC<=l/\l<=h/\h<=SC/\(l= -SC\/((l+99:Int):Rat)<=σ)/\(h=SC\/σ<=((h-99:Int):Rat))/\σ<=((l+17592186044416:Int):Rat)/\((h-17592186044416:Int):Rat)<=σ
theorem SB.unit{σ:Rat}{Z:Sp}(h:SB σ Z):∃r u,Z=some (r,u)/\ -opl 1<=r/\r<=u/\u<=opl 1:=by
 obtain⟨l,h,r,u,rfl,hr,hu,h1,h2,h3,_⟩:=h;exact⟨r,u,rfl,(rq_unit hr h1 (by omega)).1,rq_pair hr hu h2,(rq_unit hu (by omega) h3).2⟩
theorem SB.fin{σ:Rat}{Z:Sp}(h:SB σ Z):FinI Z:=by
 obtain⟨o1,o2⟩:=one_bd;obtain⟨r,u,rfl,a,b,c⟩:=h.unit;exact⟨b,by omega,by omega⟩
theorem rq_lo{l r:Int}{v:Rat}(h:Rq false l SC r)(e:(l:Rat)<=v*SR):r= -19342822337206103650074625\/((vr r:Int):Rat)<=v*BR:=by
 have s:=rq_sid h;rw[sid_f]at s;obtain⟨_,_,h3,_⟩:=s
 by_cases c:r= -19342822337206103650074625
 ·exact .inl c
 ·right
  have a:=Rat.intCast_le_intCast.2 (h3 (by rename_i h1 _;omega));rw[Rat.intCast_mul,Rat.intCast_mul]at a;refine Rat.le_of_mul_le_mul_right (c:=SR) ?_ sr_pos;have b:=Rat.mul_le_mul_of_nonneg_right e (Rat.le_of_lt br_pos)
  unfold BR at *
  grind
theorem rq_hi{h u:Int}{v:Rat}(k:Rq true h SC u)(e:v*SR<=(h:Rat)):u=19342822337206103650074625\/v*BR<=((vr u:Int):Rat):=by
 have s:=(rq_sid k);rw[sid_t]at s;obtain⟨_,_,h3,_⟩:=s
 by_cases c:u=19342822337206103650074625
 ·exact .inl c
 ·right
  have a:=Rat.intCast_le_intCast.2 (h3 (by rename_i h1 _;omega));rw[vr_neg,Rat.intCast_mul,Rat.intCast_neg,Rat.intCast_neg,Rat.intCast_mul]at a;refine Rat.le_of_mul_le_mul_right (c:=SR) ?_ sr_pos;have b:=Rat.mul_le_mul_of_nonneg_right e (Rat.le_of_lt br_pos)
  unfold BR at *
  grind
theorem SB.lo{σ v:Rat}{Z:Sp}(h:SB σ Z)(v1: -1<=v)(v2:σ<=v*SR+99):LoR v Z:=by
 obtain⟨l,h,r,u,rfl,hr,hu,h1,h2,h3,hl,hh,_⟩:=h;refine rq_lo hr ?_
 rcases hl with rfl | hl
 ·have:=Rat.mul_le_mul_of_nonneg_right v1 (Rat.le_of_lt sr_pos)
  rw[Rat.intCast_neg]
  grind
 ·rw[Rat.intCast_add]at hl
  have e:((99:Int):Rat)=99:=rfl
  rw[e]at hl
  grind
theorem SB.hi{σ v:Rat}{Z:Sp}(h:SB σ Z)(v1:v<=1)(v2:v*SR<=σ+99):HiR v Z:=by
 obtain⟨l,h,r,u,rfl,hr,hu,h1,h2,h3,hl,hh,_⟩:=h;refine rq_hi hu ?_
 rcases hh with rfl | hh
 ·have:=Rat.mul_le_mul_of_nonneg_right v1 (Rat.le_of_lt sr_pos)
  grind
 ·rw[Rat.intCast_sub]at hh
  have e:((99:Int):Rat)=99:=rfl
  rw[e]at hh
  grind
theorem unitI_some:unitI=some (-opl 1,opl 1):=by
 obtain⟨o1,o2⟩:=one_bd;exact mkI_some (by rw[one_neg];omega) (by rw[one_neg];omega) (by omega)
theorem unit_R{v:Rat}:(-1<=v->LoR v unitI)/\(v<=1->HiR v unitI)/\FinI unitI:=by
 obtain⟨o1,o2⟩:=one_bd
 have e:((vr (opl 1):Int):Rat)=BR:=by rw[one_vr];rfl
 rw[unitI_some]
 refine⟨fun h=> .inr ?_,fun h=> .inr ?_,⟨by omega,by omega,by omega⟩⟩
 ·rw[vr_neg,Rat.intCast_neg,e]
  have:=Rat.mul_le_mul_of_nonneg_right h (Rat.le_of_lt br_pos)
  grind
 ·rw[e]
  have:=Rat.mul_le_mul_of_nonneg_right h (Rat.le_of_lt br_pos)
  grind
theorem bt_wide{x y:Int}(h1: -2147483648*SC<=x)(h2:x<=2147483648*SC):btL x y=(wide x y).1/\btH x y=(wide x y).2:=by
 have hs:serI (rI x)=si (rI x) 40:=by
  obtain⟨a,b⟩:=rI_bd h1 h2;exact if_neg (by unfold SC at *;omega)
 unfold btL btH wide
 rw[hs]
 by_cases c:qI x%2=0
 ·rw[if_pos c,if_pos c,if_pos c];exact⟨rfl,rfl⟩
 ·rw[if_neg c,if_neg c,if_neg c];exact⟨rfl,rfl⟩
theorem wide_far{x y:Int}(h1: -2147483648*SC<=x)(h2:x<=2147483648*SC)(h3:x<=y)(h4:y-x<=2000000):(wide x y).2-(wide x y).1<=8796093022664/\(wide x y).1<=(wide x y).2:=by
 obtain⟨c,d⟩:=tI_bd h1 h2 h3 h4
 unfold wide
 by_cases c:qI x%2=0
 ·rw[if_pos c];simp only[]
  omega
 ·rw[if_neg c];simp only[]
  omega
theorem su_bd{x:Int}{z:Rat}(a: -(17/10)<=ang x z/\ang x z<=17/10): -(1+1/2^240)<=sinU x z/\sinU x z<=1+1/2^240:=by
 obtain⟨s1,s2⟩:=sin_bd (x:=ang x z) (by grind) (by grind);generalize (1/2^240:Rat)=t at *;rw[sinU_ang]
 by_cases c:qI x%2=0
 ·rw[if_pos c];exact⟨s1,s2⟩
 ·rw[if_neg c]
  constructor <;> grind
theorem sr_eps:(1/2^240:Rat)*SR<=1:=by decide +kernel
theorem box_of{x y l h r u:Int}{Z:Sp}{z:Rat}(h1: -2147483648*SC<=x)(h2:x<=2147483648*SC)(h3:x<=y)(h4:y-x<=2000000)(z1:(x:Rat)<=z)(z2:z<=(y:Rat))
  (hl:bndI (btL x y) (-SC) SC=l) (hh:bndI (btH x y) (-SC) SC=h) (hr:Rq false l SC r) (hu:Rq true h SC u) (hz:mkI r u=Z):SB (sinU x z*SR) Z:=by
 obtain⟨w1,w2⟩:=wide_sin h1 h2 h3 h4 z1 z2;obtain⟨f1,f2⟩:=wide_far h1 h2 h3 h4;obtain⟨b1,b2⟩:=su_bd (ang_bd h1 h2 h3 h4 z1 z2);obtain⟨e1,e2⟩:=bt_wide (y:=y) h1 h2;rw[e1]at hl;rw[e2]at hh;generalize (wide x y).1=lo at *;generalize (wide x y).2=hi at *;have sp:=sr_pos;have ep:=sr_eps;have g1:=Rat.mul_le_mul_of_nonneg_right b1 (Rat.le_of_lt sp);have g2:=Rat.mul_le_mul_of_nonneg_right b2 (Rat.le_of_lt sp)
 generalize (1/2^240:Rat)=t at *;generalize sinU x z=s at *
 have c1:((1:Int):Rat)=1:=rfl
 have k1:lo<=SC-98:=by
  have a:((lo+99:Int):Rat)<=((SC+1:Int):Rat):=by
   refine Rat.le_trans w1 ?_;rw[Rat.intCast_add,c1]
   grind
  have:=Rat.intCast_le_intCast.1 a
  omega
 have k2: -SC+98<=hi:=by
  have a:((-SC-1:Int):Rat)<=((hi-99:Int):Rat):=by
   refine Rat.le_trans ?_ w2;rw[Rat.intCast_sub,Rat.intCast_neg,c1]
   grind
  have:=Rat.intCast_le_intCast.1 a
  omega
 have hl2:(l= -SC\/l=lo)/\lo<=l/\ -SC<=l:=by
  unfold bndI at hl
  split at hl
  ·omega
  ·split at hl <;> omega
 have hh2:(h=SC\/h=hi)/\h<=hi/\h<=SC:=by
  unfold bndI at hh
  split at hh
  ·omega
  ·split at hh <;> omega
 have sc:=sc_pos
 have lh:l<=h:=by omega
 have hSC:l<=SC/\ -SC<=h:=by omega
 obtain⟨o1,o2⟩:=one_bd;have u1:=rq_unit hr hl2.2.2 hSC.1;have u2:=rq_unit hu hSC.2 hh2.2.2;refine⟨l,h,r,u,?_,hr,hu,hl2.2.2,lh,hh2.2.2,?_,?_,?_,?_⟩
 ·rw[<-hz];exact mkI_some (rq_pair hr hu lh) (by omega) (by omega)
 ·rcases hl2.1 with e | e
  ·exact .inl e
  ·exact .inr (by rw[e];exact w1)
 ·rcases hh2.1 with e | e
  ·exact .inl e
  ·exact .inr (by rw[e];exact w2)
 ·exact Rat.le_trans w2 (Rat.intCast_le_intCast.2 (by omega))
 ·exact Rat.le_trans (Rat.intCast_le_intCast.2 (by omega)) w1
def zp (x:Int):Rat:=((vr x:Int):Rat)*SR/BR
theorem zp_at (x:Int):zp x*BR=((vr x:Int):Rat)*SR:=Rat.div_mul_cancel (Rat.ne_of_gt br_pos)
theorem zp_in{x:Int}(h:fixB x=true):((fixI x:Int):Rat)<=zp x/\zp x<=((fixI x+1:Int):Rat):=by
 obtain⟨a,b⟩:=fix_holds h
 have a':=Rat.intCast_le_intCast.2 a
 have b':=Rat.intCast_lt_intCast.2 b
 rw[Rat.intCast_mul,Rat.intCast_mul]at a' b';have e:=zp_at x;have hp:=br_pos
 have e2:((2^KK:Int):Rat)=BR:=rfl
 rw[e2]at a' b'
 constructor
 ·refine Rat.le_of_mul_le_mul_right (c:=BR) ?_ hp;rw[e];exact a'
 ·refine Rat.le_of_mul_le_mul_right (c:=BR) ?_ hp;rw[e];exact Rat.le_of_lt b'
def zq (cos:Bool)(x:Int):Rat:=if cos then zp x+qt*SR else zp x
def su (cos:Bool)(x:Int):Rat:=sinU (ofX cos (fixI x)) (zq cos x)
theorem fix_bd{x:Int}(h:fixB x=true): -1073741825*SC<=fixI x/\fixI x<=1073741824*SC:=by
 obtain⟨a,b⟩:=fix_holds h;have hb:=of_decide_eq_true h;have v1:=vr_lt hb.2;have v2:=vr_lt hb.1;rw[vr_neg,opl_vr (by decide) (by decide)]at v2;rw[opl_vr (by decide) (by decide)]at v1;have hp:=p2pos KK;have d1:=Int.mul_lt_mul_of_pos_right v1 sc_pos;have d2:=Int.mul_lt_mul_of_pos_right v2 sc_pos
 constructor
 ·refine Int.le_of_lt_add_one (Int.lt_of_mul_lt_mul_right (a:=2^KK) ?_ (Int.le_of_lt hp))
  have e: -1073741825*SC*2^KK<= -(1073741824*2^KK)*SC:=by
   have:=Int.mul_nonneg (Int.le_of_lt sc_pos) (Int.le_of_lt hp)
   have e1: -1073741825*SC*2^KK= -1073741825*(SC*2^KK):=Int.mul_assoc _ _ _
   have e2: -(1073741824*2^KK)*SC= -(1073741824*(SC*2^KK)):=by rw[Int.neg_mul,Int.mul_assoc,Int.mul_comm (2^KK) SC]
   rw[e1,e2];generalize SC*2^KK=P at *
   omega
  omega
 ·refine Int.le_of_mul_le_mul_right (a:=2^KK) ?_ hp
  have e:1073741824*SC*2^KK=1073741824*2^KK*SC:=by rw[Int.mul_assoc,Int.mul_comm SC,<-Int.mul_assoc]
  omega
theorem of_bd{cos:Bool}{x:Int}(h:fixB x=true): -2147483648*SC<=ofX cos (fixI x)/\ofX cos (fixI x)<=2147483648*SC/\ofX cos (fixI x)<=ofY cos (fixI x)/\ofY cos (fixI x)-ofX cos (fixI x)<=2000000:=by
 obtain⟨a,b⟩:=fix_bd h;generalize fixI x=g at *
 unfold ofX ofY
 cases cos
 ·simp only[Bool.false_eq_true,if_false]
  unfold SC at *
  omega
 ·simp only[if_true]
  unfold SC PLo PHi at *
  omega
theorem zq_in{cos:Bool}{x:Int}(h:fixB x=true):((ofX cos (fixI x):Int):Rat)<=zq cos x/\zq cos x<=((ofY cos (fixI x):Int):Rat):=by
 obtain⟨a,b⟩:=zp_in h
 unfold ofX ofY zq
 cases cos
 ·simp only[Bool.false_eq_true,if_false];exact⟨a,b⟩
 ·simp only[if_true];obtain⟨p1,p2⟩:=half_turn
  have c2:((2:Int):Rat)=2:=rfl
  have q1:((PLo/2:Int):Rat)<=qt*SR:=by
   have f:=(fl_bd PLo 2 (by decide)).1;rw[c2]at f
   grind
  have q2:qt*SR<=(((PHi+1) /2:Int):Rat):=by
   have f:=Rat.intCast_le_intCast.2 (show PHi<=(PHi+1) /2*2 by decide)
   rw[Rat.intCast_mul,c2]at f
   grind
  constructor
  ·rw[Rat.intCast_add];exact radd a q1
  ·rw[Rat.intCast_add];exact radd b q2
theorem sv_box{cos:Bool}{x:Int}{Z:Sp}(hf:fixB x=true)(h:Sv cos x Z):SB (su cos x*SR) Z/\ -(17/10)<=ang (ofX cos (fixI x)) (zq cos x)/\ang (ofX cos (fixI x)) (zq cos x)<=17/10:=by
 obtain⟨b1,b2,b3,b4⟩:=of_bd (cos:=cos) hf;obtain⟨z1,z2⟩:=zq_in (cos:=cos) hf
 rcases h with⟨c,_⟩ | ⟨_,r,u,hr,hu,hz⟩
 ·rw[hf]at c
  cases c
 ·exact⟨box_of b1 b2 b3 b4 z1 z2 rfl rfl hr hu hz,ang_bd b1 b2 b3 b4 z1 z2⟩
def HalfS (Z:Sp):Prop:=∃r u,Rq false (PLo/2) SC r/\Rq true (PHi/2+1) SC u/\Z=mkI r u
def PartS (v:Int)(Z:Sp):Prop:=∃r u,Rq false (pL v) SC r/\Rq true (pH v) SC u/\Z=mkI r u
def AtP (q:Bool->Int->Int->Int)(n:Int)(Z:Sp):Prop:=
 (n=19342822337206103650074625/\HalfS Z)\/(n≠19342822337206103650074625/\n<=opl 1/\PartS (fixI n) Z)\/
 (n≠19342822337206103650074625/\¬n<=opl 1/\∃H l h,HalfS H/\PartS (fixI (q false (opl 1) n)) l/\PartS (fixI (q true (opl 1) n)) h/\Z=subI H (hullI l h))
def AtV (q:Bool->Int->Int->Int)(n:Int)(Z:Sp):Prop:=(n < 0/\∃Y,AtP q (-n) Y/\Z=negI Y)\/(¬n < 0/\AtP q n Z)
theorem two_bd:0 < opl 2/\opl 2 < 19342822337206103650074625:=opl_pos (by decide) (by decide)
theorem rq_two{up:Bool}{l r:Int}(h:Rq up l SC r)(h1: -(2*SC)<=l)(h2:l<=2*SC): -opl 2<=r/\r<=opl 2:=by
 obtain⟨o1,o2⟩:=two_bd;have hp:=p2pos KK
 have e:vr (opl 2)=2*2^KK:=opl_vr (by decide) (by decide)
 constructor
 ·refine place_le h (by omega) (by omega) ?_
  rw[vr_neg,e,show -(2*2^KK)*SC= -(2*SC)*2^KK by rw[Int.neg_mul,Int.neg_mul,Int.mul_assoc,Int.mul_assoc,Int.mul_comm (2^KK)]]
  exact Int.mul_le_mul_of_nonneg_right h1 (by omega)
 ·refine le_place h (by omega) (by omega) ?_
  rw[e,show 2*2^KK*SC=2*SC*2^KK by rw[Int.mul_assoc,Int.mul_assoc,Int.mul_comm (2^KK)]]
  exact Int.mul_le_mul_of_nonneg_right h2 (by omega)
theorem from_to{l h r u:Int}{Z:Sp}(hr:Rq false l SC r)(hu:Rq true h SC u)(hz:Z=mkI r u)(le:l<=h)(h1: -(2*SC)<=l)(h2:h<=2*SC):Z=some (r,u)/\FinI Z/\(∀x:Rat,(l:Rat)<=x*SR->LoR x Z)/\(∀x:Rat,x*SR<=(h:Rat)->HiR x Z):=by
 obtain⟨o1,o2⟩:=two_bd;have a:=rq_two hr h1 (by omega);have b:=rq_two hu (by omega) h2;have c:=rq_pair hr hu le
 have e:Z=some (r,u):=hz.trans (mkI_some c (by omega) (by omega))
 rw[e]
 exact⟨rfl,⟨c,by omega,by omega⟩,fun x hx=>rq_lo hr hx,fun x hx=>rq_hi hu hx⟩
theorem half_units:((PLo/2:Int):Rat)<=qt*SR/\qt*SR<=((PHi/2+1:Int):Rat):=by decide +kernel
theorem HalfS.is{Z:Sp}(h:HalfS Z):FinI Z/\(∀x:Rat,qt<=x->LoR x Z)/\(∀x:Rat,x<=qt->HiR x Z):=by
 obtain⟨r,u,hr,hu,hz⟩:=h;obtain⟨_,f,a,b⟩:=from_to hr hu hz (by decide) (by decide) (by decide);obtain⟨k1,k2⟩:=half_units
 refine⟨f,fun x hx=>a x (Rat.le_trans k1 (Rat.mul_le_mul_of_nonneg_right hx (Rat.le_of_lt sr_pos))),fun x hx=>b x (Rat.le_trans (Rat.mul_le_mul_of_nonneg_right hx (Rat.le_of_lt sr_pos)) k2)⟩
theorem ang_far{v:Int}(h0:0<=v)(h1:v<=SC):pAng v*SR-1500<=((pL v:Int):Rat)/\((pH v:Int):Rat)<=pAng v*SR+1500:=by
 obtain⟨f1,f2⟩:=frac_bd h0 h1;obtain⟨s1,s2⟩:=at_ser (frac_at (pU v)) f1 f2;obtain⟨p1,p2⟩:=half_turn
 have ab:(if SC < v*2 then qt/2 else 0)*SR-400<=((pA v:Int):Rat)/\((pB v:Int):Rat)<=(if SC < v*2 then qt/2 else 0)*SR+400:=by
  unfold pA pB
  by_cases c:SC < v*2
  ·rw[if_pos c,if_pos c,if_pos c]
   have k1:=Rat.intCast_le_intCast.2 (show PHi<=(PLo/4+400)*4 by decide)
   have k2:=Rat.intCast_le_intCast.2 (show (PHi/4+1-400)*4<=PLo by decide)
   rw[Rat.intCast_mul,Rat.intCast_add,show ((4:Int):Rat)=4 from rfl,show ((400:Int):Rat)=400 from rfl]at k1
   rw[Rat.intCast_mul,Rat.intCast_sub,show ((4:Int):Rat)=4 from rfl,show ((400:Int):Rat)=400 from rfl]at k2
   constructor <;> grind
  ·rw[if_neg c,if_neg c,if_neg c,Rat.intCast_zero]
   constructor <;> grind
 unfold pL pH pAng
 have e1:((pA v+aS (pU v) 111+ -400:Int):Rat)=((pA v:Int):Rat)+((aS (pU v) 111:Int):Rat)-400:=by
  rw[show pA v+aS (pU v) 111+ -400=pA v+aS (pU v) 111-400 by omega,Rat.intCast_sub,Rat.intCast_add]
  rfl
 have e2:((pB v+aS (pU v) 111+400:Int):Rat)=((pB v:Int):Rat)+((aS (pU v) 111:Int):Rat)+400:=by
  rw[Rat.intCast_add,Rat.intCast_add]
  rfl
 rw[e1,e2];generalize (if SC < v*2 then qt/2 else 0)=k at *;generalize atT ((pU v:Rat) /SR)=t at *
 constructor <;> grind
theorem ang_one:pAng SC=qt/2:=by
 have u:pU SC=0:=by decide
 unfold pAng
 rw[if_pos (by decide),u,Rat.intCast_zero,show (0:Rat) /SR=0 by grind,at_zero]
 grind
theorem PartS.is{v:Int}{Z:Sp}(h:PartS v Z)(h0:0<=v)(h1:v<=SC):FinI Z/\(∀x:Rat,pAng v*SR<=x*SR+214->LoR x Z)/\(∀x:Rat,x*SR<=pAng v*SR+214->HiR x Z):=by
 obtain⟨r,u,hr,hu,hz⟩:=h;obtain⟨w1,w2⟩:=ang_within h0 h1;obtain⟨f1,f2⟩:=ang_far h0 h1;obtain⟨b1,b2⟩:=ang_bd13 h0 h1;have sp:=sr_pos;have n1:=Rat.mul_le_mul_of_nonneg_right b1 (Rat.le_of_lt sp);have n2:=Rat.mul_le_mul_of_nonneg_right b2 (Rat.le_of_lt sp)
 rw[Rat.intCast_add,show ((214:Int):Rat)=214 from rfl]at w1
 rw[Rat.intCast_sub,show ((214:Int):Rat)=214 from rfl]at w2
 have big:(3000:Rat)<=SR:=by decide +kernel
 have le:pL v<=pH v:=Rat.intCast_le_intCast.1 (by grind)
 have lo: -(2*SC)<=pL v:=Rat.intCast_le_intCast.1 (by
  rw[Rat.intCast_neg,Rat.intCast_mul,show ((2:Int):Rat)=2 from rfl]
  grind)
 have hi:pH v<=2*SC:=Rat.intCast_le_intCast.1 (by
  rw[Rat.intCast_mul,show ((2:Int):Rat)=2 from rfl]
  grind)
 obtain⟨_,f,a,b⟩:=from_to hr hu hz le lo hi
 exact⟨f,fun x hx=>a x (by grind),fun x hx=>b x (by grind)⟩
theorem sub_R{v w:Rat}{x y:Sp}(hx:FinI x)(hy:FinI y):(LoR v x->HiR w y->LoR (v-w) (subI x y))/\(HiR v x->LoR w y->HiR (v-w) (subI x y))/\SpOk (subI x y):=by
 obtain⟨n1,n2,n3⟩:=neg_R (v:=w) hy;obtain⟨a1,a2,a3⟩:=add_R (v:=v) (w:= -w) hx n3
 rw[show v-w=v+ -w by grind]
 exact⟨fun h k=>a1 h (n2 k),fun h k=>a2 h (n1 k),a3⟩
theorem hull_fin{x y:Sp}(hx:FinI x)(hy:FinI y):FinI (hullI x y):=by
 rcases x with _ | ⟨a,b⟩
 ·exact hx.elim
 rcases y with _ | ⟨c,d⟩
 ·exact hy.elim
 have o1:=hx.ok;have o2:=hy.ok;obtain⟨h1,h2,h3⟩:=hx;obtain⟨k1,k2,k3⟩:=hy;rw[hullI_some o1 o2];exact⟨by omega,by omega,by omega⟩
theorem fin_some{x:Sp}(h:FinI x):x≠none:=by
 rcases x with _ | ⟨a,b⟩
 ·exact h.elim
 ·exact Option.some_ne_none _
theorem fix_unit{n:Int}(h0:0<=n)(h1:n<=opl 1):fixB n=true/\0<=fixI n/\fixI n<=SC:=by
 have t:=t30
 have o:opl 1 < opl 1073741824:=by decide
 have f:fixB n=true:=dt ⟨by omega,by omega⟩
 obtain⟨a,b⟩:=fix_holds f;have hp:=p2pos KK;have v0:=vr_le h0;have v1:=vr_le h1;rw[one_vr]at v1
 rw[show vr 0=0 from rfl]at v0
 refine⟨f,?_,?_⟩
 ·rw[fixI_yes f];exact Int.ediv_nonneg (Int.mul_nonneg v0 (Int.le_of_lt sc_pos)) (Int.le_of_lt hp)
 ·refine Int.le_of_mul_le_mul_right (a:=2^KK) ?_ hp
  have:=Int.mul_le_mul_of_nonneg_right v1 (Int.le_of_lt sc_pos)
  rw[Int.mul_comm (2^KK) SC]at this
  omega
theorem fix_up{x y:Int}(fx:fixB x=true)(fy:fixB y=true)(h:x<=y):fixI x<=fixI y:=by
 rw[fixI_yes fx,fixI_yes fy];exact Int.ediv_le_ediv (p2pos KK) (Int.mul_le_mul_of_nonneg_right (vr_le h) (Int.le_of_lt sc_pos))
theorem one_in:In (opl 1):=by
 obtain⟨a,b⟩:=one_bd;exact⟨by omega,by omega⟩
theorem inv_bd{q:Bool->Int->Int->Int}(hq:QF q){n:Int}(h1:¬n<=opl 1)(h2:n < 19342822337206103650074625):0<=q false (opl 1) n/\q false (opl 1) n<=q true (opl 1) n/\q true (opl 1) n<=opl 1:=by
 obtain⟨a,b⟩:=one_bd;refine⟨qt_nn one_in (by omega) (by omega) (by omega) (hq false (opl 1) n),q_side hq _ _ (by omega),?_⟩;exact qt_y one_in (by omega) a (by omega) (by omega) (qt_self (x:=opl 1) (by omega) (by omega) b) (hq true (opl 1) n)
theorem sub_is{H l h Z:Sp}{v1 v2:Int}(hH:HalfS H)(hl:PartS v1 l)(hh:PartS v2 h)(a0:0<=v1)(a1:v1<=v2)(a2:v2<=SC)(hz:Z=subI H (hullI l h)):
  SpOk Z/\(∀x:Rat,(qt-x)*SR<=pAng v2*SR+214->LoR x Z)/\(∀x:Rat,pAng v1*SR<=(qt-x)*SR+214->HiR x Z):=by
 obtain⟨fH,H1,H2⟩:=hH.is;obtain⟨fl,l1,l2⟩:=hl.is a0 (by omega);obtain⟨fh,h1,h2⟩:=hh.is (by omega) a2;have fu:=hull_fin fl fh;subst hz
 refine⟨(sub_R (v:=0) (w:=0) fH fu).2.2,fun x hx=>?_,fun x hx=>?_⟩
 ·have k:=(sub_R (v:=qt) (w:=qt-x) fH fu).1 (H1 _ (by grind)) (hull_hi fl.ok fh.ok (fin_some fl) (fin_some fh) (.inr (h2 _ hx)))
  rw[show qt-(qt-x)=x by grind]at k
  exact k
 ·have k:=(sub_R (v:=qt) (w:=qt-x) fH fu).2.1 (H2 _ (by grind)) (hull_lo fl.ok fh.ok (fin_some fl) (fin_some fh) (.inl (l1 _ hx)))
  rw[show qt-(qt-x)=x by grind]at k
  exact k
theorem u214:(214/SR:Rat)*SR=214:=Rat.div_mul_cancel (Rat.ne_of_gt sr_pos)
theorem big_sr:(10000:Rat)<=SR:=by decide +kernel
theorem AtP.ok{q:Bool->Int->Int->Int}(hq:QF q){n:Int}{Z:Sp}(h:AtP q n Z)(h0:0<=n)(h1:n<=19342822337206103650074625):SpOk Z/\HiR 0 Z:=by
 obtain⟨q1,q2⟩:=qt_bd;have sp:=sr_pos;have bs:=big_sr
 rcases h with⟨_,h⟩ | ⟨_,c,h⟩ | ⟨e,c,H,l,k,hH,hl,hk,hz⟩
 ·exact⟨h.is.1.ok,h.is.2.2 0 (by grind)⟩
 ·obtain⟨_,a,b⟩:=fix_unit h0 c;obtain⟨f,f1,f2⟩:=h.is a b;refine⟨f.ok,f2 0 ?_⟩
  have:=Rat.mul_le_mul_of_nonneg_right (ang_bd13 a b).1 (Rat.le_of_lt sp)
  grind
 ·obtain⟨b1,b2,b3⟩:=inv_bd hq c (by omega);obtain⟨f1,a1,a2⟩:=fix_unit b1 (by omega)
  obtain⟨f2,a3,a4⟩:=fix_unit (show 0<=q true (opl 1) n by omega) b3
  obtain⟨s1,s2,s3⟩:=sub_is hH hl hk a1 (fix_up f1 f2 b2) a4 hz;refine⟨s1,s3 0 ?_⟩;have m:=ang_mono a1 a2 (Int.le_refl SC);rw[ang_one]at m
  have:=Rat.mul_le_mul_of_nonneg_right q1 (Rat.le_of_lt sp)
  grind
theorem AtP.grow{q:Bool->Int->Int->Int}(hq:QF q){a b:Int}{Za Zb:Sp}(ha:AtP q a Za)(hb:AtP q b Zb)(h0:0<=a)(h:a<=b)(h1:b<=19342822337206103650074625):∃x,LoR x Za/\HiR x Zb:=by
 obtain⟨q1,q2⟩:=qt_bd;have sp:=sr_pos;have bs:=big_sr;have u:=u214;have qs:=Rat.mul_le_mul_of_nonneg_right q1 (Rat.le_of_lt sp)
 rcases ha with⟨e,ha⟩ | ⟨_,ca,ha⟩ | ⟨ea,ca,H,l,k,hH,hl,hk,hz⟩
 ·rcases hb with⟨_,hb⟩ | ⟨k,_⟩ | ⟨k,_⟩
  ·exact⟨qt,ha.is.2.1 qt (by grind),hb.is.2.2 qt (by grind)⟩
  ·omega
  ·omega
 ·obtain⟨fa,a0,a1⟩:=fix_unit h0 ca;obtain⟨_,f1,f2⟩:=ha.is a0 a1;have ma:=ang_mono a0 a1 (Int.le_refl SC);rw[ang_one]at ma;refine⟨pAng (fixI a)-214/SR,f1 _ (by grind),?_⟩
  rcases hb with⟨_,hb⟩ | ⟨_,cb,hb⟩ | ⟨eb,cb,H,l,k,hH,hl,hk,hz⟩
  ·refine hb.is.2.2 _ (Rat.le_of_mul_le_mul_right (c:=SR) ?_ sp)
   grind
  ·obtain⟨fb,b0,b1⟩:=fix_unit (by omega:0<=b) cb;obtain⟨_,g1,g2⟩:=hb.is b0 b1;have m:=ang_mono a0 (fix_up fa fb h) b1;exact g2 _ (by grind)
  ·obtain⟨b1,b2,b3⟩:=inv_bd hq cb (by omega);obtain⟨g1,c1,c2⟩:=fix_unit b1 (by omega)
   obtain⟨g2,c3,c4⟩:=fix_unit (show 0<=q true (opl 1) b by omega) b3
   obtain⟨s1,s2,s3⟩:=sub_is hH hl hk c1 (fix_up g1 g2 b2) c4 hz;have m:=ang_mono c1 c2 (Int.le_refl SC);rw[ang_one]at m;exact s3 _ (by grind)
 ·obtain⟨b1,b2,b3⟩:=inv_bd hq ca (by omega);obtain⟨g1,c1,c2⟩:=fix_unit b1 (by omega)
  obtain⟨g2,c3,c4⟩:=fix_unit (show 0<=q true (opl 1) a by omega) b3
  obtain⟨s1,s2,s3⟩:=sub_is hH hl hk c1 (fix_up g1 g2 b2) c4 hz
  rcases hb with⟨_,hb⟩ | ⟨_,cb,hb⟩ | ⟨eb,cb,H',l',k',hH',hl',hk',hz'⟩
  ·refine⟨qt,s2 qt ?_,hb.is.2.2 qt (by grind)⟩
   have:=Rat.mul_le_mul_of_nonneg_right (ang_bd13 c3 c4).1 (Rat.le_of_lt sp)
   grind
  ·omega
  ·obtain⟨d1,d2,d3⟩:=inv_bd hq cb (by omega);obtain⟨k1,e1,e2⟩:=fix_unit d1 (by omega)
   obtain⟨k2,e3,e4⟩:=fix_unit (show 0<=q true (opl 1) b by omega) d3
   obtain⟨t1,t2,t3⟩:=sub_is hH' hl' hk' e1 (fix_up k1 k2 d2) e4 hz';obtain⟨o1,o2⟩:=one_bd;have far:=far_pp hq true (n:=opl 1) (p:=opl 1) (e:=b) (r:=a) o1 (Int.le_refl _) (by omega) h one_in ⟨by omega,by omega⟩
   have m:=ang_mono e1 (fix_up k1 g2 far) c4;refine⟨qt-(pAng (fixI (q false (opl 1) b))-214/SR),s2 _ (by grind),t3 _ (by grind)⟩
theorem AtV.grow{q:Bool->Int->Int->Int}(hq:QF q){a b:Int}{Za Zb:Sp}(ha:AtV q a Za)(hb:AtV q b Zb)(h0: -19342822337206103650074625<=a)(h:a<=b)(h1:b<=19342822337206103650074625):SpOk Za/\SpOk Zb/\∃x,LoR x Za/\HiR x Zb:=by
 have ng:∀{Y:Sp} (h:SpOk Y) (v:Rat),(HiR v Y->LoR (-v) (negI Y))/\(LoR v Y->HiR (-v) (negI Y)):=fun {Y} hY v=>by
  rcases Y with _ | ⟨c,d⟩
  ·exact⟨fun h=>h.elim,fun h=>h.elim⟩
  rw[negI_some hY];obtain⟨A1,A2,A3,A4,A5⟩:=hY
  constructor
  ·intro k
   rcases k with k | k
   ·exact .inl (by omega)
   ·right
    rw[vr_neg,Rat.intCast_neg,Rat.neg_mul];exact Rat.neg_le_neg k
  ·intro k
   rcases k with k | k
   ·exact .inl (by omega)
   ·right
    rw[vr_neg,Rat.intCast_neg,Rat.neg_mul];exact Rat.neg_le_neg k
 rcases ha with⟨na,Ya,ha,rfl⟩ | ⟨na,ha⟩
 ·have oa:=ha.ok hq (by omega) (by omega)
  rcases hb with⟨nb,Yb,hb,rfl⟩ | ⟨nb,hb⟩
  ·have ob:=hb.ok hq (by omega) (by omega);obtain⟨x,x1,x2⟩:=AtP.grow hq hb ha (by omega) (by omega) (by omega);exact⟨negI_ok oa.1,negI_ok ob.1,-x,(ng oa.1 x).1 x2,(ng ob.1 x).2 x1⟩
  ·have ob:=hb.ok hq (by omega) (by omega);refine⟨negI_ok oa.1,ob.1,0,?_,ob.2⟩;have k:=(ng oa.1 0).1 oa.2
   rw[show (-0:Rat)=0 from by decide]at k
   exact k
 ·rcases hb with⟨nb,_⟩ | ⟨nb,hb⟩
  ·omega
  ·have oa:=ha.ok hq (by omega) (by omega);have ob:=hb.ok hq (by omega) (by omega);exact⟨oa.1,ob.1,AtP.grow hq ha hb (by omega) h h1⟩
def cut1 (s:Rat):Rat:=if s < -1 then -1 else if 1 < s then 1 else s
theorem cut_bd (s:Rat): -1<=cut1 s/\cut1 s<=1:=by
 unfold cut1
 split
 ·constructor <;> grind
 ·split <;> constructor <;> grind
theorem cut_near{s t:Rat}(h1: -(1+t)<=s)(h2:s<=1+t)(ht:0<=t):s-cut1 s<=t/\cut1 s-s<=t:=by
 unfold cut1
 split
 ·constructor <;> grind
 ·split <;> constructor <;> grind
theorem vr_shifts{r:Int}(h:0 < r):∀k:Nat,vr (r+k*9223372036854775808)=vr r*2^k
 | 0=>by rw[show r+((0:Nat):Int)*9223372036854775808=r by omega,Int.pow_zero,Int.mul_one]
 | k+1=>by
  rw[show r+((k+1:Nat):Int)*9223372036854775808=(r+k*9223372036854775808)+9223372036854775808 by omega,vr_shift (by omega),vr_shifts h k,Int.pow_succ,Int.mul_assoc]
def p60:Int:=9670272082156500260225025
theorem p60_vr:vr p60*2^60=2^KK:=by
 have h:=vr_shifts (r:=p60) (by decide) 60
 have e:p60+((60:Nat):Int)*9223372036854775808=opl 1:=by decide
 rw[e,opl_vr (by decide) (by decide),Int.one_mul]at h;exact h.symm
end Go.Proofs.YtomikokonmikgaaGreatDoor
namespace Go.Proofs.YtomikokonmikgaaGreatDoor
open Go.RowKit
set_option linter.unusedVariables false
set_option linter.unusedSimpArgs false
set_option maxRecDepth 100000
def ptI (i:Int):Sp:=if i%2=0 then mkI (opl 1) (opl 1)else mkI (opl (-1)) (opl (-1))
def stepV (cos:Bool)(x y:Int)(z:Sp)(i:Int):Sp:=if meetsB (if cos then 2*i else 2*i+1) x y then hullI z (ptI i)else z
def loopV (cos:Bool)(x y j:Int)(z:Sp):Nat->Sp
 | 0=>z
 | k+1=>stepV cos x y (loopV cos x y j z k) (j-4+k)
end Go.Proofs.YtomikokonmikgaaGreatDoor
namespace Go.Proofs.YtomikokonmikgaaGreatDoor
open Go Go.RowKit
set_option linter.unusedVariables false
def UnitS (z:Sp):Prop:=∃r u,z=some (r,u)/\ -opl 1<=r/\r<=u/\u<=opl 1
theorem UnitS.fin{z:Sp}(h:UnitS z):FinI z:=by
 obtain⟨o1,o2⟩:=one_bd;obtain⟨r,u,rfl,a,b,c⟩:=h;exact⟨b,by omega,by omega⟩
theorem unit_unit:UnitS unitI:=by
 obtain⟨o1,o2⟩:=one_bd;exact⟨_,_,unitI_some,Int.le_refl _,by omega,Int.le_refl _⟩
def MT (cos:Bool)(x y i:Int):Prop:=meetsB (if cos then 2*i else 2*i+1) x y=true
theorem pt_even{i:Int}(h:i%2=0):ptI i=some (opl 1,opl 1):=by
 obtain⟨o1,o2⟩:=one_bd
 unfold ptI
 rw[if_pos h];exact mkI_some (Int.le_refl _) (by omega) (by omega)
theorem pt_odd{i:Int}(h:¬i%2=0):ptI i=some (-opl 1,-opl 1):=by
 obtain⟨o1,o2⟩:=one_bd
 unfold ptI
 rw[if_neg h,one_neg];exact mkI_some (Int.le_refl _) (by omega) (by omega)
theorem hull_unit{r u p:Int}(h1: -opl 1<=r)(h2:r<=u)(h3:u<=opl 1)(p1: -opl 1<=p)(p2:p<=opl 1):hullI (some (r,u)) (some (p,p))=some (min r p,max u p):=by
 obtain⟨o1,o2⟩:=one_bd;exact hullI_some ⟨by omega,h2,by omega,by omega,by omega⟩ ⟨by omega,Int.le_refl _,by omega,by omega,by omega⟩
theorem loop_is{cos:Bool}{x y j r u:Int}(h1: -opl 1<=r)(h2:r<=u)(h3:u<=opl 1):∀k:Nat,∃e f,loopV cos x y j (some (r,u)) k=some (e,f)/\
  ((e=r/\∀t:Nat,t < k->MT cos x y (j-4+t)->(j-4+(t:Int))%2=0)\/(e= -opl 1/\∃t:Nat,t < k/\MT cos x y (j-4+t)/\¬(j-4+(t:Int))%2=0))/\
  ((f=u/\∀t:Nat,t < k->MT cos x y (j-4+t)->¬(j-4+(t:Int))%2=0)\/(f=opl 1/\∃t:Nat,t < k/\MT cos x y (j-4+t)/\(j-4+(t:Int))%2=0))
 | 0=>⟨r,u,rfl,.inl ⟨rfl,fun t ht=>absurd ht (Nat.not_lt_zero _)⟩,.inl ⟨rfl,fun t ht=>absurd ht (Nat.not_lt_zero _)⟩⟩
 | k+1=>by
  obtain⟨o1,o2⟩:=one_bd;obtain⟨e,f,eq,he,hf⟩:=loop_is (cos:=cos) (x:=x) (y:=y) (j:=j) h1 h2 h3 k
  have be: -opl 1<=e/\e<=f/\f<=opl 1:=by
   rcases he with⟨a,_⟩ | ⟨a,_⟩ <;> rcases hf with⟨b,_⟩ | ⟨b,_⟩ <;> omega
  show ∃e f,stepV cos x y (loopV cos x y j (some (r,u)) k) (j-4+k)=some (e,f)/\_
  rw[eq]
  unfold stepV
  have less:∀t:Nat,t < k+1->t < k\/t=k:=fun t ht=>by omega
  by_cases hm:MT cos x y (j-4+k)
  ·have hm':meetsB (if cos=true then 2*(j-4+(k:Int))else 2*(j-4+(k:Int))+1) x y=true:=hm
   rw[if_pos hm']
   by_cases hp:(j-4+(k:Int))%2=0
   ·rw[pt_even hp,hull_unit be.1 be.2.1 be.2.2 (by omega) (by omega)];refine⟨e,opl 1,by rw[Int.min_eq_left (by omega),Int.max_eq_right (by omega)],?_,.inr ⟨rfl,k,by omega,hm,hp⟩⟩
    rcases he with⟨a,b⟩ | ⟨a,t,b1,b2,b3⟩
    ·refine .inl ⟨a,fun t ht mt=>?_⟩
     rcases less t ht with c | rfl
     ·exact b t c mt
     ·exact hp
    ·exact .inr ⟨a,t,by omega,b2,b3⟩
   ·rw[pt_odd hp,hull_unit be.1 be.2.1 be.2.2 (by omega) (by omega)];refine⟨-opl 1,f,by rw[Int.min_eq_right (by omega),Int.max_eq_left (by omega)],.inr ⟨rfl,k,by omega,hm,hp⟩,?_⟩
    rcases hf with⟨a,b⟩ | ⟨a,t,b1,b2,b3⟩
    ·refine .inl ⟨a,fun t ht mt=>?_⟩
     rcases less t ht with c | rfl
     ·exact b t c mt
     ·exact hp
    ·exact .inr ⟨a,t,by omega,b2,b3⟩
  ·have hm':¬meetsB (if cos=true then 2*(j-4+(k:Int))else 2*(j-4+(k:Int))+1) x y=true:=hm
   rw[if_neg hm'];refine⟨e,f,rfl,?_,?_⟩
   ·rcases he with⟨a,b⟩ | ⟨a,t,b1,b2,b3⟩
    ·refine .inl ⟨a,fun t ht mt=>?_⟩
     rcases less t ht with c | rfl
     ·exact b t c mt
     ·exact absurd mt hm
    ·exact .inr ⟨a,t,by omega,b2,b3⟩
   ·rcases hf with⟨a,b⟩ | ⟨a,t,b1,b2,b3⟩
    ·refine .inl ⟨a,fun t ht mt=>?_⟩
     rcases less t ht with c | rfl
     ·exact b t c mt
     ·exact absurd mt hm
    ·exact .inr ⟨a,t,by omega,b2,b3⟩
theorem met_rat{z x y:Int}(h1:(x:Rat)<=(z:Rat)*(2*qt*SR))(h2:(z:Rat)*(2*qt*SR)<=(y:Rat)):meetsB z x y=true:=by
 obtain⟨p1,p2⟩:=half_turn;generalize 2*qt*SR=w at *
 unfold meetsB
 by_cases c:z < 0
 ·have z0:(z:Rat)<=0:=Rat.intCast_le_intCast.2 (Int.le_of_lt c)
  have m1:=Rat.mul_le_mul_of_nonneg_right p1 (show 0<= -(z:Rat) by grind)
  have m2:=Rat.mul_le_mul_of_nonneg_right p2 (show 0<= -(z:Rat) by grind)
  have a:PHi*z<=y:=Rat.intCast_le_intCast.1 (by rw[Rat.intCast_mul];grind)
  have b:x<=PLo*z:=Rat.intCast_le_intCast.1 (by rw[Rat.intCast_mul];grind)
  rw[if_pos c,dt a,dt b]
  rfl
 ·have z0:(0:Rat)<=(z:Rat):=Rat.intCast_le_intCast.2 (Int.not_lt.1 c)
  have m1:=Rat.mul_le_mul_of_nonneg_right p1 z0;have m2:=Rat.mul_le_mul_of_nonneg_right p2 z0
  have a:PLo*z<=y:=Rat.intCast_le_intCast.1 (by rw[Rat.intCast_mul];grind)
  have b:x<=PHi*z:=Rat.intCast_le_intCast.1 (by rw[Rat.intCast_mul];grind)
  rw[if_neg c,dt a,dt b]
  rfl
theorem met_of{cos:Bool}{a b i:Int}(fa:fixB a=true)(fb:fixB b=true)(h1:zq cos a<=(2*(i:Rat)+1)*(qt*SR))(h2:(2*(i:Rat)+1)*(qt*SR)<=zq cos b):MT cos (fixI a*2) (fixI b*2+2) i:=by
 obtain⟨a1,_⟩:=zp_in fa;obtain⟨_,b2⟩:=zp_in fb
 have c2:((2:Int):Rat)=2:=rfl
 have k1:((fixI a*2:Int):Rat)<=zp a*2:=by
  rw[Rat.intCast_mul,c2]
  grind
 have k2:zp b*2<=((fixI b*2+2:Int):Rat):=by
  rw[show fixI b*2+2=(fixI b+1)*2 by omega,Rat.intCast_mul,c2]
  grind
 unfold MT
 unfold zq at h1 h2
 cases cos
 ·simp only[Bool.false_eq_true,if_false]at h1 h2|-
  have e:((2*i+1:Int):Rat)=2*(i:Rat)+1:=by
   rw[Rat.intCast_add,Rat.intCast_mul,c2]
   rfl
  refine met_rat (Rat.le_trans k1 ?_) (Rat.le_trans ?_ k2)
  ·rw[e]
   grind
  ·rw[e]
   grind
 ·simp only[if_true]at h1 h2|-
  have e:((2*i:Int):Rat)=2*(i:Rat):=by rw[Rat.intCast_mul,c2]
  refine met_rat (Rat.le_trans k1 ?_) (Rat.le_trans ?_ k2)
  ·rw[e]
   grind
  ·rw[e]
   grind
theorem wid_far{a b:Int}(fa:fixB a=true)(fb:fixB b=true)(hw:¬opl 7<=widI (some (a,b))):fixI b-fixI a<=7*SC:=by
 obtain⟨a1,a2⟩:=fixB_fin fa;obtain⟨b1,b2⟩:=fixB_fin fb;have s:=(addp_spec (x:=b) (y:= -a) true b1 b2 (by omega) (by omega)).2
 have w7:addp true b (-a) < opl 7:=Int.not_le.1 hw
 obtain⟨_,_,u,_⟩:=s;have o7:=opl_pos (n:=7) (by decide) (by decide)
 have u':=u (by omega)
 rw[vr_neg,vr_neg]at u';have v7:=vr_lt w7;rw[opl_vr (by decide) (by decide)]at v7;obtain⟨_,fa2⟩:=fix_holds fa;obtain⟨fb1,_⟩:=fix_holds fb;have hp:=p2pos KK
 have d:(vr b-vr a)*SC < 7*2^KK*SC:=Int.mul_lt_mul_of_pos_right (by omega) sc_pos
 rw[Int.sub_mul]at d
 have e:(fixI b-(fixI a+1))*2^KK < 7*SC*2^KK:=by
  rw[Int.sub_mul,show 7*SC*2^KK=7*2^KK*SC by rw[Int.mul_assoc,Int.mul_comm SC,<-Int.mul_assoc]]
  omega
 have:=Int.lt_of_mul_lt_mul_right e (Int.le_of_lt hp)
 omega
theorem search{cos:Bool}{a b i:Int}(fa:fixB a=true)(fb:fixB b=true)(hw:¬opl 7<=widI (some (a,b)))(hm:MT cos (fixI a*2) (fixI b*2+2) i):∃t:Nat,t < 13/\i=(fixI a*2).fdiv (PLo*2)-4+t:=by
 have w:=wid_far fa fb hw;obtain⟨ba,bb⟩:=fix_bd fa;obtain⟨j,hj⟩:∃j,(fixI a*2).fdiv (PLo*2)=j:=⟨_,rfl⟩;rw[hj];rw[Int.fdiv_eq_ediv_of_nonneg _ (by decide)]at hj
 have j1:=Int.ediv_mul_le (fixI a*2) (show (PLo*2:Int)≠0 by decide)
 have j2:=Int.lt_ediv_add_one_mul_self (fixI a*2) (show (0:Int) < PLo*2 by decide)
 rw[hj]at j1 j2;generalize fixI a=A at *;generalize fixI b=B at *;clear hj fa fb hw
 have key:j-4<=i/\i<=j+8:=by
  unfold MT meetsB at hm
  cases cos
  ·simp only[Bool.false_eq_true,if_false]at hm
   by_cases c:2*i+1 < 0
   ·rw[if_pos c]at hm;simp only[Bool.and_eq_true,decide_eq_true_eq]at hm
    unfold SC PLo PHi at *
    omega
   ·rw[if_neg c]at hm;simp only[Bool.and_eq_true,decide_eq_true_eq]at hm
    unfold SC PLo PHi at *
    omega
  ·simp only[if_true]at hm
   by_cases c:2*i < 0
   ·rw[if_pos c]at hm;simp only[Bool.and_eq_true,decide_eq_true_eq]at hm
    unfold SC PLo PHi at *
    omega
   ·rw[if_neg c]at hm;simp only[Bool.and_eq_true,decide_eq_true_eq]at hm
    unfold SC PLo PHi at *
    omega
 exact⟨(i-(j-4)).toNat,by omega,by omega⟩
theorem search_bd{a:Int}(fa:fixB a=true): -1099511627776<=(fixI a*2).fdiv (PLo*2)/\(fixI a*2).fdiv (PLo*2)<=1099511627776:=by
 obtain⟨ba,bb⟩:=fix_bd fa;obtain⟨j,hj⟩:∃j,(fixI a*2).fdiv (PLo*2)=j:=⟨_,rfl⟩;rw[hj];rw[Int.fdiv_eq_ediv_of_nonneg _ (by decide)]at hj
 have j1:=Int.ediv_mul_le (fixI a*2) (show (PLo*2:Int)≠0 by decide)
 have j2:=Int.lt_ediv_add_one_mul_self (fixI a*2) (show (0:Int) < PLo*2 by decide)
 rw[hj]at j1 j2;generalize fixI a=A at *;clear hj fa
 unfold SC PLo at *
 omega
def AllV (cos:Bool)(X Z:Sp):Prop:=match X with
 | none=>Z=none
 | some (a,b)=>((fixB a=false\/fixB b=false\/opl 7<=widI (some (a,b)))/\Z=unitI)\/
   (fixB a=true/\fixB b=true/\¬opl 7<=widI (some (a,b))/\∃za zb,Sv cos a za/\Sv cos b zb/\Z=loopV cos (fixI a*2) (fixI b*2+2) ((fixI a*2).fdiv (PLo*2)) (hullI za zb) 13)
theorem all_ex (cos:Bool)(X:Sp):∃Z,AllV cos X Z:=by
 rcases X with _ | ⟨a,b⟩
 ·exact⟨none,rfl⟩
 ·by_cases h:fixB a=true/\fixB b=true/\¬opl 7<=widI (some (a,b))
  ·obtain⟨za,ha⟩:=sv_ex cos a;obtain⟨zb,hb⟩:=sv_ex cos b;exact⟨_,.inr ⟨h.1,h.2.1,h.2.2,za,zb,ha,hb,rfl⟩⟩
  ·refine⟨unitI,.inl ⟨?_,rfl⟩⟩
   cases e:fixB a
   ·exact .inl rfl
   ·cases f:fixB b
    ·exact .inr (.inl rfl)
    ·right;right
     rcases Int.lt_or_le (widI (some (a,b))) (opl 7)with c | c
     ·exact absurd ⟨e,f,Int.not_le.2 c⟩ h
     ·exact c
theorem sv_cases{cos:Bool}{n:Int}{Z:Sp}(h:Sv cos n Z):(fixB n=false/\Z=unitI)\/(fixB n=true/\SB (su cos n*SR) Z/\ -(17/10)<=ang (ofX cos (fixI n)) (zq cos n)/\ang (ofX cos (fixI n)) (zq cos n)<=17/10):=by
 cases e:fixB n
 ·left
  rcases h with⟨_,h⟩ | ⟨c,_⟩
  ·exact⟨rfl,h.symm⟩
  ·rw[e]at c
   cases c
 ·exact .inr ⟨rfl,sv_box e h⟩
theorem SB.us{σ:Rat}{Z:Sp}(h:SB σ Z):UnitS Z:=h.unit
theorem sr_99:(72/2^192:Rat)*SR=72/\(27/2^192:Rat)*SR=27/\(1/2^240:Rat)<=27/2^192:=by decide +kernel
theorem SB.lo_of{s a v:Rat}{Z:Sp}(h:SB (a*SR) Z)(v1: -1<=v)(d:s<=v+27/2^192)(e:a<=s+72/2^192):LoR v Z:=by
 obtain⟨e1,e2,e3⟩:=sr_99;refine h.lo v1 ?_
 have g:=Rat.mul_le_mul_of_nonneg_right (show a<=v+(27/2^192+72/2^192) by grind) (Rat.le_of_lt sr_pos)
 generalize (72/2^192:Rat)=q at *;generalize (27/2^192:Rat)=r at *
 grind
theorem SB.hi_of{s a v:Rat}{Z:Sp}(h:SB (a*SR) Z)(v1:v<=1)(d:v<=s+27/2^192)(e:s<=a+72/2^192):HiR v Z:=by
 obtain⟨e1,e2,e3⟩:=sr_99;refine h.hi v1 ?_
 have g:=Rat.mul_le_mul_of_nonneg_right (show v<=a+(27/2^192+72/2^192) by grind) (Rat.le_of_lt sr_pos)
 generalize (72/2^192:Rat)=q at *;generalize (27/2^192:Rat)=r at *
 grind
theorem hull_us{x y:Sp}(hx:UnitS x)(hy:UnitS y):UnitS (hullI x y):=by
 obtain⟨o1,o2⟩:=one_bd;obtain⟨r,u,rfl,a1,a2,a3⟩:=hx;obtain⟨p,q,rfl,b1,b2,b3⟩:=hy;refine⟨min r p,max u q,hullI_some ⟨by omega,a2,by omega,by omega,by omega⟩ ⟨by omega,b2,by omega,by omega,by omega⟩,by omega,by omega,by omega⟩
theorem us_lo{x:Sp}{v:Rat}(h:∃u,x=some (-opl 1,u))(v1: -1<=v):LoR v x:=by
 obtain⟨u,rfl⟩:=h
 have:=unit_R.1 v1
 rw[unitI_some]at this;exact this
theorem us_hi{x:Sp}{v:Rat}(h:∃r,x=some (r,opl 1))(v1:v<=1):HiR v x:=by
 obtain⟨u,rfl⟩:=h
 have:=unit_R.2.1 v1
 rw[unitI_some]at this;exact this
theorem all_loM{cos:Bool}{a b x:Int}{z:Rat}{Z:Sp}(h:AllV cos (some (a,b)) Z)(gn: -(17/10)<=ang x z/\ang x z<=17/10)(an:zq cos a<=z)(nb:z<=zq cos b):
  UnitS Z/\(∀v:Rat,-1<=v->sinU x z<=v+27/2^192->LoR v Z)/\(∀v:Rat,v<=1->v<=sinU x z+27/2^192->HiR v Z):=by
 rcases h with⟨_,rfl⟩ | ⟨fa,fb,hw,za,zb,ha,hb,rfl⟩
 ·exact⟨unit_unit,fun v c1 _=>unit_R.1 c1,fun v c2 _=>unit_R.2.1 c2⟩
 ·obtain⟨Ba,ga⟩:=sv_box fa ha;obtain⟨Bb,gb⟩:=sv_box fb hb;have ua:=Ba.us;have ub:=Bb.us;have lo:=lower gn ga gb an nb;have up:=upper gn ga gb an nb;have hu:=hull_us ua ub
  have na:za≠none:=by obtain⟨_,_,e,_⟩:=ua;rw[e];exact Option.some_ne_none _
  have nb':zb≠none:=by obtain⟨_,_,e,_⟩:=ub;rw[e];exact Option.some_ne_none _
  obtain⟨r,u,he,h1,h2,h3⟩:=hu;obtain⟨e,f,eq,hlo,hhi⟩:=loop_is (cos:=cos) (x:=fixI a*2) (y:=fixI b*2+2) (j:=(fixI a*2).fdiv (PLo*2)) h1 h2 h3 13;rw[he,eq]
  have be: -opl 1<=e/\e<=f/\f<=opl 1:=by
   obtain⟨o1,o2⟩:=one_bd
   rcases hlo with⟨a,_⟩ | ⟨a,_⟩ <;> rcases hhi with⟨b,_⟩ | ⟨b,_⟩ <;> omega
  refine⟨⟨e,f,rfl,be⟩,fun v c1 dv=>?_,fun v c2 dv=>?_⟩
  ·rcases hlo with⟨rfl,no⟩ | ⟨rfl,_⟩
   ·rcases lo with⟨i,i1,i2,i3⟩ | lo | lo
    ·exfalso
     have m:=met_of fa fb i2 i3;obtain⟨t,t1,t2⟩:=search fa fb hw m;rw[t2]at m i1;exact i1 (no t t1 m)
    ·have g:=hull_lo ua.fin.ok ub.fin.ok na nb' (.inl (Ba.lo_of c1 dv lo));rw[he]at g;exact g
    ·have g:=hull_lo ua.fin.ok ub.fin.ok na nb' (.inr (Bb.lo_of c1 dv lo));rw[he]at g;exact g
   ·exact us_lo ⟨f,rfl⟩ c1
  ·rcases hhi with⟨rfl,no⟩ | ⟨rfl,_⟩
   ·rcases up with⟨i,i1,i2,i3⟩ | up | up
    ·exfalso
     have m:=met_of fa fb i2 i3;obtain⟨t,t1,t2⟩:=search fa fb hw m;rw[t2]at m i1;exact no t t1 m i1
    ·have g:=hull_hi ua.fin.ok ub.fin.ok na nb' (.inl (Ba.hi_of c2 dv up));rw[he]at g;exact g
    ·have g:=hull_hi ua.fin.ok ub.fin.ok na nb' (.inr (Bb.hi_of c2 dv up));rw[he]at g;exact g
   ·exact us_hi ⟨e,rfl⟩ c2
theorem all_us{cos:Bool}{a b:Int}{Z:Sp}(h:AllV cos (some (a,b)) Z):UnitS Z:=by
 rcases h with⟨_,rfl⟩ | ⟨fa,fb,hw,za,zb,ha,hb,rfl⟩
 ·exact unit_unit
 ·obtain⟨Ba,_⟩:=sv_box fa ha;obtain⟨Bb,_⟩:=sv_box fb hb;obtain⟨r,u,he,h1,h2,h3⟩:=hull_us Ba.us Bb.us;obtain⟨e,f,eq,hlo,hhi⟩:=loop_is (cos:=cos) (x:=fixI a*2) (y:=fixI b*2+2) (j:=(fixI a*2).fdiv (PLo*2)) h1 h2 h3 13;obtain⟨o1,o2⟩:=one_bd;rw[he]
  exact⟨e,f,eq,by rcases hlo with⟨a,_⟩ | ⟨a,_⟩ <;> rcases hhi with⟨b,_⟩ | ⟨b,_⟩ <;> omega,by rcases hlo with⟨a,_⟩ | ⟨a,_⟩ <;> rcases hhi with⟨b,_⟩ | ⟨b,_⟩ <;> omega,by rcases hlo with⟨a,_⟩ | ⟨a,_⟩ <;> rcases hhi with⟨b,_⟩ | ⟨b,_⟩ <;> omega⟩
theorem meetL2{x y:Sp}(hx:SpOk x):meetL [x,y]=meetI x y:=by
 show meetI (meetI allI x) y=_
 rw[meet_all hx]
theorem sv_us{cos:Bool}{n:Int}{Z:Sp}(h:Sv cos n Z):UnitS Z:=by
 rcases sv_cases h with⟨_,rfl⟩ | ⟨_,b,_⟩
 ·exact unit_unit
 ·exact b.us
def crZ (cos:Bool)(i:Int):Int:=if cos then 2*i else 2*i+1
def loZ (z:Int):Int:=if z < 0 then z*PHi else z*PLo
def hiZ (z:Int):Int:=if z < 0 then z*PLo else z*PHi
theorem meets_z (z x y:Int):meetsB z x y=(decide (loZ z<=y) && decide (x<=hiZ z)):=by
 unfold meetsB loZ hiZ
 by_cases c:z < 0
 ·rw[if_pos c,if_pos c,if_pos c,Int.mul_comm PHi,Int.mul_comm PLo]
 ·rw[if_neg c,if_neg c,if_neg c,Int.mul_comm PHi,Int.mul_comm PLo]
def crL (cos:Bool)(x y j:Int):Nat->List Sp
 | 0=>[]
 | k+1=>crL cos x y j k ++(if meetsB (crZ cos (j+k)) x y=true then [ptI (j+k)]else [])
theorem crL_len (cos:Bool)(x y j:Int):∀k:Nat,(crL cos x y j k).length<=k
 | 0=>Nat.le_refl _
 | k+1=>by
  have:=crL_len cos x y j k
  show (crL cos x y j k ++_).length<=k+1
  rw[List.length_append]
  split <;> simp <;> omega
theorem pt_us (i:Int):∃p,ptI i=some (p,p)/\ -opl 1<=p/\p<=opl 1:=by
 obtain⟨o1,o2⟩:=one_bd
 by_cases h:i%2=0
 ·exact⟨_,pt_even h,by omega,Int.le_refl _⟩
 ·exact⟨_,pt_odd h,Int.le_refl _,by omega⟩
theorem us_ok{z:Sp}(h:UnitS z):SpOk z:=by
 obtain⟨o1,o2⟩:=one_bd;obtain⟨r,u,rfl,a,b,c⟩:=h;exact⟨by omega,b,by omega,by omega,by omega⟩
theorem pt_UnitS (i:Int):UnitS (ptI i):=by
 obtain⟨p,e,a,b⟩:=pt_us i;exact⟨p,p,e,a,Int.le_refl _,b⟩
theorem crL_us (cos:Bool)(x y j:Int):∀k:Nat,∀z ∈ crL cos x y j k,UnitS z
 | 0=>fun z h=>by cases h
 | k+1=>fun z h=>by
  rcases List.mem_append.1 h with h | h
  ·exact crL_us cos x y j k z h
  ·split at h
   ·obtain rfl:=List.mem_singleton.1 h
    exact pt_UnitS _
   ·cases h
theorem crL_ok (cos:Bool)(x y j:Int)(k:Nat):SpOk (hullL (crL cos x y j k)):=hullL_ok fun z h=>us_ok (crL_us cos x y j k z h)
theorem hullL_app1 (l:List Sp)(a:Sp):hullL (l ++[a])=hullI (hullL l) a:=by
 unfold hullL
 rw[List.foldl_append]
 rfl
theorem cr_is{cos:Bool}{x y j r u:Int}(h1: -opl 1<=r)(h2:r<=u)(h3:u<=opl 1):∀k:Nat,∃e f,hullI (hullL (crL cos x y j k)) (some (r,u))=some (e,f)/\
  ((e=r/\∀t:Nat,t < k->MT cos x y (j+t)->(j+(t:Int))%2=0)\/(e= -opl 1/\∃t:Nat,t < k/\MT cos x y (j+t)/\¬(j+(t:Int))%2=0))/\
  ((f=u/\∀t:Nat,t < k->MT cos x y (j+t)->¬(j+(t:Int))%2=0)\/(f=opl 1/\∃t:Nat,t < k/\MT cos x y (j+t)/\(j+(t:Int))%2=0))
 | 0=>⟨r,u,rfl,.inl ⟨rfl,fun t ht=>absurd ht (Nat.not_lt_zero _)⟩,.inl ⟨rfl,fun t ht=>absurd ht (Nat.not_lt_zero _)⟩⟩
 | k+1=>by
  obtain⟨o1,o2⟩:=one_bd;obtain⟨e,f,eq,he,hf⟩:=cr_is (cos:=cos) (x:=x) (y:=y) (j:=j) h1 h2 h3 k
  have be: -opl 1<=e/\e<=f/\f<=opl 1:=by
   rcases he with⟨a,_⟩ | ⟨a,_⟩ <;> rcases hf with⟨b,_⟩ | ⟨b,_⟩ <;> omega
  have less:∀t:Nat,t < k+1->t < k\/t=k:=fun t ht=>by omega
  have okB:SpOk (some (r,u)):=⟨by omega,h2,by omega,by omega,by omega⟩
  by_cases hm:MT cos x y (j+k)
  ·have hm':meetsB (crZ cos (j+k)) x y=true:=hm
   have e1:hullI (hullL (crL cos x y j (k+1))) (some (r,u))=hullI (some (e,f)) (ptI (j+k)):=by
    show hullI (hullL (crL cos x y j k ++(if meetsB (crZ cos (j+k)) x y=true then [ptI (j+k)]else []))) (some (r,u))=_
    rw[if_pos hm',hullL_app1,hull_assoc (crL_ok cos x y j k) (us_ok (pt_UnitS _)) okB,hull_comm (x:=ptI _),<-hull_assoc (crL_ok cos x y j k) okB (us_ok (pt_UnitS _)),eq]
   rw[e1]
   by_cases hp:(j+(k:Int))%2=0
   ·rw[pt_even hp,hull_unit be.1 be.2.1 be.2.2 (by omega) (by omega)];refine⟨e,opl 1,by rw[Int.min_eq_left (by omega),Int.max_eq_right (by omega)],?_,.inr ⟨rfl,k,by omega,hm,hp⟩⟩
    rcases he with⟨a,b⟩ | ⟨a,t,b1,b2,b3⟩
    ·refine .inl ⟨a,fun t ht mt=>?_⟩
     rcases less t ht with c | rfl
     ·exact b t c mt
     ·exact hp
    ·exact .inr ⟨a,t,by omega,b2,b3⟩
   ·rw[pt_odd hp,hull_unit be.1 be.2.1 be.2.2 (by omega) (by omega)];refine⟨-opl 1,f,by rw[Int.min_eq_right (by omega),Int.max_eq_left (by omega)],.inr ⟨rfl,k,by omega,hm,hp⟩,?_⟩
    rcases hf with⟨a,b⟩ | ⟨a,t,b1,b2,b3⟩
    ·refine .inl ⟨a,fun t ht mt=>?_⟩
     rcases less t ht with c | rfl
     ·exact b t c mt
     ·exact hp
    ·exact .inr ⟨a,t,by omega,b2,b3⟩
  ·have hm':¬meetsB (crZ cos (j+k)) x y=true:=hm
   have e1:hullI (hullL (crL cos x y j (k+1))) (some (r,u))=some (e,f):=by
    show hullI (hullL (crL cos x y j k ++(if meetsB (crZ cos (j+k)) x y=true then [ptI (j+k)]else []))) (some (r,u))=_
    rw[if_neg hm',List.append_nil,eq]
   rw[e1];refine⟨e,f,rfl,?_,?_⟩
   ·rcases he with⟨a,b⟩ | ⟨a,t,b1,b2,b3⟩
    ·refine .inl ⟨a,fun t ht mt=>?_⟩
     rcases less t ht with c | rfl
     ·exact b t c mt
     ·exact absurd mt hm
    ·exact .inr ⟨a,t,by omega,b2,b3⟩
   ·rcases hf with⟨a,b⟩ | ⟨a,t,b1,b2,b3⟩
    ·refine .inl ⟨a,fun t ht mt=>?_⟩
     rcases less t ht with c | rfl
     ·exact b t c mt
     ·exact absurd mt hm
    ·exact .inr ⟨a,t,by omega,b2,b3⟩
theorem loZ_mono{a b:Int}(h:a<=b):loZ a<=loZ b:=by
 unfold loZ PLo PHi
 split <;> split <;> omega
theorem crZ_mono (cos:Bool){a b:Int}(h:a<=b):crZ cos a<=crZ cos b:=by
 unfold crZ
 cases cos
 ·simp only[Bool.false_eq_true,if_false]
  omega
 ·simp only[if_true]
  omega
theorem cr_first{cos:Bool}{X y j i:Int}(hX: -4294967296*SC<=X/\X<=4294967296*SC)(hj:X.fdiv (PLo*2)=j)(hm:MT cos X y i):j<=i:=by
 rw[Int.fdiv_eq_ediv_of_nonneg _ (by decide)]at hj
 have j1:=Int.ediv_mul_le X (show (PLo*2:Int)≠0 by decide)
 have j2:=Int.lt_ediv_add_one_mul_self X (show (0:Int) < PLo*2 by decide)
 rw[hj]at j1 j2;clear hj;obtain⟨h1,h2⟩:=hX
 unfold MT meetsB at hm
 cases cos
 ·simp only[Bool.false_eq_true,if_false]at hm
  by_cases c:2*i+1 < 0
  ·rw[if_pos c]at hm;simp only[Bool.and_eq_true,decide_eq_true_eq]at hm
   unfold SC PLo PHi at *
   omega
  ·rw[if_neg c]at hm;simp only[Bool.and_eq_true,decide_eq_true_eq]at hm
   unfold SC PLo PHi at *
   omega
 ·simp only[if_true]at hm
  by_cases c:2*i < 0
  ·rw[if_pos c]at hm;simp only[Bool.and_eq_true,decide_eq_true_eq]at hm
   unfold SC PLo PHi at *
   omega
  ·rw[if_neg c]at hm;simp only[Bool.and_eq_true,decide_eq_true_eq]at hm
   unfold SC PLo PHi at *
   omega
theorem cr_last{cos:Bool}{x y i k:Int}(hs:y < loZ (crZ cos k))(hm:MT cos x y i):i < k:=by
 refine Int.not_le.1 fun c=>?_
 have hm':meetsB (crZ cos i) x y=true:=hm
 rw[meets_z,Bool.and_eq_true,decide_eq_true_eq]at hm'
 have:=loZ_mono (crZ_mono cos c)
 omega
theorem cr_stop{cos:Bool}{X y j:Int}(hX: -4294967296*SC<=X/\X<=4294967296*SC)(hj:X.fdiv (PLo*2)=j)(hy:y<=X+14*SC+2):y < loZ (crZ cos (j+6)):=by
 rw[Int.fdiv_eq_ediv_of_nonneg _ (by decide)]at hj
 have j1:=Int.ediv_mul_le X (show (PLo*2:Int)≠0 by decide)
 have j2:=Int.lt_ediv_add_one_mul_self X (show (0:Int) < PLo*2 by decide)
 rw[hj]at j1 j2;clear hj;obtain⟨h1,h2⟩:=hX
 unfold loZ crZ
 cases cos
 ·simp only[Bool.false_eq_true,if_false]
  unfold SC PLo PHi at *
  split <;> omega
 ·simp only[if_true]
  unfold SC PLo PHi at *
  split <;> omega
theorem cr_all{cos:Bool}{a b j:Int}{za zb:Sp}{k:Nat}(fa:fixB a=true)(fb:fixB b=true)(hw:¬opl 7<=widI (some (a,b)))(ha:Sv cos a za)(hb:Sv cos b zb)(hj:(fixI a*2).fdiv (PLo*2)=j)(hs:fixI b*2+2 < loZ (crZ cos (j+k))):
  hullL (crL cos (fixI a*2) (fixI b*2+2) j k ++[za,zb])=loopV cos (fixI a*2) (fixI b*2+2) j (hullI za zb) 13:=by
 obtain⟨o1,o2⟩:=one_bd;have ua:=sv_us ha;have ub:=sv_us hb;obtain⟨r,u,hz,h1,h2,h3⟩:=hull_us ua ub
 have e1:hullL (crL cos (fixI a*2) (fixI b*2+2) j k ++[za,zb])=hullI (hullL (crL cos (fixI a*2) (fixI b*2+2) j k)) (hullI za zb):=by
  rw[<-hull_assoc (crL_ok _ _ _ _ _) (us_ok ua) (us_ok ub),<-hullL_app1,<-hullL_app1,List.append_assoc]
  rfl
 obtain⟨ba,bb⟩:=fix_bd fa
 have hX: -4294967296*SC<=fixI a*2/\fixI a*2<=4294967296*SC:=by
  generalize fixI a=A at *
  unfold SC at *
  omega
 have fw:∀i,MT cos (fixI a*2) (fixI b*2+2) i->∃t:Nat,t < k/\i=j+t:=fun i hm=>by
  have c1:=cr_first hX hj hm;have c2:=cr_last hs hm;exact⟨(i-j).toNat,by omega,by omega⟩
 have gw:∀i,MT cos (fixI a*2) (fixI b*2+2) i->∃t:Nat,t < 13/\i=j-4+t:=fun i hm=>by
  have:=search fa fb hw hm
  rw[hj]at this;exact this
 rw[e1,hz];obtain⟨e,f,eq,he,hf⟩:=cr_is (cos:=cos) (x:=fixI a*2) (y:=fixI b*2+2) (j:=j) h1 h2 h3 k;obtain⟨e',f',eq',he',hf'⟩:=loop_is (cos:=cos) (x:=fixI a*2) (y:=fixI b*2+2) (j:=j) h1 h2 h3 13;rw[eq,eq']
 obtain rfl:e=e':=by
  rcases he with⟨p,q⟩ | ⟨p,t,q1,q2,q3⟩ <;> rcases he' with⟨p',q'⟩ | ⟨p',t',q1',q2',q3'⟩
  ·omega
  ·obtain⟨s,s1,s2⟩:=fw _ q2';exact absurd (by have:=q s s1 (s2▸q2');omega) q3'
  ·obtain⟨s,s1,s2⟩:=gw _ q2;exact absurd (by have:=q' s s1 (s2▸q2);omega) q3
  ·omega
 obtain rfl:f=f':=by
  rcases hf with⟨p,q⟩ | ⟨p,t,q1,q2,q3⟩ <;> rcases hf' with⟨p',q'⟩ | ⟨p',t',q1',q2',q3'⟩
  ·omega
  ·obtain⟨s,s1,s2⟩:=fw _ q2';exact absurd q3' (by have:=q s s1 (s2▸q2');omega)
  ·obtain⟨s,s1,s2⟩:=gw _ q2;exact absurd q3 (by have:=q' s s1 (s2▸q2);omega)
  ·omega
 rfl
end Go.Proofs.YtomikokonmikgaaGreatDoor
namespace Go.Proofs.YtomikokonmikgaaGreatDoor
set_option maxHeartbeats 8000000
open Go.RowKit
set_option linter.unusedVariables false
set_option linter.unusedSimpArgs false
set_option maxRecDepth 100000
theorem Na.stn{w w':World}{base n c g:Nat}{A:Option Addr}{l:List Int}{a b:Array Value}{T:TypeId}(h:Na w base A n c l)(S:StN w w' g a b T)(hT:(T==24)=false):Na w' base A n c l:=by
 obtain⟨r,h1,h2⟩:=h;refine⟨r,⟨h1.1,?_⟩,h2⟩
 rcases h1.2 with h3 | ⟨g0,cap,cur,hv,hg,hh,q⟩
 ·exact .inl h3
 ·refine .inr ⟨g0,cap,cur,hv,hg,?_,q⟩
  rw[S.2.2.1 g0 (fun e=>?_)]
  ·exact hh
  ·subst e
   have hb:w.heap[g0]?=some (.cells a T (0,0)):=S.1
   rw[hh]at hb
   simp at hb
   rw[<-hb.2]at hT
   simp at hT
theorem Bo.grownN{w w':World}{base n c g:Nat}{A:Option Addr}{l:List Int}{a:Array Value}{T:TypeId}(X:Bo w g a T)(h:Na w base A n c l)(hT:(T==24)=false)(G:w.grownBy w' (ownA A)):Bo w' g a T:=by
 refine X.keep (G.block g X.lt (fun e=>?_))
 obtain⟨r,h1,h2⟩:=h
 rcases h1.2 with⟨h3,_⟩ | ⟨g0,cap,cur,hv,hg,hh,q⟩
 ·injection h3 with h4
  subst h4
  cases e
 ·injection hv with h4
  subst h4
  cases e
  have hb:=X
  unfold Bo at hb
  rw[hh]at hb
  simp at hb
  rw[<-hb.2]at hT
  simp at hT
theorem ne_row{A A2 B B2:Option Addr}{s1 s2:Nat}(hne:∀k,ownA A=some k->ownA B≠some k)(a1:ownA A2=ownA A\/ownA A2=some s1)(a2:ownA B2=ownA B\/ownA B2=some s2)(lB:∀k,ownA B=some k->k < s1)(lA:∀k,ownA A2=some k->k < s2):∀k,ownA A2=some k->ownA B2≠some k:=by
 intro k h c
 have hk:=lA k h
 rcases a2 with e | e
 ·rw[e]at c;have hb:=lB k c
  rcases a1 with f | f
  ·rw[f]at h;exact hne k h c
  ·rw[f]at h
   injection h with h
   omega
 ·rw[e]at c
  injection c with c
  omega
theorem own_ne{A B:Option Addr}(hne:∀k,ownA A=some k->ownA B≠some k):ownA B=none\/ownA B≠ownA A:=by
 rcases h:ownA B with _ | k
 ·exact .inl rfl
 ·exact .inr (fun c=>hne k c.symm h)
theorem own_ne'{A B:Option Addr}(hne:∀k,ownA A=some k->ownA B≠some k):ownA A=none\/ownA A≠ownA B:=by
 rcases h:ownA A with _ | k
 ·exact .inl rfl
 ·exact .inr (fun c=>hne k h c.symm)
def EInv (w:World)(A B:Option Addr)(m c d:Nat)(la lb:List Int)(wr:World):Prop:=
 Na wr w.heap.size A m c la/\Na wr w.heap.size B m d lb/\(∀k,ownA A=some k->ownA B≠some k)/\Below w.heap.size w wr
theorem kvEnds{w:World}{A:Option Addr}{n c m:Nat}{l:List Sp}(h:Il8 w A n c l)(hm:(lowL l).length=m):Calls Tryz.prog 113 #[.slice A n c] w (fun e w'=>∃A1 c1 B1 d1,e= .returned (.tuple #[.slice A1 m c1,.slice B1 m d1])/\Nl w' A1 m c1 (lowL l)/\Nl w' B1 m d1 (highL l)/\Below w.heap.size w w'):=by
 have HM:=ie hm;have HLn:=ie h.1;have hcap:=h.2.1;have hbig:=h.2.2.1;have hD0:=h;clear hm h
 go_enter Tryz.func113,Tryz.ntmps113
 go_wp2
 go_loopw [2,3,8] (fun va vb i wr=>∃k A1 B1 m1 c1 d1,k<=n/\m1<=k/\va= .slice A1 m1 c1/\vb= .slice B1 m1 d1/\i= .int .i64 ((k:Nat):Int)/\EInv w A1 B1 m1 c1 d1 (lowL (l.take k)) (highL (l.take k)) wr) (fun _ _ i _=>n-(intOf i).toNat)
 case atStart=>exact ⟨0,_,_,_,_,_,Nat.zero_le _,Nat.zero_le _,rfl,rfl,rfl,Na.nil _ _,Na.nil _ _,(fun k h=>by cases h),Below.refl _ _⟩
 case round=>
  obtain⟨k,A1,B1,m1,c1,d1,hk,hmk,rfl,rfl,rfl,N1,N2,hne,hB⟩:=hrel;have HB:=ie hB;clear hB
  by_cases hlt:k < n
  ·have tlt:decide ((k:Int) < (n:Int))=true:=by simp;omega
   have h:=hD0.below HB.out;obtain⟨b,o,rfl,hcell⟩:=h.2.2.2 (by omega);obtain⟨e,D,s,M,E,D',s',M',E',x0,x1,x2,x3,x4,x5,x6,x7,x8,hM,hM',hx⟩:=hcell k hlt;clear hcell h hD0
   have i1:(k:Int) < n:=by omega
   have i2:(0:Int)<=k:=by omega
   have hsl:=lowL_take (l:=l) (k:=k) (by rw[HLn.out];exact hlt);have hsh:=highL_take (l:=l) (k:=k) (by rw[HLn.out];exact hlt);rw[<-hx]at hsl hsh;generalize lowL (l.take k)=la at *;generalize highL (l.take k)=lb at *;obtain⟨x,hX⟩:∃x,rkI e D s M E D' s' M' E'=x:=⟨_,rfl⟩;rw[hX]at hsl hsh;have HX:=ie hX;have HSL:=ie hsl;have HSH:=ie hsh
   have HNE:=ie hne;clear hsl hsh hX hx hne;have hsz:=HB.out.size
   go_upto_region 4 with (fail)
   clear x0 x1 x2 x3 x4 x5 x6 x7 x8;generalize hWn:wr.alloc _=w3 at *;obtain⟨X5,BW⟩:=Bo.nw hWn;clear hWn;replace N1:=N1.b BW;replace N2:=N2.b BW;replace HB:=Hqb HB BW;clear BW;have xX5:=X5.cell
   go_wp2_with fail
   refine(kvOrE hM hM' HX.out).mono ?_;rintro ee w4 ⟨e1,K1,s1,M1,E1,K1b,s1b,M1b,E1b,rfl,v1,B⟩;clear xX5;replace X5:=X5.b B;replace N1:=N1.b B;replace N2:=N2.b B;replace HB:=Hqb HB B;clear B;clear HX hM hM';have xX5:=X5.cell;have zX50:=X5.frozen
   go_upto_region 5 with (fail)
   clear xX5 zX50;generalize hS:((((((((w4.setCell _ _).setCell _ _).setCell _ _).setCell _ _).setCell _ _).setCell _ _).setCell _ _).setCell _ _).setCell _ _=w5 at *;have SX:=StN.of9 X5 hS;replace N1:=N1.stn SX (by decide);replace N2:=N2.stn SX (by decide);replace HB:=ie (SX.below HB.out hsz);replace X5:=SX.box;clear SX hS
   rcases x with _ | ⟨xa,xb⟩
   ·obtain⟨rfl,y1,y1b⟩:=v1;have hsl2:=HSL.out;have hsh2:=HSH.out
    have hl0:la ++lo1 none=la:=List.append_nil la
    have hh0:lb ++hi1 none=lb:=List.append_nil lb
    rw[hl0]at hsl2;rw[hh0]at hsh2;clear HSL HSH hl0 hh0
    obtain⟨_,rfl,rfl,rfl,rfl,rfl,rfl,rfl,rfl⟩:=(show Ci true K1 s1 M1 E1 K1b s1b M1b E1b none from ⟨rfl,y1,y1b⟩).uniq Ci.none
    clear y1 y1b;refine jk [0,1,2] [some 14,some 15,some 16] [[],[],[0,1]] 3 0 [Jo.q9 true 0 false 0 0 0 false 0 0,Jo.q9 true 0 false 0 0 0 false 0 0,Jo.qb false] ?_ ?_
    ·refine jm ?_ ?_
     ·rintro wj hJ K hK;simp only[Jo.z]at hK|-;have xX5:=(X5.b hJ).cell;go_simp;exact hK.out _ _ rfl (br _ _)
     refine jm ?_ ?_
     ·rintro wj hJ K hK;simp only[Jo.z]at hK|-;go_simp;refine(kvNoneE).mono ?_;rintro ee wk ⟨rfl,B⟩;exact hK.out _ _ rfl B
     refine jm ?_ ?_
     ·rintro wj hJ _ rfl _ rfl K hK;simp only[Jo.z]at hK|-;go_simp
      repeat' split
      all_goals exact hK.out _ _ (congrArg Value.bool (by first | rfl | (exfalso;simp_all) | simp_all)) (br _ _)
     exact jo
    rintro w6 hJ _ rfl _ rfl _ rfl -;simp only[Jo.z];replace X5:=X5.b hJ;replace N1:=N1.b hJ;replace N2:=N2.b hJ;replace HB:=Hqb HB hJ;refine jd ?_;go_wp2
    go_roundw
    case rel=>exact ⟨k+1,_,_,_,_,_,by omega,by omega,rfl,rfl,by go_num,by rw[hsl2];exact N1,by rw[hsh2];exact N2,HNE.out,HB.out⟩
    case measure=>simp [intOf];omega
   ·obtain⟨rfl,a1,b1,o1,o1l,o1h⟩:=v1
    have hsl2:_=la ++[xa]:=HSL.out
    have hsh2:_=lb ++[xb]:=HSH.out
    clear HSL HSH o1 o1l o1h;refine jk [0,1,2] [some 14,some 15,some 16] [[],[],[0,1]] 3 0 [Jo.q9 false K1 s1 M1 E1 K1b s1b M1b E1b,Jo.q9 true 0 false 0 0 0 false 0 0,Jo.qb true] ?_ ?_
    ·refine jm ?_ ?_
     ·rintro wj hJ K hK;simp only[Jo.z]at hK|-;have xX5:=(X5.b hJ).cell;go_simp;exact hK.out _ _ rfl (br _ _)
     refine jm ?_ ?_
     ·rintro wj hJ K hK;simp only[Jo.z]at hK|-;go_simp;refine(kvNoneE).mono ?_;rintro ee wk ⟨rfl,B⟩;exact hK.out _ _ rfl B
     refine jm ?_ ?_
     ·rintro wj hJ _ rfl _ rfl K hK;simp only[Jo.z]at hK|-;go_simp
      repeat' split
      all_goals exact hK.out _ _ (congrArg Value.bool (by first | rfl | (exfalso;simp_all) | simp_all)) (br _ _)
     exact jo
    rintro w6 hJ _ rfl _ rfl _ rfl -;simp only[Jo.z];replace X5:=X5.b hJ;replace N1:=N1.b hJ;replace N2:=N2.b hJ;replace HB:=Hqb HB hJ;refine jd ?_;have xX5:=X5.cell
    go_wp2_with (at_builtin;refine wpList_na rfl _ _ rfl rfl rfl (N1.below (bel1 _ _)) a1 (Bo.new _ _ _) (by omega) (Nat.le_trans HB.out.size (bel1 _ _).size) ?_)
    intro A2 d2 w7 N1' G1 at1
    clear xX5;have hB2:=bt HB.out (bel1 _ (.cells #[.int .i64 K1,.bool s1,.int .u64 M1,.int .i64 E1] 24));have N1b:=N1.below (bel1 _ (.cells #[.int .i64 K1,.bool s1,.int .u64 M1,.int .i64 E1] 24));have N2b:=N2.below (bel1 _ (.cells #[.int .i64 K1,.bool s1,.int .u64 M1,.int .i64 E1] 24));replace X5:=(X5.below (bel1 _ (.cells #[.int .i64 K1,.bool s1,.int .u64 M1,.int .i64 E1] 24))).grownN N1b (by decide) G1
    replace HB:=ie (hB2.grown G1 hB2.size (fun k hk=>(N1b.own_lt k hk).1))
    have l1:∀k,ownA B1=some k->k < w6.heap.size+1:=fun k hk=>by
     have:=(N2b.own_lt k hk).2
     simpa using this
    replace N2:=N2b.kept G1 (own_ne HNE.out);clear N1 N1b N2b G1 hB2;have xX5:=X5.cell
    go_wp2_with (at_builtin;refine wpList_na rfl _ _ rfl rfl rfl (N2.below (bel1 _ _)) b1 (Bo.new _ _ _) (by omega) (Nat.le_trans HB.out.size (bel1 _ _).size) ?_)
    intro B2 d3 w8 N2' G2 at2
    clear xX5;have hB2:=bt HB.out (bel1 _ (.cells #[.int .i64 K1b,.bool s1b,.int .u64 M1b,.int .i64 E1b] 24));have N2b:=N2.below (bel1 _ (.cells #[.int .i64 K1b,.bool s1b,.int .u64 M1b,.int .i64 E1b] 24));have N1b:=N1'.below (bel1 _ (.cells #[.int .i64 K1b,.bool s1b,.int .u64 M1b,.int .i64 E1b] 24))
    have lA:∀k,ownA A2=some k->k < w7.heap.size+1:=fun k hk=>by
     have:=(N1b.own_lt k hk).2
     simpa using this
    have hne2:∀k,ownA A2=some k->ownA B2≠some k:=ne_row HNE.out at1 at2 l1 lA
    have hne1:∀k,ownA A2=some k->ownA B1≠some k:=ne_row HNE.out at1 (.inl rfl) l1 lA
    replace HB:=ie (hB2.grown G2 hB2.size (fun k hk=>(N2b.own_lt k hk).1))
    replace N1':=N1b.kept G2 (own_ne' hne1)
    clear N1b N2b G2 hB2 hne1 X5 N2 l1 lA at1 at2;go_wp2
    go_roundw
    case rel=>exact ⟨k+1,_,_,_,_,_,by omega,by omega,rfl,rfl,by go_num,by rw[hsl2];exact N1',by rw[hsh2];exact N2',hne2,HB.out⟩
    case measure=>simp [intOf];omega
  ·obtain rfl:k=n:=by omega
   have tlt:decide ((k:Int) < (k:Int))=false:=by simp
   have e1:l.take k=l:=List.take_of_length_le (by rw[HLn.out];omega)
   rw[e1]at N1 N2
   obtain rfl:m1=m:=by rw[<-HM.out];exact N1.len.symm
   have M1:=N1.nl (by omega);have M2:=N2.nl (by omega);clear N1 N2;go_wp2
   go_ret2
   exact⟨_,_,_,_,rfl,M1,M2,HB.out⟩
theorem kvMeet{w:World}{A:Option Addr}{n c:Nat}{l:List Sp}{z:Sp}(h:Il8 w A n c l)(hr:meetL l=z):Calls Tryz.prog 44 #[.slice A n c] w (PV w z):=by
 obtain⟨m,hm⟩:∃m,(lowL l).length=m:=⟨_,rfl⟩;have hln:=h.1;have hle:=len_lo l;have hok:=h.ok;have HM:=ie hm
 go_enter Tryz.func44,Tryz.ntmps44
 go_upto_region 1 with (fail)
 generalize hW1:w.alloc _=w1 at *;obtain⟨XR,HB⟩:=Bo.en1 hW1;replace h:=h.below HB.out;clear hW1
 go_wp2_with fail
 refine(kvEnds h HM.out).mono ?_;rintro ee w2 ⟨A1,c1,B1,d1,rfl,N1,N2,B⟩;replace XR:=XR.b B;replace HB:=Hqb HB B;clear B;clear h
 by_cases hl:m < n
 ·rw[meet_no (by omega)]at hr
  obtain rfl:none=z:=hr
  have tl:decide ((m:Int) < (n:Int))=true:=by simp;omega
  clear hm hle hln hok
  go_wp2_with fail
  refine(kvNoneE).mono ?_;rintro ee w3 ⟨rfl,B⟩;replace XR:=XR.b B;replace N1:=N1.b B;replace N2:=N2.b B;replace HB:=Hqb HB B;clear B;clear N1 N2;have xXR:=XR.cell;have zXR0:=XR.frozen;go_wp2;clear xXR zXR0;have SX:=StN.t9 XR true 0 false 0 0 0 false 0 0
  exact bq (by simp[results,Tryz.results44,go_sem,SX.box.cell]) rfl ⟨_,_,_,_,_,_,_,_,_,rfl,Ci.none,(SX.below HB.out (by omega))⟩
 ·have hr2:=(meet_some (by omega)).symm.trans hr
  have tl:decide ((m:Int) < (n:Int))=false:=by simp;omega
  clear hr;obtain⟨u,hu⟩:∃u,mxp (lowL l)=u:=⟨_,rfl⟩;obtain⟨v,hv⟩:∃v,mnp (highL l)=v:=⟨_,rfl⟩;rw[hu,hv]at hr2;have HU:=ie hu;have HVV:=ie hv;have HR:=ie hr2;clear hu hv hr2 hm hle hln hok
  go_wp2_with fail
  refine(nMost N1 HU.out).mono ?_;rintro ee w3 ⟨K1,s1,M1,E1,rfl,q1,B⟩;replace XR:=XR.b B;replace N2:=N2.b B;replace HB:=Hqb HB B;clear B
  go_wp2_with fail
  refine(nLeast N2 HVV.out).mono ?_;rintro ee w4 ⟨K2,s2,M2,E2,rfl,q2,B⟩;replace XR:=XR.b B;replace HB:=Hqb HB B;clear B
  go_wp2_with fail
  refine(kvMake q1.top q2.top q1.rk q2.rk HR.out).mono ?_;rintro ee w5 ⟨e3,K3,s3,M3,E3,K3b,s3b,M3b,E3b,rfl,v3,B⟩;replace XR:=XR.b B;replace HB:=Hqb HB B;clear B;clear N1 N2;have xXR:=XR.cell;have zXR0:=XR.frozen;go_wp2;clear xXR zXR0;have SX:=StN.t9 XR e3 K3 s3 M3 E3 K3b s3b M3b E3b
  exact bq (by simp[results,Tryz.results44,go_sem,SX.box.cell]) rfl ⟨_,_,_,_,_,_,_,_,_,rfl,v3,(SX.below HB.out (by omega))⟩
theorem kvHull{w:World}{A:Option Addr}{n c:Nat}{l:List Sp}{z:Sp}(h:Il8 w A n c l)(hr:hullL l=z):Calls Tryz.prog 148 #[.slice A n c] w (PV w z):=by
 obtain⟨m,hm⟩:∃m,(lowL l).length=m:=⟨_,rfl⟩;have hln:=h.1;have hle:=len_lo l;have hok:=h.ok;have HM:=ie hm
 go_enter Tryz.func148,Tryz.ntmps148
 go_upto_region 1 with (fail)
 generalize hW1:w.alloc _=w1 at *;obtain⟨XR,HB⟩:=Bo.en1 hW1;replace h:=h.below HB.out;clear hW1
 go_wp2_with fail
 refine(kvEnds h HM.out).mono ?_;rintro ee w2 ⟨A1,c1,B1,d1,rfl,N1,N2,B⟩;replace XR:=XR.b B;replace HB:=Hqb HB B;clear B;clear h;have hr2:=(hull_ends hok).symm.trans hr;clear hr;obtain⟨u,hu⟩:∃u,mnp (lowL l)=u:=⟨_,rfl⟩;obtain⟨v,hv⟩:∃v,mxp (highL l)=v:=⟨_,rfl⟩;rw[hu,hv]at hr2;have HU:=ie hu;have HVV:=ie hv;have HR:=ie hr2
 clear hu hv hr2 hm hle hln hok
 go_wp2_with fail
 refine(nLeast N1 HU.out).mono ?_;rintro ee w3 ⟨K1,s1,M1,E1,rfl,q1,B⟩;replace XR:=XR.b B;replace N2:=N2.b B;replace HB:=Hqb HB B;clear B
 go_wp2_with fail
 refine(nMost N2 HVV.out).mono ?_;rintro ee w4 ⟨K2,s2,M2,E2,rfl,q2,B⟩;replace XR:=XR.b B;replace HB:=Hqb HB B;clear B
 go_wp2_with fail
 refine(kvMake q1.top q2.top q1.rk q2.rk HR.out).mono ?_;rintro ee w5 ⟨e3,K3,s3,M3,E3,K3b,s3b,M3b,E3b,rfl,v3,B⟩;replace XR:=XR.b B;replace HB:=Hqb HB B;clear B;clear N1 N2;have xXR:=XR.cell;have zXR0:=XR.frozen;go_wp2;clear xXR zXR0;have SX:=StN.t9 XR e3 K3 s3 M3 E3 K3b s3b M3b E3b
 exact bq (by simp[results,Tryz.results148,go_sem,SX.box.cell]) rfl ⟨_,_,_,_,_,_,_,_,_,rfl,v3,(SX.below HB.out (by omega))⟩
def Rw (e:Bool)(K:Int)(s:Bool)(M E K':Int)(s':Bool)(M' E':Int)(x:Sp):Prop:=M < 18446744073709551616/\M' < 18446744073709551616/\rkI e K s M E K' s' M' E'=x
theorem Ci.rw{e:Bool}{K M E K' M' E':Int}{s s':Bool}{x:Sp}(h:Ci e K s M E K' s' M' E' x):Rw e K s M E K' s' M' E' x:=⟨h.top.1,h.top.2,h.rk⟩
def Jo.Fact.il8 (n:Nat)(l:List Sp):Jo.Fact:=⟨fun v w=>∃A c,v= .slice A n c/\Il8 w A n c l,fun v w w' h b=>by
 obtain⟨A,c,e,h⟩:=h;exact⟨A,c,e,h.below b⟩⟩
theorem Il8.lit1{W:World}{h:Nat}{K1 M1 E1 G1 P1 Q1:Int}{e1 s1 g1:Bool}{x1:Sp}(hg:W.heap.size=h)(v1:Rw e1 K1 s1 M1 E1 G1 g1 P1 Q1 x1):
  Il8 (W.alloc (.cells #[.bool e1,.int .i64 K1,.bool s1,.int .u64 M1,.int .i64 E1,.int .i64 G1,.bool g1,.int .u64 P1,.int .i64 Q1] 32)) (some ⟨h,0,none⟩) 1 1 [x1]:=by
 subst hg;have hh:=heap_alloc_new W (.cells #[.bool e1,.int .i64 K1,.bool s1,.int .u64 M1,.int .i64 E1,.int .i64 G1,.bool g1,.int .u64 P1,.int .i64 Q1] 32)
 refine⟨rfl,Nat.le_refl _,by decide,fun _=>⟨_,0,rfl,fun k hk=>?_⟩⟩
 obtain rfl:k=0:=by omega
 exact⟨e1,K1,s1,M1,E1,G1,g1,P1,Q1,by rw[cell_of_row _ _ _ _ _ _ hh];rfl,by rw[cell_of_row _ _ _ _ _ _ hh];rfl,by rw[cell_of_row _ _ _ _ _ _ hh];rfl,by rw[cell_of_row _ _ _ _ _ _ hh];rfl,by rw[cell_of_row _ _ _ _ _ _ hh];rfl,by rw[cell_of_row _ _ _ _ _ _ hh];rfl,by rw[cell_of_row _ _ _ _ _ _ hh];rfl,by rw[cell_of_row _ _ _ _ _ _ hh];rfl,by rw[cell_of_row _ _ _ _ _ _ hh];rfl,v1.1,v1.2.1,v1.2.2⟩
theorem Il8.lit2{W:World}{h:Nat}{K1 M1 E1 G1 P1 Q1 K2 M2 E2 G2 P2 Q2:Int}{e1 s1 g1 e2 s2 g2:Bool}{x1 x2:Sp}(hg:W.heap.size=h)(v1:Rw e1 K1 s1 M1 E1 G1 g1 P1 Q1 x1)(v2:Rw e2 K2 s2 M2 E2 G2 g2 P2 Q2 x2):
  Il8 (W.alloc (.cells #[.bool e1,.int .i64 K1,.bool s1,.int .u64 M1,.int .i64 E1,.int .i64 G1,.bool g1,.int .u64 P1,.int .i64 Q1,.bool e2,.int .i64 K2,.bool s2,.int .u64 M2,.int .i64 E2,.int .i64 G2,.bool g2,.int .u64 P2,.int .i64 Q2] 32)) (some ⟨h,0,none⟩) 2 2 [x1,x2]:=by
 subst hg;have hh:=heap_alloc_new W (.cells #[.bool e1,.int .i64 K1,.bool s1,.int .u64 M1,.int .i64 E1,.int .i64 G1,.bool g1,.int .u64 P1,.int .i64 Q1,.bool e2,.int .i64 K2,.bool s2,.int .u64 M2,.int .i64 E2,.int .i64 G2,.bool g2,.int .u64 P2,.int .i64 Q2] 32)
 refine⟨rfl,Nat.le_refl _,by decide,fun _=>⟨_,0,rfl,fun k hk=>?_⟩⟩
 rcases (by omega:k=0\/k=1)with rfl | rfl
 ·exact⟨e1,K1,s1,M1,E1,G1,g1,P1,Q1,by rw[cell_of_row _ _ _ _ _ _ hh];rfl,by rw[cell_of_row _ _ _ _ _ _ hh];rfl,by rw[cell_of_row _ _ _ _ _ _ hh];rfl,by rw[cell_of_row _ _ _ _ _ _ hh];rfl,by rw[cell_of_row _ _ _ _ _ _ hh];rfl,by rw[cell_of_row _ _ _ _ _ _ hh];rfl,by rw[cell_of_row _ _ _ _ _ _ hh];rfl,by rw[cell_of_row _ _ _ _ _ _ hh];rfl,by rw[cell_of_row _ _ _ _ _ _ hh];rfl,v1.1,v1.2.1,v1.2.2⟩
 ·exact⟨e2,K2,s2,M2,E2,G2,g2,P2,Q2,by rw[cell_of_row _ _ _ _ _ _ hh];rfl,by rw[cell_of_row _ _ _ _ _ _ hh];rfl,by rw[cell_of_row _ _ _ _ _ _ hh];rfl,by rw[cell_of_row _ _ _ _ _ _ hh];rfl,by rw[cell_of_row _ _ _ _ _ _ hh];rfl,by rw[cell_of_row _ _ _ _ _ _ hh];rfl,by rw[cell_of_row _ _ _ _ _ _ hh];rfl,by rw[cell_of_row _ _ _ _ _ _ hh];rfl,by rw[cell_of_row _ _ _ _ _ _ hh];rfl,v2.1,v2.2.1,v2.2.2⟩
abbrev V9:=Bool × Int × Bool × Int × Int × Int × Bool × Int × Int
def vrow:List V9->List Value
 | []=>[]
 | (e,K,s,M,E,K',s',M',E')::l=> .bool e:: .int .i64 K:: .bool s:: .int .u64 M:: .int .i64 E:: .int .i64 K':: .bool s':: .int .u64 M':: .int .i64 E'::vrow l
theorem vrow_append:∀l m,vrow (l ++m)=vrow l ++vrow m
 | [],m=>rfl
 | (e,K,s,M,E,K',s',M',E')::l,m=>by
  show _::_::_::_::_::_::_::_::_::vrow (l ++m)=_
  rw[vrow_append l m]
  rfl
theorem vrow_len:∀l,(vrow l).length=l.length*9
 | []=>rfl
 | (e,K,s,M,E,K',s',M',E')::l=>by
  show (vrow l).length+9=(l.length+1)*9
  rw[vrow_len l]
  omega
theorem vrow_one:∀(l:List V9),∀u ∈ vrow l,u.oneCell'=true
 | [],u,h=>by cases h
 | (e,K,s,M,E,K',s',M',E')::l,u,h=>by
  simp only[vrow,List.mem_cons]at h
  rcases h with rfl | rfl | rfl | rfl | rfl | rfl | rfl | rfl | rfl | h
  iterate 9 rfl
  exact vrow_one l u h
theorem vrow_at:∀(l:List V9) (k:Nat) (e:Bool) (K:Int) (s:Bool) (M E K':Int) (s':Bool) (M' E':Int),l[k]?=some (e,K,s,M,E,K',s',M',E')->(vrow l)[k*9]?=some (.bool e)/\(vrow l)[k*9+1]?=some (.int .i64 K)/\(vrow l)[k*9+2]?=some (.bool s)/\(vrow l)[k*9+3]?=some (.int .u64 M)/\(vrow l)[k*9+4]?=some (.int .i64 E)/\(vrow l)[k*9+5]?=some (.int .i64 K')/\(vrow l)[k*9+6]?=some (.bool s')/\(vrow l)[k*9+7]?=some (.int .u64 M')/\(vrow l)[k*9+8]?=some (.int .i64 E')
 | [],k,_,_,_,_,_,_,_,_,_,h=>by cases h
 | (e,K,s,M,E,K',s',M',E')::l,0,_,_,_,_,_,_,_,_,_,h=>by
  cases h
  exact⟨rfl,rfl,rfl,rfl,rfl,rfl,rfl,rfl,rfl⟩
 | (e,K,s,M,E,K',s',M',E')::l,k+1,e2,K2,s2,M2,E2,K2',s2',M2',E2',h=>by
  have:=vrow_at l k e2 K2 s2 M2 E2 K2' s2' M2' E2' h
  have e:(k+1)*9=k*9+9:=by omega
  rw[e];exact this
def Ia (w:World)(base:Nat)(A:Option Addr)(n c:Nat)(l:List Sp):Prop:=
 ∃r:List V9,w.ownsRow base 32 9 (.slice A n c) n (vrow r)/\r.length=n/\l.length=n/\∀k,k < n->∃e K s M E K' s' M' E',r[k]?=some (e,K,s,M,E,K',s',M',E')/\Ci e K s M E K' s' M' E' (l.getD k none)
theorem infoIv:(Tryz.prog.info? 32).map (fun i=>(i.zero,i.size,i.bytes))=some (some (.agg #[.bool false,.int .i64 0,.bool false,.int .u64 0,.int .i64 0,.int .i64 0,.bool false,.int .u64 0,.int .i64 0]),9,72):=by kernel_rfl
section
variable {w w':World} {base n c:Nat} {A:Option Addr} {l:List Sp}
theorem Ia.nil (w:World)(base:Nat):Ia w base none 0 0 []:=⟨[],World.ownsRow_nil w base _ 9,rfl,rfl,fun k h=>absurd h (Nat.not_lt_zero _)⟩
theorem Ia.len (h:Ia w base A n c l):l.length=n:=by
 obtain⟨_,_,_,h,_⟩:=h;exact h
theorem Ia.below (h:Ia w base A n c l)(hb:Below w.heap.size w w'):Ia w' base A n c l:=by
 obtain⟨r,h1,h2⟩:=h;refine⟨r,⟨h1.1,?_⟩,h2⟩
 rcases h1.2 with h3 | ⟨g,cap,cur,hv,hg,hh,q⟩
 ·exact .inl h3
 ·refine .inr ⟨g,cap,cur,hv,hg,?_,q⟩;rw[hb.block g (Array.getElem?_eq_some_iff.1 hh).1];exact hh
abbrev Ia.b:= @Ia.below
theorem Ia.lower (h:Ia w base A n c l){base2:Nat}(hb:base2<=base):Ia w base2 A n c l:=by
 obtain⟨r,h1,h2⟩:=h;refine⟨r,⟨h1.1,?_⟩,h2⟩
 rcases h1.2 with h3 | ⟨g,cap,cur,hv,hg,q⟩
 ·exact .inl h3
 ·exact .inr ⟨g,cap,cur,hv,Nat.le_trans hb hg,q⟩
theorem Ia.own_lt (h:Ia w base A n c l):∀k,ownA A=some k->base<=k/\k < w.heap.size:=by
 obtain⟨r,h1,h2⟩:=h
 intro k hk
 exact h1.lt k (by rw[own_eq];exact hk)
theorem Bo.grownI{g:Nat}{a:Array Value}{T:TypeId}(X:Bo w g a T)(h:Ia w base A n c l)(hT:(T==32)=false)(G:w.grownBy w' (ownA A)):Bo w' g a T:=by
 refine X.keep (G.block g X.lt (fun e=>?_))
 obtain⟨r,h1,h2⟩:=h
 rcases h1.2 with⟨h3,_⟩ | ⟨g0,cap,cur,hv,hg,hh,q⟩
 ·injection h3 with h4
  subst h4
  cases e
 ·injection hv with h4
  subst h4
  cases e
  have hb:=X
  unfold Bo at hb
  rw[hh]at hb
  simp at hb
  rw[<-hb.2]at hT
  simp at hT
theorem Ia.cells (h:Ia w base A n c l)(h0:0 < n):∃g,A=some ⟨g,0,none⟩/\n<=c/\∃r:List V9,r.length=n/\(∀k,k < n->∃e K s M E K' s' M' E',r[k]?=some (e,K,s,M,E,K',s',M',E')/\Ci e K s M E K' s' M' E' (l.getD k none))/\∀j v,(vrow r)[j]?=some v->w.cell? ⟨g,0+j,none⟩=some v:=by
 obtain⟨r,h1,h2,h3,h4⟩:=h
 rcases h1.2 with⟨e1,e2⟩ | ⟨g,cap,cur,hv,hg,hh,hc,hm,hs,ht⟩
 ·omega
 ·injection hv with a1 a2 a3
  subst a1;subst a3
  refine⟨g,rfl,hc,r,h2,h4,fun j v hv=>?_⟩
  rw[cell_of_row w g (0+j) _ _ (0,0) hh,Nat.zero_add,<-Array.getElem?_toList];rw[<-ht,List.getElem?_take]at hv
  split at hv
  ·exact hv
  ·cases hv
theorem Ia.il (h:Ia w base A n c l)(hn:n<=1099511627776):Il8 w A n c l:=by
 rcases Nat.eq_zero_or_pos n with h0 | h0
 ·subst h0;have hl:=h.len;obtain⟨r,h1,_⟩:=h
  rcases h1.2 with⟨e1,e2⟩ | ⟨g,cap,cur,hv,hg,hh,hc,hm,hs,ht⟩
  ·injection e1 with a1 a2 a3
   subst a3
   exact⟨hl,Nat.le_refl _,by omega,fun h=>absurd h (Nat.lt_irrefl _)⟩
  ·exact⟨hl,Nat.zero_le _,by omega,fun h=>absurd h (Nat.lt_irrefl _)⟩
 ·obtain⟨g,rfl,hc,r,h2,h4,cell⟩:=h.cells h0
  refine⟨h.len,hc,hn,fun _=>⟨g,0,rfl,fun k hk=>?_⟩⟩
  obtain⟨e,K,s,M,E,K',s',M',E',hr,q⟩:=h4 k hk;obtain⟨c0,c1,c2,c3,c4,c5,c6,c7,c8⟩:=vrow_at r k e K s M E K' s' M' E' hr;refine⟨e,K,s,M,E,K',s',M',E',cell _ _ c0,?_,?_,?_,?_,?_,?_,?_,?_,q.top.1,q.top.2,q.rk⟩
  all_goals rw[Nat.add_assoc]
  ·exact cell _ _ c1
  ·exact cell _ _ c2
  ·exact cell _ _ c3
  ·exact cell _ _ c4
  ·exact cell _ _ c5
  ·exact cell _ _ c6
  ·exact cell _ _ c7
  ·exact cell _ _ c8
theorem Ia.lit{g:Nat}{e s s':Bool}{K M E K' M' E':Int}{x:Sp}(X:Bo w g #[.bool e,.int .i64 K,.bool s,.int .u64 M,.int .i64 E,.int .i64 K',.bool s',.int .u64 M',.int .i64 E'] 32)(q:Ci e K s M E K' s' M' E' x):Ia w g (some ⟨g,0,none⟩) 1 1 [x]:=by
 refine⟨[(e,K,s,M,E,K',s',M',E')],⟨rfl,.inr ⟨g,1,_,rfl,Nat.le_refl _,X,Nat.le_refl _,by decide,rfl,rfl⟩⟩,rfl,rfl,fun k hk=>?_⟩
 obtain rfl:k=0:=by omega
 exact⟨e,K,s,M,E,K',s',M',E',rfl,q⟩
theorem add_at (g j:Nat):(⟨g,0,none⟩:Addr).add j=⟨g,0+j,none⟩:=by
 unfold Addr.add
 split
 ·rename_i h
  subst h
  rfl
 ·rfl
theorem run_ia{ty:TypeId}{base2 m d:Nat}{B:Option Addr}{l2:List Sp}(h:Ia w base A n c l)(k:Ia w base2 B m d l2)(h0:0 < m)(hn:n+m<=1000000)(hb:base<=w.heap.size):
  ∃A2 c2 w',(Builtin.append_ #[84,84] ty #[.slice A n c,.slice B m d]).run Tryz.prog w= .ok (.slice A2 (n+m) c2) w'/\Ia w' base A2 (n+m) c2 (l ++l2)/\w.grownBy w' (ownA A)/\(ownA A2=ownA A\/ownA A2=some w.heap.size):=by
 obtain⟨i,hi,hz,hsi,hby⟩:=info_parts infoIv;have hl2:=k.len;obtain⟨g,rfl,hc,q,q2,q4,cell⟩:=k.cells h0;obtain⟨r,h1,h2,h3,h4⟩:=h
 obtain⟨v',w',hr,ho,hg,_,hat⟩:=run_append_own_at (P:=Tryz.prog) w base 84 ty 32 i _ 9 72 Tryz.underlying84 hi hz hsi hby rfl (by decide) _ n (vrow r) h1 ⟨g,0,none⟩ m d (vrow q) (by rw[vrow_len,q2])
  (fun j u hj=>by rw[add_at];exact cell j u hj) (vrow_one q) (by unfold maxLen;omega) (by omega) hb
 rw[own_eq]at hg hat;rw[<-vrow_append]at ho
 obtain⟨A2,c2,rfl⟩:∃A2 c2,v'= .slice A2 (n+m) c2:=by
  rcases ho.2 with⟨_,h0⟩ | ⟨g',cap',cur',hv,_⟩
  ·omega
  ·exact⟨_,_,hv⟩
 rw[own_eq]at hat
 refine⟨A2,c2,w',hr,⟨_,ho,by rw[List.length_append,h2,q2],by rw[List.length_append,h3,hl2],fun j hj=>?_⟩,hg,hat⟩
 by_cases hjn:j < n
 ·obtain⟨e1,K1,s1,M1,E1,K1',s1',M1',E1',hq,qq⟩:=h4 j hjn;refine⟨e1,K1,s1,M1,E1,K1',s1',M1',E1',by rw[List.getElem?_append_left (by omega)];exact hq,?_⟩
  rw[List.getD_eq_getElem?_getD,List.getElem?_append_left (by omega),<-List.getD_eq_getElem?_getD];exact qq
 ·obtain⟨e1,K1,s1,M1,E1,K1',s1',M1',E1',hq,qq⟩:=q4 (j-n) (by omega);refine⟨e1,K1,s1,M1,E1,K1',s1',M1',E1',by rw[List.getElem?_append_right (by omega),h2];exact hq,?_⟩
  rw[List.getD_eq_getElem?_getD,List.getElem?_append_right (by omega),h3,<-List.getD_eq_getElem?_getD];exact qq
theorem wpList_ia{ops:Array Oper}{rest:List Oper}{o:Oper}{a:Act}{Q:Exit->Act->World->Prop}(hgd:o.guard=none)(s x:Operand)
  (ho:o.op= .call {callee:= .builtin .append,args:= #[s,x],argTypes:= #[84,84]}) {base2 m d:Nat} {B:Option Addr} {l2:List Sp}
  (hs:a.eval s= .slice A n c) (hx:a.eval x= .slice B m d) (h:Ia w base A n c l) (k:Ia w base2 B m d l2) (h0:0 < m) (hn:n+m<=1000000) (hb:base<=w.heap.size)
  (hK:∀A2 c2 w',Ia w' base A2 (n+m) c2 (l ++l2)->w.grownBy w' (ownA A)->(ownA A2=ownA A\/ownA A2=some w.heap.size)->wpList Tryz.prog ops Q rest (a.put o.dst (.slice A2 (n+m) c2)) w'):wpList Tryz.prog ops Q (o::rest) a w:=by
 refine wpList_plain hgd fun K hK2=>?_
 obtain⟨A2,c2,w',hr,h1,h2,h3⟩:=run_ia (ty:=o.type) h k h0 hn hb
 unfold Oper.wp execOp
 simp only[ho,resolve,invoke,builtin,Sem.run_bind,Sem.run_pure,Result.andThen_ok,List.map_toArray,List.map_cons,List.map_nil,hs,hx,hr];exact hK2 _ _ (hK A2 c2 w' h1 h2 h3)
theorem step_ia{ops:Array Oper}{o:Oper}{a:Act}{K:Act->World->Prop}{Q:Exit->Act->World->Prop}(hgd:o.guard=none)(s x:Operand)
  (ho:o.op= .call {callee:= .builtin .append,args:= #[s,x],argTypes:= #[84,84]}) {base2 m d:Nat} {B:Option Addr} {l2:List Sp}
  (hs:a.eval s= .slice A n c) (hx:a.eval x= .slice B m d) (h:Ia w base A n c l) (k:Ia w base2 B m d l2) (h0:0 < m) (hn:n+m<=1000000) (hb:base<=w.heap.size)
  (hK:∀A2 c2 w',Ia w' base A2 (n+m) c2 (l ++l2)->w.grownBy w' (ownA A)->(ownA A2=ownA A\/ownA A2=some w.heap.size)->K (a.put o.dst (.slice A2 (n+m) c2)) w'):
  if Region.wanted o (yielded ops a.tmps)=true then Oper.wp Tryz.prog o a w K Q else K (a.put o.dst undef) w:=by
 have e:Region.wanted o (yielded ops a.tmps)=true:=by
  unfold Region.wanted
  rw[hgd]
 rw[if_pos e];obtain⟨A2,c2,w',hr,h1,h2,h3⟩:=run_ia (ty:=o.type) h k h0 hn hb
 unfold Oper.wp execOp
 simp only[ho,resolve,invoke,builtin,Sem.run_bind,Sem.run_pure,Result.andThen_ok,List.map_toArray,List.map_cons,List.map_nil,hs,hx,hr];exact hK A2 c2 w' h1 h2 h3
end
theorem kvWidth{w:World}{e:Bool}{D M E D' M' E':Int}{s s':Bool}{x:Sp}{r:Int}(hT:Tb w)(hM:LQ M)(hM':LQ M')(hx:rkI e D s M E D' s' M' E'=x)(hr:widI x=r):Calls Tryz.prog 41 #[VI e D s M E D' s' M' E'] w (PN w r):=by
 delta VI
 have HX:=ie hx;clear hx
 go_enter Tryz.func41,Tryz.ntmps41
 go_upto_region 1 with (fail)
 generalize hW1:(w.alloc _).alloc _=w1 at *;obtain⟨X1,XR,HB⟩:=Bo.en2 hW1;replace hT:=hT.below HB.out;clear hW1;have xX1:=X1.cell
 go_wp2_with fail
 refine(kvOrE hM hM' HX.out).mono ?_;rintro ee w2 ⟨e1,K1,s1,M1,E1,K1b,s1b,M1b,E1b,rfl,v1,B⟩;clear xX1;replace X1:=X1.b B;replace XR:=XR.b B;replace hT:=hT.b B;replace HB:=Hqb HB B;clear B;have xX1:=X1.cell;have zX10:=X1.frozen
 go_upto_region 2 with (fail)
 clear xX1 zX10;generalize hS:((((((((w2.setCell _ _).setCell _ _).setCell _ _).setCell _ _).setCell _ _).setCell _ _).setCell _ _).setCell _ _).setCell _ _=w3 at *;have SX:=StN.of9 X1 hS;replace XR:=XR.s SX;replace hT:=hT.s SX;replace HB:=Hqs HB SX (by omega);replace X1:=SX.box;clear SX hS
 clear HX hM hM'
 rcases x with _ | ⟨xa,xb⟩
 ·obtain⟨rfl,y1,y1b⟩:=v1
  obtain rfl:0=r:=hr
  have xX1:=X1.cell
  go_wp2_with fail
  refine(aSub hT y1b.top y1.top y1b.rk (y:=0) (by rw[y1.rk];rfl) (r:=0) (addp_zero true (by omega) (by omega))).mono ?_;rintro ee w4 ⟨K2,s2,M2,E2,rfl,q2,B⟩;clear xX1;replace X1:=X1.b B;replace XR:=XR.b B;replace hT:=hT.b B;replace HB:=Hqb HB B;clear B;have xXR:=XR.cell;have zXR0:=XR.frozen
  go_wp2;clear xXR zXR0;have SX:=StN.t4 XR K2 s2 M2 E2;exact bq (by simp[results,Tryz.results41,go_sem,SX.box.cell]) rfl ⟨_,_,_,_,rfl,q2,(SX.below HB.out (by omega))⟩
 ·obtain⟨rfl,a1,b1,o1,o1l,o1h⟩:=v1
  have HR:=ie (show addp true xb (-xa)=r from hr)
  clear hr o1 o1l o1h;have xX1:=X1.cell
  go_wp2_with fail
  refine(aSub hT b1.top a1.top b1.rk (by rw[a1.rk]) HR.out).mono ?_;rintro ee w4 ⟨K2,s2,M2,E2,rfl,q2,B⟩;clear xX1;replace XR:=XR.b B;replace HB:=Hqb HB B;clear B;have xXR:=XR.cell;have zXR0:=XR.frozen;go_wp2;clear xXR zXR0;have SX:=StN.t4 XR K2 s2 M2 E2
  exact bq (by simp[results,Tryz.results41,go_sem,SX.box.cell]) rfl ⟨_,_,_,_,rfl,q2,(SX.below HB.out (by omega))⟩
end Go.Proofs.YtomikokonmikgaaGreatDoor
namespace Go.Proofs.YtomikokonmikgaaGreatDoor
open Go Go.RowKit
set_option linter.unusedVariables false
theorem apart2{y z s c S C k t e g:Rat}(y0:0<=y)(y1:y<=1)(z0:0<=z)(z1:z<=1)(yz:z<=y)(v1: -(3*g)<=S-y*C)(v2:S-y*C<=3*g)(u1: -(3*g)<=s-z*c)(u2:s-z*c<=3*g)(cu:2/3<=c)
  (k1: -(101/100)<=k) (k2:k<=101/100) (t0:0<=t) (t2:t<=101/100) (a1: -e<=S-(s*k+c*t)) (a2:S-(s*k+c*t)<=e) (b1: -e<=C-(c*k-s*t)) (b2:C-(c*k-s*t)<=e)
  (he:e*3<=g) (e0:0<=e) (g0:0<=g):t<=101/100*(y-z)+20*g:=by
 have r1:=mul_bd (b:=1) (x:=y) (by grind) y1 b1 b2;have r2:=mul_bd (b:=101/100) (x:=k) k1 k2 u1 u2;have r3:=mul_bd (b:=1) (x:=y) (by grind) y1 u1 u2;have r4:=mul_bd (b:=101/100) (x:=t) (by grind) t2 r3.1 r3.2
 have eq:S-y*C=(S-(s*k+c*t))-y*(C-(c*k-s*t))+k*(s-z*c)+t*(y*(s-z*c))-c*((y-z)*k)+c*(t*(1+y*z)):=by grind
 have pz:=Rat.mul_nonneg (show 0<=c by grind) (Rat.mul_nonneg t0 (Rat.mul_nonneg y0 z0))
 have yk:=Rat.mul_nonneg (show 0<=c by grind) (Rat.mul_nonneg (show 0<=y-z by grind) (show 0<=101/100-k by grind))
 obtain⟨X,hX⟩:∃X,X=t-101/100*(y-z):=⟨_,rfl⟩
 have cX:c*X<=10*g:=by
  rw[hX];generalize S-(s*k+c*t)=A1 at *;generalize y*(C-(c*k-s*t))=A3 at *;generalize k*(s-z*c)=A4 at *;generalize t*(y*(s-z*c))=A5 at *;generalize S-y*C=A7 at *
  grind
 by_cases x0:X<=0
 ·grind
 ·have:=Rat.mul_nonneg (show 0<=c-2/3 by grind) (show 0<=X by grind)
  grind
theorem ang_lip{v u:Int}(h0:0<=v)(h:v<=u)(h1:u<=SC)(near:(u-v)*1099511627776<=SC):pAng u*SR<=pAng v*SR+152/100*((u-v:Int):Rat)+40:=by
 have sp:=sr_pos
 have hr:=Rat.intCast_le_intCast.2 (show (0:Int)<=u-v by omega)
 rw[Rat.intCast_zero]at hr
 by_cases hle:pAng u<=pAng v
 ·have:=Rat.mul_le_mul_of_nonneg_right hle (Rat.le_of_lt sp)
  grind
 obtain⟨d,hd⟩:∃d,pAng u=pAng v+d:=⟨pAng u-pAng v,by grind⟩
 obtain⟨b1,b2⟩:=ang_bd13 h0 (by omega:v<=SC);obtain⟨a1,a2⟩:=ang_bd13 (by omega:0<=u) h1;obtain⟨q1,q2⟩:=qt_bd
 have d0:0<=d:=by grind
 have d2:d<=3/2:=by grind
 obtain⟨yv0,yv1⟩:=part_bd h0 (by omega:v<=SC);obtain⟨yu0,yu1⟩:=part_bd (by omega:0<=u) h1
 have yle:(v:Rat) /SR<=(u:Rat) /SR:=Rat.le_of_mul_le_mul_right (c:=SR) (by rw[frac_at,frac_at];exact Rat.intCast_le_intCast.2 h) sp
 obtain⟨sv1,sv2⟩:=slope_e h0 (by omega:v<=SC);obtain⟨su1,su2⟩:=slope_e (by omega:0<=u) h1;have cv:=ang_cos h0 (by omega:v<=SC);obtain⟨p1,p2⟩:=sin_add (m:=pAng v) (h:=d) (by grind) (by grind) (by grind) (by grind);obtain⟨p3,p4⟩:=cos_add (m:=pAng v) (h:=d) (by grind) (by grind) (by grind) (by grind);have bd:=cs_bd (x:=d) (by grind) (by grind);rw[hd]at su1 su2
 have p1':=tiny_lo p1
 have p2':=tiny_hi p2
 have p3':=tiny_lo p3
 have p4':=tiny_hi p4
 obtain⟨e1,e2,e3,e4,e7,e5,e6⟩:=eps_h;have low:=sin_low d0 (by grind)
 have o1:(1:Rat) /SR*SR=1:=Rat.div_mul_cancel (Rat.ne_of_gt sp)
 have g0:(0:Rat)<=1/SR:=by
  refine Rat.le_of_mul_le_mul_right (c:=SR) ?_ sp;rw[o1]
  grind
 have key:sinT d<=101/100*((u:Rat) /SR-(v:Rat) /SR)+20*(1/SR):=by
  have o3:(3:Rat) /SR=3*(1/SR):=by
   have:(3:Rat) /SR*SR=3:=Rat.div_mul_cancel (Rat.ne_of_gt sp)
   refine Rat.le_antisymm (Rat.le_of_mul_le_mul_right (c:=SR) ?_ sp) (Rat.le_of_mul_le_mul_right (c:=SR) ?_ sp) <;> grind
  rw[o3]at su1 su2 sv1 sv2;exact apart2 yu0 yu1 yv0 yv1 yle su1 su2 sv1 sv2 cv bd.1.1 bd.1.2 (by grind) bd.2.2 p1' p2' p3' p4' e4 e5 g0
 -- so it is small,and the sine is two thirds of it at least
 have fu:=frac_at u;have fv:=frac_at v;have nr:=Rat.intCast_le_intCast.2 near
 rw[Rat.intCast_mul,Rat.intCast_sub,show ((1099511627776:Int):Rat)=1099511627776 from rfl]at nr
 have dif:((u:Rat) /SR-(v:Rat) /SR)*SR=((u-v:Int):Rat):=by
  rw[Rat.intCast_sub]
  grind
 have small:(u:Rat) /SR-(v:Rat) /SR<=1/1000:=by
  refine Rat.le_of_mul_le_mul_right (c:=SR) ?_ sp
  grind
 have g1:(1:Rat) /SR<=1/10000:=by
  refine Rat.le_of_mul_le_mul_right (c:=SR) ?_ sp;rw[o1]
  have:=big_sr
  grind
 have dh:d<=1/2:=by grind
 have z:=sin_zero
 have r:=Df.rise (B:=2) (k:=2/3) (by grind) sin_df (a:=1/2) (x:=0) (h:=d) d0 (by grind) (by grind) (by grind) (by grind) (by grind) (fun y y1 y2=>cos_low y1 y2)
 rw[show (0:Rat)+d=d by grind,z]at r
 have fin:d<=152/100*((u:Rat) /SR-(v:Rat) /SR)+30*(1/SR):=by grind
 have m:=Rat.mul_le_mul_of_nonneg_right fin (Rat.le_of_lt sp);rw[hd];rw[<-dif]
 grind
theorem opl_two_eq:opl 2=1+(1048576-62)*9223372036854775808:=by decide
theorem gap_pos{p:Int}(h0:9223372036854775808 < p)(h1:p < opl 2):(vr (p+1)-vr p)*9223372036854775808<=2^KK:=by
 have e2:=opl_two_eq;obtain⟨M,hM⟩:∃M,M=(p-1)%9223372036854775808+9223372036854775808:=⟨_,rfl⟩;obtain⟨E,hE⟩:∃E,E=(p-1) /9223372036854775808-1048576:=⟨_,rfl⟩
 have eq:p=M-9223372036854775808+1+(E+1048576)*9223372036854775808:=by omega
 obtain⟨a,b,_⟩:=vr_gap (M:=M) (E:=E) (by omega) (by omega) (by omega);rw[<-eq]at a b;rw[a,b];have hk:=KK_eq
 have k:(2:Int)^KK=2^(E+KK).toNat*9223372036854775808*2^(-63-E).toNat:=by
  rw[show (9223372036854775808:Int)=2^63 by decide,<-Int.pow_add,<-Int.pow_add]
  congr 1
  omega
 rw[k];have p1:=p2pos (-63-E).toNat;have p2:=p2pos (E+KK).toNat
 have m:=Int.mul_le_mul_of_nonneg_left (show 1<=(2:Int)^(-63-E).toNat by omega) (show 0<=(2:Int)^(E+KK).toNat*9223372036854775808 by omega)
 rw[Int.mul_one]at m;generalize (2:Int)^(E+KK).toNat=x at *
 omega
theorem gap_nn{p:Int}(h0:0<=p)(h1:p < opl 2):(vr (p+1)-vr p)*9223372036854775808<=2^KK:=by
 have e2:=opl_two_eq
 by_cases c:9223372036854775808 < p
 ·exact gap_pos c h1
 ·by_cases z:p=0
  ·subst z;have v1:=vp_one;have hk:=KK_eq
   have e:vr (0+1)=2^(63-1048576+(KK:Int)).toNat:=by
    rw[show vr (0+1)=vp 1 from rfl]
    exact v1
   rw[e,show vr 0=0 from rfl,Int.sub_zero,show (9223372036854775808:Int)=2^63 by decide,<-Int.pow_add]
   obtain⟨n,hn⟩:∃n:Nat,KK=(63-1048576+(KK:Int)).toNat+63+n:=⟨1048576-126,by omega⟩
   have k:(2:Int)^KK=2^((63-1048576+(KK:Int)).toNat+63)*2^n:=by
    rw[<-Int.pow_add,<-hn]
   rw[k];have p1:=p2pos n;have p2:=p2pos ((63-1048576+(KK:Int)).toNat+63)
   have m:=Int.mul_le_mul_of_nonneg_left (show 1<=(2:Int)^n by omega) (Int.le_of_lt p2)
   rw[Int.mul_one]at m;exact m
  ·have s1:=vr_shift (r:=p) (by omega);have s2:=vr_shift (r:=p+1) (by omega);have g:=gap_pos (p:=p+9223372036854775808) (by omega) (by omega)
   have lt:=vr_lt (show p < p+1 by omega)
   rw[show p+9223372036854775808+1=p+1+9223372036854775808 by omega,s1,s2]at g
   omega
theorem gap{p:Int}(h0: -opl 2<=p)(h1:p < opl 2):(vr (p+1)-vr p)*9223372036854775808<=2^KK:=by
 by_cases c:0<=p
 ·exact gap_nn c h1
 ·have g:=gap_nn (p:= -p-1) (by omega) (by omega)
  rw[show -p-1+1= -p by omega,show -p-1= -(p+1) by omega,vr_neg,vr_neg]at g
  omega
def V (p:Int):Rat:=((vr p:Int):Rat) /BR
theorem V_at (p:Int):V p*BR=((vr p:Int):Rat):=Rat.div_mul_cancel (Rat.ne_of_gt br_pos)
theorem V_le{p r:Int}(h:p<=r):V p<=V r:=Rat.le_of_mul_le_mul_right (c:=BR) (by rw[V_at,V_at];exact Rat.intCast_le_intCast.2 (vr_le h)) br_pos
theorem V_gap{p:Int}(h0: -opl 2<=p)(h1:p < opl 2):V (p+1)<=V p+1/9223372036854775808:=by
 have g:=Rat.intCast_le_intCast.2 (gap h0 h1)
 rw[Rat.intCast_mul,Rat.intCast_sub,show ((9223372036854775808:Int):Rat)=9223372036854775808 from rfl,show ((2^KK:Int):Rat)=BR from rfl]at g
 have a:=V_at (p+1);have b:=V_at p;refine Rat.le_of_mul_le_mul_right (c:=BR) ?_ br_pos
 grind
theorem V_neg (p:Int):V (-p)= -V p:=by
 have a:=V_at (-p);have b:=V_at p;rw[vr_neg,Rat.intCast_neg]at a;have hp:=br_pos;refine Rat.le_antisymm (Rat.le_of_mul_le_mul_right (c:=BR) ?_ hp) (Rat.le_of_mul_le_mul_right (c:=BR) ?_ hp) <;> grind
theorem V_dn{l r:Int}(hr:Rq false l SC r)(h1: -(2*SC)<=l)(h2:l < 2*SC):(l:Rat)<=V r*SR+1/9223372036854775808*SR:=by
 obtain⟨o1,o2⟩:=two_bd;have b:=rq_two hr h1 (by omega);have s:=rq_sid hr;rw[sid_f]at s;obtain⟨_,_,s3,s4⟩:=s
 have rl:r < opl 2:=by
  rcases Int.lt_or_le r (opl 2)with c | c
  ·exact c
  ·exfalso
   have e:vr (opl 2)=2*2^KK:=opl_vr (by decide) (by decide)
   have k:=s3 (by omega);have v:=vr_le c;rw[e]at v;have m:=Int.mul_le_mul_of_nonneg_right v (Int.le_of_lt sc_pos);have n:=Int.mul_lt_mul_of_pos_right h2 (p2pos KK)
   rw[show 2*2^KK*SC=2*SC*2^KK by rw[Int.mul_assoc,Int.mul_assoc,Int.mul_comm (2^KK)]]at m
   omega
 have k:=Rat.intCast_le_intCast.2 (Int.le_of_lt (s4 (by omega)))
 rw[Rat.intCast_mul,Rat.intCast_mul,show ((2^KK:Int):Rat)=BR from rfl,<-V_at]at k
 have g:=V_gap b.1 rl;have m:=Rat.mul_le_mul_of_nonneg_right g (Rat.le_of_lt (Rat.mul_pos sr_pos br_pos));refine Rat.le_of_mul_le_mul_right (c:=BR) ?_ br_pos;generalize (1/9223372036854775808:Rat)=e at *
 grind
theorem V_up{h u:Int}(hu:Rq true h SC u)(h1: -(2*SC) < h)(h2:h<=2*SC):V u*SR<=(h:Rat)+1/9223372036854775808*SR:=by
 have n:Rq false (-h) SC (-u):=by
  have s:=(rq_sid hu).neg
  rw[show (!true)=false from rfl,<-Int.neg_mul]at s
  rw[rq_some (by decide),show sgi (decide (SC < 0)) SC=SC from rfl,show sgi (decide (SC < 0)) (-h)= -h from rfl]
  exact s
 have k:=V_dn n (by omega) (by omega);rw[V_neg,Rat.intCast_neg]at k;generalize (1/9223372036854775808:Rat)=e at *
 grind
theorem V_two:V (opl 2)=2:=by
 have e:vr (opl 2)=2*2^KK:=opl_vr (by decide) (by decide)
 have a:=V_at (opl 2)
 rw[e,Rat.intCast_mul,show ((2^KK:Int):Rat)=BR from rfl,show ((2:Int):Rat)=2 from rfl]at a
 have hp:=br_pos;refine Rat.le_antisymm (Rat.le_of_mul_le_mul_right (c:=BR) ?_ hp) (Rat.le_of_mul_le_mul_right (c:=BR) ?_ hp) <;> grind
theorem V_lt{p r:Int}(h:V p < V r):p < r:=by
 rcases Int.lt_or_le p r with c | c
 ·exact c
 ·exact absurd (V_le c) (Rat.not_le.2 h)
theorem V_add_dn{x y p:Int}(h:Dn (vr x+vr y) p)(h1: -2<=V x+V y)(h2:V x+V y < 2):V x+V y<=V p+1/9223372036854775808:=by
 obtain⟨o1,o2⟩:=two_bd;obtain⟨a1,a2,a3,a4⟩:=h;have vt:=V_two;have bp:=br_pos
 have nt:V (-opl 2)= -2:=by rw[V_neg,vt]
 have pu:p < opl 2:=by
  rcases Int.lt_or_le p (opl 2)with c | c
  ·exact c
  ·exfalso
   have k:=Rat.intCast_le_intCast.2 (a3 (by omega));rw[Rat.intCast_add,<-V_at,<-V_at,<-V_at]at k;have m:=Rat.mul_le_mul_of_nonneg_right (V_le c) (Rat.le_of_lt bp);rw[vt]at m;have n:=Rat.mul_lt_mul_of_pos_right h2 bp
   grind
 have pl: -opl 2<=p:=by
  rcases Int.lt_or_le p (-opl 2)with c | c
  ·exfalso
   have k:=Rat.intCast_lt_intCast.2 (a4 (by omega));rw[Rat.intCast_add,<-V_at,<-V_at,<-V_at]at k
   have m:=Rat.mul_le_mul_of_nonneg_right (V_le (show p+1<= -opl 2 by omega)) (Rat.le_of_lt bp)
   rw[nt]at m;have n:=Rat.mul_le_mul_of_nonneg_right h1 (Rat.le_of_lt bp)
   grind
  ·exact c
 have k:=Rat.intCast_lt_intCast.2 (a4 (by omega));rw[Rat.intCast_add,<-V_at,<-V_at,<-V_at]at k;have g:=V_gap pl pu;have m:=Rat.mul_le_mul_of_nonneg_right g (Rat.le_of_lt bp);refine Rat.le_of_mul_le_mul_right (c:=BR) ?_ bp;generalize (1/9223372036854775808:Rat)=e at *
 grind
theorem V_add_up{x y p:Int}(h:Up (vr x+vr y) p)(h1: -2 < V x+V y)(h2:V x+V y<=2):V p<=V x+V y+1/9223372036854775808:=by
 have n:Dn (vr (-x)+vr (-y)) (-p):=by
  rw[vr_neg,vr_neg,show -vr x+ -vr y= -(vr x+vr y) by omega]
  exact h
 have k:=V_add_dn n (by rw[V_neg,V_neg];grind) (by rw[V_neg,V_neg];grind);rw[V_neg,V_neg,V_neg]at k;generalize (1/9223372036854775808:Rat)=e at *
 grind
theorem wid_of{a b:Int}(h1: -opl 2-1<=a)(h2:b<=opl 2+1)(hab:a<=b)(h:V b<=V a+8/9223372036854775808):widI (some (a,b))<=p60:=by
 obtain⟨o1,o2⟩:=two_bd;have e2:=opl_two_eq;have s:=(addp_spec (x:=b) (y:= -a) true (by omega) (by omega) (by omega) (by omega)).2;rw[vr_neg]at s
 have w:vr b-vr a<=vr p60:=by
  refine Rat.intCast_le_intCast.1 ?_;rw[Rat.intCast_sub,<-V_at,<-V_at]
  have q:((vr p60:Int):Rat)*1152921504606846976=BR:=by
   have p:vr p60*1152921504606846976=2^KK:=p60_vr
   have p':=congrArg (fun z:Int=>z) p
   have c:((vr p60*1152921504606846976:Int):Rat)=((2^KK:Int):Rat):=by rw[p]
   rw[Rat.intCast_mul]at c;exact c
  have m:=Rat.mul_le_mul_of_nonneg_right h (Rat.le_of_lt br_pos);generalize ((vr p60:Int):Rat)=W at *
  grind
 exact s.mono (up_self (r:=p60) (by decide) (by decide)) (by omega)
theorem eps_m:(1000000:Rat)<=1/9223372036854775808*SR/\(0:Rat)<=1/9223372036854775808/\(1/9223372036854775808:Rat)<=1/1000/\(1000000:Rat)<=SR:=by decide +kernel
theorem part_V{v:Int}{Z:Sp}(h:PartS v Z)(h0:0<=v)(h1:v<=SC):∃r u,Z=some (r,u)/\r<=u/\ -opl 2<=r/\u<=opl 2/\pAng v*SR-1500<=V r*SR+1/9223372036854775808*SR/\V u*SR<=pAng v*SR+1500+1/9223372036854775808*SR:=by
 obtain⟨f,_,_⟩:=h.is h0 h1;obtain⟨r,u,hr,hu,hz⟩:=h;obtain⟨f1,f2⟩:=ang_far h0 h1;obtain⟨w1,w2⟩:=ang_within h0 h1;obtain⟨b1,b2⟩:=ang_bd13 h0 h1;have sp:=sr_pos;have n1:=Rat.mul_le_mul_of_nonneg_right b1 (Rat.le_of_lt sp);have n2:=Rat.mul_le_mul_of_nonneg_right b2 (Rat.le_of_lt sp)
 rw[Rat.intCast_add,show ((214:Int):Rat)=214 from rfl]at w1
 rw[Rat.intCast_sub,show ((214:Int):Rat)=214 from rfl]at w2
 obtain⟨e1,e2,e3,e4⟩:=eps_m
 have lo: -(2*SC)+1<=pL v:=Rat.intCast_le_intCast.1 (by
  rw[Rat.intCast_add,Rat.intCast_neg,Rat.intCast_mul,show ((2:Int):Rat)=2 from rfl,show ((1:Int):Rat)=1 from rfl]
  grind)
 have hi:pH v<=2*SC-1:=Rat.intCast_le_intCast.1 (by
  rw[Rat.intCast_sub,Rat.intCast_mul,show ((2:Int):Rat)=2 from rfl,show ((1:Int):Rat)=1 from rfl]
  grind)
 have le:pL v<=pH v:=Rat.intCast_le_intCast.1 (by grind)
 have R:=rq_two hr (by omega) (by omega);have U:=rq_two hu (by omega) (by omega);obtain⟨e,_⟩:=from_to hr hu hz le (by omega) (by omega);have vd:=V_dn hr (by omega) (by omega);have vu:=V_up hu (by omega) (by omega);refine⟨r,u,e,rq_pair hr hu le,R.1,U.2,?_,?_⟩
 ·exact Rat.le_trans f1 vd
 ·generalize (1/9223372036854775808:Rat)*SR=x at *
  grind
theorem half_V{Z:Sp}(h:HalfS Z):∃r u,Z=some (r,u)/\r<=u/\ -opl 2<=r/\u<=opl 2/\qt*SR-1500<=V r*SR+1/9223372036854775808*SR/\V u*SR<=qt*SR+1500+1/9223372036854775808*SR:=by
 obtain⟨r,u,hr,hu,hz⟩:=h;have R:=rq_two hr (by decide) (by decide);have U:=rq_two hu (by decide) (by decide);obtain⟨e,_⟩:=from_to hr hu hz (by decide) (by decide) (by decide);have vd:=V_dn hr (by decide) (by decide);have vu:=V_up hu (by decide) (by decide)
 have k:qt*SR-1500<=((PLo/2:Int):Rat)/\((PHi/2+1:Int):Rat)<=qt*SR+1500:=by decide +kernel
 refine⟨r,u,e,rq_pair hr hu (by decide),R.1,U.2,?_,?_⟩
 ·exact Rat.le_trans k.1 vd
 ·generalize (1/9223372036854775808:Rat)*SR=x at *
  grind
theorem wid_neg{Y:Sp}(h:SpOk Y):widI (negI Y)=widI Y:=by
 rcases Y with _ | ⟨a,b⟩
 ·rfl
 ·rw[negI_some h]
  show addp true (-a) (- -b)=addp true b (-a)
  rw[Int.neg_neg];exact addp_comm true
theorem AtP.tight{q:Bool->Int->Int->Int}(hq:QF q){n:Int}{Z:Sp}(h:AtP q n Z)(h0:0<=n)(h1:n<=19342822337206103650074625):∃a b,Z=some (a,b)/\a<=b/\ -opl 2-1<=a/\b<=opl 2+1/\widI Z<=p60:=by
 obtain⟨q1,q2⟩:=qt_bd;have sp:=sr_pos;obtain⟨e1,e2,e3,e4⟩:=eps_m
 rcases h with⟨_,h⟩ | ⟨_,c,h⟩ | ⟨e,c,H,l,k,hH,hl,hk,hz⟩
 ·obtain⟨r,u,rfl,ru,r2,u2,a,b⟩:=half_V h;refine⟨r,u,rfl,ru,by omega,by omega,wid_of (by omega) (by omega) ru (Rat.le_of_mul_le_mul_right (c:=SR) ?_ sp)⟩
  have e8:(8/9223372036854775808:Rat)=8*(1/9223372036854775808):=by decide +kernel
  rw[e8];generalize (1/9223372036854775808:Rat)=e at *
  grind
 ·obtain⟨_,a0,a1⟩:=fix_unit h0 c;obtain⟨r,u,rfl,ru,r2,u2,a,b⟩:=part_V h a0 a1;refine⟨r,u,rfl,ru,by omega,by omega,wid_of (by omega) (by omega) ru (Rat.le_of_mul_le_mul_right (c:=SR) ?_ sp)⟩
  have e8:(8/9223372036854775808:Rat)=8*(1/9223372036854775808):=by decide +kernel
  rw[e8];generalize (1/9223372036854775808:Rat)=e at *
  grind
 ·obtain⟨b1,b2,b3⟩:=inv_bd hq c (by omega);obtain⟨f1,a1,a2⟩:=fix_unit b1 (by omega)
  obtain⟨f2,a3,a4⟩:=fix_unit (show 0<=q true (opl 1) n by omega) b3
  have vv:=fix_up f1 f2 b2;obtain⟨rh,uh,rfl,h2,h3,h4,h5,h6⟩:=half_V hH;obtain⟨r1,u1,rfl,l2,l3,l4,l5,l6⟩:=part_V hl a1 a2;obtain⟨r2,u2,rfl,k2,k3,k4,k5,k6⟩:=part_V hk a3 a4;have m:=ang_mono a1 vv a4;obtain⟨w1,w2⟩:=ang_bd13 a1 a2;obtain⟨w3,w4⟩:=ang_bd13 a3 a4;have mo:=ang_mono a3 a4 (Int.le_refl SC);rw[ang_one]at mo;obtain⟨o1,o2⟩:=two_bd
  -- both quotients are neighbours
  have nb:q true (opl 1) n=q false (opl 1) n\/q true (opl 1) n=q false (opl 1) n+1:=by
   obtain⟨ob1,ob2⟩:=one_bd
   have n0:0 < n:=by omega
   have s1:=qt_sid (hq false (opl 1) n) n0 (infp_fin (by omega) ob2) (infp_fin (by omega) (by omega));have s2:=qt_sid (hq true (opl 1) n) n0 (infp_fin (by omega) ob2) (infp_fin (by omega) (by omega))
   rcases sid_two (vr_pos n0) s1 s2 with⟨x,_⟩ | ⟨x,_⟩
   ·exact .inl x
   ·exact .inr x
  have o12:opl 1 < opl 2:=by decide
  have vq:V (q true (opl 1) n)<=V (q false (opl 1) n)+1/9223372036854775808:=by
   rcases nb with x | x
   ·rw[x];generalize (1/9223372036854775808:Rat)=e at *
    grind
   ·have g:=V_gap (p:=q false (opl 1) n) (by omega) (by omega);rw[<-x]at g;exact g
  -- so their fixed numbers are close by
  have z1:=zp_in f1;have z2:=zp_in f2
  have zv:∀p,zp p=V p*SR:=fun p=>by
   unfold zp V
   have hp:=Rat.ne_of_gt br_pos;have x1:=Rat.div_mul_cancel (a:=((vr p:Int):Rat)*SR) hp;have x2:=Rat.div_mul_cancel (a:=((vr p:Int):Rat)) hp;refine Rat.le_antisymm (Rat.le_of_mul_le_mul_right (c:=BR) ?_ br_pos) (Rat.le_of_mul_le_mul_right (c:=BR) ?_ br_pos) <;> grind
  rw[zv,Rat.intCast_add,show ((1:Int):Rat)=1 from rfl]at z1 z2
  have vqs:=Rat.mul_le_mul_of_nonneg_right vq (Rat.le_of_lt sp);generalize hv1:fixI (q false (opl 1) n)=v1 at *;generalize hv2:fixI (q true (opl 1) n)=v2 at *
  have dv:((v2-v1:Int):Rat)<=1/9223372036854775808*SR+1:=by
   rw[Rat.intCast_sub];generalize (1/9223372036854775808:Rat)=e at *
   grind
  have near:(v2-v1)*1099511627776<=SC:=Rat.intCast_le_intCast.1 (by
   rw[Rat.intCast_mul,show ((1099511627776:Int):Rat)=1099511627776 from rfl]
   have x:(1/9223372036854775808*SR+1)*1099511627776<=SR:=by decide +kernel
   have y:=Rat.mul_le_mul_of_nonneg_right dv (show (0:Rat)<=1099511627776 by decide +kernel)
   exact Rat.le_trans y x)
  have lip:=ang_lip a1 vv a4 near
  -- the hull
  have okl:SpOk (some (r1,u1)):=⟨by omega,l2,by omega,by omega,by omega⟩
  have okh:SpOk (some (r2,u2)):=⟨by omega,k2,by omega,by omega,by omega⟩
  rw[hullI_some okl okh]at hz
  have hul:V (max u1 u2)*SR<=pAng v2*SR+1650+1/9223372036854775808*SR:=by
   rcases (by omega:max u1 u2=u1\/max u1 u2=u2)with x | x <;> rw[x]
   ·generalize (1/9223372036854775808:Rat)*SR=y at *
    grind
   ·generalize (1/9223372036854775808:Rat)*SR=y at *
    grind
  have hll:pAng v1*SR-1650<=V (min r1 r2)*SR+1/9223372036854775808*SR:=by
   rcases (by omega:min r1 r2=r1\/min r1 r2=r2)with x | x <;> rw[x]
   ·generalize (1/9223372036854775808:Rat)*SR=y at *
    grind
   ·generalize (1/9223372036854775808:Rat)*SR=y at *
    grind
  have rb: -opl 2<=min r1 r2:=by omega
  have ub:max u1 u2<=opl 2:=by omega
  have ru:min r1 r2<=max u1 u2:=by omega
  generalize min r1 r2=ru1 at *;generalize max u1 u2=uu1 at *
  have okU:SpOk (some (ru1,uu1)):=⟨by omega,ru,by omega,by omega,by omega⟩
  have sd:=(addp_spec (x:=rh) (y:= -uu1) true (by omega) (by omega) (by omega) (by omega)).1;have su:=(addp_spec (x:=uh) (y:= -ru1) true (by omega) (by omega) (by omega) (by omega)).2;have n1:=Rat.mul_le_mul_of_nonneg_right w1 (Rat.le_of_lt sp);have n4:=Rat.mul_le_mul_of_nonneg_right w4 (Rat.le_of_lt sp);have n5:=Rat.mul_le_mul_of_nonneg_right q1 (Rat.le_of_lt sp);have n6:=Rat.mul_le_mul_of_nonneg_right q2 (Rat.le_of_lt sp)
  have x3:=Rat.mul_le_mul_of_nonneg_right e3 (Rat.le_of_lt sp)
  have dlo:=V_add_dn sd (by
   rw[V_neg];refine Rat.le_of_mul_le_mul_right (c:=SR) ?_ sp;generalize (1/9223372036854775808:Rat)*SR=y at *
   grind) (by
   rw[V_neg];refine Rat.lt_of_mul_lt_mul_right (c:=SR) ?_ (Rat.le_of_lt sp);have hv:=Rat.mul_le_mul_of_nonneg_right (V_le h2) (Rat.le_of_lt sp);have uv:=Rat.mul_le_mul_of_nonneg_right (V_le ru) (Rat.le_of_lt sp);generalize (1/9223372036854775808:Rat)*SR=y at *
   grind)
  have dup:=V_add_up su (by
   rw[V_neg];refine Rat.lt_of_mul_lt_mul_right (c:=SR) ?_ (Rat.le_of_lt sp);have hv:=Rat.mul_le_mul_of_nonneg_right (V_le h2) (Rat.le_of_lt sp);have uv:=Rat.mul_le_mul_of_nonneg_right (V_le ru) (Rat.le_of_lt sp);generalize (1/9223372036854775808:Rat)*SR=y at *
   grind) (by
   rw[V_neg];refine Rat.le_of_mul_le_mul_right (c:=SR) ?_ sp;generalize (1/9223372036854775808:Rat)*SR=y at *
   grind)
  rw[V_neg]at dlo dup;have s3:=addp_spec (x:=uh) (y:= -ru1) true (by omega) (by omega) (by omega) (by omega)
  have ab:addp false rh (-uu1)<=addp true uh (-ru1):=by
   refine Int.le_trans (sd.mono s3.1 ?_) (dn_le_up s3.1 s3.2);have x1:=vr_le h2;have x2:=vr_le ru;rw[vr_neg,vr_neg]
   omega
  have eqZ:subI (some (rh,uh)) (some (ru1,uu1))=some (addp false rh (-uu1),addp true uh (-ru1)):=by
   show addI (some (rh,uh)) (negI (some (ru1,uu1)))=_
   rw[negI_some okU];exact mkI_some ab (by have:=sd.2.1;omega) (by have:=su.2.1;omega)
  rw[hz,eqZ];generalize addp false rh (-uu1)=a at *;generalize addp true uh (-ru1)=b at *
  have v0:V 0=0:=by
   have x:=V_neg 0
   rw[show (-0:Int)=0 from rfl]at x
   grind
  have va:V 0 < V a:=by
   rw[v0];refine Rat.lt_of_mul_lt_mul_right (c:=SR) ?_ (Rat.le_of_lt sp);have y2:=Rat.mul_le_mul_of_nonneg_right dlo (Rat.le_of_lt sp);clear dlo dup su sd s3 hz eqZ;generalize hy:(1/9223372036854775808:Rat)=e at *;obtain⟨y,hy2⟩:∃y,y=e*SR:=⟨_,rfl⟩
   grind
  have vb:V b < V (opl 2):=by
   rw[V_two];refine Rat.lt_of_mul_lt_mul_right (c:=SR) ?_ (Rat.le_of_lt sp);have y2:=Rat.mul_le_mul_of_nonneg_right dup (Rat.le_of_lt sp);clear dlo dup su sd s3 hz eqZ;generalize (1/9223372036854775808:Rat)=e at *
   grind
  have a0:=V_lt va;have b0:=V_lt vb;refine⟨a,b,rfl,ab,by omega,by omega,wid_of (by omega) (by omega) ab (Rat.le_of_mul_le_mul_right (c:=SR) ?_ sp)⟩
  have y1:=Rat.mul_le_mul_of_nonneg_right dlo (Rat.le_of_lt sp);have y2:=Rat.mul_le_mul_of_nonneg_right dup (Rat.le_of_lt sp)
  have e8:(8/9223372036854775808:Rat)=8*(1/9223372036854775808):=by decide +kernel
  rw[e8];clear dlo dup su sd s3 hz eqZ va vb;generalize (1/9223372036854775808:Rat)=e at *
  grind
theorem AtV.tight{q:Bool->Int->Int->Int}(hq:QF q){n:Int}{Z:Sp}(h:AtV q n Z)(h0: -19342822337206103650074625<=n)(h1:n<=19342822337206103650074625):∃a b,Z=some (a,b)/\a<=b/\ -opl 2-1<=a/\b<=opl 2+1/\widI Z<=p60:=by
 rcases h with⟨c,Y,hY,rfl⟩ | ⟨c,h⟩
 ·obtain⟨a,b,rfl,ab,b1,b2,w⟩:=hY.tight hq (by omega) (by omega);have ok:=(hY.ok hq (by omega) (by omega)).1;rw[wid_neg ok,negI_some ok];exact⟨-b,-a,rfl,by omega,by omega,by omega,w⟩
 ·exact h.tight hq (by omega) h1
theorem HalfS.one{Z Y:Sp}(h:HalfS Z)(k:HalfS Y):Z=Y:=by
 obtain⟨r,u,hr,hu,rfl⟩:=h;obtain⟨r',u',hr',hu',rfl⟩:=k;rw[hr.uniq hr',hu.uniq hu']
theorem PartS.one{v:Int}{Z Y:Sp}(h:PartS v Z)(k:PartS v Y):Z=Y:=by
 obtain⟨r,u,hr,hu,rfl⟩:=h;obtain⟨r',u',hr',hu',rfl⟩:=k;rw[hr.uniq hr',hu.uniq hu']
theorem AtP.one{q:Bool->Int->Int->Int}{n:Int}{Z Y:Sp}(h:AtP q n Z)(k:AtP q n Y):Z=Y:=by
 rcases h with⟨a,h⟩ | ⟨a,b,h⟩ | ⟨a,b,H,l,u,h1,h2,h3,rfl⟩
 ·rcases k with⟨_,k⟩ | ⟨c,_⟩ | ⟨c,_⟩
  ·exact h.one k
  ·exact absurd a c
  ·exact absurd a c
 ·rcases k with⟨c,_⟩ | ⟨_,_,k⟩ | ⟨_,c,_⟩
  ·exact absurd c a
  ·exact h.one k
  ·exact absurd b c
 ·rcases k with⟨c,_⟩ | ⟨_,c,_⟩ | ⟨_,_,H',l',u',k1,k2,k3,rfl⟩
  ·exact absurd c a
  ·exact absurd c b
  ·rw[h1.one k1,h2.one k2,h3.one k3]
theorem AtV.one{q:Bool->Int->Int->Int}{n:Int}{Z Y:Sp}(h:AtV q n Z)(k:AtV q n Y):Z=Y:=by
 rcases h with⟨a,Z',h,rfl⟩ | ⟨a,h⟩
 ·rcases k with⟨_,Y',k,rfl⟩ | ⟨c,_⟩
  ·rw[h.one k]
  ·exact absurd a c
 ·rcases k with⟨c,_⟩ | ⟨_,k⟩
  ·exact absurd c a
  ·exact h.one k
def FinP (x:Int):Prop:= -19342822337206103650074625 < x/\x < 19342822337206103650074625
def PiS:Sp:=some (PIL,PIL+1)
theorem PiS.fin:FinI PiS:=⟨by decide,by decide,by decide⟩
theorem PiS.holds:LoR (2*qt) PiS/\HiR (2*qt) PiS:=by
 obtain⟨h1,h2⟩:=half_turn;exact⟨rq_lo pi_lo h1,rq_hi pi_hi h2⟩
def AngV (q:Bool->Int->Int->Int)(y x:Int)(Z:Sp):Prop:=
 (x=0/\∃H,HalfS H/\Z=if y < 0 then negI H else H)\/
 (x≠0/\∃P Q,AtV q (q false y x) P/\AtV q (q true y x) Q/\Z=if 0 < x then hullI P Q else if y < 0 then subI (hullI P Q) PiS else addI PiS (hullI P Q))
def In4 (k:Int)(Z:Sp):Prop:=∃a b,Z=some (a,b)/\ -k<=a/\a<=b/\b<=k
theorem In4.fin{k:Int}{Z:Sp}(h:In4 k Z)(hk:k < 19342822337206103650074625):FinI Z:=by
 obtain⟨a,b,rfl,h1,h2,h3⟩:=h;exact⟨h2,by omega,by omega⟩
theorem four_bd:0 < opl 4/\opl 4 < opl 8/\opl 8 < 19342822337206103650074625/\opl 2+1<=opl 4/\PIL+1<=opl 4/\ -opl 4<=PIL:=by decide
theorem In4.add{Z Y:Sp}(h:In4 (opl 4) Z)(k:In4 (opl 4) Y):In4 (opl 8) (addI Z Y):=by
 obtain⟨f1,f2,f3,_⟩:=four_bd;obtain⟨a,b,rfl,h1,h2,h3⟩:=h;obtain⟨c,d,rfl,k1,k2,k3⟩:=k;have s:=addp_spec (x:=a) (y:=c) true (by omega) (by omega) (by omega) (by omega);have t:=addp_spec (x:=b) (y:=d) true (by omega) (by omega) (by omega) (by omega)
 have v4:vr (opl 4)=4*2^KK:=opl_vr (by decide) (by decide)
 have v8:vr (opl 8)=8*2^KK:=opl_vr (by decide) (by decide)
 have a1:=vr_le h1;have a2:=vr_le k1;have a3:=vr_le h3;have a4:=vr_le k3;have a5:=vr_le h2;have a6:=vr_le k2;rw[vr_neg]at a1 a2
 have m1: -opl 8<=addp false a c:=(dn_self (r:= -opl 8) (by omega) (by omega)).mono s.1 (by rw[vr_neg];omega)
 have m2:addp true b d<=opl 8:=t.2.mono (up_self (r:=opl 8) (by omega) (by omega)) (by omega)
 have m3:addp false a c<=addp true b d:=Int.le_trans (s.1.mono t.1 (by omega)) (dn_le_up t.1 t.2)
 exact⟨_,_,mkI_some m3 (by omega) (by omega),m1,m3,m2⟩
theorem In4.neg{k:Int}{Z:Sp}(h:In4 k Z)(hk:k < 19342822337206103650074625):In4 k (negI Z):=by
 obtain⟨a,b,rfl,h1,h2,h3⟩:=h;rw[negI_some ⟨by omega,h2,by omega,by omega,by omega⟩]
 exact⟨-b,-a,rfl,by omega,by omega,by omega⟩
theorem In4.sub{Z Y:Sp}(h:In4 (opl 4) Z)(k:In4 (opl 4) Y):In4 (opl 8) (subI Z Y):=h.add (k.neg (by have:=four_bd;omega))
theorem In4.up{Z:Sp}(h:In4 (opl 4) Z):In4 (opl 8) Z:=by
 obtain⟨f1,f2,_⟩:=four_bd;obtain⟨a,b,rfl,h1,h2,h3⟩:=h;exact⟨a,b,rfl,by omega,h2,by omega⟩
theorem PiS.in4:In4 (opl 4) PiS:=by
 obtain⟨_,_,_,_,f5,f6⟩:=four_bd;exact⟨_,_,rfl,f6,by omega,f5⟩
theorem HalfS.in4{Z:Sp}(h:HalfS Z):In4 (opl 4) Z:=by
 obtain⟨f1,f2,f3,f4,_⟩:=four_bd;obtain⟨r,u,rfl,ru,h1,h2,_⟩:=half_V h;exact⟨r,u,rfl,by omega,ru,by omega⟩
theorem hull_in4{q:Bool->Int->Int->Int}(hq:QF q){m n:Int}{P Q:Sp}(h:AtV q m P)(k:AtV q n Q)(m1:In m)(n1:In n):In4 (opl 4) (hullI P Q):=by
 obtain⟨f1,f2,f3,f4,_⟩:=four_bd;obtain⟨o1,o2⟩:=two_bd;obtain⟨a,b,rfl,ab,a1,a2,_⟩:=h.tight hq m1.1 m1.2;obtain⟨c,d,rfl,cd,c1,c2,_⟩:=k.tight hq n1.1 n1.2;rw[hullI_some ⟨by omega,ab,by omega,by omega,by omega⟩ ⟨by omega,cd,by omega,by omega,by omega⟩]
 exact⟨_,_,rfl,by omega,by omega,by omega⟩
theorem AngV.in8{q:Bool->Int->Int->Int}(hq:QF q){y x:Int}{Z:Sp}(h:AngV q y x Z):In4 (opl 8) Z:=by
 obtain⟨f1,f2,f3,f4,f5,f6⟩:=four_bd
 rcases h with⟨_,H,hH,rfl⟩ | ⟨_,P,Q,hP,hQ,rfl⟩
 ·split
  ·exact hH.in4.up.neg f3
  ·exact hH.in4.up
 ·have i:=hull_in4 hq hP hQ (hq.in false y x) (hq.in true y x)
  split
  ·exact i.up
  ·split
   ·exact i.sub PiS.in4
   ·exact PiS.in4.add i
end Go.Proofs.YtomikokonmikgaaGreatDoor
namespace Go.Proofs.YtomikokonmikgaaGreatDoor
set_option maxHeartbeats 8000000
open Go.RowKit
set_option linter.unusedVariables false
def FzI (x:Sp)(h:Nat):Prop:=∀a b,x=some (a,b)->Fz a h/\Fz b h
theorem FzI.mono{x:Sp}{h k:Nat}(f:FzI x h)(hk:h<=k):FzI x k:=fun a b e=>⟨(f a b e).1.mono hk,(f a b e).2.mono hk⟩
theorem FzI.mk{a b:Int}{h:Nat}(f:Fz a h)(g:Fz b h):FzI (mkI a b) h:=fun c d e=>by
 unfold mkI at e
 split at e
 ·cases e
  exact⟨f,g⟩
 ·cases e
theorem FzI.add{x y:Sp}{h:Nat}(hh:h<=90000)(f:FzI x h)(g:FzI y h):FzI (addI x y) (h+66):=by
 rcases x with _ | ⟨a,b⟩
 ·exact fun _ _ e=>by cases e
 rcases y with _ | ⟨c,d⟩
 ·exact fun _ _ e=>by cases e
 exact FzI.mk (addp_fz false hh (f a b rfl).1 (g c d rfl).1) (addp_fz true hh (f a b rfl).2 (g c d rfl).2)
def gone:List Sp->Bool
 | []=>false
 | none::_=>true
 | some _::l=>gone l
theorem gone_at:∀{l:List Sp} {k:Nat},k < l.length->l.getD k none=none->gone l=true
 | none::_,_,_,_=>rfl
 | some _::l,0,_,e=>by cases e
 | some _::l,k+1,h,e=>gone_at (l:=l) (k:=k) (Nat.lt_of_succ_lt_succ h) e
theorem gone_no:∀{l:List Sp},(∀k,k < l.length->l.getD k none≠none)->gone l=false
 | [],_=>rfl
 | none::l,h=>absurd rfl (h 0 (Nat.succ_pos _))
 | some _::l,h=>gone_no (l:=l) fun k hk=>h (k+1) (Nat.succ_lt_succ hk)
theorem gone_get:∀{l:List Sp} {k:Nat},gone l=false->k < l.length->∃a b,l.getD k none=some (a,b)
 | none::_,_,h,_=>by cases h
 | some (a,b)::l,0,_,_=>⟨a,b,rfl⟩
 | some _::l,k+1,h,hk=>gone_get (l:=l) (k:=k) h (Nat.lt_of_succ_lt_succ hk)
theorem gone_fold:∀l:List Sp,l.foldl addI none=none
 | []=>rfl
 | x::l=>gone_fold l
theorem gone_fold2:∀{l:List Sp} (x:Sp),gone l=true->l.foldl addI x=none
 | none::l,x,_=>by
  show l.foldl addI (addI x none)=none
  rw[add_none,gone_fold]
 | some _::l,x,h=>gone_fold2 (l:=l) _ h
theorem add_gone:∀{l:List Sp},gone l=true->addL l=none
 | none::l,_=>gone_fold l
 | some p::l,h=>gone_fold2 (l:=l) (some p) h
theorem addp_lt{x y:Int}(x1: -19342822337206103650074625<=x)(x2:x < 19342822337206103650074625)(y1: -19342822337206103650074625<=y)(y2:y < 19342822337206103650074625):addp false x y < 19342822337206103650074625:=by
 cases hx:infp x
 ·cases hy:infp y
  ·obtain⟨a,b⟩:=infp_false x1 (by omega) hx;obtain⟨c,d⟩:=infp_false y1 (by omega) hy;have h:=(addp_spec false a b c d).1.2.1
   omega
  ·rw[addp_ft false hx hy];exact y2
 ·have e:=infp_true hx
  cases hy:infp y
  ·rw[addp_tf false hx hy];exact x2
  ·have e2:=infp_true hy;rw[addp_same false hx (by omega)];exact x2
theorem addp_gt{x y:Int}(x1: -19342822337206103650074625 < x)(x2:x<=19342822337206103650074625)(y1: -19342822337206103650074625 < y)(y2:y<=19342822337206103650074625): -19342822337206103650074625 < addp true x y:=by
 have h:=addp_lt (x:= -x) (y:= -y) (by omega) (by omega) (by omega) (by omega);have e:=addp_neg (x:=x) (y:=y) true;rw[Bool.not_true]at e
 omega
theorem addI_some{a b c d:Int}(h:SpOk (some (a,b)))(k:SpOk (some (c,d))):addI (some (a,b)) (some (c,d))=some (addp false a c,addp true b d)/\SpOk (some (addp false a c,addp true b d)):=by
 obtain⟨h1,h2,h3,h4,h5⟩:=h;obtain⟨k1,k2,k3,k4,k5⟩:=k;have l1:=addp_lt h1 h4 k1 k4;have l2:=addp_gt h5 h3 k5 k3
 have l3:addp false a c<=addp true b d:=by
  refine Int.le_trans (addp_le2 false ⟨by omega,by omega⟩ ⟨by omega,by omega⟩ ⟨by omega,by omega⟩ ⟨by omega,by omega⟩ h2 k2) ?_;exact addp_le (by omega) (by omega) (by omega) (by omega)
 have b1:=addp_bd (x:=a) (y:=c) false (by omega) (by omega) (by omega) (by omega);have b2:=addp_bd (x:=b) (y:=d) true (by omega) (by omega) (by omega) (by omega)
 have o:SpOk (some (addp false a c,addp true b d)):=⟨b1.1,l3,b2.2,l1,l2⟩
 exact⟨o.mk,o⟩
theorem add_fold:∀{l:List Sp} {a b:Int},gone l=false->(∀y ∈ l,SpOk y)->SpOk (some (a,b))->l.foldl addI (some (a,b))=some ((lowL l).foldl (addp false) a,(highL l).foldl (addp true) b)/\SpOk (some ((lowL l).foldl (addp false) a,(highL l).foldl (addp true) b))
 | [],a,b,_,_,h=>⟨rfl,h⟩
 | none::l,_,_,h,_,_=>by cases h
 | some (c,d)::l,a,b,h,hl,hab=>by
  obtain⟨e,o⟩:=addI_some hab (hl (some (c,d)) (List.mem_cons_self ..))
  have:=add_fold (l:=l) h (fun y hy=>hl y (List.mem_cons_of_mem _ hy)) o
  rw[<-e]at this;exact this
theorem add_ends:∀{l:List Sp},gone l=false->(∀y ∈ l,SpOk y)->mkI ((lowL l).foldl (addp false) 0) ((highL l).foldl (addp true) 0)=addL l
 | [],_,_=>by decide
 | none::l,h,_=>by cases h
 | some (c,d)::l,h,hl=>by
  have k:=hl (some (c,d)) (List.mem_cons_self ..);have i:=k.in1
  obtain⟨e,o⟩:=add_fold (l:=l) h (fun y hy=>hl y (List.mem_cons_of_mem _ hy)) k
  show mkI ((lowL l).foldl (addp false) (addp false 0 c)) ((highL l).foldl (addp true) (addp true 0 d))=l.foldl addI (some (c,d))
  rw[addp_comm (x:=0) (y:=c),addp_comm (x:=0) (y:=d),addp_zero false i.1.1 i.1.2,addp_zero true i.2.1 i.2.2,e,o.mk]
set_option linter.unusedSimpArgs false
set_option maxRecDepth 100000
theorem ci_some{e:Bool}{D M E D' M' E':Int}{s s':Bool}{a b:Int}(hM:LQ M)(hM':LQ M')(h:rkI e D s M E D' s' M' E'=some (a,b)):Ci e D s M E D' s' M' E' (some (a,b)):=by
 rw[<-h];refine mayI_ci hM hM' ?_
 cases hm:mayI e D s M E D' s' M' E'
 ·rw[mayI_no hm]at h
  cases h
 ·rfl
theorem fkEmpty{w:World}{A:Option Addr}{n c:Nat}{l:List Sp}{r:Bool}(h:Il8 w A n c l)(hr:gone l=r):Calls Tryz.prog 109 #[.slice A n c] w (PB w r):=by
 have HR:=ie hr;have HLn:=ie h.1;have hcap:=h.2.1;have hbig:=h.2.2.1;have hD0:=h;clear hr h
 go_enter Tryz.func109,Tryz.ntmps109
 go_wp2
 go_loopw [7] (fun i wr=>∃k:Nat,k<=n/\i= .int .i64 k/\(∀j,j < k->l.getD j none≠none)/\Below w.heap.size w wr) (fun i _=>n-(intOf i).toNat)
 case atStart=>exact ⟨0,Nat.zero_le _,rfl,fun j h=>absurd h (Nat.not_lt_zero _),Below.refl _ _⟩
 case round=>
  obtain⟨k,hk,rfl,hU,hB⟩:=hrel;have HU:=ie hU;have HB:=ie hB;clear hU hB
  by_cases hlt:k < n
  ·have tlt:decide ((k:Int) < (n:Int))=true:=by simp;omega
   have h:=hD0.below HB.out;obtain⟨b,o,rfl,hcell⟩:=h.2.2.2 (by omega);obtain⟨e,D,s,M,E,D',s',M',E',x0,x1,x2,x3,x4,x5,x6,x7,x8,hM,hM',hx⟩:=hcell k hlt;clear hcell h hD0
   have i1:(k:Int) < n:=by omega
   have i2:(0:Int)<=k:=by omega
   have hyes:l.getD k none=none->r=true:=fun e=>HR.out.symm.trans (gone_at (by rw[HLn.out];exact hlt) e)
   have hnx:l.getD k none≠none->∀j,j < k+1->l.getD j none≠none:=fun e j hj=>by
    by_cases c:j=k
    ·rw[c];exact e
    ·exact HU.out j (by omega)
   rw[<-hx]at hyes hnx;clear hx HR HU
   cases e
   ·go_upto_region 4 with (fail)
    clear x0 x1 x2 x3 x4 x5 x6 x7 x8;generalize hWn:wr.alloc _=w3 at *;obtain⟨X4,BW⟩:=Bo.nw hWn;clear hWn;replace HB:=Hqb HB BW;clear BW;have hm0:=mayI_no (e:=false) (K:=D) (s:=s) (M:=M) (E:=E) (K':=D') (s':=s') (M':=M') (E':=E')
    cases hm:mayI false D s M E D' s' M' E'
    ·obtain rfl:=hyes (hm0 hm)
     have HMY:=ie hm;clear hyes hnx hm hm0;have xX4:=X4.cell
     go_wp2_with fail
     refine(kvMay hM hM' HMY.out).mono ?_;rintro ee w4 ⟨rfl,B⟩;clear xX4;replace X4:=X4.b B;replace HB:=Hqb HB B;clear B;clear HMY;go_wp2
     go_ret
     exact⟨rfl,HB.out⟩
    ·have HN:Hid (∀j,j < k+1->l.getD j none≠none):=ie (hnx (of_decide_eq_true hm))
     have HMY:=ie hm;clear hyes hnx hm hm0;have xX4:=X4.cell
     go_wp2_with fail
     refine(kvMay hM hM' HMY.out).mono ?_;rintro ee w4 ⟨rfl,B⟩;clear xX4;replace X4:=X4.b B;replace HB:=Hqb HB B;clear B;clear HMY;go_wp2
     go_roundw
     case rel=>exact ⟨k+1,by omega,by go_num,HN.out,HB.out⟩
     case measure=>simp [intOf];omega
   ·go_upto_region 4 with (fail)
    clear x0 x1 x2 x3 x4 x5 x6 x7 x8;generalize hWn:wr.alloc _=w3 at *;obtain⟨X4,BW⟩:=Bo.nw hWn;clear hWn;replace HB:=Hqb HB BW;clear BW
    obtain rfl:=hyes rkI_t
    clear hyes hnx;have xX4:=X4.cell;go_wp2
    go_ret
    exact⟨rfl,HB.out⟩
  ·obtain rfl:k=n:=by omega
   have tlt:decide ((k:Int) < (k:Int))=false:=by simp
   obtain rfl:false=r:=(gone_no (fun j hj=>HU.out j (by rw[HLn.out]at hj;exact hj))).symm.trans HR.out
   clear HU HR;go_wp2
   go_ret
   exact⟨rfl,HB.out⟩
theorem fkNeg{w:World}{e:Bool}{D M E D' M' E':Int}{s s':Bool}{x z:Sp}(hM:LQ M)(hM':LQ M')(hx:rkI e D s M E D' s' M' E'=x)(hr:negI x=z):Calls Tryz.prog 39 #[VI e D s M E D' s' M' E'] w (PV w z):=by
 delta VI
 obtain⟨p,hp⟩:∃p,gone [x]=p:=⟨_,rfl⟩;have HP:=ie hp;have HX:=ie hx;clear hx hp
 go_enter Tryz.func39,Tryz.ntmps39
 go_upto_region 1 with (fail)
 generalize hW1:(w.alloc _).alloc _=w1 at *;obtain⟨X1,XR,HB⟩:=Bo.en2 hW1;clear hW1;have xX1:=X1.cell
 go_wp2_with fail
 refine(fkEmpty (Il8.lit1 rfl ⟨hM,hM',HX.out⟩) HP.out).mono ?_;rintro ee w2 ⟨rfl,B⟩;replace B:=bt (bel1 _ (.cells #[.bool e,.int .i64 D,.bool s,.int .u64 M,.int .i64 E,.int .i64 D',.bool s',.int .u64 M',.int .i64 E'] 32)) B;clear xX1;replace X1:=X1.b B;replace XR:=XR.b B;replace HB:=Hqb HB B;clear B
 rcases x with _ | ⟨xa,xb⟩
 ·obtain rfl:true=p:=HP.out
  obtain rfl:none=z:=hr
  clear HP
  go_wp2_with fail
  refine(kvNoneE).mono ?_;rintro ee w3 ⟨rfl,B⟩;replace X1:=X1.b B;replace XR:=XR.b B;replace HB:=Hqb HB B;clear B;have xXR:=XR.cell;have zXR0:=XR.frozen;go_wp2;clear xXR zXR0;have SX:=StN.t9 XR true 0 false 0 0 0 false 0 0
  exact bq (by simp[results,Tryz.results39,go_sem,SX.box.cell]) rfl ⟨_,_,_,_,_,_,_,_,_,rfl,Ci.none,(SX.below HB.out (by omega))⟩
 ·obtain⟨rfl,a1,b1,o1,o1l,o1h⟩:=ci_some hM hM' HX.out
  obtain rfl:false=p:=HP.out
  obtain⟨u,hu⟩:∃u,-xb=u:=⟨_,rfl⟩;obtain⟨l,hl⟩:∃l,-xa=l:=⟨_,rfl⟩
  have hr2:mkI u l=z:=by rw[<-hu,<-hl];exact hr
  have HU:Hid (-rk D' s' M' E'=u):=ie (by rw[b1.rk];exact hu)
  have HL:Hid (-rk D s M E=l):=ie (by rw[a1.rk];exact hl)
  have HR:=ie hr2;clear hu hl hr hr2 o1 o1l o1h HX HP;have xX1:=X1.cell
  go_upto_region 3 with (fail)
  clear xX1;refine jk [0,1,2,3,4,5,6] [some 7,some 8,some 9,some 10,some 11,some 12,some 13,none] [[],[0],[1],[],[3],[4],[2,5],[]] 8 1 [Jo.qp w.heap.size 5,Jo.q4 D' s' M' E',Jo.Fact.num u,Jo.qp w.heap.size 1,Jo.q4 D s M E,Jo.Fact.num l,Jo.Fact.iv z,Jo.Fact.any] ?_ ?_
  ·iterate 2 (refine jm ?_ ?_;rotate_left)
   refine jm ?_ ?_
   ·rintro wj hJ _ rfl K hK;simp only[Jo.z]at hK|-;go_simp;exact Jo.n1 (nNeg b1.top HU.out) hK.out
   iterate 2 (refine jm ?_ ?_;rotate_left)
   refine jm ?_ ?_
   ·rintro wj hJ _ rfl K hK;simp only[Jo.z]at hK|-;go_simp;exact Jo.n1 (nNeg a1.top HL.out) hK.out
   refine jm ?_ ?_
   ·rintro wj hJ _ ⟨K2,s2,M2,E2,rfl,q2⟩ _ ⟨K3,s3,M3,E3,rfl,q3⟩ K hK;simp only[Jo.z]at hK|-;go_simp;exact Jo.v1 (kvMake q2.top q3.top q2.rk q3.rk HR.out) hK.out
   exact jo
   all_goals (rintro wj hJ;(repeat rintro _ rfl);intro K hK;simp only[Jo.z]at hK|-;have xX1:=(X1.b hJ).cell;go_simp;exact hK.out _ _ rfl (br _ _))
  rintro w8 hJ _ _ _ rfl _ ⟨K2,s2,M2,E2,rfl,q2⟩ _ _ _ rfl _ ⟨K3,s3,M3,E3,rfl,q3⟩ _ ⟨e4,K4,s4,M4,E4,K4b,s4b,M4b,E4b,rfl,v4⟩ -;simp only[Jo.z];replace XR:=XR.b hJ;replace HB:=Hqb HB hJ;have xXR:=XR.cell;have zXR0:=XR.frozen
  refine jn 7 fun K hK=>?_
  go_simp;refine hK.out _ _ ?_;clear hK K xXR zXR0;have SX:=StN.t9 XR e4 K4 s4 M4 E4 K4b s4b M4b E4b;refine jd ?_;go_wp2;exact bq (by simp[results,Tryz.results39,go_sem,SX.box.cell]) rfl ⟨_,_,_,_,_,_,_,_,_,rfl,v4,(SX.below HB.out (by omega))⟩
theorem fkAdd{w:World}{A:Option Addr}{n c:Nat}{l:List Sp}{z:Sp}(hT:Tb w)(h:Il8 w A n c l)(hr:addL l=z):Calls Tryz.prog 43 #[.slice A n c] w (PV w z):=by
 obtain⟨p,hp⟩:∃p,gone l=p:=⟨_,rfl⟩;have HP:=ie hp;have HLn:=ie h.1;have hcap:=h.2.1;have hbig:=h.2.2.1;clear hp
 go_enter Tryz.func43,Tryz.ntmps43
 go_upto_region 1 with (fail)
 generalize hW1:w.alloc _=w1 at *;obtain⟨XR,HB⟩:=Bo.en1 hW1;replace hT:=hT.below HB.out;replace h:=h.below HB.out;clear hW1
 go_wp2_with fail
 refine(fkEmpty h HP.out).mono ?_;rintro ee w2 ⟨rfl,B⟩;replace XR:=XR.b B;replace hT:=hT.b B;replace h:=h.b B;replace HB:=Hqb HB B;clear B
 cases p
 ·have hok:=h.ok;have hae:=(add_ends HP.out hok).trans hr;obtain⟨u,hu⟩:∃u,smA false (lowL l)=u:=⟨_,rfl⟩;obtain⟨v,hv⟩:∃v,smA true (highL l)=v:=⟨_,rfl⟩
  have hz:mkI u v=z:=by rw[<-hu,<-hv];exact hae
  have HU:=ie hu;have HV:=ie hv;have HZ:=ie hz;clear hok hae hu hv hz hr;go_wp2
  go_loopw [3,4,12] (fun va vb i wr=>∃k A1 B1 c1 d1,k<=n/\va= .slice A1 k c1/\vb= .slice B1 k d1/\i= .int .i64 ((k:Nat):Int)/\EInv w2 A1 B1 k c1 d1 (lowL (l.take k)) (highL (l.take k)) wr) (fun _ _ i _=>n-(intOf i).toNat)
  case atStart=>exact ⟨0,_,_,_,_,Nat.zero_le _,rfl,rfl,rfl,Na.nil _ _,Na.nil _ _,(fun k h=>by cases h),Below.refl _ _⟩
  case round=>
   obtain⟨k,A1,B1,c1,d1,hk,rfl,rfl,rfl,N1,N2,hne,hB⟩:=hrel;have HB0:=HB;replace HB:=ie hB;clear hB
   by_cases hlt:k < n
   ·have tlt:decide ((k:Int) < (n:Int))=true:=by simp;omega
    have h':=h.below HB.out
    obtain⟨a0,b0,hg⟩:=gone_get HP.out (k:=k) (by rw[HLn.out];exact hlt);have hsl:=lowL_take (l:=l) (k:=k) (by rw[HLn.out];exact hlt);have hsh:=highL_take (l:=l) (k:=k) (by rw[HLn.out];exact hlt);rw[hg]at hsl hsh;obtain⟨b,o,rfl,hcell⟩:=h'.2.2.2 (by omega);obtain⟨e,D,s,M,E,D',s',M',E',x0,x1,x2,x3,x4,x5,x6,x7,x8,hM,hM',hx⟩:=hcell k hlt;rw[hg]at hx
    obtain⟨rfl,a1,b1,_,_,_⟩:=ci_some hM hM' hx;clear hcell h' h hx hM hM'
    have i1:(k:Int) < n:=by omega
    have i2:(0:Int)<=k:=by omega
    generalize lowL (l.take k)=la at *;generalize highL (l.take k)=lb at *
    have HSL:Hid (lowL (l.take (k+1))=la ++[a0]):=ie hsl
    have HSH:Hid (highL (l.take (k+1))=lb ++[b0]):=ie hsh
    have HNE:=ie hne;clear hsl hsh hne hg HU HV HZ HP XR hT HB0
    go_upto_region 7 with (fail)
    clear x0 x1 x2 x3 x4 x5 x6 x7 x8;generalize hWn:wr.alloc _=w6 at *;obtain⟨X6,BW⟩:=Bo.nw hWn;clear hWn;replace N1:=N1.b BW;replace N2:=N2.b BW;replace HB:=Hqb HB BW;clear BW;have xX6:=X6.cell
    go_wp2_with (at_builtin;refine wpList_na rfl _ _ rfl rfl rfl (N1.below (bel1 _ _)) a1 (Bo.new _ _ _) (by omega) (Nat.le_trans HB.out.size (bel1 _ _).size) ?_)
    intro A2 d2 w7 N1' G1 at1
    clear xX6;have hB2:=bt HB.out (bel1 _ (.cells #[.int .i64 D,.bool s,.int .u64 M,.int .i64 E] 24));have N1b:=N1.below (bel1 _ (.cells #[.int .i64 D,.bool s,.int .u64 M,.int .i64 E] 24));have N2b:=N2.below (bel1 _ (.cells #[.int .i64 D,.bool s,.int .u64 M,.int .i64 E] 24));replace X6:=(X6.below (bel1 _ (.cells #[.int .i64 D,.bool s,.int .u64 M,.int .i64 E] 24))).grownN N1b (by decide) G1
    replace HB:=ie (hB2.grown G1 hB2.size (fun k hk=>(N1b.own_lt k hk).1))
    have l1:∀k,ownA B1=some k->k < w6.heap.size+1:=fun k hk=>by
     have:=(N2b.own_lt k hk).2
     simpa using this
    replace N2:=N2b.kept G1 (own_ne HNE.out);clear N1 N1b N2b G1 hB2;have xX6:=X6.cell
    go_wp2_with (at_builtin;refine wpList_na rfl _ _ rfl rfl rfl (N2.below (bel1 _ _)) b1 (Bo.new _ _ _) (by omega) (Nat.le_trans HB.out.size (bel1 _ _).size) ?_)
    intro B2 d3 w8 N2' G2 at2
    clear xX6;have hB2:=bt HB.out (bel1 _ (.cells #[.int .i64 D',.bool s',.int .u64 M',.int .i64 E'] 24));have N2b:=N2.below (bel1 _ (.cells #[.int .i64 D',.bool s',.int .u64 M',.int .i64 E'] 24));have N1b:=N1'.below (bel1 _ (.cells #[.int .i64 D',.bool s',.int .u64 M',.int .i64 E'] 24))
    have lA:∀k,ownA A2=some k->k < w7.heap.size+1:=fun k hk=>by
     have:=(N1b.own_lt k hk).2
     simpa using this
    have hne2:∀k,ownA A2=some k->ownA B2≠some k:=ne_row HNE.out at1 at2 l1 lA
    have hne1:∀k,ownA A2=some k->ownA B1≠some k:=ne_row HNE.out at1 (.inl rfl) l1 lA
    replace HB:=ie (hB2.grown G2 hB2.size (fun k hk=>(N2b.own_lt k hk).1))
    replace N1':=N1b.kept G2 (own_ne' hne1)
    have t1:=HSL.out;have t2:=HSH.out;clear N1b N2b G2 hB2 hne1 X6 N2 l1 lA at1 at2 HSL HSH HNE;go_wp2
    go_roundw
    case rel=>exact ⟨k+1,_,_,_,_,by omega,rfl,rfl,by go_num,by rw[t1];exact N1',by rw[t2];exact N2',hne2,HB.out⟩
    case measure=>simp [intOf];omega
   ·obtain rfl:k=n:=by omega
    have tlt:decide ((k:Int) < (k:Int))=false:=by simp
    have e1:l.take k=l:=List.take_of_length_le (by rw[HLn.out];omega)
    rw[e1]at N1 N2;have L1:=N1.nl (by omega);have L2:=N2.nl (by omega);replace XR:=XR.below HB.out;replace hT:=hT.below HB.out;replace HB:=ie (bt HB0.out HB.out);clear N1 N2 e1 hne HB0 h HP
    go_wp2_with fail
    refine(aSum hT L1 HU.out).mono ?_;rintro ee w9 ⟨K21,s21,M21,E21,rfl,q21,B⟩;replace XR:=XR.b B;replace hT:=hT.b B;replace L2:=L2.b B;replace HB:=Hqb HB B;clear B
    go_wp2_with fail
    refine(aSum hT L2 HV.out).mono ?_;rintro ee wA ⟨K22,s22,M22,E22,rfl,q22,B⟩;replace XR:=XR.b B;replace HB:=Hqb HB B;clear B
    go_wp2_with fail
    refine(kvMake q21.top q22.top q21.rk q22.rk HZ.out).mono ?_;rintro ee wB ⟨e23,K23,s23,M23,E23,K23b,s23b,M23b,E23b,rfl,v23,B⟩;replace XR:=XR.b B;replace HB:=Hqb HB B;clear B;clear L1 L2 hT;have xXR:=XR.cell;have zXR0:=XR.frozen;go_wp2;clear xXR zXR0;have SX:=StN.t9 XR e23 K23 s23 M23 E23 K23b s23b M23b E23b
    exact bq (by simp[results,Tryz.results43,go_sem,SX.box.cell]) rfl ⟨_,_,_,_,_,_,_,_,_,rfl,v23,(SX.below HB.out (by omega))⟩
 ·obtain rfl:none=z:=(add_gone HP.out).symm.trans hr
  clear HP hT h hr
  go_wp2_with fail
  refine(kvNoneE).mono ?_;rintro ee w3 ⟨rfl,B⟩;replace XR:=XR.b B;replace HB:=Hqb HB B;clear B;have xXR:=XR.cell;have zXR0:=XR.frozen;go_wp2;clear xXR zXR0;have SX:=StN.t9 XR true 0 false 0 0 0 false 0 0
  exact bq (by simp[results,Tryz.results43,go_sem,SX.box.cell]) rfl ⟨_,_,_,_,_,_,_,_,_,rfl,Ci.none,(SX.below HB.out (by omega))⟩
theorem fkSub{w:World}{e:Bool}{D M E D' M' E':Int}{s s':Bool}{e2:Bool}{G P Q G' P' Q':Int}{g g':Bool}{x y z:Sp}(hT:Tb w)(hM:LQ M)(hM':LQ M')(hP:LQ P)(hP':LQ P')(hx:rkI e D s M E D' s' M' E'=x)(hy:rkI e2 G g P Q G' g' P' Q'=y)(hr:subI x y=z):Calls Tryz.prog 49 #[VI e D s M E D' s' M' E',VI e2 G g P Q G' g' P' Q'] w (PV w z):=by
 delta VI
 obtain⟨m,hm⟩:∃m,negI y=m:=⟨_,rfl⟩
 have hr2:addL [x,m]=z:=by rw[<-hm];exact hr
 have HX:=ie hx;have HY:=ie hy;have HM:=ie hm;have HR:=ie hr2;clear hx hy hm hr hr2
 go_enter Tryz.func49,Tryz.ntmps49
 go_upto_region 1 with (fail)
 generalize hW1:((w.alloc _).alloc _).alloc _=w1 at *;obtain⟨X2,X3,XR,HB⟩:=Bo.en3 hW1;replace hT:=hT.below HB.out;clear hW1;refine jk [0,1,2,3,4] [some 5,some 6,some 7,some 8,some 9,none] [[],[],[1],[0,2],[3],[]] 6 1 [Jo.q9 e D s M E D' s' M' E',Jo.q9 e2 G g P Q G' g' P' Q',Jo.Fact.iv m,Jo.Fact.il8 2 [x,m],Jo.Fact.iv z,Jo.Fact.any] ?_ ?_
 ·iterate 2 (refine jm ?_ ?_;rotate_left)
  refine jm ?_ ?_
  ·rintro wj hJ _ rfl K hK;simp only[Jo.z]at hK|-;go_simp;exact Jo.v1 (fkNeg hP hP' HY.out HM.out) hK.out
  refine jm ?_ ?_
  ·rintro wj hJ _ rfl _ ⟨e1,K1,s1,M1,E1,K1b,s1b,M1b,E1b,rfl,v1⟩ K hK;simp only[Jo.z]at hK|-;go_simp;exact hK.out _ _ ⟨_,2,rfl,Il8.lit2 rfl ⟨hM,hM',HX.out⟩ v1.rw⟩ (bel1 _ _)
  refine jm ?_ ?_
  ·rintro wj hJ _ ⟨A3,c3,rfl,h3⟩ K hK;simp only[Jo.z]at hK|-;go_simp;exact Jo.v1 (fkAdd (hT.b hJ) h3 HR.out) hK.out
  exact jo
  all_goals (rintro wj hJ;(repeat rintro _ rfl);intro K hK;simp only[Jo.z]at hK|-;have xX2:=(X2.b hJ).cell;have xX3:=(X3.b hJ).cell;go_simp;exact hK.out _ _ rfl (br _ _))
 rintro w8 hJ _ rfl _ rfl _ ⟨e1,K1,s1,M1,E1,K1b,s1b,M1b,E1b,rfl,v1⟩ _ ⟨_,_,rfl,_⟩ _ ⟨e2,K2,s2,M2,E2,K2b,s2b,M2b,E2b,rfl,v2⟩ -;simp only[Jo.z];replace XR:=XR.b hJ;replace HB:=Hqb HB hJ;have xXR:=XR.cell;have zXR0:=XR.frozen
 refine jn 5 fun K hK=>?_
 go_simp;refine hK.out _ _ ?_;clear hK K xXR zXR0;have SX:=StN.t9 XR e2 K2 s2 M2 E2 K2b s2b M2b E2b;refine jd ?_;go_wp2;exact bq (by simp[results,Tryz.results49,go_sem,SX.box.cell]) rfl ⟨_,_,_,_,_,_,_,_,_,rfl,v2,(SX.below HB.out (by omega))⟩
theorem blen_word{α:Nat}(h0:9223372036854775808<=α)(h1:α < 18446744073709551616):blen α=64:=blen_uniq (k:=63) (by omega) h0 h1
theorem div_pre{up s t:Bool}{M1 E1 M2 E2 x y r:Int}{α β:Nat}(q1:Fq 1 s M1 E1 x)(q2:Fq 1 t M2 E2 y)(ha:(α:Int)=M1)(hb:(β:Int)=M2)(hr:Qt up x y r)(hβ:0 < β):
  ∃P:Bool->Bool->Int->Prop,(∀σ up r',Sid up (sgi σ ((α:Int)*2^(E1-E2+(KK:Int)).toNat)) (β:Int) r'->P σ up r')/\(∀r',P (s !=t) up r'->r'=r):=by
 refine⟨_,fun _ _ _ h=>h,fun r' h=>?_⟩
 have e0:E1-E2+((0:Nat):Int)-((0:Nat):Int)+(KK:Int)=E1-E2+(KK:Int):=by omega
 exact(div_side (v:=0) (w:=0) q1 q2 (by rw[<-ha];exact(Int.mul_one _).symm) (by rw[<-hb];exact(Int.mul_one _).symm) hβ (by decide) (by decide) (by rw[e0];exact h)).uniq hr
theorem kDiv{w:World}{D D' M M' E E':Int}{s s':Bool}{up:Bool}{x y r:Int}(hT:Tab w)(hM:LQ M)(hM':LQ M')(hx:rk D s M E=x)(hy:rk D' s' M' E'=y)(hr:Qt up x y r):Calls Tryz.prog 160 #[VQ D s M E,VQ D' s' M' E',.bool up] w (PN w r):=by
 delta VQ
 obtain⟨K1,s1,M1,E1,q1⟩:=fq_tk7 (D:=D) (s:=s) (M:=M) (E:=E) hM;obtain⟨K2,s2,M2,E2,q2⟩:=fq_tk7 (D:=D') (s:=s') (M:=M') (E:=E') hM';rw[hx]at q1;rw[hy]at q2;have HX:=ie hx;have HY:=ie hy;clear hx hy
 go_enter Tryz.func160,Tryz.ntmps160
 go_upto_region 1 with (fail)
 generalize hW1:((w.alloc _).alloc _).alloc _=w1 at *;obtain⟨X3,X4,XR,HB⟩:=Bo.en3 hW1;replace hT:=hT.below HB.out;clear hW1;refine jk [0,1,2,3] [some 7,some 8,some 9,some 10,none,none] [[],[0],[],[2],[],[]] 6 2 [Jo.q4 D s M E,Jo.q4 K1 s1 M1 E1,Jo.q4 D' s' M' E',Jo.q4 K2 s2 M2 E2,Jo.Fact.any,Jo.Fact.any] ?_ ?_
 ·refine jm ?_ ?_;rotate_left
  refine jm ?_ ?_
  ·rintro wj hJ _ rfl K hK;simp only[Jo.z]at hK|-;go_simp;refine(qTaken hM q1 HX.out).mono ?_;rintro ee wk ⟨rfl,B⟩;exact hK.out _ _ rfl B
  refine jm ?_ ?_;rotate_left
  refine jm ?_ ?_
  ·rintro wj hJ _ rfl K hK;simp only[Jo.z]at hK|-;go_simp;refine(qTaken hM' q2 HY.out).mono ?_;rintro ee wk ⟨rfl,B⟩;exact hK.out _ _ rfl B
  exact jo
  all_goals (rintro wj hJ;(repeat rintro _ rfl);intro K hK;simp only[Jo.z]at hK|-;have xX3:=(X3.b hJ).cell;have xX4:=(X4.b hJ).cell;go_simp;exact hK.out _ _ rfl (br _ _))
 rintro w2 hJ _ rfl _ rfl _ rfl _ rfl -;simp only[Jo.z];replace X3:=X3.b hJ;replace X4:=X4.b hJ;replace XR:=XR.b hJ;replace hT:=hT.b hJ;replace HB:=Hqb HB hJ;have xX3:=X3.cell;have zX30:=X3.frozen
 refine jn 4 fun K hK=>?_
 go_simp;refine hK.out _ _ ?_;clear hK K xX3 zX30;generalize hS:(((w2.setCell _ _).setCell _ _).setCell _ _).setCell _ _=w3 at *;have SX:=StN.of4 X3 hS;replace X4:=X4.s SX;replace XR:=XR.s SX;replace hT:=hT.s SX;replace HB:=Hqs HB SX (by omega);replace X3:=SX.box;clear SX hS;have xX4:=X4.cell
 have zX40:=X4.frozen
 refine jn 5 fun K hK=>?_
 go_simp;refine hK.out _ _ ?_;clear hK K xX4 zX40;generalize hS:(((w3.setCell _ _).setCell _ _).setCell _ _).setCell _ _=w4 at *;have SX:=StN.of4 X4 hS;replace X3:=X3.s SX;replace XR:=XR.s SX;replace hT:=hT.s SX;replace HB:=Hqs HB SX (by omega);replace X4:=SX.box;clear SX hS;refine jd ?_
 clear HX HY hM hM';have i1:=fq_inf q1;have i2:=fq_inf q2;have z1:=q1.zero_iff;have z2:=q2.zero_iff
 have kk1:K1=2\/K1=0\/K1=1:=by rcases q1.cases with⟨h,_⟩ | ⟨h,_⟩ | ⟨h,_⟩ <;> omega
 have kk2:K2=2\/K2=0\/K2=1:=by rcases q2.cases with⟨h,_⟩ | ⟨h,_⟩ | ⟨h,_⟩ <;> omega
 rcases kk1 with rfl | rfl | rfl
 ·rcases kk2 with rfl | rfl | rfl
  ·have hy0:y≠0:=fun c=>absurd (z2.2 c) (by decide)
   have hr2:r=0:=(qt_zero hy0 (.inr i2)).1 hr
   subst hr2;clear i1 i2 z1 z2 q1 q2 hr hy0 hT;have xXR:=XR.cell;have zXR0:=XR.frozen;have xX3:=X3.cell;have xX4:=X4.cell;go_wp2;clear xXR zXR0 xX3 xX4;have SX:=StN.t4 XR 0 false 0 0;exact bq (by simp[results,Tryz.results160,go_sem,SX.box.cell]) rfl ⟨_,_,_,_,rfl,Fq.nought,(SX.below HB.out (by omega))⟩
  ·have hr2:sgi (!up) TP=r:=by
    rw[z2.1 rfl]at hr;exact(qt_none'.1 hr).symm
   have HRR:=ie hr2;clear i1 i2 z1 z2 q1 q2 hr hr2 hT;have xX3:=X3.cell;have xX4:=X4.cell
   go_wp2_with fail
   refine(qAway HRR.out).mono ?_;rintro ee w6 ⟨K3,s3,M3,E3,rfl,q3,B⟩;clear xX3 xX4;replace X3:=X3.b B;replace X4:=X4.b B;replace XR:=XR.b B;replace HB:=Hqb HB B;clear B;have xXR:=XR.cell;have zXR0:=XR.frozen;go_wp2;clear xXR zXR0;have SX:=StN.t4 XR K3 s3 M3 E3
   exact bq (by simp[results,Tryz.results160,go_sem,SX.box.cell]) rfl ⟨_,_,_,_,rfl,q3,(SX.below HB.out (by omega))⟩
  ·have hy0:y≠0:=fun c=>absurd (z2.2 c) (by decide)
   have hn:¬(x=0\/infp y=true):=by
    rw[i2];rintro (c | c)
    ·exact absurd (z1.2 c) (by decide)
    ·exact absurd c (by decide)
   have sx:decide (x < 0)=s1:=by
    rcases q1.three with⟨a,_⟩ | ⟨_,rfl,b⟩ | ⟨_,rfl,b⟩
    ·exact absurd a (by decide)
    ·exact df (by omega)
    ·exact dt b
   have sy:decide (y < 0)=s2:=by
    rcases q2.three with⟨a,_⟩ | ⟨_,rfl,b⟩ | ⟨_,rfl,b⟩
    ·exact absurd a (by decide)
    ·exact df (by omega)
    ·exact dt b
   have hr2:sgi (s1 !=s2) TP=r:=by
    have:=(qt_inf hy0 hn i1).1 hr
    rw[sx,sy]at this;exact this.symm
   have HRR:=ie hr2;clear i1 i2 z1 z2 q1 q2 hr hr2 sx sy hn hy0 hT;have xX3:=X3.cell;have xX4:=X4.cell
   go_wp2_with fail
   refine(nInf (s:=s1 !=s2) HRR.out).mono ?_;rintro ee w6 ⟨K3,s3,M3,E3,rfl,q3,B⟩;clear xX3 xX4;replace X3:=X3.b B;replace X4:=X4.b B;replace XR:=XR.b B;replace HB:=Hqb HB B;clear B;have xXR:=XR.cell;have zXR0:=XR.frozen;go_wp2;clear xXR zXR0;have SX:=StN.t4 XR K3 s3 M3 E3
   exact bq (by simp[results,Tryz.results160,go_sem,SX.box.cell]) rfl ⟨_,_,_,_,rfl,q3,(SX.below HB.out (by omega))⟩
 ·rcases kk2 with rfl | rfl | rfl
  ·have hy0:y≠0:=fun c=>absurd (z2.2 c) (by decide)
   have hr2:r=0:=(qt_zero hy0 (.inl (z1.1 rfl))).1 hr
   subst hr2;clear i1 i2 z1 z2 q1 q2 hr hy0 hT;have xXR:=XR.cell;have zXR0:=XR.frozen;have xX3:=X3.cell;have xX4:=X4.cell;go_wp2;clear xXR zXR0 xX3 xX4;have SX:=StN.t4 XR 0 false 0 0;exact bq (by simp[results,Tryz.results160,go_sem,SX.box.cell]) rfl ⟨_,_,_,_,rfl,Fq.nought,(SX.below HB.out (by omega))⟩
  ·have hr2:sgi (!up) TP=r:=by
    rw[z2.1 rfl]at hr;exact(qt_none'.1 hr).symm
   have HRR:=ie hr2;clear i1 i2 z1 z2 q1 q2 hr hr2 hT;have xX3:=X3.cell;have xX4:=X4.cell
   go_wp2_with fail
   refine(qAway HRR.out).mono ?_;rintro ee w6 ⟨K3,s3,M3,E3,rfl,q3,B⟩;clear xX3 xX4;replace X3:=X3.b B;replace X4:=X4.b B;replace XR:=XR.b B;replace HB:=Hqb HB B;clear B;have xXR:=XR.cell;have zXR0:=XR.frozen;go_wp2;clear xXR zXR0;have SX:=StN.t4 XR K3 s3 M3 E3
   exact bq (by simp[results,Tryz.results160,go_sem,SX.box.cell]) rfl ⟨_,_,_,_,rfl,q3,(SX.below HB.out (by omega))⟩
  ·have hy0:y≠0:=fun c=>absurd (z2.2 c) (by decide)
   have hr2:r=0:=(qt_zero hy0 (.inl (z1.1 rfl))).1 hr
   subst hr2;clear i1 i2 z1 z2 q1 q2 hr hy0 hT;have xXR:=XR.cell;have zXR0:=XR.frozen;have xX3:=X3.cell;have xX4:=X4.cell;go_wp2;clear xXR zXR0 xX3 xX4;have SX:=StN.t4 XR 0 false 0 0;exact bq (by simp[results,Tryz.results160,go_sem,SX.box.cell]) rfl ⟨_,_,_,_,rfl,Fq.nought,(SX.below HB.out (by omega))⟩
 ·rcases kk2 with rfl | rfl | rfl
  ·have hy0:y≠0:=fun c=>absurd (z2.2 c) (by decide)
   have hr2:r=0:=(qt_zero hy0 (.inr i2)).1 hr
   subst hr2;clear i1 i2 z1 z2 q1 q2 hr hy0 hT;have xXR:=XR.cell;have zXR0:=XR.frozen;have xX3:=X3.cell;have xX4:=X4.cell;go_wp2;clear xXR zXR0 xX3 xX4;have SX:=StN.t4 XR 0 false 0 0;exact bq (by simp[results,Tryz.results160,go_sem,SX.box.cell]) rfl ⟨_,_,_,_,rfl,Fq.nought,(SX.below HB.out (by omega))⟩
  ·have hr2:sgi (!up) TP=r:=by
    rw[z2.1 rfl]at hr;exact(qt_none'.1 hr).symm
   have HRR:=ie hr2;clear i1 i2 z1 z2 q1 q2 hr hr2 hT;have xX3:=X3.cell;have xX4:=X4.cell
   go_wp2_with fail
   refine(qAway HRR.out).mono ?_;rintro ee w6 ⟨K3,s3,M3,E3,rfl,q3,B⟩;clear xX3 xX4;replace X3:=X3.b B;replace X4:=X4.b B;replace XR:=XR.b B;replace HB:=Hqb HB B;clear B;have xXR:=XR.cell;have zXR0:=XR.frozen;go_wp2;clear xXR zXR0;have SX:=StN.t4 XR K3 s3 M3 E3
   exact bq (by simp[results,Tryz.results160,go_sem,SX.box.cell]) rfl ⟨_,_,_,_,rfl,q3,(SX.below HB.out (by omega))⟩
  ·have hy0:y≠0:=fun c=>absurd (z2.2 c) (by decide)
   obtain⟨a1,a2,a3,a4,_⟩:=fq_vr q1;obtain⟨b1,b2,b3,b4,_⟩:=fq_vr q2;obtain⟨α,hα⟩:∃α:Nat,(α:Int)=M1:=⟨M1.toNat,by omega⟩
   obtain⟨β,hβ⟩:∃β:Nat,(β:Int)=M2:=⟨M2.toNat,by omega⟩
   have α1:9223372036854775808<=α:=by omega
   have α2:α < 18446744073709551616:=by omega
   have β1:9223372036854775808<=β:=by omega
   have β2:β < 18446744073709551616:=by omega
   obtain⟨P,hP,hPr⟩:=div_pre q1 q2 hα hβ hr (by omega);obtain⟨e,he⟩:∃e,E1-E2=e:=⟨_,rfl⟩;rw[he]at hP
   have eb1: -2200000<=e:=by omega
   have eb2:e<=2200000:=by omega
   have eb3:e-((blen β:Int)-(blen α:Int)+64)<=2097152:=by
    rw[blen_word α1 α2,blen_word β1 β2]
    omega
   have HPP:=ie hP;have HPR:=ie hPr;have HA:=ie hα;have HBE:=ie hβ
   have HW:Hid (IntKind.i64.wrap (E1-E2)=e):=ie (by rw[he];exact IntWalk.i64_in _ (by omega))
   have HW2:Hid (wrap64 (E1-E2)=e):=ie (by rw[he];exact IntWalk.wrap64_in _ (by omega))
   have α0:0 < α:=by omega
   have β0:0 < β:=by omega
   clear i1 i2 z1 z2 hr hy0 a1 a2 a3 a4 b1 b2 b3 b4 hP hPr he hα hβ α1 β1 q1 q2;have xX3:=X3.cell;have xX4:=X4.cell
   go_upto_region 8 with (fail)
   clear xX3 xX4;refine jk [0,1,2,3,4,5,6,7,8,9,10,11,12,13,14,15,16,17,18] [some 37,some 38,some 39,some 40,some 41,some 42,some 43,some 44,some 45,some 46,some 47,some 48,some 49,some 50,some 51,some 52,some 53,some 54,some 55,none] [[],[0],[1],[],[3],[4],[],[6],[],[8],[7,9],[2,5,10],[],[12],[],[14],[13,15],[],[11,16,17],[]] 20 1 [Jo.qp w.heap.size 2,Jo.Fact.eq (.int .u64 M1),Jo.Fact.rd α 2,Jo.qp (w.heap.size+1) 2,Jo.Fact.eq (.int .u64 M2),Jo.Fact.rd β 2,Jo.qp w.heap.size 3,Jo.qi E1,Jo.qp (w.heap.size+1) 3,Jo.qi E2,Jo.qi e,Jo.Fact.pk P,Jo.qp w.heap.size 1,Jo.qb s1,Jo.qp (w.heap.size+1) 1,Jo.qb s2,Jo.Fact.eq (.bool (s1 !=s2)),Jo.qb up,Jo.Fact.num r,Jo.Fact.any] ?_ ?_
   ·refine jm ?_ ?_;rotate_left
    refine jm ?_ ?_
    ·rintro wj hJ _ rfl K hK;simp only[Jo.z]at hK|-;have xX32:=(X3.b hJ).a 2 (.int .u64 M1) rfl;go_simp;exact hK.out _ _ rfl (br _ _)
    refine jm ?_ ?_
    ·rintro wj hJ _ rfl K hK;simp only[Jo.z]at hK|-;go_simp;refine(qLimbs HA.out α2).mono ?_;rintro ee wk ⟨A2,rfl,p2,B⟩;exact hK.out _ _ ⟨A2,2,2,rfl,p2,Nat.le_refl _⟩ B
    refine jm ?_ ?_;rotate_left
    refine jm ?_ ?_
    ·rintro wj hJ _ rfl K hK;simp only[Jo.z]at hK|-;have xX42:=(X4.b hJ).a 2 (.int .u64 M2) rfl;go_simp;exact hK.out _ _ rfl (br _ _)
    refine jm ?_ ?_
    ·rintro wj hJ _ rfl K hK;simp only[Jo.z]at hK|-;go_simp;refine(qLimbs HBE.out β2).mono ?_;rintro ee wk ⟨A5,rfl,p5,B⟩;exact hK.out _ _ ⟨A5,2,2,rfl,p5,Nat.le_refl _⟩ B
    refine jm ?_ ?_;rotate_left
    refine jm ?_ ?_
    ·rintro wj hJ _ rfl K hK;simp only[Jo.z]at hK|-;have xX33:=(X3.b hJ).a 3 (.int .i64 E1) rfl;go_simp;exact hK.out _ _ rfl (br _ _)
    refine jm ?_ ?_;rotate_left
    refine jm ?_ ?_
    ·rintro wj hJ _ rfl K hK;simp only[Jo.z]at hK|-;have xX43:=(X4.b hJ).a 3 (.int .i64 E2) rfl;go_simp;exact hK.out _ _ rfl (br _ _)
    refine jm ?_ ?_
    ·rintro wj hJ _ rfl _ rfl K hK;simp only[Jo.z]at hK|-;have hw:=HW.out;have hw2:=HW2.out;go_simp
     exact hK.out _ _ (by first | rfl | (show Value.int _ _=Value.int _ _;first | rw[hw] | rw[hw2])) (br _ _)
    refine jm ?_ ?_
    ·rintro wj hJ _ ⟨A2,n2,c2,rfl,p2,k2⟩ _ ⟨A5,n5,c5,rfl,p5,k5⟩ _ rfl K hK;simp only[Jo.z]at hK|-;go_simp;refine(qDivided p2 p5 (by omega) (by omega) α0 β0 eb1 eb2 eb3 HPP.out).mono ?_;rintro ee wk ⟨A7,n7,c7,t7,x7,rfl,p7,B⟩;exact hK.out _ _ ⟨A7,n7,c7,t7,x7,rfl,p7⟩ B
    refine jm ?_ ?_;rotate_left
    refine jm ?_ ?_
    ·rintro wj hJ _ rfl K hK;simp only[Jo.z]at hK|-;have xX31:=(X3.b hJ).a 1 (.bool s1) rfl;go_simp;exact hK.out _ _ rfl (br _ _)
    refine jm ?_ ?_;rotate_left
    refine jm ?_ ?_
    ·rintro wj hJ _ rfl K hK;simp only[Jo.z]at hK|-;have xX41:=(X4.b hJ).a 1 (.bool s2) rfl;go_simp;exact hK.out _ _ rfl (br _ _)
    iterate 2 (refine jm ?_ ?_;rotate_left)
    refine jm ?_ ?_
    ·rintro wj hJ _ ⟨A7,n7,c7,t7,x7,rfl,p7⟩ _ rfl _ rfl K hK;simp only[Jo.z]at hK|-;go_simp;exact Jo.n1 (qRound (hT.b hJ) p7 HPR.out) hK.out
    exact jo
    all_goals (rintro wj hJ;(repeat rintro _ rfl);intro K hK;simp only[Jo.z]at hK|-;go_simp;exact hK.out _ _ rfl (br _ _))
   rintro w8 hJ _ _ _ rfl _ ⟨_,_,_,rfl,_⟩ _ _ _ rfl _ ⟨_,_,_,rfl,_⟩ _ _ _ rfl _ _ _ rfl _ rfl _ ⟨_,_,_,_,_,rfl,_⟩ _ _ _ rfl _ _ _ rfl _ rfl _ rfl _ ⟨K9,s9,M9,E9,rfl,q9⟩ -;simp only[Jo.z];replace XR:=XR.b hJ;replace HB:=Hqb HB hJ;have xXR:=XR.cell;have zXR0:=XR.frozen
   refine jn 19 fun K hK=>?_
   go_simp;refine hK.out _ _ ?_;clear hK K xXR zXR0;have SX:=StN.t4 XR K9 s9 M9 E9;refine jd ?_;go_wp2;exact bq (by simp[results,Tryz.results160,go_sem,SX.box.cell]) rfl ⟨_,_,_,_,rfl,q9,(SX.below HB.out (by omega))⟩
end Go.Proofs.YtomikokonmikgaaGreatDoor
namespace Go.Proofs.YtomikokonmikgaaGreatDoor
open Go Go.RowKit
set_option linter.unusedVariables false
theorem one_fix:fixI (opl 1)=SC:=by
 rw[fixI_yes (fix_unit (by decide) (Int.le_refl _)).1,one_vr,Int.mul_comm];exact Int.mul_ediv_cancel _ (by have:=p2pos KK;omega)
theorem nought_fix:fixI 0=0:=by
 rw[fixI_yes (fix_unit (by decide) (by decide)).1,show vr 0=0 from rfl,Int.zero_mul]
 exact Int.zero_ediv _
theorem ang_nought:pAng 0=0:=by
 unfold pAng
 rw[if_neg (by decide),show pU 0=0 by decide,Rat.intCast_zero,show (0:Rat) /SR=0 by grind,at_zero]
 grind
theorem four_one{q:Bool->Int->Int->Int}{Z:Sp}(h:AtV q (opl 1) Z):∃a b,meetI (mulI (some (opl 4,opl 4)) Z) PiS=some (a,b):=by
 obtain⟨f1,f2,f3,f4,f5,f6⟩:=four_bd
 rcases h with⟨c,_⟩ | ⟨_,h⟩
 ·exact absurd c (by decide)
 rcases h with⟨c,_⟩ | ⟨_,_,h⟩ | ⟨_,c,_⟩
 ·exact absurd c (by decide)
 ·rw[one_fix]at h;obtain⟨f,l,u⟩:=h.is (by decide) (Int.le_refl _);rw[ang_one]at l u;have l:=l (qt/2) (by grind);have u:=u (qt/2) (by grind)
  have fn:FinI (some (opl 4,opl 4)):=⟨Int.le_refl _,by omega,by omega⟩
  have e:V (opl 4)=4:=by
   have v4:vr (opl 4)=4*2^KK:=opl_vr (by decide) (by decide)
   have a:=V_at (opl 4)
   rw[v4,Rat.intCast_mul,show ((2^KK:Int):Rat)=BR from rfl,show ((4:Int):Rat)=4 from rfl]at a
   have bp:=br_pos;refine Rat.le_antisymm (Rat.le_of_mul_le_mul_right (c:=BR) ?_ bp) (Rat.le_of_mul_le_mul_right (c:=BR) ?_ bp) <;> grind
  have nl:LoR 4 (some (opl 4,opl 4)):= .inr (by rw[<-e,V_at];exact Rat.le_refl)
  have nh:HiR 4 (some (opl 4,opl 4)):= .inr (by rw[<-e,V_at];exact Rat.le_refl)
  obtain⟨p1,p2,p3⟩:=mul_R fn f nl nh l u
  rw[show 4*(qt/2)=2*qt by grind]at p1 p2
  exact meet_R p3 PiS.fin.ok p1 p2 PiS.holds.1 PiS.holds.2
 ·exact absurd (Int.le_refl _) c
theorem q_nought{q:Bool->Int->Int->Int}(hq:QF q)(up:Bool){x:Int}(hx:x≠0):q up 0 x=0:=(qt_zero hx (.inl rfl)).1 (hq up 0 x)
theorem pi_places:opl 25-3*9223372036854775808<=PIL/\PIL+1<=opl 13-2*9223372036854775808/\0 < opl 25-3*9223372036854775808/\0 < opl 13-2*9223372036854775808/\0 < opl 7-9223372036854775808/\0 < opl 1-9223372036854775808/\opl 7 < 19342822337206103650074625/\opl 3 < 19342822337206103650074625/\0 < opl 3/\opl 1 < 19342822337206103650074625:=by decide
theorem shift_down{n:Int}{k:Nat}{p:Int}(hp:0 < p)(e:p+k*9223372036854775808=opl n)(h0:0<=n)(hn:n<=9223372036854775807):vr p*2^k=n*2^KK:=by
 have s:=vr_shifts hp k;rw[e,opl_vr (by omega) hn]at s;exact s.symm
theorem left_ok{q:Bool->Int->Int->Int}(hq:QF q){A:Sp}(h:AngV q 0 (opl (-1)) A):(∃a b,meetI A PiS=some (a,b))/\widI A < opl 1:=by
 obtain⟨f1,f2,f3,f4,f5,f6⟩:=four_bd;obtain⟨g1,g2,g3,g4,g5,g6,g7,g8,g9,g10⟩:=pi_places;obtain⟨o1,o2⟩:=two_bd
 have ne:opl (-1)≠0:=by decide
 have PF:=PiS.fin;have PH:=PiS.holds
 rcases h with⟨c,_⟩ | ⟨_,P,Q,hP,hQ,eA⟩
 ·exact absurd c ne
 ·rw[q_nought hq _ ne]at hP hQ
  obtain rfl:=hP.one hQ
  rw[if_neg (by decide),if_neg (by decide)]at eA
  have hPP:AtP q 0 P:=by
   rcases hP with⟨c,_⟩ | ⟨_,h⟩
   ·exact absurd c (by decide)
   ·exact h
  have part:PartS 0 P:=by
   rcases hPP with⟨c,_⟩ | ⟨_,_,h⟩ | ⟨_,c,_⟩
   ·exact absurd c (by decide)
   ·rw[nought_fix]at h;exact h
   ·exact absurd (show (0:Int)<=opl 1 by decide) c
  obtain⟨f,l,u⟩:=part.is (Int.le_refl _) (by decide);rw[ang_nought]at l u;have l:=l 0 (by grind);have u:=u 0 (by grind);obtain⟨r,t,rfl,rt,r1,t1,lo,hi⟩:=part_V part (Int.le_refl _) (by decide)
  have okP:SpOk (some (r,t)):=⟨by omega,rt,by omega,by omega,by omega⟩
  have hul:hullI (some (r,t)) (some (r,t))=some (r,t):=by
   rw[hullI_some okP okP,Int.min_self,Int.max_self]
  rw[hul]at eA
  have fP:FinI (some (r,t)):=⟨rt,by omega,by omega⟩
  have D:=add_R (v:=2*qt) (w:=0) PF fP;have d1:=D.1 PH.1 l;have d2:=D.2.1 PH.2 u
  rw[<-eA,show 2*qt+0=2*qt by grind]at d1 d2
  have okA:=D.2.2;rw[<-eA]at okA;refine⟨meet_R okA PF.ok d1 d2 PH.1 PH.2,?_⟩
  -- how wide
  have sp:=sr_pos;obtain⟨e1,e2,e3,e4⟩:=eps_m;rw[ang_nought]at lo hi;have x3:=Rat.mul_le_mul_of_nonneg_right e3 (Rat.le_of_lt sp)
  have vl: -(1/100)<=V r:=Rat.le_of_mul_le_mul_right (c:=SR) (by
   generalize (1/9223372036854775808:Rat)*SR=y at *
   grind) sp
  have vh:V t<=1/100:=Rat.le_of_mul_le_mul_right (c:=SR) (by
   generalize (1/9223372036854775808:Rat)*SR=y at *
   grind) sp
  have hp:=p2pos KK
  have il: -(2^KK)<=vr r*100:=Rat.intCast_le_intCast.1 (by
   rw[Rat.intCast_neg,Rat.intCast_mul,<-V_at,show ((2^KK:Int):Rat)=BR from rfl,show ((100:Int):Rat)=100 from rfl]
   have:=Rat.mul_le_mul_of_nonneg_right vl (Rat.le_of_lt br_pos)
   grind)
  have ih:vr t*100<=2^KK:=Rat.intCast_le_intCast.1 (by
   rw[Rat.intCast_mul,<-V_at,show ((2^KK:Int):Rat)=BR from rfl,show ((100:Int):Rat)=100 from rfl]
   have:=Rat.mul_le_mul_of_nonneg_right vh (Rat.le_of_lt br_pos)
   grind)
  have s25:vr (opl 25-3*9223372036854775808)*2^3=25*2^KK:=shift_down g3 (by omega) (by decide) (by decide)
  have s13:vr (opl 13-2*9223372036854775808)*2^2=13*2^KK:=shift_down g4 (by omega) (by decide) (by decide)
  have s7:vr (opl 7-9223372036854775808)*2^1=7*2^KK:=shift_down g5 (by omega) (by decide) (by decide)
  have s1:vr (opl 1-9223372036854775808)*2^1=1*2^KK:=shift_down g6 (by omega) (by decide) (by decide)
  have s3:vr (opl 3)=3*2^KK:=opl_vr (by decide) (by decide)
  have v1:=vr_le g1;have v2:=vr_le g2;have sa:=(addp_spec (x:=PIL) (y:=r) true (by omega) (by omega) (by omega) (by omega));have sb:=(addp_spec (x:=PIL+1) (y:=t) true (by omega) (by omega) (by omega) (by omega))
  have k1:opl 3<=addp false PIL r:=(dn_self (r:=opl 3) (by omega) (by omega)).mono sa.1 (by omega)
  have k2:addp true (PIL+1) t<=opl 7-9223372036854775808:=sb.2.mono (up_self (r:=opl 7-9223372036854775808) (by omega) (by omega)) (by omega)
  have k3:addp false PIL r<=addp true (PIL+1) t:=by
   refine Int.le_trans (sa.1.mono sb.1 ?_) (dn_le_up sb.1 sb.2)
   have:=vr_le rt
   have:=vr_le (show PIL<=PIL+1 by omega)
   omega
  have eS:addI PiS (some (r,t))=some (addp false PIL r,addp true (PIL+1) t):=mkI_some k3 (by omega) (by omega)
  rw[eA,eS];generalize addp false PIL r=a at *;generalize addp true (PIL+1) t=b at *
  show addp true b (-a) < opl 1
  have va:=vr_le k1;have vb:=vr_le k2;have w:=(addp_spec (x:=b) (y:= -a) true (by omega) (by omega) (by omega) (by omega)).2
  have:=w.mono (up_self (r:=opl 1-9223372036854775808) (by omega) (by omega)) (by rw[vr_neg];omega)
  omega
end Go.Proofs.YtomikokonmikgaaGreatDoor
namespace Go.Proofs.YtomikokonmikgaaGreatDoor
set_option maxHeartbeats 8000000
open Go.RowKit
set_option linter.unusedVariables false
set_option linter.unusedSimpArgs false
set_option maxRecDepth 100000
theorem Nl.of4{w:World}{g:Nat}{K1 K2 K3 K4 M1 M2 M3 M4 E1 E2 E3 E4 r1 r2 r3 r4:Int}{s1 s2 s3 s4:Bool}(X:Bo w g #[.int .i64 K1,.bool s1,.int .u64 M1,.int .i64 E1,.int .i64 K2,.bool s2,.int .u64 M2,.int .i64 E2,.int .i64 K3,.bool s3,.int .u64 M3,.int .i64 E3,.int .i64 K4,.bool s4,.int .u64 M4,.int .i64 E4] 24)
  (q1:Fq K1 s1 M1 E1 r1) (q2:Fq K2 s2 M2 E2 r2) (q3:Fq K3 s3 M3 E3 r3) (q4:Fq K4 s4 M4 E4 r4):Nl w (some ⟨g,0,none⟩) 4 4 [r1,r2,r3,r4]:=by
 refine⟨rfl,Nat.le_refl _,by decide,fun _=>⟨_,0,rfl,fun k hk=>?_⟩⟩
 rcases (by omega:k=0\/k=1\/k=2\/k=3)with rfl | rfl | rfl | rfl
 ·exact⟨K1,s1,M1,E1,X.at rfl,X.at rfl,X.at rfl,X.at rfl,q1.top,q1.rk⟩
 ·exact⟨K2,s2,M2,E2,X.at rfl,X.at rfl,X.at rfl,X.at rfl,q2.top,q2.rk⟩
 ·exact⟨K3,s3,M3,E3,X.at rfl,X.at rfl,X.at rfl,X.at rfl,q3.top,q3.rk⟩
 ·exact⟨K4,s4,M4,E4,X.at rfl,X.at rfl,X.at rfl,X.at rfl,q4.top,q4.rk⟩
theorem mnp_four{a b c d:Int}(ha:a<=19342822337206103650074625):mnp [a,b,c,d]=min (min a b) (min c d):=by
 have:=TP_eq
 show min (min (min (min TP a) b) c) d=_
 omega
theorem mxp_four{a b c d:Int}(ha: -19342822337206103650074625<=a):mxp [a,b,c,d]=max (max a b) (max c d):=by
 have:=TP_eq
 show max (max (max (max (-TP) a) b) c) d=_
 omega
def four (f:Bool->Int->Int->Int)(up:Bool)(a b c d:Int):List Int:=[f up a c,f up a d,f up b c,f up b d]
theorem four_cor{f:Bool->Int->Int->Int}{a b c d:Int}(h1:f false a c<=19342822337206103650074625)(h2: -19342822337206103650074625<=f true a c):mkI (mnp (four f false a b c d)) (mxp (four f true a b c d))=cor f a b c d:=by
 unfold four cor
 rw[mnp_four h1,mxp_four h2]
def TabIf (b:Bool)(w:World):Prop:=b=true->Tab w
theorem TabIf.below{b:Bool}{w w':World}(h:TabIf b w)(hb:Below w.heap.size w w'):TabIf b w':=fun e=>(h e).below hb
abbrev TabIf.b:= @TabIf.below
def OpQ (fid:FuncId)(F0:Bool->Int->Int->Int)(b:Bool):Prop:=(∀(args:Array Value) (w:World),(callFunc fid args).run Tryz.prog w= .ok (.enter fid args) w)/\∀(w:World) (D:Int) (s:Bool) (M E D':Int) (s':Bool) (M' E':Int) (up:Bool) (x y r:Int),TabIf b w->M < 18446744073709551616->M' < 18446744073709551616->rk D s M E=x->rk D' s' M' E'=y->F0 up x y=r->Calls Tryz.prog fid #[.agg #[.int .i64 D,.bool s,.int .u64 M,.int .i64 E],.agg #[.int .i64 D',.bool s',.int .u64 M',.int .i64 E'],.bool up] w (PN w r)
theorem fkFour{w:World}{fid:FuncId}{F0:Bool->Int->Int->Int}{b up:Bool}{g1 g2 g3:Nat}{K1 M1 E1 K1b M1b E1b K2 M2 E2 K2b M2b E2b:Int}{s1 s1b s2 s2b:Bool}{xa xb ya yb:Int}(hop:OpQ fid F0 b)(hI:TabIf b w)(X1:Bo w g1 #[.func (.func fid) #[] #[]] 136)(X2:Bo w g2 #[.bool false,.int .i64 K1,.bool s1,.int .u64 M1,.int .i64 E1,.int .i64 K1b,.bool s1b,.int .u64 M1b,.int .i64 E1b] 32)(X3:Bo w g3 #[.bool false,.int .i64 K2,.bool s2,.int .u64 M2,.int .i64 E2,.int .i64 K2b,.bool s2b,.int .u64 M2b,.int .i64 E2b] 32)
  (a1:Fq K1 s1 M1 E1 xa) (b1:Fq K1b s1b M1b E1b xb) (a2:Fq K2 s2 M2 E2 ya) (b2:Fq K2b s2b M2b E2b yb):Calls Tryz.prog 182 #[.bool up,.pointer (some ⟨g1,0,none⟩),.pointer (some ⟨g2,0,none⟩),.pointer (some ⟨g3,0,none⟩)] w (fun e w'=>∃A c,e= .returned (.slice A 4 c)/\Nl w' A 4 c (four F0 up xa xb ya yb)/\Below w.heap.size w w'):=by
 obtain⟨u1,h1⟩:∃u,F0 up xa ya=u:=⟨_,rfl⟩;obtain⟨u2,h2⟩:∃u,F0 up xa yb=u:=⟨_,rfl⟩;obtain⟨u3,h3⟩:∃u,F0 up xb ya=u:=⟨_,rfl⟩;obtain⟨u4,h4⟩:∃u,F0 up xb yb=u:=⟨_,rfl⟩
 have HF:Hid (four F0 up xa xb ya yb=[u1,u2,u3,u4]):=ie (by unfold four;rw[h1,h2,h3,h4])
 have H1:=ie h1;have H2:=ie h2;have H3:=ie h3;have H4:=ie h4;have HOP:=ie hop;have HB:=ie (Below.refl w.heap.size w);clear h1 h2 h3 h4 hop
 go_enter Tryz.func182,Tryz.ntmps182
 go_upto_region 1 with (fail)
 refine jk [0,1,2,3,4,5,6,7,8,9,10,11,12,13,14,15,16,17,18,19,20,21,22,23,24,25,26,27,28] [some 6,some 7,some 8,some 9,some 10,some 11,some 12,some 13,some 14,some 15,some 16,some 17,some 18,some 19,some 20,some 21,some 22,some 23,some 24,some 25,some 26,some 27,some 28,some 29,some 30,some 31,some 32,some 33,some 34,some 5] [[],[],[1],[],[3],[],[0,2,4,5],[],[],[8],[],[10],[],[7,9,11,12],[],[],[15],[],[17],[],[14,16,18,19],[],[],[22],[],[24],[],[21,23,25,26],[6,13,20,27],[]] 30 1 [Jo.Fact.eq (.func (.func fid) #[] #[]),Jo.qp g2 1,Jo.q4 K1 s1 M1 E1,Jo.qp g3 1,Jo.q4 K2 s2 M2 E2,Jo.qb up,Jo.Fact.num u1,Jo.Fact.eq (.func (.func fid) #[] #[]),Jo.qp g2 1,Jo.q4 K1 s1 M1 E1,Jo.qp g3 5,Jo.q4 K2b s2b M2b E2b,Jo.qb up,Jo.Fact.num u2,Jo.Fact.eq (.func (.func fid) #[] #[]),Jo.qp g2 5,Jo.q4 K1b s1b M1b E1b,Jo.qp g3 1,Jo.q4 K2 s2 M2 E2,Jo.qb up,Jo.Fact.num u3,Jo.Fact.eq (.func (.func fid) #[] #[]),Jo.qp g2 5,Jo.q4 K1b s1b M1b E1b,Jo.qp g3 5,Jo.q4 K2b s2b M2b E2b,Jo.qb up,Jo.Fact.num u4,Jo.Fact.nl 4 [u1,u2,u3,u4],Jo.Fact.any] ?_ ?_
 ·refine jm ?_ ?_
  ·rintro wj hJ K hK;simp only[Jo.z]at hK|-;have xX10:=(X1.b hJ).a 0 (.func (.func fid) #[] #[]) rfl;go_simp;exact hK.out _ _ rfl (br _ _)
  iterate 5 (refine jm ?_ ?_;rotate_left)
  refine jm ?_ ?_
  ·rintro wj hJ _ rfl _ rfl _ rfl _ rfl K hK;simp only[Jo.z]at hK|-;go_simp;rw[HOP.out.1];simp only[Oper.upon];exact Jo.n1 (HOP.out.2 _ _ _ _ _ _ _ _ _ _ _ _ _ (hI.b hJ) a1.top a2.top a1.rk a2.rk H1.out) hK.out
  refine jm ?_ ?_
  ·rintro wj hJ K hK;simp only[Jo.z]at hK|-;have xX10:=(X1.b hJ).a 0 (.func (.func fid) #[] #[]) rfl;go_simp;exact hK.out _ _ rfl (br _ _)
  iterate 5 (refine jm ?_ ?_;rotate_left)
  refine jm ?_ ?_
  ·rintro wj hJ _ rfl _ rfl _ rfl _ rfl K hK;simp only[Jo.z]at hK|-;go_simp;rw[HOP.out.1];simp only[Oper.upon];exact Jo.n1 (HOP.out.2 _ _ _ _ _ _ _ _ _ _ _ _ _ (hI.b hJ) a1.top b2.top a1.rk b2.rk H2.out) hK.out
  refine jm ?_ ?_
  ·rintro wj hJ K hK;simp only[Jo.z]at hK|-;have xX10:=(X1.b hJ).a 0 (.func (.func fid) #[] #[]) rfl;go_simp;exact hK.out _ _ rfl (br _ _)
  iterate 5 (refine jm ?_ ?_;rotate_left)
  refine jm ?_ ?_
  ·rintro wj hJ _ rfl _ rfl _ rfl _ rfl K hK;simp only[Jo.z]at hK|-;go_simp;rw[HOP.out.1];simp only[Oper.upon];exact Jo.n1 (HOP.out.2 _ _ _ _ _ _ _ _ _ _ _ _ _ (hI.b hJ) b1.top a2.top b1.rk a2.rk H3.out) hK.out
  refine jm ?_ ?_
  ·rintro wj hJ K hK;simp only[Jo.z]at hK|-;have xX10:=(X1.b hJ).a 0 (.func (.func fid) #[] #[]) rfl;go_simp;exact hK.out _ _ rfl (br _ _)
  iterate 5 (refine jm ?_ ?_;rotate_left)
  refine jm ?_ ?_
  ·rintro wj hJ _ rfl _ rfl _ rfl _ rfl K hK;simp only[Jo.z]at hK|-;go_simp;rw[HOP.out.1];simp only[Oper.upon];exact Jo.n1 (HOP.out.2 _ _ _ _ _ _ _ _ _ _ _ _ _ (hI.b hJ) b1.top b2.top b1.rk b2.rk H4.out) hK.out
  refine jm ?_ ?_
  ·rintro wj hJ _ ⟨K21,s21,M21,E21,rfl,q21⟩ _ ⟨K22,s22,M22,E22,rfl,q22⟩ _ ⟨K23,s23,M23,E23,rfl,q23⟩ _ ⟨K24,s24,M24,E24,rfl,q24⟩ K hK;simp only[Jo.z]at hK|-;go_simp;exact hK.out _ _ ⟨_,4,rfl,Nl.of4 (Bo.new _ _ _) q21 q22 q23 q24⟩ (bel1 _ _)
  exact jo
  all_goals (rintro wj hJ;(repeat rintro _ rfl);intro K hK;simp only[Jo.z]at hK|-;have xX2:=(X2.b hJ).cell;have xX3:=(X3.b hJ).cell;go_simp;exact hK.out _ _ rfl (br _ _))
 rintro w8 hJ _ rfl _ _ _ rfl _ _ _ rfl _ rfl _ ⟨K21,s21,M21,E21,rfl,q21⟩ _ rfl _ _ _ rfl _ _ _ rfl _ rfl _ ⟨K22,s22,M22,E22,rfl,q22⟩ _ rfl _ _ _ rfl _ _ _ rfl _ rfl _ ⟨K23,s23,M23,E23,rfl,q23⟩ _ rfl _ _ _ rfl _ _ _ rfl _ rfl _ ⟨K24,s24,M24,E24,rfl,q24⟩ _ ⟨A9,c9,rfl,h9⟩ -;simp only[Jo.z];replace HB:=Hqb HB hJ
 refine jn 29 fun K hK=>?_
 go_simp;refine hK.out _ _ ?_;clear hK K;refine jd ?_;go_wp2
 go_ret
 exact⟨_,_,rfl,HF.out▸h9,HB.out⟩
theorem fkOf{w:World}{fid:FuncId}{F0:Bool->Int->Int->Int}{b:Bool}{K1 M1 E1 K1b M1b E1b K2 M2 E2 K2b M2b E2b:Int}{s1 s1b s2 s2b:Bool}{xa xb ya yb:Int}{z:Sp}(hop:OpQ fid F0 b)(hI:TabIf b w)(v1:Ci false K1 s1 M1 E1 K1b s1b M1b E1b (some (xa,xb)))(v2:Ci false K2 s2 M2 E2 K2b s2b M2b E2b (some (ya,yb)))(hF:F0 false xa ya<=19342822337206103650074625/\ -19342822337206103650074625<=F0 true xa ya)(hr:cor F0 xa xb ya yb=z):
  Calls Tryz.prog 116 #[VI false K1 s1 M1 E1 K1b s1b M1b E1b,VI false K2 s2 M2 E2 K2b s2b M2b E2b,.func (.func fid) #[] #[]] w (PV w z):=by
 delta VI
 have hmf:∀(fn:Fn) (first cap:Array Value) (w:World),(Instr.makeFunc fn first cap).run Tryz.prog w= .ok (.func fn first cap) w:=fun _ _ _ _=>rfl
 obtain⟨_,a1,b1,o1,o1l,o1h⟩:=v1;obtain⟨_,a2,b2,o2,o2l,o2h⟩:=v2;rw[<-four_cor hF.1 hF.2]at hr;obtain⟨u,hu⟩:∃u,mnp (four F0 false xa xb ya yb)=u:=⟨_,rfl⟩;obtain⟨v,hv⟩:∃v,mxp (four F0 true xa xb ya yb)=v:=⟨_,rfl⟩;rw[hu,hv]at hr;have HU:=ie hu;have HV:=ie hv;have HR:=ie hr;have HOP:=ie hop;clear hu hv hr hop hF o1 o1l o1h o2 o2l o2h
 go_enter Tryz.func116,Tryz.ntmps116
 go_upto_region 1 with (fail)
 generalize hW1:(((w.alloc _).alloc _).alloc _).alloc _=w1 at *;obtain⟨X3,X4,X5,XR,HB⟩:=Bo.en4 hW1;replace hI:=hI.below HB.out;clear hW1
 go_wp2_with fail
 refine(fkFour HOP.out hI X5 X3 X4 a1 b1 a2 b2).mono ?_;rintro ee w2 ⟨A1,c1,rfl,N1,B⟩;replace X3:=X3.b B;replace X4:=X4.b B;replace X5:=X5.b B;replace XR:=XR.b B;replace hI:=hI.b B;replace HB:=Hqb HB B;clear B
 go_wp2_with fail
 refine(nLeast N1 HU.out).mono ?_;rintro ee w3 ⟨K11,s11,M11,E11,rfl,q11,B⟩;replace X3:=X3.b B;replace X4:=X4.b B;replace X5:=X5.b B;replace XR:=XR.b B;replace hI:=hI.b B;replace HB:=Hqb HB B;clear B;clear N1
 go_wp2_with fail
 refine(fkFour HOP.out hI X5 X3 X4 a1 b1 a2 b2).mono ?_;rintro ee w4 ⟨A2,c2,rfl,N2,B⟩;replace XR:=XR.b B;replace HB:=Hqb HB B;clear B
 go_wp2_with fail
 refine(nMost N2 HV.out).mono ?_;rintro ee w5 ⟨K12,s12,M12,E12,rfl,q12,B⟩;replace XR:=XR.b B;replace HB:=Hqb HB B;clear B;clear N2
 go_wp2_with fail
 refine(kvMake q11.top q12.top q11.rk q12.rk HR.out).mono ?_;rintro ee w6 ⟨e13,K13,s13,M13,E13,K13b,s13b,M13b,E13b,rfl,v13,B⟩;replace XR:=XR.b B;replace HB:=Hqb HB B;clear B;clear hI;clear X5;have xXR:=XR.cell;have zXR0:=XR.frozen;go_wp2;clear xXR zXR0;have SX:=StN.t9 XR e13 K13 s13 M13 E13 K13b s13b M13b E13b
 exact bq (by simp[results,Tryz.results116,go_sem,SX.box.cell]) rfl ⟨_,_,_,_,_,_,_,_,_,rfl,v13,(SX.below HB.out (by omega))⟩
theorem opq_mul:OpQ 117 mulp false:=⟨fun _ _=>by first | rfl | kernel_rfl | simp[callFunc,go_sem],fun _ _ _ _ _ _ _ _ _ _ _ _ _ _ hM hM' hx hy hr=>aMul hM hM' hx hy hr⟩
theorem fkMul{w:World}{e:Bool}{D M E D' M' E':Int}{s s':Bool}{e2:Bool}{G P Q G' P' Q':Int}{g g':Bool}{x y z:Sp}(hM:LQ M)(hM':LQ M')(hP:LQ P)(hP':LQ P')(hx:rkI e D s M E D' s' M' E'=x)(hy:rkI e2 G g P Q G' g' P' Q'=y)(hr:mulI x y=z):Calls Tryz.prog 45 #[VI e D s M E D' s' M' E',VI e2 G g P Q G' g' P' Q'] w (PV w z):=by
 delta VI
 obtain⟨p,hp⟩:∃p,gone [x,y]=p:=⟨_,rfl⟩;have HP:=ie hp;have HX:=ie hx;have HY:=ie hy;clear hx hy hp
 go_enter Tryz.func45,Tryz.ntmps45
 go_upto_region 1 with (fail)
 generalize hW1:((w.alloc _).alloc _).alloc _=w1 at *;obtain⟨X2,X3,XR,HB⟩:=Bo.en3 hW1;clear hW1;have xX2:=X2.cell;have xX3:=X3.cell
 go_wp2_with fail
 refine(fkEmpty (Il8.lit2 rfl ⟨hM,hM',HX.out⟩ ⟨hP,hP',HY.out⟩) HP.out).mono ?_;rintro ee w2 ⟨rfl,B⟩;replace B:=bt (bel1 _ (.cells #[.bool e,.int .i64 D,.bool s,.int .u64 M,.int .i64 E,.int .i64 D',.bool s',.int .u64 M',.int .i64 E',.bool e2,.int .i64 G,.bool g,.int .u64 P,.int .i64 Q,.int .i64 G',.bool g',.int .u64 P',.int .i64 Q'] 32)) B;clear xX2 xX3
 replace X2:=X2.b B;replace X3:=X3.b B;replace XR:=XR.b B;replace HB:=Hqb HB B;clear B
 rcases x with _ | ⟨xa,xb⟩
 ·obtain rfl:true=p:=HP.out
  obtain rfl:none=z:=hr
  clear HP
  go_wp2_with fail
  refine(kvNoneE).mono ?_;rintro ee w3 ⟨rfl,B⟩;replace X2:=X2.b B;replace X3:=X3.b B;replace XR:=XR.b B;replace HB:=Hqb HB B;clear B;have xXR:=XR.cell;have zXR0:=XR.frozen;go_wp2;clear xXR zXR0;have SX:=StN.t9 XR true 0 false 0 0 0 false 0 0
  exact bq (by simp[results,Tryz.results45,go_sem,SX.box.cell]) rfl ⟨_,_,_,_,_,_,_,_,_,rfl,Ci.none,(SX.below HB.out (by omega))⟩
 ·rcases y with _ | ⟨ya,yb⟩
  ·obtain rfl:true=p:=HP.out
   obtain rfl:none=z:=hr
   clear HP
   go_wp2_with fail
   refine(kvNoneE).mono ?_;rintro ee w3 ⟨rfl,B⟩;replace X2:=X2.b B;replace X3:=X3.b B;replace XR:=XR.b B;replace HB:=Hqb HB B;clear B;have xXR:=XR.cell;have zXR0:=XR.frozen;go_wp2;clear xXR zXR0;have SX:=StN.t9 XR true 0 false 0 0 0 false 0 0
   exact bq (by simp[results,Tryz.results45,go_sem,SX.box.cell]) rfl ⟨_,_,_,_,_,_,_,_,_,rfl,Ci.none,(SX.below HB.out (by omega))⟩
  ·obtain rfl:false=p:=HP.out
   have w1':=ci_some hM hM' HX.out
   have w2':=ci_some hP hP' HY.out
   obtain⟨rfl,a1,b1,o1,o1l,o1h⟩:=w1';obtain⟨rfl,a2,b2,o2,o2l,o2h⟩:=w2'
   have v1:Ci false D s M E D' s' M' E' (some (xa,xb)):=⟨rfl,a1,b1,o1,o1l,o1h⟩
   have v2:Ci false G g P Q G' g' P' Q' (some (ya,yb)):=⟨rfl,a2,b2,o2,o2l,o2h⟩
   clear HP HX HY
   have HR:=ie (show cor mulp xa xb ya yb=z from hr)
   clear hr o1 o1l o1h o2 o2l o2h;have xX2:=X2.cell;have xX3:=X3.cell
   go_wp2_with fail
   refine(fkOf opq_mul (fun e=>by cases e) v1 v2 ⟨(mulp_bd false).2,(mulp_bd true).1⟩ HR.out).mono ?_
   rintro ee w3 ⟨e13,K13,s13,M13,E13,K13b,s13b,M13b,E13b,rfl,v13,B⟩;clear xX2 xX3;replace XR:=XR.b B;replace HB:=Hqb HB B;clear B;have xXR:=XR.cell;have zXR0:=XR.frozen;go_wp2;clear xXR zXR0
   have SX:=StN.t9 XR e13 K13 s13 M13 E13 K13b s13b M13b E13b;exact bq (by simp[results,Tryz.results45,go_sem,SX.box.cell]) rfl ⟨_,_,_,_,_,_,_,_,_,rfl,v13,(SX.below HB.out (by omega))⟩
end Go.Proofs.YtomikokonmikgaaGreatDoor
namespace Go.Proofs.YtomikokonmikgaaGreatDoor
open Go Go.RowKit
set_option linter.unusedVariables false
theorem eps_o:(1/2^190:Rat)+1/2^200<=5*(1/SR)/\(27/2^192:Rat)=27*(1/SR)/\(1/2^240:Rat)<=1/SR/\(0:Rat) < 1/SR/\(3/SR:Rat)=3*(1/SR)/\(1/SR:Rat)*SR=1/\(0:Rat)<=1/2^240:=by decide +kernel
theorem turn_c{t:Rat}(h0:0<=t)(h1:t<=8/5):sinT (qt-t)-cosT t<=5*(1/SR)/\ -(5*(1/SR))<=sinT (qt-t)-cosT t:=by
 obtain⟨q1,q2⟩:=qt_bd;obtain⟨e1,_⟩:=eps_o;obtain⟨a1,a2⟩:=half_on (x:=t-qt) (by grind) (by grind);obtain⟨b1,b2⟩:=cos_sin (x:=t) (by grind) (by grind)
 rw[show t-qt+2*qt=t+qt by grind,show t-qt= -(qt-t) by grind,sin_neg]at a1 a2
 have p1:(1/2^190:Rat)*2^190=1:=by decide +kernel
 have p2:(1/2^200:Rat)*2^200=1:=by decide +kernel
 have n1:(0:Rat) < 2^190:=by decide +kernel
 have n2:(0:Rat) < 2^200:=by decide +kernel
 generalize sinT (t+qt)=x at *;generalize sinT (qt-t)=y at *;generalize cosT t=c at *
 have c1:x-y<=1/2^190:=Rat.le_of_mul_le_mul_right (c:=2^190) (by rw[p1];grind) n1
 have c2:y-x<=1/2^190:=Rat.le_of_mul_le_mul_right (c:=2^190) (by rw[p1];grind) n1
 have d1:x-c<=1/2^200:=Rat.le_of_mul_le_mul_right (c:=2^200) (by rw[p2];grind) n2
 have d2:c-x<=1/2^200:=Rat.le_of_mul_le_mul_right (c:=2^200) (by rw[p2];grind) n2
 generalize (1/2^190:Rat)=u at *;generalize (1/2^200:Rat)=v at *;generalize (1/SR:Rat)=g at *
 constructor <;> grind
def BesideS (s:Rat)(Z:Sp):Prop:=UnitS Z/\(∀v:Rat,-1<=v->s<=v+27/2^192->LoR v Z)/\(∀v:Rat,v<=1->v<=s+27/2^192->HiR v Z)
theorem mul_unit_bd{x y:Rat}(x1: -1<=x)(x2:x<=1)(y1: -1<=y)(y2:y<=1): -1<=x*y/\x*y<=1:=by
 have a:=Rat.mul_nonneg (show 0<=1-x by grind) (show 0<=1-y by grind)
 have b:=Rat.mul_nonneg (show 0<=1+x by grind) (show 0<=1+y by grind)
 have c:=Rat.mul_nonneg (show 0<=1-x by grind) (show 0<=1+y by grind)
 have d:=Rat.mul_nonneg (show 0<=1+x by grind) (show 0<=1-y by grind)
 constructor <;> grind
theorem mul_small{x d t:Rat}(x1: -1<=x)(x2:x<=1)(d1: -t<=d)(d2:d<=t): -t<=x*d/\x*d<=t:=by
 have a:=Rat.mul_nonneg (show 0<=1-x by grind) (show 0<=t-d by grind)
 have b:=Rat.mul_nonneg (show 0<=1+x by grind) (show 0<=t+d by grind)
 have c:=Rat.mul_nonneg (show 0<=1-x by grind) (show 0<=t+d by grind)
 have e:=Rat.mul_nonneg (show 0<=1+x by grind) (show 0<=t-d by grind)
 constructor <;> grind
theorem slope_core{n:Int}{Zs Zc:Sp}{s c:Rat}(n1: -19342822337206103650074625 < n)(n2:n < 19342822337206103650074625)(hs:BesideS s Zs)(hc:BesideS c Zc)
  (s1: -(1+1/2^240)<=s) (s2:s<=1+1/2^240) (c1: -(1+1/2^240)<=c) (c2:c<=1+1/2^240)
  (h:(-1<=V n/\V n<=1/\ -(12*(1/SR))<=s-V n*c/\s-V n*c<=12*(1/SR))\/(∃r:Rat,r*V n=1/\ -1<=r/\r<=1/\ -(12*(1/SR))<=s*r-c/\s*r-c<=12*(1/SR))):
  ∃a b,meetI Zs (mulI (some (n,n)) Zc)=some (a,b):=by
 obtain⟨_,e2,e3,e4,_,_,e7⟩:=eps_o;obtain⟨us,ls,hs⟩:=hs;obtain⟨uc,lc,hc⟩:=hc;rw[e2]at ls hs lc hc
 have fn:FinI (some (n,n)):=⟨Int.le_refl _,n1,n2⟩
 have nl:LoR (V n) (some (n,n)):= .inr (by rw[V_at];exact Rat.le_refl)
 have nh:HiR (V n) (some (n,n)):= .inr (by rw[V_at];exact Rat.le_refl)
 have key:∃w u:Rat,V n*u=w/\ -1<=w/\w<=1/\ -1<=u/\u<=1/\s<=w+27*(1/SR)/\w<=s+27*(1/SR)/\c<=u+27*(1/SR)/\u<=c+27*(1/SR):=by
  rcases h with⟨h1,h2,h3,h4⟩ | ⟨r,hr,h1,h2,h3,h4⟩
  ·obtain⟨b1,b2⟩:=cut_bd c;obtain⟨k1,k2⟩:=cut_near c1 c2 e7;obtain⟨m1,m2⟩:=mul_unit_bd h1 h2 b1 b2;obtain⟨d1,d2⟩:=mul_small h1 h2 (d:=c-cut1 c) (t:=1/2^240) (by grind) k1;generalize (1/2^240:Rat)=t at *;generalize (1/SR:Rat)=g at *;generalize cut1 c=y at *;generalize V n=N at *;exact⟨N*y,y,rfl,m1,m2,b1,b2,by grind,by grind,by grind,by grind⟩
  ·obtain⟨b1,b2⟩:=cut_bd s;obtain⟨k1,k2⟩:=cut_near s1 s2 e7;obtain⟨m1,m2⟩:=mul_unit_bd h1 h2 b1 b2;obtain⟨d1,d2⟩:=mul_small h1 h2 (d:=s-cut1 s) (t:=1/2^240) (by grind) k1;generalize (1/2^240:Rat)=t at *;generalize (1/SR:Rat)=g at *;generalize cut1 s=y at *;generalize V n=N at *;exact⟨y,r*y,by rw[<-Rat.mul_assoc,Rat.mul_comm N r,hr,Rat.one_mul],b1,b2,m1,m2,by grind,by grind,by grind,by grind⟩
 obtain⟨w,u,e,w1,w2,u1,u2,k1,k2,k3,k4⟩:=key;obtain⟨p1,p2,p3⟩:=mul_R fn uc.fin nl nh (lc u u1 k3) (hc u u2 k4);rw[e]at p1 p2;exact meet_R us.fin.ok p3 (ls w w1 k1) (hs w w2 k2) p1 p2
theorem pos_slope{q:Bool->Int->Int->Int}(hq:QF q){n:Int}{Z:Sp}(h:AtP q n Z)(h0:0<=n)(h1:n < 19342822337206103650074625):∃t:Rat,0<=t/\t<=8/5/\LoR t Z/\HiR t Z/\
  ((-1<=V n/\V n<=1/\ -(12*(1/SR))<=sinT t-V n*sinT (qt-t)/\sinT t-V n*sinT (qt-t)<=12*(1/SR))\/
  (∃r:Rat,r*V n=1/\ -1<=r/\r<=1/\ -(12*(1/SR))<=sinT t*r-sinT (qt-t)/\sinT t*r-sinT (qt-t)<=12*(1/SR))):=by
 obtain⟨q1,q2⟩:=qt_bd;obtain⟨_,_,_,e4,e5,e6,_⟩:=eps_o;have sp:=sr_pos;have bp:=br_pos;have vz:=V_at n
 rcases h with⟨e,_⟩ | ⟨_,c,h⟩ | ⟨e,c,H,l,k,hH,hl,hk,hz⟩
 ·omega
 ·obtain⟨f,a0,a1⟩:=fix_unit h0 c;obtain⟨_,l1,l2⟩:=h.is a0 a1;obtain⟨b1,b2⟩:=ang_bd13 a0 a1;obtain⟨s1,s2⟩:=slope_e a0 a1;obtain⟨t1,t2⟩:=turn_c b1 (by grind);obtain⟨z1,z2⟩:=zp_in f;obtain⟨p1,p2⟩:=part_bd a0 a1;obtain⟨⟨cb1,cb2⟩,_⟩:=cs_bd (x:=pAng (fixI n)) (by grind) (by grind);refine⟨pAng (fixI n),b1,by grind,l1 _ (by grind),l2 _ (by grind),.inl ?_⟩
  have zv:zp n=V n*SR:=by
   have x:=zp_at n;refine Rat.le_antisymm (Rat.le_of_mul_le_mul_right (c:=BR) ?_ bp) (Rat.le_of_mul_le_mul_right (c:=BR) ?_ bp) <;> grind
  have fa:=Rat.div_mul_cancel (a:=((fixI n:Int):Rat)) (b:=SR) (Rat.ne_of_gt sp);rw[zv]at z1 z2
  rw[Rat.intCast_add,show ((1:Int):Rat)=1 from rfl]at z2
  have y1:((fixI n:Int):Rat) /SR<=V n:=Rat.le_of_mul_le_mul_right (c:=SR) (by rw[fa];exact z1) sp
  have y2:V n<=((fixI n:Int):Rat) /SR+1/SR:=Rat.le_of_mul_le_mul_right (c:=SR) (by rw[Rat.add_mul,fa,e6];exact z2) sp
  have N0:0<=V n:=by grind
  have N1:V n<=1:=by
   have v:=V_le c
   have o:V (opl 1)=1:=by
    have a:=V_at (opl 1)
    rw[one_vr,show ((2^KK:Int):Rat)=BR from rfl]at a
    refine Rat.le_antisymm (Rat.le_of_mul_le_mul_right (c:=BR) ?_ bp) (Rat.le_of_mul_le_mul_right (c:=BR) ?_ bp) <;> grind
   rw[o]at v;exact v
  rw[e5]at s1 s2;clear fa z1 z2 zv vz l1 l2;generalize (1/SR:Rat)=g at *;generalize ((fixI n:Int):Rat) /SR=y at *;generalize sinT (pAng (fixI n))=s at *;generalize cosT (pAng (fixI n))=C at *;generalize sinT (qt-pAng (fixI n))=D at *;generalize V n=N at *;obtain⟨m1,m2⟩:=mul_small (x:=N) (d:=D-C) (t:=5*g) (by grind) N1 t2 t1
  have m3:=Rat.mul_nonneg (show 0<=N-y by grind) (show 0<=101/100-C by grind)
  have m4:=Rat.mul_nonneg (show 0<=N-y by grind) (show 0<=101/100+C by grind)
  refine⟨by grind,N1,?_,?_⟩ <;> grind
 ·obtain⟨b1,b2,b3⟩:=inv_bd hq c (by omega);obtain⟨g1,c1,c2⟩:=fix_unit b1 (by omega)
  obtain⟨g2,c3,c4⟩:=fix_unit (show 0<=q true (opl 1) n by omega) b3
  obtain⟨t1,t2,t3⟩:=sub_is hH hl hk c1 (fix_up g1 g2 b2) c4 hz;obtain⟨ob1,ob2⟩:=one_bd
  have n0:0 < n:=by omega
  have vp:=vr_pos n0;have hp:=p2pos KK
  -- the fixed number of one by n
  obtain⟨v,hv⟩:∃v,v=SC*2^KK/vr n:=⟨_,rfl⟩
  have v1:v*vr n<=SC*2^KK:=by rw[hv];exact Int.ediv_mul_le _ (by omega)
  have v2:SC*2^KK < (v+1)*vr n:=by rw[hv];exact Int.lt_ediv_add_one_mul_self _ vp
  have lo:fixI (q false (opl 1) n)<=v:=by
   have s:=qt_sid (hq false (opl 1) n) n0 (infp_fin (by omega) ob2) (infp_fin (by omega) (by omega));rw[sid_f]at s;obtain⟨_,_,s3,_⟩:=s;have a:=s3 (by omega);rw[one_vr]at a;obtain⟨f,_⟩:=fix_holds g1;rw[hv];refine(Int.le_ediv_iff_mul_le vp).2 (Int.le_of_mul_le_mul_right (a:=2^KK) ?_ hp);have m1:=Int.mul_le_mul_of_nonneg_right f (Int.le_of_lt vp);have m2:=Int.mul_le_mul_of_nonneg_right a (Int.le_of_lt sc_pos)
   grind
  have hi:v<=fixI (q true (opl 1) n):=by
   have s:=qt_sid (hq true (opl 1) n) n0 (infp_fin (by omega) ob2) (infp_fin (by omega) (by omega));rw[sid_t]at s;obtain⟨_,_,s3,_⟩:=s;have a:=s3 (by omega);rw[one_vr,vr_neg]at a;rw[fixI_yes g2];refine(Int.le_ediv_iff_mul_le hp).2 (Int.le_of_mul_le_mul_right (a:=vr n) ?_ vp);have m1:=Int.mul_le_mul_of_nonneg_right v1 (Int.le_of_lt hp);have m2:=Int.mul_le_mul_of_nonneg_right a (Int.le_of_lt sc_pos)
   grind
  have a0:0<=v:=by omega
  have a1:v<=SC:=by omega
  have ml:=ang_mono c1 lo a1;have mh:=ang_mono a0 hi c4;obtain⟨w1,w2⟩:=ang_bd13 a0 a1;obtain⟨s1,s2⟩:=slope_e a0 a1;obtain⟨u1,u2⟩:=turn_c w1 (by grind);obtain⟨p1,p2⟩:=part_bd a0 a1;obtain⟨⟨cb1,cb2⟩,_⟩:=cs_bd (x:=pAng v) (by grind) (by grind);refine⟨qt-pAng v,by grind,by grind,t2 _ ?_,t3 _ ?_,.inr ?_⟩
  ·rw[show qt-(qt-pAng v)=pAng v by grind]
   grind
  ·rw[show qt-(qt-pAng v)=pAng v by grind]
   grind
  ·rw[show qt-(qt-pAng v)=pAng v by grind]
   have N0:0 < V n:=by
    have a:=Rat.intCast_lt_intCast.2 vp;rw[<-vz,Rat.intCast_zero]at a;refine Rat.lt_of_mul_lt_mul_right (c:=BR) ?_ (Rat.le_of_lt bp);rw[Rat.zero_mul];exact a
   have k1:=Rat.intCast_le_intCast.2 v1;have k2:=Rat.intCast_lt_intCast.2 v2
   rw[Rat.intCast_mul,Rat.intCast_mul,show ((2^KK:Int):Rat)=BR from rfl,<-vz]at k1
   rw[Rat.intCast_mul,Rat.intCast_mul,show ((2^KK:Int):Rat)=BR from rfl,<-vz,Rat.intCast_add,show ((1:Int):Rat)=1 from rfl]at k2
   have j1:(v:Rat)*V n<=SR:=Rat.le_of_mul_le_mul_right (c:=BR) (by rw[Rat.mul_assoc];exact k1) bp
   have j2:SR < ((v:Rat)+1)*V n:=Rat.lt_of_mul_lt_mul_right (c:=BR) (by rw[Rat.mul_assoc];exact k2) (Rat.le_of_lt bp)
   have N1:1<=V n:=by
    have o:V (opl 1)=1:=by
     have a:=V_at (opl 1)
     rw[one_vr,show ((2^KK:Int):Rat)=BR from rfl]at a
     refine Rat.le_antisymm (Rat.le_of_mul_le_mul_right (c:=BR) ?_ bp) (Rat.le_of_mul_le_mul_right (c:=BR) ?_ bp) <;> grind
    have x:=V_le (show opl 1<=n by omega)
    rw[o]at x;exact x
   have fa:=Rat.div_mul_cancel (a:=((v:Int):Rat)) (b:=SR) (Rat.ne_of_gt sp);obtain⟨r,hr⟩:∃r:Rat,r*V n=1:=⟨1/V n,Rat.div_mul_cancel (Rat.ne_of_gt N0)⟩
   have r1:(v:Rat) /SR<=r:=by
    refine Rat.le_of_mul_le_mul_right (c:=V n) ?_ N0;rw[hr];refine Rat.le_of_mul_le_mul_right (c:=SR) ?_ sp
    grind
   have r2:r<=(v:Rat) /SR+1/SR:=by
    refine Rat.le_of_mul_le_mul_right (c:=V n) ?_ N0;rw[hr];refine Rat.le_of_mul_le_mul_right (c:=SR) ?_ sp
    have x:((v:Rat) /SR+1/SR)*V n*SR=((v:Rat) /SR*SR+1/SR*SR)*V n:=by grind
    rw[x,fa,e6]
    grind
   have r3:r<=1:=by
    refine Rat.le_of_mul_le_mul_right (c:=V n) ?_ N0;rw[hr,Rat.one_mul];exact N1
   rw[e5]at s1 s2;clear fa k1 k2 j1 j2 vz ml mh t2 t3 e6 v1 v2 hv;generalize (1/SR:Rat)=g at *;generalize (v:Rat) /SR=y at *;generalize sinT (pAng v)=s at *;generalize cosT (pAng v)=C at *;generalize sinT (qt-pAng v)=D at *;obtain⟨m1,m2⟩:=mul_small (x:=r) (d:=D-C) (t:=5*g) (by grind) r3 u2 u1
   have m3:=Rat.mul_nonneg (show 0<=r-y by grind) (show 0<=101/100-C by grind)
   have m4:=Rat.mul_nonneg (show 0<=r-y by grind) (show 0<=101/100+C by grind)
   refine⟨r,hr,by grind,r3,?_,?_⟩ <;> grind
theorem sines_at{a b:Int}{t:Rat}{Z:Sp}(h:AllV false (some (a,b)) Z)(t1: -(17/10)<=t)(t2:t<=17/10)(ha:((vr a:Int):Rat)<=t*BR)(hb:t*BR<=((vr b:Int):Rat)):BesideS (sinT t) Z/\ -(1+1/2^240)<=sinT t/\sinT t<=1+1/2^240:=by
 have sp:=sr_pos;have bp:=br_pos
 have g:ang 0 (t*SR)=t:=by
  unfold ang
  rw[show qI 0=0 by decide,Rat.intCast_zero,Rat.zero_mul,show t*SR-0=t*SR by grind,Rat.mul_div_cancel (Rat.ne_of_gt sp)]
 have e:sinU 0 (t*SR)=sinT t:=by
  rw[sinU_ang,g,show qI 0=0 by decide]
  exact if_pos (by decide)
 have za:=zp_at a;have zb:=zp_at b
 have k:=all_loM (x:=0) (z:=t*SR) h (by rw[g];exact⟨t1,t2⟩) (Rat.le_of_mul_le_mul_right (c:=BR) (by
   show zp a*BR<=_
   have:=Rat.mul_le_mul_of_nonneg_right ha (Rat.le_of_lt sp)
   grind) bp) (Rat.le_of_mul_le_mul_right (c:=BR) (by
   show _<=zp b*BR
   have:=Rat.mul_le_mul_of_nonneg_right hb (Rat.le_of_lt sp)
   grind) bp)
 have u:=su_bd (x:=0) (z:=t*SR) (by rw[g];exact⟨t1,t2⟩);rw[e]at k u;exact⟨k,u⟩
theorem cosines_at{a b:Int}{t:Rat}{Z:Sp}(h:AllV true (some (a,b)) Z)(t1: -(8/5)<=t)(t2:t<=8/5)(ha:((vr a:Int):Rat)<=t*BR)(hb:t*BR<=((vr b:Int):Rat)){c:Rat}(hc:(0<=t/\c=sinT (qt-t))\/(t<=0/\c=sinT (qt+t))):BesideS c Z/\ -(1+1/2^240)<=c/\c<=1+1/2^240:=by
 have sp:=sr_pos;have bp:=br_pos;obtain⟨q1,q2⟩:=qt_bd;have za:=zp_at a;have zb:=zp_at b
 have la:zq true a<=t*SR+qt*SR:=by
  have x:zp a<=t*SR:=Rat.le_of_mul_le_mul_right (c:=BR) (by
   have:=Rat.mul_le_mul_of_nonneg_right ha (Rat.le_of_lt sp)
   grind) bp
  show zp a+qt*SR<=_
  grind
 have lb:t*SR+qt*SR<=zq true b:=by
  have x:t*SR<=zp b:=Rat.le_of_mul_le_mul_right (c:=BR) (by
   have:=Rat.mul_le_mul_of_nonneg_right hb (Rat.le_of_lt sp)
   grind) bp
  show _<=zp b+qt*SR
  grind
 rcases hc with⟨t0,rfl⟩ | ⟨t0,rfl⟩
 ·have g:ang PLo (t*SR+qt*SR)= -(qt-t):=by
   unfold ang
   rw[show qI PLo=1 by decide,show ((1:Int):Rat)=1 from rfl,show t*SR+qt*SR-1*(2*qt*SR)= -(qt-t)*SR by grind,Rat.mul_div_cancel (Rat.ne_of_gt sp)]
  have e:sinU PLo (t*SR+qt*SR)=sinT (qt-t):=by
   rw[sinU_ang,g,show qI PLo=1 by decide,sin_neg,if_neg (by decide)]
   grind
  have bd: -(17/10)<=ang PLo (t*SR+qt*SR)/\ang PLo (t*SR+qt*SR)<=17/10:=by
   rw[g]
   constructor <;> grind
  have k:=all_loM (x:=PLo) (z:=t*SR+qt*SR) h bd la lb;have u:=su_bd bd;rw[e]at k u;exact⟨k,u⟩
 ·have g:ang 0 (t*SR+qt*SR)=qt+t:=by
   unfold ang
   rw[show qI 0=0 by decide,Rat.intCast_zero,Rat.zero_mul,show t*SR+qt*SR-0=(qt+t)*SR by grind,Rat.mul_div_cancel (Rat.ne_of_gt sp)]
  have e:sinU 0 (t*SR+qt*SR)=sinT (qt+t):=by
   rw[sinU_ang,g,show qI 0=0 by decide]
   exact if_pos (by decide)
  have bd: -(17/10)<=ang 0 (t*SR+qt*SR)/\ang 0 (t*SR+qt*SR)<=17/10:=by
   rw[g]
   constructor <;> grind
  have k:=all_loM (x:=0) (z:=t*SR+qt*SR) h bd la lb;have u:=su_bd bd;rw[e]at k u;exact⟨k,u⟩
theorem at_slopes{q:Bool->Int->Int->Int}(hq:QF q){n:Int}{Z Zs Zc:Sp}(h:AtV q n Z)(n1: -19342822337206103650074625 < n)(n2:n < 19342822337206103650074625)(hs:AllV false Z Zs)(hc:AllV true Z Zc):∃a b,meetI Zs (mulI (some (n,n)) Zc)=some (a,b):=by
 obtain⟨o1,o2⟩:=two_bd;have e2:=opl_two_eq;obtain⟨a,b,rfl,ab,b1,b2,_⟩:=h.tight hq (by omega) (by omega)
 have fin:∀t:Rat,LoR t (some (a,b))->HiR t (some (a,b))->((vr a:Int):Rat)<=t*BR/\t*BR<=((vr b:Int):Rat):=fun t x y=>⟨x.resolve_left (by omega),y.resolve_left (by omega)⟩
 rcases h with⟨c,Y,hY,eY⟩ | ⟨c,h⟩
 ·obtain⟨t,t0,t1,l,u,k⟩:=pos_slope hq hY (by omega) (by omega);obtain⟨p,r,eY',pr,_,_,_⟩:=hY.tight hq (by omega) (by omega)
  have fY:FinI Y:=by
   rw[eY']at eY|-;rw[negI_some ⟨by omega,pr,by omega,by omega,by omega⟩]at eY
   injection eY with eY
   injection eY with g1 g2
   exact⟨pr,by omega,by omega⟩
  have nl:=(neg_R (v:=t) fY).2.1 u;have nh:=(neg_R (v:=t) fY).1 l;rw[<-eY]at nl nh;obtain⟨f1,f2⟩:=fin _ nl nh;have S:=sines_at hs (by grind) (by grind) f1 f2
  have C:=cosines_at hc (t:= -t) (c:=sinT (qt-t)) (by grind) (by grind) f1 f2 (.inr ⟨by grind,by rw[show qt+ -t=qt-t by grind]⟩)
  rw[sin_neg]at S;refine slope_core n1 n2 S.1 C.1 S.2.1 S.2.2 C.2.1 C.2.2 ?_;rw[V_neg]at k;generalize sinT t=s at *;generalize sinT (qt-t)=d at *;generalize (1/SR:Rat)=g at *
  rcases k with⟨k1,k2,k3,k4⟩ | ⟨r,hr,k1,k2,k3,k4⟩
  ·left
   generalize V n=N at *;refine⟨by grind,by grind,by grind,by grind⟩
  ·refine .inr ⟨-r,by grind,by grind,by grind,by grind,by grind⟩
 ·obtain⟨t,t0,t1,l,u,k⟩:=pos_slope hq h (by omega) n2;obtain⟨f1,f2⟩:=fin _ l u;have S:=sines_at hs (by grind) (by grind) f1 f2;have C:=cosines_at hc (t:=t) (c:=sinT (qt-t)) (by grind) (by grind) f1 f2 (.inl ⟨t0,rfl⟩);exact slope_core n1 n2 S.1 C.1 S.2.1 S.2.2 C.2.1 C.2.2 k
