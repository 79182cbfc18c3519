/-
 Contracts that the proof rests on.
-/
import Derived.Test.YtaadmpiphnfllaaGreatDoorYAas
namespace Go.Proofs.YtaadmpiphnfllaaGreatDoor
open Go.RowKit
set_option linter.unusedVariables false
def ep (r:Int):Int × Int:=if r=0 then (0,0)else mk (sgi (decide (r < 0)) (((r.natAbs:Int)-1)%9223372036854775808+9223372036854775808)) (((r.natAbs:Int)-1) /9223372036854775808-1048576)
theorem exq_ep{D:Int}{s:Bool}{M E r:Int}(q:Fq D s M E r)(hx:exb D s M E=true):exq D s M E=ep r:=by
 unfold exq ep
 rw [if_pos hx]
 rcases q.cases with⟨rfl,rfl,rfl,rfl,h0⟩ | ⟨rfl,h1,h2,h3,h4,⟨rfl,h5⟩ | ⟨rfl,h5⟩⟩ | ⟨rfl,_⟩
 ·rw [if_pos h0,show sgi false 0=0 from if_neg (by decide)]
  exact mk_zero 0
 ·rw [if_neg (by omega),decide_eq_false (show ¬r < 0 by omega)]
  congr 2
  ·omega
  ·omega
 ·rw [if_neg (by omega),decide_eq_true (show r < 0 by omega)]
  congr 2
  ·omega
  ·omega
 ·exact absurd hx (by unfold exb;simp)
theorem ep_nf (r:Int):Nf (ep r):=by
 unfold ep
 split
 ·exact mk_zero 0
 ·exact mk_nf _ _
theorem fq_of{r:Int}(h1: -19342822337206103650074625 < r)(h2:r < 19342822337206103650074625):∃D s M E,Fq D s M E r:=by
 by_cases h0:r=0
 ·exact⟨0,false,0,0,h0▸Fq.nought⟩
 ·by_cases hn:r < 0
  ·refine⟨1,true,((r.natAbs:Int)-1)%9223372036854775808+9223372036854775808,((r.natAbs:Int)-1) /9223372036854775808-1048576,Fq.fin (by omega) (by omega) (by omega) (by omega) ?_⟩
   rw [show ∀x,sgi true x= -x from fun x=>if_pos rfl]
   omega
  ·refine⟨1,false,((r.natAbs:Int)-1)%9223372036854775808+9223372036854775808,((r.natAbs:Int)-1) /9223372036854775808-1048576,Fq.fin (by omega) (by omega) (by omega) (by omega) ?_⟩
   rw [show ∀x,sgi false x=x from fun x=>if_neg (by decide)]
   omega
theorem ep_vl{r:Int}(h1: -19342822337206103650074625 < r)(h2:r < 19342822337206103650074625):vl (ep r)=vr r:=by
 obtain⟨D,s,M,E,q⟩:=fq_of h1 h2;obtain⟨a,b⟩:=exq_vl q h1 h2;rw [←exq_ep q a,b]
theorem ep_neg (r:Int):ep (-r)=ng (ep r):=by
 unfold ep
 by_cases h0:r=0
 ·rw [if_pos (by omega),if_pos h0]
  rfl
 ·rw [if_neg (by omega),if_neg h0,Int.natAbs_neg,sgi_not h0];generalize sgi (decide (r < 0)) _=z;exact mk_neg z _
theorem ep_fit (r:Int)(h1: -19342822337206103650074625 < r)(h2:r < 19342822337206103650074625){h:Nat}(hh:1048700≤h)(hh2:h≤4194304):Fit h (ep r):=by
 unfold ep
 by_cases h0:r=0
 ·rw [if_pos h0];exact Fit.zero h
 ·rw [if_neg h0];obtain⟨M,hM⟩:∃M,((r.natAbs:Int)-1)%9223372036854775808+9223372036854775808=M:=⟨_,rfl⟩;obtain⟨E,hE⟩:∃E,((r.natAbs:Int)-1) /9223372036854775808-1048576=E:=⟨_,rfl⟩;rw [hM,hE];refine (mk_fit (z:=sgi (decide (r < 0)) M) (e:=E) (h:=h) hh2 (by omega) ?_).1
  have ha:(sgi (decide (r < 0)) M).natAbs=M.toNat:=by
   cases decide (r < 0)
   ·rw [show sgi false M=M from if_neg (by decide)];omega
   ·rw [show sgi true M= -M from if_pos rfl];omega
  rw [ha]
  have:M.toNat < 2^64:=by omega
  have:=Nat.mul_lt_mul_of_pos_right this (Nat.pow_pos (n:=(E+(h:Int)).toNat) (show 0 < 2 by decide))
  rw [←Nat.pow_add]at this;exact Nat.lt_of_lt_of_le this (Nat.pow_le_pow_right (by decide) (by omega))
def infp (x:Int):Bool:=x==TP || x== -TP
def addp (up:Bool)(x y:Int):Int:=
 if infp x=true then (if infp y=true∧x≠y then sgi (!up) TP else x)else if infp y=true then y else rnd up (pl (ep x) (ep y)).1 (pl (ep x) (ep y)).2
def mulp (up:Bool)(x y:Int):Int:=
 if x=0∨y=0 then 0 else if infp x=true∨infp y=true then sgi (decide (x < 0) !=decide (y < 0)) TP else rnd up (ml (ep x) (ep y)).1 (ml (ep x) (ep y)).2
theorem infp_false{x:Int}(h1: -19342822337206103650074625≤x)(h2:x≤19342822337206103650074625)(h:infp x=false): -19342822337206103650074625 < x∧x < 19342822337206103650074625:=by
 unfold infp at h
 simp [TP_eq]at h
 omega
theorem infp_true{x:Int}(h:infp x=true):x=19342822337206103650074625∨x= -19342822337206103650074625:=by
 unfold infp at h
 simp [TP_eq]at h
 omega
theorem sum_spec{x y:Int}(x1: -19342822337206103650074625 < x)(x2:x < 19342822337206103650074625)(y1: -19342822337206103650074625 < y)(y2:y < 19342822337206103650074625):Nf (pl (ep x) (ep y))∧vl (pl (ep x) (ep y))=vr x+vr y:=by
 obtain⟨η,hη⟩:∃η:Nat,η=2000000:=⟨_,rfl⟩;have f:=ep_fit x x1 x2 (h:=η) (by omega) (by omega);have g:=ep_fit y y1 y2 (h:=η) (by omega) (by omega);obtain⟨a,b⟩:=pl_fit (by omega) f g;exact⟨a.nf,by rw [b,ep_vl x1 x2,ep_vl y1 y2]⟩
theorem pro_spec{x y:Int}(x1: -19342822337206103650074625 < x)(x2:x < 19342822337206103650074625)(y1: -19342822337206103650074625 < y)(y2:y < 19342822337206103650074625):Nf (ml (ep x) (ep y))∧vl (ml (ep x) (ep y))*2^KK=vr x*vr y:=by
 obtain⟨η,hη⟩:∃η:Nat,η=2000000:=⟨_,rfl⟩;have f:=ep_fit x x1 x2 (h:=η) (by omega) (by omega);have g:=ep_fit y y1 y2 (h:=η) (by omega) (by omega);obtain⟨a,b⟩:=ml_fit (by omega) f g;exact⟨a.nf,by rw [b,ep_vl x1 x2,ep_vl y1 y2]⟩
theorem rnd_bd{P:Int × Int}(hP:Nf P)(up:Bool): -19342822337206103650074625≤rnd up P.1 P.2∧rnd up P.1 P.2≤19342822337206103650074625:=by
 obtain⟨a,b⟩:=rnd_spec hP
 cases up
 ·have:=a.1;have:=a.2.1;omega
 ·have:=b.1;have:=b.2.1;omega
theorem ff:¬(false=true):=Bool.false_ne_true
theorem addp_ff{x y:Int}(up:Bool)(hx:infp x=false)(hy:infp y=false):addp up x y=rnd up (pl (ep x) (ep y)).1 (pl (ep x) (ep y)).2:=by
 unfold addp
 rw [hx,hy,if_neg ff,if_neg ff]
theorem addp_ft{x y:Int}(up:Bool)(hx:infp x=false)(hy:infp y=true):addp up x y=y:=by
 unfold addp
 rw [hx,hy,if_neg ff,if_pos rfl]
theorem addp_tf{x y:Int}(up:Bool)(hx:infp x=true)(hy:infp y=false):addp up x y=x:=by
 unfold addp
 rw [hx,hy,if_pos rfl,if_neg (fun c=>ff c.1)]
theorem addp_same{x y:Int}(up:Bool)(hx:infp x=true)(h:x=y):addp up x y=x:=by
 unfold addp
 rw [hx,if_pos rfl,if_neg (fun c=>c.2 h)]
theorem addp_diff{x y:Int}(up:Bool)(hx:infp x=true)(hy:infp y=true)(h:x≠y):addp up x y=sgi (!up) TP:=by
 unfold addp
 rw [hx,hy,if_pos rfl,if_pos ⟨rfl,h⟩]
theorem addp_comm{x y:Int}(up:Bool):addp up x y=addp up y x:=by
 cases hx:infp x <;> cases hy:infp y
 ·rw [addp_ff up hx hy,addp_ff up hy hx,pl_comm (ep_nf x) (ep_nf y)]
 ·rw [addp_ft up hx hy,addp_tf up hy hx]
 ·rw [addp_tf up hx hy,addp_ft up hy hx]
 ·by_cases h:x=y
  ·rw [h]
  ·rw [addp_diff up hx hy h,addp_diff up hy hx (fun e=>h e.symm)]
theorem mulp_zero{x y:Int}(up:Bool)(h:x=0∨y=0):mulp up x y=0:=by
 unfold mulp
 rw [if_pos h]
theorem mulp_inf{x y:Int}(up:Bool)(h:¬(x=0∨y=0))(hi:infp x=true∨infp y=true):mulp up x y=sgi (decide (x < 0) !=decide (y < 0)) TP:=by
 unfold mulp
 rw [if_neg h,if_pos hi]
theorem mulp_fin{x y:Int}(up:Bool)(h:¬(x=0∨y=0))(hi:¬(infp x=true∨infp y=true)):mulp up x y=rnd up (ml (ep x) (ep y)).1 (ml (ep x) (ep y)).2:=by
 unfold mulp
 rw [if_neg h,if_neg hi]
theorem mulp_comm{x y:Int}(up:Bool):mulp up x y=mulp up y x:=by
 by_cases h0:x=0∨y=0
 ·rw [mulp_zero up h0,mulp_zero up h0.symm]
 ·have h0':¬(y=0∨x=0):=fun c=>h0 c.symm
  by_cases h1:infp x=true∨infp y=true
  ·rw [mulp_inf up h0 h1,mulp_inf up h0' h1.symm]
   cases decide (x < 0) <;> cases decide (y < 0) <;> rfl
  ·rw [mulp_fin up h0 h1,mulp_fin up h0' (fun c=>h1 c.symm),ml_comm (ep x) (ep y)]
theorem infp_neg (x:Int):infp (-x)=infp x:=by
 unfold infp
 rw [Bool.eq_iff_iff]
 simp
 omega
theorem pl_ng{P Q:Int × Int}(hP:Nf P)(hQ:Nf Q):pl (ng P) (ng Q)=ng (pl P Q):=by
 unfold pl ng
 simp only
 by_cases h1:P.1=0
 ·rw [if_pos (by omega),if_pos h1]
 ·rw [if_neg (by omega),if_neg h1]
  by_cases h2:Q.1=0
  ·rw [if_pos (by omega),if_pos h2]
  ·rw [if_neg (by omega),if_neg h2,Int.neg_mul,Int.neg_mul,←Int.neg_add];exact mk_neg _ _
theorem ml_ng (P Q:Int × Int):ml (ng P) Q=ng (ml P Q):=by
 unfold ml ng
 simp only
 rw [Int.neg_mul];exact mk_neg _ _
theorem sgi_neg (s:Bool)(x:Int):sgi (!s) x= -sgi s x:=by
 cases s
 ·rw [show (!false)=true from rfl,show sgi true x= -x from if_pos rfl,show sgi false x=x from if_neg (by decide)]
 ·rw [show (!true)=false from rfl,show sgi true x= -x from if_pos rfl,show sgi false x=x from if_neg (by decide),Int.neg_neg]
theorem addp_neg{x y:Int}(up:Bool):addp (!up) (-x) (-y)= -addp up x y:=by
 have nx_:=infp_neg x;have ny_:=infp_neg y
 cases hx:infp x <;> cases hy:infp y <;> rw [hx]at nx_ <;> rw [hy]at ny_
 ·rw [addp_ff _ nx_ ny_,addp_ff up hx hy,ep_neg,ep_neg,pl_ng (ep_nf x) (ep_nf y)];exact rnd_turn (pl_nf (ep_nf x) (ep_nf y)) up
 ·rw [addp_ft _ nx_ ny_,addp_ft up hx hy]
 ·rw [addp_tf _ nx_ ny_,addp_tf up hx hy]
 ·by_cases h:x=y
  ·rw [addp_same _ nx_ (by rw [h]),addp_same up hx h]
  ·rw [addp_diff _ nx_ ny_ (fun e=>h (by omega)),addp_diff up hx hy h]
   exact sgi_neg _ _
theorem neg_sign{x:Int}(h:x≠0):decide (-x < 0)=!decide (x < 0):=by
 by_cases c:x < 0
 ·rw [decide_eq_true c,decide_eq_false (by omega)]
  rfl
 ·rw [decide_eq_false c,decide_eq_true (by omega)]
  rfl
theorem mulp_neg{x y:Int}(up:Bool):mulp (!up) (-x) y= -mulp up x y:=by
 have nx_:=infp_neg x
 by_cases h0:x=0∨y=0
 ·rw [mulp_zero _ (by omega),mulp_zero up h0]
  rfl
 ·have h0':¬(-x=0∨y=0):=by omega
  by_cases h1:infp x=true∨infp y=true
  ·rw [mulp_inf _ h0' (by rw [nx_];exact h1),mulp_inf up h0 h1,neg_sign (by omega),←sgi_neg]
   cases decide (x < 0) <;> cases decide (y < 0) <;> rfl
  ·rw [mulp_fin _ h0' (by rw [nx_];exact h1),mulp_fin up h0 h1,ep_neg,ml_ng];exact rnd_turn (mk_nf _ _) up
theorem addp_bd{x y:Int}(up:Bool)(x1: -19342822337206103650074625≤x)(x2:x≤19342822337206103650074625)(y1: -19342822337206103650074625≤y)(y2:y≤19342822337206103650074625): -19342822337206103650074625≤addp up x y∧addp up x y≤19342822337206103650074625:=by
 have htp:=TP_eq
 cases hx:infp x <;> cases hy:infp y
 ·rw [addp_ff up hx hy];exact rnd_bd (pl_nf (ep_nf x) (ep_nf y)) up
 ·rw [addp_ft up hx hy];exact⟨y1,y2⟩
 ·rw [addp_tf up hx hy];exact⟨x1,x2⟩
 ·by_cases h:x=y
  ·rw [addp_same up hx h];exact⟨x1,x2⟩
  ·rw [addp_diff up hx hy h]
   cases up
   ·rw [show sgi (!false) TP= -TP from if_pos rfl];omega
   ·rw [show sgi (!true) TP=TP from if_neg (by decide)];omega
theorem addp_mono{x y z:Int}(up:Bool)(x1: -19342822337206103650074625≤x)(x2:x≤19342822337206103650074625)(y1: -19342822337206103650074625≤y)(y2:y≤19342822337206103650074625)(z1: -19342822337206103650074625≤z)(z2:z≤19342822337206103650074625)(h:x≤y):addp up x z≤addp up y z:=by
 have htp:=TP_eq;obtain⟨a1,a2⟩:=addp_bd up x1 x2 z1 z2;obtain⟨b1,b2⟩:=addp_bd up y1 y2 z1 z2
 cases hz:infp z
 ·cases hx:infp x
  ·cases hy:infp y
   ·obtain⟨x3,x4⟩:=infp_false x1 x2 hx;obtain⟨y3,y4⟩:=infp_false y1 y2 hy;obtain⟨z3,z4⟩:=infp_false z1 z2 hz;obtain⟨n1,v1⟩:=sum_spec x3 x4 z3 z4;obtain⟨n2,v2⟩:=sum_spec y3 y4 z3 z4
    have hv:vr x≤vr y:=by
     rcases Int.lt_or_eq_of_le h with q | q
     ·exact Int.le_of_lt (vr_lt q)
     ·rw [q];exact Int.le_refl _
    rw [addp_ff up hx hz,addp_ff up hy hz];exact rnd_monoA n1 n2 (by rw [v1,v2];omega) up
   ·have e:addp up y z=y:=addp_tf up hy hz
    rcases infp_true hy with q | q
    ·omega
    ·have:x=y:=by omega
     rw [this];exact Int.le_refl _
  ·have e:addp up x z=x:=addp_tf up hx hz
   rcases infp_true hx with q | q
   ·have:x=y:=by omega
    rw [this];exact Int.le_refl _
   ·omega
 ·have e:∀w,infp w=false→addp up w z=z:=fun w hw=>addp_ft up hw hz
  have e2:∀w,infp w=true→w≠z→addp up w z=sgi (!up) TP:=fun w hw hn=>addp_diff up hw hz hn
  have e3:addp up z z=z:=addp_same up hz rfl
  have ts:sgi (!up) TP=TP∨sgi (!up) TP= -TP:=by
   cases up
   ·exact .inr (if_pos rfl)
   ·exact .inl (if_neg (by decide))
  have hz2:=infp_true hz
  by_cases hxz:x=z
  ·rw [hxz,e3]
   by_cases hyz:y=z
   ·rw [hyz,e3];exact Int.le_refl _
   ·cases hy:infp y
    ·rw [e y hy];exact Int.le_refl _
    ·have hy2:=infp_true hy;rw [e2 y hy hyz]
     omega
  ·by_cases hyz:y=z
   ·rw [hyz,e3]
    cases hx:infp x
    ·rw [e x hx];exact Int.le_refl _
    ·have hx2:=infp_true hx;rw [e2 x hx hxz]
     omega
   ·cases hx:infp x
    ·have hx2:=infp_false x1 x2 hx;rw [e x hx]
     cases hy:infp y
     ·rw [e y hy];exact Int.le_refl _
     ·have hy2:=infp_true hy;rw [e2 y hy hyz]
      omega
    ·have hx2:=infp_true hx
     cases hy:infp y
     ·have hy2:=infp_false y1 y2 hy;rw [e y hy,e2 x hx hxz]
      omega
     ·rw [e2 x hx hxz,e2 y hy hyz];exact Int.le_refl _
theorem vr_pos{x:Int}(h:0 < x):0 < vr x:=by
 have:=vr_lt h
 rwa [show vr 0=0 from rfl]at this
theorem vr_nn{x:Int}(h:0≤x):0≤vr x:=by
 rcases Int.lt_or_eq_of_le h with q | q
 ·exact Int.le_of_lt (vr_pos q)
 ·rw [←q];decide
theorem vr_le{x y:Int}(h:x≤y):vr x≤vr y:=by
 rcases Int.lt_or_eq_of_le h with q | q
 ·exact Int.le_of_lt (vr_lt q)
 ·rw [q];exact Int.le_refl _
theorem sgT (s:Bool):sgi s TP=TP∨sgi s TP= -TP:=by
 cases s
 ·exact .inl (if_neg (by decide))
 ·exact .inr (if_pos rfl)
theorem mulp_bd{x y:Int}(up:Bool): -19342822337206103650074625≤mulp up x y∧mulp up x y≤19342822337206103650074625:=by
 have htp:=TP_eq
 by_cases h0:x=0∨y=0
 ·rw [mulp_zero up h0];omega
 ·by_cases h1:infp x=true∨infp y=true
  ·rw [mulp_inf up h0 h1]
   have:=sgT (decide (x < 0) !=decide (y < 0))
   omega
  ·rw [mulp_fin up h0 h1];exact rnd_bd (mk_nf _ _) up
theorem mulp_nn{x z:Int}(up:Bool)(hx:0 < x)(hz:0 < z)(x2:x≤19342822337206103650074625)(z2:z≤19342822337206103650074625):0≤mulp up x z:=by
 have htp:=TP_eq
 have h0:¬(x=0∨z=0):=by omega
 by_cases h1:infp x=true∨infp z=true
 ·rw [mulp_inf up h0 h1,decide_eq_false (show ¬x < 0 by omega),decide_eq_false (show ¬z < 0 by omega),show sgi (false !=false) TP=TP from if_neg (by decide)]
  omega
 ·rw [mulp_fin up h0 h1]
  have i1:infp x=false:=by
   cases h:infp x
   ·rfl
   ·exact absurd (.inl h) h1
  have i2:infp z=false:=by
   cases h:infp z
   ·rfl
   ·exact absurd (.inr h) h1
  obtain⟨x3,x4⟩:=infp_false (by omega) x2 i1;obtain⟨z3,z4⟩:=infp_false (by omega) z2 i2;obtain⟨n,v⟩:=pro_spec x3 x4 z3 z4
  have hv:vl (0,0)≤vl (ml (ep x) (ep z)):=by
   rw [vl_zero]
   have:0≤vl (ml (ep x) (ep z))*2^KK:=by
    rw [v];exact Int.mul_nonneg (vr_nn (Int.le_of_lt hx)) (vr_nn (Int.le_of_lt hz))
   rcases Int.lt_or_le (vl (ml (ep x) (ep z))) 0 with q | q
   ·have:=Int.mul_neg_of_neg_of_pos q (p2pos KK)
    omega
   ·exact q
  have hn0:Nf (0,0):=mk_zero 0
  have:=rnd_monoA hn0 n hv up
  rw [rnd_nought]at this;exact this
theorem mulp_mono{x y z:Int}(up:Bool)(x1: -19342822337206103650074625≤x)(x2:x≤19342822337206103650074625)(y1: -19342822337206103650074625≤y)(y2:y≤19342822337206103650074625)(hz:0 < z)(z2:z≤19342822337206103650074625)(h:x≤y):mulp up x z≤mulp up y z:=by
 have htp:=TP_eq;obtain⟨a1,a2⟩:=mulp_bd (x:=x) (y:=z) up;obtain⟨b1,b2⟩:=mulp_bd (x:=y) (y:=z) up
 have neg:∀w,w < 0→ -19342822337206103650074625≤w→mulp up w z≤0:=fun w hw hb=>by
  have:=mulp_neg (x:= -w) (y:=z) (!up)
  rw [Bool.not_not,Int.neg_neg]at this;rw [this]
  have:=mulp_nn (!up) (show 0 < -w by omega) hz (by omega) z2
  omega
 have pos:∀w,0 < w→w≤19342822337206103650074625→0≤mulp up w z:=fun w hw hb=>mulp_nn up hw hz hb z2
 have zer:∀w,w=0→mulp up w z=0:=fun w hw=>mulp_zero up (.inl hw)
 rcases Int.lt_trichotomy x 0 with c | c | c
 ·rcases Int.lt_trichotomy y 0 with d | d | d
  ·by_cases hi:infp z=true
   ·rw [mulp_inf up (by omega) (.inr hi),mulp_inf up (by omega) (.inr hi),decide_eq_true c,decide_eq_true d];exact Int.le_refl _
   ·cases hx:infp x
    ·cases hy:infp y
     ·have hzf:infp z=false:=by simpa using hi
      obtain⟨x3,x4⟩:=infp_false x1 x2 hx;obtain⟨y3,y4⟩:=infp_false y1 y2 hy;obtain⟨z3,z4⟩:=infp_false (by omega) z2 hzf;rw [mulp_fin up (by omega) (by rw [hx,hzf];simp),mulp_fin up (by omega) (by rw [hy,hzf];simp)];obtain⟨n1,v1⟩:=pro_spec x3 x4 z3 z4;obtain⟨n2,v2⟩:=pro_spec y3 y4 z3 z4;refine rnd_monoA n1 n2 ?_ up
      have:=Int.mul_le_mul_of_nonneg_right (vr_le h) (vr_nn (Int.le_of_lt hz))
      rw [←v1,←v2]at this;exact Int.le_of_mul_le_mul_right this (p2pos KK)
     ·rcases infp_true hy with q | q
      ·omega
      ·have:x=y:=by omega
       rw [this];exact Int.le_refl _
    ·have e:mulp up x z= -TP:=by
      rw [mulp_inf up (by omega) (.inl hx),decide_eq_true c,decide_eq_false (show ¬z < 0 by omega)]
      exact if_pos rfl
     omega
  ·have:=neg x c x1
   rw [zer y d];exact this
  ·have:=neg x c x1
   have:=pos y d y2
   omega
 ·rw [zer x c]
  rcases Int.lt_or_eq_of_le (show 0≤y by omega)with d | d
  ·exact pos y d y2
  ·rw [zer y d.symm];exact Int.le_refl _
 ·have d:0 < y:=by omega
  by_cases hi:infp z=true
  ·rw [mulp_inf up (by omega) (.inr hi),mulp_inf up (by omega) (.inr hi),decide_eq_false (show ¬x < 0 by omega),decide_eq_false (show ¬y < 0 by omega)]
   exact Int.le_refl _
  ·cases hy:infp y
   ·cases hx:infp x
    ·have hzf:infp z=false:=by simpa using hi
     obtain⟨x3,x4⟩:=infp_false x1 x2 hx;obtain⟨y3,y4⟩:=infp_false y1 y2 hy;obtain⟨z3,z4⟩:=infp_false (by omega) z2 hzf;rw [mulp_fin up (by omega) (by rw [hx,hzf];simp),mulp_fin up (by omega) (by rw [hy,hzf];simp)];obtain⟨n1,v1⟩:=pro_spec x3 x4 z3 z4;obtain⟨n2,v2⟩:=pro_spec y3 y4 z3 z4;refine rnd_monoA n1 n2 ?_ up
     have:=Int.mul_le_mul_of_nonneg_right (vr_le h) (vr_nn (Int.le_of_lt hz))
     rw [←v1,←v2]at this;exact Int.le_of_mul_le_mul_right this (p2pos KK)
    ·rcases infp_true hx with q | q
     ·have:x=y:=by omega
      rw [this];exact Int.le_refl _
     ·omega
   ·have e:mulp up y z=TP:=by
     rw [mulp_inf up (by omega) (.inl hy),decide_eq_false (show ¬y < 0 by omega),decide_eq_false (show ¬z < 0 by omega)]
     exact if_neg (by decide)
    omega
theorem rnd_ep{r:Int}(up:Bool)(h1: -19342822337206103650074625 < r)(h2:r < 19342822337206103650074625):rnd up (ep r).1 (ep r).2=r:=by
 obtain⟨D,s,M,E,q⟩:=fq_of h1 h2;obtain⟨a,_⟩:=exq_vl q h1 h2;rw [←exq_ep q a];exact rnd_back up q a
theorem ep_zero:ep 0=(0,0):=if_pos rfl
theorem infp_zero:infp 0=false:=by decide
theorem addp_zero{x:Int}(up:Bool)(x1: -19342822337206103650074625≤x)(x2:x≤19342822337206103650074625):addp up x 0=x:=by
 cases hx:infp x
 ·obtain⟨x3,x4⟩:=infp_false x1 x2 hx;rw [addp_ff up hx infp_zero,ep_zero]
  have:pl (ep x) (0,0)=ep x:=by
   unfold pl
   by_cases h:(ep x).1=0
   ·rw [if_pos h];exact ((ep_nf x).zero h).symm
   ·rw [if_neg h,if_pos rfl]
  rw [this];exact rnd_ep up x3 x4
 ·exact addp_tf up hx infp_zero
theorem rnd_exact{P:Int × Int}(hP:Nf P){r:Int}(up:Bool)(h1: -19342822337206103650074625 < r)(h2:r < 19342822337206103650074625)(h:vl P=vr r):rnd up P.1 P.2=r:=by
 obtain⟨a,b⟩:=rnd_spec hP;rw [h]at a b
 cases up
 ·exact a.uniq (dn_self h1 h2)
 ·exact b.uniq (up_self h1 h2)
theorem opl_pos{n:Int}(h:0 < n)(h1:n≤9223372036854775807):0 < opl n∧opl n < 19342822337206103650074625:=by
 have e:opl n=lo n.natAbs 0:=by
  unfold opl
  rw [decide_eq_false (show ¬n < 0 by omega)]
  exact if_neg (by decide)
 have hc:=opl_cmp (a:=n) (b:=0) (by omega) h1 (by decide) (by decide);rw [opl_zero,cmpI_gt h]at hc
 have:=(lo_bd n.natAbs 0).2
 rw [←e]at this;refine⟨?_,by omega⟩
 rcases cmpI_tri (opl n) 0 with⟨a,b⟩ | ⟨a,b⟩ | ⟨a,b⟩
 ·rw [b]at hc;exact absurd hc (by decide)
 ·rw [b]at hc;exact absurd hc (by decide)
 ·exact a
theorem infp_fin{x:Int}(h1: -19342822337206103650074625 < x)(h2:x < 19342822337206103650074625):infp x=false:=by
 cases h:infp x
 ·rfl
 ·have:=infp_true h;omega
theorem mulp_one{x:Int}(up:Bool)(x1: -19342822337206103650074625≤x)(x2:x≤19342822337206103650074625):mulp up x (opl 1)=x:=by
 have htp:=TP_eq;obtain⟨o1,o2⟩:=opl_pos (n:=1) (by decide) (by decide);have hv:=opl_vr (n:=1) (by decide) (by decide);rw [Int.one_mul]at hv;have oi:=infp_fin (x:=opl 1) (by omega) o2
 revert o1 o2 hv oi
 generalize opl 1=o
 intro o1 o2 hv oi
 by_cases h0:x=0
 ·rw [mulp_zero up (.inl h0),h0]
 ·cases hx:infp x
  ·obtain⟨x3,x4⟩:=infp_false x1 x2 hx;rw [mulp_fin up (by omega) (by rw [hx,oi];simp)]
   obtain⟨n,v⟩:=pro_spec x3 x4 (show -19342822337206103650074625 < o by omega) o2
   rw [hv]at v;exact rnd_exact n up x3 x4 (Int.eq_of_mul_eq_mul_right (Int.ne_of_gt (p2pos KK)) v)
  ·rw [mulp_inf up (by omega) (.inl hx),decide_eq_false (show ¬o < 0 by omega)]
   rcases infp_true hx with q | q
   ·rw [decide_eq_false (show ¬x < 0 by omega),show sgi (false !=false) TP=TP from if_neg (by decide)]
    omega
   ·rw [decide_eq_true (show x < 0 by omega),show sgi (true !=false) TP= -TP from if_pos rfl]
    omega
theorem vp_shift{r:Int}(h:0 < r):vp (r+9223372036854775808)=vp r*2:=by
 unfold vp
 rw [if_neg (by omega),if_neg (by omega)]
 have e1:(r+9223372036854775808-1)%9223372036854775808=(r-1)%9223372036854775808:=by omega
 have e2:((r+9223372036854775808-1) /9223372036854775808-1048576+(KK:Int)).toNat=((r-1) /9223372036854775808-1048576+(KK:Int)).toNat+1:=by
  rw [KK_eq]
  omega
 rw [e1,e2,Int.pow_succ,Int.mul_assoc]
theorem vr_shift{r:Int}(h:0 < r):vr (r+9223372036854775808)=vr r*2:=by
 unfold vr
 rw [if_neg (by omega),if_neg (by omega),vp_shift h]
theorem tight{P:Int × Int}(hP:Nf P)(h1:vr (-19342822337206103650074624)≤vl P)(h2:vl P≤vr 19342822337206103650074624):
  ∃r r',rnd false P.1 P.2=r∧rnd true P.1 P.2=r'∧ -19342822337206103650074625 < r∧r < 19342822337206103650074625∧ -19342822337206103650074625 < r'∧r' < 19342822337206103650074625∧((r'=r∧vr r=vl P)∨(r'=r+1∧vr r < vl P∧vl P < vr r')):=by
 obtain⟨a,b⟩:=rnd_spec hP;refine⟨_,_,rfl,rfl,?_⟩
 revert a b
 generalize rnd false P.1 P.2=r;generalize rnd true P.1 P.2=r'
 intro a b
 have lo1:=(dn_self (r:= -19342822337206103650074624) (by decide) (by decide)).mono a h1;have hi1:=b.mono (up_self (r:=19342822337206103650074624) (by decide) (by decide)) h2;obtain⟨a1,a2,a3,a4⟩:=a;obtain⟨b1,b2,b3,b4⟩:=b;have c1:=a3 (by omega);have n1:=vr_neg r'
 have c2:vl P≤vr r':=by
  have:=b3 (by omega)
  omega
 have hrr:r≤r':=by
  rcases Int.lt_or_le r' r with q | q
  ·have:=vr_lt q;omega
  ·exact q
 by_cases e:vr r=vl P
 ·have hu:Up (vl P) r:=e▸up_self (by omega) (by omega)
  have:=hu.uniq (show Up (vl P) r' from ⟨b1,b2,b3,b4⟩)
  subst this;exact⟨by omega,by omega,by omega,by omega,.inl ⟨rfl,e⟩⟩
 ·have hlt:vr r < vl P:=by omega
  have hne:r≠r':=fun c=>by rw [←c]at c2;omega
  have c3:=a4 (by omega);have n2:=vr_neg (r' - 1)
  have c4:r'≤r+1:=by
   rcases Int.lt_or_le (r+1) r' with q | q
   ·have:=b4 (by omega)
    rw [show -r'+1= -(r' - 1) by omega]at this
    have:=vr_le (show r+1≤r' - 1 by omega)
    omega
   ·exact q
  obtain rfl:r'=r+1:=by omega
  exact⟨by omega,by omega,by omega,by omega,.inr ⟨rfl,hlt,c3⟩⟩
theorem addp_spec{x y:Int}(up:Bool)(x1: -19342822337206103650074625 < x)(x2:x < 19342822337206103650074625)(y1: -19342822337206103650074625 < y)(y2:y < 19342822337206103650074625):Dn (vr x+vr y) (addp false x y)∧Up (vr x+vr y) (addp true x y):=by
 obtain⟨n,v⟩:=sum_spec x1 x2 y1 y2;obtain⟨a,b⟩:=rnd_spec n;rw [v]at a b;rw [addp_ff _ (infp_fin x1 x2) (infp_fin y1 y2),addp_ff _ (infp_fin x1 x2) (infp_fin y1 y2)];exact⟨a,b⟩
abbrev Sp:=Option (Int × Int)
def mkI (a b:Int):Sp:=if a≤b∧a < 19342822337206103650074625∧ -19342822337206103650074625 < b then some (a,b)else none
def SpOk:Sp→Prop
 | none=>True
 | some (a,b)=> -19342822337206103650074625≤a∧a≤b∧b≤19342822337206103650074625∧a < 19342822337206103650074625∧ -19342822337206103650074625 < b
theorem mkI_some{a b:Int}(h:a≤b)(h1:a < 19342822337206103650074625)(h2: -19342822337206103650074625 < b):mkI a b=some (a,b):=by
 unfold mkI
 rw [if_pos ⟨h,h1,h2⟩]
theorem mkI_none{a b:Int}(h:¬(a≤b∧a < 19342822337206103650074625∧ -19342822337206103650074625 < b)):mkI a b=none:=by
 unfold mkI
 rw [if_neg h]
theorem mkI_ok{a b:Int}(h1: -19342822337206103650074625≤a)(h2:b≤19342822337206103650074625):SpOk (mkI a b):=by
 by_cases h:a≤b∧a < 19342822337206103650074625∧ -19342822337206103650074625 < b
 ·rw [mkI_some h.1 h.2.1 h.2.2];exact⟨h1,h.1,h2,h.2.1,h.2.2⟩
 ·rw [mkI_none h];exact trivial
theorem SpOk.mk{a b:Int}(h:SpOk (some (a,b))):mkI a b=some (a,b):=mkI_some h.2.1 h.2.2.2.1 h.2.2.2.2
def meetI:Sp→Sp→Sp
 | some (a,b),some (c,d)=>mkI (max a c) (min b d)
 | _,_=>none
def hullI:Sp→Sp→Sp
 | none,y=>y
 | x,none=>x
 | some (a,b),some (c,d)=>mkI (min a c) (max b d)
def allI:Sp:=some (-19342822337206103650074625,19342822337206103650074625)
def hasI (x:Sp)(n:Int):Bool:=
 match x with
 | none=>false
 | some (a,b)=>!infp n && decide (a≤n) && decide (n≤b)
def witI:Sp→Sp→Bool
 | none,_=>true
 | some _,none=>false
 | some (a,b),some (c,d)=>decide (c≤a) && decide (b≤d)
def widI:Sp→Int
 | none=>0
 | some (a,b)=>addp true b (-a)
def infI (x:Sp)(y:Int):Sp:=match x with
 | none=>none
 | some (a,b)=>if y < 0 then some (a,b)else mkI (addp false a (-y)) (addp true b y)
def meetL (l:List Sp):Sp:=l.foldl meetI allI
def hullL (l:List Sp):Sp:=l.foldl hullI none
theorem meetI_none (x:Sp):meetI x none=none:=by cases x <;> rfl
theorem hullI_none (x:Sp):hullI x none=x:=by cases x <;> rfl
theorem hullI_ok{x y:Sp}(hx:SpOk x)(hy:SpOk y):SpOk (hullI x y):=by
 rcases x with _ | ⟨a,b⟩
 ·exact hy
 ·rcases y with _ | ⟨c,d⟩
  ·exact hx
  ·obtain⟨h1,h2,h3,h4,h5⟩:=hx;obtain⟨k1,k2,k3,k4,k5⟩:=hy;exact mkI_ok (by omega) (by omega)
theorem hullI_some{a b c d:Int}(hx:SpOk (some (a,b)))(hy:SpOk (some (c,d))):hullI (some (a,b)) (some (c,d))=some (min a c,max b d):=by
 obtain⟨h1,h2,h3,h4,h5⟩:=hx;obtain⟨k1,k2,k3,k4,k5⟩:=hy;exact mkI_some (by omega) (by omega) (by omega)
theorem all_ok:SpOk allI:=⟨by decide,by decide,by decide,by decide,by decide⟩
theorem meet_cases (a b c d:Int):(meetI (some (a,b)) (some (c,d))=none∧¬(max a c≤min b d∧max a c < 19342822337206103650074625∧ -19342822337206103650074625 < min b d))∨(meetI (some (a,b)) (some (c,d))=some (max a c,min b d)∧max a c≤min b d):=by
 by_cases h:max a c≤min b d∧max a c < 19342822337206103650074625∧ -19342822337206103650074625 < min b d
 ·exact .inr ⟨mkI_some h.1 h.2.1 h.2.2,h.1⟩
 ·exact .inl ⟨mkI_none h,h⟩
theorem meet_comm (x y:Sp):meetI x y=meetI y x:=by
 rcases x with _ | ⟨a,b⟩
 ·rw [meetI_none];rfl
 ·rcases y with _ | ⟨c,d⟩
  ·rfl
  ·show mkI _ _=mkI _ _
   rw [show max a c=max c a by omega,show min b d=min d b by omega]
theorem hull_comm{x y:Sp}:hullI x y=hullI y x:=by
 rcases x with _ | ⟨a,b⟩ <;> rcases y with _ | ⟨c,d⟩
 ·rfl
 ·rfl
 ·rfl
 ·show mkI _ _=mkI _ _
  rw [show min a c=min c a by omega,show max b d=max d b by omega]
theorem wit_is_meet{x y:Sp}(hx:SpOk x)(hy:SpOk y):witI x y=true↔meetI x y=x:=by
 rcases x with _ | ⟨a,b⟩
 ·exact⟨fun _=>rfl,fun _=>rfl⟩
 ·rcases y with _ | ⟨c,d⟩
  ·exact⟨fun h=>(by cases h),fun h=>(by cases h)⟩
  ·obtain⟨h1,h2,h3,h4,h5⟩:=hx;obtain⟨k1,k2,k3,k4,k5⟩:=hy
   rcases meet_cases a b c d with⟨e,h⟩ | ⟨e,h⟩ <;> rw [e] <;> simp [witI] <;> omega
theorem meet_all{x:Sp}(hx:SpOk x):meetI allI x=x:=by
 rw [meet_comm];refine (wit_is_meet hx all_ok).1 ?_
 rcases x with _ | ⟨a,b⟩
 ·rfl
 ·obtain⟨h1,h2,h3,h4,h5⟩:=hx
  simp [witI,allI]
  omega
theorem hull_assoc{x y z:Sp}(hx:SpOk x)(hy:SpOk y)(hz:SpOk z):hullI (hullI x y) z=hullI x (hullI y z):=by
 rcases x with _ | ⟨a,b⟩
 ·rfl
 ·rcases y with _ | ⟨c,d⟩
  ·rfl
  ·rcases z with _ | ⟨e,f⟩
   ·rw [hullI_none,hullI_none]
   ·have e1:=hullI_some hx hy;have o1:=hullI_ok hx hy;have e2:=hullI_some hy hz;have o2:=hullI_ok hy hz;rw [e1]at o1⊢;rw [e2]at o2⊢;rw [hullI_some o1 hz,hullI_some hx o2]
    rw [show min (min a c) e=min a (min c e) by omega,show max (max b d) f=max b (max d f) by omega]
theorem wsg_f (x:Int):sgi false x=x:=if_neg (by decide)
theorem wsg_t (x:Int):sgi true x= -x:=if_pos rfl
theorem Dn.sep{A B a b r:Int}(h:Dn A r)(hA1:a < A)(hA2:A < b)(hB1:a < B)(hB2:B < b)(hs:∀s,¬(a < vr s∧vr s < b)):Dn B r:=by
 obtain⟨h1,h2,h3,h4⟩:=h
 refine⟨h1,h2,fun k=>?_,fun k=>?_⟩
 ·have:=h3 k
  have:=hs r
  omega
 ·have:=h4 k
  have:=hs (r+1)
  omega
theorem sep_rnd{P Q:Int × Int}(up:Bool)(hP:Nf P)(hQ:Nf Q){a b:Int}(hA1:a < vl P)(hA2:vl P < b)(hB1:a < vl Q)(hB2:vl Q < b)(hs:∀s,¬(a < vr s∧vr s < b)):rnd up P.1 P.2=rnd up Q.1 Q.2:=by
 obtain⟨p1,p2⟩:=rnd_spec hP;obtain⟨q1,q2⟩:=rnd_spec hQ
 cases up
 ·exact (p1.sep hA1 hA2 hB1 hB2 hs).uniq q1
 ·refine Up.uniq (X:=vl Q) ?_ q2
  refine Dn.sep (a:= -b) (b:= -a) p2 (by omega) (by omega) (by omega) (by omega) (fun s=>?_)
  have:=hs (-s)
  rw [vr_neg]at this
  omega
theorem eq_rnd{P Q:Int × Int}(up:Bool)(hP:Nf P)(hQ:Nf Q)(h:vl P=vl Q):rnd up P.1 P.2=rnd up Q.1 Q.2:=by
 have a:=rnd_monoA hP hQ (Int.le_of_eq h) up;have b:=rnd_monoA hQ hP (Int.le_of_eq h.symm) up;exact Int.le_antisymm a b
theorem sep_sgi{P Q:Int × Int}{s:Bool}{A B a b:Int}(up:Bool)(hP:Nf P)(hQ:Nf Q)(eP:vl P=sgi s A)(eQ:vl Q=sgi s B)(hA1:a < A)(hA2:A < b)(hB1:a < B)(hB2:B < b)(hs:∀s,¬(a < vr s∧vr s < b)):rnd up P.1 P.2=rnd up Q.1 Q.2:=by
 cases s
 ·rw [wsg_f]at eP eQ;exact sep_rnd up hP hQ (a:=a) (b:=b) (by omega) (by omega) (by omega) (by omega) hs
 ·rw [wsg_t]at eP eQ
  refine sep_rnd up hP hQ (a:= -b) (b:= -a) (by omega) (by omega) (by omega) (by omega) (fun t=>?_)
  have:=hs (-t)
  rw [vr_neg]at this
  omega
theorem mk_vl{z e:Int}(h:z.natAbs < 2^128)(h1: -3000000≤e)(h2:e≤3000000):vl (mk z e)=z*2^(e+KK).toNat:=by
 obtain⟨η,hη⟩:∃η:Nat,η=4000000:=⟨_,rfl⟩;refine (mk_fit (h:=η) (by omega) (by omega) ?_).2
 have:=Nat.mul_lt_mul_of_pos_right h (Nat.pow_pos (n:=(e+(η:Int)).toNat) (show 0 < 2 by decide))
 rw [←Nat.pow_add]at this;exact Nat.lt_of_lt_of_le this (Nat.pow_le_pow_right (by decide) (by omega))
theorem no_place{i:Int}{u:Nat}(hi:21267647932558653966460912964485513216≤i)(s:Int):¬(2*i*2^u < vr s∧vr s < (2*i+2)*2^u):=by
 rintro ⟨h1,h2⟩;have hu:=p2pos u
 have hpos:0 < vr s:=Int.lt_of_le_of_lt (Int.mul_nonneg (by omega) (Int.le_of_lt hu)) h1
 have hs:0 < s:=by
  rcases Int.lt_or_le 0 s with q | q
  ·exact q
  ·exfalso
   have:=vr_le q
   rw [show vr 0=0 from rfl]at this
   omega
 have e0:vr s=((s-1)%9223372036854775808+9223372036854775808)*2^((s-1) /9223372036854775808-1048576+KK).toNat:=by
  unfold vr vp
  rw [if_neg (by omega),if_neg (by omega)]
 obtain⟨M,hM⟩:∃M,(s-1)%9223372036854775808+9223372036854775808=M:=⟨_,rfl⟩;obtain⟨t,ht⟩:∃t,((s-1) /9223372036854775808-1048576+(KK:Int)).toNat=t:=⟨_,rfl⟩;rw [hM,ht]at e0
 have hMl:M < 18446744073709551616:=by omega
 rw [e0]at h1 h2;clear e0 hM ht hs hpos
 rcases Nat.lt_or_ge u t with q | q
 ·obtain⟨d,rfl⟩:∃d,t=u+1+d:=⟨t-(u+1),by omega⟩
  have e1:M*2^(u+1+d)=M*2^d*2*2^u:=by
   rw [Int.pow_add,Int.pow_succ];generalize (2:Int)^u=U;generalize (2:Int)^d=D;rw [Int.mul_assoc M D 2,Int.mul_assoc M,Int.mul_comm U 2,Int.mul_comm (2*U) D,Int.mul_assoc D 2 U]
  rw [e1]at h1 h2;have a1:=Int.lt_of_mul_lt_mul_right h1 (Int.le_of_lt hu);have a2:=Int.lt_of_mul_lt_mul_right h2 (Int.le_of_lt hu)
  omega
 ·obtain⟨d,rfl⟩:∃d,u=t+d:=⟨u-t,by omega⟩
  have ht:=p2pos t;have hd:=p2pos d;rw [Int.pow_add]at h1
  have l1:(2:Int)^t*1≤2^t*2^d:=Int.mul_le_mul_of_nonneg_left hd (Int.le_of_lt ht)
  rw [Int.mul_one]at l1
  have l2:2*i*(2:Int)^t≤2*i*(2^t*2^d):=Int.mul_le_mul_of_nonneg_left l1 (by omega)
  have a1:=Int.lt_of_mul_lt_mul_right (Int.lt_of_le_of_lt l2 h1) (Int.le_of_lt ht)
  omega
def mvd (M:Int)(n:Nat):Int:=if n≤64 then M*2^(64-n)else if M%2^(n-64)=0 then M/2^(n-64)else M/2^(n-64) /2*2+1
theorem p2_le{a b:Nat}(h:a≤b):(2:Int)^a≤2^b:=by
 have:=Nat.pow_le_pow_right (show 0 < 2 by decide) h
 exact_mod_cast this
theorem div_le_self{M p:Int}(h0:0≤M)(hp:0 < p):0≤M/p∧M/p≤M:=⟨Int.ediv_nonneg h0 (Int.le_of_lt hp),Int.ediv_le_self _ h0⟩
theorem mvd_bd{M:Int}{n:Nat}(h0:0≤M)(hM:LQ M)(hn:1≤n):0≤mvd M n∧mvd M n≤M*9223372036854775808+1∧mvd M n < 170141183460469231731687303715884105728∧(2≤n→mvd M n < 85070591730234615865843651857942052864):=by
 unfold mvd
 by_cases h:n≤64
 ·rw [if_pos h]
  have l1:=p2_le (show 64-n≤63 by omega)
  have l0:=p2pos (64-n);have a1:=Int.mul_le_mul_of_nonneg_left l1 h0
  rw [show (2:Int)^63=9223372036854775808 by decide]at a1
  refine⟨Int.mul_nonneg h0 (Int.le_of_lt l0),by omega,by omega,fun h2=>?_⟩
  have l2:=p2_le (show 64-n≤62 by omega)
  have a2:=Int.mul_le_mul_of_nonneg_left l2 h0
  rw [show (2:Int)^62=4611686018427387904 by decide]at a2
  omega
 ·rw [if_neg h];obtain⟨b1,b2⟩:=div_le_self h0 (p2pos (n-64))
  revert b1 b2
  generalize M/2^(n-64)=q
  intro b1 b2
  by_cases hr:M%2^(n-64)=0
  ·rw [if_pos hr]
   refine⟨by omega,by omega,by omega,fun _=>by omega⟩
  ·rw [if_neg hr]
   refine⟨by omega,by omega,by omega,fun _=>by omega⟩
theorem fq_vr{s:Bool}{M E x:Int}(q:Fq 1 s M E x):9223372036854775808≤M∧M < 18446744073709551616∧ -1048576≤E∧E≤1048576∧ -19342822337206103650074625 < x∧x < 19342822337206103650074625∧x≠0∧vr x=sgi s (M*2^(E+KK).toNat)∧decide (x < 0)=s:=by
 rcases q.cases with⟨c,_⟩ | ⟨_,h1,h2,h3,h4,h5⟩ | ⟨c,_⟩
 ·exact absurd c (by decide)
 ·have hv:=vp_fin h1 h2 h3
  have hx:x=sgi s (M-9223372036854775808+1+(E+1048576)*9223372036854775808):=by
   rcases h5 with⟨rfl,h5⟩ | ⟨rfl,h5⟩
   ·rw [wsg_f];omega
   ·rw [wsg_t];omega
  have hw:vr x=sgi s (M*2^(E+KK).toNat):=by
   rw [hx,vp_vr s (by omega),hv]
  refine⟨h1,h2,h3,h4,?_,?_,?_,hw,?_⟩
  ·rcases h5 with⟨_,h5⟩ | ⟨_,h5⟩ <;> omega
  ·rcases h5 with⟨_,h5⟩ | ⟨_,h5⟩ <;> omega
  ·rcases h5 with⟨_,h5⟩ | ⟨_,h5⟩ <;> omega
  ·rcases h5 with⟨rfl,h5⟩ | ⟨rfl,h5⟩
   ·exact decide_eq_false (by omega)
   ·exact decide_eq_true (by omega)
 ·exact absurd c (by decide)
theorem sgi_add (s t:Bool)(x y:Int):sgi s x+sgi t y=sgi s (x+sgi (s !=t) y):=by
 cases s <;> cases t
 ·rw [show (false !=false)=false from rfl,wsg_f,wsg_f,wsg_f]
 ·rw [show (false !=true)=true from rfl,wsg_f,wsg_t,wsg_f]
 ·rw [show (true !=false)=true from rfl,wsg_t,wsg_f,wsg_t,wsg_t];omega
 ·rw [show (true !=true)=false from rfl,wsg_t,wsg_t,wsg_f,wsg_t];omega
theorem sgi_abs (s:Bool){S:Int}(h:0≤S):(sgi s S).natAbs=S.toNat:=by
 cases s
 ·rw [wsg_f];omega
 ·rw [wsg_t];omega
theorem sum_wide{s1 s2:Bool}{M1 M2 E1 E2 x y S:Int}{n:Nat}(up:Bool)(q1:Fq 1 s1 M1 E1 x)(q2:Fq 1 s2 M2 E2 y)(h:E2 < E1∨E2=E1∧M2≤M1)(hn:(n:Int)=E1-E2+1)(hS:S=M1*9223372036854775808+sgi (s1 !=s2) (mvd M2 n)):
  0≤S∧S < 340282366920938463463374607431768211456∧rnd up (mk (sgi s1 S) (E1-63)).1 (mk (sgi s1 S) (E1-63)).2=addp up x y:=by
 obtain⟨a1,a2,a3,a4,a5,a6,a7,a8,a9⟩:=fq_vr q1;obtain⟨b1,b2,b3,b4,b5,b6,b7,b8,b9⟩:=fq_vr q2;obtain⟨m0,m1,m2,m3⟩:=mvd_bd (M:=M2) (n:=n) (by omega) b2 (by omega);have hk:=KK_eq
 have hone:n=1→mvd M2 n=M2*9223372036854775808:=by
  rintro rfl
  unfold mvd
  rw [if_pos (by decide)]
  rfl
 have hS0:0≤S∧S < 340282366920938463463374607431768211456:=by
  rw [hS]
  cases hs:s1 !=s2
  ·rw [wsg_f];omega
  ·rw [wsg_t]
   by_cases c:n=1
   ·have:=hone c
    omega
   ·have:=m3 (by omega)
    omega
 refine⟨hS0.1,hS0.2,?_⟩;rw [addp_ff up (infp_fin a5 a6) (infp_fin b5 b6)];obtain⟨nf,ev⟩:=sum_spec a5 a6 b5 b6;have nfP:=mk_nf (sgi s1 S) (E1-63);have evP:=mk_vl (z:=sgi s1 S) (e:=E1-63) (by rw [sgi_abs s1 hS0.1];omega) (by omega) (by omega);obtain⟨u,hu⟩:∃u:Nat,(E1-63+(KK:Int)).toNat=u:=⟨_,rfl⟩;obtain⟨v,hv⟩:∃v:Nat,(E2+(KK:Int)).toNat=v:=⟨_,rfl⟩
 have e1:(E1+(KK:Int)).toNat=63+u:=by omega
 rw [hu]at evP
 rw [e1,Int.pow_add,show (2:Int)^63=9223372036854775808 by decide,←Int.mul_assoc]at a8
 rw [hv]at b8;rw [a8,b8,sgi_add]at ev;rw [sgi_mul,hS,Int.add_mul,sgi_mul]at evP;rw [hS];rw [hS]at nfP
 by_cases c:n≤64
 ·have e2:mvd M2 n*2^u=M2*2^v:=by
   unfold mvd
   rw [if_pos c,Int.mul_assoc,←Int.pow_add]
   congr 2
   omega
  exact eq_rnd up nfP nf (by rw [evP,ev,e2])
 ·have ek:u=v+(n-64):=by omega
  by_cases hr:M2%2^(n-64)=0
  ·have e2:mvd M2 n*2^u=M2*2^v:=by
    unfold mvd
    rw [if_neg c,if_pos hr,ek,Int.pow_add,Int.mul_comm (2^v),←Int.mul_assoc]
    congr 1
    exact Int.ediv_mul_cancel (Int.dvd_of_emod_eq_zero hr)
   exact eq_rnd up nfP nf (by rw [evP,ev,e2])
  ·have hm:mvd M2 n=M2/2^(n-64) /2*2+1:=by
    unfold mvd
    rw [if_neg c,if_neg hr]
   have hd:=Int.mul_ediv_add_emod M2 (2^(n-64));have hp:=p2pos (n-64);have r0:=Int.emod_nonneg M2 (Int.ne_of_gt hp);have r1:=Int.emod_lt_of_pos M2 hp
   obtain⟨d1,d2⟩:=div_le_self (show 0≤M2 by omega) hp
   have hpv:=p2pos v;have hpu:=p2pos u;rw [hm]at evP nfP⊢;rw [hm]at m0 m1;clear hone hS0 m2 m3 hS hm;generalize M2%2^(n-64)=r at hd r0 r1 hr;generalize M2/2^(n-64)=q at hd d1 d2 evP nfP m0 m1⊢
   have hU:(2:Int)^u=2^(n-64)*2^v:=by rw [ek,Int.pow_add,Int.mul_comm]
   obtain⟨j,hj⟩:∃j,q/2=j:=⟨_,rfl⟩;rw [hj]at evP nfP m0 m1⊢
   -- the exact one lies between 2 j and 2 j+2
   have y1:2*j*2^u < M2*2^v:=by
    rw [hU,←Int.mul_assoc];refine Int.mul_lt_mul_of_pos_right ?_ hpv
    have l1:2*j*2^(n-64)≤q*2^(n-64):=Int.mul_le_mul_of_nonneg_right (by omega) (Int.le_of_lt hp)
    rw [Int.mul_comm q]at l1
    omega
   have y2:M2*2^v < (2*j+2)*2^u:=by
    rw [hU,←Int.mul_assoc];refine Int.mul_lt_mul_of_pos_right ?_ hpv
    have l1:(q+1)*2^(n-64)≤(2*j+2)*2^(n-64):=Int.mul_le_mul_of_nonneg_right (by omega) (Int.le_of_lt hp)
    rw [Int.add_mul,Int.one_mul,Int.mul_comm q]at l1
    omega
   have z1:2*j*2^u < (j*2+1)*2^u:=Int.mul_lt_mul_of_pos_right (by omega) hpu
   have z2:(j*2+1)*2^u < (2*j+2)*2^u:=Int.mul_lt_mul_of_pos_right (by omega) hpu
   revert y1 y2 z1 z2 ev evP
   generalize M2*2^v=Y;generalize hZ:(j*2+1)*2^u=Z
   intro ev evP y1 y2 z1 z2
   cases hs:s1 !=s2
   ·rw [hs]at ev evP nfP;rw [wsg_f]at ev nfP⊢;rw [wsg_f,wsg_f]at evP
    have f1:2*(M1*4611686018427387904+j)*2^u=M1*9223372036854775808*2^u+2*j*2^u:=by rw [←Int.add_mul];congr 1;omega
    have f2:(2*(M1*4611686018427387904+j)+2)*2^u=M1*9223372036854775808*2^u+(2*j+2)*2^u:=by rw [←Int.add_mul];congr 1;omega
    refine sep_sgi up nfP nf evP ev (a:=2*(M1*4611686018427387904+j)*2^u) (b:=(2*(M1*4611686018427387904+j)+2)*2^u) ?_ ?_ ?_ ?_ (no_place (by omega))
    ·rw [f1];omega
    ·rw [f2];omega
    ·rw [f1];omega
    ·rw [f2];omega
   ·rw [hs]at ev evP nfP;rw [wsg_t]at ev nfP⊢;rw [wsg_t,wsg_t]at evP
    have f1:2*(M1*4611686018427387904-j-1)*2^u=M1*9223372036854775808*2^u-(2*j+2)*2^u:=by rw [←Int.sub_mul];congr 1;omega
    have f2:(2*(M1*4611686018427387904-j-1)+2)*2^u=M1*9223372036854775808*2^u-2*j*2^u:=by rw [←Int.sub_mul];congr 1;omega
    refine sep_sgi up nfP nf evP ev (a:=2*(M1*4611686018427387904-j-1)*2^u) (b:=(2*(M1*4611686018427387904-j-1)+2)*2^u) ?_ ?_ ?_ ?_ (no_place (by omega))
    ·rw [f1];omega
    ·rw [f2];omega
    ·rw [f1];omega
    ·rw [f2];omega
theorem pro_wide{s1 s2:Bool}{M1 M2 E1 E2 x y:Int}(up:Bool)(q1:Fq 1 s1 M1 E1 x)(q2:Fq 1 s2 M2 E2 y):
  0≤M1*M2∧M1*M2 < 340282366920938463463374607431768211456∧rnd up (mk (sgi (s1 !=s2) (M1*M2)) (E1+E2)).1 (mk (sgi (s1 !=s2) (M1*M2)) (E1+E2)).2=mulp up x y:=by
 obtain⟨a1,a2,a3,a4,a5,a6,a7,a8,a9⟩:=fq_vr q1;obtain⟨b1,b2,b3,b4,b5,b6,b7,b8,b9⟩:=fq_vr q2;have hk:=KK_eq
 have h0:0≤M1*M2:=Int.mul_nonneg (by omega) (by omega)
 have h1:M1*M2 < 340282366920938463463374607431768211456:=by
  have l1:M1*M2≤18446744073709551615*M2:=Int.mul_le_mul_of_nonneg_right (by omega) (by omega)
  omega
 refine⟨h0,h1,?_⟩;rw [mulp_fin up (by omega) (by rw [infp_fin a5 a6,infp_fin b5 b6];simp)];obtain⟨nf,ev⟩:=pro_spec a5 a6 b5 b6;have nfP:=mk_nf (sgi (s1 !=s2) (M1*M2)) (E1+E2);have evP:=mk_vl (z:=sgi (s1 !=s2) (M1*M2)) (e:=E1+E2) (by rw [sgi_abs _ h0];omega) (by omega) (by omega);refine eq_rnd up nfP nf ?_;refine Int.eq_of_mul_eq_mul_right (Int.ne_of_gt (p2pos KK)) ?_
 rw [ev,evP,a8,b8,Int.mul_assoc,←Int.pow_add,show (E1+E2+(KK:Int)).toNat+KK=(E1+(KK:Int)).toNat+(E2+(KK:Int)).toNat by omega,Int.pow_add]
 generalize (2:Int)^(E1+(KK:Int)).toNat=U;generalize (2:Int)^(E2+(KK:Int)).toNat=V
 have e:∀a b:Int,a*b*(U*V)=a*U*(b*V):=fun a b=>by
  rw [Int.mul_assoc,Int.mul_assoc,←Int.mul_assoc b,Int.mul_comm b U,Int.mul_assoc U]
 cases s1 <;> cases s2
 ·rw [show (false !=false)=false from rfl,wsg_f,wsg_f,wsg_f];exact e _ _
 ·rw [show (false !=true)=true from rfl,wsg_f,wsg_t,wsg_t,Int.neg_mul,Int.mul_neg];rw [e]
 ·rw [show (true !=false)=true from rfl,wsg_f,wsg_t,wsg_t,Int.neg_mul,Int.neg_mul];rw [e]
 ·rw [show (true !=true)=false from rfl,wsg_f,wsg_t,wsg_t,Int.neg_mul,Int.mul_neg,Int.neg_neg];exact e _ _
theorem raise_top{h l:Nat}(h0:h≠0)(hh:h < 18446744073709551616):
  blen (h*18446744073709551616+l)=64+blen h∨18446744073709551616≤l:=by
 rcases Nat.lt_or_ge l 18446744073709551616 with hl | hl
 ·left
  have:=blen_shift (h*18446744073709551616+l) 64 (by omega)
  rw [this]
  congr 2
  omega
 ·exact .inr hl
def Ra (S:Nat)(F T K X:Int):Prop:=0≤T∧T < 18446744073709551616∧0≤K∧K < 18446744073709551616∧T=(tp S:Nat)∧(S≠0→X=xp S F∧(K=0↔tp S*2^blen S=S*2^64))
theorem ra_low{l:Nat}{e:Int}(hl:l < 18446744073709551616):Ra l (e-64) ((l*2^(64-blen l):Nat):Int) 0 (e-64-(64-(blen l:Int))):=by
 have hb:=blen_mono_le (n:=l) (k:=64) hl;have ht:=tp_small hb;have h2:=tp_lt l;rw [ht]at h2
 refine⟨by omega,by omega,by omega,by omega,by rw [ht],fun h0=>⟨by unfold xp;omega,fun _=>?_,fun _=>rfl⟩⟩
 rw [ht,Nat.mul_assoc,←Nat.pow_add]
 congr 2
 omega
theorem ra_high{h l:Nat}{e:Int}(h0:h≠0)(hh:h < 18446744073709551616)(hl:l < 18446744073709551616):
  Ra (h*18446744073709551616+l) (e-64) ((h*2^(64-blen h)+l/2^blen h:Nat):Int) ((l*2^(64-blen h)%18446744073709551616:Nat):Int) (e-(64-(blen h:Int))):=by
 have hb:=blen_mono_le (n:=h) (k:=64) hh
 have hbs:blen (h*18446744073709551616+l)=64+blen h:=by
  rcases raise_top (l:=l) h0 hh with q | q
  ·exact q
  ·omega
 have hp:0 < 2^blen h:=Nat.pow_pos (by decide)
 have hn:2^64=2^(64-blen h)*2^blen h:=by rw [←Nat.pow_add];congr 1;omega
 have hn':(18446744073709551616:Nat)=2^blen h*2^(64-blen h):=by rw [Nat.mul_comm,←hn]
 have ht:tp (h*18446744073709551616+l)=h*2^(64-blen h)+l/2^blen h:=by
  unfold tp
  rw [hbs,Nat.pow_add,Nat.mul_comm (2^64) (2^blen h),Nat.mul_div_mul_right _ _ (Nat.pow_pos (by decide)),hn',show h*(2^blen h*2^(64-blen h))=2^blen h*(h*2^(64-blen h)) by rw [←Nat.mul_assoc,Nat.mul_comm h,Nat.mul_assoc],Nat.mul_add_div hp]
 have hm:l*2^(64-blen h)%18446744073709551616=l%2^blen h*2^(64-blen h):=by
  rw [hn',Nat.mul_mod_mul_right]
 have ht2:=tp_lt (h*18446744073709551616+l)
 have hml:=Nat.mod_lt (l*2^(64-blen h)) (show 0 < 18446744073709551616 by decide)
 refine⟨by omega,by omega,by omega,by omega,by rw [ht],fun _=>⟨?_,?_⟩⟩
 ·unfold xp
  rw [hbs]
  omega
 ·rw [hm,hbs,ht,Nat.pow_add,Nat.mul_comm (2^64) (2^blen h),←Nat.mul_assoc];have hd:=Nat.div_add_mod l (2^blen h)
  have hS:h*18446744073709551616+l=(h*2^(64-blen h)+l/2^blen h)*2^blen h+l%2^blen h:=by
   rw [Nat.add_mul,Nat.mul_assoc h,←hn,Nat.mul_comm (l/2^blen h),Nat.add_assoc,hd]
  rw [hS]
  have hp2:0 < 2^(64-blen h):=Nat.pow_pos (by decide)
  revert hS
  generalize (h*2^(64-blen h)+l/2^blen h)*2^blen h=Z;generalize l%2^blen h=m
  intro _
  constructor
  ·intro q
   have q1:m*2^(64-blen h)=0:=by exact_mod_cast q
   have q2:m=0:=by
    rcases Nat.mul_eq_zero.1 q1 with c | c
    ·exact c
    ·omega
   rw [q2,Nat.add_zero]
  ·intro q
   have q1:Z=Z+m:=Nat.eq_of_mul_eq_mul_right (show 0 < 2^64 by decide) q
   have q2:m=0:=by omega
   rw [q2,Nat.zero_mul]
   rfl
def exw (S:Nat)(F:Int):Bool:=S==0 || (decide (xp S F≤1048576) && (decide (-1048576≤xp S F) && decide (tp S*2^blen S=S*2^64)))
theorem exw_odd{m:Nat}(ho:m%2=1)(t:Nat)(F:Int):exw (m*2^t) F=ext m (F+t):=by
 have h0:m≠0:=by omega
 have h2:m*2^t≠0:=Nat.mul_ne_zero h0 (Nat.ne_of_gt (Nat.pow_pos (by decide)))
 have ex:xp (m*2^t) F=xp m (F+t):=by
  unfold xp
  rw [blen_mul h0]
  omega
 have e1:(m*2^t==0)=false:=by simpa using h2
 have e2:(m==0)=false:=by simpa using h0
 have e3:(tp (m*2^t)*2^blen (m*2^t)=m*2^t*2^64)↔blen m≤64:=by
  rw [tp_mul h0,blen_mul h0,Nat.pow_add,←Nat.mul_assoc,Nat.mul_right_comm m]
  constructor
  ·intro q
   have q1:=Nat.eq_of_mul_eq_mul_right (Nat.pow_pos (n:=t) (show 0 < 2 by decide)) q
   rcases Nat.lt_or_ge 64 (blen m)with c | c
   ·exfalso
    rw [show 2^blen m=2^(blen m-65)*2*2^64 by rw [←Nat.pow_succ,←Nat.pow_add];congr 1;omega,←Nat.mul_assoc]at q1
    have q2:=Nat.eq_of_mul_eq_mul_right (show 0 < 2^64 by decide) q1
    rw [←Nat.mul_assoc]at q2
    omega
   ·exact c
  ·intro c
   rw [tp_small c,Nat.mul_assoc m,←Nat.pow_add,show 64-blen m+blen m=64 by omega]
 unfold exw ext
 rw [ex,e1,e2,decide_eq_decide.2 e3]
theorem wide_rnd{S:Nat}{F N E:Int}{neg:Bool}(hS:S < 340282366920938463463374607431768211456)(h1: -3000000≤F)(h2:F≤3000000)(hN:(mk (sgi neg (S:Int)) F).1=N)(hE:(mk (sgi neg (S:Int)) F).2=E):
  (exw S F=true→∀up,rnd up N E=sgi neg (lo S F))∧rnd neg N E=sgi neg (lo S F)∧(exw S F=false→rnd (!neg) N E=nx (!neg) (sgi neg (lo S F))):=by
 by_cases h0:S=0
 ·subst h0
  have e0:sgi neg ((0:Nat):Int)=0:=by cases neg <;> rfl
  rw [e0,mk_zero]at hN hE;subst hN;subst hE
  have e1:sgi neg (lo 0 F)=0:=by
   have:lo 0 F=0:=by
    unfold lo
    rw [if_pos rfl]
   rw [this]
   cases neg <;> rfl
  have e2:exw 0 F=true:=by
   unfold exw
   rfl
  rw [e1,e2]
  exact⟨fun _ up=>rnd_nought up,rnd_nought neg,fun c=>absurd c (by decide)⟩
 ·have hab:(sgi neg (S:Int)).natAbs=S:=by rw [sgi_abs neg (by omega)];omega
  obtain⟨s1,s2⟩:=v2_spec S h0
  have hv:v2 S < 128:=by
   have h3:=v2_pow_le h0
   have h4:2^v2 S < 2^128:=by omega
   exact (Nat.pow_lt_pow_iff_right (by decide)).1 h4
  have hz:sgi neg (S:Int)≠0:=by
   intro c
   rw [c]at hab;exact h0 hab.symm
  obtain⟨m1,m2,m3,m4,m5⟩:=mk_in (z:=sgi neg (S:Int)) (e:=F) hz (by omega) (by rw [hab];omega);rw [hab]at m1 m2;rw [hE]at m1;rw [hN]at m2 m3
  have hsn:neg=decide (N < 0):=by
   cases neg
   ·rw [wsg_f]at m3;exact (decide_eq_false (by omega)).symm
   ·rw [wsg_t]at m3;exact (decide_eq_true (by omega)).symm
  have hx:exw S F=ext N.natAbs E:=by
   rw [m2,m1]
   conv=>lhs;rw [s1]
   exact exw_odd s2 _ F
  have hl:lo S F=lo N.natAbs E:=by
   rw [m2,m1]
   conv=>lhs;rw [s1]
   exact lo_mul (by omega) _ F
  rw [hx,hl]
  refine⟨fun c up=>?_,?_,fun c=>?_⟩
  ·rw [rnd_ext c,←hsn]
  ·exact rnd_same hsn rfl
  ·rw [rnd_diff hsn,nx_lo neg c]
set_option linter.unusedSimpArgs false
set_option maxRecDepth 100000
theorem fq_inf{D:Int}{s:Bool}{M E x:Int}(q:Fq D s M E x):infp x=(D==2):=by
 have htp:=TP_eq
 rcases q.cases with⟨rfl,rfl,rfl,rfl,h0⟩ | ⟨rfl,h1,h2,h3,h4,⟨rfl,h5⟩ | ⟨rfl,h5⟩⟩ | ⟨rfl,rfl,rfl,⟨rfl,h5⟩ | ⟨rfl,h5⟩⟩ <;> unfold infp <;> rw [Bool.eq_iff_iff] <;> simp <;> omega
theorem fq_same{s s':Bool}{M M' E E' x y:Int}(q:Fq 2 s M E x)(q':Fq 2 s' M' E' y):x=y↔s=s':=by
 have htp:=TP_eq
 rcases q.cases with⟨h,_⟩ | ⟨h,_⟩ | ⟨_,rfl,rfl,⟨rfl,h5⟩ | ⟨rfl,h5⟩⟩
 ·omega
 ·omega
 all_goals
  rcases q'.cases with⟨h,_⟩ | ⟨h,_⟩ | ⟨_,rfl,rfl,⟨rfl,k5⟩ | ⟨rfl,k5⟩⟩
  ·omega
  ·omega
  ·constructor <;> intro e <;> first | rfl | omega | exact absurd e (by decide)
  ·constructor <;> intro e <;> first | rfl | omega | exact absurd e (by decide)
def mvs (p:Int × Int)(k:Int):Int × Int:=mk p.1 (p.2+k)
theorem dMove{w:World}{A:Option Addr}{n c:Nat}{s:Bool}{z e k N E:Int}(hT:Tab w)(h:Wr w s A n c z)(hn:n≤100000)(k1: -2000≤k)(k2:k≤2000)(hN:(mvs (mk z e) k).1=N)(hE:(mvs (mk z e) k).2=E):
  Calls Tryz.prog 189 #[.agg #[.bool s,.slice A n c,.int .i64 e],.int .i64 k] w (D1 w n N E):=by
 obtain⟨b1,b2⟩:=mk_bd z e
 have hv:mvs (mk z e) k=mk (mk z e).1 (IntKind.i64.wrap ((mk z e).2+k)):=by rw [IntWalk.i64_in _ (by omega)];rfl
 rw [hv]at hN hE;exact dMoveW hT h hn hN hE
theorem qmoved_up{w:World}{A:Option Addr}{n c α k r:Nat}(h:Rd w A n c α)(hn:n≤8000)(hk:k≤200000)(hr:α*2^k=r):Calls Tryz.prog 224 #[.slice A n c,.int .i64 (k:Int)] w (P1B w 15000 r true):=by
 have HR:=Lib.hid hr;clear hr
 have hd:decide ((0:Int)≤(k:Int))=true:=decide_eq_true (Int.natCast_nonneg k)
 go_enter Tryz.func224,Tryz.ntmps224
 go_wp2_with fail
 refine (vShlE h (by omega) (by omega) HR.out).mono ?_;rintro ee w2 ⟨A2,n2,c2,rfl,p2,k2,B2⟩;go_wp2;exact bodyPost_ret (v:= .tuple #[.slice A2 n2 c2,.bool true]) (by simp [results,Tryz.results224,go_sem]) rfl ⟨A2,n2,c2,rfl,p2,by omega,B2⟩
theorem qmoved_dn{w:World}{A:Option Addr}{n c α k d r:Nat}{z y:Int}{t:Bool}(h:Rd w A n c α)(hn:n≤8000)(hk:k≤200000)(h0:0 < k)(hz: -z=(k:Int))(hr:α/2^k=r)(hd:r*2^k=d)(hy:cmpI (d:Int) (α:Int)=y)(ht:(y==0)=t):Calls Tryz.prog 224 #[.slice A n c,.int .i64 z] w (P1B w 15000 r t):=by
 have HR:Hid (α/2^(k:Int).toNat=r):=Lib.hid (by rw [Int.toNat_natCast];exact hr)
 have HD:=Lib.hid hd;have HY:=Lib.hid hy
 have hlt:decide (0≤z)=false:=decide_eq_false (by omega)
 have hlt2:¬(0≤z):=by omega
 have hw:IntKind.i64.wrap (-z)=(k:Int):=by rw [hz];exact IntWalk.i64_in _ (by omega)
 clear hr hd hy
 go_enter Tryz.func224,Tryz.ntmps224
 go_wp2_with fail
 refine (vShrE (z:=(k:Int)) h (by omega) HR.out).mono ?_;rintro ee w2 ⟨A2,n2,c2,rfl,p2,k2,B2⟩
 go_wp2_with fail
 refine (vShlE p2.rd (by omega) (by omega) HD.out).mono ?_;rintro ee w3 ⟨A3,n3,c3,rfl,p3,k3,B3⟩
 go_wp2_with fail
 refine (vCmpE p3.rd ((h.below B2).below B3) HY.out).mono ?_;rintro ee w4 ⟨rfl,B4⟩;go_wp2;exact bodyPost_ret (v:= .tuple #[.slice A2 n2 c2,.bool t]) (by simp [results,Tryz.results224,go_sem]) rfl ⟨A2,n2,c2,rfl,(p2.below B3).below B4,by omega,bt B2 (bt B3 B4)⟩
set_option maxHeartbeats 2000000 in
theorem qAway{w:World}{up:Bool}{r:Int}(hr:sgi (!up) TP=r):Calls Tryz.prog 191 #[.bool up] w (PN w r):=by
 have HR:=Lib.hid hr;clear hr
 go_enter Tryz.func191,Tryz.ntmps191
 go_upto_region 1 with (fail)
 generalize hW1:w.alloc _=w1 at *;obtain⟨XR,HB⟩:=Bo.en1 hW1;clear hW1
 go_wp2_with fail
 refine (nInf (s:=!up) HR.out).mono ?_;rintro ee w2 ⟨K1,s1,M1,E1,rfl,q1,B⟩;replace XR:=XR.below B;replace HB:=Hqb HB B;clear B;have xXR:=XR.cell;have zXR0:=XR.frozen;go_wp2;clear xXR zXR0;have SX:=StN.mk4 XR (.int .i64 K1) (.bool s1) (.int .u64 M1) (.int .i64 E1);exact bodyPost_ret (by simp [results,Tryz.results191,go_sem,SX.box.cell]) rfl ⟨_,_,_,_,rfl,q1,(SX.below HB.out (by omega))⟩
end Go.Proofs.YtaadmpiphnfllaaGreatDoor
