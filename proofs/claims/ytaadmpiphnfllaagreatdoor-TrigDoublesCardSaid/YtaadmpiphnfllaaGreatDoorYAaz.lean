/-
 Contracts that the proof rests on.
-/
import Derived.Test.YtaadmpiphnfllaaGreatDoorYAay
namespace Go.Proofs.YtaadmpiphnfllaaGreatDoor
open Go.RowKit
set_option linter.unusedVariables false
def QF (q:Bool→Int→Int→Int):Prop:=∀up x y,Qt up x y (q up x y)
theorem QF.in{q:Bool→Int→Int→Int}(hq:QF q)(up:Bool)(x y:Int):In (q up x y):=(hq up x y).bd
section
variable {q:Bool→Int→Int→Int}
end
set_option linter.unusedSimpArgs false
set_option maxRecDepth 100000
def Ro (up:Bool)(x r:Int)(t:Bool):Prop:=if x < 0 then r=0∧t=false else if x=0∨infp x=true then r=x∧t=true else Rt up (vr x*2^KK) r∧t=true
theorem ro_neg{up:Bool}{x r:Int}{t:Bool}(h:x < 0):Ro up x r t↔(r=0∧t=false):=by
 unfold Ro
 rw [if_pos h]
theorem ro_it{up:Bool}{x r:Int}{t:Bool}(h:¬x < 0)(h2:x=0∨infp x=true):Ro up x r t↔(r=x∧t=true):=by
 unfold Ro
 rw [if_neg h,if_pos h2]
theorem ro_fin{up:Bool}{x r:Int}{t:Bool}(h:¬x < 0)(h2:¬(x=0∨infp x=true)):Ro up x r t↔(Rt up (vr x*2^KK) r∧t=true):=by
 unfold Ro
 rw [if_neg h,if_neg h2]
theorem Ro.uniq{up:Bool}{x r r':Int}{t t':Bool}(h:Ro up x r t)(k:Ro up x r' t'):r=r'∧t=t':=by
 by_cases c:x < 0
 ·obtain⟨a,b⟩:=(ro_neg c).1 h;obtain⟨d,e⟩:=(ro_neg c).1 k;exact⟨a.trans d.symm,b.trans e.symm⟩
 ·by_cases c2:x=0∨infp x=true
  ·obtain⟨a,b⟩:=(ro_it c c2).1 h;obtain⟨d,e⟩:=(ro_it c c2).1 k;exact⟨a.trans d.symm,b.trans e.symm⟩
  ·obtain⟨a,b⟩:=(ro_fin c c2).1 h;obtain⟨d,e⟩:=(ro_fin c c2).1 k;exact⟨a.uniq d,b.trans e.symm⟩
def absI (x:Sp):Sp:=match x with
 | none=>none
 | some (a,b)=>if 0≤a then some (a,b)else if b≤0 then negI (some (a,b))else mkI 0 (max b (-a))
def sqrI (x:Sp):Sp:=match absI x with
 | none=>none
 | some (a,b)=>mkI (mulp false a a) (mulp true b b)
def RF (r:Bool→Int→Int):Prop:=∀up x,0≤x→Ro up x (r up x) true
theorem Rt.mono9{up:Bool}{X Y r t:Int}(h:Rt up X r)(k:Rt up Y t)(hXY:X≤Y):r≤t:=by
 rcases Int.lt_or_le t r with c | c
 ·exfalso
  cases up
  ·obtain⟨h1,h2,h3,h4⟩:=rt_f.1 h;obtain⟨k1,k2,k3,k4⟩:=rt_f.1 k;have a:=k4 (by omega);have b:=vr_sq (r:=t+1) (t:=r) (by omega) (by omega)
   omega
  ·obtain⟨h1,h2,h3,h4⟩:=rt_t.1 h;obtain⟨k1,k2,k3,k4⟩:=rt_t.1 k;have a:=k3 (by omega);have b:=vr_sq (r:=t) (t:=r-1) (by omega) (by omega)
   omega
 ·exact c
theorem infp_top:infp 19342822337206103650074625=true:=by decide
section
variable {r:Bool→Int→Int}
theorem RF.zero (hr:RF r)(up:Bool):r up 0=0:=((ro_it (by decide) (.inl rfl)).1 (hr up 0 (by decide))).1
theorem RF.top (hr:RF r)(up:Bool):r up 19342822337206103650074625=19342822337206103650074625:=((ro_it (by decide) (.inr infp_top)).1 (hr up _ (by decide))).1
theorem RF.fin (hr:RF r)(up:Bool){x:Int}(h0:0 < x)(h1:x < 19342822337206103650074625):Rt up (vr x*2^KK) (r up x):=
 ((ro_fin (by omega) (by rw [infp_fin (by omega) h1];simp;omega)).1 (hr up x (by omega))).1
theorem RF.in (hr:RF r)(up:Bool){x:Int}(h0:0≤x)(h1:x≤19342822337206103650074625):0≤r up x∧r up x≤19342822337206103650074625:=by
 by_cases c:x=0
 ·subst c;rw [hr.zero]
  decide
 ·by_cases d:x=19342822337206103650074625
  ·subst d;rw [hr.top]
   decide
  ·have:=hr.fin up (x:=x) (by omega) (by omega)
   cases up
   ·have:=rt_f.1 this
    omega
   ·have:=rt_t.1 this
    omega
theorem RF.mono (hr:RF r)(up:Bool){x y:Int}(h0:0≤x)(h:x≤y)(h1:y≤19342822337206103650074625):r up x≤r up y:=by
 have X:=hr.in up h0 (by omega)
 have Y:=hr.in up (show 0≤y by omega) h1
 by_cases c:x=0
 ·subst c;rw [hr.zero]
  omega
 ·by_cases d:y=19342822337206103650074625
  ·subst d;rw [hr.top]
   omega
  ·exact (hr.fin up (by omega) (by omega)).mono9 (hr.fin up (by omega) (by omega)) (Int.mul_le_mul_of_nonneg_right (vr_le h) (Int.le_of_lt (p2pos KK)))
end
theorem abs_eq{a b:Int}(h:SpOk (some (a,b))):absI (some (a,b))=some (max 0 (max a (-b)),max b (-a))∧SpOk (some (max 0 (max a (-b)),max b (-a))):=by
 obtain⟨h1,h2,h3,h4,h5⟩:=h
 constructor
 ·show (if _ then _ else _)=_
  by_cases c:0≤a
  ·rw [if_pos c,show max 0 (max a (-b))=a by omega,show max b (-a)=b by omega]
  ·rw [if_neg c]
   by_cases d:b≤0
   ·rw [if_pos d,negI_some ⟨h1,h2,h3,h4,h5⟩,show max 0 (max a (-b))= -b by omega,show max b (-a)= -a by omega]
   ·rw [if_neg d,mkI_some (by omega) (by omega) (by omega),show max 0 (max a (-b))=0 by omega]
 ·exact⟨by omega,by omega,by omega,by omega,by omega⟩
theorem sqr_eq{a b:Int}(h:SpOk (some (a,b))):sqrI (some (a,b))=mkI (mulp false (max 0 (max a (-b))) (max 0 (max a (-b)))) (mulp true (max b (-a)) (max b (-a))):=by
 unfold sqrI
 rw [(abs_eq h).1]
theorem mulp_sq{x y:Int}(up:Bool)(h0:0≤x)(h:x≤y)(h1:y≤19342822337206103650074625):mulp up x x≤mulp up y y:=by
 have a:=mulp_up (x:=x) (y:=y) (z:=x) up (by omega) (by omega) (by omega) h1 h0 (by omega) h;have b:=mulp_up (x:=x) (y:=y) (z:=y) up (by omega) (by omega) (by omega) h1 (by omega) h1 h;rw [mulp_comm (x:=y) (y:=x)]at a
 omega
section
variable {r:Bool→Int→Int}
end
theorem mulp_spec{x y:Int}(x1: -19342822337206103650074625 < x)(x2:x < 19342822337206103650074625)(y1: -19342822337206103650074625 < y)(y2:y < 19342822337206103650074625):Dn (vl (ml (ep x) (ep y))) (mulp false x y)∧Up (vl (ml (ep x) (ep y))) (mulp true x y):=by
 obtain⟨nf,v⟩:=pro_spec x1 x2 y1 y2
 by_cases h:x=0∨y=0
 ·rw [mulp_zero false h,mulp_zero true h]
  have e:vl (ml (ep x) (ep y))=vr 0:=by
   have hz:vr x*vr y=0:=by rcases h with e | e <;> rw [e,show vr 0=0 from rfl] <;> simp
   rw [hz]at v
   rcases Int.mul_eq_zero.1 v with e | e
   ·rw [e];rfl
   ·have:=p2pos KK
    omega
  rw [e];exact⟨dn_self (by decide) (by decide),up_self (by decide) (by decide)⟩
 ·have hm:¬(infp x=true∨infp y=true):=by rw [infp_fin x1 x2,infp_fin y1 y2];simp
  rw [mulp_fin false h hm,mulp_fin true h hm];exact rnd_spec nf
theorem In.fin{x:Int}(h1: -19342822337206103650074625 < x)(h2:x < 19342822337206103650074625):In x:=⟨by omega,by omega⟩
def Zi (a b:Int):Sp:=some (opl a,opl b)
theorem opl_le{a b:Int}(h1: -9223372036854775808≤a)(h:a≤b)(h2:b≤9223372036854775807):opl a≤opl b:=by
 have c:=opl_cmp (a:=a) (b:=b) h1 (by omega) (by omega) h2
 rcases cmpI_tri (opl a) (opl b)with ⟨p,e⟩ | ⟨p,e⟩ | ⟨p,e⟩
 ·omega
 ·omega
 ·rw [e]at c
  rcases cmpI_tri a b with⟨s,f⟩ | ⟨s,f⟩ | ⟨s,f⟩ <;> omega
theorem opl_fin{a:Int}(h1: -9223372036854775807≤a)(h2:a≤9223372036854775807): -19342822337206103650074625 < opl a∧opl a < 19342822337206103650074625:=by
 rcases Int.lt_or_le 0 a with c | c
 ·have:=opl_pos c h2
  omega
 ·by_cases d:a=0
  ·subst d
   decide
  ·have:=opl_pos (n:= -a) (by omega) (by omega)
   rw [opl_neg]at this
   omega
theorem Zi.mk{a b:Int}(h1: -9223372036854775807≤a)(h:a≤b)(h2:b≤9223372036854775807):mkI (opl a) (opl b)=Zi a b∧SpOk (Zi a b):=by
 have A:=opl_fin h1 (show a≤9223372036854775807 by omega)
 have B:=opl_fin (show -9223372036854775807≤b by omega) h2
 have C:=opl_le (by omega) h h2;exact⟨mkI_some C A.2 B.1,⟨by omega,C,by omega,A.2,B.1⟩⟩
theorem opl_add{a b:Int}(up:Bool)(h1: -1000000000000000000≤a)(h2:a≤1000000000000000000)(h3: -1000000000000000000≤b)(h4:b≤1000000000000000000):addp up (opl a) (opl b)=opl (a+b):=by
 obtain⟨a1,a2⟩:=opl_fin (a:=a) (by omega) (by omega);obtain⟨b1,b2⟩:=opl_fin (a:=b) (by omega) (by omega);obtain⟨c1,c2⟩:=opl_fin (a:=a+b) (by omega) (by omega);rw [addp_ff up (infp_fin a1 a2) (infp_fin b1 b2)];obtain⟨nf,v⟩:=sum_spec a1 a2 b1 b2;refine rnd_exact nf up c1 c2 ?_;rw [v,opl_vr (by omega) (by omega),opl_vr (by omega) (by omega),opl_vr (by omega) (by omega),Int.add_mul]
theorem Zi.add{a b c d:Int}(h1: -100000000000000000≤a)(h:a≤b)(h2:b≤100000000000000000)(k1: -100000000000000000≤c)(k:c≤d)(k2:d≤100000000000000000):addI (Zi a b) (Zi c d)=Zi (a+c) (b+d):=by
 show mkI _ _=_
 rw [opl_add false (by omega) (by omega) (by omega) (by omega),opl_add true (by omega) (by omega) (by omega) (by omega)];exact (Zi.mk (by omega) (by omega) (by omega)).1
theorem least4 (p q r s:Int):∃m,min (min p q) (min r s)=m∧m≤p∧m≤q∧m≤r∧m≤s∧∀t,t≤p→t≤q→t≤r→t≤s→t≤m:=⟨_,rfl,by omega,by omega,by omega,by omega,fun t _ _ _ _=>by omega⟩
theorem most4 (p q r s:Int):∃m,max (max p q) (max r s)=m∧p≤m∧q≤m∧r≤m∧s≤m∧∀t,p≤t→q≤t→r≤t→s≤t→m≤t:=⟨_,rfl,by omega,by omega,by omega,by omega,fun t _ _ _ _=>by omega⟩
end Go.Proofs.YtaadmpiphnfllaaGreatDoor
namespace Go.Proofs.YtaadmpiphnfllaaGreatDoor
open Go Go.RowKit
set_option linter.unusedVariables false
theorem radd{a b c d:Rat}(h:a≤b)(k:c≤d):a+c≤b+d:=by grind
theorem sqn (a:Rat):0≤a*a:=by
 by_cases h:0≤a
 ·exact Rat.mul_nonneg h h
 ·have h':0≤ -a:=by grind
  have:=Rat.mul_nonneg h' h'
  grind
def BR:Rat:=((2^KK:Int):Rat)
theorem br_pos:(0:Rat) < BR:=Rat.intCast_lt_intCast.2 (p2pos KK)
def LoR (v:Rat)(x:Sp):Prop:=match x with
 | none=>False
 | some (a,_)=>a= -19342822337206103650074625∨((vr a:Int):Rat)≤v*BR
def HiR (v:Rat)(x:Sp):Prop:=match x with
 | none=>False
 | some (_,b)=>b=19342822337206103650074625∨v*BR≤((vr b:Int):Rat)
def FinI (x:Sp):Prop:=match x with
 | none=>False
 | some (a,b)=>a≤b∧ -19342822337206103650074625 < a∧b < 19342822337206103650074625
theorem FinI.ok{x:Sp}(h:FinI x):SpOk x:=by
 rcases x with _ | ⟨a,b⟩
 ·exact trivial
 ·obtain⟨h1,h2,h3⟩:=h;exact⟨by omega,h1,by omega,by omega,by omega⟩
theorem LoR.mono{v w:Rat}{x:Sp}(h:LoR v x)(e:v≤w):LoR w x:=by
 rcases x with _ | ⟨a,b⟩
 ·exact h
 ·rcases h with h | h
  ·exact .inl h
  ·exact .inr (Rat.le_trans h (Rat.mul_le_mul_of_nonneg_right e (Rat.le_of_lt br_pos)))
theorem HiR.mono{v w:Rat}{x:Sp}(h:HiR v x)(e:w≤v):HiR w x:=by
 rcases x with _ | ⟨a,b⟩
 ·exact h
 ·rcases h with h | h
  ·exact .inl h
  ·exact .inr (Rat.le_trans (Rat.mul_le_mul_of_nonneg_right e (Rat.le_of_lt br_pos)) h)
theorem ends_le{a d:Int}{v:Rat}(ha: -19342822337206103650074625≤d)(hd:a≤19342822337206103650074625)(h:a= -19342822337206103650074625∨((vr a:Int):Rat)≤v*BR)(k:d=19342822337206103650074625∨v*BR≤((vr d:Int):Rat)):a≤d:=by
 rcases h with h | h
 ·omega
 ·rcases k with k | k
  ·omega
  ·rcases Int.lt_or_le d a with c | c
   ·exfalso
    have e:=vr_lt c;have f:=Rat.intCast_le_intCast.1 (Rat.le_trans h k)
    omega
   ·exact c
theorem meet_R{v:Rat}{x y:Sp}(hx:SpOk x)(hy:SpOk y)(h1:LoR v x)(h2:HiR v x)(k1:LoR v y)(k2:HiR v y):∃a b,meetI x y=some (a,b):=by
 rcases x with _ | ⟨a,b⟩
 ·exact h1.elim
 rcases y with _ | ⟨c,d⟩
 ·exact k1.elim
 obtain⟨A1,A2,A3,A4,A5⟩:=hx;obtain⟨B1,B2,B3,B4,B5⟩:=hy;have e1:=ends_le (by omega) (by omega) h1 k2;have e2:=ends_le (by omega) (by omega) k1 h2;exact⟨_,_,mkI_some (by omega) (by omega) (by omega)⟩
theorem has_R{p:Int}{x:Sp}(p1: -19342822337206103650074625 < p)(p2:p < 19342822337206103650074625){v:Rat}(e:v*BR=((vr p:Int):Rat))(hx:SpOk x)(h1:LoR v x)(h2:HiR v x):hasI x p=true:=by
 rcases x with _ | ⟨a,b⟩
 ·exact h1.elim
 obtain⟨A1,A2,A3,A4,A5⟩:=hx;have e1:=ends_le (d:=p) (by omega) (by omega) h1 (.inr (by rw [e];exact Rat.le_refl));have e2:=ends_le (a:=p) (by omega) (by omega) (.inr (by rw [e];exact Rat.le_refl)) h2;exact has_in p1 p2 e1 e2
theorem hull_lo{v:Rat}{x y:Sp}(hx:SpOk x)(hy:SpOk y)(fx:x≠none)(fy:y≠none)(h:LoR v x∨LoR v y):LoR v (hullI x y):=by
 rcases x with _ | ⟨a,b⟩
 ·exact absurd rfl fx
 rcases y with _ | ⟨c,d⟩
 ·exact absurd rfl fy
 obtain⟨A1,A2,A3,A4,A5⟩:=hx;obtain⟨B1,B2,B3,B4,B5⟩:=hy
 show LoR v (mkI (min a c) (max b d))
 rw [mkI_some (by omega) (by omega) (by omega)]
 have key:∀t:Int,(t= -19342822337206103650074625∨((vr t:Int):Rat)≤v*BR)→min a c≤t→(min a c= -19342822337206103650074625∨((vr (min a c):Int):Rat)≤v*BR):=fun t ht hm=>by
  rcases ht with ht | ht
  ·left;omega
  ·exact .inr (Rat.le_trans (Rat.intCast_le_intCast.2 (vr_le hm)) ht)
 rcases h with h | h
 ·exact key a h (by omega)
 ·exact key c h (by omega)
theorem hull_hi{v:Rat}{x y:Sp}(hx:SpOk x)(hy:SpOk y)(fx:x≠none)(fy:y≠none)(h:HiR v x∨HiR v y):HiR v (hullI x y):=by
 rcases x with _ | ⟨a,b⟩
 ·exact absurd rfl fx
 rcases y with _ | ⟨c,d⟩
 ·exact absurd rfl fy
 obtain⟨A1,A2,A3,A4,A5⟩:=hx;obtain⟨B1,B2,B3,B4,B5⟩:=hy
 show HiR v (mkI (min a c) (max b d))
 rw [mkI_some (by omega) (by omega) (by omega)]
 have key:∀t:Int,(t=19342822337206103650074625∨v*BR≤((vr t:Int):Rat))→t≤max b d→(max b d=19342822337206103650074625∨v*BR≤((vr (max b d):Int):Rat)):=fun t ht hm=>by
  rcases ht with ht | ht
  ·left;omega
  ·exact .inr (Rat.le_trans ht (Rat.intCast_le_intCast.2 (vr_le hm)))
 rcases h with h | h
 ·exact key b h (by omega)
 ·exact key d h (by omega)
theorem neg_R{v:Rat}{x:Sp}(hx:FinI x):(LoR v x→HiR (-v) (negI x))∧(HiR v x→LoR (-v) (negI x))∧FinI (negI x):=by
 rcases x with _ | ⟨a,b⟩
 ·exact hx.elim
 have ok:=hx.ok;obtain⟨h1,h2,h3⟩:=hx;rw [negI_some ok]
 refine⟨fun h=>?_,fun h=>?_,⟨by omega,by omega,by omega⟩⟩
 ·rcases h with h | h
  ·omega
  ·right
   rw [vr_neg,Rat.intCast_neg,Rat.neg_mul];exact Rat.neg_le_neg h
 ·rcases h with h | h
  ·omega
  ·right
   rw [vr_neg,Rat.intCast_neg,Rat.neg_mul];exact Rat.neg_le_neg h
theorem dn_R{V p:Int}(h:Dn V p):p= -19342822337206103650074625∨((vr p:Int):Rat)≤((V:Int):Rat):=by
 obtain⟨h1,h2,h3,h4⟩:=h
 by_cases c:p= -19342822337206103650074625
 ·exact .inl c
 ·exact .inr (Rat.intCast_le_intCast.2 (h3 (by omega)))
theorem up_R{V p:Int}(h:Up V p):p=19342822337206103650074625∨((V:Int):Rat)≤((vr p:Int):Rat):=by
 obtain⟨h1,h2,h3,h4⟩:=h
 by_cases c:p=19342822337206103650074625
 ·exact .inl c
 ·have:=h3 (by omega)
  rw [vr_neg]at this;exact .inr (Rat.intCast_le_intCast.2 (by omega))
theorem add_R{v w:Rat}{x y:Sp}(hx:FinI x)(hy:FinI y):(LoR v x→LoR w y→LoR (v+w) (addI x y))∧(HiR v x→HiR w y→HiR (v+w) (addI x y))∧SpOk (addI x y):=by
 rcases x with _ | ⟨a,b⟩
 ·exact hx.elim
 rcases y with _ | ⟨c,d⟩
 ·exact hy.elim
 obtain⟨h1,h2,h3⟩:=hx;obtain⟨k1,k2,k3⟩:=hy;have s1:=(addp_spec (x:=a) (y:=c) true (by omega) (by omega) (by omega) (by omega)).1;have s2:=addp_spec (x:=b) (y:=d) true (by omega) (by omega) (by omega) (by omega);have m1:=s1.mono s2.1 (Int.add_le_add (vr_le h1) (vr_le k1));have m2:=dn_le_up s2.1 s2.2;have b1:=s1.1;have b2:=s1.2.1;have b3:=s2.2.1;have b4:=s2.2.2.1
 have e:addI (some (a,b)) (some (c,d))=some (addp false a c,addp true b d):=mkI_some (by omega) (by omega) (by omega)
 rw [e]
 refine⟨fun h k=>?_,fun h k=>?_,⟨by omega,by omega,by omega,by omega,by omega⟩⟩
 ·rcases h with h | h
  ·omega
  rcases k with k | k
  ·omega
  rcases dn_R s1 with g | g
  ·exact .inl g
  ·right
   rw [Rat.intCast_add]at g;rw [Rat.add_mul];exact Rat.le_trans g (radd h k)
 ·rcases h with h | h
  ·omega
  rcases k with k | k
  ·omega
  rcases up_R s2.2 with g | g
  ·exact .inl g
  ·right
   rw [Rat.intCast_add]at g;rw [Rat.add_mul];exact Rat.le_trans (radd h k) g
theorem corner{A B C D x y:Rat}(h1:A≤x)(h2:x≤B)(k1:C≤y)(k2:y≤D):(A*C≤x*y∨A*D≤x*y∨B*C≤x*y∨B*D≤x*y)∧(x*y≤A*C∨x*y≤A*D∨x*y≤B*C∨x*y≤B*D):=by
 have nn:∀{p q s t:Rat},p≤q→s≤t→0≤(q-p)*(t-s):=fun a b=>Rat.mul_nonneg ((Rat.le_iff_sub_nonneg _ _).1 a) ((Rat.le_iff_sub_nonneg _ _).1 b)
 by_cases cy:0≤y
 ·have e1:=nn h1 cy;have e2:=nn h2 cy
  constructor
  ·by_cases cA:0≤A
   ·left
    have:=nn cA k1
    grind
   ·right;left
    have:=nn (Rat.le_of_lt (Rat.not_le.1 cA)) k2
    grind
  ·by_cases cB:0≤B
   ·right;right;right
    have:=nn cB k2
    grind
   ·right;right;left
    have:=nn (Rat.le_of_lt (Rat.not_le.1 cB)) k1
    grind
 ·have cy':=Rat.le_of_lt (Rat.not_le.1 cy)
  have e1:=nn h1 cy';have e2:=nn h2 cy'
  constructor
  ·by_cases cB:0≤B
   ·right;right;left
    have:=nn cB k1
    grind
   ·right;right;right
    have:=nn (Rat.le_of_lt (Rat.not_le.1 cB)) k2
    grind
  ·by_cases cA:0≤A
   ·right;left
    have:=nn cA k2
    grind
   ·left
    have:=nn (Rat.le_of_lt (Rat.not_le.1 cA)) k1
    grind
theorem pro_R{x y:Int}(x1: -19342822337206103650074625 < x)(x2:x < 19342822337206103650074625)(y1: -19342822337206103650074625 < y)(y2:y < 19342822337206103650074625):
  ((vl (ml (ep x) (ep y)):Int):Rat)*BR=((vr x:Int):Rat)*((vr y:Int):Rat):=by
 have h:=(pro_spec x1 x2 y1 y2).2
 unfold BR
 rw [←Rat.intCast_mul,←Rat.intCast_mul,h]
theorem under{p:Int}{P v:Rat}{V:Int}(h:p= -19342822337206103650074625∨((vr p:Int):Rat)≤((V:Int):Rat))(e:((V:Int):Rat)*BR=P)(k:P≤v*BR*BR):p= -19342822337206103650074625∨((vr p:Int):Rat)≤v*BR:=by
 rcases h with h | h
 ·exact .inl h
 ·right
  refine Rat.le_trans h (Rat.le_of_mul_le_mul_right (c:=BR) ?_ br_pos);rw [e];exact k
theorem above{p:Int}{P v:Rat}{V:Int}(h:p=19342822337206103650074625∨((V:Int):Rat)≤((vr p:Int):Rat))(e:((V:Int):Rat)*BR=P)(k:v*BR*BR≤P):p=19342822337206103650074625∨v*BR≤((vr p:Int):Rat):=by
 rcases h with h | h
 ·exact .inl h
 ·right
  refine Rat.le_trans (Rat.le_of_mul_le_mul_right (c:=BR) ?_ br_pos) h;rw [e];exact k
theorem lo_less{m p:Int}{v:Rat}(h:p= -19342822337206103650074625∨((vr p:Int):Rat)≤v*BR)(hm:m≤p)(hb: -19342822337206103650074625≤m):m= -19342822337206103650074625∨((vr m:Int):Rat)≤v*BR:=by
 rcases h with h | h
 ·left;omega
 ·exact .inr (Rat.le_trans (Rat.intCast_le_intCast.2 (vr_le hm)) h)
theorem hi_more{m p:Int}{v:Rat}(h:p=19342822337206103650074625∨v*BR≤((vr p:Int):Rat))(hm:p≤m)(hb:m≤19342822337206103650074625):m=19342822337206103650074625∨v*BR≤((vr m:Int):Rat):=by
 rcases h with h | h
 ·left;omega
 ·exact .inr (Rat.le_trans h (Rat.intCast_le_intCast.2 (vr_le hm)))
theorem mul_R{v w:Rat}{x y:Sp}(hx:FinI x)(hy:FinI y)(v1:LoR v x)(v2:HiR v x)(w1:LoR w y)(w2:HiR w y):LoR (v*w) (mulI x y)∧HiR (v*w) (mulI x y)∧SpOk (mulI x y):=by
 rcases x with _ | ⟨a,b⟩
 ·exact hx.elim
 rcases y with _ | ⟨c,d⟩
 ·exact hy.elim
 obtain⟨h1,h2,h3⟩:=hx;obtain⟨k1,k2,k3⟩:=hy;replace v1:=v1.resolve_left (by omega);replace v2:=v2.resolve_left (by omega);replace w1:=w1.resolve_left (by omega);replace w2:=w2.resolve_left (by omega);obtain⟨cl,ch⟩:=corner v1 v2 w1 w2
 have e:v*BR*(w*BR)=v*w*BR*BR:=by grind
 rw [e]at cl ch;have s1:=mulp_spec (x:=a) (y:=c) (by omega) (by omega) (by omega) (by omega);have s2:=mulp_spec (x:=a) (y:=d) (by omega) (by omega) (by omega) (by omega);have s3:=mulp_spec (x:=b) (y:=c) (by omega) (by omega) (by omega) (by omega);have s4:=mulp_spec (x:=b) (y:=d) (by omega) (by omega) (by omega) (by omega);have p1:=pro_R (x:=a) (y:=c) (by omega) (by omega) (by omega) (by omega)
 have p2:=pro_R (x:=a) (y:=d) (by omega) (by omega) (by omega) (by omega);have p3:=pro_R (x:=b) (y:=c) (by omega) (by omega) (by omega) (by omega);have p4:=pro_R (x:=b) (y:=d) (by omega) (by omega) (by omega) (by omega);obtain⟨m,hm,m1,m2,m3,m4,_⟩:=least4 (mulp false a c) (mulp false a d) (mulp false b c) (mulp false b d);obtain⟨M,hM,M1,M2,M3,M4,_⟩:=most4 (mulp true a c) (mulp true a d) (mulp true b c) (mulp true b d)
 have le:=dn_le_up s1.1 s1.2;have t1:=s1.1.2.1;have t2:=s1.2.2.1;have B1:=(mulp_bd (x:=a) (y:=c) false).1;have B2:=(mulp_bd (x:=a) (y:=d) false).1;have B3:=(mulp_bd (x:=b) (y:=c) false).1;have B4:=(mulp_bd (x:=b) (y:=d) false).1;have C1:=(mulp_bd (x:=a) (y:=c) true).2;have C2:=(mulp_bd (x:=a) (y:=d) true).2;have C3:=(mulp_bd (x:=b) (y:=c) true).2
 have C4:=(mulp_bd (x:=b) (y:=d) true).2
 have b1: -19342822337206103650074625≤m:=by omega
 have b2:M≤19342822337206103650074625:=by omega
 have eq:mulI (some (a,b)) (some (c,d))=some (m,M):=by
  show cor mulp a b c d=_
  unfold cor
  rw [hm,hM];exact mkI_some (by omega) (by omega) (by omega)
 rw [eq];refine⟨?_,?_,⟨b1,by omega,b2,by omega,by omega⟩⟩
 ·rcases cl with g | g | g | g
  ·exact lo_less (under (dn_R s1.1) p1 g) m1 b1
  ·exact lo_less (under (dn_R s2.1) p2 g) m2 b1
  ·exact lo_less (under (dn_R s3.1) p3 g) m3 b1
  ·exact lo_less (under (dn_R s4.1) p4 g) m4 b1
 ·rcases ch with g | g | g | g
  ·exact hi_more (above (up_R s1.2) p1 g) M1 b2
  ·exact hi_more (above (up_R s2.2) p2 g) M2 b2
  ·exact hi_more (above (up_R s3.2) p3 g) M3 b2
  ·exact hi_more (above (up_R s4.2) p4 g) M4 b2
theorem sq_R{p q:Rat}(h1: -q≤p)(h2:p≤q):p*p≤q*q:=by
 have:=Rat.mul_nonneg ((Rat.le_iff_sub_nonneg _ _).1 h1) ((Rat.le_iff_sub_nonneg _ _).1 h2)
 grind
theorem sqr_R{v:Rat}{x:Sp}(hx:FinI x)(v1:LoR v x)(v2:HiR v x):LoR (v*v) (sqrI x)∧HiR (v*v) (sqrI x)∧SpOk (sqrI x):=by
 rcases x with _ | ⟨a,b⟩
 ·exact hx.elim
 have ok:=hx.ok;obtain⟨h1,h2,h3⟩:=hx;replace v1:=v1.resolve_left (by omega);replace v2:=v2.resolve_left (by omega);rw [sqr_eq ok];obtain⟨m,hm⟩:∃m,m=max 0 (max a (-b)):=⟨_,rfl⟩;obtain⟨M,hM⟩:∃M,M=max b (-a):=⟨_,rfl⟩;rw [←hm,←hM]
 have mM:m≤M:=by omega
 have s1:=mulp_spec (x:=m) (y:=m) (by omega) (by omega) (by omega) (by omega);have s2:=mulp_spec (x:=M) (y:=M) (by omega) (by omega) (by omega) (by omega);have p1:=pro_R (x:=m) (y:=m) (by omega) (by omega) (by omega) (by omega);have p2:=pro_R (x:=M) (y:=M) (by omega) (by omega) (by omega) (by omega);have le:=dn_le_up s1.1 s1.2;have t1:=s1.1.2.1;have t2:=s2.2.2.1
 have B1:=(mulp_bd (x:=m) (y:=m) false).1;have C2:=(mulp_bd (x:=M) (y:=M) true).2
 have e:v*v*BR*BR=v*BR*(v*BR):=by grind
 have z0:((vr 0:Int):Rat)=0:=rfl
 have vm:((vr m:Int):Rat)*((vr m:Int):Rat)≤v*v*BR*BR:=by
  rw [e]
  rcases (by omega:m=0∨(m=a∧0≤a)∨(m= -b∧b≤0))with c | ⟨c,d⟩ | ⟨c,d⟩
  ·rw [c,z0]
   have:=sqn (v*BR)
   grind
  ·rw [c];have n0:=Rat.intCast_le_intCast.2 (vr_le d);rw [z0]at n0;exact sq_R (by grind) v1
  ·rw [c,vr_neg,Rat.intCast_neg];have n0:=Rat.intCast_le_intCast.2 (vr_le d);rw [z0]at n0
   have:=sq_R (p:= -((vr b:Int):Rat)) (q:= -(v*BR)) (by grind) (by grind)
   grind
 have vM:v*v*BR*BR≤((vr M:Int):Rat)*((vr M:Int):Rat):=by
  rw [e]
  have g1:=Rat.intCast_le_intCast.2 (vr_le (show b≤M by omega))
  have g2:=Rat.intCast_le_intCast.2 (vr_le (show -a≤M by omega))
  rw [vr_neg,Rat.intCast_neg]at g2;exact sq_R (by grind) (by grind)
 have m0:vr 0≤vr m:=vr_le (by omega)
 have l2:mulp false m m≤mulp true M M:=by
  refine Int.le_trans le ?_;refine Up.mono s1.2 s2.2 ?_
  have g:((vl (ml (ep m) (ep m)):Int):Rat)*BR≤((vl (ml (ep M) (ep M)):Int):Rat)*BR:=by
   rw [p1,p2];exact Rat.le_trans vm vM
  exact Rat.intCast_le_intCast.1 (Rat.le_of_mul_le_mul_right g br_pos)
 rw [mkI_some l2 (by omega) (by omega)];exact⟨under (dn_R s1.1) p1 vm,above (up_R s2.2) p2 vM,⟨B1,l2,C2,by omega,by omega⟩⟩
abbrev SC:Int:=6277101735386680763835789423207666416102355444464034512896
def invG (n:Int):Nat→Nat→Int→Int→Int × Nat
 | 0,k,s,_=>(s,k)
 | f+1,k,s,p=>if SC/ (p*(2*(k:Int)+1))=0 then (s,k)else invG n f (k+1) (if k%2=1 then s+ -(SC/ (p*(2*(k:Int)+1)))else s+SC/ (p*(2*(k:Int)+1))) (p*(n*n))
def invN (n:Nat):Nat→Nat→Nat→Nat→Nat→Nat × Nat × Nat
 | 0,k,a,b,_=>(a,b,k)
 | f+1,k,a,b,p=>if 6277101735386680763835789423207666416102355444464034512896/ (p*(2*k+1))=0 then (a,b,k)else
   if k%2=1 then invN n f (k+1) a (b+6277101735386680763835789423207666416102355444464034512896/ (p*(2*k+1))) (p*(n*n))else invN n f (k+1) (a+6277101735386680763835789423207666416102355444464034512896/ (p*(2*k+1))) b (p*(n*n))
theorem div_cast (c p k:Nat):(c:Int) / ((p:Int)*(2*(k:Int)+1))=((c/ (p*(2*k+1)):Nat):Int):=by push_cast;rfl
theorem invG_N (n:Nat):∀(f k a b p:Nat),invG (n:Int) f k ((a:Int)-b) p=(((invN n f k a b p).1:Int)-(invN n f k a b p).2.1,(invN n f k a b p).2.2)
 | 0,k,a,b,p=>rfl
 | f+1,k,a,b,p=>by
  have e1:(SC/ ((p:Int)*(2*(k:Int)+1)))=((6277101735386680763835789423207666416102355444464034512896/ (p*(2*k+1)):Nat):Int):=div_cast 6277101735386680763835789423207666416102355444464034512896 p k
  have e2:(p:Int)*((n:Int)*n)=((p*(n*n):Nat):Int):=by push_cast;rfl
  unfold invG invN
  rw [e1,e2];generalize 6277101735386680763835789423207666416102355444464034512896/ (p*(2*k+1))=t
  by_cases h:t=0
  ·rw [if_pos h,if_pos (by omega)]
  ·rw [if_neg h,if_neg (by omega)]
   by_cases c:k%2=1
   ·rw [if_pos c,if_pos c,show (a:Int)-b+ -(t:Int)=(a:Int)-((b+t:Nat):Int) by push_cast;omega]
    exact invG_N n f _ _ _ _
   ·rw [if_neg c,if_neg c,show (a:Int)-b+(t:Int)=((a+t:Nat):Int)-(b:Int) by push_cast;omega]
    exact invG_N n f _ _ _ _
def invP (n:Int):Int × Int:=if n < 2∨1000 < n then (0,0)else ((invG n 200 0 0 n).1+(-((invG n 200 0 0 n).2:Int)-1),(invG n 200 0 0 n).1+(((invG n 200 0 0 n).2:Int)+1))
def invQ (n:Nat):Int × Int:=(((invN n 200 0 0 0 n).1:Int)-(invN n 200 0 0 0 n).2.1+(-((invN n 200 0 0 0 n).2.2:Int)-1),((invN n 200 0 0 0 n).1:Int)-(invN n 200 0 0 0 n).2.1+(((invN n 200 0 0 0 n).2.2:Int)+1))
theorem invP_Q{n:Nat}(h1:2≤n)(h2:n≤1000):invP (n:Int)=invQ n:=by
 have e:=invG_N n 200 0 0 0 n
 rw [show (((0:Nat):Int)-((0:Nat):Int))=0 from rfl]at e
 unfold invP invQ
 rw [if_neg (by omega),e]
theorem inv5:invQ 5=(1239072011291311913768300331356796477639936999957358576040,1239072011291311913768300331356796477639936999957358576122):=by kernel_rfl
theorem inv239:invQ 239=(26263870733613014474167984370118687693885283531911871163,26263870733613014474167984370118687693885283531911871189):=by kernel_rfl
abbrev PLo:Int:=19720096697726538562396133364228268891463450865190089731884
abbrev PHi:Int:=19720096697726538562396133364228268891463450865190089733300
theorem bounds_are:(invP 5).1*16-(invP 239).2*4=PLo∧(invP 5).2*16-(invP 239).1*4=PHi:=by
 have a:=invP_Q (n:=5) (by decide) (by decide);have b:=invP_Q (n:=239) (by decide) (by decide)
 rw [show (5:Int)=((5:Nat):Int)from rfl,show (239:Int)=((239:Nat):Int)from rfl,a,b,inv5,inv239]
 decide
def pev:List Int→Rat→Rat
 | [],_=>0
 | a::p,x=>(a:Rat)+x*pev p x
def padd:List Int→List Int→List Int
 | [],q=>q
 | a::p,[]=>a::p
 | a::p,b::q=>(a+b)::padd p q
def psc (c:Int):List Int→List Int
 | []=>[]
 | a::p=>(c*a)::psc c p
def pmul:List Int→List Int→List Int
 | [],_=>[]
 | a::p,q=>padd (psc a q) (0::pmul p q)
theorem pev_add:∀(p q:List Int) (x:Rat),pev (padd p q) x=pev p x+pev q x
 | [],q,x=>by simp only [padd,pev];grind
 | a::p,[],x=>by simp only [padd,pev];grind
 | a::p,b::q,x=>by
  simp only [padd,pev];rw [pev_add p q x,Rat.intCast_add]
  grind
theorem pev_sc (c:Int):∀(p:List Int) (x:Rat),pev (psc c p) x=(c:Rat)*pev p x
 | [],x=>by simp only [psc,pev];grind
 | a::p,x=>by
  simp only [psc,pev];rw [pev_sc c p x,Rat.intCast_mul]
  grind
theorem pev_mul:∀(p q:List Int) (x:Rat),pev (pmul p q) x=pev p x*pev q x
 | [],q,x=>by simp only [pmul,pev];grind
 | a::p,q,x=>by
  simp only [pmul,pev];rw [pev_add,pev_sc];simp only [pev];rw [pev_mul p q x]
  grind
def ptr (H K:Int):List Int→List Int
 | []=>[]
 | a::p=>padd [a*K^(p.length+1)] (padd (0::psc K (ptr H K p)) (psc H (ptr H K p)))
theorem pev_tr (H K:Int)(hK:(K:Rat)≠0):∀(p:List Int) (x:Rat),pev (ptr H K p) x=pev p (x+(H:Rat) /K)*(K:Rat)^p.length
 | [],x=>by simp only [ptr,pev];grind
 | a::p,x=>by
  simp only [ptr];rw [pev_add,pev_add,pev_sc];simp only [pev];rw [pev_sc,pev_tr H K hK p x,List.length_cons,Rat.pow_succ,Rat.intCast_mul,Rat.intCast_pow,Rat.pow_succ]
  have e:(H:Rat) /K*K=H:=Rat.div_mul_cancel hK
  generalize (H:Rat) /K=h at *;rw [←e]
  grind
def pabs (B:Nat):List Int→Nat
 | []=>0
 | a::p=>a.natAbs+B*pabs B p
theorem mul_bd{b a x e:Rat}(h1: -b≤x)(h2:x≤b)(h3: -a≤e)(h4:e≤a): -(b*a)≤x*e∧x*e≤b*a:=by
 have k1:=Rat.mul_nonneg (a:=b-x) (b:=a+e) (by grind) (by grind);have k2:=Rat.mul_nonneg (a:=b+x) (b:=a-e) (by grind) (by grind);have k3:=Rat.mul_nonneg (a:=b-x) (b:=a-e) (by grind) (by grind);have k4:=Rat.mul_nonneg (a:=b+x) (b:=a+e) (by grind) (by grind)
 constructor <;> grind
theorem int_bd (a:Int): -((a.natAbs:Nat):Rat)≤(a:Rat)∧(a:Rat)≤((a.natAbs:Nat):Rat):=by
 have h1: -(a.natAbs:Int)≤a:=by omega
 have h2:a≤(a.natAbs:Int):=by omega
 have k1:=Rat.intCast_le_intCast.2 h1;have k2:=Rat.intCast_le_intCast.2 h2;rw [Rat.intCast_neg]at k1;exact⟨k1,k2⟩
theorem pev_bd{B:Nat}{x:Rat}(h1: -(B:Rat)≤x)(h2:x≤(B:Rat)):∀p:List Int,-((pabs B p:Nat):Rat)≤pev p x∧pev p x≤((pabs B p:Nat):Rat)
 | []=>by simp only [pabs,pev];constructor <;> grind
 | a::p=>by
  obtain⟨i1,i2⟩:=pev_bd h1 h2 p;obtain⟨m1,m2⟩:=mul_bd h1 h2 i1 i2;obtain⟨a1,a2⟩:=int_bd a;simp only [pabs,pev];rw [Rat.natCast_add,Rat.natCast_mul]
  constructor <;> grind
def sl:Nat→Int→List Int→List Int
 | 0,c,l=>0::c::l
 | k+1,c,l=>sl k (-c*((2*(k:Int)+3)*(2*k+2))) (0::c::l)
def TL:List Int:=sl 40 1 []
abbrev QH:Int:=181885788445883162140117471388864931326696688664196214979386075558969447233092
abbrev QK:Int:=2^256
def pdil (c:Int):List Int→List Int
 | []=>[]
 | a::p=>a::psc c (pdil c p)
theorem pev_dil (c:Int):∀(p:List Int) (x:Rat),pev (pdil c p) x=pev p ((c:Rat)*x)
 | [],x=>by simp only [pdil,pev]
 | a::p,x=>by
  simp only [pdil,pev];rw [pev_sc,pev_dil c p x]
  grind
def pder:List Int→List Int
 | []=>[]
 | _::p=>padd p (0::pder p)
def pab2 (B:Nat):List Int→Nat
 | []=>0
 | _::p=>B*pab2 B p+pabs B (pder p)
def prem (p:List Int)(x d:Rat):Rat:=pev p (x+d)-pev p x-d*pev (pder p) x
theorem prem_cons (a:Int)(p:List Int)(x d:Rat):prem (a::p) x d=(x+d)*prem p x d+d*d*pev (pder p) x:=by
 unfold prem
 simp only [pder,pev];rw [pev_add];simp only [pev];rw [Rat.intCast_zero]
 grind
theorem sq_nn (d:Rat):0≤d*d:=by
 rcases (Rat.le_total:(0:Rat)≤d∨d≤0)with h | h
 ·exact Rat.mul_nonneg h h
 ·have:=Rat.mul_nonneg (a:= -d) (b:= -d) (by grind) (by grind)
  grind
theorem prem_bd{B:Nat}{x d:Rat}(h1: -(B:Rat)≤x)(h2:x≤(B:Rat))(h3: -(B:Rat)≤x+d)(h4:x+d≤(B:Rat)):∀p:List Int,-(d*d*((pab2 B p:Nat):Rat))≤prem p x d∧prem p x d≤d*d*((pab2 B p:Nat):Rat)
 | []=>by
  unfold prem
  simp only [pab2,pev,pder]
  have e:((0:Nat):Rat)=0:=rfl
  rw [e]
  constructor <;> grind
 | a::p=>by
  obtain⟨i1,i2⟩:=prem_bd h1 h2 h3 h4 p;obtain⟨m1,m2⟩:=mul_bd h3 h4 i1 i2;obtain⟨b1,b2⟩:=pev_bd h1 h2 (pder p);have s:=sq_nn d;have k1:=Rat.mul_nonneg s (b:=((pabs B (pder p):Nat):Rat)-pev (pder p) x) (by grind);have k2:=Rat.mul_nonneg s (b:=((pabs B (pder p):Nat):Rat)+pev (pder p) x) (by grind);rw [prem_cons];simp only [pab2];rw [Rat.natCast_add,Rat.natCast_mul]
  generalize ((pabs B (pder p):Nat):Rat)=u at *;generalize pev (pder p) x=v at *;generalize prem p x d=r at *;generalize ((pab2 B p:Nat):Rat)=t at *;generalize (B:Rat)=b at *
  constructor <;> grind
abbrev DD:Int:=5797126020747367985879734231578109105412357244731625958745865049716390179693892056256184534249745940480000000000000000000
def TH:List Int:=ptr QH QK TL
def E3:List Int:=padd (padd (psc (QK^164) (pmul TL TL)) (pmul TH TH)) [-(DD*DD*QK^164)]
def E4:List Int:=padd (psc (DD*QK^82) (pdil 2 TL)) (psc (-2) (pmul TL TH))
def E5:List Int:=padd (padd (pmul TL TL) (pmul (pder TL) (pder TL))) [-(DD*DD)]
theorem tl_len:TL.length=82:=by decide +kernel
theorem e3_small:pabs 2 E3*2^240≤(DD*DD*QK^164).natAbs:=Nat.le_of_ble_eq_true (by decide +kernel)
theorem e4_small:pabs 2 E4*2^200≤(DD*DD*QK^82).natAbs:=Nat.le_of_ble_eq_true (by decide +kernel)
theorem e5_small:pabs 2 E5*2^200≤(DD*DD).natAbs:=Nat.le_of_ble_eq_true (by decide +kernel)
theorem tl_two:pab2 2 TL≤100*DD.natAbs:=Nat.le_of_ble_eq_true (by decide +kernel)
def sinT (x:Rat):Rat:=pev TL x/ (DD:Int)
def cosT (x:Rat):Rat:=pev (pder TL) x/ (DD:Int)
def qt:Rat:=(QH:Rat) / (QK:Int)
theorem dd_pos:(0:Rat) < ((DD:Int):Rat):=by
 have h:(0:Int) < DD:=by decide
 exact Rat.intCast_lt_intCast.2 h
theorem qk_pos:(0:Rat) < ((QK:Int):Rat):=by
 have h:(0:Int) < QK:=by decide
 exact Rat.intCast_lt_intCast.2 h
theorem small_of{u v:Rat}{n:Nat}{m:Int}{k:Nat}(hm:0 < m)(h:n*2^k≤m.natAbs)(h1: -((n:Nat):Rat)≤u)(h2:u≤((n:Nat):Rat))(e:v*(m:Rat)=u): -1≤v*2^k∧v*2^k≤1:=by
 have hm':(0:Rat) < (m:Rat):=Rat.intCast_lt_intCast.2 hm
 have e2:((m.natAbs:Int))=m:=by omega
 have c:((n:Nat):Rat)*2^k≤(m:Rat):=by
  have h3:=Rat.natCast_le_natCast.2 h;rw [Rat.natCast_mul,Rat.natCast_pow]at h3
  have e3:((m.natAbs:Nat):Rat)=(m:Rat):=by
   rw [←e2]
   rfl
  rw [e3]at h3;exact h3
 have p2:(0:Rat) < 2^k:=Rat.pow_pos (by decide)
 have k1:=Rat.mul_nonneg (a:=(n:Rat)-u) (b:=2^k) (by grind) (Rat.le_of_lt p2);have k2:=Rat.mul_nonneg (a:=(n:Rat)+u) (b:=2^k) (by grind) (Rat.le_of_lt p2)
 have g1:v*2^k*(m:Rat)≤1*(m:Rat):=by grind
 have g2: -1*(m:Rat)≤v*2^k*(m:Rat):=by grind
 exact⟨Rat.le_of_mul_le_mul_right g2 hm',Rat.le_of_mul_le_mul_right g1 hm'⟩
theorem rpow_add (k:Rat)(n:Nat):∀m:Nat,k^(n+m)=k^n*k^m
 | 0=>by rw [Nat.add_zero,Rat.pow_zero];grind
 | m+1=>by
  rw [show n+(m+1)=(n+m)+1 from rfl,Rat.pow_succ,Rat.pow_succ,rpow_add k n m]
  grind
theorem sin_dd (x:Rat):sinT x*((DD:Int):Rat)=pev TL x:=Rat.div_mul_cancel (Rat.ne_of_gt dd_pos)
theorem cos_dd (x:Rat):cosT x*((DD:Int):Rat)=pev (pder TL) x:=Rat.div_mul_cancel (Rat.ne_of_gt dd_pos)
theorem th_at (x:Rat):pev TH x=sinT (x+qt)*((DD:Int):Rat)*((QK:Int):Rat)^82:=by
 unfold TH
 rw [pev_tr QH QK (Rat.ne_of_gt qk_pos),tl_len,sin_dd]
 rfl
theorem circle{x:Rat}(h1: -2≤x)(h2:x≤2): -1≤(sinT x*sinT x+sinT (x+qt)*sinT (x+qt)-1)*2^240∧(sinT x*sinT x+sinT (x+qt)*sinT (x+qt)-1)*2^240≤1:=by
 obtain⟨b1,b2⟩:=pev_bd (B:=2) (x:=x) h1 h2 E3;refine small_of (m:=DD*DD*QK^164) (by decide +kernel) e3_small b1 b2 ?_
 have e:pev E3 x=((QK^164:Int):Rat)*(pev TL x*pev TL x)+pev TH x*pev TH x+((-(DD*DD*QK^164):Int):Rat):=by
  unfold E3
  rw [pev_add,pev_add,pev_sc,pev_mul,pev_mul];simp only [pev]
  grind
 rw [e,th_at,←sin_dd,Rat.intCast_neg,Rat.intCast_mul,Rat.intCast_mul,Rat.intCast_pow,show (164:Nat)=82+82 from rfl,rpow_add]
 generalize ((QK:Int):Rat)^82=k;generalize ((DD:Int):Rat)=d;generalize sinT x=s;generalize sinT (x+qt)=c
 grind
theorem double{x:Rat}(h1: -2≤x)(h2:x≤2): -1≤(sinT (2*x)-2*(sinT x*sinT (x+qt)))*2^200∧(sinT (2*x)-2*(sinT x*sinT (x+qt)))*2^200≤1:=by
 obtain⟨b1,b2⟩:=pev_bd (B:=2) (x:=x) h1 h2 E4;refine small_of (m:=DD*DD*QK^82) (by decide +kernel) e4_small b1 b2 ?_
 have e:pev E4 x=((DD*QK^82:Int):Rat)*pev TL (2*x)+ -2*(pev TL x*pev TH x):=by
  unfold E4
  rw [pev_add,pev_sc,pev_sc,pev_mul,pev_dil]
  rfl
 rw [e,th_at,←sin_dd,←sin_dd,Rat.intCast_mul,Rat.intCast_mul,Rat.intCast_mul,Rat.intCast_pow];generalize ((QK:Int):Rat)^82=k;generalize ((DD:Int):Rat)=d;generalize sinT x=s;generalize sinT (x+qt)=c;generalize sinT (2*x)=t
 grind
theorem circleD{x:Rat}(h1: -2≤x)(h2:x≤2): -1≤(sinT x*sinT x+cosT x*cosT x-1)*2^200∧(sinT x*sinT x+cosT x*cosT x-1)*2^200≤1:=by
 obtain⟨b1,b2⟩:=pev_bd (B:=2) (x:=x) h1 h2 E5;refine small_of (m:=DD*DD) (by decide +kernel) e5_small b1 b2 ?_
 have e:pev E5 x=pev TL x*pev TL x+pev (pder TL) x*pev (pder TL) x+((-(DD*DD):Int):Rat):=by
  unfold E5
  rw [pev_add,pev_add,pev_mul,pev_mul];simp only [pev]
  grind
 rw [e,←sin_dd,←cos_dd,Rat.intCast_neg,Rat.intCast_mul];generalize ((DD:Int):Rat)=d;generalize sinT x=s;generalize cosT x=c
 grind
theorem sl_odd (x:Rat):∀(k:Nat) (c:Int) (l:List Int),pev l (-x)= -pev l x→pev (sl k c l) (-x)= -pev (sl k c l) x
 | 0,c,l,h=>by
  simp only [sl,pev];rw [h,Rat.intCast_zero]
  grind
 | k+1,c,l,h=>by
  simp only [sl];refine sl_odd x k _ _ ?_;simp only [pev];rw [h,Rat.intCast_zero]
  grind
theorem sin_neg (x:Rat):sinT (-x)= -sinT x:=by
 have h:=sl_odd x 40 1 [] (by simp only [pev];grind);have a:=sin_dd x;have b:=sin_dd (-x)
 have c:pev TL (-x)= -pev TL x:=h
 have d:=dd_pos
 unfold sinT
 rw [c,Rat.div_def,Rat.div_def]
 grind
def tt (c y:Rat):Nat→Rat
 | 0=>c*y
 | k+1=> -(tt c y k*(y*y)) / (((2*((k:Int)+1))*(2*((k:Int)+1)+1):Int):Rat)
def ss (c y:Rat):Nat→Rat
 | 0=>c*y
 | k+1=>ss c y k+tt c y (k+1)
def low:Nat→Int→Int
 | 0,c=>c
 | k+1,c=>low k (-c*((2*(k:Int)+3)*(2*k+2)))
theorem nk_pos (k:Nat):(0:Int) < (2*((k:Int)+1))*(2*((k:Int)+1)+1):=Int.mul_pos (by omega) (by omega)
theorem sl_ss (y:Rat):∀(k:Nat) (c:Int) (l:List Int),tt (low k c) y k=(c:Rat)*(y*(y*y)^k)∧pev (sl k c l) y=ss (low k c) y k+(y*y)^(k+1)*pev l y
 | 0,c,l=>by
  simp only [tt,ss,low,sl,pev];rw [Rat.intCast_zero,Rat.pow_succ,Rat.pow_zero]
  constructor <;> grind
 | k+1,c,l=>by
  obtain⟨a,b⟩:=sl_ss y k (-c*((2*(k:Int)+3)*(2*k+2))) (0::c::l)
  have hn:((((2*((k:Int)+1))*(2*((k:Int)+1)+1):Int)):Rat)≠0:=Rat.ne_of_gt (Rat.intCast_lt_intCast.2 (nk_pos k))
  have hi:(-c*((2*(k:Int)+3)*(2*k+2)))= -c*((2*((k:Int)+1))*(2*((k:Int)+1)+1)):=by
   rw [show 2*((k:Int)+1)+1=2*(k:Int)+3 by omega,show 2*((k:Int)+1)=2*(k:Int)+2 by omega,Int.mul_comm (2*(k:Int)+2)]
  have t1:tt (low (k+1) c) y (k+1)=(c:Rat)*(y*(y*y)^(k+1)):=by
   simp only [tt,low];rw [a,hi,Rat.intCast_mul,Rat.intCast_neg,Rat.pow_succ,Rat.div_def];generalize ((((2*((k:Int)+1))*(2*((k:Int)+1)+1):Int)):Rat)=n at *;have e:=Rat.mul_inv_cancel n hn;generalize n⁻¹=i at *;generalize (y*y)^k=p
   have: -(-(c:Rat)*n*(y*p)*(y*y))*i=(c:Rat)*(y*(p*(y*y)))*(n*i):=by grind
   rw [this,e]
   grind
  refine⟨t1,?_⟩
  have t2:ss (low (k+1) c) y (k+1)=ss (low (k+1) c) y k+tt (low (k+1) c) y (k+1):=rfl
  rw [t2,t1]
  show pev (sl k (-c*((2*(k:Int)+3)*(2*k+2))) (0::c::l)) y=ss (low k (-c*((2*(k:Int)+3)*(2*k+2)))) y k+_+_
  rw [b];simp only [pev]
  rw [Rat.intCast_zero,show k+1+1=(k+1)+1 from rfl,Rat.pow_succ (y*y) (k+1)]
  generalize (y*y)^(k+1)=p
  grind
theorem tt_lin (c y:Rat):∀k,tt c y k=c*tt 1 y k
 | 0=>by simp only [tt];grind
 | k+1=>by
  simp only [tt];rw [tt_lin c y k,Rat.div_def,Rat.div_def]
  grind
theorem ss_lin (c y:Rat):∀k,ss c y k=c*ss 1 y k
 | 0=>by simp only [ss];grind
 | k+1=>by
  simp only [ss];rw [ss_lin c y k,tt_lin c y (k+1)]
  grind
theorem low_dd:low 40 1=DD:=by decide +kernel
theorem sin_ss (y:Rat):sinT y=ss 1 y 40:=by
 have h:=(sl_ss y 40 1 []).2
 have e:pev TL y=ss ((DD:Int):Rat) y 40:=by
  show pev (sl 40 1 []) y=_
  rw [h,low_dd];simp only [pev]
  grind
 unfold sinT
 rw [e,ss_lin,Rat.mul_comm];exact Rat.mul_div_cancel (Rat.ne_of_gt dd_pos)
theorem ser_step{t x y v u w n x':Rat}(hn:6≤n)(y1: -(8/5)≤y)(y2:y≤8/5)(e1: -(5/2)≤t-x)(e2:t-x≤5/2)(v1:v≤t*y)(v2:t*y < v+1)(u1:u≤v*y)(u2:v*y < u+1)
  (w1:w*n≤u) (w2:u < w*n+n) (hx:x'*n= -(x*(y*y))): -(5/2)≤ -w-x'∧ -w-x'≤5/2:=by
 have s0:=sq_nn y;obtain⟨_,s1⟩:=mul_bd y1 y2 y1 y2;obtain⟨m1,m2⟩:=mul_bd (b:=5/2) (a:=8/5*(8/5)) (x:=t-x) (e:=y*y) e1 e2 (by grind) s1;obtain⟨f1,f2⟩:=mul_bd (b:=1) (a:=8/5) (x:=t*y-v) (e:=y) (by grind) (by grind) y1 y2
 have n0:(0:Rat) < n:=by grind
 have g1:(-w-x')*n≤5/2*n:=by grind
 have g2: -(5/2)*n≤(-w-x')*n:=by grind
 exact⟨Rat.le_of_mul_le_mul_right g2 n0,Rat.le_of_mul_le_mul_right g1 n0⟩
def ti (m:Int):Nat→Int
 | 0=>m
 | k+1=> -((ti m k*m/SC*m/SC) / ((2*((k:Int)+1))*(2*((k:Int)+1)+1)))
def si (m:Int):Nat→Int
 | 0=>m
 | k+1=>si m k+ti m (k+1)
abbrev SR:Rat:=((SC:Int):Rat)
theorem sr_pos:(0:Rat) < SR:=by
 have h:(0:Int) < SC:=by decide
 exact Rat.intCast_lt_intCast.2 h
theorem fl_bd (a b:Int)(hb:0 < b):(((a/b:Int)):Rat)*(b:Rat)≤(a:Rat)∧(a:Rat) < (((a/b:Int)):Rat)*(b:Rat)+(b:Rat):=by
 have h1:=Rat.intCast_le_intCast.2 (Int.ediv_mul_le a (Int.ne_of_gt hb));have h2:=Rat.intCast_lt_intCast.2 (Int.lt_ediv_add_one_mul_self a hb);rw [Rat.intCast_mul]at h1 h2;rw [Rat.intCast_add]at h2
 have e:((1:Int):Rat)=1:=rfl
 rw [e]at h2
 constructor <;> grind
theorem fl_div (a b:Int)(hb:0 < b){z:Rat}(hz:z*(b:Rat)=(a:Rat)):(((a/b:Int)):Rat)≤z∧z < (((a/b:Int)):Rat)+1:=by
 have hb':(0:Rat) < (b:Rat):=Rat.intCast_lt_intCast.2 hb
 obtain⟨h1,h2⟩:=fl_bd a b hb
 constructor
 ·exact Rat.le_of_mul_le_mul_right (by rw [hz];exact h1) hb'
 ·have c:¬(((a/b:Int)):Rat)+1≤z:=fun c=>by
   have:=Rat.mul_le_mul_of_nonneg_right c (Rat.le_of_lt hb')
   rw [hz]at this
   grind
  exact Rat.not_le.1 c
theorem ser_err{m:Int}{y:Rat}(hy:y*SR=(m:Rat))(y1: -(8/5)≤y)(y2:y≤8/5):∀k:Nat,(-(5/2)≤((ti m k:Int):Rat)-tt SR y k∧((ti m k:Int):Rat)-tt SR y k≤5/2)∧ -(5/2*(k:Rat))≤((si m k:Int):Rat)-ss SR y k∧((si m k:Int):Rat)-ss SR y k≤5/2*(k:Rat)
 | 0=>by
  simp only [ti,si,tt,ss]
  have e:((0:Nat):Rat)=0:=rfl
  rw [e,←hy];refine⟨⟨?_,?_⟩,?_,?_⟩ <;> grind
 | k+1=>by
  obtain⟨⟨a1,a2⟩,b1,b2⟩:=ser_err hy y1 y2 k
  have sp:(0:Int) < SC:=by decide
  have np:=nk_pos k
  have n6:(6:Int)≤(2*((k:Int)+1))*(2*((k:Int)+1)+1):=by
   have:=Int.mul_le_mul (show (2:Int)≤2*((k:Int)+1) by omega) (show (3:Int)≤2*((k:Int)+1)+1 by omega) (by decide) (by omega)
   omega
  obtain⟨v1,v2⟩:=fl_div (ti m k*m) SC sp (z:=((ti m k:Int):Rat)*y) (by rw [Rat.intCast_mul,←hy];grind);obtain⟨u1,u2⟩:=fl_div (ti m k*m/SC*m) SC sp (z:=((ti m k*m/SC:Int):Rat)*y) (by rw [Rat.intCast_mul,←hy];grind);obtain⟨w1,w2⟩:=fl_bd (ti m k*m/SC*m/SC) ((2*((k:Int)+1))*(2*((k:Int)+1)+1)) np
  have n6':(6:Rat)≤((((2*((k:Int)+1))*(2*((k:Int)+1)+1):Int)):Rat):=Rat.intCast_le_intCast.2 n6
  have hx:tt SR y (k+1)*((((2*((k:Int)+1))*(2*((k:Int)+1)+1):Int)):Rat)= -(tt SR y k*(y*y)):=by
   simp only [tt];exact Rat.div_mul_cancel (Rat.ne_of_gt (Rat.intCast_lt_intCast.2 np))
  have key:=ser_step n6' y1 y2 a1 a2 v1 v2 u1 u2 w1 w2 hx
  have e1:((ti m (k+1):Int):Rat)= -((((ti m k*m/SC*m/SC) / ((2*((k:Int)+1))*(2*((k:Int)+1)+1)):Int)):Rat):=by
   simp only [ti];rw [Rat.intCast_neg]
  have e2:((si m (k+1):Int):Rat)=((si m k:Int):Rat)+((ti m (k+1):Int):Rat):=by
   simp only [si];rw [Rat.intCast_add]
  have e3:ss SR y (k+1)=ss SR y k+tt SR y (k+1):=rfl
  have e4:((k+1:Nat):Rat)=(k:Rat)+1:=by rw [Rat.natCast_add];rfl
  rw [e2,e3,e4,e1];obtain⟨k1,k2⟩:=key;refine⟨⟨k1,k2⟩,?_,?_⟩ <;> grind
theorem ser_sin{m:Int}{y:Rat}(hy:y*SR=(m:Rat))(y1: -(8/5)≤y)(y2:y≤8/5): -100≤((si m 40:Int):Rat)-sinT y*SR∧((si m 40:Int):Rat)-sinT y*SR≤100:=by
 obtain⟨_,b1,b2⟩:=ser_err hy y1 y2 40;rw [ss_lin,←sin_ss]at b1 b2
 have e:((40:Nat):Rat)=40:=rfl
 rw [e]at b1 b2
 constructor <;> grind
theorem p200:(0:Rat) < 2^200:=Rat.pow_pos (by decide)
theorem cos_bd{x:Rat}(h1: -2≤x)(h2:x≤2):cosT x*cosT x≤1+1/2^200:=by
 obtain⟨_,b⟩:=circleD h1 h2;have s:=sq_nn (sinT x);have p:=p200
 have e:(1/2^200:Rat)*2^200=1:=Rat.div_mul_cancel (Rat.ne_of_gt p)
 refine Rat.le_of_mul_le_mul_right (c:=2^200) ?_ p
 have:=Rat.mul_nonneg s (Rat.le_of_lt p)
 grind
theorem abs_of_sq{c e:Rat}(he:0≤e)(h:c*c≤1+e): -(1+e)≤c∧c≤1+e:=by
 have s:=sq_nn e
 constructor
 ·by_cases k: -(1+e)≤c
  ·exact k
  ·have k':=Rat.not_le.1 k
   have this:=Rat.mul_nonneg (a:= -(1+e)-c) (b:= -(1+e)-c) (by grind) (by grind);have g:=Rat.mul_pos (a:= -(1+e)-c) (b:=1+e) (by grind) (by grind)
   grind
 ·by_cases k:c≤1+e
  ·exact k
  ·have k':=Rat.not_le.1 k
   have this:=Rat.mul_nonneg (a:=c-(1+e)) (b:=c-(1+e)) (by grind) (by grind);have g:=Rat.mul_pos (a:=c-(1+e)) (b:=1+e) (by grind) (by grind)
   grind
theorem sin_near{x d:Rat}(h1: -2≤x)(h2:x≤2)(h3: -2≤x+d)(h4:x+d≤2)(hd:0≤d):
  -(d*(1+1/2^200)+100*(d*d))≤sinT (x+d)-sinT x∧sinT (x+d)-sinT x≤d*(1+1/2^200)+100*(d*d):=by
 have p:=p200
 have ep:(0:Rat)≤1/2^200:=by
  rw [Rat.div_def];exact Rat.mul_nonneg (by decide) (Rat.le_of_lt (Rat.inv_pos.2 p))
 obtain⟨c1,c2⟩:=abs_of_sq ep (cos_bd h1 h2);obtain⟨r1,r2⟩:=prem_bd (B:=2) (x:=x) (d:=d) h1 h2 h3 h4 TL
 have t2:((pab2 2 TL:Nat):Rat)≤100*((DD:Int):Rat):=by
  have h:=Rat.natCast_le_natCast.2 tl_two;rw [Rat.natCast_mul]at h;exact h
 have s:=sq_nn d;have g:=Rat.mul_nonneg s (b:=100*((DD:Int):Rat)-((pab2 2 TL:Nat):Rat)) (by grind);have k1:=Rat.mul_nonneg hd (b:=1+1/2^200-cosT x) (by grind);have k2:=Rat.mul_nonneg hd (b:=1+1/2^200+cosT x) (by grind)
 have e:(sinT (x+d)-sinT x-d*cosT x)*((DD:Int):Rat)=prem TL x d:=by
  unfold prem
  rw [←sin_dd,←sin_dd,←cos_dd]
  grind
 have dp:=dd_pos;generalize (1/2^200:Rat)=ε at *
 have q1:sinT (x+d)-sinT x-d*cosT x≤100*(d*d):=Rat.le_of_mul_le_mul_right (c:=((DD:Int):Rat)) (by rw [e];grind) dp
 have q2: -(100*(d*d))≤sinT (x+d)-sinT x-d*cosT x:=Rat.le_of_mul_le_mul_right (c:=((DD:Int):Rat)) (by rw [e];grind) dp
 constructor <;> grind
theorem core{r:Int}{z W:Rat}(r1: -(8/5)*SR≤(r:Rat))(r2:(r:Rat)≤8/5*SR)(h1:(r:Rat)≤z)(h2:z-r≤W)(hW:W≤2^60):
  -(W+101)≤sinT (z/SR)*SR-((si r 40:Int):Rat)∧sinT (z/SR)*SR-((si r 40:Int):Rat)≤W+101:=by
 have sp:=sr_pos;have sn:=Rat.ne_of_gt sp
 have ey:(r:Rat) /SR*SR=r:=Rat.div_mul_cancel sn
 have ez:z/SR*SR=z:=Rat.div_mul_cancel sn
 obtain⟨y,hy⟩:∃y,(r:Rat) /SR=y:=⟨_,rfl⟩;obtain⟨f,hf⟩:∃f,z/SR=f:=⟨_,rfl⟩;rw [hy]at ey;rw [hf]at ez⊢
 have y1: -(8/5)≤y:=Rat.le_of_mul_le_mul_right (c:=SR) (by rw [ey];exact r1) sp
 have y2:y≤8/5:=Rat.le_of_mul_le_mul_right (c:=SR) (by rw [ey];exact r2) sp
 obtain⟨d,hd⟩:∃d,f-y=d:=⟨_,rfl⟩
 have eg:d*SR=z-r:=by rw [←hd];grind
 have d0:0≤d:=Rat.le_of_mul_le_mul_right (c:=SR) (by rw [eg];grind) sp
 have big:(2^60:Rat)*4000≤SR:=by decide +kernel
 have big2:(100*2^60*2^60:Rat)*4≤SR:=by decide +kernel
 have d1:d≤1/4:=Rat.le_of_mul_le_mul_right (c:=SR) (by rw [eg];grind) sp
 have e1:y+d=f:=by grind
 obtain⟨n1,n2⟩:=sin_near (x:=y) (d:=d) (by grind) (by grind) (by grind) (by grind) d0;obtain⟨s1,s2⟩:=ser_sin ey y1 y2;rw [e1]at n1 n2;obtain⟨ε,hε⟩:∃ε,(1/2^200:Rat)=ε:=⟨_,rfl⟩
 have ε1:ε*2^60≤1/4:=by rw [←hε];decide +kernel
 have ε0:0≤ε:=by rw [←hε];decide +kernel
 rw [hε]at n1 n2
 have g0:0≤z-r:=by grind
 have g1:z-r≤2^60:=by grind
 have a1:(z-r)*ε≤1/4:=by
  have:=Rat.mul_le_mul_of_nonneg_right g1 ε0
  grind
 have a2:100*2^60*d≤1/4:=Rat.le_of_mul_le_mul_right (c:=SR) (by
  have e:100*2^60*d*SR=100*2^60*(z-r):=by rw [←eg];grind
  rw [e]
  grind) sp
 have a3:100*(z-r)*d≤1/4:=by
  have:=Rat.mul_le_mul_of_nonneg_right g1 d0
  grind
 have b1:(sinT f-sinT y)*SR≤(d*(1+ε)+100*(d*d))*SR:=Rat.mul_le_mul_of_nonneg_right n2 (Rat.le_of_lt sp)
 have b2: -(d*(1+ε)+100*(d*d))*SR≤(sinT f-sinT y)*SR:=Rat.mul_le_mul_of_nonneg_right n1 (Rat.le_of_lt sp)
 have c:(d*(1+ε)+100*(d*d))*SR=(z-r)+(z-r)*ε+100*(z-r)*d:=by rw [←eg];grind
 rw [Rat.neg_mul,c]at b2;rw [c]at b1
 constructor <;> grind
theorem half_turn:(PLo:Rat)≤2*qt*SR∧2*qt*SR≤(PHi:Rat):=by decide +kernel
def qI (x:Int):Int:=(2*x+PLo) / (2*PLo)
def rI (x:Int):Int:=if qI x < 0 then x-qI x*PLo else x-qI x*PHi
def tI (x y:Int):Int:=if qI x < 0 then y-qI x*PHi else y-qI x*PLo
theorem qI_bd (x:Int): -PLo≤2*(x-qI x*PLo)∧2*(x-qI x*PLo) < PLo:=by
 have h1:=Int.ediv_mul_le (2*x+PLo) (show (2*PLo:Int)≠0 by decide)
 have h2:=Int.lt_ediv_add_one_mul_self (2*x+PLo) (show (0:Int) < 2*PLo by decide)
 unfold qI
 generalize (2*x+PLo) / (2*PLo)=q at *
 unfold PLo at *
 omega
theorem turns{x y:Int}{z:Rat}(h1:(x:Rat)≤z)(h2:z≤(y:Rat)):((rI x:Int):Rat)≤z-(qI x:Rat)*(2*qt*SR)∧z-(qI x:Rat)*(2*qt*SR)≤((tI x y:Int):Rat):=by
 obtain⟨p1,p2⟩:=half_turn
 unfold rI tI
 generalize qI x=q;generalize 2*qt*SR=p at *
 by_cases c:q < 0
 ·rw [if_pos c,if_pos c,Rat.intCast_sub,Rat.intCast_sub,Rat.intCast_mul,Rat.intCast_mul]
  have hq:(q:Rat)≤0:=Rat.intCast_le_intCast.2 (Int.le_of_lt c)
  have k1:=Rat.mul_nonneg (a:= -(q:Rat)) (b:=p-(PLo:Rat)) (by grind) (by grind);have k2:=Rat.mul_nonneg (a:= -(q:Rat)) (b:=(PHi:Rat)-p) (by grind) (by grind)
  constructor <;> grind
 ·rw [if_neg c,if_neg c,Rat.intCast_sub,Rat.intCast_sub,Rat.intCast_mul,Rat.intCast_mul]
  have hq:(0:Rat)≤(q:Rat):=Rat.intCast_le_intCast.2 (show 0≤q by omega)
  have k1:=Rat.mul_nonneg (a:=(q:Rat)) (b:=p-(PLo:Rat)) (by grind) (by grind);have k2:=Rat.mul_nonneg (a:=(q:Rat)) (b:=(PHi:Rat)-p) (by grind) (by grind)
  constructor <;> grind
end Go.Proofs.YtaadmpiphnfllaaGreatDoor
