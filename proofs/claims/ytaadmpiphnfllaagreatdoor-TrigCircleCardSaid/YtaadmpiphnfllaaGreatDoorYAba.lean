/-
 Contracts that the proof rests on.
-/
import Derived.Test.YtaadmpiphnfllaaGreatDoorYAaz
namespace Go.Proofs.YtaadmpiphnfllaaGreatDoor
open Go Go.RowKit
set_option linter.unusedVariables false
theorem qI_abs{x:Int}(h1: -2147483648*SC≤x)(h2:x≤2147483648*SC): -2147483648≤qI x∧qI x≤2147483648:=by
 obtain⟨a,b⟩:=qI_bd x;generalize qI x=q at *
 unfold SC PLo at *
 omega
theorem rI_bd{x:Int}(h1: -2147483648*SC≤x)(h2:x≤2147483648*SC): -(8*SC)≤5*rI x∧5*rI x≤8*SC:=by
 obtain⟨a,b⟩:=qI_bd x;obtain⟨c,d⟩:=qI_abs h1 h2
 unfold rI
 generalize qI x=q at *
 by_cases e:q < 0
 ·rw [if_pos e]
  unfold SC PLo at *
  omega
 ·rw [if_neg e]
  unfold SC PLo PHi at *
  omega
theorem tI_bd{x y:Int}(h1: -2147483648*SC≤x)(h2:x≤2147483648*SC)(h3:x≤y)(h4:y-x≤2000000):0≤tI x y-rI x∧tI x y-rI x≤4398046511104:=by
 obtain⟨c,d⟩:=qI_abs h1 h2
 unfold rI tI
 generalize qI x=q at *
 by_cases e:q < 0
 ·rw [if_pos e,if_pos e]
  unfold SC PLo PHi at *
  omega
 ·rw [if_neg e,if_neg e]
  unfold SC PLo PHi at *
  omega
theorem left_sin{x y:Int}{z:Rat}(h1: -2147483648*SC≤x)(h2:x≤2147483648*SC)(h3:x≤y)(h4:y-x≤2000000)(z1:(x:Rat)≤z)(z2:z≤(y:Rat)):
  ((si (rI x) 40-(tI x y-rI x+101):Int):Rat)≤sinT ((z-(qI x:Rat)*(2*qt*SR)) /SR)*SR∧sinT ((z-(qI x:Rat)*(2*qt*SR)) /SR)*SR≤((si (rI x) 40+(tI x y-rI x+101):Int):Rat):=by
 obtain⟨a,b⟩:=rI_bd h1 h2;obtain⟨c,d⟩:=tI_bd h1 h2 h3 h4;obtain⟨e,f⟩:=turns z1 z2
 have a':=Rat.intCast_le_intCast.2 a
 have b':=Rat.intCast_le_intCast.2 b
 have d':=Rat.intCast_le_intCast.2 d
 rw [Rat.intCast_neg,Rat.intCast_mul,Rat.intCast_mul]at a';rw [Rat.intCast_mul,Rat.intCast_mul]at b';rw [Rat.intCast_sub]at d'
 have l5:((5:Int):Rat)=5:=rfl
 have l8:((8:Int):Rat)=8:=rfl
 have lb:((4398046511104:Int):Rat)≤2^60:=by decide +kernel
 have l1:((101:Int):Rat)=101:=rfl
 rw [l5,l8]at a' b';obtain⟨k1,k2⟩:=core (r:=rI x) (z:=z-(qI x:Rat)*(2*qt*SR)) (W:=((tI x y:Int):Rat)-((rI x:Int):Rat)) (by grind) (by grind) e (by grind) (by grind);rw [Rat.intCast_sub,Rat.intCast_add,Rat.intCast_add,Rat.intCast_sub,l1]
 constructor <;> grind
def wide (x y:Int):Int × Int:=if qI x%2=0 then (si (rI x) 40-(tI x y-rI x+200),si (rI x) 40+(tI x y-rI x+200))else (-(si (rI x) 40+(tI x y-rI x+200)),-(si (rI x) 40-(tI x y-rI x+200)))
def sinU (x:Int)(z:Rat):Rat:=if qI x%2=0 then sinT ((z-(qI x:Rat)*(2*qt*SR)) /SR)else -sinT ((z-(qI x:Rat)*(2*qt*SR)) /SR)
theorem wide_sin{x y:Int}{z:Rat}(h1: -2147483648*SC≤x)(h2:x≤2147483648*SC)(h3:x≤y)(h4:y-x≤2000000)(z1:(x:Rat)≤z)(z2:z≤(y:Rat)):
  (((wide x y).1+99:Int):Rat)≤sinU x z*SR∧sinU x z*SR≤(((wide x y).2-99:Int):Rat):=by
 obtain⟨a,b⟩:=left_sin h1 h2 h3 h4 z1 z2
 unfold wide sinU
 by_cases c:qI x%2=0
 ·rw [if_pos c,if_pos c];simp only []
  rw [show si (rI x) 40-(tI x y-rI x+200)+99=si (rI x) 40-(tI x y-rI x+101) by omega,show si (rI x) 40+(tI x y-rI x+200)-99=si (rI x) 40+(tI x y-rI x+101) by omega]
  exact⟨a,b⟩
 ·rw [if_neg c,if_neg c];simp only []
  rw [show -(si (rI x) 40+(tI x y-rI x+200))+99= -(si (rI x) 40+(tI x y-rI x+101)) by omega,show -(si (rI x) 40-(tI x y-rI x+200))-99= -(si (rI x) 40-(tI x y-rI x+101)) by omega,Rat.intCast_neg,Rat.intCast_neg]
  constructor <;> grind
def TG:List Int:=ptr (2*QH) QK TL
def E6:List Int:=padd TG (psc (QK^82) TL)
theorem e6_small:pabs 2 E6*2^190≤(DD*QK^82).natAbs:=Nat.le_of_ble_eq_true (by decide +kernel)
theorem half_on{x:Rat}(h1: -2≤x)(h2:x≤2): -1≤(sinT (x+2*qt)+sinT x)*2^190∧(sinT (x+2*qt)+sinT x)*2^190≤1:=by
 obtain⟨b1,b2⟩:=pev_bd (B:=2) (x:=x) h1 h2 E6;refine small_of (m:=DD*QK^82) (by decide +kernel) e6_small b1 b2 ?_
 have e:pev TG x=sinT (x+2*qt)*((DD:Int):Rat)*((QK:Int):Rat)^82:=by
  unfold TG
  rw [pev_tr (2*QH) QK (Rat.ne_of_gt qk_pos),tl_len,sin_dd]
  have q:((2*QH:Int):Rat) / ((QK:Int):Rat)=2*qt:=by
   unfold qt
   rw [Rat.intCast_mul,Rat.div_def,Rat.div_def,Rat.mul_assoc]
   rfl
  rw [q]
 unfold E6
 rw [pev_add,pev_sc,e,←sin_dd,Rat.intCast_mul,Rat.intCast_pow];generalize ((QK:Int):Rat)^82=k;generalize ((DD:Int):Rat)=d;generalize sinT x=s;generalize sinT (x+2*qt)=c
 grind
def ang (x:Int)(z:Rat):Rat:=(z-(qI x:Rat)*(2*qt*SR)) /SR
theorem ang_at (x:Int)(z:Rat):ang x z*SR=z-(qI x:Rat)*(2*qt*SR):=Rat.div_mul_cancel (Rat.ne_of_gt sr_pos)
theorem qt_bd:(157/100:Rat)≤qt∧qt≤158/100:=by decide +kernel
theorem ang_bd{x y:Int}{z:Rat}(h1: -2147483648*SC≤x)(h2:x≤2147483648*SC)(h3:x≤y)(h4:y-x≤2000000)(z1:(x:Rat)≤z)(z2:z≤(y:Rat)): -(17/10)≤ang x z∧ang x z≤17/10:=by
 obtain⟨a,b⟩:=rI_bd h1 h2;obtain⟨c,d⟩:=tI_bd h1 h2 h3 h4;obtain⟨e,f⟩:=turns z1 z2;rw [←ang_at]at e f
 have u1: -(17*SC)≤10*rI x:=by unfold SC at *;omega
 have u2:10*tI x y≤17*SC:=by unfold SC at *;omega
 have u1':=Rat.intCast_le_intCast.2 u1
 have u2':=Rat.intCast_le_intCast.2 u2
 rw [Rat.intCast_neg,Rat.intCast_mul,Rat.intCast_mul]at u1';rw [Rat.intCast_mul,Rat.intCast_mul]at u2'
 have l1:((17:Int):Rat)=17:=rfl
 have l2:((10:Int):Rat)=10:=rfl
 rw [l1,l2]at u1' u2';have sp:=sr_pos;exact⟨Rat.le_of_mul_le_mul_right (c:=SR) (by grind) sp,Rat.le_of_mul_le_mul_right (c:=SR) (by grind) sp⟩
theorem ang_off{x x':Int}{z d:Rat}{k:Int}(hk:qI x=qI x'+k):ang x' (z+d*SR)=ang x z+d+(k:Rat)*(2*qt):=by
 have a:=ang_at x z;have b:=ang_at x' (z+d*SR);rw [hk,Rat.intCast_add]at a;have sp:=sr_pos;refine Rat.le_antisymm (Rat.le_of_mul_le_mul_right (c:=SR) ?_ sp) (Rat.le_of_mul_le_mul_right (c:=SR) ?_ sp) <;> grind
theorem sinU_ang (x:Int)(z:Rat):sinU x z=if qI x%2=0 then sinT (ang x z)else -sinT (ang x z):=rfl
theorem quarter{x x':Int}{z:Rat}(a: -(17/10)≤ang x z∧ang x z≤17/10)(b: -(17/10)≤ang x' (z+qt*SR)∧ang x' (z+qt*SR)≤17/10):
  (qI x=qI x'∧ang x' (z+qt*SR)=ang x z+qt)∨(qI x=qI x'+ -1∧ang x' (z+qt*SR)=ang x z-qt):=by
 obtain⟨k,hk⟩:∃k,qI x=qI x'+k:=⟨qI x-qI x',by omega⟩
 have e:=ang_off (z:=z) (d:=qt) hk;obtain⟨q1,q2⟩:=qt_bd
 have hk1:k < 1:=by
  by_cases c:k < 1
  ·exact c
  ·exfalso
   have d:(1:Rat)≤(k:Rat):=Rat.intCast_le_intCast.2 (show 1≤k by omega)
   have:=Rat.mul_le_mul_of_nonneg_right d (show (0:Rat)≤2*qt by grind)
   grind
 have hk2: -2 < k:=by
  by_cases c: -2 < k
  ·exact c
  ·exfalso
   have d:(k:Rat)≤ -2:=Rat.intCast_le_intCast.2 (show k≤ -2 by omega)
   have:=Rat.mul_le_mul_of_nonneg_right d (show (0:Rat)≤2*qt by grind)
   grind
 rcases (by omega:k=0∨k= -1)with rfl | rfl
 ·left
  rw [e]
  have l:((0:Int):Rat)=0:=rfl
  rw [l];exact⟨by omega,by grind⟩
 ·right
  rw [e]
  have l:((-1:Int):Rat)= -1:=rfl
  rw [l];exact⟨hk,by grind⟩
theorem sq_sinU (x:Int)(z:Rat):sinU x z*sinU x z=sinT (ang x z)*sinT (ang x z):=by
 rw [sinU_ang]
 by_cases c:qI x%2=0
 ·rw [if_pos c]
 ·rw [if_neg c]
  grind
theorem circleU{x x':Int}{z:Rat}(a: -(17/10)≤ang x z∧ang x z≤17/10)(b: -(17/10)≤ang x' (z+qt*SR)∧ang x' (z+qt*SR)≤17/10):
  -1≤(sinU x z*sinU x z+sinU x' (z+qt*SR)*sinU x' (z+qt*SR)-1)*2^240∧(sinU x z*sinU x z+sinU x' (z+qt*SR)*sinU x' (z+qt*SR)-1)*2^240≤1:=by
 rw [sq_sinU,sq_sinU]
 rcases quarter a b with⟨_,e⟩ | ⟨_,e⟩
 ·rw [e];exact circle (by grind) (by grind)
 ·rw [e];have h:=circle (x:= -ang x z) (by grind) (by grind)
  rw [sin_neg,show -ang x z+qt= -(ang x z-qt) by grind,sin_neg]at h
  constructor <;> grind
theorem kbd{k:Int}(h1: -(51/10)≤(k:Rat)*(2*qt))(h2:(k:Rat)*(2*qt)≤51/10):k=0∨k=1∨k= -1:=by
 obtain⟨q1,q2⟩:=qt_bd
 have k1:k < 2:=by
  by_cases c:k < 2
  ·exact c
  ·exfalso
   have d:(2:Rat)≤(k:Rat):=Rat.intCast_le_intCast.2 (show 2≤k by omega)
   have:=Rat.mul_le_mul_of_nonneg_right d (show (0:Rat)≤2*qt by grind)
   grind
 have k2: -2 < k:=by
  by_cases c: -2 < k
  ·exact c
  ·exfalso
   have d:(k:Rat)≤ -2:=Rat.intCast_le_intCast.2 (show k≤ -2 by omega)
   have:=Rat.mul_le_mul_of_nonneg_right d (show (0:Rat)≤2*qt by grind)
   grind
 omega
theorem c1:((1:Int):Rat)=1:=rfl
theorem c0:((0:Int):Rat)=0:=rfl
theorem cm:((-1:Int):Rat)= -1:=rfl
theorem opp{t:Rat}{k:Int}(h1: -2≤t)(h2:t≤2)(hk:k=0∨k=1∨k= -1):
  -1≤(sinT (-t+(k:Rat)*(2*qt))+(if k%2=0 then sinT t else -sinT t))*2^190∧(sinT (-t+(k:Rat)*(2*qt))+(if k%2=0 then sinT t else -sinT t))*2^190≤1:=by
 rcases hk with rfl | rfl | rfl
 ·rw [if_pos (by decide),c0,show -t+0*(2*qt)= -t by grind,sin_neg]
  constructor <;> grind
 ·rw [if_neg (by decide),c1];have h:=half_on (x:= -t) (by grind) (by grind)
  rw [sin_neg,show -t+2*qt= -t+1*(2*qt) by grind]at h
  exact h
 ·rw [if_neg (by decide),cm];have h:=half_on (x:=t) h1 h2
  rw [show -t+ -1*(2*qt)= -(t+2*qt) by grind,sin_neg]
  constructor <;> grind
theorem negU{x x':Int}{z:Rat}(a: -(17/10)≤ang x z∧ang x z≤17/10)(b: -(17/10)≤ang x' (-z)∧ang x' (-z)≤17/10):
  -1≤(sinU x' (-z)+sinU x z)*2^190∧(sinU x' (-z)+sinU x z)*2^190≤1:=by
 obtain⟨k,hk⟩:∃k,k= -(qI x+qI x'):=⟨_,rfl⟩
 have e:ang x' (-z)= -ang x z+(k:Rat)*(2*qt):=by
  have p:=ang_at x z;have q:=ang_at x' (-z);have sp:=sr_pos;rw [hk,Rat.intCast_neg,Rat.intCast_add];refine Rat.le_antisymm (Rat.le_of_mul_le_mul_right (c:=SR) ?_ sp) (Rat.le_of_mul_le_mul_right (c:=SR) ?_ sp) <;> grind
 have h:=opp (t:=ang x z) (by grind) (by grind) (kbd (k:=k) (by grind) (by grind));rw [←e]at h;rw [sinU_ang,sinU_ang]
 by_cases c:qI x'%2=0
 ·rw [if_pos c]
  by_cases d:qI x%2=0
  ·rw [if_pos (by omega)]at h;rw [if_pos d];exact h
  ·rw [if_neg (by omega)]at h;rw [if_neg d];exact h
 ·rw [if_neg c]
  by_cases d:qI x%2=0
  ·rw [if_neg (by omega)]at h;rw [if_pos d]
   constructor <;> grind
  ·rw [if_pos (by omega)]at h;rw [if_neg d]
   constructor <;> grind
theorem negC{x x':Int}{z:Rat}(a: -(17/10)≤ang x (z+qt*SR)∧ang x (z+qt*SR)≤17/10)(b: -(17/10)≤ang x' (-z+qt*SR)∧ang x' (-z+qt*SR)≤17/10):
  -1≤(sinU x' (-z+qt*SR)-sinU x (z+qt*SR))*2^190∧(sinU x' (-z+qt*SR)-sinU x (z+qt*SR))*2^190≤1:=by
 obtain⟨k,hk⟩:∃k,k=1-(qI x+qI x'):=⟨_,rfl⟩
 have e:ang x' (-z+qt*SR)= -ang x (z+qt*SR)+(k:Rat)*(2*qt):=by
  have p:=ang_at x (z+qt*SR);have q:=ang_at x' (-z+qt*SR);have sp:=sr_pos;rw [hk,Rat.intCast_sub,Rat.intCast_add,c1];refine Rat.le_antisymm (Rat.le_of_mul_le_mul_right (c:=SR) ?_ sp) (Rat.le_of_mul_le_mul_right (c:=SR) ?_ sp) <;> grind
 have h:=opp (t:=ang x (z+qt*SR)) (by grind) (by grind) (kbd (k:=k) (by grind) (by grind));rw [←e]at h;rw [sinU_ang,sinU_ang]
 by_cases c:qI x'%2=0
 ·rw [if_pos c]
  by_cases d:qI x%2=0
  ·rw [if_neg (by omega)]at h;rw [if_pos d]
   constructor <;> grind
  ·rw [if_pos (by omega)]at h;rw [if_neg d]
   constructor <;> grind
 ·rw [if_neg c]
  by_cases d:qI x%2=0
  ·rw [if_pos (by omega)]at h;rw [if_pos d]
   constructor <;> grind
  ·rw [if_neg (by omega)]at h;rw [if_neg d]
   constructor <;> grind
theorem doubleU{x x' x3:Int}{z:Rat}(a: -(17/10)≤ang x z∧ang x z≤17/10)(b: -(17/10)≤ang x' (z+qt*SR)∧ang x' (z+qt*SR)≤17/10)(c: -(17/10)≤ang x3 (2*z)∧ang x3 (2*z)≤17/10):
  -1≤(sinU x3 (2*z)-2*(sinU x z*sinU x' (z+qt*SR)))*2^200∧(sinU x3 (2*z)-2*(sinU x z*sinU x' (z+qt*SR)))*2^200≤1:=by
 obtain⟨k,hk⟩:∃k,k=2*qI x-qI x3:=⟨_,rfl⟩
 have e:ang x3 (2*z)=2*ang x z+(k:Rat)*(2*qt):=by
  have p:=ang_at x z;have q:=ang_at x3 (2*z);have sp:=sr_pos
  have c2:((2:Int):Rat)=2:=rfl
  rw [hk,Rat.intCast_sub,Rat.intCast_mul,c2];refine Rat.le_antisymm (Rat.le_of_mul_le_mul_right (c:=SR) ?_ sp) (Rat.le_of_mul_le_mul_right (c:=SR) ?_ sp) <;> grind
 have hk3:=kbd (k:=k) (by grind) (by grind);obtain⟨q1,q2⟩:=qt_bd;obtain⟨t,ht⟩:∃t,ang x z=t:=⟨_,rfl⟩
 have P:(sinU x z*sinU x' (z+qt*SR)=sinT t*sinT (t+qt)∧ang x' (z+qt*SR)=t+qt)∨(sinU x z*sinU x' (z+qt*SR)= -(sinT t*sinT (t-qt))∧ang x' (z+qt*SR)=t-qt):=by
  rcases quarter a b with⟨u,v⟩ | ⟨u,v⟩
  ·left
   rw [sinU_ang,sinU_ang,v,ht];refine⟨?_,rfl⟩
   by_cases d:qI x%2=0
   ·rw [if_pos d,if_pos (by omega)]
   ·rw [if_neg d,if_neg (by omega)]
    grind
  ·right
   rw [sinU_ang,sinU_ang,v,ht];refine⟨?_,rfl⟩
   by_cases d:qI x%2=0
   ·rw [if_pos d,if_neg (by omega)]
    grind
   ·rw [if_neg d,if_pos (by omega)]
    grind
 rw [ht]at a e
 have S:sinU x3 (2*z)=if k%2=0 then sinT (2*t+(k:Rat)*(2*qt))else -sinT (2*t+(k:Rat)*(2*qt)):=by
  rw [sinU_ang,e]
  by_cases d:qI x3%2=0
  ·rw [if_pos d,if_pos (by omega)]
  ·rw [if_neg d,if_neg (by omega)]
 rw [S]
 rcases P with⟨p,g⟩ | ⟨p,g⟩
 ·rw [p];rw [g]at b
  rcases hk3 with rfl | rfl | rfl
  ·rw [if_pos (by decide),c0,show 2*t+0*(2*qt)=2*t by grind]
   exact double (by grind) (by grind)
  ·rw [if_neg (by decide),c1];have h:=double (x:= -(t+qt)) (by grind) (by grind)
   rw [show 2* -(t+qt)= -(2*t+1*(2*qt)) by grind,show -(t+qt)+qt= -t by grind,sin_neg,sin_neg,sin_neg]at h
   constructor <;> grind
  ·exfalso
   rw [cm]at e
   grind
 ·rw [p];rw [g]at b
  rcases hk3 with rfl | rfl | rfl
  ·rw [if_pos (by decide),c0,show 2*t+0*(2*qt)=2*t by grind]
   have h:=double (x:= -t) (by grind) (by grind)
   rw [show 2* -t= -(2*t) by grind,show -t+qt= -(t-qt) by grind,sin_neg,sin_neg,sin_neg]at h
   constructor <;> grind
  ·exfalso
   rw [c1]at e
   grind
  ·rw [if_neg (by decide),cm];have h:=double (x:=t-qt) (by grind) (by grind)
   rw [show 2*(t-qt)=2*t+ -1*(2*qt) by grind,show t-qt+qt=t by grind]at h
   constructor <;> grind
def pev2:List (List Int)→Rat→Rat→Rat
 | [],_,_=>0
 | p::P,m,h=>pev p m+h*pev2 P m h
def padd2:List (List Int)→List (List Int)→List (List Int)
 | [],Q=>Q
 | p::P,[]=>p::P
 | p::P,q::Q=>padd p q::padd2 P Q
def psc2 (c:Int):List (List Int)→List (List Int)
 | []=>[]
 | p::P=>psc c p::psc2 c P
def mulM:List (List Int)→List (List Int)
 | []=>[]
 | p::P=>(0::p)::mulM P
def shm:List Int→List (List Int)
 | []=>[]
 | a::q=>padd2 [[a]] (padd2 (mulM (shm q)) ([]::shm q))
def flipH:List (List Int)→List (List Int)
 | []=>[]
 | p::P=>p::psc2 (-1) (flipH P)
def outer:List Int→List Int→List (List Int)
 | [],_=>[]
 | a::p,q=>psc a q::outer p q
def pabs2 (B:Nat):List (List Int)→Nat
 | []=>0
 | p::P=>pabs B p+B*pabs2 B P
theorem pev2_add:∀(P Q:List (List Int)) (m h:Rat),pev2 (padd2 P Q) m h=pev2 P m h+pev2 Q m h
 | [],Q,m,h=>by simp only [padd2,pev2];grind
 | p::P,[],m,h=>by simp only [padd2,pev2];grind
 | p::P,q::Q,m,h=>by
  simp only [padd2,pev2];rw [pev2_add P Q m h,pev_add]
  grind
theorem pev2_sc (c:Int):∀(P:List (List Int)) (m h:Rat),pev2 (psc2 c P) m h=(c:Rat)*pev2 P m h
 | [],m,h=>by simp only [psc2,pev2];grind
 | p::P,m,h=>by
  simp only [psc2,pev2];rw [pev2_sc c P m h,pev_sc]
  grind
theorem pev2_m:∀(P:List (List Int)) (m h:Rat),pev2 (mulM P) m h=m*pev2 P m h
 | [],m,h=>by simp only [mulM,pev2];grind
 | p::P,m,h=>by
  simp only [mulM,pev2,pev];rw [pev2_m P m h,c0]
  grind
theorem pev2_sh:∀(p:List Int) (m h:Rat),pev2 (shm p) m h=pev p (m+h)
 | [],m,h=>by simp only [shm,pev2,pev]
 | a::q,m,h=>by
  simp only [shm];rw [pev2_add,pev2_add,pev2_m];simp only [pev2,pev];rw [pev2_sh q m h]
  grind
theorem pev2_flip:∀(P:List (List Int)) (m h:Rat),pev2 (flipH P) m h=pev2 P m (-h)
 | [],m,h=>by simp only [flipH,pev2]
 | p::P,m,h=>by
  simp only [flipH,pev2];rw [pev2_sc,pev2_flip P m h,cm]
  grind
theorem pev2_outer:∀(p q:List Int) (m h:Rat),pev2 (outer p q) m h=pev p h*pev q m
 | [],q,m,h=>by simp only [outer,pev2,pev];grind
 | a::p,q,m,h=>by
  simp only [outer,pev2,pev];rw [pev2_outer p q m h,pev_sc]
  grind
theorem pev2_bd{B:Nat}{m h:Rat}(m1: -(B:Rat)≤m)(m2:m≤(B:Rat))(h1: -(B:Rat)≤h)(h2:h≤(B:Rat)):∀P:List (List Int),-((pabs2 B P:Nat):Rat)≤pev2 P m h∧pev2 P m h≤((pabs2 B P:Nat):Rat)
 | []=>by simp only [pabs2,pev2];constructor <;> grind
 | p::P=>by
  obtain⟨i1,i2⟩:=pev2_bd m1 m2 h1 h2 P;obtain⟨j1,j2⟩:=mul_bd h1 h2 i1 i2;obtain⟨a1,a2⟩:=pev_bd m1 m2 p;simp only [pabs2,pev2];rw [Rat.natCast_add,Rat.natCast_mul]
  constructor <;> grind
def E7:List (List Int):=padd2 (psc2 DD (padd2 (shm TL) (psc2 (-1) (flipH (shm TL))))) (psc2 (-2) (outer TL (pder TL)))
theorem e7_small:pabs2 2 E7*2^200≤(DD*DD).natAbs:=Nat.le_of_ble_eq_true (by decide +kernel)
theorem sin_diff{m h:Rat}(m1: -2≤m)(m2:m≤2)(h1: -2≤h)(h2:h≤2): -1≤(sinT (m+h)-sinT (m-h)-2*(sinT h*cosT m))*2^200∧(sinT (m+h)-sinT (m-h)-2*(sinT h*cosT m))*2^200≤1:=by
 obtain⟨b1,b2⟩:=pev2_bd (B:=2) (m:=m) (h:=h) m1 m2 h1 h2 E7;refine small_of (m:=DD*DD) (by decide +kernel) e7_small b1 b2 ?_
 have e2:((-2:Int):Rat)= -2:=rfl
 unfold E7
 rw [pev2_add,pev2_sc,pev2_sc,pev2_add,pev2_sc,pev2_flip,pev2_sh,pev2_sh,pev2_outer,←sin_dd,←sin_dd,←sin_dd,←cos_dd,Rat.intCast_mul,cm,e2,show m+ -h=m-h by grind]
 generalize ((DD:Int):Rat)=d;generalize sinT h=s;generalize cosT m=c;generalize sinT (m+h)=u;generalize sinT (m-h)=v
 grind
theorem tt_step{y:Rat}(y0:0≤y)(y2:y≤2)(k:Nat):∃f:Rat,0≤f∧f≤1∧tt 1 y (k+1)= -(f*tt 1 y k):=by
 have np:(0:Rat) < ((((2*((k:Int)+1))*(2*((k:Int)+1)+1):Int)):Rat):=Rat.intCast_lt_intCast.2 (nk_pos k)
 have n6:(6:Int)≤(2*((k:Int)+1))*(2*((k:Int)+1)+1):=by
  have:=Int.mul_le_mul (show (2:Int)≤2*((k:Int)+1) by omega) (show (3:Int)≤2*((k:Int)+1)+1 by omega) (by decide) (by omega)
  omega
 have n6':(6:Rat)≤((((2*((k:Int)+1))*(2*((k:Int)+1)+1):Int)):Rat):=Rat.intCast_le_intCast.2 n6
 obtain⟨_,s⟩:=mul_bd (b:=2) (a:=2) (x:=y) (e:=y) (by grind) y2 (by grind) y2;have s0:=sq_nn y;simp only [tt];generalize ((((2*((k:Int)+1))*(2*((k:Int)+1)+1):Int)):Rat)=n at *
 have e:y*y/n*n=y*y:=Rat.div_mul_cancel (Rat.ne_of_gt np)
 refine⟨y*y/n,?_,?_,?_⟩
 ·exact Rat.le_of_mul_le_mul_right (c:=n) (by rw [e];grind) np
 ·exact Rat.le_of_mul_le_mul_right (c:=n) (by rw [e];grind) np
 ·rw [Rat.div_def,Rat.div_def]
  grind
theorem ss_nn{y:Rat}(y0:0≤y)(y2:y≤2):∀j:Nat,0≤tt 1 y (2*j)∧tt 1 y (2*j)≤ss 1 y (2*j)
 | 0=>by
  simp only [tt,ss]
  constructor <;> grind
 | j+1=>by
  obtain⟨a,b⟩:=ss_nn y0 y2 j;obtain⟨f,f0,f1,ef⟩:=tt_step y0 y2 (2*j);obtain⟨g,g0,g1,eg⟩:=tt_step y0 y2 (2*j+1);have k1:=Rat.mul_nonneg f0 a;have k2:=Rat.mul_nonneg (a:=1-f) (b:=tt 1 y (2*j)) (by grind) a;have k3:=Rat.mul_nonneg g0 k1
  have e1:tt 1 y (2*(j+1))=g*(f*tt 1 y (2*j)):=by
   show tt 1 y (2*j+1+1)=_
   rw [eg,ef]
   grind
  have e2:ss 1 y (2*(j+1))=ss 1 y (2*j)+tt 1 y (2*j+1)+tt 1 y (2*(j+1)):=rfl
  rw [e2,e1,ef]
  constructor <;> grind
theorem sin_nn{y:Rat}(y0:0≤y)(y2:y≤2):0≤sinT y:=by
 rw [sin_ss];obtain⟨a,b⟩:=ss_nn y0 y2 20;exact Rat.le_trans a b
def E8:List Int:=padd TH (psc (-(QK^82)) (pder TL))
theorem e8_small:pabs 2 E8*2^200≤(DD*QK^82).natAbs:=Nat.le_of_ble_eq_true (by decide +kernel)
theorem cos_sin{x:Rat}(h1: -2≤x)(h2:x≤2): -1≤(sinT (x+qt)-cosT x)*2^200∧(sinT (x+qt)-cosT x)*2^200≤1:=by
 obtain⟨b1,b2⟩:=pev_bd (B:=2) (x:=x) h1 h2 E8;refine small_of (m:=DD*QK^82) (by decide +kernel) e8_small b1 b2 ?_
 unfold E8
 rw [pev_add,pev_sc,th_at,←cos_dd,Rat.intCast_neg,Rat.intCast_mul,Rat.intCast_pow];generalize ((QK:Int):Rat)^82=k;generalize ((DD:Int):Rat)=d;generalize cosT x=s;generalize sinT (x+qt)=c
 grind
theorem pw (n:Nat):(0:Rat) < 2^n:=Rat.pow_pos (by decide)
theorem tiny_lo{v:Rat}{n:Nat}(h: -1≤v*2^n): -(1/2^n)≤v:=by
 have e:(1/2^n:Rat)*2^n=1:=Rat.div_mul_cancel (Rat.ne_of_gt (pw n))
 exact Rat.le_of_mul_le_mul_right (c:=2^n) (by grind) (pw n)
theorem tiny_hi{v:Rat}{n:Nat}(h:v*2^n≤1):v≤1/2^n:=by
 have e:(1/2^n:Rat)*2^n=1:=Rat.div_mul_cancel (Rat.ne_of_gt (pw n))
 exact Rat.le_of_mul_le_mul_right (c:=2^n) (by grind) (pw n)
theorem sin_bd{x:Rat}(h1: -2≤x)(h2:x≤2): -(1+1/2^240)≤sinT x∧sinT x≤1+1/2^240:=by
 obtain⟨_,b⟩:=circle h1 h2;have c:=tiny_hi b;have s:=sq_nn (sinT (x+qt));refine abs_of_sq (by decide +kernel) (by grind)
theorem sin_nn2{w:Rat}(h1:0≤w)(h2:w≤2*qt): -(1/2^190)≤sinT w:=by
 obtain⟨q1,q2⟩:=qt_bd
 by_cases c:w≤2
 ·have:=sin_nn h1 c
  have p:(0:Rat)≤1/2^190:=by decide +kernel
  grind
 ·have c':=Rat.not_le.1 c
  obtain⟨a,b⟩:=half_on (x:=w-2*qt) (by grind) (by grind);have n:=sin_nn (y:= -(w-2*qt)) (by grind) (by grind);rw [sin_neg]at n
  rw [show w-2*qt+2*qt=w by grind]at a
  have:=tiny_lo a
  grind
theorem cos_nn{m:Rat}(h1: -qt≤m)(h2:m≤qt): -(1/2^189)≤cosT m:=by
 obtain⟨q1,q2⟩:=qt_bd;have a:=sin_nn2 (w:=m+qt) (by grind) (by grind);obtain⟨_,b⟩:=cos_sin (x:=m) (by grind) (by grind);have c:=tiny_hi b
 have e:(1/2^190:Rat)+1/2^200≤1/2^189:=by decide +kernel
 grind
theorem sin_mono{a b:Rat}(h1: -qt≤a)(h2:a≤b)(h3:b≤qt): -(1/2^186)≤sinT b-sinT a:=by
 obtain⟨q1,q2⟩:=qt_bd;obtain⟨m,hm⟩:∃m,m=(a+b) /2:=⟨_,rfl⟩;obtain⟨h,hh⟩:∃h,h=(b-a) /2:=⟨_,rfl⟩
 have e1:m*2=a+b:=by rw [hm];exact Rat.div_mul_cancel (by decide)
 have e2:h*2=b-a:=by rw [hh];exact Rat.div_mul_cancel (by decide)
 obtain⟨d,_⟩:=sin_diff (m:=m) (h:=h) (by grind) (by grind) (by grind) (by grind)
 have d':=tiny_lo d
 rw [show m+h=b by grind,show m-h=a by grind]at d'
 have c:=cos_nn (m:=m) (by grind) (by grind);have n:=sin_nn (y:=h) (by grind) (by grind);obtain⟨_,n2⟩:=sin_bd (x:=h) (by grind) (by grind);have k:=Rat.mul_nonneg n (b:=cosT m+1/2^189) (by grind)
 have p1:(0:Rat)≤1/2^189:=by decide +kernel
 have k2:=Rat.mul_le_mul_of_nonneg_right n2 p1
 have e:2*((1+1/2^240)*(1/2^189):Rat)+1/2^200≤1/2^186:=by decide +kernel
 generalize (1/2^189:Rat)=u at *;generalize (1/2^240:Rat)=v at *;generalize (1/2^200:Rat)=t at *;generalize (1/2^186:Rat)=r at *
 grind
def sgq (q:Int)(v:Rat):Rat:=if q%2=0 then v else -v
theorem rep{x q:Int}{z f:Rat}(a: -(17/10)≤ang x z∧ang x z≤17/10)(hf:f*SR=z-(q:Rat)*(2*qt*SR))(f1: -(17/10)≤f)(f2:f≤17/10):
  -1≤(sinU x z-sgq q (sinT f))*2^190∧(sinU x z-sgq q (sinT f))*2^190≤1:=by
 obtain⟨k,hk⟩:∃k,k=qI x-q:=⟨_,rfl⟩
 have e:f=ang x z+(k:Rat)*(2*qt):=by
  have p:=ang_at x z;have sp:=sr_pos;rw [hk,Rat.intCast_sub];refine Rat.le_antisymm (Rat.le_of_mul_le_mul_right (c:=SR) ?_ sp) (Rat.le_of_mul_le_mul_right (c:=SR) ?_ sp) <;> grind
 have hk3:=kbd (k:=k) (by grind) (by grind);rw [sinU_ang]
 unfold sgq
 rcases hk3 with rfl | rfl | rfl
 ·rw [c0]at e
  rw [show f=ang x z by grind]
  by_cases c:q%2=0
  ·rw [if_pos c,if_pos (by omega)]
   constructor <;> grind
  ·rw [if_neg c,if_neg (by omega)]
   constructor <;> grind
 ·rw [c1]at e;obtain⟨h1,h2⟩:=half_on (x:=ang x z) (by grind) (by grind)
  rw [show ang x z+2*qt=f by grind]at h1 h2
  by_cases c:q%2=0
  ·rw [if_pos c,if_neg (by omega)]
   constructor <;> grind
  ·rw [if_neg c,if_pos (by omega)]
   constructor <;> grind
 ·rw [cm]at e;obtain⟨h1,h2⟩:=half_on (x:=f) (by grind) (by grind)
  rw [show f+2*qt=ang x z by grind]at h1 h2
  by_cases c:q%2=0
  ·rw [if_pos c,if_neg (by omega)]
   constructor <;> grind
  ·rw [if_neg c,if_pos (by omega)]
   constructor <;> grind
theorem canon{x:Int}{z:Rat}(a: -(17/10)≤ang x z∧ang x z≤17/10):∃(q:Int) (f:Rat),f*SR=z-(q:Rat)*(2*qt*SR)∧ -qt≤f∧f≤qt:=by
 obtain⟨q1,q2⟩:=qt_bd;have p:=ang_at x z
 by_cases c:ang x z≤qt
 ·by_cases d: -qt≤ang x z
  ·exact⟨qI x,ang x z,p,d,c⟩
  ·have d':=Rat.not_le.1 d
   refine⟨qI x-1,ang x z+2*qt,?_,by grind,by grind⟩
   rw [Rat.intCast_sub,c1]
   grind
 ·have c':=Rat.not_le.1 c
  refine⟨qI x+1,ang x z-2*qt,?_,by grind,by grind⟩
  rw [Rat.intCast_add,c1]
  grind
theorem rest_ex (z:Rat)(q:Int):∃f:Rat,f*SR=z-(q:Rat)*(2*qt*SR):=⟨(z-(q:Rat)*(2*qt*SR)) /SR,Rat.div_mul_cancel (Rat.ne_of_gt sr_pos)⟩
theorem units_le{f g u v:Rat}(hf:f*SR=u)(hg:g*SR=v)(h:u≤v):f≤g:=Rat.le_of_mul_le_mul_right (c:=SR) (by rw [hf,hg];exact h) sr_pos
theorem eps_sum:(1/2^186:Rat)+1/2^190+1/2^190≤72/2^192:=by decide +kernel
theorem upper{x x1 x2:Int}{z z1 z2:Rat}(a: -(17/10)≤ang x z∧ang x z≤17/10)(a1: -(17/10)≤ang x1 z1∧ang x1 z1≤17/10)(a2: -(17/10)≤ang x2 z2∧ang x2 z2≤17/10)(h1:z1≤z)(h2:z≤z2):
  (∃i:Int,i%2=0∧z1≤(2*(i:Rat)+1)*(qt*SR)∧(2*(i:Rat)+1)*(qt*SR)≤z2)∨sinU x z≤sinU x1 z1+72/2^192∨sinU x z≤sinU x2 z2+72/2^192:=by
 obtain⟨q1,q2⟩:=qt_bd;obtain⟨q,f,hf,f1,f2⟩:=canon a;obtain⟨r1,r2⟩:=rep a hf (by grind) (by grind);have sp:=sr_pos;have ep:=eps_sum
 by_cases c:q%2=0
 ·by_cases d:(2*(q:Rat)+1)*(qt*SR)≤z2
  ·refine .inl ⟨q,c,?_,d⟩
   have:=Rat.mul_le_mul_of_nonneg_right f2 (Rat.le_of_lt sp)
   grind
  ·have d':=Rat.not_le.1 d
   obtain⟨g,hg⟩:=rest_ex z2 q
   have g1:f≤g:=units_le hf hg (by grind)
   have g2:g≤qt:=Rat.le_of_mul_le_mul_right (c:=SR) (by rw [hg];grind) sp
   obtain⟨s1,s2⟩:=rep a2 hg (by grind) (by grind);have m:=sin_mono f1 g1 g2
   unfold sgq at r1 r2 s1 s2
   rw [if_pos c]at r1 r2 s1 s2;have t1:=tiny_hi r2;have t2:=tiny_lo s1;exact .inr (.inr (by grind))
 ·by_cases d:z1≤(2*((q-1:Int):Rat)+1)*(qt*SR)
  ·refine .inl ⟨q-1,by omega,d,?_⟩
   have:=Rat.mul_le_mul_of_nonneg_right f1 (Rat.le_of_lt sp)
   rw [Rat.intCast_sub,c1]
   grind
  ·have d':=Rat.not_le.1 d
   rw [Rat.intCast_sub,c1]at d';obtain⟨g,hg⟩:=rest_ex z1 q
   have g1:g≤f:=units_le hg hf (by grind)
   have g2: -qt≤g:=Rat.le_of_mul_le_mul_right (c:=SR) (by rw [hg];grind) sp
   obtain⟨s1,s2⟩:=rep a1 hg (by grind) (by grind);have m:=sin_mono g2 g1 f2
   unfold sgq at r1 r2 s1 s2
   rw [if_neg c]at r1 r2 s1 s2;have t1:=tiny_hi r2;have t2:=tiny_lo s1;exact .inr (.inl (by grind))
theorem lower{x x1 x2:Int}{z z1 z2:Rat}(a: -(17/10)≤ang x z∧ang x z≤17/10)(a1: -(17/10)≤ang x1 z1∧ang x1 z1≤17/10)(a2: -(17/10)≤ang x2 z2∧ang x2 z2≤17/10)(h1:z1≤z)(h2:z≤z2):
  (∃i:Int,i%2≠0∧z1≤(2*(i:Rat)+1)*(qt*SR)∧(2*(i:Rat)+1)*(qt*SR)≤z2)∨sinU x1 z1≤sinU x z+72/2^192∨sinU x2 z2≤sinU x z+72/2^192:=by
 obtain⟨q1,q2⟩:=qt_bd;obtain⟨q,f,hf,f1,f2⟩:=canon a;obtain⟨r1,r2⟩:=rep a hf (by grind) (by grind);have sp:=sr_pos;have ep:=eps_sum
 by_cases c:q%2=0
 ·by_cases d:z1≤(2*((q-1:Int):Rat)+1)*(qt*SR)
  ·refine .inl ⟨q-1,by omega,d,?_⟩
   have:=Rat.mul_le_mul_of_nonneg_right f1 (Rat.le_of_lt sp)
   rw [Rat.intCast_sub,c1]
   grind
  ·have d':=Rat.not_le.1 d
   rw [Rat.intCast_sub,c1]at d';obtain⟨g,hg⟩:=rest_ex z1 q
   have g1:g≤f:=units_le hg hf (by grind)
   have g2: -qt≤g:=Rat.le_of_mul_le_mul_right (c:=SR) (by rw [hg];grind) sp
   obtain⟨s1,s2⟩:=rep a1 hg (by grind) (by grind);have m:=sin_mono g2 g1 f2
   unfold sgq at r1 r2 s1 s2
   rw [if_pos c]at r1 r2 s1 s2;have t1:=tiny_lo r1;have t2:=tiny_hi s2;exact .inr (.inl (by grind))
 ·by_cases d:(2*(q:Rat)+1)*(qt*SR)≤z2
  ·refine .inl ⟨q,c,?_,d⟩
   have:=Rat.mul_le_mul_of_nonneg_right f2 (Rat.le_of_lt sp)
   grind
  ·have d':=Rat.not_le.1 d
   obtain⟨g,hg⟩:=rest_ex z2 q
   have g1:f≤g:=units_le hf hg (by grind)
   have g2:g≤qt:=Rat.le_of_mul_le_mul_right (c:=SR) (by rw [hg];grind) sp
   obtain⟨s1,s2⟩:=rep a2 hg (by grind) (by grind);have m:=sin_mono f1 g1 g2
   unfold sgq at r1 r2 s1 s2
   rw [if_neg c]at r1 r2 s1 s2;have t1:=tiny_lo r1;have t2:=tiny_hi s2;exact .inr (.inr (by grind))
end Go.Proofs.YtaadmpiphnfllaaGreatDoor
namespace Go.Proofs.YtaadmpiphnfllaaGreatDoor
open Go.RowKit
set_option linter.unusedVariables false
set_option linter.unusedSimpArgs false
set_option maxRecDepth 100000
def W2 (w:World)(K:Nat)(q r:Int)(e:Ending)(w':World):Prop:=∃s1 A1 n1 c1 s2 A2 n2 c2,e= .returned (.tuple #[.agg #[.bool s1,.slice A1 n1 c1],.agg #[.bool s2,.slice A2 n2 c2]])∧Wn w' s1 A1 n1 c1 q∧Wn w' s2 A2 n2 c2 r∧n1≤K∧n2≤K∧Below w.heap.size w w'
theorem Wn.fits{w:World}{A:Option Addr}{n c K:Nat}{s:Bool}{z:Int}(h:Wn w s A n c z)(hz:z.natAbs < 4294967296^K):n≤K:=by
 have h1:=h.1.len;have h2:=limbs_length_le hz
 omega
theorem StN.trans{w w' w'':World}{g:Nat}{a b c:Array Value}{T:TypeId}(h:StN w w' g a b T)(k:StN w' w'' g b c T):StN w w'' g a c T:=
 ⟨h.1,k.2.1,fun j hj=>(k.2.2.1 j hj).trans (h.2.2.1 j hj),fun B x hB hb=>k.2.2.2 B x hB (h.2.2.2 B x hB hb)⟩
theorem StN.mk9{w:World}{g:Nat}{T:TypeId}{a0 a1 a2 a3 a4 a5 a6 a7 a8:Value}(X:Bo w g #[a0,a1,a2,a3,a4,a5,a6,a7,a8] T)(v0 v1 v2 v3 v4 v5 v6 v7 v8:Value):
  StN w (((((((((w.setCell ⟨g,0,none⟩ v0).setCell ⟨g,1,none⟩ v1).setCell ⟨g,2,none⟩ v2).setCell ⟨g,3,none⟩ v3).setCell ⟨g,4,none⟩ v4).setCell ⟨g,5,none⟩ v5).setCell ⟨g,6,none⟩ v6).setCell ⟨g,7,none⟩ v7).setCell ⟨g,8,none⟩ v8) g #[a0,a1,a2,a3,a4,a5,a6,a7,a8] #[v0,v1,v2,v3,v4,v5,v6,v7,v8] T:=by
 have t0:StN w (w.setCell ⟨g,0,none⟩ v0) g #[a0,a1,a2,a3,a4,a5,a6,a7,a8] #[v0,a1,a2,a3,a4,a5,a6,a7,a8] T:=StN.at4 X 0 v0
 have s0:=t0
 have t1:StN (w.setCell ⟨g,0,none⟩ v0) ((w.setCell ⟨g,0,none⟩ v0).setCell ⟨g,1,none⟩ v1) g #[v0,a1,a2,a3,a4,a5,a6,a7,a8] #[v0,v1,a2,a3,a4,a5,a6,a7,a8] T:=StN.at4 s0.box 1 v1
 have s1:=s0.trans t1
 have t2:StN ((w.setCell ⟨g,0,none⟩ v0).setCell ⟨g,1,none⟩ v1) (((w.setCell ⟨g,0,none⟩ v0).setCell ⟨g,1,none⟩ v1).setCell ⟨g,2,none⟩ v2) g #[v0,v1,a2,a3,a4,a5,a6,a7,a8] #[v0,v1,v2,a3,a4,a5,a6,a7,a8] T:=StN.at4 s1.box 2 v2
 have s2:=s1.trans t2
 have t3:StN (((w.setCell ⟨g,0,none⟩ v0).setCell ⟨g,1,none⟩ v1).setCell ⟨g,2,none⟩ v2) ((((w.setCell ⟨g,0,none⟩ v0).setCell ⟨g,1,none⟩ v1).setCell ⟨g,2,none⟩ v2).setCell ⟨g,3,none⟩ v3) g #[v0,v1,v2,a3,a4,a5,a6,a7,a8] #[v0,v1,v2,v3,a4,a5,a6,a7,a8] T:=StN.at4 s2.box 3 v3
 have s3:=s2.trans t3
 have t4:StN ((((w.setCell ⟨g,0,none⟩ v0).setCell ⟨g,1,none⟩ v1).setCell ⟨g,2,none⟩ v2).setCell ⟨g,3,none⟩ v3) (((((w.setCell ⟨g,0,none⟩ v0).setCell ⟨g,1,none⟩ v1).setCell ⟨g,2,none⟩ v2).setCell ⟨g,3,none⟩ v3).setCell ⟨g,4,none⟩ v4) g #[v0,v1,v2,v3,a4,a5,a6,a7,a8] #[v0,v1,v2,v3,v4,a5,a6,a7,a8] T:=StN.at4 s3.box 4 v4
 have s4:=s3.trans t4
 have t5:StN (((((w.setCell ⟨g,0,none⟩ v0).setCell ⟨g,1,none⟩ v1).setCell ⟨g,2,none⟩ v2).setCell ⟨g,3,none⟩ v3).setCell ⟨g,4,none⟩ v4) ((((((w.setCell ⟨g,0,none⟩ v0).setCell ⟨g,1,none⟩ v1).setCell ⟨g,2,none⟩ v2).setCell ⟨g,3,none⟩ v3).setCell ⟨g,4,none⟩ v4).setCell ⟨g,5,none⟩ v5) g #[v0,v1,v2,v3,v4,a5,a6,a7,a8] #[v0,v1,v2,v3,v4,v5,a6,a7,a8] T:=StN.at4 s4.box 5 v5
 have s5:=s4.trans t5
 have t6:StN ((((((w.setCell ⟨g,0,none⟩ v0).setCell ⟨g,1,none⟩ v1).setCell ⟨g,2,none⟩ v2).setCell ⟨g,3,none⟩ v3).setCell ⟨g,4,none⟩ v4).setCell ⟨g,5,none⟩ v5) (((((((w.setCell ⟨g,0,none⟩ v0).setCell ⟨g,1,none⟩ v1).setCell ⟨g,2,none⟩ v2).setCell ⟨g,3,none⟩ v3).setCell ⟨g,4,none⟩ v4).setCell ⟨g,5,none⟩ v5).setCell ⟨g,6,none⟩ v6) g #[v0,v1,v2,v3,v4,v5,a6,a7,a8] #[v0,v1,v2,v3,v4,v5,v6,a7,a8] T:=StN.at4 s5.box 6 v6
 have s6:=s5.trans t6
 have t7:StN (((((((w.setCell ⟨g,0,none⟩ v0).setCell ⟨g,1,none⟩ v1).setCell ⟨g,2,none⟩ v2).setCell ⟨g,3,none⟩ v3).setCell ⟨g,4,none⟩ v4).setCell ⟨g,5,none⟩ v5).setCell ⟨g,6,none⟩ v6) ((((((((w.setCell ⟨g,0,none⟩ v0).setCell ⟨g,1,none⟩ v1).setCell ⟨g,2,none⟩ v2).setCell ⟨g,3,none⟩ v3).setCell ⟨g,4,none⟩ v4).setCell ⟨g,5,none⟩ v5).setCell ⟨g,6,none⟩ v6).setCell ⟨g,7,none⟩ v7) g #[v0,v1,v2,v3,v4,v5,v6,a7,a8] #[v0,v1,v2,v3,v4,v5,v6,v7,a8] T:=StN.at4 s6.box 7 v7
 have s7:=s6.trans t7
 have t8:StN ((((((((w.setCell ⟨g,0,none⟩ v0).setCell ⟨g,1,none⟩ v1).setCell ⟨g,2,none⟩ v2).setCell ⟨g,3,none⟩ v3).setCell ⟨g,4,none⟩ v4).setCell ⟨g,5,none⟩ v5).setCell ⟨g,6,none⟩ v6).setCell ⟨g,7,none⟩ v7) (((((((((w.setCell ⟨g,0,none⟩ v0).setCell ⟨g,1,none⟩ v1).setCell ⟨g,2,none⟩ v2).setCell ⟨g,3,none⟩ v3).setCell ⟨g,4,none⟩ v4).setCell ⟨g,5,none⟩ v5).setCell ⟨g,6,none⟩ v6).setCell ⟨g,7,none⟩ v7).setCell ⟨g,8,none⟩ v8) g #[v0,v1,v2,v3,v4,v5,v6,v7,a8] #[v0,v1,v2,v3,v4,v5,v6,v7,v8] T:=StN.at4 s7.box 8 v8
 have s8:=s7.trans t8;exact s8
def Ci (e:Bool)(K:Int)(s:Bool)(M E K':Int)(s':Bool)(M' E':Int):Sp→Prop
 | none=>e=true∧Fq K s M E 0∧Fq K' s' M' E' 0
 | some (a,b)=>e=false∧Fq K s M E a∧Fq K' s' M' E' b∧a≤b∧a < 19342822337206103650074625∧ -19342822337206103650074625 < b
section
variable {e e2:Bool} {K M E K' M' E' K2 M2 E2 K2' M2' E2':Int} {s s' s2 s2':Bool} {x y:Sp}
theorem Ci.top (h:Ci e K s M E K' s' M' E' x):M < 18446744073709551616∧M' < 18446744073709551616:=by
 rcases x with _ | ⟨a,b⟩
 ·exact⟨h.2.1.top,h.2.2.top⟩
 ·exact⟨h.2.1.top,h.2.2.1.top⟩
theorem Ci.uniq (h:Ci e K s M E K' s' M' E' x)(k:Ci e2 K2 s2 M2 E2 K2' s2' M2' E2' x):e=e2∧K=K2∧s=s2∧M=M2∧E=E2∧K'=K2'∧s'=s2'∧M'=M2'∧E'=E2':=by
 rcases x with _ | ⟨a,b⟩
 ·obtain⟨h1,q1,q2⟩:=h;obtain⟨k1,p1,p2⟩:=k;obtain⟨c1,c2,c3,c4⟩:=q1.uniq p1;obtain⟨d1,d2,d3,d4⟩:=q2.uniq p2;exact⟨h1.trans k1.symm,c1,c2,c3,c4,d1,d2,d3,d4⟩
 ·obtain⟨h1,q1,q2,_⟩:=h;obtain⟨k1,p1,p2,_⟩:=k;obtain⟨c1,c2,c3,c4⟩:=q1.uniq p1;obtain⟨d1,d2,d3,d4⟩:=q2.uniq p2;exact⟨h1.trans k1.symm,c1,c2,c3,c4,d1,d2,d3,d4⟩
end
theorem Ci.none:Ci true 0 false 0 0 0 false 0 0 none:=⟨rfl,Fq.nought,Fq.nought⟩
def rkI (e:Bool)(K:Int)(s:Bool)(M E K':Int)(s':Bool)(M' E':Int):Sp:=if e=true then none else if MayQ K s M E∧MayQ K' s' M' E' then mkI (rk K s M E) (rk K' s' M' E')else none
def mayI (e:Bool)(K:Int)(s:Bool)(M E K':Int)(s':Bool)(M' E':Int):Bool:=if e=true then (decide (K=0∧s=false∧M=0∧E=0) && decide (K'=0∧s'=false∧M'=0∧E'=0))else decide (rkI e K s M E K' s' M' E'≠none)
section
variable {e:Bool} {K M E K' M' E':Int} {s s':Bool} {x:Sp}
theorem rkI_t:rkI true K s M E K' s' M' E'=none:=if_pos rfl
theorem rkI_f:rkI false K s M E K' s' M' E'=if MayQ K s M E∧MayQ K' s' M' E' then mkI (rk K s M E) (rk K' s' M' E')else none:=if_neg ff
theorem rkI_ok (hM:LQ M)(hM':LQ M'):SpOk (rkI e K s M E K' s' M' E'):=by
 cases e
 ·rw [rkI_f]
  by_cases h:MayQ K s M E∧MayQ K' s' M' E'
  ·rw [if_pos h];exact mkI_ok (rk_fq hM h.1).bd.1 (rk_fq hM' h.2).bd.2
  ·rw [if_neg h];exact trivial
 ·exact trivial
theorem mayI_ci (hM:LQ M)(hM':LQ M')(h:mayI e K s M E K' s' M' E'=true):Ci e K s M E K' s' M' E' (rkI e K s M E K' s' M' E'):=by
 unfold mayI at h
 cases e
 ·rw [if_neg ff,decide_eq_true_iff]at h;rw [rkI_f]at h⊢
  by_cases hq:MayQ K s M E∧MayQ K' s' M' E'
  ·rw [if_pos hq]at h⊢
   by_cases hc:rk K s M E≤rk K' s' M' E'∧rk K s M E < 19342822337206103650074625∧ -19342822337206103650074625 < rk K' s' M' E'
   ·rw [mkI_some hc.1 hc.2.1 hc.2.2];exact⟨rfl,rk_fq hM hq.1,rk_fq hM' hq.2,hc⟩
   ·exact absurd (mkI_none hc) h
  ·rw [if_neg hq]at h;exact absurd rfl h
 ·rw [if_pos rfl,Bool.and_eq_true,decide_eq_true_iff,decide_eq_true_iff]at h;obtain⟨⟨rfl,rfl,rfl,rfl⟩,rfl,rfl,rfl,rfl⟩:=h;exact Ci.none
theorem mayI_no (h:mayI e K s M E K' s' M' E'=false):rkI e K s M E K' s' M' E'=none:=by
 cases e
 ·unfold mayI at h
  rw [if_neg ff,decide_eq_false_iff_not]at h;exact Decidable.not_not.1 h
 ·exact rkI_t
theorem Ci.rk (h:Ci e K s M E K' s' M' E' x):rkI e K s M E K' s' M' E'=x:=by
 rcases x with _ | ⟨a,b⟩
 ·obtain⟨rfl,_⟩:=h;exact rkI_t
 ·obtain⟨rfl,q1,q2,h1,h2,h3⟩:=h;rw [rkI_f,if_pos ⟨q1.1,q2.1⟩,q1.rk,q2.rk,mkI_some h1 h2 h3]
theorem Ci.may (h:Ci e K s M E K' s' M' E' x):mayI e K s M E K' s' M' E'=true:=by
 have hr:=h.rk
 unfold mayI
 rcases x with _ | ⟨a,b⟩
 ·obtain⟨rfl,q1,q2⟩:=h;obtain⟨rfl,rfl,rfl,rfl⟩:=q1.uniq Fq.nought;obtain⟨rfl,rfl,rfl,rfl⟩:=q2.uniq Fq.nought
  rfl
 ·obtain⟨rfl,_⟩:=h;rw [if_neg ff,hr]
  rfl
end
def PV (w:World)(x:Sp)(e:Ending)(w':World):Prop:=∃e0 K s M E K' s' M' E',e= .returned (.agg #[.bool e0,.int .i64 K,.bool s,.int .u64 M,.int .i64 E,.int .i64 K',.bool s',.int .u64 M',.int .i64 E'])∧Ci e0 K s M E K' s' M' E' x∧Below w.heap.size w w'
def Jo.Fact.iv (x:Sp):Jo.Fact:=⟨fun v w=>∃e0 K s M E K' s' M' E',v= .agg #[.bool e0,.int .i64 K,.bool s,.int .u64 M,.int .i64 E,.int .i64 K',.bool s',.int .u64 M',.int .i64 E']∧Ci e0 K s M E K' s' M' E' x,fun v w w' h b=>h⟩
def Il8 (w:World)(A:Option Addr)(n c:Nat)(l:List Sp):Prop:=
 l.length=n∧n≤c∧n≤1099511627776∧(0 < n→∃b o,A=some ⟨b,o,none⟩∧∀k,k < n→∃e K s M E K' s' M' E',w.cell? ⟨b,o+k*9,none⟩=some (.bool e)∧w.cell? ⟨b,o+k*9+1,none⟩=some (.int .i64 K)∧w.cell? ⟨b,o+k*9+2,none⟩=some (.bool s)∧w.cell? ⟨b,o+k*9+3,none⟩=some (.int .u64 M)∧w.cell? ⟨b,o+k*9+4,none⟩=some (.int .i64 E)∧w.cell? ⟨b,o+k*9+5,none⟩=some (.int .i64 K')∧w.cell? ⟨b,o+k*9+6,none⟩=some (.bool s')∧w.cell? ⟨b,o+k*9+7,none⟩=some (.int .u64 M')∧w.cell? ⟨b,o+k*9+8,none⟩=some (.int .i64 E')∧M < 18446744073709551616∧M' < 18446744073709551616∧rkI e K s M E K' s' M' E'=l.getD k none)
theorem Il8.below{w w':World}{A:Option Addr}{n c:Nat}{l:List Sp}(h:Il8 w A n c l)(hb:Below w.heap.size w w'):Il8 w' A n c l:=by
 obtain⟨h1,h2,h3,h4⟩:=h
 refine⟨h1,h2,h3,fun hn=>?_⟩
 obtain⟨b,o,e,hc⟩:=h4 hn
 refine⟨b,o,e,fun k hk=>?_⟩
 obtain⟨e,K,s,M,E,K',s',M',E',c0,c1,c2,c3,c4,c5,c6,c7,c8,hM,hM',hr⟩:=hc k hk
 have t:∀{i:Nat} {v:Value},w.cell? ⟨b,i,none⟩=some v→w'.cell? ⟨b,i,none⟩=some v:=fun c=>(hb.cell (p:=⟨b,_,none⟩) (block_lt_of_cell c)).trans c
 exact⟨e,K,s,M,E,K',s',M',E',t c0,t c1,t c2,t c3,t c4,t c5,t c6,t c7,t c8,hM,hM',hr⟩
theorem Il8.ok{w:World}{A:Option Addr}{n c:Nat}{l:List Sp}(h:Il8 w A n c l):∀y ∈ l,SpOk y:=by
 intro y hy
 obtain⟨k,hk,e⟩:=List.getElem_of_mem hy;obtain⟨h1,h2,h3,h4⟩:=h;obtain⟨b,o,_,hc⟩:=h4 (by omega);obtain⟨e0,K,s,M,E,K',s',M',E',_,_,_,_,_,_,_,_,_,hM,hM',hr⟩:=hc k (by omega)
 have:l.getD k none=y:=by
  rw [List.getD_eq_getElem?_getD,List.getElem?_eq_getElem hk,e]
  rfl
 rw [←this,←hr];exact rkI_ok hM hM'
theorem StN.of9{w w1:World}{g:Nat}{T:TypeId}{a0 a1 a2 a3 a4 a5 a6 a7 a8 v0 v1 v2 v3 v4 v5 v6 v7 v8:Value}(X:Bo w g #[a0,a1,a2,a3,a4,a5,a6,a7,a8] T)(h:((((((((w.setCell ⟨g,0,none⟩ v0).setCell ⟨g,1,none⟩ v1).setCell ⟨g,2,none⟩ v2).setCell ⟨g,3,none⟩ v3).setCell ⟨g,4,none⟩ v4).setCell ⟨g,5,none⟩ v5).setCell ⟨g,6,none⟩ v6).setCell ⟨g,7,none⟩ v7).setCell ⟨g,8,none⟩ v8=w1):StN w w1 g #[a0,a1,a2,a3,a4,a5,a6,a7,a8] #[v0,v1,v2,v3,v4,v5,v6,v7,v8] T:=h▸StN.mk9 X v0 v1 v2 v3 v4 v5 v6 v7 v8
theorem fq_inf2 (s:Bool):Fq 2 s 0 0 (sgi s TP):=⟨.inr (.inr ⟨rfl,rfl,rfl⟩),by decide,by
 cases s <;> rfl⟩
def serI (m:Int):Int:=if 4*SC < (m.natAbs:Int)then 0 else si m 40
def bndI (a lo hi:Int):Int:=if a < lo then lo else if hi < a then hi else a
def unitI:Sp:=mkI (opl (-1)) (opl 1)
theorem cmp_lt12{x y c:Int}(h:cmpI x y=c):decide (c < 0)=decide (x < y)∧decide (0 < c)=decide (y < x):=by
 rw [←h]
 rcases cmpI_tri x y with⟨a,b⟩ | ⟨a,b⟩ | ⟨a,b⟩ <;> rw [b]
 ·exact⟨by rw [decide_eq_true a];rfl,by rw [decide_eq_false (show ¬y < x by omega)];rfl⟩
 ·exact⟨by rw [decide_eq_false (show ¬x < y by omega)];rfl,by rw [decide_eq_false (show ¬y < x by omega)];rfl⟩
 ·exact⟨by rw [decide_eq_false (show ¬x < y by omega)];rfl,by rw [decide_eq_true (show y < x by omega)];rfl⟩
theorem ti_step (x:Int)(j:Nat):(ti x j*x/SC*x/SC).fdiv (2*((j:Int)+1)*(2*((j:Int)+1)+1))= -ti x (j+1):=by
 rw [Int.fdiv_eq_ediv_of_nonneg _ (Int.mul_nonneg (by omega) (by omega))]
 show _= - -_
 rw [Int.neg_neg]
theorem inv_step{n p s:Int}{k:Nat}{R:Int × Nat}(hn:2≤n)(hk:k≤100)(hp:(2:Int)^(2*k+1)≤p)(h:invG n (200-k) k s p=R):∃T:Int,SC.fdiv (p*(2*(k:Int)+1))=T∧p*(2*(k:Int)+1)≠0∧0≤T∧(T=0→(s,k)=R)∧
  (T≠0→k+1≤100∧(2:Int)^(2*(k+1)+1)≤p*(n*n)∧invG n (200-(k+1)) (k+1) (if k%2=1 then s+ -T else s+T) (p*(n*n))=R):=by
 have p2:(0:Int) < 2^(2*k+1):=Int.pow_pos (by decide)
 have pp:0 < p:=by omega
 have hd:0 < p*(2*(k:Int)+1):=Int.mul_pos pp (by omega)
 have hf:SC.fdiv (p*(2*(k:Int)+1))=SC/ (p*(2*(k:Int)+1)):=Int.fdiv_eq_ediv_of_nonneg _ (by omega)
 refine⟨_,hf,by omega,Int.ediv_nonneg (by decide) (by omega),fun e=>?_,fun e=>?_⟩
 ·rw [show 200-k=(199-k)+1 by omega]at h
  unfold invG at h
  rw [if_pos e]at h;exact h
 ·rw [show 200-k=(200-(k+1))+1 by omega]at h
  unfold invG at h
  rw [if_neg e]at h
  have le:p*(2*(k:Int)+1)≤SC:=by
   rcases Int.lt_or_le SC (p*(2*(k:Int)+1))with c | c
   ·exact absurd (Int.ediv_eq_zero_of_lt (by decide) c) e
   ·exact c
  have le2:p≤SC:=Int.le_trans (by
   have:p*1≤p*(2*(k:Int)+1):=Int.mul_le_mul_of_nonneg_left (by omega) (by omega)
   omega) le
  refine⟨?_,?_,h⟩
  ·rcases Nat.lt_or_ge k 100 with c | c
   ·omega
   ·exfalso
    have hk2:k=100:=by omega
    subst hk2
    have:(2:Int)^(2*100+1)≤SC:=Int.le_trans hp le2
    revert this
    decide
  ·rw [show 2*(k+1)+1=(2*k+1)+2 by omega,Int.pow_add]
   have h4:(2:Int)^2≤n*n:=by
    have a:(2:Int)*2≤n*2:=Int.mul_le_mul_of_nonneg_right hn (by decide)
    have b:n*2≤n*n:=Int.mul_le_mul_of_nonneg_left hn (by omega)
    show (4:Int)≤n*n
    omega
   exact Int.mul_le_mul hp h4 (by decide) (by omega)
def btL (x y:Int):Int:=if qI x%2=0 then serI (rI x)-(tI x y-rI x+200)else -(serI (rI x)+(tI x y-rI x+200))
def btH (x y:Int):Int:=if qI x%2=0 then serI (rI x)+(tI x y-rI x+200)else -(serI (rI x)-(tI x y-rI x+200))
theorem bnd_fits (a:Int):(bndI a (-SC) SC).natAbs < 4294967296^7:=by
 have e:(4294967296:Nat)^7=26959946667150639794667015087019630673637144422540572481103610249216:=by decide
 rw [e]
 unfold bndI SC
 split
 ·decide
 ·split
  ·decide
  ·omega
end Go.Proofs.YtaadmpiphnfllaaGreatDoor
namespace Go.Proofs.YtaadmpiphnfllaaGreatDoor
open Go Go.RowKit
set_option linter.unusedVariables false
def fixB (x:Int):Bool:=decide (-opl 1073741824 < x∧x < opl 1073741824)
def fixI (x:Int):Int:=if fixB x=true then vr x*SC/2^KK else 0
theorem flr_uniq{a b q:Int}(hb:0 < b)(h1:q*b≤a)(h2:a < (q+1)*b):a/b=q:=
 Int.le_antisymm (Int.lt_add_one_iff.1 (Int.ediv_lt_of_lt_mul hb h2)) (Int.le_ediv_of_mul_le hb h1)
theorem sc_pow:SC=2^192:=by decide
theorem flr_moved{N F:Int}(nf:mk N F=(N,F))(hN:N.natAbs < 2^128)(h1: -2900000≤F)(h2:F≤2900000):
  flr (mv N F 192).1 (mv N F 192).2=N*2^(F+KK).toNat*SC/2^KK:=by
 have e:mv N F 192=mk N (F+192):=by
  unfold mv
  rw [if_neg (by omega),nf]
 rw [e];obtain⟨a,b⟩:=flr_vl (mk_nf N (F+192));have v:=mk_vl hN (e:=F+192) (by omega) (by omega)
 rw [v,show (F+192+(KK:Int)).toNat=(F+KK).toNat+192 by rw [KK_eq];omega,Int.pow_add,←Int.mul_assoc,←sc_pow]at a b
 exact (flr_uniq (p2pos KK) a b).symm
theorem fixI_yes{x:Int}(h:fixB x=true):fixI x=vr x*SC/2^KK:=if_pos h
theorem fixI_no{x:Int}(h:fixB x=false):fixI x=0:=if_neg (by rw [h];decide)
theorem t30:opl 1073741824 < 19342822337206103650074625∧0 < opl 1073741824:=by
 have a:=opl_fin (a:=1073741824) (by decide) (by decide);have b:=opl_vr (n:=1073741824) (by decide) (by decide);refine⟨a.2,?_⟩
 rcases Int.lt_or_le 0 (opl 1073741824)with h | h
 ·exact h
 ·exfalso
  have c:=vr_le h
  rw [b,show vr 0=0 from rfl]at c
  have:=p2pos KK
  omega
theorem fixB_fin{x:Int}(h:fixB x=true): -19342822337206103650074625 < x∧x < 19342822337206103650074625:=by
 have a:=of_decide_eq_true h;have b:=t30
 omega
theorem fix_holds{x:Int}(h:fixB x=true):fixI x*2^KK≤vr x*SC∧vr x*SC < (fixI x+1)*2^KK:=by
 rw [fixI_yes h];have hp:=p2pos KK;exact⟨Int.ediv_mul_le _ (by omega),Int.lt_ediv_add_one_mul_self _ hp⟩
theorem fix_exq{s:Bool}{M E x:Int}(q:Fq 1 s M E x):∃N F,exb 1 s M E=true∧(exq 1 s M E).1=N∧(exq 1 s M E).2=F∧mk N F=(N,F)∧vr x=N*2^(F+KK).toNat∧N.natAbs < 2^64∧ -2900000≤F∧F≤2900000∧(N < 0↔s=true):=by
 obtain⟨h1,h2,h3,h4,fx⟩:9223372036854775808≤M∧M < 18446744073709551616∧ -1048576≤E∧E≤1048576∧(-19342822337206103650074625 < x∧x < 19342822337206103650074625):=by
  rcases q.cases with⟨c,_⟩ | ⟨_,h1,h2,h3,h4,⟨_,h5⟩ | ⟨_,h5⟩⟩ | ⟨c,_⟩
  ·omega
  ·exact⟨h1,h2,h3,h4,by omega,by omega⟩
  ·exact⟨h1,h2,h3,h4,by omega,by omega⟩
  ·omega
 obtain⟨hb,hv⟩:=exq_vl q fx.1 fx.2
 have he:exq 1 s M E=mk (sgi s M) E:=if_pos hb
 have hz:sgi s M≠0∧(sgi s M).natAbs=M.natAbs∧(sgi s M < 0↔s=true):=by
  cases s
  ·rw [show sgi false M=M from if_neg (by decide)]
   exact⟨by omega,rfl,by constructor <;> intro h <;> first | omega | cases h⟩
  ·rw [show sgi true M= -M from if_pos rfl]
   exact⟨by omega,by omega,by constructor <;> intro h <;> first | omega | rfl⟩
 obtain⟨z0,z1,z2⟩:=hz;rw [he]at hv;rw [he];generalize sgi s M=z at *;obtain⟨e1,_⟩:=v2_spec z.natAbs (by omega)
 have hm:z.natAbs < 2^64:=by omega
 have v64:v2 z.natAbs < 64:=by
  rcases Nat.lt_or_ge (v2 z.natAbs) 64 with c | c
  ·exact c
  ·exfalso
   have a:2^64≤2^v2 z.natAbs:=Nat.pow_le_pow_right (by decide) c
   have b:0 < z.natAbs/2^v2 z.natAbs:=by
    rcases Nat.eq_zero_or_pos (z.natAbs/2^v2 z.natAbs)with d | d
    ·rw [d,Nat.zero_mul]at e1
     omega
    ·exact d
   have d:=Nat.mul_le_mul b (Nat.le_refl (2^v2 z.natAbs))
   omega
 obtain⟨k1,k2,k3,_,_⟩:=mk_in (z:=z) (e:=E) z0 (by omega) (by omega);have nf:=mk_nf z E;refine⟨_,_,hb,rfl,rfl,nf,hv.symm,?_,by omega,by omega,k3.trans z2⟩
 rw [k2];exact Nat.lt_of_le_of_lt (Nat.div_le_self _ _) hm
theorem fix_inf{s:Bool}{M E x:Int}(q:Fq 2 s M E x):fixB x=false∧fixI x=0∧exb 2 s M E=false:=by
 have t:=t30
 have h:fixB x=false:=by
  refine decide_eq_false ?_
  rcases q.cases with⟨c,_⟩ | ⟨c,_⟩ | ⟨_,_,_,⟨_,h5⟩ | ⟨_,h5⟩⟩
  ·omega
  ·omega
  ·omega
  ·omega
 exact⟨h,fixI_no h,by unfold exb;simp⟩
theorem fq_mn{K:Int}{s:Bool}{M E x:Int}(q:Fq K s M E x):0≤M:=by
 rcases q.cases with⟨_,_,rfl,_⟩ | ⟨_,h1,_⟩ | ⟨_,rfl,_⟩ <;> omega
theorem fq_kind{K:Int}{s:Bool}{M E x:Int}(q:Fq K s M E x):(K=0∧x=0)∨K=1∨K=2:=by
 rcases q.cases with⟨a,_,_,_,b⟩ | ⟨a,_⟩ | ⟨a,_⟩
 ·exact .inl ⟨a,b⟩
 ·exact .inr (.inl a)
 ·exact .inr (.inr a)
theorem fix_fits{x:Int}(h:fixB x=true):(fixI x).natAbs < 4294967296^10:=by
 obtain⟨a,b⟩:=fix_holds h;have hb:=of_decide_eq_true h;have v1:=vr_lt hb.2;have v2:=vr_lt hb.1;rw [vr_neg,opl_vr (by decide) (by decide)]at v2;rw [opl_vr (by decide) (by decide)]at v1;have hp:=p2pos KK
 have d1:=Int.mul_lt_mul_of_pos_right v1 (show (0:Int) < SC by decide)
 have d2:=Int.mul_lt_mul_of_pos_right v2 (show (0:Int) < SC by decide)
 have e1:1073741824*2^KK*SC=1073741824*SC*2^KK:=by rw [Int.mul_assoc,Int.mul_comm (2^KK) SC,←Int.mul_assoc]
 have e2: -(1073741824*2^KK)*SC= -(1073741824*SC)*2^KK:=by rw [Int.neg_mul,e1,Int.neg_mul]
 rw [e1]at d1;rw [e2]at d2
 have f1:fixI x < 1073741824*SC:=Int.lt_of_mul_lt_mul_right (Int.lt_of_le_of_lt a d1) (by omega)
 have f2: -(1073741824*SC) < fixI x+1:=Int.lt_of_mul_lt_mul_right (Int.lt_trans d2 b) (by omega)
 have g:(fixI x).natAbs < 13479973333575319897333507543509815336818572211270286240551805124608:=by
  generalize fixI x=z at *;clear a b d1 d2 e1 e2 v1 v2
  unfold SC at f1 f2
  omega
 exact Nat.lt_of_lt_of_le g (by decide)
end Go.Proofs.YtaadmpiphnfllaaGreatDoor
namespace Go.Proofs.YtaadmpiphnfllaaGreatDoor
open Go.RowKit
set_option linter.unusedVariables false
set_option linter.unusedSimpArgs false
set_option maxRecDepth 100000
def WB (w:World)(K:Nat)(z:Int)(t:Bool)(e:Ending)(w':World):Prop:=∃s A n c,e= .returned (.tuple #[.agg #[.bool s,.slice A n c],.bool t])∧Wn w' s A n c z∧n≤K∧Below w.heap.size w w'
def ofX (cos:Bool)(g:Int):Int:=if cos then g+PLo/2 else g
def ofY (cos:Bool)(g:Int):Int:=if cos then g+1+(PHi+1) /2 else g+1
def ofL (cos:Bool)(g:Int):Int:=bndI (btL (ofX cos g) (ofY cos g)) (-SC) SC
def ofH (cos:Bool)(g:Int):Int:=bndI (btH (ofX cos g) (ofY cos g)) (-SC) SC
def Sv (cos:Bool)(x:Int)(z:Sp):Prop:=(fixB x=false∧unitI=z)∨(fixB x=true∧∃r u,Rq false (ofL cos (fixI x)) SC r∧Rq true (ofH cos (fixI x)) SC u∧mkI r u=z)
theorem sv_ex (cos:Bool)(x:Int):∃z,Sv cos x z:=by
 cases hf:fixB x
 ·exact⟨_,Or.inl ⟨hf,rfl⟩⟩
 ·obtain⟨r,hr⟩:=rq_ex false (ofL cos (fixI x)) SC;obtain⟨u,hu⟩:=rq_ex true (ofH cos (fixI x)) SC;exact⟨_,Or.inr ⟨hf,r,u,hr,hu,rfl⟩⟩
end Go.Proofs.YtaadmpiphnfllaaGreatDoor
