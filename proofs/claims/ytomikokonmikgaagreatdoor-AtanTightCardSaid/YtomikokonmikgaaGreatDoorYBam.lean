/-
 Contracts that the proof rests on.
-/
import Derived.StillTailTactics
import Derived.Test.YtomikokonmikgaaGreatDoorYBaj
import Derived.Test.YtomikokonmikgaaGreatDoorYBal
namespace Go.Proofs.YtomikokonmikgaaGreatDoor
set_option maxHeartbeats 1000000
open Go.RowKit
set_option linter.unusedVariables false
section
variable {w:World} {g:Nat} {a b c:Value} {T:TypeId}
theorem Bo.c0 (h:Bo w g #[a,b,c] T):w.cell? ⟨g,0,none⟩=some a:=h.cell 0
theorem Bo.c1 (h:Bo w g #[a,b,c] T):w.cell? ⟨g,1,none⟩=some b:=h.cell 1
theorem Bo.c2 (h:Bo w g #[a,b,c] T):w.cell? ⟨g,2,none⟩=some c:=h.cell 2
end
theorem dbox2 (w:World)(s:Bool)(A:Option Addr)(n c:Nat)(e:Int){W:World}(hW:W=(w.alloc (.cells #[.bool s,.slice A n c,.int .i64 e] 124)).alloc (.cells #[.bool false,.slice none 0 0,.int .i64 0] 124)):
  Bd W w.heap.size s A n c e/\Bd W (w.heap.size+1) false none 0 0 0/\Below w.heap.size w W:=by
 subst hW;exact⟨(Bo.new w _ _).below (bel1 _ _),Bo.newAt _ (by simp) _ _,bel2 _ _ _⟩
theorem mk_bd (z e:Int): -4194304<=(mk z e).2/\(mk z e).2<=4194304:=by
 unfold mk
 split
 ·simp
 ·rename_i h
  simp only
  omega
def mv (z e k:Int):Int × Int:=if 16777216 < k\/k < -16777216 then (0,0)else mk (mk z e).1 ((mk z e).2+k)
def flr (N E:Int):Int:=if 0<=E then N*((2^E.toNat:Nat):Int)else N.fdiv ((2^(-E).toNat:Nat):Int)
def tzs:List Int:=[0,1,28,2,29,14,24,3,30,22,20,15,25,17,4,8,31,27,13,23,21,19,16,7,26,12,18,6,11,5,10,9]
def Tab (w:World):Prop:=∀i,i < 32->w.cell? ⟨2,i,none⟩=some (.int .u8 (tzs.getD i 0))
section
variable {w w':World}
theorem Tab.lt (h:Tab w):2 < w.heap.size:=World.block_lt_of_cell? w _ (h 0 (by decide))
theorem Tab.keep (h:Tab w)(hk:w'.heap[2]?=w.heap[2]?):Tab w':=fun i hi=>by
 rw[<-h i hi];simp only[World.cell?,hk]
theorem Tab.below (h:Tab w)(hb:Below w.heap.size w w'):Tab w':=h.keep (hb.block _ h.lt)
abbrev Tab.b:= @Tab.below
theorem Tab.drew (h:Tab w):Tab w.drew:=h
end
theorem land_odd (a b:Nat):(2*a+1) &&& (2*b+1)=2*(a &&& b)+1:=by
 apply Nat.eq_of_testBit_eq
 intro i
 cases i with
 | zero=>simp [Nat.testBit_zero]
 | succ i=>
  rw[Nat.testBit_and,Nat.testBit_add_one,Nat.testBit_add_one,Nat.testBit_add_one,show (2*a+1) /2=a by omega,show (2*b+1) /2=b by omega,show (2*(a &&& b)+1) /2=a &&& b by omega,Nat.testBit_and]
theorem land_not (q j:Nat)(h:q < 2^j):q &&& (2^j-(q+1))=0:=by
 apply Nat.eq_of_testBit_eq
 intro i
 rw[Nat.testBit_and,Nat.testBit_two_pow_sub_succ h]
 cases q.testBit i <;> simp
theorem land_low{x:Nat}(h0:x≠0)(hx:x < 4294967296):x &&& (4294967296-x)=2^v2 x/\v2 x < 32:=by
 obtain⟨e,ho⟩:=v2_spec x h0
 have hk:v2 x < 32:=by
  have h1:=v2_pow_le h0
  have h2:2^v2 x < 2^32:=by omega
  exact(Nat.pow_lt_pow_iff_right (by decide)).1 h2
 refine⟨?_,hk⟩
 revert e ho hk
 generalize x/2^v2 x=m;generalize v2 x=k
 intro e ho hk
 have hp:(4294967296:Nat)=2^(32-k)*2^k:=by rw[<-Nat.pow_add,show 32-k+k=32 by omega]
 have hm:m < 2^(32-k):=by
  have:m*2^k < 2^(32-k)*2^k:=by rw[<-hp,<-e];exact hx
  exact Nat.lt_of_mul_lt_mul_right this
 have e2:4294967296-x=(2^(32-k)-m)*2^k:=by rw[Nat.sub_mul,<-hp,<-e]
 have hand:(m*2^k) &&& ((2^(32-k)-m)*2^k)=(m &&& (2^(32-k)-m))*2^k:=by
  rw[<-Nat.shiftLeft_eq,<-Nat.shiftLeft_eq,<-Nat.shiftLeft_eq,Nat.shiftLeft_and_distrib]
 rw[e2]
 have e3:x &&& (2^(32-k)-m)*2^k=(m*2^k) &&& ((2^(32-k)-m)*2^k):=by rw[<-e]
 rw[e3,hand];obtain⟨j,hj⟩:∃j,32-k=j+1:=⟨31-k,by omega⟩
 rw[hj]at hm|-;obtain⟨q,rfl⟩:∃q,m=2*q+1:=⟨m/2,by omega⟩
 have hq:q < 2^j:=by rw[Nat.pow_succ]at hm;omega
 rw[show 2^(j+1)-(2*q+1)=2*(2^j-(q+1))+1 by rw[Nat.pow_succ];omega,land_odd,land_not q j hq]
 simp
theorem tz_index:∀k:Nat,k < 32->(((2^k:Nat):Int)*125613361%4294967296/134217728).toNat < 32/\0<=((2^k:Nat):Int)*125613361%4294967296/134217728/\tzs.getD (((2^k:Nat):Int)*125613361%4294967296/134217728).toNat 0=(k:Int):=by decide +kernel
theorem tz32{w:World}{x:Nat}(hT:Tab w)(h0:x≠0)(hx:x < 4294967296):Calls Tryz.prog 271 #[.int .u32 (x:Int)] w fun e w'=>e= .returned (.int .i64 (v2 x:Nat))/\w'=w:=by
 have hq:((x:Int)==0)=false:=by
  have:(x:Int)≠0:=by omega
  simpa using this
 obtain⟨e1,hk⟩:=land_low h0 hx
 have hb:bits BinOp.and IntKind.u32 (x:Int) (-(x:Int)%4294967296)=((2^v2 x:Nat):Int):=by
  have e2: -(x:Int)%4294967296=((4294967296-x:Nat):Int):=by omega
  rw[e2,u32_and_nat _ _ hx (by omega),e1]
 obtain⟨t1,t2,t3⟩:=tz_index (v2 x) hk;have hc:=hT _ t1;rw[t3]at hc
 revert hb t1 t2 hc
 generalize ((2^v2 x:Nat):Int)=p
 intro hb t1 t2 hc
 obtain⟨i,hi⟩:∃i:Int,p*125613361%4294967296/134217728=i:=⟨_,rfl⟩;rw[hi]at t1 t2 hc;obtain⟨i,rfl⟩:=Int.eq_ofNat_of_zero_le t2
 have hi2:i < 32:=by simpa using t1
 have hc2:w.cell? ⟨2,i,none⟩=some (.int .u8 ((v2 x:Nat):Int)):=by simpa using hc
 clear hc t1 t2 t3 hT e1
 revert hc2 hk
 generalize v2 x=k
 intro hk hc
 go_enter Tryz.func271,Tryz.ntmps271
 go_wp2
 go_ret
 exact⟨rfl,rfl⟩
theorem ret_i64{a b:Int}(h:a=b):Ending.returned (.int .i64 a)= .returned (.int .i64 b):=by rw[h]
theorem v2_low{x y:Nat}(h0:x≠0)(hx:x < 4294967296):v2 (x+4294967296*y)=v2 x:=by
 obtain⟨e,ho⟩:=v2_spec x h0;have hk:=(land_low h0 hx).2
 revert e ho hk
 generalize x/2^v2 x=m;generalize v2 x=k
 intro e ho hk
 obtain⟨j,hj⟩:∃j,32-k=j+1:=⟨31-k,by omega⟩
 have hp:(4294967296:Nat)=2*2^j*2^k:=by
  rw[show 2*2^j=2^(j+1) by rw[Nat.pow_succ,Nat.mul_comm],<-hj,<-Nat.pow_add,show 32-k+k=32 by omega]
 refine(v2_uniq (m:=m+2*(2^j*y)) (k:=k) (by omega) ?_).1;rw[Nat.add_mul,<-e,hp]
 congr 1
 rw[Nat.mul_right_comm,Nat.mul_assoc 2,Nat.mul_assoc 2]
theorem v2_high{y:Nat}(h:y≠0):v2 (4294967296*y)=v2 y+32:=by
 obtain⟨e,ho⟩:=v2_spec y h;refine(v2_uniq (m:=y/2^v2 y) (k:=v2 y+32) ho ?_).1;rw[Nat.pow_add,<-Nat.mul_assoc,<-e,Nat.mul_comm]
theorem v2_val:∀{xs:List Nat},Lim xs->val xs≠0->∃j,j < xs.length/\(∀i,i < j->xs.getD i 0=0)/\xs.getD j 0≠0/\v2 (val xs)=j*32+v2 (xs.getD j 0)
 | [],_,h=>absurd rfl h
 | x::xs,hl,h=>by
  rw[val_cons]at h|-
  by_cases hx:x=0
  ·subst hx
   have h1:val xs≠0:=by omega
   obtain⟨j,h2,h3,h4,h5⟩:=v2_val hl.tail h1
   refine⟨j+1,by simp;omega,fun i hi=>?_,by simpa using h4,?_⟩
   ·cases i with
    | zero=>rfl
    | succ i=>simpa using h3 i (by omega)
   ·rw[Nat.zero_add,v2_high h1,h5,show (0::xs).getD (j+1) 0=xs.getD j 0 by simp]
    omega
  ·exact⟨0,by simp,fun i hi=>by omega,by simpa using hx,by rw[v2_low hx hl.head];simp⟩
theorem dTrailing{w:World}{A:Option Addr}{n c a:Nat}{r:Int}(hT:Tab w)(h:Rd w A n c a)(h0:a≠0)(hr:((v2 a:Nat):Int)=r):Calls Tryz.prog 266 #[.slice A n c] w (PI w r):=by
 obtain⟨b,xs,hs,rfl⟩:=h;obtain⟨j,hj,hz,hn,hv⟩:=v2_val hs.lim h0;have hlen:=hs.len;have hcap:=hs.cap;have hbig:=hs.big;obtain⟨o,rfl,hcell⟩:=hs.at (by omega);have hxl:=hs.lim.getD j;have hcj:=hcell j (by omega);obtain⟨x,hx⟩:∃x,xs.getD j 0=x:=⟨_,rfl⟩;rw[hx]at hn hv hcj hxl
 have HR:Hid ((j:Int)*32+((v2 x:Nat):Int)=r):=Lib.hid (by rw[<-hr,hv];omega)
 have hk:=(land_low hn hxl).2
 have hne:((x:Int)==0)=false:=by
  have:(x:Int)≠0:=by omega
  simpa using this
 have HZ:=Lib.hid hz;clear hz hv hr h0
 go_enter Tryz.func266,Tryz.ntmps266
 go_wp2
 go_loop [3] (fun i=>∃k:Nat,k<=j/\i= .int .i64 k) (fun i=>j-(intOf i).toNat)
 case atStart=>exact ⟨0,Nat.zero_le _,rfl⟩
 case round=>
  obtain⟨k,hk1,rfl⟩:=hrel
  by_cases hlt:k < j
  ·have hck:=hcell k (by omega);rw[HZ.out k hlt]at hck;clear hcell hcj;go_wp2
   go_round
   case rel=>exact ⟨k+1,by omega,by go_num⟩
   case measure=>simp [intOf];omega
  ·obtain rfl:k=j:=by omega
   clear hcell
   go_wp2_with (first
    | (go_at_call 271;((with_reducible refine(tz32 hT hn hxl).mono ?_);rintro ee w1 ⟨rfl,rfl⟩)))
   go_ret
   exact⟨ret_i64 HR.out,Below.refl _ _⟩
def inE (e:Int):Bool:=decide (-4194304<=e) && decide (e<=4194304)
theorem dWithin{w:World}{e:Int}{r:Bool}(hr:inE e=r):Calls Tryz.prog 265 #[.int .i64 e] w (PB w r):=by
 subst hr
 unfold inE
 by_cases h: -4194304<=e
 ·have t1:decide (-4194304<=e)=true:=decide_eq_true h
  rw[t1]
  go_enter Tryz.func265,Tryz.ntmps265
  go_wp2
  go_ret
  exact⟨rfl,Below.refl _ _⟩
 ·have t1:decide (-4194304<=e)=false:=decide_eq_false h
  rw[t1]
  go_enter Tryz.func265,Tryz.ntmps265
  go_wp2
  go_ret
  exact⟨rfl,Below.refl _ _⟩
def mayD (s:Bool)(n a:Nat)(e:Int):Bool:=mayB s n a && (if n=0 then e==0 else ((((a%4294967296:Nat):Int)%2==1) && (decide (-4194304<=e) && decide (e<=4194304))))
end Go.Proofs.YtomikokonmikgaaGreatDoor
namespace Go.Proofs.YtomikokonmikgaaGreatDoor
set_option linter.unusedVariables false
theorem p2pos (k:Nat):(0:Int) < 2^k:=Int.pow_pos (by decide)
theorem natAbs_mul_pow (z:Int)(k:Nat):(z*2^k).natAbs=z.natAbs*2^k:=by
 rw[Int.natAbs_mul,Int.natAbs_pow]
 rfl
def Nf (p:Int × Int):Prop:=mk p.1 p.2=p
theorem mk_odd{z e:Int}(hz:z.natAbs%2=1)(h1: -4194304<=e)(h2:e<=4194304):mk z e=(z,e):=by
 have h0:z≠0:=by omega
 have hv:=v2_odd hz;obtain⟨e1,e2,e3,e4,e5⟩:=mk_in (z:=z) (e:=e) h0 h1 (by rw[hv];simpa using h2);rw[hv]at e1 e5
 apply Prod.ext
 ·simpa using e5.symm
 ·simpa using e1
theorem mk_cases (z e:Int):mk z e=(0,0)\/(z≠0/\ -4194304<=e/\e<=4194304/\e+(v2 z.natAbs:Nat)<=4194304/\(mk z e).1.natAbs%2=1/\(mk z e).2=e+(v2 z.natAbs:Nat)/\z=(mk z e).1*2^v2 z.natAbs):=by
 by_cases hc:z=0\/e < -4194304\/4194304 < e\/4194304 < e+(v2 z.natAbs:Nat)
 ·left
  unfold mk
  rw[if_pos hc]
 ·right
  have h0:z≠0:=by omega
  obtain⟨e1,e2,e3,e4,e5⟩:=mk_in (z:=z) (e:=e) h0 (by omega) (by omega);refine⟨h0,by omega,by omega,by omega,?_,e1,e5⟩
  rw[e2];exact(v2_spec z.natAbs (by omega)).2
theorem mk_nf (z e:Int):Nf (mk z e):=by
 rcases mk_cases z e with h | ⟨h0,h1,h2,h3,h4,h5,h6⟩
 ·unfold Nf
  rw[h];exact mk_zero 0
 ·exact mk_odd h4 (by omega) (by omega)
theorem Nf.cases{p:Int × Int}(h:Nf p):p=(0,0)\/(p.1≠0/\p.1.natAbs%2=1/\ -4194304<=p.2/\p.2<=4194304):=by
 have hb:=mk_bd p.1 p.2
 rcases mk_cases p.1 p.2 with e | ⟨h0,h1,h2,h3,h4,h5,h6⟩
 ·left
  rw[<-e];exact h.symm
 ·right
  rw[show mk p.1 p.2=p from h]at h4
  exact⟨h0,h4,h1,h2⟩
theorem Nf.zero{p:Int × Int}(h:Nf p)(h0:p.1=0):p=(0,0):=by
 rcases h.cases with e | ⟨e,_⟩
 ·exact e
 ·exact absurd h0 e
theorem Nf.bd{p:Int × Int}(h:Nf p): -4194304<=p.2/\p.2<=4194304:=by
 rcases h.cases with e | ⟨_,_,e⟩
 ·rw[e];simp
 ·exact e
theorem mk_neg (z e:Int):mk (-z) e=(-(mk z e).1,(mk z e).2):=by
 by_cases hz:z=0
 ·subst hz;rw[Int.neg_zero,mk_zero];rfl
 ·unfold mk
  rw[Int.natAbs_neg]
  by_cases hc:z=0\/e < -4194304\/4194304 < e\/4194304 < e+(v2 z.natAbs:Nat)
  ·have hc': -z=0\/e < -4194304\/4194304 < e\/4194304 < e+(v2 z.natAbs:Nat):=by omega
   rw[if_pos hc,if_pos hc'];rfl
  ·have hc':¬(-z=0\/e < -4194304\/4194304 < e\/4194304 < e+(v2 z.natAbs:Nat)):=by omega
   rw[if_neg hc,if_neg hc']
   apply Prod.ext
   ·rcases Int.lt_or_gt_of_ne hz with h | h
    ·have h':¬ -z < 0:=by omega
     rw[if_neg h',if_pos h]
     simp
    ·have h': -z < 0:=by omega
     have h2:¬z < 0:=by omega
     rw[if_pos h',if_neg h2]
     simp
   ·rfl
def KK:Nat:=4194304
theorem KK_eq:KK=4194304:=rfl
def vl (p:Int × Int):Int:=p.1*2^(p.2+KK).toNat
theorem vl_zero:vl (0,0)=0:=by unfold vl;exact Int.zero_mul _
theorem cmpI_scale{a b p:Int}(hp:0 < p):cmpI (a*p) (b*p)=cmpI a b:=by
 unfold cmpI
 by_cases h1:a < b
 ·rw[if_pos h1,if_pos (Int.mul_lt_mul_of_pos_right h1 hp)]
 ·have h1':¬a*p < b*p:=Int.not_lt.2 (Int.mul_le_mul_of_nonneg_right (Int.not_lt.1 h1) (Int.le_of_lt hp))
  rw[if_neg h1,if_neg h1']
  by_cases h2:b < a
  ·rw[if_pos h2,if_pos (Int.mul_lt_mul_of_pos_right h2 hp)]
  ·have h2':¬b*p < a*p:=Int.not_lt.2 (Int.mul_le_mul_of_nonneg_right (Int.not_lt.1 h2) (Int.le_of_lt hp))
   rw[if_neg h2,if_neg h2']
def Fit (h:Nat)(p:Int × Int):Prop:=Nf p/\ -(h:Int)<=p.2/\p.1.natAbs*2^(p.2+h).toNat < 2^(2*h)
theorem Fit.nf{h:Nat}{p:Int × Int}(f:Fit h p):Nf p:=f.1
theorem Fit.lo{h:Nat}{p:Int × Int}(f:Fit h p): -(h:Int)<=p.2:=f.2.1
theorem Fit.zero (h:Nat):Fit h (0,0):=⟨mk_zero 0,by simp,by simp;exact Nat.pow_pos (by decide)⟩
theorem Fit.mono{h k:Nat}{p:Int × Int}(f:Fit h p)(hk:h<=k):Fit k p:=by
 have h1:=f.lo;refine⟨f.1,by omega,?_⟩
 have e1:(2:Nat)^(p.2+k).toNat=2^(p.2+h).toNat*2^(k-h):=by rw[<-Nat.pow_add];congr 1;omega
 have e2:(2:Nat)^(2*k)=2^(2*h)*2^(k-h)*2^(k-h):=by rw[<-Nat.pow_add,<-Nat.pow_add];congr 1;omega
 rw[e1,e2,<-Nat.mul_assoc];refine Nat.lt_of_lt_of_le (Nat.mul_lt_mul_of_pos_right f.2.2 (Nat.pow_pos (by decide))) (Nat.le_mul_of_pos_right _ (Nat.pow_pos (by decide)))
theorem mk_fit{z e:Int}{h:Nat}(hh:h<=4194304)(h1: -(h:Int)<=e)(h2:z.natAbs*2^(e+h).toNat < 2^(2*h)):Fit h (mk z e)/\vl (mk z e)=z*2^(e+KK).toNat:=by
 by_cases h0:z=0
 ·subst h0;rw[mk_zero];exact⟨Fit.zero h,by rw[vl_zero,Int.zero_mul]⟩
 ·have hn:z.natAbs≠0:=by omega
  have h3:=Nat.lt_of_le_of_lt (Nat.mul_le_mul_right (2^(e+h).toNat) (v2_pow_le hn)) h2;rw[<-Nat.pow_add]at h3;have h4:=(Nat.pow_lt_pow_iff_right (a:=2) (by decide)).1 h3;obtain⟨e1,e2,e3,e4,e5⟩:=mk_in (z:=z) (e:=e) h0 (by omega) (by omega);have hnf:=mk_nf z e
  revert e1 e5 hnf
  generalize hv:v2 z.natAbs=v at *;generalize mk z e=p;obtain⟨N,E⟩:=p
  intro e1 e5 hnf
  simp only at e1 e5;subst e5;subst e1;refine⟨⟨hnf,by simp only;omega,?_⟩,?_⟩
  ·simp only
   rw[natAbs_mul_pow,Nat.mul_assoc,<-Nat.pow_add,show v+(e+h).toNat=(e+v+h).toNat by omega]at h2
   exact h2
  ·unfold vl
   simp only
   rw[Int.mul_assoc,<-Int.pow_add]
   congr 2
   rw[KK_eq]
   omega
def pl (p q:Int × Int):Int × Int:=if p.1=0 then q else if q.1=0 then p else mk (p.1*2^(p.2-min p.2 q.2).toNat+q.1*2^(q.2-min p.2 q.2).toNat) (min p.2 q.2)
theorem pl_comm{p q:Int × Int}(hp:Nf p)(hq:Nf q):pl p q=pl q p:=by
 unfold pl
 by_cases h1:p.1=0
 ·rw[if_pos h1]
  by_cases h2:q.1=0
  ·rw[if_pos h2,hp.zero h1,hq.zero h2]
  ·rw[if_neg h2,if_pos h1]
 ·rw[if_neg h1]
  by_cases h2:q.1=0
  ·rw[if_pos h2,if_pos h2]
  ·rw[if_neg h2,if_neg h2,if_neg h1,Int.min_comm q.2 p.2,Int.add_comm]
theorem pl_nf{p q:Int × Int}(hp:Nf p)(hq:Nf q):Nf (pl p q):=by
 unfold pl
 split
 ·exact hq
 ·split
  ·exact hp
  ·exact mk_nf _ _
theorem pl_fit{h:Nat}{p q:Int × Int}(hh:h+1<=4194304)(fp:Fit h p)(fq:Fit h q):Fit (h+1) (pl p q)/\vl (pl p q)=vl p+vl q:=by
 unfold pl
 by_cases h1:p.1=0
 ·rw[if_pos h1,fp.1.zero h1,vl_zero,Int.zero_add];exact⟨fq.mono (by omega),rfl⟩
 ·rw[if_neg h1]
  by_cases h2:q.1=0
  ·rw[if_pos h2,fq.1.zero h2,vl_zero,Int.add_zero];exact⟨fp.mono (by omega),rfl⟩
  ·rw[if_neg h2];have lp:=fp.lo;have lq:=fq.lo;obtain⟨l,hl⟩:∃l,min p.2 q.2=l:=⟨_,rfl⟩;rw[hl]
   have l1:l<=p.2:=by omega
   have l2:l<=q.2:=by omega
   have l3: -(h:Int)<=l:=by omega
   obtain⟨a1,a2⟩:=mk_fit (z:=p.1*2^(p.2-l).toNat+q.1*2^(q.2-l).toNat) (e:=l) (h:=h+1) hh (by omega) (by
    have t:=Int.natAbs_add_le (p.1*2^(p.2-l).toNat) (q.1*2^(q.2-l).toNat);rw[natAbs_mul_pow,natAbs_mul_pow]at t;refine Nat.lt_of_le_of_lt (Nat.mul_le_mul_right _ t) ?_;have x1:=fp.2.2;have x2:=fq.2.2
    rw[Nat.add_mul,Nat.mul_assoc,Nat.mul_assoc,<-Nat.pow_add,<-Nat.pow_add,
     show (p.2-l).toNat+(l+(h+1:Nat)).toNat=(p.2+h).toNat+1 by omega,show (q.2-l).toNat+(l+(h+1:Nat)).toNat=(q.2+h).toNat+1 by omega,
     show 2*(h+1)=2*h+1+1 by omega,Nat.pow_succ,Nat.pow_succ,Nat.pow_succ,Nat.pow_succ,<-Nat.mul_assoc,<-Nat.mul_assoc]
    omega)
   refine⟨a1,?_⟩;rw[a2,Int.add_mul,Int.mul_assoc,Int.mul_assoc,<-Int.pow_add,<-Int.pow_add]
   unfold vl
   have k1:(p.2-l).toNat+(l+KK).toNat=(p.2+KK).toNat:=by rw[KK_eq];omega
   have k2:(q.2-l).toNat+(l+KK).toNat=(q.2+KK).toNat:=by rw[KK_eq];omega
   rw[k1,k2]
def ml (p q:Int × Int):Int × Int:=mk (p.1*q.1) (p.2+q.2)
theorem ml_fit{h k:Nat}{p q:Int × Int}(hh:h+k<=4194304)(fp:Fit h p)(fq:Fit k q):Fit (h+k) (ml p q)/\vl (ml p q)*2^KK=vl p*vl q:=by
 unfold ml
 have lp:=fp.lo;have lq:=fq.lo
 obtain⟨a1,a2⟩:=mk_fit (z:=p.1*q.1) (e:=p.2+q.2) (h:=h+k) hh (by omega) (by
  rw[Int.natAbs_mul,show (p.2+q.2+(h+k:Nat)).toNat=(p.2+h).toNat+(q.2+k).toNat by omega,Nat.pow_add,
   Nat.mul_mul_mul_comm,show 2*(h+k)=2*h+2*k by omega,Nat.pow_add]
  exact Nat.mul_lt_mul'' fp.2.2 fq.2.2)
 refine⟨a1,?_⟩;rw[a2]
 unfold vl
 have k0:(p.2+q.2+KK).toNat+KK=(p.2+KK).toNat+(q.2+KK).toNat:=by rw[KK_eq];omega
 rw[Int.mul_assoc,<-Int.pow_add,k0,Int.pow_add,Int.mul_assoc,Int.mul_assoc]
 congr 1
 rw[<-Int.mul_assoc,<-Int.mul_assoc,Int.mul_comm q.1]
theorem ml_comm (p q:Int × Int):ml p q=ml q p:=by unfold ml;rw[Int.mul_comm,Int.add_comm]
def ng (p:Int × Int):Int × Int:=(-p.1,p.2)
theorem vl_ng (p:Int × Int):vl (ng p)= -vl p:=Int.neg_mul _ _
theorem ng_nf{p:Int × Int}(h:Nf p):Nf (ng p):=by
 unfold Nf ng
 rw[mk_neg,show mk p.1 p.2=p from h]
