/-
 Contracts that the proof rests on.
-/
import Derived.Lib.BitFns
import Derived.Test.YteigedaefgmojaaGreatDoorYUad
namespace Go.Proofs.YteigedaefgmojaaGreatDoor
open Go.Proofs.Tryz
set_option maxHeartbeats 1000000
open Go.RowKit
set_option linter.unusedVariables false
def ag (x y:Int):Int:=if x < y then -1 else if y < x then 1 else 0
theorem av{x y:Int}(h:x < y):ag x y= -1:=by unfold ag;rw[if_pos h]
theorem aC{x y:Int}(h:y < x):ag x y=1:=by unfold ag;rw[if_neg (by omega),if_pos h]
theorem be{x y:Int}(h:x=y):ag x y=0:=by unfold ag;rw[if_neg (by omega),if_neg (by omega)]
theorem ap{k:IntKind}{a b:Int}(h:a=b):Ending.returned (.int k a)= .returned (.int k b):=by rw[h]
theorem f7 (x y:Int)(w:World):Calls prog 51 #[.int .i64 x,.int .i64 y] w fun e w'=>e= .returned (.int .i64 (ag x y))/\w=w':=by
 go_enter func51,ntmps51
 go_wp2
 all_goals go_ret
 ·exact⟨ap (av (by assumption)).symm,rfl⟩
 ·exact⟨ap (aC (by assumption)).symm,rfl⟩
 ·exact⟨ap (be (by omega)).symm,rfl⟩
theorem kf (x y:Int)(w:World):Calls prog 227 #[.int .u32 x,.int .u32 y] w fun e w'=>e= .returned (.int .i64 (ag x y))/\w=w':=by
 go_enter func227,ntmps227
 go_wp2
 all_goals go_ret
 ·exact⟨ap (av (by assumption)).symm,rfl⟩
 ·exact⟨ap (aC (by assumption)).symm,rfl⟩
 ·exact⟨ap (be (by omega)).symm,rfl⟩
theorem mY{a b c d:Int}(h:a=c)(k:b=d):Ending.returned (.tuple #[.int .u32 a,.int .u32 b])= .returned (.tuple #[.int .u32 c,.int .u32 d]):=by rw[h,k]
theorem oc (x y c:Nat)(hx:x < 4294967296)(hy:y < 4294967296)(hc:c<=1)(w:World):
  Calls prog 253 #[.int .u32 (x:Int),.int .u32 (y:Int),.int .u32 (c:Int)] w fun e w'=>
   e= .returned (.tuple #[.int .u32 (((x+y+c)%4294967296:Nat):Int),.int .u32 (((x+y+c) /4294967296:Nat):Int)])/\w=w':=by
 go_enter func253,ntmps253
 go_wp2
 go_ret2
 exact⟨mY (by omega) (by omega),rfl⟩
theorem rX (x c:Nat)(hx:x < 4294967296)(hc:c<=1)(w:World):
  Calls prog 253 #[.int .u32 (x:Int),.int .u32 0,.int .u32 (c:Int)] w fun e w'=>
   e= .returned (.tuple #[.int .u32 (((x+0+c)%4294967296:Nat):Int),.int .u32 (((x+0+c) /4294967296:Nat):Int)])/\w=w':=oc x 0 c hx (by omega) hc w
def xl (x y c:Nat):Nat:=if x < y+c then 1 else 0
theorem Hc (x y c:Nat):xl x y c<=1:=by unfold xl;split <;> omega
theorem xk (X Y D:Nat)(hX:X<=1)(hY:Y<=1)(hD:D<=1):(((1 ^^^X) &&& Y) ||| ((1 ^^^(X ^^^Y)) &&& D))=if X < Y then 1 else if Y < X then 0 else D:=by
 rcases (by omega:X=0\/X=1)with rfl | rfl <;> rcases (by omega:Y=0\/Y=1)with rfl | rfl <;> rcases (by omega:D=0\/D=1)with rfl | rfl <;> decide
theorem tG (x y c d:Nat)(hx:x < 4294967296)(hy:y < 4294967296)(hc:c<=1)(hd:d=(x+4294967296-y-c)%4294967296):
  (((4294967295 ^^^x) &&& y) ||| ((4294967295 ^^^(x ^^^y)) &&& d)) /2147483648=xl x y c:=by
 have e:∀n:Nat,n/2147483648=n >>> 31:=fun n=>by rw[Nat.shiftRight_eq_div_pow]
 rw[e,Nat.shiftRight_or_distrib,Nat.shiftRight_and_distrib,Nat.shiftRight_and_distrib,Nat.shiftRight_xor_distrib,Nat.shiftRight_xor_distrib,Nat.shiftRight_xor_distrib]
 rw[<-e x,<-e y,<-e d,show (4294967295 >>> 31:Nat)=1 by decide]
 rw[xk _ _ _ (by omega) (by omega) (by omega)]
 unfold xl
 split <;> split <;> (try split) <;> omega
theorem Fc:IntKind.u32.max=((4294967295:Nat):Int):=by decide
theorem Dy (x y c:Nat)(hx:x < 4294967296)(hy:y < 4294967296)(hc:c<=1):
  bits BinOp.or IntKind.u32 (bits BinOp.and IntKind.u32 (bits BinOp.xor IntKind.u32 IntKind.u32.max ↑x) ↑y)
    (bits BinOp.and IntKind.u32 (bits BinOp.xor IntKind.u32 IntKind.u32.max (bits BinOp.xor IntKind.u32 ↑x ↑y))
     (((x:Int)-y-c)%4294967296)) /2147483648=(xl x y c:Int):=by
 have hd:((x:Int)-y-c)%4294967296=(((x+4294967296-y-c)%4294967296:Nat):Int):=by omega
 have b:∀a:Nat,a < 4294967296->4294967295 ^^^a < 4294967296:=fun a ha=>Nat.xor_lt_two_pow (n:=32) (by decide) ha
 have d:x ^^^y < 4294967296:=Nat.xor_lt_two_pow (n:=32) hx hy
 have e:(x+4294967296-y-c)%4294967296 < 4294967296:=by omega
 rw[hd,Fc,u32_xor_nat _ _ (by decide) hx,u32_and_nat _ _ (b x hx) hy,u32_xor_nat _ _ hx hy,u32_xor_nat _ _ (by decide) d,u32_and_nat _ _ (b _ d) e,
  u32_or_nat _ _ (Nat.and_lt_two_pow (n:=32) _ hy) (Nat.and_lt_two_pow (n:=32) _ e)]
 rw[<-tG x y c _ hx hy hc rfl]
 omega
theorem lg (x y c:Nat)(hx:x < 4294967296)(hy:y < 4294967296)(hc:c<=1)(w:World):
  Calls prog 254 #[.int .u32 (x:Int),.int .u32 (y:Int),.int .u32 (c:Int)] w fun e w'=>
   e= .returned (.tuple #[.int .u32 (((x+4294967296-y-c)%4294967296:Nat):Int),.int .u32 (xl x y c:Int)])/\w=w':=by
 go_enter func254,ntmps254
 go_wp2
 go_ret2
 exact⟨mY (by omega) (Dy x y c hx hy hc),rfl⟩
theorem tF (x c:Nat)(hx:x < 4294967296)(hc:c<=1)(w:World):
  Calls prog 254 #[.int .u32 (x:Int),.int .u32 0,.int .u32 (c:Int)] w fun e w'=>
   e= .returned (.tuple #[.int .u32 (((x+4294967296-0-c)%4294967296:Nat):Int),.int .u32 (xl x 0 c:Int)])/\w=w':=lg x 0 c hx (by omega) hc w
theorem lW (x y:Nat)(hx:x < 4294967296)(hy:y < 4294967296):bits BinOp.or IntKind.u64 ((x:Int)*4294967296) (y:Int)=(x:Int)*4294967296+y:=by
 have:=u64_or_nat (x*4294967296) y (by omega) (by omega)
 rw[nat_join 32 _ _ (by omega) hy]at this
 simpa using this
theorem xy (x y d:Nat)(hx:x < d)(hy:y < 4294967296)(hd:d < 4294967296)(w:World):
  Calls prog 255 #[.int .u32 (x:Int),.int .u32 (y:Int),.int .u32 (d:Int)] w fun e w'=>
   e= .returned (.tuple #[.int .u32 (((x*4294967296+y) /d:Nat):Int),.int .u32 (((x*4294967296+y)%d:Nat):Int)])/\∃n,w'=w.drewN n:=by
 have a:=lW x y (by omega) hy
 go_enter func255,ntmps255
 go_wp2
 go_quiet (fail)
 go_wp2
 go_ret2
 have hq:(x*4294967296+y) /d < 4294967296:=by
  rw[Nat.div_lt_iff_lt_mul (by omega)]
  have:=Nat.mul_le_mul_right 4294967296 (show x+1<=d from hx)
  rw[Nat.mul_comm 4294967296 d]
  omega
 have b:(x*4294967296+y)%d < d:=Nat.mod_lt _ (by omega)
 refine⟨mY ?_ ?_,_,rfl⟩
 ·have e:((x:Int)*4294967296+y) /d=(((x*4294967296+y) /d:Nat):Int):=by simp
  rw[e];clear e a;revert hq;generalize (x*4294967296+y) /d=q;intro hq;omega
 ·have e:((x:Int)*4294967296+y)%d=(((x*4294967296+y)%d:Nat):Int):=by simp
  rw[e];clear e a;revert b;generalize (x*4294967296+y)%d=q;intro b;omega
def ae (n:Nat):Nat:=if n=0 then 0 else Nat.log2 n+1
theorem oh:ae 0=0:=rfl
theorem dZ (n:Nat):n < 2^ae n:=by
 unfold ae
 split
 ·subst_vars;decide
 ·exact Nat.lt_log2_self
theorem blen_le{n:Nat}(h:n≠0):2^(ae n-1)<=n:=by
 unfold ae
 rw[if_neg h];exact Nat.log2_self_le h
theorem jt{n k:Nat}(h0:n≠0)(h1:2^k<=n)(h2:n < 2^(k+1)):ae n=k+1:=by
 unfold ae
 rw[if_neg h0,(Nat.log2_eq_iff h0).2 ⟨h1,h2⟩]
theorem kM{n:Nat}(h:n≠0):ae n=1+ae (n/2):=by
 by_cases h1:n=1
 ·subst h1;decide
 ·have h2:n/2≠0:=by omega
  unfold ae
  rw[if_neg h,if_neg h2,Nat.log2_def,if_pos (by omega)]
  omega
theorem ke:∀(f n:Nat),n < 2^f->Lib.bitLenAux f n=ae n
 | 0,n,h=>by
  have:n=0:=by simpa using h
  subst this;rfl
 | f+1,n,h=>by
  unfold Lib.bitLenAux
  by_cases a:n=0
  ·subst a;rfl
  ·rw[if_neg a,ke f (n/2) (by rw[Nat.pow_succ]at h;omega),kM a]
theorem xj (n:Nat)(h:n < 4294967296):Lib.bitLen n=ae n:=ke 64 n (by omega)
theorem bG (n k:Nat)(h:2^k<=n):ae n=k+ae (n/2^k):=by
 induction k with
 | zero=>simp
 | succ k ih=>
  have h1:2^k<=n:=Nat.le_trans (Nat.pow_le_pow_right (by decide) (Nat.le_succ k)) h
  have h2:n/2^k≠0:=by
   have:=(Nat.le_div_iff_mul_le (Nat.two_pow_pos k)).2 (show 1*2^k<=n by omega)
   omega
  rw[ih h1,kM h2,Nat.div_div_eq_div_mul,Nat.pow_succ]
  omega
theorem ai{n k:Nat}(h:n < 2^k):ae n<=k:=by
 by_cases a:n=0
 ·subst a;rw[oh];omega
 ·rcases Nat.lt_or_ge k (ae n)with hlt | hge
  ·have:=blen_le a
   have:=Nat.pow_le_pow_right (n:=2) (by decide) (show k<=ae n-1 by omega)
   omega
  ·exact hge
theorem bS (w:World)(k:Nat)(h:k < 256):
  (Instr.index 9 (.string Lib.len8tab) (.int .u8 (k:Int))).run prog w= .ok (.int .u8 (ae k:Int)) w:=by
 rw[Lib.run_index_len8tab (P:=prog) w 9 .u8 (k:Int) Tryz.underlying9 (by omega) (by omega)]
 have:=Lib.len8_eq ⟨k,h⟩
 simp only at this;rw[this,xj k (by omega)]
set_option maxRecDepth 100000 in
theorem ES (z:Int)(q:Nat)(w:World)(h0:0<=z)(hz:z<=4294967295)(h1:65536<=z)(h2:256<=z/65536)(hq:q<=8)
  (hi:∀W,(Instr.index 9 (.string Lib.len8tab) (.int .u8 (z/65536/256))).run prog W= .ok (.int .u8 (q:Int)) W):
  Calls prog 225 #[.int .u32 z] w fun e w'=>e= .returned (.int .i64 (24+q:Int))/\w=w':=by
 go_enter func225,ntmps225
 go_wp2
 go_ret
 exact⟨rfl,rfl⟩
set_option maxRecDepth 100000 in
theorem EU (z:Int)(q:Nat)(w:World)(h0:0<=z)(hz:z<=4294967295)(h1:65536<=z)(h2:z/65536 < 256)(hq:q<=8)
  (hi:∀W,(Instr.index 9 (.string Lib.len8tab) (.int .u8 (z/65536))).run prog W= .ok (.int .u8 (q:Int)) W):
  Calls prog 225 #[.int .u32 z] w fun e w'=>e= .returned (.int .i64 (16+q:Int))/\w=w':=by
 go_enter func225,ntmps225
 go_wp2
 go_ret
 exact⟨rfl,rfl⟩
set_option maxRecDepth 100000 in
theorem EV (z:Int)(q:Nat)(w:World)(h0:0<=z)(hz:z<=4294967295)(h1:z < 65536)(h2:256<=z)(hq:q<=8)
  (hi:∀W,(Instr.index 9 (.string Lib.len8tab) (.int .u8 (z/256))).run prog W= .ok (.int .u8 (q:Int)) W):
  Calls prog 225 #[.int .u32 z] w fun e w'=>e= .returned (.int .i64 (8+q:Int))/\w=w':=by
 go_enter func225,ntmps225
 go_wp2
 go_ret
 exact⟨rfl,rfl⟩
set_option maxRecDepth 100000 in
theorem EW (z:Int)(q:Nat)(w:World)(h0:0<=z)(hz:z<=4294967295)(h1:z < 65536)(h2:z < 256)(hq:q<=8)
  (hi:∀W,(Instr.index 9 (.string Lib.len8tab) (.int .u8 (z))).run prog W= .ok (.int .u8 (q:Int)) W):
  Calls prog 225 #[.int .u32 z] w fun e w'=>e= .returned (.int .i64 (q:Int))/\w=w':=by
 go_enter func225,ntmps225
 go_wp2
 go_ret
 exact⟨rfl,rfl⟩
theorem ox (x:Nat)(hx:x < 4294967296)(w:World):
  Calls prog 225 #[.int .u32 (x:Int)] w fun e w'=>e= .returned (.int .i64 (ae x:Int))/\w=w':=by
 by_cases h1:65536<=x
 ·have s1:=bG x 16 (by omega)
  rw[show 2^16=65536 by decide]at s1
  by_cases h2:256<=x/65536
  ·have s2:=bG (x/65536) 8 (by omega)
   rw[show 2^8=256 by decide]at s2
   have:=ES (x:Int) (ae (x/65536/256)) w (by omega) (by omega) (by omega) (by omega) (ai (by omega)) (fun W=>bS W (x/65536/256) (by omega))
   exact this.mono fun e w' h=>⟨h.1.trans (ap (by omega)),h.2⟩
  ·have:=EU (x:Int) (ae (x/65536)) w (by omega) (by omega) (by omega) (by omega) (ai (by omega)) (fun W=>bS W (x/65536) (by omega))
   exact this.mono fun e w' h=>⟨h.1.trans (ap (by omega)),h.2⟩
 ·by_cases h2:256<=x
  ·have s2:=bG x 8 (by omega)
   rw[show 2^8=256 by decide]at s2
   have:=EV (x:Int) (ae (x/256)) w (by omega) (by omega) (by omega) (by omega) (ai (by omega)) (fun W=>bS W (x/256) (by omega))
   exact this.mono fun e w' h=>⟨h.1.trans (ap (by omega)),h.2⟩
  ·exact EW (x:Int) (ae x) w (by omega) (by omega) (by omega) (by omega) (ai (by omega)) (fun W=>bS W x (by omega))
theorem sQ (x:Nat)(hx:x < 4294967296)(w:World):
  Calls prog 256 #[.int .u32 (x:Int)] w fun e w'=>e= .returned (.int .i64 (32-ae x:Int))/\w=w':=by
 have hb:=ai (n:=x) (k:=32) hx
 go_enter func256,ntmps256
 go_wp2_with (go_at_call 225;refine(ox x hx _).mono ?_;rintro e w' ⟨rfl,rfl⟩)
 go_ret
 exact⟨rfl,rfl⟩
theorem Ai (w:World)(b1 b2:Nat)(A1 A2:Option Addr)(n m c1 c2:Nat)(xs ys:List Nat)(n' m':Nat)(h1:Sl w b1 A1 n' c1 xs)(h2:Sl w b2 A2 m' c2 ys)
  (HC1:Hid (Calls prog 223 #[.slice A1 n c1] w fun e w'=>e= .returned (.slice A1 n' c1)/\w=w'))
  (HC2:Hid (Calls prog 223 #[.slice A2 m c2] w fun e w'=>e= .returned (.slice A2 m' c2)/\w=w'))
  (hne:n'≠m'->ag (n':Int) (m':Int)=ag (val xs:Nat) (val ys:Nat)):
  Calls prog 183 #[.slice A1 n c1,.slice A2 m c2] w fun e w'=>e= .returned (.int .i64 (ag (val xs:Nat) (val ys:Nat)))/\∃q,w'=w.drewN q:=by
 have u:=h1.big;have v:=h2.big;have g:=Lib.hid h1.len;have j:=Lib.hid h2.len
 by_cases a:n'=m'
 ·subst a;clear hne
  have l:((n':Int) !=(n':Int))=false:=by simp
  go_enter func183,ntmps183
  go_wp2_with (first
   | (go_at_call 223;((with_reducible refine HC1.out.mono ?_);rintro e w' ⟨rfl,rfl⟩))
   | (go_at_call 223;((with_reducible refine HC2.out.mono ?_);rintro e w' ⟨rfl,rfl⟩)))
  clear HC1 HC2
  go_loopw [23] (fun i wr=>∃k q:Nat,k<=n'/\i= .int .i64 k/\wr=w.drewN q/\val (xs.drop (n' - k))=val (ys.drop (n' - k))) (fun i _=>n' - (intOf i).toNat)
  case atStart=>exact ⟨0,0,Nat.zero_le _,rfl,rfl,by rw[List.drop_of_length_le (by rw[g.out];omega),List.drop_of_length_le (by rw[j.out];omega)]⟩
  case round=>
   obtain⟨k,q,z,rfl,rfl,hz⟩:=hrel;have p:=Lib.hid hz;clear hz
   by_cases hlt:k < n'
   ·obtain⟨o1,rfl,d⟩:=h1.at (by omega);obtain⟨o2,rfl,f⟩:=h2.at (by omega);have g1:=d (n' - 1-k) (by omega);have g2:=f (n' - 1-k) (by omega);clear d f;have c:=Lib.hid (jh h1.lim h2.lim g.out j.out hlt p.out)
    revert g1 g2 c
    generalize xs.getD (n' - 1-k) 0=x;generalize ys.getD (n' - 1-k) 0=y
    intro g1 g2 c
    have i1:((n':Int)-1-k).toNat=n' - 1-k:=by omega
    by_cases b:x=y
    ·subst b;go_wp2
     go_quiet (fail)
     go_wp2
     go_roundw
     case rel=>exact ⟨k+1,_,by omega,by go_num,rfl,by rw[show n' - (k+1)=n' - 1-k by omega];exact c.out.2.2 (by first | trivial | rfl)⟩
     case measure=>simp [intOf];omega
    ·have t:Hid (ag (x:Int) (y:Int)=ag (val xs:Nat) (val ys:Nat)):=by
      rcases Nat.lt_or_gt_of_ne b with h | h
      ·exact(av (by omega)).trans (av (by have:=c.out.1 h;omega)).symm
      ·exact(aC (by omega)).trans (aC (by have:=c.out.2.1 h;omega)).symm
     have r:((x:Int) !=(y:Int))=true:=by simp;omega
     clear b c;go_wp2
     go_quiet (fail)
     go_wp2
     go_quiet ((go_at_call 227;first | exact mT (kf _ _ _) | exact tu (kf _ _ _)))
     go_wp2
     go_ret
     exact⟨ap t.out,_,by rw[World.drewN_drewN,World.drewN_drewN]⟩
   ·go_wp2
    go_ret
    have o:k=n':=by omega
    subst o;have e:=p.out;rw[Nat.sub_self,List.drop_zero,List.drop_zero]at e;exact⟨ap (be (by omega)).symm,_,rfl⟩
 ·have l:((n':Int) !=(m':Int))=true:=by simp;omega
  have s:=Lib.hid (hne a);clear hne a
  go_enter func183,ntmps183
  go_wp2_with (first
   | (go_at_call 223;((with_reducible refine HC1.out.mono ?_);rintro e w' ⟨rfl,rfl⟩))
   | (go_at_call 223;((with_reducible refine HC2.out.mono ?_);rintro e w' ⟨rfl,rfl⟩))
   | (go_at_call 51;((with_reducible refine(f7 _ _ _).mono ?_);rintro e w' ⟨rfl,rfl⟩)))
  go_ret
  exact⟨ap s.out,0,rfl⟩
theorem lK (w:World)(b1 b2:Nat)(A1 A2:Option Addr)(n m c1 c2:Nat)(xs ys:List Nat)(h1:Sl w b1 A1 n c1 xs)(h2:Sl w b2 A2 m c2 ys):
  Calls prog 183 #[.slice A1 n c1,.slice A2 m c2] w fun e w'=>e= .returned (.int .i64 (ag (val xs:Nat) (val ys:Nat)))/\∃q,w'=w.drewN q:=by
 have s1:=h1.take (k:=(ah (val xs)).length) (by have:=aQ h1.lim;have:=h1.len;omega);have s2:=h2.take (k:=(ah (val ys)).length) (by have:=aQ h2.lim;have:=h2.len;omega);rw[er h1.lim]at s1;rw[er h2.lim]at s2
 have:=Ai w b1 b2 A1 A2 n m c1 c2 _ _ _ _ s1 s2 (eY w b1 A1 n c1 xs h1) (eY w b2 A2 m c2 ys h2) (fun hne=>by
  rw[aB,aB]
  rcases Nat.lt_or_gt_of_ne hne with h | h
  ·exact(av (by omega)).trans (av (by have:=db h;omega)).symm
  ·exact(aC (by omega)).trans (aC (by have:=db h;omega)).symm)
 rw[aB,aB]at this;exact this
def bU (w:World)(g o:Nat)(l zs:List Nat)(w':World):Prop:=du w' g (iQ l o zs)/\w.grownBy w' (some g)/\aV zs
theorem bU.step{w wr:World}{g o:Nat}{l zs:List Nat}(h:bU w g o l zs wr)(hk:o+zs.length < l.length){x:Nat}(hx:x < 4294967296):
  bU w g o l (zs ++[x]) (wr.setCell ⟨g,o+zs.length,none⟩ (.int .u32 (x:Int))):=
 ⟨by have:=h.1.set (o+zs.length) x;rwa [vV hk]at this,fS h.2.1 _,h.2.2.append (aV.cons hx aV.nil)⟩
theorem bU.cell{w wr:World}{g o:Nat}{l zs:List Nat}(h:bU w g o l zs wr)(hk:o+zs.length < l.length):wr.cell? ⟨g,o+zs.length,none⟩=some (.int .u32 (l.getD (o+zs.length) 0:Nat)):=by
 rw[h.1.cell (by rw[f8 (by omega)];omega),BK hk]
def iR (w:World)(g o:Nat)(l ys:List Nat)(k cy:Nat)(wr:World):Prop:=
 ∃zs,zs.length=k/\bU w g o l zs wr/\cy<=1/\val zs+cy*4294967296^k=val ((l.drop o).take k)+val (ys.take k)
theorem iR.step{w wr:World}{g o:Nat}{l ys:List Nat}{k cy x y:Nat}(h:iR w g o l ys k cy wr)(hk:o+k < l.length)(hx:l.getD (o+k) 0=x)(hy:ys.getD k 0=y)(hl:aV l)(hly:aV ys):
  iR w g o l ys (k+1) ((x+y+cy) /4294967296) (wr.setCell ⟨g,o+k,none⟩ (.int .u32 (((x+y+cy)%4294967296:Nat):Int))):=by
 obtain⟨zs,rfl,ht,d,b⟩:=h
 have c:x < 4294967296:=by rw[<-hx];exact hl.getD _
 have a:y < 4294967296:=by rw[<-hy];exact hly.getD _
 refine⟨zs ++[(x+y+cy)%4294967296],by simp,ht.step hk (by omega),by omega,?_⟩
 rw[dB,aX,aX,hy,gT,hx,Nat.pow_succ];exact qg b
def lG (w:World)(g o n:Nat)(l ys:List Nat)(e:Ending)(w':World):Prop:=
 e= .returned (.tuple #[])/\∃zs cy,zs.length=n/\bU w g o l zs w'/\cy<=1/\val zs+cy*4294967296^n=val ((l.drop o).take n)+val ys
theorem iR.done{w wr:World}{g o n:Nat}{l ys:List Nat}{cy:Nat}(h:iR w g o l ys n cy wr)(hm:ys.length<=n):lG w g o n l ys (.returned (.tuple #[])) wr:=by
 obtain⟨zs,hz,ht,a,b⟩:=h;exact⟨rfl,zs,cy,hz,ht,a,by rw[b,aq hm]⟩
theorem q7{l zs:List Nat}{o n:Nat}(h:o+n<=l.length)(hz:zs.length<=n):iQ l o (zs ++(l.drop (o+zs.length)).take (n-zs.length))=iQ l o zs:=by
 unfold iQ
 have e:(zs ++(l.drop (o+zs.length)).take (n-zs.length)).length=n:=by simp;omega
 rw[e,List.append_assoc,List.append_assoc,List.append_assoc]
 congr 2
 have:l.drop (o+n)=(l.drop (o+zs.length)).drop (n-zs.length):=by rw[List.drop_drop];congr 1;omega
 rw[this,List.take_append_drop]
theorem jM{l:List Nat}{o n k:Nat}(h:o+n<=l.length)(hk:k<=n):val ((l.drop o).take n)=val ((l.drop o).take k)+4294967296^k*val ((l.drop (o+k)).take (n-k)):=by
 have h1:=am ((l.drop o).take n) (k:=k) (by simp;omega);rw[List.take_take,Nat.min_eq_left hk,List.drop_take,List.drop_drop]at h1;exact h1
theorem iR.early{w wr:World}{g o n k:Nat}{l ys:List Nat}(h:iR w g o l ys k 0 wr)(hl:aV l)(hn:o+n<=l.length)(hk:k<=n)(hm:ys.length<=k):lG w g o n l ys (.returned (.tuple #[])) wr:=by
 obtain⟨zs,rfl,ht,b,a⟩:=h;refine⟨rfl,zs ++(l.drop (o+zs.length)).take (n-zs.length),0,by simp;omega,⟨by rw[q7 hn hk];exact ht.1,ht.2.1,ht.2.2.append ((hl.drop _).take _)⟩,by omega,?_⟩
 rw[dI,jM hn hk];rw[aq hm]at a
 omega
theorem kL (w:World)(g o n c b m c2:Nat)(A:Option Addr)(l ys:List Nat)(hg:du w g l)(hl:aV l)(hn:o+n<=l.length)(hbl:l.length<=1099511627776)(h2:Sl w b A m c2 ys)(hne:0 < m->b≠g)(hm:m<=n):
  Calls prog 244 #[.slice (some ⟨g,o,none⟩) n c,.slice A m c2] w (lG w g o n l ys):=by
 have j:=Lib.hid h2.len
 go_enter func244,ntmps244
 go_wp2
 go_loopw [4,9] (fun u i wr=>∃k cy:Nat,k<=n/\i= .int .i64 k/\u= .int .u32 cy/\iR w g o l ys k cy wr) (fun _ i _=>n-(intOf i).toNat)
 case atStart=>exact ⟨0,0,Nat.zero_le _,rfl,rfl,[],rfl,⟨by rw[pg];exact hg,dG _ _,aV.nil⟩,by omega,by simp[val]⟩
 case round=>
  obtain⟨k,cy,H,rfl,rfl,E⟩:=hrel;have t:=Lib.hid E;clear E
  by_cases hlt:k < n
  ·have v:=t
   obtain⟨zs,hz,ht,s,-⟩:=v;have hcell:=ht.cell (by omega);rw[hz]at hcell
   have G:wr.frozen? ⟨g,o+k,none⟩=false:=ht.1.frozen _
   have z:=hl.getD (o+k)
   have p:=Lib.hid (fun y hy=>t.out.step (y:=y) (by omega) rfl hy hl h2.lim)
   have D:=h2.grown ht.2.1 (fun h=>by simpa using hne h)
   clear ht hz hg;obtain⟨x,hx⟩:∃x,l.getD (o+k) 0=x:=⟨_,rfl⟩;rw[hx]at hcell z p;clear hx
   by_cases B:k < m
   ·obtain⟨o2,rfl,r⟩:=D.at (by omega);have a:=r k B
    have f:=h2.lim.getD k
    have d:=Lib.hid (p.out _ rfl)
    clear p r
    revert a f d
    generalize ys.getD k 0=y
    intro a f d
    go_wp2_with (go_at_call 253;((with_reducible refine(oc x y cy z f s _).mono ?_);rintro e w' ⟨rfl,rfl⟩))
    go_roundw
    case rel=>exact ⟨k+1,_,by omega,by go_num,rfl,d.out⟩
    case measure=>simp [intOf];omega
   ·have d:=Lib.hid (p.out 0 (de (by rw[j.out];omega)))
    clear p
    by_cases q:cy=0
    ·subst q;go_wp2;refine bodyPost_ret (results_none rfl _ _ _) rfl ?_;exact t.out.early hl hn H (by rw[j.out];omega)
    ·have F:((cy:Int)==0)=false:=by simpa using q
     go_wp2_with (go_at_call 253;((with_reducible refine(rX x cy z s _).mono ?_);rintro e w' ⟨rfl,rfl⟩))
     go_roundw
     case rel=>exact ⟨k+1,_,by omega,by go_num,rfl,d.out⟩
     case measure=>simp [intOf];omega
  ·go_wp2
   go_end0
   have C:k=n:=by omega
   subst C;exact t.out.done (by rw[j.out];omega)
def oM (w:World)(g o:Nat)(l ys:List Nat)(f k cy:Nat)(wr:World):Prop:=
 ∃zs,zs.length=k/\bU w g o l zs wr/\cy < 4294967296/\val zs+cy*4294967296^k=val ((l.drop o).take k)+f*val (ys.take k)
theorem lY{y f:Nat}(hy:y < 4294967296)(hf:f < 4294967296):y*f<=4294967295*4294967295:=Nat.mul_le_mul (by omega) (by omega)
theorem bg (s:Nat)(h:s < 18446744073709551616):IntKind.u64.wrap (s:Int)=s:=by
 rw[show IntKind.u64.wrap (s:Int)=(s:Int)%18446744073709551616 from by simp[IntKind.wrap,IntKind.bits,IntKind.signed]]
 omega
theorem BY{y f x cy:Nat}(hy:y < 4294967296)(hf:f < 4294967296)(hx:x < 4294967296)(hc:cy < 4294967296):
  ∃p q s:Nat,Hid (s=y*f+x+cy)/\Hid (s/4294967296 < 4294967296)/\IntKind.u64.wrap ((y:Int)*f)=p/\IntKind.u64.wrap ((p:Int)+x)=q/\IntKind.u64.wrap ((q:Int)+cy)=s:=by
 have hp:=lY hy hf;refine⟨y*f,y*f+x,y*f+x+cy,rfl,?_,?_,?_,?_⟩
 ·show _ < _;omega
 ·have:=bg (y*f) (by omega);simpa using this
 ·have:=bg (y*f+x) (by omega);simpa using this
 ·have:=bg (y*f+x+cy) (by omega);simpa using this
theorem oM.step{w wr:World}{g o:Nat}{l ys:List Nat}{f k cy x y s:Nat}(h:oM w g o l ys f k cy wr)(hk:o+k < l.length)(hx:l.getD (o+k) 0=x)(hy:ys.getD k 0=y)
  (hs:s=y*f+x+cy) (hb:s/4294967296 < 4294967296) (q:Nat):
  oM w g o l ys f (k+1) (s/4294967296) ((wr.drewN q).setCell ⟨g,o+k,none⟩ (.int .u32 ((s%4294967296:Nat):Int))):=by
 obtain⟨zs,rfl,ht,c,b⟩:=h
 have a:bU w g o l zs (wr.drewN q):=⟨ht.1,ln ht.2.1 q,ht.2.2⟩
 refine⟨zs ++[s%4294967296],by simp,a.step hk (by omega),hb,?_⟩
 rw[dB,aX,aX,hy,gT,hx,Nat.pow_succ,hs];exact BV b
def tQ (w:World)(g o n:Nat)(l ys:List Nat)(f:Nat)(e:Ending)(w':World):Prop:=
 ∃cy:Nat,e= .returned (.int .u32 (cy:Int))/\∃zs,zs.length=n/\bU w g o l zs w'/\cy < 4294967296/\val zs+cy*4294967296^n=val ((l.drop o).take n)+f*val ys
theorem oO (w:World)(g o n c b c2 f:Nat)(A:Option Addr)(l ys:List Nat)(hg:du w g l)(hl:aV l)(hn:o+n<=l.length)(hbl:l.length<=1099511627776)(h2:Sl w b A n c2 ys)(hne:0 < n->b≠g)(hf:f < 4294967296):
  Calls prog 224 #[.slice (some ⟨g,o,none⟩) n c,.slice A n c2,.int .u32 (f:Int)] w (tQ w g o n l ys f):=by
 have v:=Lib.hid h2.len
 go_enter func224,ntmps224
 go_wp2
 go_loopw [7,12] (fun u i wr=>∃k cy:Nat,k<=n/\i= .int .i64 k/\u= .int .u64 cy/\oM w g o l ys f k cy wr) (fun _ i _=>n-(intOf i).toNat)
 case atStart=>exact ⟨0,0,Nat.zero_le _,rfl,rfl,[],rfl,⟨by rw[pg];exact hg,dG _ _,aV.nil⟩,by omega,by simp[val]⟩
 case round=>
  obtain⟨k,cy,L,rfl,rfl,C⟩:=hrel;have m:=Lib.hid C;clear C
  by_cases hlt:k < n
  ·have r:=m
   obtain⟨zs,hz,ht,d,-⟩:=r;have hcell:=ht.cell (by omega);rw[hz]at hcell
   have J:wr.frozen? ⟨g,o+k,none⟩=false:=ht.1.frozen _
   have B:=hl.getD (o+k)
   have z:=h2.grown ht.2.1 (fun h=>by simpa using hne h)
   clear ht hz hg;obtain⟨x,hx⟩:∃x,l.getD (o+k) 0=x:=⟨_,rfl⟩;rw[hx]at hcell B;have H:=Lib.hid hx;clear hx;obtain⟨o2,rfl,j⟩:=z.at (by omega);have a:=j k hlt
   have e:=h2.lim.getD k
   clear j;obtain⟨y,hy⟩:∃y,ys.getD k 0=y:=⟨_,rfl⟩;rw[hy]at a e
   have I:=Lib.hid hy;clear hy;obtain⟨p,q,s,F,E,e1,e2,e3⟩:=BY e hf B d
   go_wp2
   go_quiet (fail)
   go_wp2
   go_roundw
   case rel=>exact ⟨k+1,s/4294967296,by omega,by go_num,by go_num,m.out.step (by omega) H.out I.out F.out E.out _⟩
   case measure=>simp [intOf];omega
  ·obtain⟨zs,hz,ht,d,D⟩:=m.out;have G:=Lib.hid D;clear D
   have t:k=n:=by omega
   subst t;go_wp2
   go_ret
   refine⟨cy,ap (by omega),zs,hz,ht,d,?_⟩;rw[G.out,aq (xs:=ys) (by rw[v.out];omega)]
theorem yX{p A Y v x y f ov bo s a b:Nat}(h:A+(ov+bo)*p=v+f*Y)(hs:s=ov+y*f)(ha:x+b*4294967296=a+s%4294967296+bo):
  (A+p*x)+(s/4294967296+b)*(p*4294967296)=(v+p*a)+f*(Y+p*y):=by
 have e:=Nat.mod_add_div s 4294967296
 have e2:p*(x+b*4294967296)=p*(a+s%4294967296+bo):=by rw[ha]
 have e3:p*(s%4294967296+4294967296*(s/4294967296))=p*(ov+y*f):=by rw[e,hs]
 grind
def gm (w:World)(g o:Nat)(l ys:List Nat)(f k ov bo:Nat)(wr:World):Prop:=
 ∃zs,zs.length=k/\bU w g o l zs wr/\ov < 4294967296/\bo<=1/\val ((l.drop o).take k)+(ov+bo)*4294967296^k=val zs+f*val (ys.take k)
theorem Hb{x t bo:Nat}(hx:x < 4294967296)(ht:t < 4294967296)(hb:bo<=1):x+xl x t bo*4294967296=(x+4294967296-t-bo)%4294967296+t+bo:=by
 unfold xl
 split <;> omega
theorem gm.step{w wr:World}{g o:Nat}{l ys:List Nat}{f k ov bo x y s t u:Nat}(h:gm w g o l ys f k ov bo wr)(hk:o+k < l.length)(hx:l.getD (o+k) 0=x)(hl:aV l)(hy:ys.getD k 0=y)
  (hs:s=ov+y*f) (ht:t=s%4294967296) (hu:u=s/4294967296) (hb:s/4294967296 < 4294967296):
  gm w g o l ys f (k+1) u (xl x t bo) (wr.setCell ⟨g,o+k,none⟩ (.int .u32 (((x+4294967296-t-bo)%4294967296:Nat):Int))):=by
 obtain⟨zs,rfl,c,d,a,e⟩:=h;subst ht;subst hu
 have b:x < 4294967296:=by rw[<-hx];exact hl.getD _
 refine⟨zs ++[(x+4294967296-s%4294967296-bo)%4294967296],by simp,c.step hk (by omega),hb,Hc _ _ _,?_⟩
 rw[dB,aX,aX,hy,gT,hx,Nat.pow_succ];exact yX e hs (Hb b (by omega) a)
def iS (w:World)(g o n:Nat)(l ys:List Nat)(f:Nat)(e:Ending)(w':World):Prop:=
 ∃q:Nat,e= .returned (.bool (decide (0 < q)))/\∃zs,zs.length=n/\bU w g o l zs w'/\val ((l.drop o).take n)+q*4294967296^n=val zs+f*val ys
theorem gm.early{w wr:World}{g o n k:Nat}{l ys:List Nat}{f:Nat}(h:gm w g o l ys f k 0 0 wr)(hl:aV l)(hn:o+n<=l.length)(hk:k<=n)(hm:ys.length<=k):iS w g o n l ys f (.returned (.bool false)) wr:=by
 obtain⟨zs,rfl,ht,_,_,a⟩:=h;refine⟨0,rfl,zs ++(l.drop (o+zs.length)).take (n-zs.length),by simp;omega,⟨by rw[q7 hn hk];exact ht.1,ht.2.1,ht.2.2.append ((hl.drop _).take _)⟩,?_⟩
 rw[dI,jM hn hk];rw[aq hm]at a
 omega
theorem gm.done{w wr:World}{g o n:Nat}{l ys:List Nat}{f ov bo:Nat}(h:gm w g o l ys f n ov bo wr)(hm:ys.length<=n){t:Bool}(ht:t=decide (0 < ov+bo)):iS w g o n l ys f (.returned (.bool t)) wr:=by
 obtain⟨zs,hz,a,_,_,b⟩:=h;exact⟨ov+bo,by rw[ht],zs,hz,a,by rw[b,aq hm]⟩
theorem yY{y f ov:Nat}(hy:y < 4294967296)(hf:f < 4294967296)(hc:ov < 4294967296):
  ∃p s t u:Nat,Hid (s=ov+y*f)/\Hid (t=s%4294967296)/\Hid (u=s/4294967296)/\Hid (s/4294967296 < 4294967296)/\t < 4294967296/\IntKind.u64.wrap ((y:Int)*f)=p/\IntKind.u64.wrap ((ov:Int)+p)=s/\
   (s:Int)%4294967296=t/\(s:Int) /4294967296=u:=by
 have hp:=lY hy hf;refine⟨y*f,ov+y*f,(ov+y*f)%4294967296,(ov+y*f) /4294967296,rfl,rfl,rfl,?_,by omega,?_,?_,by omega,by omega⟩
 ·show _ < _;omega
 ·have:=bg (y*f) (by omega);simpa using this
 ·have:=bg (ov+y*f) (by omega);simpa using this
theorem kF (w:World)(g o n c b m c2 f:Nat)(A:Option Addr)(l ys:List Nat)(hg:du w g l)(hl:aV l)(hn:o+n<=l.length)(hbl:l.length<=1099511627776)(h2:Sl w b A m c2 ys)(hne:0 < m->b≠g)(hm:m<=n)(hf:f < 4294967296):
  Calls prog 245 #[.slice (some ⟨g,o,none⟩) n c,.slice A m c2,.int .u32 (f:Int)] w (iS w g o n l ys f):=by
 have j:=Lib.hid h2.len
 go_enter func245,ntmps245
 go_wp2
 go_loopw [7,8,12] (fun v u i wr=>∃k ov bo:Nat,k<=n/\i= .int .i64 k/\v= .int .u64 ov/\u= .int .u32 bo/\gm w g o l ys f k ov bo wr) (fun _ _ i _=>n-(intOf i).toNat)
 case atStart=>exact ⟨0,0,0,Nat.zero_le _,rfl,rfl,rfl,[],rfl,⟨by rw[pg];exact hg,dG _ _,aV.nil⟩,by omega,by omega,by simp[val]⟩
 case round=>
  obtain⟨k,ov,bo,V,rfl,rfl,rfl,P⟩:=hrel;have q:=Lib.hid P;clear P
  by_cases hlt:k < n
  ·have G:=q
   obtain⟨zs,hz,ht,D,d,-⟩:=G;have hcell:=ht.cell (by omega);rw[hz]at hcell
   have U:wr.frozen? ⟨g,o+k,none⟩=false:=ht.1.frozen _
   have E:=hl.getD (o+k)
   have N:=h2.grown ht.2.1 (fun h=>by simpa using hne h)
   clear ht hz hg;obtain⟨x,hx⟩:∃x,l.getD (o+k) 0=x:=⟨_,rfl⟩;rw[hx]at hcell E;have O:=Lib.hid hx;clear hx
   by_cases L:k < m
   ·obtain⟨o2,rfl,C⟩:=N.at (by omega);have a:=C k L
    have z:=h2.lim.getD k
    clear C;obtain⟨y,hy⟩:∃y,ys.getD k 0=y:=⟨_,rfl⟩;rw[hy]at a z
    have H:=Lib.hid hy;clear hy;obtain⟨p,s,t,u,R,S,T,Q,bt,e1,e2,e3,W⟩:=yY z hf D
    go_wp2_with (go_at_call 254;((with_reducible refine(lg x t bo E bt d _).mono ?_);rintro e w' ⟨rfl,rfl⟩))
    go_roundw
    case rel=>exact ⟨k+1,u,xl x t bo,by omega,by go_num,rfl,rfl,q.out.step (by omega) O.out hl H.out R.out S.out T.out Q.out⟩
    case measure=>simp [intOf];omega
   ·have H:=Lib.hid (de (xs:=ys) (k:=k) (by rw[j.out];omega))
    have r:=Lib.hid (q.out.step (s:=ov) (t:=ov) (u:=0) (by omega) O.out hl H.out (by simp) (by omega) (by omega) (by omega))
    by_cases B:ov=0
    ·subst B
     by_cases h1:bo=0
     ·subst h1;go_wp2
      go_ret
      exact q.out.early hl hn V (by rw[j.out];omega)
     ·have J:((bo:Int)==0)=false:=by simpa using h1
      go_wp2_with (go_at_call 254;((with_reducible refine(tF x bo E d _).mono ?_);rintro e w' ⟨rfl,rfl⟩))
      go_roundw
      case rel=>exact ⟨k+1,0,xl x 0 bo,by omega,by go_num,rfl,rfl,r.out⟩
      case measure=>simp [intOf];omega
    ·have I:((ov:Int)==0)=false:=by simpa using B
     go_wp2_with (go_at_call 254;((with_reducible refine(lg x ov bo E D d _).mono ?_);rintro e w' ⟨rfl,rfl⟩))
     go_roundw
     case rel=>exact ⟨k+1,0,xl x ov bo,by omega,by go_num,by congr 1;omega,rfl,r.out⟩
     case measure=>simp [intOf];omega
  ·have M:k=n:=by omega
   subst M
   have F:=Lib.hid (fun t=>q.out.done (t:=t) (by rw[j.out];omega))
   by_cases B:ov=0
   ·subst B
    by_cases h1:bo=0
    ·subst h1;go_wp2
     go_ret
     exact F.out _ (by simp)
    ·have J:((bo:Int) !=0)=true:=by simpa using h1
     go_wp2
     go_ret
     exact F.out _ (by simp;omega)
   ·have I:((ov:Int) !=0)=true:=by simpa using B
    go_wp2
    go_ret
    exact F.out _ (by simp;omega)
theorem nS (w:World)(c m c2 f:Nat)(A B:Option Addr):
  Calls prog 245 #[.slice B 0 c,.slice A m c2,.int .u32 (f:Int)] w fun e w'=>e= .returned (.bool false)/\w=w':=by
 go_enter func245,ntmps245
 go_wp2
 go_loop [7,8,12] (fun v u i=>v= .int .u64 0/\u= .int .u32 0/\i= .int .i64 0) (fun _ _ _=>0)
 case atStart=>exact ⟨rfl,rfl,rfl⟩
 case round=>
  obtain⟨rfl,rfl,rfl⟩:=hrel;go_wp2
  go_ret
  exact⟨rfl,rfl⟩
theorem pX (w:World)(g o n c b m c2:Nat)(A:Option Addr)(l ys:List Nat)(hg:du w g l)(hl:aV l)(hn:o+n<=l.length)(hbl:l.length<=1099511627776)(h2:Sl w b A m c2 ys)(hne:0 < m->b≠g)(hm:m<=n):
  Calls prog 245 #[.slice (some ⟨g,o,none⟩) n c,.slice A m c2,.int .u32 1] w (iS w g o n l ys 1):=kF w g o n c b m c2 1 A l ys hg hl hn hbl h2 hne hm (by omega)
theorem nk (w:World)(c m c2:Nat)(A B:Option Addr):
  Calls prog 245 #[.slice B 0 c,.slice A m c2,.int .u32 1] w fun e w'=>e= .returned (.bool false)/\w=w':=nS w c m c2 1 A B
theorem jR{w:World}{b:Nat}{A:Option Addr}{n c:Nat}{xs:List Nat}(h:Sl w b A n c xs):Sl w b A (ah (val xs)).length c (ah (val xs)):=by
 have:=h.take (k:=(ah (val xs)).length) (by have:=aQ h.lim;have:=h.len;omega)
 rwa [er h.lim]at this
theorem qV{la:List Nat}(h:aV la)(n k:Nat):aV (la ++(List.replicate n 0).drop k):=h.append ((aV.replicate n).drop k)
theorem rL (la:List Nat)(n k:Nat):val (la ++(List.replicate n 0).drop k)=val la:=by
 rw[dI,List.drop_replicate,ig];simp
theorem bL{w w1 w2:World}(h1:Below w.heap.size w w1)(h2:w1.grownBy w2 (some w.heap.size)):Below w.heap.size w w2:=h1.trans (eU h2 (Nat.le_refl _) h1.size)
theorem tW{la lb zs:List Nat}{cy p:Nat}(hp:la.length=p)(hq:lb.length<=p)(ha:aV la)(hb:aV lb)(hz:zs.length=p+1)(hv:val zs+cy*4294967296^(p+1)=val la+val lb):val zs=val la+val lb:=by
 have h1:=bI ha;have h2:=bI hb;have a:=Nat.pow_le_pow_right (n:=4294967296) (by decide) hq;rw[hp]at h1;rw[Nat.pow_succ]at hv
 rcases Nat.eq_zero_or_pos cy with e | e
 ·subst e;omega
 ·have:=Nat.mul_le_mul_right (4294967296^p*4294967296) e
  omega
theorem gF.of{w w1 w':World}{l:List Nat}{g c:Nat}{A:Option Addr}(h:nG w1 w' l g A c)(hb:Below w1.heap.size w1 w')(hw:Below w.heap.size w w1):gF w l (.returned (.slice A l.length c)) w':=
 ⟨g,A,c,rfl,⟨h.1,fun h0=>⟨Nat.le_trans hw.size (h.2 h0).1,(h.2 h0).2⟩⟩,hw.trans (hb.mono hw.size)⟩
theorem bU.all{w w':World}{g:Nat}{l zs:List Nat}(h:bU w g 0 l zs w')(hz:zs.length=l.length):du w' g zs:=by
 have:=h.1
 unfold iQ at this
 rw[hz]at this
 simpa using this
theorem zB (w:World)(b1 b2:Nat)(A1 A2:Option Addr)(n m c1 c2 p q:Nat)(la lb:List Nat)(h1:Sl w b1 A1 p c1 la)(h2:Sl w b2 A2 q c2 lb)
  (HC1:Hid (Calls prog 223 #[.slice A1 n c1] w fun e w'=>e= .returned (.slice A1 p c1)/\w=w'))
  (HC2:Hid (Calls prog 223 #[.slice A2 m c2] w fun e w'=>e= .returned (.slice A2 q c2)/\w=w'))
  (hp:p<=549755813888) (hq:q<=549755813888):
  Calls prog 221 #[.slice A1 n c1,.slice A2 m c2] w (gF w (ah (val la+val lb))):=by
 have v:=Lib.hid h1.len;have x:=Lib.hid h2.len
 by_cases C:p < q
 ·have s:=fun W=>dF (q+1) ((q:Int)+1) (by omega) (by omega) W
  have b:Below w.heap.size w (w.alloc (.cells (j6 (List.replicate (q+1) 0)) 103)):=(Below.refl _ _).alloc (Nat.le_refl _) _
  go_enter func221,ntmps221
  go_wp2_with (first
   | (go_at_call 223;((with_reducible refine HC1.out.mono ?_);rintro e w' ⟨rfl,rfl⟩))
   | (go_at_call 223;((with_reducible refine HC2.out.mono ?_);rintro e w' ⟨rfl,rfl⟩))
   | (with_reducible refine gL rfl (.tmp 21) (.tmp 22) 41 rfl 103 Tryz.underlying41 tE w.heap.size (q+1) (q+1) b2 A2 q c2 (List.replicate (q+1) 0) lb rfl rfl (du.new w _) (h2.below b) (by simp) (by omega) ?_;intro A i f;have k:=Lib.hid i;clear i))
  have a:=Lib.hid (bL b f)
  have g:(lb ++(List.replicate (q+1) 0).drop q).length=q+1:=by have:=x.out;simp;omega
  refine(kL A w.heap.size 0 (q+1) (q+1) b1 p c1 A1 _ la k.out (qV h2.lim _ _) (by omega) (by omega) (h1.below a.out) (fun h=>by have:=h1.lt h;omega) (by omega)).mono ?_
  rintro e B ⟨rfl,zs,cy,hz,ht,z,t⟩;rw[List.drop_zero,List.take_of_length_le (by omega),rL]at t;have u:=Lib.hid (tW x.out (by rw[v.out];omega) h2.lim h1.lim hz t);have l:=Lib.hid (ht.all (by omega));have j:=Lib.hid (a.out.trans (eU ht.2.1 (Nat.le_refl _) a.out.size));have y:=Lib.hid ht.2.2;have o:=Lib.hid hz;clear t ht g f s b hz HC1 HC2
  have hs:=l.out.all y.out (by rw[o.out];omega) (c:=q+1) (by rw[o.out];omega);rw[o.out]at hs
  go_wp2_with (go_at_call 181;((with_reducible refine(da B w.heap.size _ (q+1) (q+1) zs hs).mono ?_);rintro e D ⟨g4,A4,c4,rfl,d,r⟩))
  go_ret
  rw[u.out]at d;rw[u.out,Nat.add_comm (val la)];rw[Nat.add_comm]at d|-;exact gF.of d r j.out
 ·have s:=fun W=>dF (p+1) ((p:Int)+1) (by omega) (by omega) W
  have b:Below w.heap.size w (w.alloc (.cells (j6 (List.replicate (p+1) 0)) 103)):=(Below.refl _ _).alloc (Nat.le_refl _) _
  go_enter func221,ntmps221
  go_wp2_with (first
   | (go_at_call 223;((with_reducible refine HC1.out.mono ?_);rintro e w' ⟨rfl,rfl⟩))
   | (go_at_call 223;((with_reducible refine HC2.out.mono ?_);rintro e w' ⟨rfl,rfl⟩))
   | (with_reducible refine gL rfl (.tmp 21) (.tmp 22) 41 rfl 103 Tryz.underlying41 tE w.heap.size (p+1) (p+1) b1 A1 p c1 (List.replicate (p+1) 0) la rfl rfl (du.new w _) (h1.below b) (by simp) (by omega) ?_;intro A i f;have k:=Lib.hid i;clear i))
  have a:=Lib.hid (bL b f)
  have g:(la ++(List.replicate (p+1) 0).drop p).length=p+1:=by have:=v.out;simp;omega
  refine(kL A w.heap.size 0 (p+1) (p+1) b2 q c2 A2 _ lb k.out (qV h1.lim _ _) (by omega) (by omega) (h2.below a.out) (fun h=>by have:=h2.lt h;omega) (by omega)).mono ?_
  rintro e B ⟨rfl,zs,cy,hz,ht,z,t⟩;rw[List.drop_zero,List.take_of_length_le (by omega),rL]at t;have u:=Lib.hid (tW v.out (by rw[x.out];omega) h1.lim h2.lim hz t);have l:=Lib.hid (ht.all (by omega));have j:=Lib.hid (a.out.trans (eU ht.2.1 (Nat.le_refl _) a.out.size));have y:=Lib.hid ht.2.2;have o:=Lib.hid hz;clear t ht g f s b hz HC1 HC2
  have hs:=l.out.all y.out (by rw[o.out];omega) (c:=p+1) (by rw[o.out];omega);rw[o.out]at hs
  go_wp2_with (go_at_call 181;((with_reducible refine(da B w.heap.size _ (p+1) (p+1) zs hs).mono ?_);rintro e D ⟨g4,A4,c4,rfl,d,r⟩))
  go_ret
  rw[u.out]at d;rw[u.out];exact gF.of d r j.out
theorem Eb (w:World)(b1 b2:Nat)(A1 A2:Option Addr)(n m c1 c2:Nat)(xs ys:List Nat)(h1:Sl w b1 A1 n c1 xs)(h2:Sl w b2 A2 m c2 ys)(hn:n<=549755813888)(hm:m<=549755813888):
  Calls prog 221 #[.slice A1 n c1,.slice A2 m c2] w (gF w (ah (val xs+val ys))):=by
 have:=zB w b1 b2 A1 A2 n m c1 c2 _ _ _ _ (jR h1) (jR h2) (eY w b1 A1 n c1 xs h1) (eY w b2 A2 m c2 ys h2)
  (by have:=aQ h1.lim;have:=h1.len;omega) (by have:=aQ h2.lim;have:=h2.len;omega)
 rwa [aB,aB]at this
theorem II (w:World)(b1 b2:Nat)(A1 A2:Option Addr)(n m c1 c2:Nat)(xs ys:List Nat)(h1:Sl w b1 A1 n c1 xs)(h2:Sl w b2 A2 m c2 ys)(hlt:val xs < val ys):
  Calls prog 222 #[.slice A1 n c1,.slice A2 m c2] w fun e w'=>e= .returned (.tuple #[.slice none 0 0,.bool false])/\∃q,w'=w.drewN q:=by
 have a:=lK w b1 b2 A1 A2 n m c1 c2 xs ys h1 h2;rw[av (by omega)]at a;have a:=Lib.hid a;clear h1 h2 hlt
 go_enter func222,ntmps222
 go_wp2_with (go_at_call 183;((with_reducible refine a.out.mono ?_);rintro e w' ⟨rfl,q,rfl⟩))
 go_ret2
 exact⟨rfl,_,rfl⟩
def Jd (w:World)(l:List Nat)(e:Ending)(w':World):Prop:=
 ∃g A c,e= .returned (.tuple #[.slice A l.length c,.bool true])/\nG w w' l g A c/\Below w.heap.size w w'
theorem nG.of{w w1 w':World}{l:List Nat}{g c:Nat}{A:Option Addr}(h:nG w1 w' l g A c)(hw:Below w.heap.size w w1):nG w w' l g A c:=
 ⟨h.1,fun h0=>⟨Nat.le_trans hw.size (h.2 h0).1,(h.2 h0).2⟩⟩
theorem oV{a b:Nat}(h:b<=a):∃z:Int,ag (a:Int) (b:Int)=z/\0<=z:=by
 rcases Nat.lt_or_ge b a with h1 | h1
 ·exact⟨_,aC (by omega),by omega⟩
 ·exact⟨_,be (by omega),by omega⟩
theorem F3{a b z q p:Nat}(hv:a+q*p=z+1*b)(hz:z < p)(h:b<=a):z=a-b:=by
 rcases Nat.eq_zero_or_pos q with e | e
 ·subst e;omega
 ·have:=Nat.mul_le_mul_right p e
  omega
theorem IH (w:World)(b1 b2:Nat)(A1 A2:Option Addr)(n m c1 c2:Nat)(xs ys:List Nat)(h1:Sl w b1 A1 n c1 xs)(h2:Sl w b2 A2 m c2 ys)(hge:val ys<=val xs):
  Calls prog 222 #[.slice A1 n c1,.slice A2 m c2] w (Jd w (ah (val xs-val ys))):=by
 have t:=lK w b1 b2 A1 A2 n m c1 c2 xs ys h1 h2;obtain⟨z,hz,M⟩:=oV hge;rw[hz]at t;have t:=Lib.hid t;clear hz;have C:=Lib.hid hge;clear hge
 go_enter func222,ntmps222
 go_wp2_with (first
  | (go_at_call 183;((with_reducible refine t.out.mono ?_);rintro e w' ⟨rfl,q,rfl⟩))
  | (go_at_call 181;((with_reducible refine(da _ b1 A1 n c1 xs (h1.drewN _)).mono ?_);rintro e s ⟨g,A,c,rfl,b,o⟩)))
 have k:Sl s b2 A2 m c2 ys:=(h2.drewN _).below o
 have a:Below w.heap.size w s:=(aP (Below.refl _ _) _).trans o
 clear t o;refine(eY s b2 A2 m c2 ys k).mono ?_;rintro e O ⟨rfl,rfl⟩;have p:=Lib.hid (jR k)
 by_cases r:val xs=0
 ·have B:val ys=0:=by have:=C.out;omega
  have J:Hid (ah (val xs-val ys)=[]):=by show _=_;rw[r,Nat.zero_sub,aD]
  rw[r,aD]at b;rw[r,B];simp only[aD,List.length_nil]
  have hz:Sl s g A 0 c []:=b.1
  clear b r B p C
  go_wp2_with (first
   | (go_at_call 245;((with_reducible refine(nk _ _ _ _ _ _).mono ?_);rintro e H ⟨rfl,rfl⟩))
   | (go_at_call 181;((with_reducible refine(da s g A 0 c [] hz).mono ?_);rintro e H ⟨g4,A4,c4,rfl,x,D⟩)))
  go_ret2
  have e:ah (val [])=[]:=aD
  rw[e]at x;rw[e,J.out];exact⟨g4,A4,c4,rfl,x.of a,a.trans (D.mono a.size)⟩
 ·have j:0 < (ah (val xs)).length:=Nat.pos_of_ne_zero fun e=>r (bE.1 e)
  obtain⟨hg,rfl,i⟩:=b.2 j;have hge:=C.out;have u:=b.1.big;have v:=b.1.cap;have f:=aG hge;have d:=Lib.hid i
  have F:w.heap.size<=g:=hg
  clear i b hg r
  go_wp2_with fail
  refine(pX s g 0 _ c b2 _ c2 A2 _ _ d.out (dP _) (by omega) u p.out (fun h=>by have:=h2.lt (by have:=aQ h2.lim;have:=h2.len;omega);omega) f).mono ?_
  rintro e H ⟨N,rfl,zs,hz,ht,G⟩;rw[List.drop_zero,List.take_length,aB,aB]at G;have I:=Lib.hid (F3 G (by have:=bI ht.2.2;rwa [hz]at this) hge);have L:=Lib.hid (ht.all hz);have l:=Lib.hid (a.trans (eU ht.2.1 F a.size));have hs:=((ht.all hz).all ht.2.2 (by omega) (c:=c) (by rw[hz];exact v));rw[hz]at hs;clear G ht d hge C p hz f j
  go_wp2_with (go_at_call 181;((with_reducible refine(da H g _ _ _ zs hs).mono ?_);rintro e P ⟨g5,A5,c5,rfl,y,E⟩))
  go_ret2
  rw[I.out]at y;rw[I.out];exact⟨g5,A5,c5,rfl,y.of l.out,l.out.trans (E.mono l.out.size)⟩
def rT (w:World)(l:List Nat)(A:Option Addr)(c:Nat):Prop:=∃b,Sl w b A l.length c l/\(0 < l.length->∃cs,w.heap[b]?=some (.cells cs 103 (0,0)))
theorem rT.below{w w':World}{l:List Nat}{A:Option Addr}{c:Nat}(h:rT w l A c)(hb:Below w.heap.size w w'):rT w' l A c:=by
 obtain⟨b,h,k⟩:=h
 refine⟨b,h.below hb,fun hn=>?_⟩
 obtain⟨cs,e⟩:=k hn;exact⟨cs,(hb.block b (h.lt hn)).trans e⟩
instance {w w':World} {l:List Nat} {A:Option Addr} {c:Nat}:Mv (rT w l A c) w w' (rT w' l A c):=⟨fun h b=>h.below b⟩
theorem nG.out{w w':World}{l:List Nat}{g c:Nat}{A:Option Addr}(h:nG w w' l g A c):rT w' l A c:=⟨g,h.1,fun hn=>⟨_,(h.2 hn).2.2⟩⟩
def Je (w:World)(lq lr:List Nat)(e:Ending)(w':World):Prop:=
 ∃A1 c1 A2 c2,e= .returned (.tuple #[.slice A1 lq.length c1,.slice A2 lr.length c2])/\rT w' lq A1 c1/\rT w' lr A2 c2/\Below w.heap.size w w'
def tP (w:World)(g n d:Nat)(xs:List Nat)(k r:Nat)(wr:World):Prop:=
 ∃hs:List Nat,hs.length=k/\aV hs/\r < d/\du wr g (List.replicate (n-k) 0 ++hs)/\w.grownBy wr (some g)/\val hs*d+r=val (xs.drop (n-k))
theorem yj{w wr:World}{g n d k r x:Nat}{xs hs:List Nat}(hd:d < 4294967296)(hl:aV xs)(hn:xs.length=n)(hk:k < n)(hhs:hs.length=k)(hsl:aV hs)(hr:r < d)(hown:du wr g (List.replicate (n-k) 0 ++hs))(hgr:w.grownBy wr (some g))
  (hv:val hs*d+r=val (xs.drop (n-k))) (hx:xs.getD (n-1-k) 0=x) (q:Nat):
  tP w g n d xs (k+1) ((r*4294967296+x)%d) ((wr.drewN q).setCell ⟨g,n-1-k,none⟩ (.int .u32 (((r*4294967296+x) /d:Nat):Int))):=by
 have a:0 < d:=by omega
 have b:x < 4294967296:=by rw[<-hx];exact hl.getD _
 have hq:(r*4294967296+x) /d < 4294967296:=by
  rw[Nat.div_lt_iff_lt_mul a,Nat.mul_comm 4294967296 d]
  have:=Nat.mul_le_mul_right 4294967296 (show r+1<=d from hr)
  omega
 refine⟨(r*4294967296+x) /d::hs,by simp;omega,aV.cons hq hsl,Nat.mod_lt _ a,?_,fS (ln hgr q) _,?_⟩
 ·have h2:du ((wr.drewN q).setCell ⟨g,n-1-k,none⟩ (.int .u32 (((r*4294967296+x) /d:Nat):Int))) g ((List.replicate (n-k) 0 ++hs).set (n-1-k) ((r*4294967296+x) /d)):=du.set (w:=wr.drewN q) hown _ _
  have e:(List.replicate (n-k) 0 ++hs).set (n-1-k) ((r*4294967296+x) /d)=List.replicate (n-(k+1)) 0 ++((r*4294967296+x) /d::hs):=by
   rw[show n-k=n-(k+1)+1 by omega,<-List.replicate_append_replicate,List.append_assoc,List.set_append_right _ _ (by simp;omega),List.length_replicate,show n-1-k-(n-(k+1))=0 by omega]
   simp
  rwa [e]at h2
 ·rw[show n-(k+1)=n-1-k by omega,aW (by omega),hx,show n-1-k+1=n-k by omega,<-hv,dA]
  have e:=Nat.mod_add_div (r*4294967296+x) d
  have e2:(r*4294967296+x) /d*d=d*((r*4294967296+x) /d):=Nat.mul_comm _ _
  rw[Nat.add_mul,e2,Nat.mul_assoc];generalize d*((r*4294967296+x) /d)=t at *;generalize (r*4294967296+x)%d=u at *;generalize val hs*d=v at *
  omega
theorem qA (w:World)(b n c:Nat)(A:Option Addr)(xs:List Nat)(d:Nat)(h:Sl w b A n c xs)(hd0:0 < d)(hd:d < 4294967296):
  Calls prog 247 #[.slice A n c,.int .u32 (d:Int)] w (Je w (ah (val xs/d)) (ah (val xs%d))):=by
 have S:=Lib.hid h.len;have V:=h.big
 have R:=fun W=>dF n (n:Int) rfl (by omega) W
 have y:Below w.heap.size w (w.alloc (.cells (j6 (List.replicate n 0)) 103)):=(Below.refl _ _).alloc (Nat.le_refl _) _
 go_enter func247,ntmps247
 go_wp2;clear R
 go_loopw [7,15] (fun u i wr=>∃k r:Nat,k<=n/\i= .int .i64 k/\u= .int .u32 r/\tP (w.alloc (.cells (j6 (List.replicate n 0)) 103)) w.heap.size n d xs k r wr) (fun _ i _=>n-(intOf i).toNat)
 case atStart=>exact ⟨0,0,Nat.zero_le _,rfl,rfl,[],rfl,aV.nil,hd0,by rw[List.append_nil];exact du.new w _,dG _ _,by rw[List.drop_of_length_le (by rw[S.out];omega)];simp[val]⟩
 case round=>
  obtain⟨k,r,hk,rfl,rfl,T⟩:=hrel;have H:=Lib.hid T;clear T
  by_cases hlt:k < n
  ·obtain⟨hs,j,l,G,a,f,s⟩:=H.out;have O:=bL y f;obtain⟨o1,rfl,C⟩:=(h.below O).at (by omega);have hcell:=C (n-1-k) (by omega);have N:=h.lim.getD (n-1-k)
   have D:(List.replicate (n-k) 0 ++hs).length=n:=by simp;omega
   have P:=a.cell (i:=n-1-k) (by omega);have bA:=a.frozen (n-1-k);obtain⟨q,F⟩:∃q,(List.replicate (n-k) 0 ++hs).getD (n-1-k) 0=q:=⟨_,rfl⟩;rw[F]at P;have M:=Lib.hid (yj hd h.lim S.out hlt j l G a f s rfl);clear C s a f j l D F H
   revert hcell N M
   generalize xs.getD (n-1-k) 0=x
   intro hcell N M
   have i1:((n:Int)-1-k).toNat=n-1-k:=by omega
   go_wp2_with (go_at_call 255;((with_reducible refine(xy r x d G N hd _).mono ?_);rintro e w' ⟨rfl,q2,rfl⟩))
   go_roundw
   case rel=>exact ⟨k+1,_,by omega,by go_num,rfl,M.out _⟩
   case measure=>simp [intOf];omega
  ·have Q:k=n:=by omega
   subst Q;obtain⟨hs,j,l,G,a,f,s⟩:=H.out;rw[Nat.sub_self,List.replicate_zero,List.nil_append]at a;rw[Nat.sub_self,List.drop_zero]at s;have U:=a.all l (by omega) (c:=k) (by omega);rw[j]at U
   have hq:val xs/d=val hs:=by
    rw[<-s,Nat.mul_comm,Nat.mul_add_div hd0,Nat.div_eq_of_lt G,Nat.add_zero]
   have hm:val xs%d=r:=by
    rw[<-s,Nat.mul_comm,Nat.mul_add_mod,Nat.mod_eq_of_lt G]
   have Y:=Lib.hid hm;have Z:=Lib.hid hq;have I:=Lib.hid (bL y f);clear a f s j l H hq hm
   go_wp2_with (go_at_call 181;((with_reducible refine(da wr w.heap.size _ k k hs U).mono ?_);rintro e m ⟨g4,A4,c4,rfl,E,z⟩))
   have v:Sl (m.alloc (.cells #[.int .u32 (r:Int)] 103)) m.heap.size (some ⟨m.heap.size,0,none⟩) 1 1 [r]:=(du.new m [r]).all (aV.cons (by omega) aV.nil) (by simp) (Nat.le_refl _)
   have g:Below m.heap.size m (m.alloc (.cells #[.int .u32 (r:Int)] 103)):=(Below.refl _ _).alloc (Nat.le_refl _) _
   have t:=Lib.hid (I.out.trans (z.mono I.out.size))
   have J:Hid (rT m (ah (val hs)) A4 c4):=E.out
   clear E z I;refine(da _ m.heap.size _ 1 1 [r] v).mono ?_;rintro e X ⟨g5,A5,c5,rfl,p,B⟩
   have e1:val [r]=r:=by simp[val]
   rw[e1]at p|-
   have o:Below m.heap.size m X:=g.trans (B.mono g.size)
   have L:Hid (rT X (ah r) A5 c5):=p.out
   clear p B g v e1;go_wp2
   go_ret2
   rw[Z.out,Y.out];exact⟨A4,c4,A5,c5,rfl,J.out.below o,L.out,t.out.trans (o.mono t.out.size)⟩
end Go.Proofs.YteigedaefgmojaaGreatDoor
namespace Go.Proofs.YteigedaefgmojaaGreatDoor
open Go.Proofs.Tryz
set_option maxHeartbeats 1000000
open Go.RowKit
set_option linter.unusedVariables false
theorem AV{P top r2 R' high next v' D:Nat}(hD:D < 4294967296)(hh:0 < high)(hv:v' < P)(hx:D*(high*4294967296+next)<=top*4294967296+r2):
  D<=(P*(top*4294967296+r2)+R') / (P*(high*4294967296+next)+v')+1:=by
 have a:0 < P:=by omega
 have b:0 < P*(high*4294967296+next)+v':=by
  have:0 < P*(high*4294967296+next):=Nat.mul_pos a (by omega)
  omega
 have h1:D*(P*(high*4294967296+next)+v') < (P*(top*4294967296+r2)+R')+(P*(high*4294967296+next)+v'):=by
  have a1:D*(P*(high*4294967296+next))<=P*(top*4294967296+r2):=by
   rw[Nat.mul_left_comm];exact Nat.mul_le_mul_left P hx
  have a2:D*v'<=4294967295*P:=Nat.mul_le_mul (by omega) (by omega)
  have a3:P*4294967296<=P*(high*4294967296+next):=Nat.mul_le_mul_left P (by omega)
  rw[Nat.mul_add]
  omega
 have h2:(D-1)*(P*(high*4294967296+next)+v')<=P*(top*4294967296+r2)+R':=by
  rw[Nat.sub_mul,Nat.one_mul]
  omega
 have c:=(Nat.le_div_iff_mul_le b).2 h2
 omega
theorem AU{P top r2 R' high next v' q:Nat}(hR:R' < P)(hq:q*(P*(high*4294967296+next)+v')<=P*(top*4294967296+r2)+R'):q*(high*4294967296+next)<=top*4294967296+r2:=by
 have a1:P*(q*(high*4294967296+next))<=q*(P*(high*4294967296+next)+v'):=by
  rw[Nat.mul_add q (P*(high*4294967296+next)) v',Nat.mul_left_comm q P]
  exact Nat.le_add_right _ _
 have a2:P*(q*(high*4294967296+next)) < P*(top*4294967296+r2+1):=by
  rw[Nat.mul_add P (top*4294967296+r2)]
  omega
 have:=Nat.lt_of_mul_lt_mul_left a2
 omega
theorem xH{top r2 high next q:Nat}(h2:r2 < 4294967296)(h:q*(high*4294967296+next)<=top*4294967296+r2):q*high<=top:=by
 have a:q*high*4294967296<=q*(high*4294967296+next):=by
  rw[Nat.mul_add,Nat.mul_assoc];exact Nat.le_add_right _ _
 have b:q*high*4294967296 < (top+1)*4294967296:=by omega
 have:=Nat.lt_of_mul_lt_mul_right b
 omega
theorem KO{rs:List Nat}{n:Nat}(hn:2<=n)(hl:rs.length=n+1):val rs=4294967296^(n-2)*((rs.getD n 0*4294967296+rs.getD (n-1) 0)*4294967296+rs.getD (n-2) 0)+val (rs.take (n-2)):=by
 rw[am rs (k:=n-2) (by omega),aW (by omega),show n-2+1=n-1 by omega,aW (by omega),show n-1+1=n by omega,aW (by omega),List.drop_eq_nil_of_le (by omega),l8,Nat.add_comm]
 congr 2
 omega
theorem KN{ds:List Nat}{n:Nat}(hn:2<=n)(hl:ds.length=n):val ds=4294967296^(n-2)*(ds.getD (n-1) 0*4294967296+ds.getD (n-2) 0)+val (ds.take (n-2)):=by
 rw[am ds (k:=n-2) (by omega),aW (by omega),show n-2+1=n-1 by omega,aW (by omega),List.drop_eq_nil_of_le (by omega),l8,Nat.add_comm]
 congr 2
 omega
def fV (q top high:Nat)(D lf:Nat):Prop:=q<=D/\D < 4294967296/\lf+D*high=top
theorem qK{q top high:Nat}(hh:0 < high)(hq:q < 4294967296)(hqt:q*high<=top):fV q top high (min (top/high) 4294967295) (top-min (top/high) 4294967295*high):=by
 have h1:=(Nat.le_div_iff_mul_le hh).2 hqt
 have h2:min (top/high) 4294967295*high<=top:=by
  have:=Nat.mul_le_mul_right high (Nat.min_le_left (top/high) 4294967295)
  have:=Nat.div_mul_le_self top high
  omega
 exact⟨by omega,by omega,by omega⟩
theorem sF{q top r2 high next D lf:Nat}(h:fV q top high D lf)(hqq:q*(high*4294967296+next)<=top*4294967296+r2)(hgt:lf*4294967296+r2 < D*next):fV q top high (D-1) (lf+high)/\0 < D:=by
 obtain⟨h1,h2,a⟩:=h
 have b:0 < D:=by
  rcases Nat.eq_zero_or_pos D with e | e
  ·subst e;omega
  ·exact e
 have c:q≠D:=by
  rintro rfl;rw[Nat.mul_add,<-Nat.mul_assoc]at hqq;rw[<-a]at hqq
  omega
 refine⟨⟨by omega,by omega,?_⟩,b⟩
 obtain⟨d,rfl⟩:∃d,D=d+1:=⟨D-1,by omega⟩
 rw[Nat.add_sub_cancel];rw[Nat.add_mul,Nat.one_mul]at a
 omega
theorem ou{q top r2 high next D lf:Nat}(h:fV q top high D lf)(hle:D*next<=lf*4294967296+r2):D*(high*4294967296+next)<=top*4294967296+r2:=by
 obtain⟨_,_,a⟩:=h;rw[Nat.mul_add,<-Nat.mul_assoc,<-a]
 omega
theorem nL{q top r2 high next D lf:Nat}(h:fV q top high D lf)(hn:next < 4294967296)(hb:4294967296<=lf):D*(high*4294967296+next)<=top*4294967296+r2:=by
 apply ou h
 have:=Nat.mul_le_mul (show D<=4294967295 by have:=h.2.1;omega) (show next<=4294967295 by omega)
 omega
theorem sG{a b high:Nat}(ha:a < 4294967296)(hb:b < 4294967296)(hh:0 < high):
  ∃top d0 D p lf:Nat,Hid (top=a*4294967296+b)/\Hid (D=min (top/high) 4294967295)/\Hid (lf=top-D*high)/\bits BinOp.or IntKind.u64 ((a:Int)*4294967296) (b:Int)=top/\(top:Int) /high=d0/\IntKind.u64.wrap (d0:Int)=d0/\
   (if (4294967295:Int) < d0 then (4294967295:Int)else d0)=D/\IntKind.u64.wrap ((D:Int)*high)=p/\IntKind.u64.wrap ((top:Int)-p)=lf:=by
 have c:min ((a*4294967296+b) /high) 4294967295*high<=a*4294967296+b:=by
  have:=Nat.mul_le_mul_right high (Nat.min_le_left ((a*4294967296+b) /high) 4294967295)
  have:=Nat.div_mul_le_self (a*4294967296+b) high
  omega
 refine⟨a*4294967296+b,(a*4294967296+b) /high,min ((a*4294967296+b) /high) 4294967295,min ((a*4294967296+b) /high) 4294967295*high,a*4294967296+b-min ((a*4294967296+b) /high) 4294967295*high,rfl,rfl,rfl,?_,?_,?_,?_,?_,?_⟩
 ·have:=lW a b ha hb
  rw[this];simp
 ·simp
 ·exact bg _ (Nat.lt_of_le_of_lt (Nat.div_le_self _ _) (by omega))
 ·split <;> omega
 ·have:=bg (min ((a*4294967296+b) /high) 4294967295*high) (by omega)
  simpa using this
 ·have:=bg (a*4294967296+b-min ((a*4294967296+b) /high) 4294967295*high) (by omega)
  rw[Int.natCast_sub c]at this;exact this.trans (by omega)
def xc (w:World)(q:Nat)(e:Ending)(w':World):Prop:=∃D m:Nat,e= .returned (.int .u32 (D:Int))/\w'=w.drewN m/\q<=D/\D<=q+1/\D < 4294967296
theorem xG (w:World)(b1 b2:Nat)(A1 A2:Option Addr)(n c1 c2:Nat)(rs ds:List Nat)(h1:Sl w b1 A1 (n+1) c1 rs)(h2:Sl w b2 A2 n c2 ds)(hn:2<=n)(hh:ds.getD (n-1) 0≠0)(hlt:val rs < val ds*4294967296):
  Calls prog 259 #[.slice A1 (n+1) c1,.slice A2 n c2] w (xc w (val rs/val ds)):=by
 have L:=h1.big;have y:=KO hn h1.len;have k:=KN hn h2.len;have g:=bI (h1.lim.take (n-2));have h:=bI (h2.lim.take (n-2));rw[List.length_take,h1.len,Nat.min_eq_left (by omega)]at g;rw[List.length_take,h2.len,Nat.min_eq_left (by omega)]at h;have z:=h1.lim.getD n;have A:=h1.lim.getD (n-1);have l:=h1.lim.getD (n-2);have J:=h2.lim.getD (n-1)
 have m:=h2.lim.getD (n-2);obtain⟨o1,rfl,o⟩:=h1.at (by omega);obtain⟨o2,rfl,F⟩:=h2.at (by omega);have g1:=o n (by omega);have g2:=o (n-1) (by omega);have g3:=o (n-2) (by omega);have g4:=F (n-1) (by omega);have g5:=F (n-2) (by omega)
 have j:0 < val ds:=by
  rw[k]
  have:0 < 4294967296^(n-2)*(ds.getD (n-1) 0*4294967296+ds.getD (n-2) 0):=Nat.mul_pos (Nat.pow_pos (by decide)) (by omega)
  omega
 have hq:val rs/val ds < 4294967296:=by
  rw[Nat.div_lt_iff_lt_mul j,Nat.mul_comm];exact hlt
 have f:val rs/val ds*val ds<=val rs:=Nat.div_mul_le_self _ _
 clear o F h1 h2 hlt j
 revert y k z A l J m g1 g2 g3 g4 g5 hh f hq g h
 generalize rs.getD n 0=a;generalize rs.getD (n-1) 0=b;generalize rs.getD (n-2) 0=r2;generalize ds.getD (n-1) 0=high
 generalize ds.getD (n-2) 0=next
 generalize val (rs.take (n-2))=R';generalize val (ds.take (n-2))=U;generalize 4294967296^(n-2)=P;generalize val rs=R;generalize val ds=V
 intro hh y k g h z A l J m g1 g2 g3 g4 g5 hq f
 subst y;subst k;have c:=AU g f
 have e:=Lib.hid (fun D hD hx=>AV (P:=P) (top:=a*4294967296+b) (r2:=r2) (next:=next) (R':=R') (D:=D) hD (Nat.pos_of_ne_zero hh) h hx)
 clear f g h
 revert hq c e
 generalize (P*((a*4294967296+b)*4294967296+r2)+R') / (P*(high*4294967296+next)+U)=q
 intro hq c e
 obtain⟨top,W,D,p,lf,G,E2,E3,e1,e2,B,e3,N,O⟩:=sG z A (Nat.pos_of_ne_zero hh);rw[<-G.out]at c e
 have d:Hid (fV q top high D lf):=by
  rw[E3.out,E2.out];exact qK (Nat.pos_of_ne_zero hh) hq (xH l c)
 have x:=Lib.hid c;clear c G E2 E3 hq
 have T:((high:Int)==0)=false:=by simpa using hh
 have i1:((n:Int)-1).toNat=n-1:=by omega
 have i2:((n:Int)-2).toNat=n-2:=by omega
 go_enter func259,ntmps259
 go_wp2
 go_quiet (fail)
 go_wp2
 go_quiet (fail)
 go_wp2;clear e1 e2 B e3 N O g1 g2 g4 g5
 go_loop [9,10] (fun u v=>∃D lf:Nat,u= .int .u64 D/\v= .int .u64 lf/\fV q top high D lf) (fun u _=>(intOf u).toNat)
 case atStart=>exact ⟨D,lf,rfl,rfl,d.out⟩
 case round=>
  clear d;obtain⟨D,lf,rfl,rfl,C⟩:=hrel;have i:=C.2.1;have d:=Lib.hid C;clear C
  by_cases hb:lf < 4294967296
  ·obtain⟨p,ep⟩:∃p:Nat,IntKind.u64.wrap ((D:Int)*next)=p/\Hid (p=D*next):=by
    have:=lY i m
    exact⟨D*next,by have:=bg (D*next) (by omega);simpa using this,rfl⟩
   obtain⟨ep,H⟩:=ep;obtain⟨s,X,I⟩:∃s:Nat,bits BinOp.or IntKind.u64 ((lf:Int)*4294967296) (r2:Int)=s/\Hid (s=lf*4294967296+r2):=⟨lf*4294967296+r2,by rw[lW lf r2 hb l];simp,rfl⟩
   have E:((lf:Int) /4294967296==0)=true:=by simp;omega
   by_cases S:s < p
   ·have hd:=sF d.out x.out (by have:=H.out;have:=I.out;omega);have Q:=hd.2;have M:=Lib.hid hd.1;clear hd d;go_wp2
    go_round
    case rel=>exact ⟨D-1,lf+high,by go_num,by go_num,M.out⟩
    case measure=>simp [intOf];omega
   ·have r:=Lib.hid (e.out D i (ou d.out (by have:=H.out;have:=I.out;omega)));have t:=Lib.hid d.out.1;clear d;go_wp2
    go_ret
    exact⟨D,_,ap (by omega),by first | rfl | rw[World.drewN_drewN],t.out,r.out,i⟩
  ·have E:((lf:Int) /4294967296==0)=false:=by simp;omega
   have r:=Lib.hid (e.out D i (nL d.out m (by omega)));have t:=Lib.hid d.out.1;clear d;go_wp2
   go_ret
   exact⟨D,_,ap (by omega),by first | rfl | rw[World.drewN_drewN],t.out,r.out,i⟩
theorem bU.trans{w w1 w2:World}{g o:Nat}{l zs ys:List Nat}(h:bU w g o l zs w1)(k:bU w1 g o (iQ l o zs) ys w2)(hl:o+zs.length<=l.length)(hz:ys.length=zs.length):bU w g o l ys w2:=
 ⟨by have:=k.1;rwa [Fe hl hz]at this,i8 h.2.1 k.2.1,k.2.2⟩
def kK (w:World)(g o n:Nat)(l:List Nat)(R V:Nat)(e:Ending)(w':World):Prop:=
 e= .returned (.int .u32 ((R/V:Nat):Int))/\∃zs,zs.length=n/\bU w g o l zs w'/\val zs=R%V
theorem kQ (R V:Nat):R/V*V+R%V=R:=by rw[Nat.mul_comm];exact Nat.div_add_mod R V
theorem qz{R V Q r z q P:Nat}(h1:Q*V+r=R)(h2:r < V)(hv:R+q*P=z+Q*V)(hz:z < P):q=0/\z=r:=by
 rcases Nat.eq_zero_or_pos q with e | e
 ·subst e;exact⟨rfl,by omega⟩
 ·have:=Nat.mul_le_mul_right P e
  omega
theorem mr{R V Q r z q P:Nat}(h1:Q*V+r=R)(h2:r < V)(hv:R+q*P=z+(Q+1)*V):0 < q:=by
 rw[Nat.add_mul,Nat.one_mul]at hv
 rcases Nat.eq_zero_or_pos q with e | e
 ·subst e;omega
 ·exact e
theorem sn{R V Q r z q P z2 cy:Nat}(h1:Q*V+r=R)(h2:r < V)(hv:R+q*P=z+(Q+1)*V)(hz:z < P)(hz2:z2 < P)(hVP:V < P)(hcy:cy<=1)(hv2:z2+cy*P=z+V):z2=r:=by
 have a:=mr h1 h2 hv;rw[Nat.add_mul,Nat.one_mul]at hv
 have hq:q=1:=by
  rcases Nat.lt_or_ge q 2 with e | e
  ·omega
  ·have:=Nat.mul_le_mul_right P e
   omega
 subst hq
 rcases (by omega:cy=0\/cy=1)with e | e
 ·subst e;omega
 ·subst e;omega
theorem nR (w:World)(g o n c1 b2 c2:Nat)(A2:Option Addr)(l ds:List Nat)(hg:du w g l)(hl:aV l)(hn1:o+(n+1)<=l.length)(hbl:l.length<=1099511627776)(hc1:n+1<=c1)(h2:Sl w b2 A2 n c2 ds)(hne:b2≠g)(hn:2<=n)(hh:ds.getD (n-1) 0≠0)
  (hlt:val ((l.drop o).take (n+1)) < val ds*4294967296):
  Calls prog 257 #[.slice (some ⟨g,o,none⟩) (n+1) c1,.slice A2 n c2] w (kK w g o (n+1) l (val ((l.drop o).take (n+1))) (val ds)):=by
 have h1:=hg.sl hl hn1 hc1 hbl;have k:=Lib.hid (xG w g b2 _ A2 n c1 c2 _ ds h1 h2 hn hh hlt)
 have N:0 < val ds:=by omega
 have A:val ds < 4294967296^(n+1):=by
  have:=bI h2.lim
  rw[h2.len]at this;exact Nat.lt_trans this (Nat.pow_lt_pow_right (by decide) (by omega))
 have G:Hid (∀(m D:Nat),D < 4294967296->Calls prog 245 #[.slice (some ⟨g,o,none⟩) (n+1) c1,.slice A2 n c2,.int .u32 (D:Int)] (w.drewN m) (iS (w.drewN m) g o (n+1) l ds D)):=
  fun m D v=>kF (w.drewN m) g o (n+1) c1 b2 n c2 D A2 l ds hg hl hn1 hbl h2 (fun _=>hne) (by omega) v
 have L:Hid (∀(w1:World) (zs:List Nat),zs.length=n+1->bU w g o l zs w1->Calls prog 244 #[.slice (some ⟨g,o,none⟩) (n+1) c1,.slice A2 n c2] w1 (lG w1 g o (n+1) (iQ l o zs) ds)):=
  fun w1 zs hz ht=>kL w1 g o (n+1) c1 b2 n c2 A2 (iQ l o zs) ds ht.1 (vU hl ht.2.2) (by rw[f8 (by omega)];omega) (by rw[f8 (by omega)];omega) (h2.grown ht.2.1 (fun _=>by simpa using hne)) (fun _=>hne) (by omega)
 have H:Hid (∀(m:Nat) (zs:List Nat) (w1:World),bU (w.drewN m) g o l zs w1->bU w g o l zs w1):=fun m zs w1 ht=>⟨ht.1,⟨ht.2.1.os,ht.2.1.tape,ht.2.1.output,ht.2.1.size,ht.2.1.block⟩,ht.2.2⟩
 clear h1 h2 hlt hc1 hg
 revert k
 generalize I:val ((l.drop o).take (n+1))=R;have M:=Lib.hid I;clear I
 intro k
 have s:=Nat.mod_lt R N;have hs:=kQ R (val ds)
 have u:Hid (∀e w',(e= .returned (.int .u32 ((R/val ds:Nat):Int))/\∃zs,zs.length=n+1/\bU w g o l zs w'/\val zs=R%val ds)->kK w g o (n+1) l R (val ds) e w'):=fun e w' h=>h
 revert k s hs u
 generalize R/val ds=Q;generalize R%val ds=r
 intro k s hs u
 have x:=Lib.hid hs;clear hs
 go_enter func257,ntmps257
 go_wp2_with (go_at_call 259;((with_reducible refine k.out.mono ?_);rintro e w1 ⟨D,m,rfl,rfl,C,E,z⟩))
 clear k;refine(G.out m D z).mono ?_;rintro e J ⟨q,rfl,zs,hz,ht,p⟩;rw[M.out]at p;have d:=H.out m zs J ht;have b:=bI ht.2.2;rw[hz]at b;clear ht H G
 by_cases v:D=Q
 ·subst v;obtain⟨rfl,t⟩:=qz x.out s p b;have c:=Lib.hid t;clear t p b;go_wp2
  go_ret
  exact u.out _ _ ⟨rfl,zs,hz,d,c.out⟩
 ·obtain rfl:D=Q+1:=by omega
  have O:=mr x.out s p
  have F:=Lib.hid (fun z2 cy h3 h4 h5=>sn (z2:=z2) (cy:=cy) x.out s p b h3 A h4 h5)
  clear v p C E b
  go_wp2_with fail
  refine(L.out J zs hz d).mono ?_;rintro e P ⟨rfl,ys,cy,hy,f,B,i⟩;have a:=Ff (l:=l) (zs:=zs) (o:=o) (by omega);rw[hz]at a;rw[a]at i;have j:=bI f.2.2;rw[hy]at j;have c:=Lib.hid (F.out _ _ j B i);have y:=Lib.hid (d.trans f (by omega) (by omega));clear i j f a F hz;go_wp2
  go_ret
  exact u.out _ _ ⟨by go_num,ys,hy,y.out,c.out⟩
def qd (w:World)(g n sk lo:Nat)(xs:List Nat)(i:Nat)(wr:World):Prop:=
 ∃hs:List Nat,∃t:Nat,hs.length=i+sk/\aV hs/\t < 2^lo/\du wr g (hs ++[t]++List.replicate (n-i) 0)/\w.grownBy wr (some g)/\val (hs ++[t])=val (xs.take i)*2^(32*sk+lo)
theorem fT (sk lo:Nat):2^(32*sk+lo)=4294967296^sk*2^lo:=by rw[Nat.pow_add,Nat.pow_mul]
theorem BD{lo x:Nat}(hlo:lo < 32):x*2^lo%4294967296%2^lo=0:=by
 have e:4294967296=2^lo*2^(32-lo):=by rw[<-Nat.pow_add,show lo+(32-lo)=32 by omega]
 rw[e,Nat.mod_mul_right_mod,Nat.mul_mod_left]
theorem H7{lo x t:Nat}(hlo:lo < 32)(ht:t < 2^lo):t+x*2^lo%4294967296 < 4294967296:=by
 have e:4294967296=2^lo*2^(32-lo):=by rw[<-Nat.pow_add,show lo+(32-lo)=32 by omega]
 have h1:x*2^lo%4294967296 < 4294967296:=Nat.mod_lt _ (by decide)
 have h2:=BD (x:=x) hlo;obtain⟨q,hq⟩:=Nat.dvd_of_mod_eq_zero h2;rw[hq]at h1|-;rw[e]at h1
 have a:q < 2^(32-lo):=Nat.lt_of_mul_lt_mul_left h1
 have h4:=Nat.mul_le_mul_left (2^lo) (show q+1<=2^(32-lo)from a)
 rw[<-e,Nat.mul_add,Nat.mul_one]at h4
 omega
theorem tv{x t lo:Nat}(hlo:lo < 32)(ht:t < 2^lo)(hx:x < 4294967296):
  ∃p pl ph v:Nat,Hid (p=x*2^lo)/\Hid (pl=p%4294967296)/\Hid (ph=p/4294967296)/\Hid (v=t+pl)/\Hid (v < 4294967296)/\Hid (ph < 2^lo)/\IntKind.u64.wrap ((x:Int)*2^lo)=p/\(p:Int)%4294967296=pl/\
   (p:Int) /4294967296%4294967296=ph/\bits BinOp.or IntKind.u32 (t:Int) (pl:Int)=v:=by
 have hp:2^lo<=2147483648:=Nat.pow_le_pow_right (n:=2) (by decide) (show lo<=31 by omega)
 have hb:x*2^lo<=4294967295*2147483648:=Nat.mul_le_mul (by omega) hp
 have hl:=H7 (x:=x) hlo ht
 have a:x*2^lo/4294967296 < 2^lo:=by
  rw[Nat.div_lt_iff_lt_mul (by decide),Nat.mul_comm];exact Nat.mul_lt_mul_of_pos_left hx (Nat.two_pow_pos lo)
 refine⟨x*2^lo,x*2^lo%4294967296,x*2^lo/4294967296,t+x*2^lo%4294967296,rfl,rfl,rfl,rfl,hl,a,?_,by omega,by omega,?_⟩
 ·have:=bg (x*2^lo) (by omega)
  simpa using this
 ·rw[u32_or_nat _ _ (by omega) (by omega),Nat.or_comm,nat_join lo _ _ (BD hlo) ht,Nat.add_comm]
theorem tw{w wr:World}{g n sk lo k x:Nat}{xs hs:List Nat}{t p pl ph v:Nat}(hk:k < n)(hl:xs.length=n)(hhs:hs.length=k+sk)(hsl:aV hs)(hown:du wr g (hs ++[t]++List.replicate (n-k) 0))(hgr:w.grownBy wr (some g))
  (hv:val (hs ++[t])=val (xs.take k)*2^(32*sk+lo)) (hx:xs.getD k 0=x) (hp:p=x*2^lo) (hpl:pl=p%4294967296) (hph:ph=p/4294967296) (hvv:v=t+pl) (hvb:v < 4294967296) (hpb:ph < 2^lo):
  qd w g n sk lo xs (k+1) ((wr.setCell ⟨g,k+sk,none⟩ (.int .u32 (v:Int))).setCell ⟨g,k+sk+1,none⟩ (.int .u32 (ph:Int))):=by
 refine⟨hs ++[v],ph,by simp;omega,hsl.append (aV.cons hvb aV.nil),hpb,?_,fS (fS hgr _) _,?_⟩
 ·have h1:=(hown.set (k+sk) v).set (k+sk+1) ph
  have e:((hs ++[t]++List.replicate (n-k) 0).set (k+sk) v).set (k+sk+1) ph=hs ++[v]++[ph]++List.replicate (n-(k+1)) 0:=by
   rw[List.append_assoc,List.set_append_right _ _ (by omega),List.set_append_right _ _ (by omega),hhs,Nat.sub_self,show k+sk+1-(k+sk)=1 by omega,show n-k=n-(k+1)+1 by omega,List.replicate_succ]
   simp
  rw[e]at h1;exact h1
 ·have e:=Nat.mod_add_div p 4294967296;rw[<-hpl,<-hph]at e;rw[aY (by omega),hx,fT]at *;rw[dB]at hv|-;rw[dB,List.length_append,List.length_singleton,hhs,Nat.pow_succ];rw[hhs]at hv
  have e1:4294967296^(k+sk)*(pl+4294967296*ph)=4294967296^(k+sk)*(x*2^lo):=by rw[e,hp]
  rw[Nat.pow_add]at *;rw[hvv]
  grind
def jP (w:World)(n sk lo:Nat)(xs:List Nat)(e:Ending)(w':World):Prop:=
 ∃g l,e= .returned (.slice (some ⟨g,0,none⟩) (n+sk+1) (n+sk+1))/\w.heap.size<=g/\du w' g l/\l.length=n+sk+1/\aV l/\val l=val xs*2^(32*sk+lo)/\Below w.heap.size w w'
theorem mV (w:World)(b n c:Nat)(A:Option Addr)(xs:List Nat)(z:Int)(sk lo:Nat)(h:Sl w b A n c xs)(hz0:0<=z)(hq:z/32=(sk:Int))(hr:z%32=(lo:Int))(hlo:lo < 32)(hbig:n+sk+1<=1099511627776):
  Calls prog 236 #[.slice A n c,.int .i64 z] w (jP w n sk lo xs):=by
 have G:=Lib.hid h.len
 have E:=fun W=>dF (n+sk+1) ((n:Int)+sk+1) (by omega) (by omega) W
 have j:Below w.heap.size w (w.alloc (.cells (j6 (List.replicate (n+sk+1) 0)) 103)):=(Below.refl _ _).alloc (Nat.le_refl _) _
 go_enter func236,ntmps236
 go_wp2;clear E
 go_loopw [22] (fun i wr=>∃k:Nat,k<=n/\i= .int .i64 k/\qd (w.alloc (.cells (j6 (List.replicate (n+sk+1) 0)) 103)) w.heap.size n sk lo xs k wr) (fun i _=>n-(intOf i).toNat)
 case atStart=>
  refine⟨0,Nat.zero_le _,rfl,List.replicate sk 0,0,by simp,aV.replicate _,Nat.two_pow_pos lo,?_,dG _ _,by rw[dB,ig];simp[val]⟩
  have:=du.new w (List.replicate (n+sk+1) 0)
  rwa [show n+sk+1=sk+1+(n-0) by omega,<-List.replicate_append_replicate,<-List.replicate_append_replicate]at this|-
 case round=>
  obtain⟨k,O,rfl,H⟩:=hrel;have u:=Lib.hid H;clear H
  by_cases hlt:k < n
  ·obtain⟨hs,t,e,f,ht,a,d,g⟩:=u.out;have B:=bL j d;obtain⟨o1,rfl,l⟩:=(h.below B).at (by omega);have hcell:=l k hlt;have y:=h.lim.getD k
   have o:(hs ++[t]++List.replicate (n-k) 0).length=n+sk+1:=by simp;omega
   have C:=a.cell (i:=k+sk) (by omega)
   have e0:(hs ++[t]++List.replicate (n-k) 0).getD (k+sk) 0=t:=by
    rw[List.append_assoc,List.getD_eq_getElem?_getD,List.getElem?_append_right (by omega),e,Nat.sub_self];rfl
   rw[e0]at C;have M:=a.frozen (k+sk);have m:=a.cell (i:=k+sk+1) (by omega);have I:=a.frozen (k+sk+1);obtain⟨q,r⟩:∃q,(hs ++[t]++List.replicate (n-k) 0).getD (k+sk+1) 0=q:=⟨_,rfl⟩;rw[r]at m;obtain⟨p,pl,P,v,F,E2,E3,E4,E5,E6,e1,e2,e3,N⟩:=tv hlo ht y;have L:=Lib.hid (tw hlt G.out e f a d g rfl F.out E2.out E3.out E4.out E5.out E6.out)
   clear l g a d e f o e0 F E2 E3 E4 E5 E6 ht r u
   revert hcell y e1
   generalize xs.getD k 0=x
   intro hcell y e1
   go_wp2
   go_roundw
   case rel=>exact ⟨k+1,by omega,by go_num,L.out⟩
   case measure=>simp [intOf];omega
  ·have D:k=n:=by omega
   subst D;obtain⟨hs,t,e,f,ht,a,d,g⟩:=u.out;rw[Nat.sub_self,List.replicate_zero,List.append_nil]at a;rw[aq (xs:=xs) (by rw[G.out];omega)]at g
   have s:t < 4294967296:=Nat.lt_of_lt_of_le ht (Nat.pow_le_pow_right (n:=2) (by decide) (show lo<=32 by omega))
   have J:Hid (jP w k sk lo xs (.returned (.slice (some ⟨w.heap.size,0,none⟩) (k+sk+1) (k+sk+1))) wr):=⟨w.heap.size,hs ++[t],rfl,Nat.le_refl _,a,by simp;omega,f.append (aV.cons s aV.nil),g,bL j d⟩
   clear a d g e f ht s u;go_wp2
   go_ret
   exact J.out
theorem Dk{lo d0 d1 R:Nat}(hlo:lo < 32):(d0+4294967296*(d1+4294967296*R)) /2^lo%4294967296=(d0+4294967296*d1) /2^lo%4294967296:=by
 have e:4294967296=2^lo*2^(32-lo):=by rw[<-Nat.pow_add,show lo+(32-lo)=32 by omega]
 have e1:d0+4294967296*(d1+4294967296*R)=d0+4294967296*d1+2^lo*(2^(32-lo)*R*4294967296):=by
  have:2^lo*(2^(32-lo)*R*4294967296)=4294967296*(4294967296*R):=by
   rw[<-Nat.mul_assoc,<-Nat.mul_assoc,<-e,Nat.mul_comm (4294967296*R)]
  rw[this];omega
 rw[e1,Nat.add_mul_div_left _ _ (Nat.two_pow_pos lo),Nat.add_mul_mod_self_right]
def zw (w:World)(g n sk lo:Nat)(xs:List Nat)(i:Nat)(wr:World):Prop:=
 ∃hs:List Nat,hs.length=i/\aV hs/\du wr g (hs ++List.replicate (n-i) 0)/\w.grownBy wr (some g)/\val hs=val (xs.drop sk) /2^lo%4294967296^i
theorem fk{xs:List Nat}(hl:aV xs)(k:Nat):val (xs.drop k)=val xs/4294967296^k:=by
 rcases Nat.lt_or_ge xs.length k with h | h
 ·rw[List.drop_eq_nil_of_le (by omega),Nat.div_eq_of_lt]
  ·rfl
  ·exact Nat.lt_of_lt_of_le (bI hl) (Nat.pow_le_pow_right (by decide) (by omega))
 ·rw[am xs h,Nat.add_mul_div_left _ _ (Nat.pow_pos (by decide)),Nat.div_eq_of_lt,Nat.zero_add]
  have:=bI (hl.take k)
  rwa [List.length_take,Nat.min_eq_left h]at this
theorem Dm{w wr:World}{g n sk lo k d0 d1 v:Nat}{xs hs:List Nat}(hlo:lo < 32)(hl:aV xs)(hn:xs.length=sk+n)(hk:k < n)(hhs:hs.length=k)(hsl:aV hs)(hown:du wr g (hs ++List.replicate (n-k) 0))(hgr:w.grownBy wr (some g))
  (hv:val hs=val (xs.drop sk) /2^lo%4294967296^k) (h0:xs.getD (k+sk) 0=d0) (h1:xs.getD (k+sk+1) 0=d1) (hv2:v=(d0+4294967296*d1) /2^lo%4294967296):
  zw w g n sk lo xs (k+1) (wr.setCell ⟨g,k,none⟩ (.int .u32 (v:Int))):=by
 have a:v < 4294967296:=by rw[hv2];exact Nat.mod_lt _ (by decide)
 refine⟨hs ++[v],by simp;omega,hsl.append (aV.cons a aV.nil),?_,fS hgr _,?_⟩
 ·have h2:=hown.set k v
  have e:(hs ++List.replicate (n-k) 0).set k v=hs ++[v]++List.replicate (n-(k+1)) 0:=by
   rw[List.set_append_right _ _ (by omega),hhs,Nat.sub_self,show n-k=n-(k+1)+1 by omega,List.replicate_succ]
   simp
  rwa [e]at h2
 ·rw[dB,hv,hhs,Nat.mod_pow_succ]
  congr 2
  rw[Nat.div_div_eq_div_mul,Nat.mul_comm (2^lo),<-Nat.div_div_eq_div_mul,<-fk (hl.drop sk),List.drop_drop,aW (by omega),show sk+k=k+sk by omega,h0,hv2]
  rcases Nat.lt_or_ge (k+sk+1) xs.length with h | h
  ·rw[aW h,h1,Dk hlo]
  ·rw[List.drop_eq_nil_of_le h,show d1=0 by rw[<-h1];exact de h]
   rfl
theorem Dl{d0 d1 lo:Nat}(h0:d0 < 4294967296)(h1:d1 < 4294967296):
  ∃p v u:Nat,Hid (v=(d0+4294967296*d1) /2^lo%4294967296)/\bits BinOp.or IntKind.u64 (d0:Int) ((d1:Int)*4294967296)=p/\(p:Int) /2^lo=u/\(u:Int)%4294967296=v:=by
 refine⟨d0+4294967296*d1,(d0+4294967296*d1) /2^lo%4294967296,(d0+4294967296*d1) /2^lo,rfl,?_,?_,?_⟩
 ·have:=u64_or_nat d0 (d1*4294967296) (by omega) (by omega)
  rw[Nat.or_comm,nat_join 32 _ _ (by omega) h0]at this
  have e:d1*4294967296+d0=d0+4294967296*d1:=by omega
  rw[e]at this
  simpa using this
 ·simp
 ·simp
theorem Dj (w:World)(b n c:Nat)(A:Option Addr)(xs:List Nat)(z:Int)(sk lo:Nat)(h:Sl w b A (sk+n) c xs)(hz0:1<=z)(hq:z/32=(sk:Int))(hr:z%32=(lo:Int))(hlo:lo < 32)(hn:0 < n):
  Calls prog 220 #[.slice A (sk+n) c,.int .i64 z] w (gF w (ah (val (xs.drop sk) /2^lo))):=by
 have L:=Lib.hid h.len;have T:=h.big
 have Q:=fun W=>dF n ((sk:Int)+n-sk) (by omega) (by omega) W
 have G:Below w.heap.size w (w.alloc (.cells (j6 (List.replicate n 0)) 103)):=(Below.refl _ _).alloc (Nat.le_refl _) _
 go_enter func220,ntmps220
 go_wp2;clear Q
 go_loopw [29] (fun i wr=>∃k:Nat,k<=n/\i= .int .i64 k/\zw (w.alloc (.cells (j6 (List.replicate n 0)) 103)) w.heap.size n sk lo xs k wr) (fun i _=>n-(intOf i).toNat)
 case atStart=>exact ⟨0,Nat.zero_le _,rfl,[],rfl,aV.nil,du.new w _,dG _ _,by rw[Nat.pow_zero,Nat.mod_one];rfl⟩
 case round=>
  obtain⟨k,X,rfl,R⟩:=hrel;have C:=Lib.hid R;clear R
  by_cases hlt:k < n
  ·obtain⟨hs,l,m,d,g,B⟩:=C.out;have N:=bL G g;obtain⟨o1,rfl,o⟩:=(h.below N).at (by omega);have hcell:=o (k+sk) (by omega);have E:=h.lim.getD (k+sk);have J:=h.lim.getD (k+sk+1)
   have r:(hs ++List.replicate (n-k) 0).length=n:=by simp;omega
   have O:=d.cell (i:=k) (by omega);have V:=d.frozen k;obtain⟨q,y⟩:∃q,(hs ++List.replicate (n-k) 0).getD k 0=q:=⟨_,rfl⟩;rw[y]at O
   have I:=Lib.hid (fun v d1 hd=>Dm (v:=v) (d1:=d1) hlo h.lim L.out hlt l m d g B rfl hd)
   by_cases x:k+sk+1 < sk+n
   ·have j:=o (k+sk+1) x
    have f:=Lib.hid (fun v=>I.out v _ rfl)
    clear I o B d g l m r y C
    revert hcell j E J f
    generalize xs.getD (k+sk) 0=F;generalize xs.getD (k+sk+1) 0=d1
    intro hcell E J j f
    obtain⟨p,v,u,D,e1,e2,e3⟩:=Dl (lo:=lo) E J;have t:=Lib.hid (f.out v D.out);clear f D;go_wp2
    go_roundw
    case rel=>exact ⟨k+1,by omega,by go_num,t.out⟩
    case measure=>simp [intOf];omega
   ·have f:=Lib.hid (fun v=>I.out v 0 (de (by rw[L.out];omega)))
    clear I o B d g l m r y C J
    revert hcell E f
    generalize xs.getD (k+sk) 0=F
    intro hcell E f
    obtain⟨u,e2⟩:∃u:Nat,(F:Int) /2^lo=u:=⟨F/2^lo,by simp⟩
    obtain⟨v,e3⟩:∃v:Nat,(u:Int)%4294967296=v:=⟨u%4294967296,by simp⟩
    have t:=Lib.hid (f.out v (by
     have a:F/2^lo=u:=by
      have:((F/2^lo:Nat):Int)=u:=by simpa using e2
      omega
     rw[Nat.mul_zero,Nat.add_zero,a];omega))
    clear f;go_wp2
    go_roundw
    case rel=>exact ⟨k+1,by omega,by go_num,t.out⟩
    case measure=>simp [intOf];omega
  ·have P:k=n:=by omega
   subst P;obtain⟨hs,l,m,d,g,B⟩:=C.out;rw[Nat.sub_self,List.replicate_zero,List.append_nil]at d;have S:=d.all m (by omega) (c:=k) (by omega);rw[l]at S
   have s:val (xs.drop sk) /2^lo < 4294967296^k:=by
    have:=bI (h.lim.drop sk)
    rw[List.length_drop,L.out,show sk+k-sk=k by omega]at this
    exact Nat.lt_of_le_of_lt (Nat.div_le_self _ _) this
   rw[Nat.mod_eq_of_lt s]at B;have D:=Lib.hid B;have U:=Lib.hid (bL G g);clear d g B l m s C
   go_wp2_with (go_at_call 181;((with_reducible refine(da wr w.heap.size _ k k hs S).mono ?_);rintro e Y ⟨g4,A4,c4,rfl,H,M⟩))
   go_ret
   rw[D.out]at H;rw[D.out];exact gF.of H M U.out
theorem FU (w:World)(b:Nat)(A:Option Addr)(n c:Nat)(xs:List Nat)(z:Int)(h:Sl w b A n c xs)(hz:z < 1):
  Calls prog 220 #[.slice A n c,.int .i64 z] w (gF w (ah (val xs))):=by
 have f:=Lib.hid (da w b A n c xs h)
 go_enter func220,ntmps220
 go_wp2_with (go_at_call 181;((with_reducible refine f.out.mono ?_);rintro e g ⟨g4,A4,c4,rfl,d,a⟩))
 go_ret
 exact⟨g4,A4,c4,rfl,d,a⟩
theorem FT (w:World)(A:Option Addr)(n c:Nat)(z:Int)(hz:1<=z)(hz2:z<=9223372036854775807)(hn:(n:Int)<=z/32)(hb:n<=1099511627776):
  Calls prog 220 #[.slice A n c,.int .i64 z] w (gF w []):=by
 go_enter func220,ntmps220
 go_wp2
 go_ret
 exact⟨0,none,0,rfl,⟨Sl.nil,fun h=>absurd h (by decide)⟩,Below.refl _ _⟩
theorem wN (w:World)(b:Nat)(A:Option Addr)(n c:Nat)(xs:List Nat)(z:Int)(h:Sl w b A n c xs)(hz2:z<=9223372036854775807):
  Calls prog 220 #[.slice A n c,.int .i64 z] w (gF w (ah (val xs/2^z.toNat))):=by
 by_cases d:z < 1
 ·rw[show z.toNat=0 by omega,Nat.pow_zero,Nat.div_one]
  exact FU w b A n c xs z h d
 ·have a:z.toNat=32*(z/32).toNat+(z%32).toNat:=by omega
  rw[a,fT,<-Nat.div_div_eq_div_mul,<-fk h.lim]
  by_cases h1:(n:Int)<=z/32
  ·rw[List.drop_eq_nil_of_le (by rw[h.len];omega),show ah (val [] /2^(z%32).toNat)=[] by rw[l8,Nat.zero_div,aD]]
   exact FT w A n c z (by omega) hz2 h1 h.big
  ·obtain⟨m,hm⟩:∃m,n=(z/32).toNat+m:=⟨n-(z/32).toNat,by omega⟩
   subst hm;exact Dj w b m c A xs z (z/32).toNat (z%32).toNat h (by omega) (by omega) (by omega) (by omega) (by omega)
end Go.Proofs.YteigedaefgmojaaGreatDoor
namespace Go.Proofs.YteigedaefgmojaaGreatDoor
open Go.Proofs.Tryz
set_option linter.unusedVariables false
theorem mi{n:Nat}(h:n≠0):ae n=((ah n).length-1)*32+ae ((ah n).getD ((ah n).length-1) 0):=by
 have hl:(ah n).length≠0:=fun e=>h (bE.1 e)
 have hs:=aY (xs:=ah n) (k:=(ah n).length-1) (by omega)
 rw[show (ah n).length-1+1=(ah n).length by omega,List.take_length,aB]at hs
 have ht:=bI ((dP n).take ((ah n).length-1));rw[List.length_take,Nat.min_eq_left (by omega)]at ht
 have hp:0 < 4294967296^((ah n).length-1):=Nat.pow_pos (by decide)
 have a:=mF h
 have hd:n/4294967296^((ah n).length-1)=(ah n).getD ((ah n).length-1) 0:=by
  have:∀p q r,p < 4294967296^((ah n).length-1)->r=p+4294967296^((ah n).length-1)*q->r/4294967296^((ah n).length-1)=q:=by
   intro p q r b e
   rw[e,Nat.add_mul_div_left _ _ hp,Nat.div_eq_of_lt b,Nat.zero_add]
  exact this _ _ _ ht hs
 have hge:4294967296^((ah n).length-1)<=n:=by
  have:=Nat.le_mul_of_pos_right (4294967296^((ah n).length-1)) (Nat.pos_of_ne_zero a)
  omega
 rw[oI]at hd hge;rw[bG n _ hge,hd]
end Go.Proofs.YteigedaefgmojaaGreatDoor
namespace Go.Proofs.YteigedaefgmojaaGreatDoor
open Go.Proofs.Tryz
set_option maxHeartbeats 400000
open Go.RowKit
set_option linter.unusedVariables false
theorem BA (w:World)(b o n k c x L:Nat)(HC:Hid (Calls prog 223 #[.slice (some ⟨b,o,none⟩) n c] w fun e w'=>e= .returned (.slice (some ⟨b,o,none⟩) k c)/\w=w'))
  (hbig:k<=1099511627776) (hpos:k≠0) (hck:w.cell? ⟨b,o+(k-1),none⟩=some (.int .u32 (x:Int))) (hlt:x < 4294967296) (HB:Hid (L=(k-1)*32+ae x)):
  Calls prog 180 #[.slice (some ⟨b,o,none⟩) n c] w fun e w'=>e= .returned (.int .i64 (L:Int))/\w=w':=by
 have hx:=ai (n:=x) (k:=32) hlt
 have a:((k:Int)==0)=false:=by simpa using hpos
 have i1:((k:Int)-1).toNat=k-1:=by omega
 go_enter func180,ntmps180
 go_wp2_with (first
  | (go_at_call 223;((with_reducible refine HC.out.mono ?_);rintro e w' ⟨rfl,rfl⟩))
  | (go_at_call 225;((with_reducible refine(ox x hlt _).mono ?_);rintro e w' ⟨rfl,rfl⟩)))
 go_ret
 have e:=HB.out;exact⟨ap (by omega),rfl⟩
theorem EX (w:World)(b:Nat)(A:Option Addr)(n c:Nat)(xs:List Nat)(h:Sl w b A n c xs):
  Calls prog 180 #[.slice A n c] w fun e w'=>e= .returned (.int .i64 (ae (val xs):Int))/\w=w':=by
 have l:=aQ h.lim;have f:=h.len;have a:=h.take (k:=(ah (val xs)).length) (by omega);rw[er h.lim]at a;have i:=Lib.hid (eY w b A n c xs h);have d:=a.big
 by_cases j:val xs=0
 ·rw[j]at i|-;rw[aD]at i;clear d a f l h j
  go_enter func180,ntmps180
  go_wp2_with (go_at_call 223;((with_reducible refine i.out.mono ?_);rintro e w' ⟨rfl,rfl⟩))
  go_ret
  exact⟨ap (by rw[oh];rfl),rfl⟩
 ·have m:=Lib.hid (mi j)
  have g:(ah (val xs)).length≠0:=fun e=>j (bE.1 e)
  obtain⟨o,rfl,p⟩:=a.at (by omega);exact BA w b o n _ c _ _ i d g (p _ (by omega)) ((dP (val xs)).getD _) m
theorem wM (w:World)(b:Nat)(A:Option Addr)(n c:Nat)(xs:List Nat)(z:Int)(h:Sl w b A n c xs)(hz:z < 1):
  Calls prog 206 #[.slice A n c,.int .i64 z] w (gF w (ah (val xs))):=by
 have f:=Lib.hid (da w b A n c xs h)
 go_enter func206,ntmps206
 go_wp2_with (go_at_call 181;((with_reducible refine f.out.mono ?_);rintro e g ⟨g4,A4,c4,rfl,d,a⟩))
 go_ret
 exact⟨g4,A4,c4,rfl,d,a⟩
theorem FS (w:World)(b:Nat)(A:Option Addr)(n c:Nat)(xs:List Nat)(z:Int)(h:Sl w b A n c xs)(hz:1<=z)(hz2:z<=16777216)(hn:n<=549755813888):
  Calls prog 206 #[.slice A n c,.int .i64 z] w (gF w (ah (val xs*2^z.toNat))):=by
 have i:=Lib.hid (mV w b n c A xs z (z/32).toNat (z%32).toNat h (by omega) (by omega) (by omega) (by omega) (by omega))
 have e:32*(z/32).toNat+(z%32).toNat=z.toNat:=by omega
 unfold jP at i
 rw[e]at i;clear e
 have hs:n+(z/32).toNat+1<=1099511627776:=by omega
 revert i hs
 generalize n+(z/32).toNat+1=L
 intro i hs
 go_enter func206,ntmps206
 go_wp2_with (go_at_call 236;((with_reducible refine i.out.mono ?_);rintro e r ⟨g,l,rfl,hg,f,a,d,p,hb⟩))
 have o:=f.all d (by omega) (c:=L) (by omega);rw[a]at o;have m:=Lib.hid p;have q:=Lib.hid hb;clear f a d p hb i
 go_wp2_with (go_at_call 181;((with_reducible refine(da r g _ L L l o).mono ?_);rintro e s ⟨g4,A4,c4,rfl,j,k⟩))
 go_ret
 rw[m.out]at j;rw[m.out];exact gF.of j k q.out
theorem FR (w:World)(b:Nat)(A:Option Addr)(n c:Nat)(xs:List Nat)(s:Nat)(h:Sl w b A n c xs)(hz2:s<=16777216)(hn:n<=549755813888):
  Calls prog 206 #[.slice A n c,.int .i64 (s:Int)] w (gF w (ah (val xs*2^s))):=by
 by_cases a:s=0
 ·subst a;rw[Nat.pow_zero,Nat.mul_one];exact wM w b A n c xs _ h (by omega)
 ·have:=FS w b A n c xs (s:Int) h (by omega) (by omega) hn
  rwa [Int.toNat_natCast]at this
