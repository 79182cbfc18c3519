/-
 Contracts that the proof rests on.
-/
import Derived.Lib.BitFns
import Derived.Test.YteigedaefgmojaaGreatDoorYQad
namespace Go.Proofs.YteigedaefgmojaaGreatDoor
open Go.Proofs.Tryz
set_option maxHeartbeats 1000000
open Go.RowKit
set_option linter.unusedVariables false
def ah (x y:Int):Int:=if x < y then -1 else if y < x then 1 else 0
theorem ax{x y:Int}(h:x < y):ah x y= -1:=by unfold ah;rw[if_pos h]
theorem aA{x y:Int}(h:y < x):ah x y=1:=by unfold ah;rw[if_neg (by omega),if_pos h]
theorem aT{x y:Int}(h:x=y):ah x y=0:=by unfold ah;rw[if_neg (by omega),if_neg (by omega)]
theorem au{k:IntKind}{a b:Int}(h:a=b):Ending.returned (.int k a)= .returned (.int k b):=by rw[h]
theorem eM (x y:Int)(w:World):Calls prog 51 #[.int .i64 x,.int .i64 y] w fun e w'=>e= .returned (.int .i64 (ah x y))/\w=w':=by
 go_enter func51,ntmps51
 go_wp2
 all_goals go_ret
 ·exact⟨au (ax (by assumption)).symm,rfl⟩
 ·exact⟨au (aA (by assumption)).symm,rfl⟩
 ·exact⟨au (aT (by omega)).symm,rfl⟩
theorem iH (x y:Int)(w:World):Calls prog 227 #[.int .u32 x,.int .u32 y] w fun e w'=>e= .returned (.int .i64 (ah x y))/\w=w':=by
 go_enter func227,ntmps227
 go_wp2
 all_goals go_ret
 ·exact⟨au (ax (by assumption)).symm,rfl⟩
 ·exact⟨au (aA (by assumption)).symm,rfl⟩
 ·exact⟨au (aT (by omega)).symm,rfl⟩
theorem lg{a b c d:Int}(h:a=c)(k:b=d):Ending.returned (.tuple #[.int .u32 a,.int .u32 b])= .returned (.tuple #[.int .u32 c,.int .u32 d]):=by rw[h,k]
theorem lW (x y c:Nat)(hx:x < 4294967296)(hy:y < 4294967296)(hc:c<=1)(w:World):
  Calls prog 253 #[.int .u32 (x:Int),.int .u32 (y:Int),.int .u32 (c:Int)] w fun e w'=>
   e= .returned (.tuple #[.int .u32 (((x+y+c)%4294967296:Nat):Int),.int .u32 (((x+y+c) /4294967296:Nat):Int)])/\w=w':=by
 go_enter func253,ntmps253
 go_wp2
 go_ret2
 exact⟨lg (by omega) (by omega),rfl⟩
theorem pE (x c:Nat)(hx:x < 4294967296)(hc:c<=1)(w:World):
  Calls prog 253 #[.int .u32 (x:Int),.int .u32 0,.int .u32 (c:Int)] w fun e w'=>
   e= .returned (.tuple #[.int .u32 (((x+0+c)%4294967296:Nat):Int),.int .u32 (((x+0+c) /4294967296:Nat):Int)])/\w=w':=lW x 0 c hx (by omega) hc w
def sI (x y c:Nat):Nat:=if x < y+c then 1 else 0
theorem Ej (x y c:Nat):sI x y c<=1:=by unfold sI;split <;> omega
theorem sH (X Y D:Nat)(hX:X<=1)(hY:Y<=1)(hD:D<=1):(((1 ^^^X) &&& Y) ||| ((1 ^^^(X ^^^Y)) &&& D))=if X < Y then 1 else if Y < X then 0 else D:=by
 rcases (by omega:X=0\/X=1)with rfl | rfl <;> rcases (by omega:Y=0\/Y=1)with rfl | rfl <;> rcases (by omega:D=0\/D=1)with rfl | rfl <;> decide
theorem qP (x y c d:Nat)(hx:x < 4294967296)(hy:y < 4294967296)(hc:c<=1)(hd:d=(x+4294967296-y-c)%4294967296):
  (((4294967295 ^^^x) &&& y) ||| ((4294967295 ^^^(x ^^^y)) &&& d)) /2147483648=sI x y c:=by
 have e:∀n:Nat,n/2147483648=n >>> 31:=fun n=>by rw[Nat.shiftRight_eq_div_pow]
 rw[e,Nat.shiftRight_or_distrib,Nat.shiftRight_and_distrib,Nat.shiftRight_and_distrib,Nat.shiftRight_xor_distrib,Nat.shiftRight_xor_distrib,Nat.shiftRight_xor_distrib]
 rw[<-e x,<-e y,<-e d,show (4294967295 >>> 31:Nat)=1 by decide]
 rw[sH _ _ _ (by omega) (by omega) (by omega)]
 unfold sI
 split <;> split <;> (try split) <;> omega
theorem Cv:IntKind.u32.max=((4294967295:Nat):Int):=by decide
theorem Al (x y c:Nat)(hx:x < 4294967296)(hy:y < 4294967296)(hc:c<=1):
  bits BinOp.or IntKind.u32 (bits BinOp.and IntKind.u32 (bits BinOp.xor IntKind.u32 IntKind.u32.max ↑x) ↑y)
    (bits BinOp.and IntKind.u32 (bits BinOp.xor IntKind.u32 IntKind.u32.max (bits BinOp.xor IntKind.u32 ↑x ↑y))
     (((x:Int)-y-c)%4294967296)) /2147483648=(sI x y c:Int):=by
 have hd:((x:Int)-y-c)%4294967296=(((x+4294967296-y-c)%4294967296:Nat):Int):=by omega
 have b:∀a:Nat,a < 4294967296->4294967295 ^^^a < 4294967296:=fun a ha=>Nat.xor_lt_two_pow (n:=32) (by decide) ha
 have d:x ^^^y < 4294967296:=Nat.xor_lt_two_pow (n:=32) hx hy
 have e:(x+4294967296-y-c)%4294967296 < 4294967296:=by omega
 rw[hd,Cv,u32_xor_nat _ _ (by decide) hx,u32_and_nat _ _ (b x hx) hy,u32_xor_nat _ _ hx hy,u32_xor_nat _ _ (by decide) d,u32_and_nat _ _ (b _ d) e,
  u32_or_nat _ _ (Nat.and_lt_two_pow (n:=32) _ hy) (Nat.and_lt_two_pow (n:=32) _ e)]
 rw[<-qP x y c _ hx hy hc rfl]
 omega
theorem jG (x y c:Nat)(hx:x < 4294967296)(hy:y < 4294967296)(hc:c<=1)(w:World):
  Calls prog 254 #[.int .u32 (x:Int),.int .u32 (y:Int),.int .u32 (c:Int)] w fun e w'=>
   e= .returned (.tuple #[.int .u32 (((x+4294967296-y-c)%4294967296:Nat):Int),.int .u32 (sI x y c:Int)])/\w=w':=by
 go_enter func254,ntmps254
 go_wp2
 go_ret2
 exact⟨lg (by omega) (Al x y c hx hy hc),rfl⟩
theorem qO (x c:Nat)(hx:x < 4294967296)(hc:c<=1)(w:World):
  Calls prog 254 #[.int .u32 (x:Int),.int .u32 0,.int .u32 (c:Int)] w fun e w'=>
   e= .returned (.tuple #[.int .u32 (((x+4294967296-0-c)%4294967296:Nat):Int),.int .u32 (sI x 0 c:Int)])/\w=w':=jG x 0 c hx (by omega) hc w
theorem kf (x y:Nat)(hx:x < 4294967296)(hy:y < 4294967296):bits BinOp.or IntKind.u64 ((x:Int)*4294967296) (y:Int)=(x:Int)*4294967296+y:=by
 have:=u64_or_nat (x*4294967296) y (by omega) (by omega)
 rw[nat_join 32 _ _ (by omega) hy]at this
 simpa using this
theorem sT (x y d:Nat)(hx:x < d)(hy:y < 4294967296)(hd:d < 4294967296)(w:World):
  Calls prog 255 #[.int .u32 (x:Int),.int .u32 (y:Int),.int .u32 (d:Int)] w fun e w'=>
   e= .returned (.tuple #[.int .u32 (((x*4294967296+y) /d:Nat):Int),.int .u32 (((x*4294967296+y)%d:Nat):Int)])/\∃n,w'=w.drewN n:=by
 have a:=kf x y (by omega) hy
 go_enter func255,ntmps255
 go_wp2
 go_quiet (fail)
 go_wp2
 go_ret2
 have hq:(x*4294967296+y) /d < 4294967296:=by
  rw[Nat.div_lt_iff_lt_mul (by omega)]
  have:=Nat.mul_le_mul_right 4294967296 (show x+1<=d from hx)
  rw[Nat.mul_comm 4294967296 d]
  omega
 have b:(x*4294967296+y)%d < d:=Nat.mod_lt _ (by omega)
 refine⟨lg ?_ ?_,_,rfl⟩
 ·have e:((x:Int)*4294967296+y) /d=(((x*4294967296+y) /d:Nat):Int):=by simp
  rw[e];clear e a;revert hq;generalize (x*4294967296+y) /d=q;intro hq;omega
 ·have e:((x:Int)*4294967296+y)%d=(((x*4294967296+y)%d:Nat):Int):=by simp
  rw[e];clear e a;revert b;generalize (x*4294967296+y)%d=q;intro b;omega
def ac (n:Nat):Nat:=if n=0 then 0 else Nat.log2 n+1
theorem jx:ac 0=0:=rfl
theorem dw (n:Nat):n < 2^ac n:=by
 unfold ac
 split
 ·subst_vars;decide
 ·exact Nat.lt_log2_self
theorem blen_le{n:Nat}(h:n≠0):2^(ac n-1)<=n:=by
 unfold ac
 rw[if_neg h];exact Nat.log2_self_le h
theorem jv{n k:Nat}(h0:n≠0)(h1:2^k<=n)(h2:n < 2^(k+1)):ac n=k+1:=by
 unfold ac
 rw[if_neg h0,(Nat.log2_eq_iff h0).2 ⟨h1,h2⟩]
theorem ju{n:Nat}(h:n≠0):ac n=1+ac (n/2):=by
 by_cases h1:n=1
 ·subst h1;decide
 ·have h2:n/2≠0:=by omega
  unfold ac
  rw[if_neg h,if_neg h2,Nat.log2_def,if_pos (by omega)]
  omega
theorem iG:∀(f n:Nat),n < 2^f->Lib.bitLenAux f n=ac n
 | 0,n,h=>by
  have:n=0:=by simpa using h
  subst this;rfl
 | f+1,n,h=>by
  unfold Lib.bitLenAux
  by_cases a:n=0
  ·subst a;rfl
  ·rw[if_neg a,iG f (n/2) (by rw[Nat.pow_succ]at h;omega),ju a]
theorem sG (n:Nat)(h:n < 4294967296):Lib.bitLen n=ac n:=iG 64 n (by omega)
theorem bk (n k:Nat)(h:2^k<=n):ac n=k+ac (n/2^k):=by
 induction k with
 | zero=>simp
 | succ k ih=>
  have h1:2^k<=n:=Nat.le_trans (Nat.pow_le_pow_right (by decide) (Nat.le_succ k)) h
  have h2:n/2^k≠0:=by
   have:=(Nat.le_div_iff_mul_le (Nat.two_pow_pos k)).2 (show 1*2^k<=n by omega)
   omega
  rw[ih h1,ju h2,Nat.div_div_eq_div_mul,Nat.pow_succ]
  omega
theorem ai{n k:Nat}(h:n < 2^k):ac n<=k:=by
 by_cases a:n=0
 ·subst a;rw[jx];omega
 ·rcases Nat.lt_or_ge k (ac n)with hlt | hge
  ·have:=blen_le a
   have:=Nat.pow_le_pow_right (n:=2) (by decide) (show k<=ac n-1 by omega)
   omega
  ·exact hge
theorem bw (w:World)(k:Nat)(h:k < 256):
  (Instr.index 9 (.string Lib.len8tab) (.int .u8 (k:Int))).run prog w= .ok (.int .u8 (ac k:Int)) w:=by
 rw[Lib.run_index_len8tab (P:=prog) w 9 .u8 (k:Int) Tryz.underlying9 (by omega) (by omega)]
 have:=Lib.len8_eq ⟨k,h⟩
 simp only at this;rw[this,sG k (by omega)]
set_option maxRecDepth 100000 in
theorem Cm (z:Int)(q:Nat)(w:World)(h0:0<=z)(hz:z<=4294967295)(h1:65536<=z)(h2:256<=z/65536)(hq:q<=8)
  (hi:∀W,(Instr.index 9 (.string Lib.len8tab) (.int .u8 (z/65536/256))).run prog W= .ok (.int .u8 (q:Int)) W):
  Calls prog 225 #[.int .u32 z] w fun e w'=>e= .returned (.int .i64 (24+q:Int))/\w=w':=by
 go_enter func225,ntmps225
 go_wp2
 go_ret
 exact⟨rfl,rfl⟩
set_option maxRecDepth 100000 in
theorem Cn (z:Int)(q:Nat)(w:World)(h0:0<=z)(hz:z<=4294967295)(h1:65536<=z)(h2:z/65536 < 256)(hq:q<=8)
  (hi:∀W,(Instr.index 9 (.string Lib.len8tab) (.int .u8 (z/65536))).run prog W= .ok (.int .u8 (q:Int)) W):
  Calls prog 225 #[.int .u32 z] w fun e w'=>e= .returned (.int .i64 (16+q:Int))/\w=w':=by
 go_enter func225,ntmps225
 go_wp2
 go_ret
 exact⟨rfl,rfl⟩
set_option maxRecDepth 100000 in
theorem Co (z:Int)(q:Nat)(w:World)(h0:0<=z)(hz:z<=4294967295)(h1:z < 65536)(h2:256<=z)(hq:q<=8)
  (hi:∀W,(Instr.index 9 (.string Lib.len8tab) (.int .u8 (z/256))).run prog W= .ok (.int .u8 (q:Int)) W):
  Calls prog 225 #[.int .u32 z] w fun e w'=>e= .returned (.int .i64 (8+q:Int))/\w=w':=by
 go_enter func225,ntmps225
 go_wp2
 go_ret
 exact⟨rfl,rfl⟩
set_option maxRecDepth 100000 in
theorem Cp (z:Int)(q:Nat)(w:World)(h0:0<=z)(hz:z<=4294967295)(h1:z < 65536)(h2:z < 256)(hq:q<=8)
  (hi:∀W,(Instr.index 9 (.string Lib.len8tab) (.int .u8 (z))).run prog W= .ok (.int .u8 (q:Int)) W):
  Calls prog 225 #[.int .u32 z] w fun e w'=>e= .returned (.int .i64 (q:Int))/\w=w':=by
 go_enter func225,ntmps225
 go_wp2
 go_ret
 exact⟨rfl,rfl⟩
theorem mj (x:Nat)(hx:x < 4294967296)(w:World):
  Calls prog 225 #[.int .u32 (x:Int)] w fun e w'=>e= .returned (.int .i64 (ac x:Int))/\w=w':=by
 by_cases h1:65536<=x
 ·have s1:=bk x 16 (by omega)
  rw[show 2^16=65536 by decide]at s1
  by_cases h2:256<=x/65536
  ·have s2:=bk (x/65536) 8 (by omega)
   rw[show 2^8=256 by decide]at s2
   have:=Cm (x:Int) (ac (x/65536/256)) w (by omega) (by omega) (by omega) (by omega) (ai (by omega)) (fun W=>bw W (x/65536/256) (by omega))
   exact this.mono fun e w' h=>⟨h.1.trans (au (by omega)),h.2⟩
  ·have:=Cn (x:Int) (ac (x/65536)) w (by omega) (by omega) (by omega) (by omega) (ai (by omega)) (fun W=>bw W (x/65536) (by omega))
   exact this.mono fun e w' h=>⟨h.1.trans (au (by omega)),h.2⟩
 ·by_cases h2:256<=x
  ·have s2:=bk x 8 (by omega)
   rw[show 2^8=256 by decide]at s2
   have:=Co (x:Int) (ac (x/256)) w (by omega) (by omega) (by omega) (by omega) (ai (by omega)) (fun W=>bw W (x/256) (by omega))
   exact this.mono fun e w' h=>⟨h.1.trans (au (by omega)),h.2⟩
  ·exact Cp (x:Int) (ac x) w (by omega) (by omega) (by omega) (by omega) (ai (by omega)) (fun W=>bw W x (by omega))
theorem pW (x:Nat)(hx:x < 4294967296)(w:World):
  Calls prog 256 #[.int .u32 (x:Int)] w fun e w'=>e= .returned (.int .i64 (32-ac x:Int))/\w=w':=by
 have hb:=ai (n:=x) (k:=32) hx
 go_enter func256,ntmps256
 go_wp2_with (go_at_call 225;refine(mj x hx _).mono ?_;rintro e w' ⟨rfl,rfl⟩)
 go_ret
 exact⟨rfl,rfl⟩
theorem xf (w:World)(b1 b2:Nat)(A1 A2:Option Addr)(n m c1 c2:Nat)(xs ys:List Nat)(n' m':Nat)(h1:Sl w b1 A1 n' c1 xs)(h2:Sl w b2 A2 m' c2 ys)
  (HC1:Hid (Calls prog 223 #[.slice A1 n c1] w fun e w'=>e= .returned (.slice A1 n' c1)/\w=w'))
  (HC2:Hid (Calls prog 223 #[.slice A2 m c2] w fun e w'=>e= .returned (.slice A2 m' c2)/\w=w'))
  (hne:n'≠m'->ah (n':Int) (m':Int)=ah (af xs:Nat) (af ys:Nat)):
  Calls prog 183 #[.slice A1 n c1,.slice A2 m c2] w fun e w'=>e= .returned (.int .i64 (ah (af xs:Nat) (af ys:Nat)))/\∃q,w'=w.drewN q:=by
 have u:=h1.big;have v:=h2.big;have g:=Lib.hid h1.len;have j:=Lib.hid h2.len
 by_cases a:n'=m'
 ·subst a;clear hne
  have l:((n':Int) !=(n':Int))=false:=by simp
  go_enter func183,ntmps183
  go_wp2_with (first
   | (go_at_call 223;((with_reducible refine HC1.out.mono ?_);rintro e w' ⟨rfl,rfl⟩))
   | (go_at_call 223;((with_reducible refine HC2.out.mono ?_);rintro e w' ⟨rfl,rfl⟩)))
  clear HC1 HC2
  go_loopw [23] (fun i wr=>∃k q:Nat,k<=n'/\i= .int .i64 k/\wr=w.drewN q/\af (xs.drop (n' - k))=af (ys.drop (n' - k))) (fun i _=>n' - (intOf i).toNat)
  case atStart=>exact ⟨0,0,Nat.zero_le _,rfl,rfl,by rw[List.drop_of_length_le (by rw[g.out];omega),List.drop_of_length_le (by rw[j.out];omega)]⟩
  case round=>
   obtain⟨k,q,z,rfl,rfl,hz⟩:=hrel;have p:=Lib.hid hz;clear hz
   by_cases hlt:k < n'
   ·obtain⟨o1,rfl,d⟩:=h1.at (by omega);obtain⟨o2,rfl,f⟩:=h2.at (by omega);have g1:=d (n' - 1-k) (by omega);have g2:=f (n' - 1-k) (by omega);clear d f;have c:=Lib.hid (gF h1.lim h2.lim g.out j.out hlt p.out)
    revert g1 g2 c
    generalize xs.getD (n' - 1-k) 0=x;generalize ys.getD (n' - 1-k) 0=y
    intro g1 g2 c
    have i1:((n':Int)-1-k).toNat=n' - 1-k:=by omega
    by_cases b:x=y
    ·subst b;go_wp2
     go_quiet (fail)
     go_wp2
     go_roundw
     case rel=>exact ⟨k+1,_,by omega,by go_num,rfl,by rw[show n' - (k+1)=n' - 1-k by omega];exact c.out.2.2 (by first | trivial | rfl)⟩
     case measure=>simp [intOf];omega
    ·have t:Hid (ah (x:Int) (y:Int)=ah (af xs:Nat) (af ys:Nat)):=by
      rcases Nat.lt_or_gt_of_ne b with h | h
      ·exact(ax (by omega)).trans (ax (by have:=c.out.1 h;omega)).symm
      ·exact(aA (by omega)).trans (aA (by have:=c.out.2.1 h;omega)).symm
     have r:((x:Int) !=(y:Int))=true:=by simp;omega
     clear b c;go_wp2
     go_quiet (fail)
     go_wp2
     go_quiet ((go_at_call 227;first | exact kX (iH _ _ _) | exact qC (iH _ _ _)))
     go_wp2
     go_ret
     exact⟨au t.out,_,by rw[World.drewN_drewN,World.drewN_drewN]⟩
   ·go_wp2
    go_ret
    have o:k=n':=by omega
    subst o;have e:=p.out;rw[Nat.sub_self,List.drop_zero,List.drop_zero]at e;exact⟨au (aT (by omega)).symm,_,rfl⟩
 ·have l:((n':Int) !=(m':Int))=true:=by simp;omega
  have s:=Lib.hid (hne a);clear hne a
  go_enter func183,ntmps183
  go_wp2_with (first
   | (go_at_call 223;((with_reducible refine HC1.out.mono ?_);rintro e w' ⟨rfl,rfl⟩))
   | (go_at_call 223;((with_reducible refine HC2.out.mono ?_);rintro e w' ⟨rfl,rfl⟩))
   | (go_at_call 51;((with_reducible refine(eM _ _ _).mono ?_);rintro e w' ⟨rfl,rfl⟩)))
  go_ret
  exact⟨au s.out,0,rfl⟩
theorem jZ (w:World)(b1 b2:Nat)(A1 A2:Option Addr)(n m c1 c2:Nat)(xs ys:List Nat)(h1:Sl w b1 A1 n c1 xs)(h2:Sl w b2 A2 m c2 ys):
  Calls prog 183 #[.slice A1 n c1,.slice A2 m c2] w fun e w'=>e= .returned (.int .i64 (ah (af xs:Nat) (af ys:Nat)))/\∃q,w'=w.drewN q:=by
 have s1:=h1.take (k:=(ag (af xs)).length) (by have:=aM h1.lim;have:=h1.len;omega);have s2:=h2.take (k:=(ag (af ys)).length) (by have:=aM h2.lim;have:=h2.len;omega);rw[dB h1.lim]at s1;rw[dB h2.lim]at s2
 have:=xf w b1 b2 A1 A2 n m c1 c2 _ _ _ _ s1 s2 (dO w b1 A1 n c1 xs h1) (dO w b2 A2 m c2 ys h2) (fun hne=>by
  rw[av,av]
  rcases Nat.lt_or_gt_of_ne hne with h | h
  ·exact(ax (by omega)).trans (ax (by have:=bQ h;omega)).symm
  ·exact(aA (by omega)).trans (aA (by have:=bQ h;omega)).symm)
 rw[av,av]at this;exact this
def bI (w:World)(g o:Nat)(l zs:List Nat)(w':World):Prop:=bX w' g (fX l o zs)/\w.grownBy w' (some g)/\aR zs
theorem bI.step{w wr:World}{g o:Nat}{l zs:List Nat}(h:bI w g o l zs wr)(hk:o+zs.length < l.length){x:Nat}(hx:x < 4294967296):
  bI w g o l (zs ++[x]) (wr.setCell ⟨g,o+zs.length,none⟩ (.int .u32 (x:Int))):=
 ⟨by have:=h.1.set (o+zs.length) x;rwa [rH hk]at this,eH h.2.1 _,h.2.2.append (aR.cons hx aR.nil)⟩
theorem bI.cell{w wr:World}{g o:Nat}{l zs:List Nat}(h:bI w g o l zs wr)(hk:o+zs.length < l.length):wr.cell? ⟨g,o+zs.length,none⟩=some (.int .u32 (l.getD (o+zs.length) 0:Nat)):=by
 rw[h.1.cell (by rw[eO (by omega)];omega),yz hk]
def fY (w:World)(g o:Nat)(l ys:List Nat)(k cy:Nat)(wr:World):Prop:=
 ∃zs,zs.length=k/\bI w g o l zs wr/\cy<=1/\af zs+cy*4294967296^k=af ((l.drop o).take k)+af (ys.take k)
theorem fY.step{w wr:World}{g o:Nat}{l ys:List Nat}{k cy x y:Nat}(h:fY w g o l ys k cy wr)(hk:o+k < l.length)(hx:l.getD (o+k) 0=x)(hy:ys.getD k 0=y)(hl:aR l)(hly:aR ys):
  fY w g o l ys (k+1) ((x+y+cy) /4294967296) (wr.setCell ⟨g,o+k,none⟩ (.int .u32 (((x+y+cy)%4294967296:Nat):Int))):=by
 obtain⟨zs,rfl,ht,d,b⟩:=h
 have c:x < 4294967296:=by rw[<-hx];exact hl.getD _
 have a:y < 4294967296:=by rw[<-hy];exact hly.getD _
 refine⟨zs ++[(x+y+cy)%4294967296],by simp,ht.step hk (by omega),by omega,?_⟩
 rw[da,aL,aL,hy,fE,hx,Nat.pow_succ];exact nW b
def jX (w:World)(g o n:Nat)(l ys:List Nat)(e:Ending)(w':World):Prop:=
 e= .returned (.tuple #[])/\∃zs cy,zs.length=n/\bI w g o l zs w'/\cy<=1/\af zs+cy*4294967296^n=af ((l.drop o).take n)+af ys
theorem fY.done{w wr:World}{g o n:Nat}{l ys:List Nat}{cy:Nat}(h:fY w g o l ys n cy wr)(hm:ys.length<=n):jX w g o n l ys (.returned (.tuple #[])) wr:=by
 obtain⟨zs,hz,ht,a,b⟩:=h;exact⟨rfl,zs,cy,hz,ht,a,by rw[b,aq hm]⟩
theorem oH{l zs:List Nat}{o n:Nat}(h:o+n<=l.length)(hz:zs.length<=n):fX l o (zs ++(l.drop (o+zs.length)).take (n-zs.length))=fX l o zs:=by
 unfold fX
 have e:(zs ++(l.drop (o+zs.length)).take (n-zs.length)).length=n:=by simp;omega
 rw[e,List.append_assoc,List.append_assoc,List.append_assoc]
 congr 2
 have:l.drop (o+n)=(l.drop (o+zs.length)).drop (n-zs.length):=by rw[List.drop_drop];congr 1;omega
 rw[this,List.take_append_drop]
theorem hO{l:List Nat}{o n k:Nat}(h:o+n<=l.length)(hk:k<=n):af ((l.drop o).take n)=af ((l.drop o).take k)+4294967296^k*af ((l.drop (o+k)).take (n-k)):=by
 have h1:=ao ((l.drop o).take n) (k:=k) (by simp;omega);rw[List.take_take,Nat.min_eq_left hk,List.drop_take,List.drop_drop]at h1;exact h1
theorem fY.early{w wr:World}{g o n k:Nat}{l ys:List Nat}(h:fY w g o l ys k 0 wr)(hl:aR l)(hn:o+n<=l.length)(hk:k<=n)(hm:ys.length<=k):jX w g o n l ys (.returned (.tuple #[])) wr:=by
 obtain⟨zs,rfl,ht,b,a⟩:=h;refine⟨rfl,zs ++(l.drop (o+zs.length)).take (n-zs.length),0,by simp;omega,⟨by rw[oH hn hk];exact ht.1,ht.2.1,ht.2.2.append ((hl.drop _).take _)⟩,by omega,?_⟩
 rw[dh,hO hn hk];rw[aq hm]at a
 omega
theorem jt (w:World)(g o n c b m c2:Nat)(A:Option Addr)(l ys:List Nat)(hg:bX w g l)(hl:aR l)(hn:o+n<=l.length)(hbl:l.length<=1099511627776)(h2:Sl w b A m c2 ys)(hne:0 < m->b≠g)(hm:m<=n):
  Calls prog 244 #[.slice (some ⟨g,o,none⟩) n c,.slice A m c2] w (jX w g o n l ys):=by
 have j:=Lib.hid h2.len
 go_enter func244,ntmps244
 go_wp2
 go_loopw [4,9] (fun u i wr=>∃k cy:Nat,k<=n/\i= .int .i64 k/\u= .int .u32 cy/\fY w g o l ys k cy wr) (fun _ i _=>n-(intOf i).toNat)
 case atStart=>exact ⟨0,0,Nat.zero_le _,rfl,rfl,[],rfl,⟨by rw[nj];exact hg,de _ _,aR.nil⟩,by omega,by simp[af]⟩
 case round=>
  obtain⟨k,cy,H,rfl,rfl,E⟩:=hrel;have t:=Lib.hid E;clear E
  by_cases hlt:k < n
  ·have v:=t
   obtain⟨zs,hz,ht,s,-⟩:=v;have hcell:=ht.cell (by omega);rw[hz]at hcell
   have G:wr.frozen? ⟨g,o+k,none⟩=false:=ht.1.frozen _
   have z:=hl.getD (o+k)
   have p:=Lib.hid (fun y hy=>t.out.step (y:=y) (by omega) rfl hy hl h2.lim)
   have D:=h2.grown ht.2.1 (fun h=>by simpa using hne h)
   clear ht hz hg;obtain⟨x,hx⟩:∃x,l.getD (o+k) 0=x:=⟨_,rfl⟩;rw[hx]at hcell z p;clear hx
   by_cases B:k < m
   ·obtain⟨o2,rfl,r⟩:=D.at (by omega);have a:=r k B
    have f:=h2.lim.getD k
    have d:=Lib.hid (p.out _ rfl)
    clear p r
    revert a f d
    generalize ys.getD k 0=y
    intro a f d
    go_wp2_with (go_at_call 253;((with_reducible refine(lW x y cy z f s _).mono ?_);rintro e w' ⟨rfl,rfl⟩))
    go_roundw
    case rel=>exact ⟨k+1,_,by omega,by go_num,rfl,d.out⟩
    case measure=>simp [intOf];omega
   ·have d:=Lib.hid (p.out 0 (bS (by rw[j.out];omega)))
    clear p
    by_cases q:cy=0
    ·subst q;go_wp2;refine bodyPost_ret (results_none rfl _ _ _) rfl ?_;exact t.out.early hl hn H (by rw[j.out];omega)
    ·have F:((cy:Int)==0)=false:=by simpa using q
     go_wp2_with (go_at_call 253;((with_reducible refine(pE x cy z s _).mono ?_);rintro e w' ⟨rfl,rfl⟩))
     go_roundw
     case rel=>exact ⟨k+1,_,by omega,by go_num,rfl,d.out⟩
     case measure=>simp [intOf];omega
  ·go_wp2
   go_end0
   have C:k=n:=by omega
   subst C;exact t.out.done (by rw[j.out];omega)
def mM (w:World)(g o:Nat)(l ys:List Nat)(f k cy:Nat)(wr:World):Prop:=
 ∃zs,zs.length=k/\bI w g o l zs wr/\cy < 4294967296/\af zs+cy*4294967296^k=af ((l.drop o).take k)+f*af (ys.take k)
theorem kg{y f:Nat}(hy:y < 4294967296)(hf:f < 4294967296):y*f<=4294967295*4294967295:=Nat.mul_le_mul (by omega) (by omega)
theorem aU (s:Nat)(h:s < 18446744073709551616):IntKind.u64.wrap (s:Int)=s:=by
 rw[show IntKind.u64.wrap (s:Int)=(s:Int)%18446744073709551616 from by simp[IntKind.wrap,IntKind.bits,IntKind.signed]]
 omega
theorem yH{y f x cy:Nat}(hy:y < 4294967296)(hf:f < 4294967296)(hx:x < 4294967296)(hc:cy < 4294967296):
  ∃p q s:Nat,Hid (s=y*f+x+cy)/\Hid (s/4294967296 < 4294967296)/\IntKind.u64.wrap ((y:Int)*f)=p/\IntKind.u64.wrap ((p:Int)+x)=q/\IntKind.u64.wrap ((q:Int)+cy)=s:=by
 have a:=kg hy hf;refine⟨y*f,y*f+x,y*f+x+cy,rfl,?_,?_,?_,?_⟩
 ·show _ < _;omega
 ·have:=aU (y*f) (by omega);simpa using this
 ·have:=aU (y*f+x) (by omega);simpa using this
 ·have:=aU (y*f+x+cy) (by omega);simpa using this
theorem mM.step{w wr:World}{g o:Nat}{l ys:List Nat}{f k cy x y s:Nat}(h:mM w g o l ys f k cy wr)(hk:o+k < l.length)(hx:l.getD (o+k) 0=x)(hy:ys.getD k 0=y)
  (hs:s=y*f+x+cy) (hb:s/4294967296 < 4294967296) (q:Nat):
  mM w g o l ys f (k+1) (s/4294967296) ((wr.drewN q).setCell ⟨g,o+k,none⟩ (.int .u32 ((s%4294967296:Nat):Int))):=by
 obtain⟨zs,rfl,ht,c,b⟩:=h
 have a:bI w g o l zs (wr.drewN q):=⟨ht.1,jM ht.2.1 q,ht.2.2⟩
 refine⟨zs ++[s%4294967296],by simp,a.step hk (by omega),hb,?_⟩
 rw[da,aL,aL,hy,fE,hx,Nat.pow_succ,hs];exact yG b
def q8 (w:World)(g o n:Nat)(l ys:List Nat)(f:Nat)(e:Ending)(w':World):Prop:=
 ∃cy:Nat,e= .returned (.int .u32 (cy:Int))/\∃zs,zs.length=n/\bI w g o l zs w'/\cy < 4294967296/\af zs+cy*4294967296^n=af ((l.drop o).take n)+f*af ys
theorem mN (w:World)(g o n c b c2 f:Nat)(A:Option Addr)(l ys:List Nat)(hg:bX w g l)(hl:aR l)(hn:o+n<=l.length)(hbl:l.length<=1099511627776)(h2:Sl w b A n c2 ys)(hne:0 < n->b≠g)(hf:f < 4294967296):
  Calls prog 224 #[.slice (some ⟨g,o,none⟩) n c,.slice A n c2,.int .u32 (f:Int)] w (q8 w g o n l ys f):=by
 have v:=Lib.hid h2.len
 go_enter func224,ntmps224
 go_wp2
 go_loopw [7,12] (fun u i wr=>∃k cy:Nat,k<=n/\i= .int .i64 k/\u= .int .u64 cy/\mM w g o l ys f k cy wr) (fun _ i _=>n-(intOf i).toNat)
 case atStart=>exact ⟨0,0,Nat.zero_le _,rfl,rfl,[],rfl,⟨by rw[nj];exact hg,de _ _,aR.nil⟩,by omega,by simp[af]⟩
 case round=>
  obtain⟨k,cy,L,rfl,rfl,C⟩:=hrel;have m:=Lib.hid C;clear C
  by_cases hlt:k < n
  ·have r:=m
   obtain⟨zs,hz,ht,d,-⟩:=r;have hcell:=ht.cell (by omega);rw[hz]at hcell
   have J:wr.frozen? ⟨g,o+k,none⟩=false:=ht.1.frozen _
   have B:=hl.getD (o+k)
   have z:=h2.grown ht.2.1 (fun h=>by simpa using hne h)
   clear ht hz hg;obtain⟨x,hx⟩:∃x,l.getD (o+k) 0=x:=⟨_,rfl⟩;rw[hx]at hcell B;have H:=Lib.hid hx;clear hx;obtain⟨o2,rfl,j⟩:=z.at (by omega);have a:=j k hlt
   have e:=h2.lim.getD k
   clear j;obtain⟨y,hy⟩:∃y,ys.getD k 0=y:=⟨_,rfl⟩;rw[hy]at a e
   have I:=Lib.hid hy;clear hy;obtain⟨p,q,s,F,E,e1,e2,e3⟩:=yH e hf B d
   go_wp2
   go_quiet (fail)
   go_wp2
   go_roundw
   case rel=>exact ⟨k+1,s/4294967296,by omega,by go_num,by go_num,m.out.step (by omega) H.out I.out F.out E.out _⟩
   case measure=>simp [intOf];omega
  ·obtain⟨zs,hz,ht,d,D⟩:=m.out;have G:=Lib.hid D;clear D
   have t:k=n:=by omega
   subst t;go_wp2
   go_ret
   refine⟨cy,au (by omega),zs,hz,ht,d,?_⟩;rw[G.out,aq (xs:=ys) (by rw[v.out];omega)]
theorem vA{p A Y v x y f ov bo s a b:Nat}(h:A+(ov+bo)*p=v+f*Y)(hs:s=ov+y*f)(ha:x+b*4294967296=a+s%4294967296+bo):
  (A+p*x)+(s/4294967296+b)*(p*4294967296)=(v+p*a)+f*(Y+p*y):=by
 have e:=Nat.mod_add_div s 4294967296
 have e2:p*(x+b*4294967296)=p*(a+s%4294967296+bo):=by rw[ha]
 have e3:p*(s%4294967296+4294967296*(s/4294967296))=p*(ov+y*f):=by rw[e,hs]
 grind
def fd (w:World)(g o:Nat)(l ys:List Nat)(f k ov bo:Nat)(wr:World):Prop:=
 ∃zs,zs.length=k/\bI w g o l zs wr/\ov < 4294967296/\bo<=1/\af ((l.drop o).take k)+(ov+bo)*4294967296^k=af zs+f*af (ys.take k)
theorem Ei{x t bo:Nat}(hx:x < 4294967296)(ht:t < 4294967296)(hb:bo<=1):x+sI x t bo*4294967296=(x+4294967296-t-bo)%4294967296+t+bo:=by
 unfold sI
 split <;> omega
theorem fd.step{w wr:World}{g o:Nat}{l ys:List Nat}{f k ov bo x y s t u:Nat}(h:fd w g o l ys f k ov bo wr)(hk:o+k < l.length)(hx:l.getD (o+k) 0=x)(hl:aR l)(hy:ys.getD k 0=y)
  (hs:s=ov+y*f) (ht:t=s%4294967296) (hu:u=s/4294967296) (hb:s/4294967296 < 4294967296):
  fd w g o l ys f (k+1) u (sI x t bo) (wr.setCell ⟨g,o+k,none⟩ (.int .u32 (((x+4294967296-t-bo)%4294967296:Nat):Int))):=by
 obtain⟨zs,rfl,c,d,a,e⟩:=h;subst ht;subst hu
 have b:x < 4294967296:=by rw[<-hx];exact hl.getD _
 refine⟨zs ++[(x+4294967296-s%4294967296-bo)%4294967296],by simp,c.step hk (by omega),hb,Ej _ _ _,?_⟩
 rw[da,aL,aL,hy,fE,hx,Nat.pow_succ];exact vA e hs (Ei b (by omega) a)
def fZ (w:World)(g o n:Nat)(l ys:List Nat)(f:Nat)(e:Ending)(w':World):Prop:=
 ∃q:Nat,e= .returned (.bool (decide (0 < q)))/\∃zs,zs.length=n/\bI w g o l zs w'/\af ((l.drop o).take n)+q*4294967296^n=af zs+f*af ys
theorem fd.early{w wr:World}{g o n k:Nat}{l ys:List Nat}{f:Nat}(h:fd w g o l ys f k 0 0 wr)(hl:aR l)(hn:o+n<=l.length)(hk:k<=n)(hm:ys.length<=k):fZ w g o n l ys f (.returned (.bool false)) wr:=by
 obtain⟨zs,rfl,ht,_,_,a⟩:=h;refine⟨0,rfl,zs ++(l.drop (o+zs.length)).take (n-zs.length),by simp;omega,⟨by rw[oH hn hk];exact ht.1,ht.2.1,ht.2.2.append ((hl.drop _).take _)⟩,?_⟩
 rw[dh,hO hn hk];rw[aq hm]at a
 omega
theorem fd.done{w wr:World}{g o n:Nat}{l ys:List Nat}{f ov bo:Nat}(h:fd w g o l ys f n ov bo wr)(hm:ys.length<=n){t:Bool}(ht:t=decide (0 < ov+bo)):fZ w g o n l ys f (.returned (.bool t)) wr:=by
 obtain⟨zs,hz,a,_,_,b⟩:=h;exact⟨ov+bo,by rw[ht],zs,hz,a,by rw[b,aq hm]⟩
theorem vB{y f ov:Nat}(hy:y < 4294967296)(hf:f < 4294967296)(hc:ov < 4294967296):
  ∃p s t u:Nat,Hid (s=ov+y*f)/\Hid (t=s%4294967296)/\Hid (u=s/4294967296)/\Hid (s/4294967296 < 4294967296)/\t < 4294967296/\IntKind.u64.wrap ((y:Int)*f)=p/\IntKind.u64.wrap ((ov:Int)+p)=s/\
   (s:Int)%4294967296=t/\(s:Int) /4294967296=u:=by
 have a:=kg hy hf;refine⟨y*f,ov+y*f,(ov+y*f)%4294967296,(ov+y*f) /4294967296,rfl,rfl,rfl,?_,by omega,?_,?_,by omega,by omega⟩
 ·show _ < _;omega
 ·have:=aU (y*f) (by omega);simpa using this
 ·have:=aU (ov+y*f) (by omega);simpa using this
theorem jc (w:World)(g o n c b m c2 f:Nat)(A:Option Addr)(l ys:List Nat)(hg:bX w g l)(hl:aR l)(hn:o+n<=l.length)(hbl:l.length<=1099511627776)(h2:Sl w b A m c2 ys)(hne:0 < m->b≠g)(hm:m<=n)(hf:f < 4294967296):
  Calls prog 245 #[.slice (some ⟨g,o,none⟩) n c,.slice A m c2,.int .u32 (f:Int)] w (fZ w g o n l ys f):=by
 have j:=Lib.hid h2.len
 go_enter func245,ntmps245
 go_wp2
 go_loopw [7,8,12] (fun v u i wr=>∃k ov bo:Nat,k<=n/\i= .int .i64 k/\v= .int .u64 ov/\u= .int .u32 bo/\fd w g o l ys f k ov bo wr) (fun _ _ i _=>n-(intOf i).toNat)
 case atStart=>exact ⟨0,0,0,Nat.zero_le _,rfl,rfl,rfl,[],rfl,⟨by rw[nj];exact hg,de _ _,aR.nil⟩,by omega,by omega,by simp[af]⟩
 case round=>
  obtain⟨k,ov,bo,V,rfl,rfl,rfl,P⟩:=hrel;have q:=Lib.hid P;clear P
  by_cases hlt:k < n
  ·have G:=q
   obtain⟨zs,hz,ht,D,d,-⟩:=G;have hcell:=ht.cell (by omega);rw[hz]at hcell
   have U:wr.frozen? ⟨g,o+k,none⟩=false:=ht.1.frozen _
   have E:=hl.getD (o+k)
   have N:=h2.grown ht.2.1 (fun h=>by simpa using hne h)
   clear ht hz hg;obtain⟨x,hx⟩:∃x,l.getD (o+k) 0=x:=⟨_,rfl⟩;rw[hx]at hcell E;have O:=Lib.hid hx;clear hx
   by_cases L:k < m
   ·obtain⟨o2,rfl,C⟩:=N.at (by omega);have a:=C k L
    have z:=h2.lim.getD k
    clear C;obtain⟨y,hy⟩:∃y,ys.getD k 0=y:=⟨_,rfl⟩;rw[hy]at a z
    have H:=Lib.hid hy;clear hy;obtain⟨p,s,t,u,R,S,T,Q,bt,e1,e2,e3,W⟩:=vB z hf D
    go_wp2_with (go_at_call 254;((with_reducible refine(jG x t bo E bt d _).mono ?_);rintro e w' ⟨rfl,rfl⟩))
    go_roundw
    case rel=>exact ⟨k+1,u,sI x t bo,by omega,by go_num,rfl,rfl,q.out.step (by omega) O.out hl H.out R.out S.out T.out Q.out⟩
    case measure=>simp [intOf];omega
   ·have H:=Lib.hid (bS (xs:=ys) (k:=k) (by rw[j.out];omega))
    have r:=Lib.hid (q.out.step (s:=ov) (t:=ov) (u:=0) (by omega) O.out hl H.out (by simp) (by omega) (by omega) (by omega))
    by_cases B:ov=0
    ·subst B
     by_cases h1:bo=0
     ·subst h1;go_wp2
      go_ret
      exact q.out.early hl hn V (by rw[j.out];omega)
     ·have J:((bo:Int)==0)=false:=by simpa using h1
      go_wp2_with (go_at_call 254;((with_reducible refine(qO x bo E d _).mono ?_);rintro e w' ⟨rfl,rfl⟩))
      go_roundw
      case rel=>exact ⟨k+1,0,sI x 0 bo,by omega,by go_num,rfl,rfl,r.out⟩
      case measure=>simp [intOf];omega
    ·have I:((ov:Int)==0)=false:=by simpa using B
     go_wp2_with (go_at_call 254;((with_reducible refine(jG x ov bo E D d _).mono ?_);rintro e w' ⟨rfl,rfl⟩))
     go_roundw
     case rel=>exact ⟨k+1,0,sI x ov bo,by omega,by go_num,by congr 1;omega,rfl,r.out⟩
     case measure=>simp [intOf];omega
  ·have M:k=n:=by omega
   subst M
   have F:=Lib.hid (fun t=>q.out.done (t:=t) (by rw[j.out];omega))
   by_cases B:ov=0
   ·subst B
    by_cases h1:bo=0
    ·subst h1;go_wp2
     go_ret
     exact F.out _ (by simp)
    ·have J:((bo:Int) !=0)=true:=by simpa using h1
     go_wp2
     go_ret
     exact F.out _ (by simp;omega)
   ·have I:((ov:Int) !=0)=true:=by simpa using B
    go_wp2
    go_ret
    exact F.out _ (by simp;omega)
theorem lQ (w:World)(c m c2 f:Nat)(A B:Option Addr):
  Calls prog 245 #[.slice B 0 c,.slice A m c2,.int .u32 (f:Int)] w fun e w'=>e= .returned (.bool false)/\w=w':=by
 go_enter func245,ntmps245
 go_wp2
 go_loop [7,8,12] (fun v u i=>v= .int .u64 0/\u= .int .u32 0/\i= .int .i64 0) (fun _ _ _=>0)
 case atStart=>exact ⟨rfl,rfl,rfl⟩
 case round=>
  obtain⟨rfl,rfl,rfl⟩:=hrel;go_wp2
  go_ret
  exact⟨rfl,rfl⟩
theorem nO (w:World)(g o n c b m c2:Nat)(A:Option Addr)(l ys:List Nat)(hg:bX w g l)(hl:aR l)(hn:o+n<=l.length)(hbl:l.length<=1099511627776)(h2:Sl w b A m c2 ys)(hne:0 < m->b≠g)(hm:m<=n):
  Calls prog 245 #[.slice (some ⟨g,o,none⟩) n c,.slice A m c2,.int .u32 1] w (fZ w g o n l ys 1):=jc w g o n c b m c2 1 A l ys hg hl hn hbl h2 hne hm (by omega)
theorem lC (w:World)(c m c2:Nat)(A B:Option Addr):
  Calls prog 245 #[.slice B 0 c,.slice A m c2,.int .u32 1] w fun e w'=>e= .returned (.bool false)/\w=w':=lQ w c m c2 1 A B
theorem im{w:World}{b:Nat}{A:Option Addr}{n c:Nat}{xs:List Nat}(h:Sl w b A n c xs):Sl w b A (ag (af xs)).length c (ag (af xs)):=by
 have:=h.take (k:=(ag (af xs)).length) (by have:=aM h.lim;have:=h.len;omega)
 rwa [dB h.lim]at this
theorem oD{la:List Nat}(h:aR la)(n k:Nat):aR (la ++(List.replicate n 0).drop k):=h.append ((aR.replicate n).drop k)
theorem pq (la:List Nat)(n k:Nat):af (la ++(List.replicate n 0).drop k)=af la:=by
 rw[dh,List.drop_replicate,fK];simp
theorem bm{w w1 w2:World}(h1:Below w.heap.size w w1)(h2:w1.grownBy w2 (some w.heap.size)):Below w.heap.size w w2:=h1.trans (dL h2 (Nat.le_refl _) h1.size)
theorem rg{la lb zs:List Nat}{cy p:Nat}(hp:la.length=p)(hq:lb.length<=p)(ha:aR la)(hb:aR lb)(hz:zs.length=p+1)(hv:af zs+cy*4294967296^(p+1)=af la+af lb):af zs=af la+af lb:=by
 have h1:=bi ha;have h2:=bi hb;have a:=Nat.pow_le_pow_right (n:=4294967296) (by decide) hq;rw[hp]at h1;rw[Nat.pow_succ]at hv
 rcases Nat.eq_zero_or_pos cy with e | e
 ·subst e;omega
 ·have:=Nat.mul_le_mul_right (4294967296^p*4294967296) e
  omega
theorem fr.of{w w1 w':World}{l:List Nat}{g c:Nat}{A:Option Addr}(h:lH w1 w' l g A c)(hb:Below w1.heap.size w1 w')(hw:Below w.heap.size w w1):fr w l (.returned (.slice A l.length c)) w':=
 ⟨g,A,c,rfl,⟨h.1,fun h0=>⟨Nat.le_trans hw.size (h.2 h0).1,(h.2 h0).2⟩⟩,hw.trans (hb.mono hw.size)⟩
theorem bI.all{w w':World}{g:Nat}{l zs:List Nat}(h:bI w g 0 l zs w')(hz:zs.length=l.length):bX w' g zs:=by
 have:=h.1
 unfold fX at this
 rw[hz]at this
 simpa using this
theorem vW (w:World)(b1 b2:Nat)(A1 A2:Option Addr)(n m c1 c2 p q:Nat)(la lb:List Nat)(h1:Sl w b1 A1 p c1 la)(h2:Sl w b2 A2 q c2 lb)
  (HC1:Hid (Calls prog 223 #[.slice A1 n c1] w fun e w'=>e= .returned (.slice A1 p c1)/\w=w'))
  (HC2:Hid (Calls prog 223 #[.slice A2 m c2] w fun e w'=>e= .returned (.slice A2 q c2)/\w=w'))
  (hp:p<=549755813888) (hq:q<=549755813888):
  Calls prog 221 #[.slice A1 n c1,.slice A2 m c2] w (fr w (ag (af la+af lb))):=by
 have v:=Lib.hid h1.len;have x:=Lib.hid h2.len
 by_cases D:p < q
 ·have s:=fun W=>db (q+1) ((q:Int)+1) (by omega) (by omega) W
  have b:Below w.heap.size w (w.alloc (.cells (iC (List.replicate (q+1) 0)) 103)):=(Below.refl _ _).alloc (Nat.le_refl _) _
  go_enter func221,ntmps221
  go_wp2_with (first
   | (go_at_call 223;((with_reducible refine HC1.out.mono ?_);rintro e w' ⟨rfl,rfl⟩))
   | (go_at_call 223;((with_reducible refine HC2.out.mono ?_);rintro e w' ⟨rfl,rfl⟩))
   | (with_reducible refine fv rfl (.tmp 21) (.tmp 22) 41 rfl 103 Tryz.underlying41 qM w.heap.size (q+1) (q+1) b2 A2 q c2 (List.replicate (q+1) 0) lb rfl rfl (bX.new w _) (h2.below b) (by simp) (by omega) ?_;intro A i f;have k:=Lib.hid i;clear i))
  have a:=Lib.hid (bm b f)
  have g:(lb ++(List.replicate (q+1) 0).drop q).length=q+1:=by have:=x.out;simp;omega
  refine(jt A w.heap.size 0 (q+1) (q+1) b1 p c1 A1 _ la k.out (oD h2.lim _ _) (by omega) (by omega) (h1.below a.out) (fun h=>by have:=h1.lt h;omega) (by omega)).mono ?_
  rintro e B ⟨rfl,zs,cy,hz,ht,z,t⟩;rw[List.drop_zero,List.take_of_length_le (by omega),pq]at t;have u:=Lib.hid (rg x.out (by rw[v.out];omega) h2.lim h1.lim hz t);have l:=Lib.hid (ht.all (by omega));have j:=Lib.hid (a.out.trans (dL ht.2.1 (Nat.le_refl _) a.out.size));have y:=Lib.hid ht.2.2;have o:=Lib.hid hz;clear t ht g f s b hz HC1 HC2
  have hs:=l.out.all y.out (by rw[o.out];omega) (c:=q+1) (by rw[o.out];omega);rw[o.out]at hs
  go_wp2_with (go_at_call 181;((with_reducible refine(bP B w.heap.size _ (q+1) (q+1) zs hs).mono ?_);rintro e E ⟨C,A4,c4,rfl,d,r⟩))
  go_ret
  rw[u.out]at d;rw[u.out,Nat.add_comm (af la)];rw[Nat.add_comm]at d|-;exact fr.of d r j.out
 ·have s:=fun W=>db (p+1) ((p:Int)+1) (by omega) (by omega) W
  have b:Below w.heap.size w (w.alloc (.cells (iC (List.replicate (p+1) 0)) 103)):=(Below.refl _ _).alloc (Nat.le_refl _) _
  go_enter func221,ntmps221
  go_wp2_with (first
   | (go_at_call 223;((with_reducible refine HC1.out.mono ?_);rintro e w' ⟨rfl,rfl⟩))
   | (go_at_call 223;((with_reducible refine HC2.out.mono ?_);rintro e w' ⟨rfl,rfl⟩))
   | (with_reducible refine fv rfl (.tmp 21) (.tmp 22) 41 rfl 103 Tryz.underlying41 qM w.heap.size (p+1) (p+1) b1 A1 p c1 (List.replicate (p+1) 0) la rfl rfl (bX.new w _) (h1.below b) (by simp) (by omega) ?_;intro A i f;have k:=Lib.hid i;clear i))
  have a:=Lib.hid (bm b f)
  have g:(la ++(List.replicate (p+1) 0).drop p).length=p+1:=by have:=v.out;simp;omega
  refine(jt A w.heap.size 0 (p+1) (p+1) b2 q c2 A2 _ lb k.out (oD h1.lim _ _) (by omega) (by omega) (h2.below a.out) (fun h=>by have:=h2.lt h;omega) (by omega)).mono ?_
  rintro e B ⟨rfl,zs,cy,hz,ht,z,t⟩;rw[List.drop_zero,List.take_of_length_le (by omega),pq]at t;have u:=Lib.hid (rg v.out (by rw[x.out];omega) h1.lim h2.lim hz t);have l:=Lib.hid (ht.all (by omega));have j:=Lib.hid (a.out.trans (dL ht.2.1 (Nat.le_refl _) a.out.size));have y:=Lib.hid ht.2.2;have o:=Lib.hid hz;clear t ht g f s b hz HC1 HC2
  have hs:=l.out.all y.out (by rw[o.out];omega) (c:=p+1) (by rw[o.out];omega);rw[o.out]at hs
  go_wp2_with (go_at_call 181;((with_reducible refine(bP B w.heap.size _ (p+1) (p+1) zs hs).mono ?_);rintro e E ⟨C,A4,c4,rfl,d,r⟩))
  go_ret
  rw[u.out]at d;rw[u.out];exact fr.of d r j.out
theorem Bl (w:World)(b1 b2:Nat)(A1 A2:Option Addr)(n m c1 c2:Nat)(xs ys:List Nat)(h1:Sl w b1 A1 n c1 xs)(h2:Sl w b2 A2 m c2 ys)(hn:n<=549755813888)(hm:m<=549755813888):
  Calls prog 221 #[.slice A1 n c1,.slice A2 m c2] w (fr w (ag (af xs+af ys))):=by
 have:=vW w b1 b2 A1 A2 n m c1 c2 _ _ _ _ (im h1) (im h2) (dO w b1 A1 n c1 xs h1) (dO w b2 A2 m c2 ys h2)
  (by have:=aM h1.lim;have:=h1.len;omega) (by have:=aM h2.lim;have:=h2.len;omega)
 rwa [av,av]at this
theorem FE (w:World)(b1 b2:Nat)(A1 A2:Option Addr)(n m c1 c2:Nat)(xs ys:List Nat)(h1:Sl w b1 A1 n c1 xs)(h2:Sl w b2 A2 m c2 ys)(hlt:af xs < af ys):
  Calls prog 222 #[.slice A1 n c1,.slice A2 m c2] w fun e w'=>e= .returned (.tuple #[.slice none 0 0,.bool false])/\∃q,w'=w.drewN q:=by
 have a:=jZ w b1 b2 A1 A2 n m c1 c2 xs ys h1 h2;rw[ax (by omega)]at a;have a:=Lib.hid a;clear h1 h2 hlt
 go_enter func222,ntmps222
 go_wp2_with (go_at_call 183;((with_reducible refine a.out.mono ?_);rintro e w' ⟨rfl,q,rfl⟩))
 go_ret2
 exact⟨rfl,_,rfl⟩
def Gg (w:World)(l:List Nat)(e:Ending)(w':World):Prop:=
 ∃g A c,e= .returned (.tuple #[.slice A l.length c,.bool true])/\lH w w' l g A c/\Below w.heap.size w w'
theorem lH.of{w w1 w':World}{l:List Nat}{g c:Nat}{A:Option Addr}(h:lH w1 w' l g A c)(hw:Below w.heap.size w w1):lH w w' l g A c:=
 ⟨h.1,fun h0=>⟨Nat.le_trans hw.size (h.2 h0).1,(h.2 h0).2⟩⟩
theorem mP{a b:Nat}(h:b<=a):∃z:Int,ah (a:Int) (b:Int)=z/\0<=z:=by
 rcases Nat.lt_or_ge b a with h1 | h1
 ·exact⟨_,aA (by omega),by omega⟩
 ·exact⟨_,aT (by omega),by omega⟩
theorem Di{a b z q p:Nat}(hv:a+q*p=z+1*b)(hz:z < p)(h:b<=a):z=a-b:=by
 rcases Nat.eq_zero_or_pos q with e | e
 ·subst e;omega
 ·have:=Nat.mul_le_mul_right p e
  omega
theorem FD (w:World)(b1 b2:Nat)(A1 A2:Option Addr)(n m c1 c2:Nat)(xs ys:List Nat)(h1:Sl w b1 A1 n c1 xs)(h2:Sl w b2 A2 m c2 ys)(hge:af ys<=af xs):
  Calls prog 222 #[.slice A1 n c1,.slice A2 m c2] w (Gg w (ag (af xs-af ys))):=by
 have t:=jZ w b1 b2 A1 A2 n m c1 c2 xs ys h1 h2;obtain⟨z,hz,N⟩:=mP hge;rw[hz]at t;have t:=Lib.hid t;clear hz;have C:=Lib.hid hge;clear hge
 go_enter func222,ntmps222
 go_wp2_with (first
  | (go_at_call 183;((with_reducible refine t.out.mono ?_);rintro e w' ⟨rfl,q,rfl⟩))
  | (go_at_call 181;((with_reducible refine(bP _ b1 A1 n c1 xs (h1.drewN _)).mono ?_);rintro e s ⟨g,A,c,rfl,b,o⟩)))
 have k:Sl s b2 A2 m c2 ys:=(h2.drewN _).below o
 have a:Below w.heap.size w s:=(aJ (Below.refl _ _) _).trans o
 clear t o;refine(dO s b2 A2 m c2 ys k).mono ?_;rintro e P ⟨rfl,rfl⟩;have p:=Lib.hid (im k)
 by_cases r:af xs=0
 ·have B:af ys=0:=by have:=C.out;omega
  have J:Hid (ag (af xs-af ys)=[]):=by show _=_;rw[r,Nat.zero_sub,ay]
  rw[r,ay]at b;rw[r,B];simp only[ay,List.length_nil]
  have hz:Sl s g A 0 c []:=b.1
  clear b r B p C
  go_wp2_with (first
   | (go_at_call 245;((with_reducible refine(lC _ _ _ _ _ _).mono ?_);rintro e H ⟨rfl,rfl⟩))
   | (go_at_call 181;((with_reducible refine(bP s g A 0 c [] hz).mono ?_);rintro e H ⟨M,A4,c4,rfl,x,D⟩)))
  go_ret2
  have e:ag (af [])=[]:=ay
  rw[e]at x;rw[e,J.out];exact⟨M,A4,c4,rfl,x.of a,a.trans (D.mono a.size)⟩
 ·have j:0 < (ag (af xs)).length:=Nat.pos_of_ne_zero fun e=>r (bh.1 e)
  obtain⟨hg,rfl,i⟩:=b.2 j;have hge:=C.out;have u:=b.1.big;have v:=b.1.cap;have f:=aB hge;have d:=Lib.hid i
  have F:w.heap.size<=g:=hg
  clear i b hg r
  go_wp2_with fail
  refine(nO s g 0 _ c b2 _ c2 A2 _ _ d.out (dn _) (by omega) u p.out (fun h=>by have:=h2.lt (by have:=aM h2.lim;have:=h2.len;omega);omega) f).mono ?_
  rintro e H ⟨O,rfl,zs,hz,ht,G⟩;rw[List.drop_zero,List.take_length,av,av]at G;have I:=Lib.hid (Di G (by have:=bi ht.2.2;rwa [hz]at this) hge);have L:=Lib.hid (ht.all hz);have l:=Lib.hid (a.trans (dL ht.2.1 F a.size));have hs:=((ht.all hz).all ht.2.2 (by omega) (c:=c) (by rw[hz];exact v));rw[hz]at hs;clear G ht d hge C p hz f j
  go_wp2_with (go_at_call 181;((with_reducible refine(bP H g _ _ _ zs hs).mono ?_);rintro e Q ⟨g5,A5,c5,rfl,y,E⟩))
  go_ret2
  rw[I.out]at y;rw[I.out];exact⟨g5,A5,c5,rfl,y.of l.out,l.out.trans (E.mono l.out.size)⟩
def pC (w:World)(l:List Nat)(A:Option Addr)(c:Nat):Prop:=∃b,Sl w b A l.length c l/\(0 < l.length->∃cs,w.heap[b]?=some (.cells cs 103 (0,0)))
theorem pC.below{w w':World}{l:List Nat}{A:Option Addr}{c:Nat}(h:pC w l A c)(hb:Below w.heap.size w w'):pC w' l A c:=by
 obtain⟨b,h,k⟩:=h
 refine⟨b,h.below hb,fun hn=>?_⟩
 obtain⟨cs,e⟩:=k hn;exact⟨cs,(hb.block b (h.lt hn)).trans e⟩
instance {w w':World} {l:List Nat} {A:Option Addr} {c:Nat}:Mv (pC w l A c) w w' (pC w' l A c):=⟨fun h b=>h.below b⟩
theorem lH.out{w w':World}{l:List Nat}{g c:Nat}{A:Option Addr}(h:lH w w' l g A c):pC w' l A c:=⟨g,h.1,fun hn=>⟨_,(h.2 hn).2.2⟩⟩
def Gh (w:World)(lq lr:List Nat)(e:Ending)(w':World):Prop:=
 ∃A1 c1 A2 c2,e= .returned (.tuple #[.slice A1 lq.length c1,.slice A2 lr.length c2])/\pC w' lq A1 c1/\pC w' lr A2 c2/\Below w.heap.size w w'
def q7 (w:World)(g n d:Nat)(xs:List Nat)(k r:Nat)(wr:World):Prop:=
 ∃hs:List Nat,hs.length=k/\aR hs/\r < d/\bX wr g (List.replicate (n-k) 0 ++hs)/\w.grownBy wr (some g)/\af hs*d+r=af (xs.drop (n-k))
theorem tE{w wr:World}{g n d k r x:Nat}{xs hs:List Nat}(hd:d < 4294967296)(hl:aR xs)(hn:xs.length=n)(hk:k < n)(hhs:hs.length=k)(hsl:aR hs)(hr:r < d)(hown:bX wr g (List.replicate (n-k) 0 ++hs))(hgr:w.grownBy wr (some g))
  (hv:af hs*d+r=af (xs.drop (n-k))) (hx:xs.getD (n-1-k) 0=x) (q:Nat):
  q7 w g n d xs (k+1) ((r*4294967296+x)%d) ((wr.drewN q).setCell ⟨g,n-1-k,none⟩ (.int .u32 (((r*4294967296+x) /d:Nat):Int))):=by
 have a:0 < d:=by omega
 have b:x < 4294967296:=by rw[<-hx];exact hl.getD _
 have hq:(r*4294967296+x) /d < 4294967296:=by
  rw[Nat.div_lt_iff_lt_mul a,Nat.mul_comm 4294967296 d]
  have:=Nat.mul_le_mul_right 4294967296 (show r+1<=d from hr)
  omega
 refine⟨(r*4294967296+x) /d::hs,by simp;omega,aR.cons hq hsl,Nat.mod_lt _ a,?_,eH (jM hgr q) _,?_⟩
 ·have h2:bX ((wr.drewN q).setCell ⟨g,n-1-k,none⟩ (.int .u32 (((r*4294967296+x) /d:Nat):Int))) g ((List.replicate (n-k) 0 ++hs).set (n-1-k) ((r*4294967296+x) /d)):=bX.set (w:=wr.drewN q) hown _ _
  have e:(List.replicate (n-k) 0 ++hs).set (n-1-k) ((r*4294967296+x) /d)=List.replicate (n-(k+1)) 0 ++((r*4294967296+x) /d::hs):=by
   rw[show n-k=n-(k+1)+1 by omega,<-List.replicate_append_replicate,List.append_assoc,List.set_append_right _ _ (by simp;omega),List.length_replicate,show n-1-k-(n-(k+1))=0 by omega]
   simp
  rwa [e]at h2
 ·rw[show n-(k+1)=n-1-k by omega,aO (by omega),hx,show n-1-k+1=n-k by omega,<-hv,bZ]
  have e:=Nat.mod_add_div (r*4294967296+x) d
  have e2:(r*4294967296+x) /d*d=d*((r*4294967296+x) /d):=Nat.mul_comm _ _
  rw[Nat.add_mul,e2,Nat.mul_assoc];generalize d*((r*4294967296+x) /d)=t at *;generalize (r*4294967296+x)%d=u at *;generalize af hs*d=v at *
  omega
theorem oe (w:World)(b n c:Nat)(A:Option Addr)(xs:List Nat)(d:Nat)(h:Sl w b A n c xs)(hd0:0 < d)(hd:d < 4294967296):
  Calls prog 247 #[.slice A n c,.int .u32 (d:Int)] w (Gh w (ag (af xs/d)) (ag (af xs%d))):=by
 have S:=Lib.hid h.len;have V:=h.big
 have R:=fun W=>db n (n:Int) rfl (by omega) W
 have y:Below w.heap.size w (w.alloc (.cells (iC (List.replicate n 0)) 103)):=(Below.refl _ _).alloc (Nat.le_refl _) _
 go_enter func247,ntmps247
 go_wp2;clear R
 go_loopw [7,15] (fun u i wr=>∃k r:Nat,k<=n/\i= .int .i64 k/\u= .int .u32 r/\q7 (w.alloc (.cells (iC (List.replicate n 0)) 103)) w.heap.size n d xs k r wr) (fun _ i _=>n-(intOf i).toNat)
 case atStart=>exact ⟨0,0,Nat.zero_le _,rfl,rfl,[],rfl,aR.nil,hd0,by rw[List.append_nil];exact bX.new w _,de _ _,by rw[List.drop_of_length_le (by rw[S.out];omega)];simp[af]⟩
 case round=>
  obtain⟨k,r,hk,rfl,rfl,T⟩:=hrel;have H:=Lib.hid T;clear T
  by_cases hlt:k < n
  ·obtain⟨hs,j,l,G,a,f,s⟩:=H.out;have O:=bm y f;obtain⟨o1,rfl,C⟩:=(h.below O).at (by omega);have hcell:=C (n-1-k) (by omega);have N:=h.lim.getD (n-1-k)
   have D:(List.replicate (n-k) 0 ++hs).length=n:=by simp;omega
   have P:=a.cell (i:=n-1-k) (by omega);have bA:=a.frozen (n-1-k);obtain⟨q,F⟩:∃q,(List.replicate (n-k) 0 ++hs).getD (n-1-k) 0=q:=⟨_,rfl⟩;rw[F]at P;have M:=Lib.hid (tE hd h.lim S.out hlt j l G a f s rfl);clear C s a f j l D F H
   revert hcell N M
   generalize xs.getD (n-1-k) 0=x
   intro hcell N M
   have i1:((n:Int)-1-k).toNat=n-1-k:=by omega
   go_wp2_with (go_at_call 255;((with_reducible refine(sT r x d G N hd _).mono ?_);rintro e w' ⟨rfl,q2,rfl⟩))
   go_roundw
   case rel=>exact ⟨k+1,_,by omega,by go_num,rfl,M.out _⟩
   case measure=>simp [intOf];omega
  ·have Q:k=n:=by omega
   subst Q;obtain⟨hs,j,l,G,a,f,s⟩:=H.out;rw[Nat.sub_self,List.replicate_zero,List.nil_append]at a;rw[Nat.sub_self,List.drop_zero]at s;have U:=a.all l (by omega) (c:=k) (by omega);rw[j]at U
   have hq:af xs/d=af hs:=by
    rw[<-s,Nat.mul_comm,Nat.mul_add_div hd0,Nat.div_eq_of_lt G,Nat.add_zero]
   have hm:af xs%d=r:=by
    rw[<-s,Nat.mul_comm,Nat.mul_add_mod,Nat.mod_eq_of_lt G]
   have Y:=Lib.hid hm;have Z:=Lib.hid hq;have I:=Lib.hid (bm y f);clear a f s j l H hq hm
   go_wp2_with (go_at_call 181;((with_reducible refine(bP wr w.heap.size _ k k hs U).mono ?_);rintro e m ⟨g4,A4,c4,rfl,E,z⟩))
   have v:Sl (m.alloc (.cells #[.int .u32 (r:Int)] 103)) m.heap.size (some ⟨m.heap.size,0,none⟩) 1 1 [r]:=(bX.new m [r]).all (aR.cons (by omega) aR.nil) (by simp) (Nat.le_refl _)
   have g:Below m.heap.size m (m.alloc (.cells #[.int .u32 (r:Int)] 103)):=(Below.refl _ _).alloc (Nat.le_refl _) _
   have t:=Lib.hid (I.out.trans (z.mono I.out.size))
   have J:Hid (pC m (ag (af hs)) A4 c4):=E.out
   clear E z I;refine(bP _ m.heap.size _ 1 1 [r] v).mono ?_;rintro e X ⟨g5,A5,c5,rfl,p,B⟩
   have e1:af [r]=r:=by simp[af]
   rw[e1]at p|-
   have o:Below m.heap.size m X:=g.trans (B.mono g.size)
   have L:Hid (pC X (ag r) A5 c5):=p.out
   clear p B g v e1;go_wp2
   go_ret2
   rw[Z.out,Y.out];exact⟨A4,c4,A5,c5,rfl,J.out.below o,L.out,t.out.trans (o.mono t.out.size)⟩
end Go.Proofs.YteigedaefgmojaaGreatDoor
namespace Go.Proofs.YteigedaefgmojaaGreatDoor
open Go.Proofs.Tryz
set_option maxHeartbeats 1000000
open Go.RowKit
set_option linter.unusedVariables false
theorem xI{P top r2 R' high next v' D:Nat}(hD:D < 4294967296)(hh:0 < high)(hv:v' < P)(hx:D*(high*4294967296+next)<=top*4294967296+r2):
  D<=(P*(top*4294967296+r2)+R') / (P*(high*4294967296+next)+v')+1:=by
 have a:0 < P:=by omega
 have b:0 < P*(high*4294967296+next)+v':=by
  have:0 < P*(high*4294967296+next):=Nat.mul_pos a (by omega)
  omega
 have h1:D*(P*(high*4294967296+next)+v') < (P*(top*4294967296+r2)+R')+(P*(high*4294967296+next)+v'):=by
  have a1:D*(P*(high*4294967296+next))<=P*(top*4294967296+r2):=by
   rw[Nat.mul_left_comm];exact Nat.mul_le_mul_left P hx
  have a2:D*v'<=4294967295*P:=Nat.mul_le_mul (by omega) (by omega)
  have a3:P*4294967296<=P*(high*4294967296+next):=Nat.mul_le_mul_left P (by omega)
  rw[Nat.mul_add]
  omega
 have h2:(D-1)*(P*(high*4294967296+next)+v')<=P*(top*4294967296+r2)+R':=by
  rw[Nat.sub_mul,Nat.one_mul]
  omega
 have c:=(Nat.le_div_iff_mul_le b).2 h2
 omega
theorem xH{P top r2 R' high next v' q:Nat}(hR:R' < P)(hq:q*(P*(high*4294967296+next)+v')<=P*(top*4294967296+r2)+R'):q*(high*4294967296+next)<=top*4294967296+r2:=by
 have a1:P*(q*(high*4294967296+next))<=q*(P*(high*4294967296+next)+v'):=by
  rw[Nat.mul_add q (P*(high*4294967296+next)) v',Nat.mul_left_comm q P]
  exact Nat.le_add_right _ _
 have a2:P*(q*(high*4294967296+next)) < P*(top*4294967296+r2+1):=by
  rw[Nat.mul_add P (top*4294967296+r2)]
  omega
 have:=Nat.lt_of_mul_lt_mul_left a2
 omega
theorem tc{top r2 high next q:Nat}(h2:r2 < 4294967296)(h:q*(high*4294967296+next)<=top*4294967296+r2):q*high<=top:=by
 have a:q*high*4294967296<=q*(high*4294967296+next):=by
  rw[Nat.mul_add,Nat.mul_assoc];exact Nat.le_add_right _ _
 have b:q*high*4294967296 < (top+1)*4294967296:=by omega
 have:=Nat.lt_of_mul_lt_mul_right b
 omega
theorem IC{rs:List Nat}{n:Nat}(hn:2<=n)(hl:rs.length=n+1):af rs=4294967296^(n-2)*((rs.getD n 0*4294967296+rs.getD (n-1) 0)*4294967296+rs.getD (n-2) 0)+af (rs.take (n-2)):=by
 rw[ao rs (k:=n-2) (by omega),aO (by omega),show n-2+1=n-1 by omega,aO (by omega),show n-1+1=n by omega,aO (by omega),List.drop_eq_nil_of_le (by omega),kj,Nat.add_comm]
 congr 2
 omega
theorem IB{ds:List Nat}{n:Nat}(hn:2<=n)(hl:ds.length=n):af ds=4294967296^(n-2)*(ds.getD (n-1) 0*4294967296+ds.getD (n-2) 0)+af (ds.take (n-2)):=by
 rw[ao ds (k:=n-2) (by omega),aO (by omega),show n-2+1=n-1 by omega,aO (by omega),List.drop_eq_nil_of_le (by omega),kj,Nat.add_comm]
 congr 2
 omega
def eJ (q top high:Nat)(D lf:Nat):Prop:=q<=D/\D < 4294967296/\lf+D*high=top
theorem ow{q top high:Nat}(hh:0 < high)(hq:q < 4294967296)(hqt:q*high<=top):eJ q top high (min (top/high) 4294967295) (top-min (top/high) 4294967295*high):=by
 have h1:=(Nat.le_div_iff_mul_le hh).2 hqt
 have h2:min (top/high) 4294967295*high<=top:=by
  have:=Nat.mul_le_mul_right high (Nat.min_le_left (top/high) 4294967295)
  have:=Nat.div_mul_le_self top high
  omega
 exact⟨by omega,by omega,by omega⟩
theorem pQ{q top r2 high next D lf:Nat}(h:eJ q top high D lf)(hqq:q*(high*4294967296+next)<=top*4294967296+r2)(hgt:lf*4294967296+r2 < D*next):eJ q top high (D-1) (lf+high)/\0 < D:=by
 obtain⟨h1,h2,a⟩:=h
 have b:0 < D:=by
  rcases Nat.eq_zero_or_pos D with e | e
  ·subst e;omega
  ·exact e
 have c:q≠D:=by
  rintro rfl;rw[Nat.mul_add,<-Nat.mul_assoc]at hqq;rw[<-a]at hqq
  omega
 refine⟨⟨by omega,by omega,?_⟩,b⟩
 obtain⟨d,rfl⟩:∃d,D=d+1:=⟨D-1,by omega⟩
 rw[Nat.add_sub_cancel];rw[Nat.add_mul,Nat.one_mul]at a
 omega
theorem mf{q top r2 high next D lf:Nat}(h:eJ q top high D lf)(hle:D*next<=lf*4294967296+r2):D*(high*4294967296+next)<=top*4294967296+r2:=by
 obtain⟨_,_,a⟩:=h;rw[Nat.mul_add,<-Nat.mul_assoc,<-a]
 omega
theorem lK{q top r2 high next D lf:Nat}(h:eJ q top high D lf)(hn:next < 4294967296)(hb:4294967296<=lf):D*(high*4294967296+next)<=top*4294967296+r2:=by
 apply mf h
 have:=Nat.mul_le_mul (show D<=4294967295 by have:=h.2.1;omega) (show next<=4294967295 by omega)
 omega
theorem pR{a b high:Nat}(ha:a < 4294967296)(hb:b < 4294967296)(hh:0 < high):
  ∃top d0 D p lf:Nat,Hid (top=a*4294967296+b)/\Hid (D=min (top/high) 4294967295)/\Hid (lf=top-D*high)/\bits BinOp.or IntKind.u64 ((a:Int)*4294967296) (b:Int)=top/\(top:Int) /high=d0/\IntKind.u64.wrap (d0:Int)=d0/\
   (if (4294967295:Int) < d0 then (4294967295:Int)else d0)=D/\IntKind.u64.wrap ((D:Int)*high)=p/\IntKind.u64.wrap ((top:Int)-p)=lf:=by
 have c:min ((a*4294967296+b) /high) 4294967295*high<=a*4294967296+b:=by
  have:=Nat.mul_le_mul_right high (Nat.min_le_left ((a*4294967296+b) /high) 4294967295)
  have:=Nat.div_mul_le_self (a*4294967296+b) high
  omega
 refine⟨a*4294967296+b,(a*4294967296+b) /high,min ((a*4294967296+b) /high) 4294967295,min ((a*4294967296+b) /high) 4294967295*high,a*4294967296+b-min ((a*4294967296+b) /high) 4294967295*high,rfl,rfl,rfl,?_,?_,?_,?_,?_,?_⟩
 ·have:=kf a b ha hb
  rw[this];simp
 ·simp
 ·exact aU _ (Nat.lt_of_le_of_lt (Nat.div_le_self _ _) (by omega))
 ·split <;> omega
 ·have:=aU (min ((a*4294967296+b) /high) 4294967295*high) (by omega)
  simpa using this
 ·have:=aU (a*4294967296+b-min ((a*4294967296+b) /high) 4294967295*high) (by omega)
  rw[Int.natCast_sub c]at this;exact this.trans (by omega)
def sE (w:World)(q:Nat)(e:Ending)(w':World):Prop:=∃D m:Nat,e= .returned (.int .u32 (D:Int))/\w'=w.drewN m/\q<=D/\D<=q+1/\D < 4294967296
theorem sZ (w:World)(b1 b2:Nat)(A1 A2:Option Addr)(n c1 c2:Nat)(rs ds:List Nat)(h1:Sl w b1 A1 (n+1) c1 rs)(h2:Sl w b2 A2 n c2 ds)(hn:2<=n)(hh:ds.getD (n-1) 0≠0)(hlt:af rs < af ds*4294967296):
  Calls prog 259 #[.slice A1 (n+1) c1,.slice A2 n c2] w (sE w (af rs/af ds)):=by
 have L:=h1.big;have y:=IC hn h1.len;have k:=IB hn h2.len;have g:=bi (h1.lim.take (n-2));have h:=bi (h2.lim.take (n-2));rw[List.length_take,h1.len,Nat.min_eq_left (by omega)]at g;rw[List.length_take,h2.len,Nat.min_eq_left (by omega)]at h;have z:=h1.lim.getD n;have A:=h1.lim.getD (n-1);have l:=h1.lim.getD (n-2);have J:=h2.lim.getD (n-1)
 have m:=h2.lim.getD (n-2);obtain⟨o1,rfl,o⟩:=h1.at (by omega);obtain⟨o2,rfl,F⟩:=h2.at (by omega);have g1:=o n (by omega);have g2:=o (n-1) (by omega);have g3:=o (n-2) (by omega);have B:=F (n-1) (by omega);have g5:=F (n-2) (by omega)
 have j:0 < af ds:=by
  rw[k]
  have:0 < 4294967296^(n-2)*(ds.getD (n-1) 0*4294967296+ds.getD (n-2) 0):=Nat.mul_pos (Nat.pow_pos (by decide)) (by omega)
  omega
 have hq:af rs/af ds < 4294967296:=by
  rw[Nat.div_lt_iff_lt_mul j,Nat.mul_comm];exact hlt
 have f:af rs/af ds*af ds<=af rs:=Nat.div_mul_le_self _ _
 clear o F h1 h2 hlt j
 revert y k z A l J m g1 g2 g3 B g5 hh f hq g h
 generalize rs.getD n 0=a;generalize rs.getD (n-1) 0=b;generalize rs.getD (n-2) 0=r2;generalize ds.getD (n-1) 0=high
 generalize ds.getD (n-2) 0=next
 generalize af (rs.take (n-2))=R';generalize af (ds.take (n-2))=U;generalize 4294967296^(n-2)=P;generalize af rs=R;generalize af ds=V
 intro hh y k g h z A l J m g1 g2 g3 B g5 hq f
 subst y;subst k;have c:=xH g f
 have e:=Lib.hid (fun D hD hx=>xI (P:=P) (top:=a*4294967296+b) (r2:=r2) (next:=next) (R':=R') (D:=D) hD (Nat.pos_of_ne_zero hh) h hx)
 clear f g h
 revert hq c e
 generalize (P*((a*4294967296+b)*4294967296+r2)+R') / (P*(high*4294967296+next)+U)=q
 intro hq c e
 obtain⟨top,W,D,p,lf,G,E2,E3,e1,e2,e2',e3,N,O⟩:=pR z A (Nat.pos_of_ne_zero hh);rw[<-G.out]at c e
 have d:Hid (eJ q top high D lf):=by
  rw[E3.out,E2.out];exact ow (Nat.pos_of_ne_zero hh) hq (tc l c)
 have x:=Lib.hid c;clear c G E2 E3 hq
 have T:((high:Int)==0)=false:=by simpa using hh
 have i1:((n:Int)-1).toNat=n-1:=by omega
 have i2:((n:Int)-2).toNat=n-2:=by omega
 go_enter func259,ntmps259
 go_wp2
 go_quiet (fail)
 go_wp2
 go_quiet (fail)
 go_wp2;clear e1 e2 e2' e3 N O g1 g2 B g5
 go_loop [9,10] (fun u v=>∃D lf:Nat,u= .int .u64 D/\v= .int .u64 lf/\eJ q top high D lf) (fun u _=>(intOf u).toNat)
 case atStart=>exact ⟨D,lf,rfl,rfl,d.out⟩
 case round=>
  clear d;obtain⟨D,lf,rfl,rfl,C⟩:=hrel;have i:=C.2.1;have d:=Lib.hid C;clear C
  by_cases hb:lf < 4294967296
  ·obtain⟨p,ep⟩:∃p:Nat,IntKind.u64.wrap ((D:Int)*next)=p/\Hid (p=D*next):=by
    have:=kg i m
    exact⟨D*next,by have:=aU (D*next) (by omega);simpa using this,rfl⟩
   obtain⟨ep,H⟩:=ep;obtain⟨s,X,I⟩:∃s:Nat,bits BinOp.or IntKind.u64 ((lf:Int)*4294967296) (r2:Int)=s/\Hid (s=lf*4294967296+r2):=⟨lf*4294967296+r2,by rw[kf lf r2 hb l];simp,rfl⟩
   have E:((lf:Int) /4294967296==0)=true:=by simp;omega
   by_cases S:s < p
   ·have hd:=pQ d.out x.out (by have:=H.out;have:=I.out;omega);have Q:=hd.2;have M:=Lib.hid hd.1;clear hd d;go_wp2
    go_round
    case rel=>exact ⟨D-1,lf+high,by go_num,by go_num,M.out⟩
    case measure=>simp [intOf];omega
   ·have r:=Lib.hid (e.out D i (mf d.out (by have:=H.out;have:=I.out;omega)));have t:=Lib.hid d.out.1;clear d;go_wp2
    go_ret
    exact⟨D,_,au (by omega),by first | rfl | rw[World.drewN_drewN],t.out,r.out,i⟩
  ·have E:((lf:Int) /4294967296==0)=false:=by simp;omega
   have r:=Lib.hid (e.out D i (lK d.out m (by omega)));have t:=Lib.hid d.out.1;clear d;go_wp2
   go_ret
   exact⟨D,_,au (by omega),by first | rfl | rw[World.drewN_drewN],t.out,r.out,i⟩
theorem bI.trans{w w1 w2:World}{g o:Nat}{l zs ys:List Nat}(h:bI w g o l zs w1)(k:bI w1 g o (fX l o zs) ys w2)(hl:o+zs.length<=l.length)(hz:ys.length=zs.length):bI w g o l ys w2:=
 ⟨by have:=k.1;rwa [Cx hl hz]at this,gi h.2.1 k.2.1,k.2.2⟩
def js (w:World)(g o n:Nat)(l:List Nat)(R V:Nat)(e:Ending)(w':World):Prop:=
 e= .returned (.int .u32 ((R/V:Nat):Int))/\∃zs,zs.length=n/\bI w g o l zs w'/\af zs=R%V
theorem jA (R V:Nat):R/V*V+R%V=R:=by rw[Nat.mul_comm];exact Nat.div_add_mod R V
theorem od{R V Q r z q P:Nat}(h1:Q*V+r=R)(h2:r < V)(hv:R+q*P=z+Q*V)(hz:z < P):q=0/\z=r:=by
 rcases Nat.eq_zero_or_pos q with e | e
 ·subst e;exact⟨rfl,by omega⟩
 ·have:=Nat.mul_le_mul_right P e
  omega
theorem kw{R V Q r z q P:Nat}(h1:Q*V+r=R)(h2:r < V)(hv:R+q*P=z+(Q+1)*V):0 < q:=by
 rw[Nat.add_mul,Nat.one_mul]at hv
 rcases Nat.eq_zero_or_pos q with e | e
 ·subst e;omega
 ·exact e
theorem pK{R V Q r z q P z2 cy:Nat}(h1:Q*V+r=R)(h2:r < V)(hv:R+q*P=z+(Q+1)*V)(hz:z < P)(hz2:z2 < P)(hVP:V < P)(hcy:cy<=1)(hv2:z2+cy*P=z+V):z2=r:=by
 have a:=kw h1 h2 hv;rw[Nat.add_mul,Nat.one_mul]at hv
 have hq:q=1:=by
  rcases Nat.lt_or_ge q 2 with e | e
  ·omega
  ·have:=Nat.mul_le_mul_right P e
   omega
 subst hq
 rcases (by omega:cy=0\/cy=1)with e | e
 ·subst e;omega
 ·subst e;omega
theorem lP (w:World)(g o n c1 b2 c2:Nat)(A2:Option Addr)(l ds:List Nat)(hg:bX w g l)(hl:aR l)(hn1:o+(n+1)<=l.length)(hbl:l.length<=1099511627776)(hc1:n+1<=c1)(h2:Sl w b2 A2 n c2 ds)(hne:b2≠g)(hn:2<=n)(hh:ds.getD (n-1) 0≠0)
  (hlt:af ((l.drop o).take (n+1)) < af ds*4294967296):
  Calls prog 257 #[.slice (some ⟨g,o,none⟩) (n+1) c1,.slice A2 n c2] w (js w g o (n+1) l (af ((l.drop o).take (n+1))) (af ds)):=by
 have h1:=hg.sl hl hn1 hc1 hbl;have k:=Lib.hid (sZ w g b2 _ A2 n c1 c2 _ ds h1 h2 hn hh hlt)
 have N:0 < af ds:=by omega
 have A:af ds < 4294967296^(n+1):=by
  have:=bi h2.lim
  rw[h2.len]at this;exact Nat.lt_trans this (Nat.pow_lt_pow_right (by decide) (by omega))
 have G:Hid (∀(m D:Nat),D < 4294967296->Calls prog 245 #[.slice (some ⟨g,o,none⟩) (n+1) c1,.slice A2 n c2,.int .u32 (D:Int)] (w.drewN m) (fZ (w.drewN m) g o (n+1) l ds D)):=
  fun m D v=>jc (w.drewN m) g o (n+1) c1 b2 n c2 D A2 l ds hg hl hn1 hbl h2 (fun _=>hne) (by omega) v
 have L:Hid (∀(w1:World) (zs:List Nat),zs.length=n+1->bI w g o l zs w1->Calls prog 244 #[.slice (some ⟨g,o,none⟩) (n+1) c1,.slice A2 n c2] w1 (jX w1 g o (n+1) (fX l o zs) ds)):=
  fun w1 zs hz ht=>jt w1 g o (n+1) c1 b2 n c2 A2 (fX l o zs) ds ht.1 (rG hl ht.2.2) (by rw[eO (by omega)];omega) (by rw[eO (by omega)];omega) (h2.grown ht.2.1 (fun _=>by simpa using hne)) (fun _=>hne) (by omega)
 have H:Hid (∀(m:Nat) (zs:List Nat) (w1:World),bI (w.drewN m) g o l zs w1->bI w g o l zs w1):=fun m zs w1 ht=>⟨ht.1,⟨ht.2.1.os,ht.2.1.tape,ht.2.1.output,ht.2.1.size,ht.2.1.block⟩,ht.2.2⟩
 clear h1 h2 hlt hc1 hg
 revert k
 generalize I:af ((l.drop o).take (n+1))=R;have M:=Lib.hid I;clear I
 intro k
 have s:=Nat.mod_lt R N;have hs:=jA R (af ds)
 have u:Hid (∀e w',(e= .returned (.int .u32 ((R/af ds:Nat):Int))/\∃zs,zs.length=n+1/\bI w g o l zs w'/\af zs=R%af ds)->js w g o (n+1) l R (af ds) e w'):=fun e w' h=>h
 revert k s hs u
 generalize R/af ds=Q;generalize R%af ds=r
 intro k s hs u
 have x:=Lib.hid hs;clear hs
 go_enter func257,ntmps257
 go_wp2_with (go_at_call 259;((with_reducible refine k.out.mono ?_);rintro e w1 ⟨D,m,rfl,rfl,C,E,z⟩))
 clear k;refine(G.out m D z).mono ?_;rintro e J ⟨q,rfl,zs,hz,ht,p⟩;rw[M.out]at p;have d:=H.out m zs J ht;have b:=bi ht.2.2;rw[hz]at b;clear ht H G
 by_cases v:D=Q
 ·subst v;obtain⟨rfl,t⟩:=od x.out s p b;have c:=Lib.hid t;clear t p b;go_wp2
  go_ret
  exact u.out _ _ ⟨rfl,zs,hz,d,c.out⟩
 ·obtain rfl:D=Q+1:=by omega
  have O:=kw x.out s p
  have F:=Lib.hid (fun z2 cy h3 h4 h5=>pK (z2:=z2) (cy:=cy) x.out s p b h3 A h4 h5)
  clear v p C E b
  go_wp2_with fail
  refine(L.out J zs hz d).mono ?_;rintro e P ⟨rfl,ys,cy,hy,f,B,i⟩;have a:=Cy (l:=l) (zs:=zs) (o:=o) (by omega);rw[hz]at a;rw[a]at i;have j:=bi f.2.2;rw[hy]at j;have c:=Lib.hid (F.out _ _ j B i);have y:=Lib.hid (d.trans f (by omega) (by omega));clear i j f a F hz;go_wp2
  go_ret
  exact u.out _ _ ⟨by go_num,ys,hy,y.out,c.out⟩
def nV (w:World)(g n sk lo:Nat)(xs:List Nat)(i:Nat)(wr:World):Prop:=
 ∃hs:List Nat,∃t:Nat,hs.length=i+sk/\aR hs/\t < 2^lo/\bX wr g (hs ++[t]++List.replicate (n-i) 0)/\w.grownBy wr (some g)/\af (hs ++[t])=af (xs.take i)*2^(32*sk+lo)
theorem eI (sk lo:Nat):2^(32*sk+lo)=4294967296^sk*2^lo:=by rw[Nat.pow_add,Nat.pow_mul]
theorem yr{lo x:Nat}(hlo:lo < 32):x*2^lo%4294967296%2^lo=0:=by
 have e:4294967296=2^lo*2^(32-lo):=by rw[<-Nat.pow_add,show lo+(32-lo)=32 by omega]
 rw[e,Nat.mod_mul_right_mod,Nat.mul_mod_left]
theorem EN{lo x t:Nat}(hlo:lo < 32)(ht:t < 2^lo):t+x*2^lo%4294967296 < 4294967296:=by
 have e:4294967296=2^lo*2^(32-lo):=by rw[<-Nat.pow_add,show lo+(32-lo)=32 by omega]
 have h1:x*2^lo%4294967296 < 4294967296:=Nat.mod_lt _ (by decide)
 have h2:=yr (x:=x) hlo;obtain⟨q,hq⟩:=Nat.dvd_of_mod_eq_zero h2;rw[hq]at h1|-;rw[e]at h1
 have a:q < 2^(32-lo):=Nat.lt_of_mul_lt_mul_left h1
 have h4:=Nat.mul_le_mul_left (2^lo) (show q+1<=2^(32-lo)from a)
 rw[<-e,Nat.mul_add,Nat.mul_one]at h4
 omega
theorem qD{x t lo:Nat}(hlo:lo < 32)(ht:t < 2^lo)(hx:x < 4294967296):
  ∃p pl ph v:Nat,Hid (p=x*2^lo)/\Hid (pl=p%4294967296)/\Hid (ph=p/4294967296)/\Hid (v=t+pl)/\Hid (v < 4294967296)/\Hid (ph < 2^lo)/\IntKind.u64.wrap ((x:Int)*2^lo)=p/\(p:Int)%4294967296=pl/\
   (p:Int) /4294967296%4294967296=ph/\bits BinOp.or IntKind.u32 (t:Int) (pl:Int)=v:=by
 have b:2^lo<=2147483648:=Nat.pow_le_pow_right (n:=2) (by decide) (show lo<=31 by omega)
 have hb:x*2^lo<=4294967295*2147483648:=Nat.mul_le_mul (by omega) b
 have hl:=EN (x:=x) hlo ht
 have a:x*2^lo/4294967296 < 2^lo:=by
  rw[Nat.div_lt_iff_lt_mul (by decide),Nat.mul_comm];exact Nat.mul_lt_mul_of_pos_left hx (Nat.two_pow_pos lo)
 refine⟨x*2^lo,x*2^lo%4294967296,x*2^lo/4294967296,t+x*2^lo%4294967296,rfl,rfl,rfl,rfl,hl,a,?_,by omega,by omega,?_⟩
 ·have:=aU (x*2^lo) (by omega)
  simpa using this
 ·rw[u32_or_nat _ _ (by omega) (by omega),Nat.or_comm,nat_join lo _ _ (yr hlo) ht,Nat.add_comm]
theorem qE{w wr:World}{g n sk lo k x:Nat}{xs hs:List Nat}{t p pl ph v:Nat}(hk:k < n)(hl:xs.length=n)(hhs:hs.length=k+sk)(hsl:aR hs)(hown:bX wr g (hs ++[t]++List.replicate (n-k) 0))(hgr:w.grownBy wr (some g))
  (hv:af (hs ++[t])=af (xs.take k)*2^(32*sk+lo)) (hx:xs.getD k 0=x) (hp:p=x*2^lo) (hpl:pl=p%4294967296) (hph:ph=p/4294967296) (hvv:v=t+pl) (hvb:v < 4294967296) (hpb:ph < 2^lo):
  nV w g n sk lo xs (k+1) ((wr.setCell ⟨g,k+sk,none⟩ (.int .u32 (v:Int))).setCell ⟨g,k+sk+1,none⟩ (.int .u32 (ph:Int))):=by
 refine⟨hs ++[v],ph,by simp;omega,hsl.append (aR.cons hvb aR.nil),hpb,?_,eH (eH hgr _) _,?_⟩
 ·have h1:=(hown.set (k+sk) v).set (k+sk+1) ph
  have e:((hs ++[t]++List.replicate (n-k) 0).set (k+sk) v).set (k+sk+1) ph=hs ++[v]++[ph]++List.replicate (n-(k+1)) 0:=by
   rw[List.append_assoc,List.set_append_right _ _ (by omega),List.set_append_right _ _ (by omega),hhs,Nat.sub_self,show k+sk+1-(k+sk)=1 by omega,show n-k=n-(k+1)+1 by omega,List.replicate_succ]
   simp
  rw[e]at h1;exact h1
 ·have e:=Nat.mod_add_div p 4294967296;rw[<-hpl,<-hph]at e;rw[aS (by omega),hx,eI]at *;rw[da]at hv|-;rw[da,List.length_append,List.length_singleton,hhs,Nat.pow_succ];rw[hhs]at hv
  have e1:4294967296^(k+sk)*(pl+4294967296*ph)=4294967296^(k+sk)*(x*2^lo):=by rw[e,hp]
  rw[Nat.pow_add]at *;rw[hvv]
  grind
def ig (w:World)(n sk lo:Nat)(xs:List Nat)(e:Ending)(w':World):Prop:=
 ∃g l,e= .returned (.slice (some ⟨g,0,none⟩) (n+sk+1) (n+sk+1))/\w.heap.size<=g/\bX w' g l/\l.length=n+sk+1/\aR l/\af l=af xs*2^(32*sk+lo)/\Below w.heap.size w w'
theorem kZ (w:World)(b n c:Nat)(A:Option Addr)(xs:List Nat)(z:Int)(sk lo:Nat)(h:Sl w b A n c xs)(hz0:0<=z)(hq:z/32=(sk:Int))(hr:z%32=(lo:Int))(hlo:lo < 32)(hbig:n+sk+1<=1099511627776):
  Calls prog 236 #[.slice A n c,.int .i64 z] w (ig w n sk lo xs):=by
 have G:=Lib.hid h.len
 have E:=fun W=>db (n+sk+1) ((n:Int)+sk+1) (by omega) (by omega) W
 have j:Below w.heap.size w (w.alloc (.cells (iC (List.replicate (n+sk+1) 0)) 103)):=(Below.refl _ _).alloc (Nat.le_refl _) _
 go_enter func236,ntmps236
 go_wp2;clear E
 go_loopw [22] (fun i wr=>∃k:Nat,k<=n/\i= .int .i64 k/\nV (w.alloc (.cells (iC (List.replicate (n+sk+1) 0)) 103)) w.heap.size n sk lo xs k wr) (fun i _=>n-(intOf i).toNat)
 case atStart=>
  refine⟨0,Nat.zero_le _,rfl,List.replicate sk 0,0,by simp,aR.replicate _,Nat.two_pow_pos lo,?_,de _ _,by rw[da,fK];simp[af]⟩
  have:=bX.new w (List.replicate (n+sk+1) 0)
  rwa [show n+sk+1=sk+1+(n-0) by omega,<-List.replicate_append_replicate,<-List.replicate_append_replicate]at this|-
 case round=>
  obtain⟨k,O,rfl,H⟩:=hrel;have u:=Lib.hid H;clear H
  by_cases hlt:k < n
  ·obtain⟨hs,t,e,f,ht,a,d,g⟩:=u.out;have B:=bm j d;obtain⟨o1,rfl,l⟩:=(h.below B).at (by omega);have hcell:=l k hlt;have y:=h.lim.getD k
   have o:(hs ++[t]++List.replicate (n-k) 0).length=n+sk+1:=by simp;omega
   have C:=a.cell (i:=k+sk) (by omega)
   have e0:(hs ++[t]++List.replicate (n-k) 0).getD (k+sk) 0=t:=by
    rw[List.append_assoc,List.getD_eq_getElem?_getD,List.getElem?_append_right (by omega),e,Nat.sub_self];rfl
   rw[e0]at C;have M:=a.frozen (k+sk);have m:=a.cell (i:=k+sk+1) (by omega);have I:=a.frozen (k+sk+1);obtain⟨q,r⟩:∃q,(hs ++[t]++List.replicate (n-k) 0).getD (k+sk+1) 0=q:=⟨_,rfl⟩;rw[r]at m;obtain⟨p,pl,P,v,F,E2,E3,E4,E5,E6,e1,e2,e3,N⟩:=qD hlo ht y;have L:=Lib.hid (qE hlt G.out e f a d g rfl F.out E2.out E3.out E4.out E5.out E6.out)
   clear l g a d e f o e0 F E2 E3 E4 E5 E6 ht r u
   revert hcell y e1
   generalize xs.getD k 0=x
   intro hcell y e1
   go_wp2
   go_roundw
   case rel=>exact ⟨k+1,by omega,by go_num,L.out⟩
   case measure=>simp [intOf];omega
  ·have D:k=n:=by omega
   subst D;obtain⟨hs,t,e,f,ht,a,d,g⟩:=u.out;rw[Nat.sub_self,List.replicate_zero,List.append_nil]at a;rw[aq (xs:=xs) (by rw[G.out];omega)]at g
   have s:t < 4294967296:=Nat.lt_of_lt_of_le ht (Nat.pow_le_pow_right (n:=2) (by decide) (show lo<=32 by omega))
   have J:Hid (ig w k sk lo xs (.returned (.slice (some ⟨w.heap.size,0,none⟩) (k+sk+1) (k+sk+1))) wr):=⟨w.heap.size,hs ++[t],rfl,Nat.le_refl _,a,by simp;omega,f.append (aR.cons s aR.nil),g,bm j d⟩
   clear a d g e f ht s u;go_wp2
   go_ret
   exact J.out
theorem z4{lo d0 d1 R:Nat}(hlo:lo < 32):(d0+4294967296*(d1+4294967296*R)) /2^lo%4294967296=(d0+4294967296*d1) /2^lo%4294967296:=by
 have e:4294967296=2^lo*2^(32-lo):=by rw[<-Nat.pow_add,show lo+(32-lo)=32 by omega]
 have e1:d0+4294967296*(d1+4294967296*R)=d0+4294967296*d1+2^lo*(2^(32-lo)*R*4294967296):=by
  have:2^lo*(2^(32-lo)*R*4294967296)=4294967296*(4294967296*R):=by
   rw[<-Nat.mul_assoc,<-Nat.mul_assoc,<-e,Nat.mul_comm (4294967296*R)]
  rw[this];omega
 rw[e1,Nat.add_mul_div_left _ _ (Nat.two_pow_pos lo),Nat.add_mul_mod_self_right]
def vU (w:World)(g n sk lo:Nat)(xs:List Nat)(i:Nat)(wr:World):Prop:=
 ∃hs:List Nat,hs.length=i/\aR hs/\bX wr g (hs ++List.replicate (n-i) 0)/\w.grownBy wr (some g)/\af hs=af (xs.drop sk) /2^lo%4294967296^i
theorem dT{xs:List Nat}(hl:aR xs)(k:Nat):af (xs.drop k)=af xs/4294967296^k:=by
 rcases Nat.lt_or_ge xs.length k with h | h
 ·rw[List.drop_eq_nil_of_le (by omega),Nat.div_eq_of_lt]
  ·rfl
  ·exact Nat.lt_of_lt_of_le (bi hl) (Nat.pow_le_pow_right (by decide) (by omega))
 ·rw[ao xs h,Nat.add_mul_div_left _ _ (Nat.pow_pos (by decide)),Nat.div_eq_of_lt,Nat.zero_add]
  have:=bi (hl.take k)
  rwa [List.length_take,Nat.min_eq_left h]at this
theorem z6{w wr:World}{g n sk lo k d0 d1 v:Nat}{xs hs:List Nat}(hlo:lo < 32)(hl:aR xs)(hn:xs.length=sk+n)(hk:k < n)(hhs:hs.length=k)(hsl:aR hs)(hown:bX wr g (hs ++List.replicate (n-k) 0))(hgr:w.grownBy wr (some g))
  (hv:af hs=af (xs.drop sk) /2^lo%4294967296^k) (h0:xs.getD (k+sk) 0=d0) (h1:xs.getD (k+sk+1) 0=d1) (hv2:v=(d0+4294967296*d1) /2^lo%4294967296):
  vU w g n sk lo xs (k+1) (wr.setCell ⟨g,k,none⟩ (.int .u32 (v:Int))):=by
 have a:v < 4294967296:=by rw[hv2];exact Nat.mod_lt _ (by decide)
 refine⟨hs ++[v],by simp;omega,hsl.append (aR.cons a aR.nil),?_,eH hgr _,?_⟩
 ·have h2:=hown.set k v
  have e:(hs ++List.replicate (n-k) 0).set k v=hs ++[v]++List.replicate (n-(k+1)) 0:=by
   rw[List.set_append_right _ _ (by omega),hhs,Nat.sub_self,show n-k=n-(k+1)+1 by omega,List.replicate_succ]
   simp
  rwa [e]at h2
 ·rw[da,hv,hhs,Nat.mod_pow_succ]
  congr 2
  rw[Nat.div_div_eq_div_mul,Nat.mul_comm (2^lo),<-Nat.div_div_eq_div_mul,<-dT (hl.drop sk),List.drop_drop,aO (by omega),show sk+k=k+sk by omega,h0,hv2]
  rcases Nat.lt_or_ge (k+sk+1) xs.length with h | h
  ·rw[aO h,h1,z4 hlo]
  ·rw[List.drop_eq_nil_of_le h,show d1=0 by rw[<-h1];exact bS h]
   rfl
theorem z5{d0 d1 lo:Nat}(h0:d0 < 4294967296)(h1:d1 < 4294967296):
  ∃p v u:Nat,Hid (v=(d0+4294967296*d1) /2^lo%4294967296)/\bits BinOp.or IntKind.u64 (d0:Int) ((d1:Int)*4294967296)=p/\(p:Int) /2^lo=u/\(u:Int)%4294967296=v:=by
 refine⟨d0+4294967296*d1,(d0+4294967296*d1) /2^lo%4294967296,(d0+4294967296*d1) /2^lo,rfl,?_,?_,?_⟩
 ·have:=u64_or_nat d0 (d1*4294967296) (by omega) (by omega)
  rw[Nat.or_comm,nat_join 32 _ _ (by omega) h0]at this
  have e:d1*4294967296+d0=d0+4294967296*d1:=by omega
  rw[e]at this
  simpa using this
 ·simp
 ·simp
theorem zZ (w:World)(b n c:Nat)(A:Option Addr)(xs:List Nat)(z:Int)(sk lo:Nat)(h:Sl w b A (sk+n) c xs)(hz0:1<=z)(hq:z/32=(sk:Int))(hr:z%32=(lo:Int))(hlo:lo < 32)(hn:0 < n):
  Calls prog 220 #[.slice A (sk+n) c,.int .i64 z] w (fr w (ag (af (xs.drop sk) /2^lo))):=by
 have L:=Lib.hid h.len;have T:=h.big
 have Q:=fun W=>db n ((sk:Int)+n-sk) (by omega) (by omega) W
 have G:Below w.heap.size w (w.alloc (.cells (iC (List.replicate n 0)) 103)):=(Below.refl _ _).alloc (Nat.le_refl _) _
 go_enter func220,ntmps220
 go_wp2;clear Q
 go_loopw [29] (fun i wr=>∃k:Nat,k<=n/\i= .int .i64 k/\vU (w.alloc (.cells (iC (List.replicate n 0)) 103)) w.heap.size n sk lo xs k wr) (fun i _=>n-(intOf i).toNat)
 case atStart=>exact ⟨0,Nat.zero_le _,rfl,[],rfl,aR.nil,bX.new w _,de _ _,by rw[Nat.pow_zero,Nat.mod_one];rfl⟩
 case round=>
  obtain⟨k,Y,rfl,R⟩:=hrel;have C:=Lib.hid R;clear R
  by_cases hlt:k < n
  ·obtain⟨hs,l,m,d,g,B⟩:=C.out;have N:=bm G g;obtain⟨o1,rfl,o⟩:=(h.below N).at (by omega);have hcell:=o (k+sk) (by omega);have E:=h.lim.getD (k+sk);have J:=h.lim.getD (k+sk+1)
   have r:(hs ++List.replicate (n-k) 0).length=n:=by simp;omega
   have O:=d.cell (i:=k) (by omega);have V:=d.frozen k;obtain⟨q,y⟩:∃q,(hs ++List.replicate (n-k) 0).getD k 0=q:=⟨_,rfl⟩;rw[y]at O
   have I:=Lib.hid (fun v d1 hd=>z6 (v:=v) (d1:=d1) hlo h.lim L.out hlt l m d g B rfl hd)
   by_cases x:k+sk+1 < sk+n
   ·have j:=o (k+sk+1) x
    have f:=Lib.hid (fun v=>I.out v _ rfl)
    clear I o B d g l m r y C
    revert hcell j E J f
    generalize xs.getD (k+sk) 0=F;generalize xs.getD (k+sk+1) 0=d1
    intro hcell E J j f
    obtain⟨p,v,u,D,e1,e2,e3⟩:=z5 (lo:=lo) E J;have t:=Lib.hid (f.out v D.out);clear f D;go_wp2
    go_roundw
    case rel=>exact ⟨k+1,by omega,by go_num,t.out⟩
    case measure=>simp [intOf];omega
   ·have f:=Lib.hid (fun v=>I.out v 0 (bS (by rw[L.out];omega)))
    clear I o B d g l m r y C J
    revert hcell E f
    generalize xs.getD (k+sk) 0=F
    intro hcell E f
    obtain⟨u,e2⟩:∃u:Nat,(F:Int) /2^lo=u:=⟨F/2^lo,by simp⟩
    obtain⟨v,e3⟩:∃v:Nat,(u:Int)%4294967296=v:=⟨u%4294967296,by simp⟩
    have t:=Lib.hid (f.out v (by
     have a:F/2^lo=u:=by
      have:((F/2^lo:Nat):Int)=u:=by simpa using e2
      omega
     rw[Nat.mul_zero,Nat.add_zero,a];omega))
    clear f;go_wp2
    go_roundw
    case rel=>exact ⟨k+1,by omega,by go_num,t.out⟩
    case measure=>simp [intOf];omega
  ·have P:k=n:=by omega
   subst P;obtain⟨hs,l,m,d,g,B⟩:=C.out;rw[Nat.sub_self,List.replicate_zero,List.append_nil]at d;have S:=d.all m (by omega) (c:=k) (by omega);rw[l]at S
   have s:af (xs.drop sk) /2^lo < 4294967296^k:=by
    have:=bi (h.lim.drop sk)
    rw[List.length_drop,L.out,show sk+k-sk=k by omega]at this
    exact Nat.lt_of_le_of_lt (Nat.div_le_self _ _) this
   rw[Nat.mod_eq_of_lt s]at B;have D:=Lib.hid B;have U:=Lib.hid (bm G g);clear d g B l m s C
   go_wp2_with (go_at_call 181;((with_reducible refine(bP wr w.heap.size _ k k hs S).mono ?_);rintro e Z ⟨X,A4,c4,rfl,H,M⟩))
   go_ret
   rw[D.out]at H;rw[D.out];exact fr.of H M U.out
theorem Da (w:World)(b:Nat)(A:Option Addr)(n c:Nat)(xs:List Nat)(z:Int)(h:Sl w b A n c xs)(hz:z < 1):
  Calls prog 220 #[.slice A n c,.int .i64 z] w (fr w (ag (af xs))):=by
 have f:=Lib.hid (bP w b A n c xs h)
 go_enter func220,ntmps220
 go_wp2_with (go_at_call 181;((with_reducible refine f.out.mono ?_);rintro e i ⟨g,A4,c4,rfl,d,a⟩))
 go_ret
 exact⟨g,A4,c4,rfl,d,a⟩
theorem C9 (w:World)(A:Option Addr)(n c:Nat)(z:Int)(hz:1<=z)(hz2:z<=9223372036854775807)(hn:(n:Int)<=z/32)(hb:n<=1099511627776):
  Calls prog 220 #[.slice A n c,.int .i64 z] w (fr w []):=by
 go_enter func220,ntmps220
 go_wp2
 go_ret
 exact⟨0,none,0,rfl,⟨Sl.nil,fun h=>absurd h (by decide)⟩,Below.refl _ _⟩
theorem r9 (w:World)(b:Nat)(A:Option Addr)(n c:Nat)(xs:List Nat)(z:Int)(h:Sl w b A n c xs)(hz2:z<=9223372036854775807):
  Calls prog 220 #[.slice A n c,.int .i64 z] w (fr w (ag (af xs/2^z.toNat))):=by
 by_cases d:z < 1
 ·rw[show z.toNat=0 by omega,Nat.pow_zero,Nat.div_one]
  exact Da w b A n c xs z h d
 ·have a:z.toNat=32*(z/32).toNat+(z%32).toNat:=by omega
  rw[a,eI,<-Nat.div_div_eq_div_mul,<-dT h.lim]
  by_cases h1:(n:Int)<=z/32
  ·rw[List.drop_eq_nil_of_le (by rw[h.len];omega),show ag (af [] /2^(z%32).toNat)=[] by rw[kj,Nat.zero_div,ay]]
   exact C9 w A n c z (by omega) hz2 h1 h.big
  ·obtain⟨m,hm⟩:∃m,n=(z/32).toNat+m:=⟨n-(z/32).toNat,by omega⟩
   subst hm;exact zZ w b m c A xs z (z/32).toNat (z%32).toNat h (by omega) (by omega) (by omega) (by omega) (by omega)
end Go.Proofs.YteigedaefgmojaaGreatDoor
namespace Go.Proofs.YteigedaefgmojaaGreatDoor
open Go.Proofs.Tryz
set_option linter.unusedVariables false
theorem kq{n:Nat}(h:n≠0):ac n=((ag n).length-1)*32+ac ((ag n).getD ((ag n).length-1) 0):=by
 have hl:(ag n).length≠0:=fun e=>h (bh.1 e)
 have hs:=aS (xs:=ag n) (k:=(ag n).length-1) (by omega)
 rw[show (ag n).length-1+1=(ag n).length by omega,List.take_length,av]at hs
 have ht:=bi ((dn n).take ((ag n).length-1));rw[List.length_take,Nat.min_eq_left (by omega)]at ht
 have c:0 < 4294967296^((ag n).length-1):=Nat.pow_pos (by decide)
 have a:=kH h
 have hd:n/4294967296^((ag n).length-1)=(ag n).getD ((ag n).length-1) 0:=by
  have:∀p q r,p < 4294967296^((ag n).length-1)->r=p+4294967296^((ag n).length-1)*q->r/4294967296^((ag n).length-1)=q:=by
   intro p q r b e
   rw[e,Nat.add_mul_div_left _ _ c,Nat.div_eq_of_lt b,Nat.zero_add]
  exact this _ _ _ ht hs
 have hge:4294967296^((ag n).length-1)<=n:=by
  have:=Nat.le_mul_of_pos_right (4294967296^((ag n).length-1)) (Nat.pos_of_ne_zero a)
  omega
 rw[mD]at hd hge;rw[bk n _ hge,hd]
end Go.Proofs.YteigedaefgmojaaGreatDoor
namespace Go.Proofs.YteigedaefgmojaaGreatDoor
open Go.Proofs.Tryz
set_option maxHeartbeats 400000
open Go.RowKit
set_option linter.unusedVariables false
theorem yn (w:World)(b o n k c x L:Nat)(HC:Hid (Calls prog 223 #[.slice (some ⟨b,o,none⟩) n c] w fun e w'=>e= .returned (.slice (some ⟨b,o,none⟩) k c)/\w=w'))
  (hbig:k<=1099511627776) (hpos:k≠0) (hck:w.cell? ⟨b,o+(k-1),none⟩=some (.int .u32 (x:Int))) (hlt:x < 4294967296) (HB:Hid (L=(k-1)*32+ac x)):
  Calls prog 180 #[.slice (some ⟨b,o,none⟩) n c] w fun e w'=>e= .returned (.int .i64 (L:Int))/\w=w':=by
 have hx:=ai (n:=x) (k:=32) hlt
 have a:((k:Int)==0)=false:=by simpa using hpos
 have i1:((k:Int)-1).toNat=k-1:=by omega
 go_enter func180,ntmps180
 go_wp2_with (first
  | (go_at_call 223;((with_reducible refine HC.out.mono ?_);rintro e w' ⟨rfl,rfl⟩))
  | (go_at_call 225;((with_reducible refine(mj x hlt _).mono ?_);rintro e w' ⟨rfl,rfl⟩)))
 go_ret
 have e:=HB.out;exact⟨au (by omega),rfl⟩
theorem Cq (w:World)(b:Nat)(A:Option Addr)(n c:Nat)(xs:List Nat)(h:Sl w b A n c xs):
  Calls prog 180 #[.slice A n c] w fun e w'=>e= .returned (.int .i64 (ac (af xs):Int))/\w=w':=by
 have l:=aM h.lim;have f:=h.len;have a:=h.take (k:=(ag (af xs)).length) (by omega);rw[dB h.lim]at a;have i:=Lib.hid (dO w b A n c xs h);have d:=a.big
 by_cases j:af xs=0
 ·rw[j]at i|-;rw[ay]at i;clear d a f l h j
  go_enter func180,ntmps180
  go_wp2_with (go_at_call 223;((with_reducible refine i.out.mono ?_);rintro e w' ⟨rfl,rfl⟩))
  go_ret
  exact⟨au (by rw[jx];rfl),rfl⟩
 ·have m:=Lib.hid (kq j)
  have g:(ag (af xs)).length≠0:=fun e=>j (bh.1 e)
  obtain⟨o,rfl,p⟩:=a.at (by omega);exact yn w b o n _ c _ _ i d g (p _ (by omega)) ((dn (af xs)).getD _) m
theorem r8 (w:World)(b:Nat)(A:Option Addr)(n c:Nat)(xs:List Nat)(z:Int)(h:Sl w b A n c xs)(hz:z < 1):
  Calls prog 206 #[.slice A n c,.int .i64 z] w (fr w (ag (af xs))):=by
 have f:=Lib.hid (bP w b A n c xs h)
 go_enter func206,ntmps206
 go_wp2_with (go_at_call 181;((with_reducible refine f.out.mono ?_);rintro e i ⟨g,A4,c4,rfl,d,a⟩))
 go_ret
 exact⟨g,A4,c4,rfl,d,a⟩
theorem C8 (w:World)(b:Nat)(A:Option Addr)(n c:Nat)(xs:List Nat)(z:Int)(h:Sl w b A n c xs)(hz:1<=z)(hz2:z<=16777216)(hn:n<=549755813888):
  Calls prog 206 #[.slice A n c,.int .i64 z] w (fr w (ag (af xs*2^z.toNat))):=by
 have i:=Lib.hid (kZ w b n c A xs z (z/32).toNat (z%32).toNat h (by omega) (by omega) (by omega) (by omega) (by omega))
 have e:32*(z/32).toNat+(z%32).toNat=z.toNat:=by omega
 unfold ig at i
 rw[e]at i;clear e
 have hs:n+(z/32).toNat+1<=1099511627776:=by omega
 revert i hs
 generalize n+(z/32).toNat+1=L
 intro i hs
 go_enter func206,ntmps206
 go_wp2_with (go_at_call 236;((with_reducible refine i.out.mono ?_);rintro e r ⟨g,l,rfl,hg,f,a,d,p,hb⟩))
 have o:=f.all d (by omega) (c:=L) (by omega);rw[a]at o;have m:=Lib.hid p;have q:=Lib.hid hb;clear f a d p hb i
 go_wp2_with (go_at_call 181;((with_reducible refine(bP r g _ L L l o).mono ?_);rintro e t ⟨s,A4,c4,rfl,j,k⟩))
 go_ret
 rw[m.out]at j;rw[m.out];exact fr.of j k q.out
theorem C7 (w:World)(b:Nat)(A:Option Addr)(n c:Nat)(xs:List Nat)(s:Nat)(h:Sl w b A n c xs)(hz2:s<=16777216)(hn:n<=549755813888):
  Calls prog 206 #[.slice A n c,.int .i64 (s:Int)] w (fr w (ag (af xs*2^s))):=by
 by_cases a:s=0
 ·subst a;rw[Nat.pow_zero,Nat.mul_one];exact r8 w b A n c xs _ h (by omega)
 ·have:=C8 w b A n c xs (s:Int) h (by omega) (by omega) hn
  rwa [Int.toNat_natCast]at this
