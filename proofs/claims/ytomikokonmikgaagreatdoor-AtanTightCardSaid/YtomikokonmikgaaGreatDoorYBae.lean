/-
 Contracts that the proof rests on.
-/
import Derived.Lib.BitFns
import Derived.Test.YtomikokonmikgaaGreatDoorYBad
namespace Go.Proofs.YtomikokonmikgaaGreatDoor
set_option maxHeartbeats 1000000
open Go.RowKit
set_option linter.unusedVariables false
def cmpI (x y:Int):Int:=if x < y then -1 else if y < x then 1 else 0
theorem cmpI_lt{x y:Int}(h:x < y):cmpI x y= -1:=by unfold cmpI;rw[if_pos h]
theorem cmpI_gt{x y:Int}(h:y < x):cmpI x y=1:=by unfold cmpI;rw[if_neg (by omega),if_pos h]
theorem cmpI_eq{x y:Int}(h:x=y):cmpI x y=0:=by unfold cmpI;rw[if_neg (by omega),if_neg (by omega)]
theorem ret_int{k:IntKind}{a b:Int}(h:a=b):Ending.returned (.int k a)= .returned (.int k b):=by rw[h]
theorem compareInt_any (x y:Int)(w:World):Calls Tryz.prog 110 #[.int .i64 x,.int .i64 y] w fun e w'=>e= .returned (.int .i64 (cmpI x y))/\w=w':=by
 go_enter Tryz.func110,Tryz.ntmps110
 go_wp2
 all_goals go_ret
 ·exact⟨ret_int (cmpI_lt (by assumption)).symm,rfl⟩
 ·exact⟨ret_int (cmpI_gt (by assumption)).symm,rfl⟩
 ·exact⟨ret_int (cmpI_eq (by omega)).symm,rfl⟩
theorem compareU_any (x y:Int)(w:World):Calls Tryz.prog 189 #[.int .u32 x,.int .u32 y] w fun e w'=>e= .returned (.int .i64 (cmpI x y))/\w=w':=by
 go_enter Tryz.func189,Tryz.ntmps189
 go_wp2
 all_goals go_ret
 ·exact⟨ret_int (cmpI_lt (by assumption)).symm,rfl⟩
 ·exact⟨ret_int (cmpI_gt (by assumption)).symm,rfl⟩
 ·exact⟨ret_int (cmpI_eq (by omega)).symm,rfl⟩
theorem ret2_u32{a b c d:Int}(h:a=c)(k:b=d):Ending.returned (.tuple #[.int .u32 a,.int .u32 b])= .returned (.tuple #[.int .u32 c,.int .u32 d]):=by rw[h,k]
theorem add32_any (x y c:Nat)(hx:x < 4294967296)(hy:y < 4294967296)(hc:c<=1)(w:World):
  Calls Tryz.prog 262 #[.int .u32 (x:Int),.int .u32 (y:Int),.int .u32 (c:Int)] w fun e w'=>
   e= .returned (.tuple #[.int .u32 (((x+y+c)%4294967296:Nat):Int),.int .u32 (((x+y+c) /4294967296:Nat):Int)])/\w=w':=by
 go_enter Tryz.func262,Tryz.ntmps262
 go_wp2
 go_ret2
 exact⟨ret2_u32 (by omega) (by omega),rfl⟩
theorem add32_zero (x c:Nat)(hx:x < 4294967296)(hc:c<=1)(w:World):
  Calls Tryz.prog 262 #[.int .u32 (x:Int),.int .u32 0,.int .u32 (c:Int)] w fun e w'=>
   e= .returned (.tuple #[.int .u32 (((x+0+c)%4294967296:Nat):Int),.int .u32 (((x+0+c) /4294967296:Nat):Int)])/\w=w':=add32_any x 0 c hx (by omega) hc w
def bor (x y c:Nat):Nat:=if x < y+c then 1 else 0
theorem bor_le (x y c:Nat):bor x y c<=1:=by unfold bor;split <;> omega
theorem bit_cases (X Y D:Nat)(hX:X<=1)(hY:Y<=1)(hD:D<=1):(((1 ^^^X) &&& Y) ||| ((1 ^^^(X ^^^Y)) &&& D))=if X < Y then 1 else if Y < X then 0 else D:=by
 rcases (by omega:X=0\/X=1)with rfl | rfl <;> rcases (by omega:Y=0\/Y=1)with rfl | rfl <;> rcases (by omega:D=0\/D=1)with rfl | rfl <;> decide
theorem sub_borrow (x y c d:Nat)(hx:x < 4294967296)(hy:y < 4294967296)(hc:c<=1)(hd:d=(x+4294967296-y-c)%4294967296):
  (((4294967295 ^^^x) &&& y) ||| ((4294967295 ^^^(x ^^^y)) &&& d)) /2147483648=bor x y c:=by
 have e:∀n:Nat,n/2147483648=n >>> 31:=fun n=>by rw[Nat.shiftRight_eq_div_pow]
 rw[e,Nat.shiftRight_or_distrib,Nat.shiftRight_and_distrib,Nat.shiftRight_and_distrib,Nat.shiftRight_xor_distrib,Nat.shiftRight_xor_distrib,Nat.shiftRight_xor_distrib]
 rw[<-e x,<-e y,<-e d,show (4294967295 >>> 31:Nat)=1 by decide]
 rw[bit_cases _ _ _ (by omega) (by omega) (by omega)]
 unfold bor
 split <;> split <;> (try split) <;> omega
theorem max_u32:IntKind.u32.max=((4294967295:Nat):Int):=by decide
theorem sub_bits (x y c:Nat)(hx:x < 4294967296)(hy:y < 4294967296)(hc:c<=1):
  bits BinOp.or IntKind.u32 (bits BinOp.and IntKind.u32 (bits BinOp.xor IntKind.u32 IntKind.u32.max ↑x) ↑y)
    (bits BinOp.and IntKind.u32 (bits BinOp.xor IntKind.u32 IntKind.u32.max (bits BinOp.xor IntKind.u32 ↑x ↑y))
     (((x:Int)-y-c)%4294967296)) /2147483648=(bor x y c:Int):=by
 have hd:((x:Int)-y-c)%4294967296=(((x+4294967296-y-c)%4294967296:Nat):Int):=by omega
 have b1:∀a:Nat,a < 4294967296->4294967295 ^^^a < 4294967296:=fun a ha=>Nat.xor_lt_two_pow (n:=32) (by decide) ha
 have b2:x ^^^y < 4294967296:=Nat.xor_lt_two_pow (n:=32) hx hy
 have b3:(x+4294967296-y-c)%4294967296 < 4294967296:=by omega
 rw[hd,max_u32,u32_xor_nat _ _ (by decide) hx,u32_and_nat _ _ (b1 x hx) hy,u32_xor_nat _ _ hx hy,u32_xor_nat _ _ (by decide) b2,u32_and_nat _ _ (b1 _ b2) b3,
  u32_or_nat _ _ (Nat.and_lt_two_pow (n:=32) _ hy) (Nat.and_lt_two_pow (n:=32) _ b3)]
 rw[<-sub_borrow x y c _ hx hy hc rfl]
 omega
theorem sub32_any (x y c:Nat)(hx:x < 4294967296)(hy:y < 4294967296)(hc:c<=1)(w:World):
  Calls Tryz.prog 263 #[.int .u32 (x:Int),.int .u32 (y:Int),.int .u32 (c:Int)] w fun e w'=>
   e= .returned (.tuple #[.int .u32 (((x+4294967296-y-c)%4294967296:Nat):Int),.int .u32 (bor x y c:Int)])/\w=w':=by
 go_enter Tryz.func263,Tryz.ntmps263
 go_wp2
 go_ret2
 exact⟨ret2_u32 (by omega) (sub_bits x y c hx hy hc),rfl⟩
theorem sub32_zero (x c:Nat)(hx:x < 4294967296)(hc:c<=1)(w:World):
  Calls Tryz.prog 263 #[.int .u32 (x:Int),.int .u32 0,.int .u32 (c:Int)] w fun e w'=>
   e= .returned (.tuple #[.int .u32 (((x+4294967296-0-c)%4294967296:Nat):Int),.int .u32 (bor x 0 c:Int)])/\w=w':=sub32_any x 0 c hx (by omega) hc w
theorem or_join (x y:Nat)(hx:x < 4294967296)(hy:y < 4294967296):bits BinOp.or IntKind.u64 ((x:Int)*4294967296) (y:Int)=(x:Int)*4294967296+y:=by
 have:=u64_or_nat (x*4294967296) y (by omega) (by omega)
 rw[nat_join 32 _ _ (by omega) hy]at this
 simpa using this
theorem div32_any (x y d:Nat)(hx:x < d)(hy:y < 4294967296)(hd:d < 4294967296)(w:World):
  Calls Tryz.prog 259 #[.int .u32 (x:Int),.int .u32 (y:Int),.int .u32 (d:Int)] w fun e w'=>
   e= .returned (.tuple #[.int .u32 (((x*4294967296+y) /d:Nat):Int),.int .u32 (((x*4294967296+y)%d:Nat):Int)])/\∃n,w'=w.drewN n:=by
 have hor:=or_join x y (by omega) hy
 go_enter Tryz.func259,Tryz.ntmps259
 go_wp2
 go_quiet (fail)
 go_wp2
 go_ret2
 have hq:(x*4294967296+y) /d < 4294967296:=by
  rw[Nat.div_lt_iff_lt_mul (by omega)]
  have:=Nat.mul_le_mul_right 4294967296 (show x+1<=d from hx)
  rw[Nat.mul_comm 4294967296 d]
  omega
 have hr:(x*4294967296+y)%d < d:=Nat.mod_lt _ (by omega)
 refine⟨ret2_u32 ?_ ?_,_,rfl⟩
 ·have e:((x:Int)*4294967296+y) /d=(((x*4294967296+y) /d:Nat):Int):=by simp
  rw[e];clear e hor;revert hq;generalize (x*4294967296+y) /d=q;intro hq;omega
 ·have e:((x:Int)*4294967296+y)%d=(((x*4294967296+y)%d:Nat):Int):=by simp
  rw[e];clear e hor;revert hr;generalize (x*4294967296+y)%d=q;intro hr;omega
def blen (n:Nat):Nat:=if n=0 then 0 else Nat.log2 n+1
theorem blen_zero:blen 0=0:=rfl
theorem blen_lt (n:Nat):n < 2^blen n:=by
 unfold blen
 split
 ·subst_vars;decide
 ·exact Nat.lt_log2_self
theorem blen_le{n:Nat}(h:n≠0):2^(blen n-1)<=n:=by
 unfold blen
 rw[if_neg h];exact Nat.log2_self_le h
theorem blen_uniq{n k:Nat}(h0:n≠0)(h1:2^k<=n)(h2:n < 2^(k+1)):blen n=k+1:=by
 unfold blen
 rw[if_neg h0,(Nat.log2_eq_iff h0).2 ⟨h1,h2⟩]
theorem blen_half{n:Nat}(h:n≠0):blen n=1+blen (n/2):=by
 by_cases h1:n=1
 ·subst h1;decide
 ·have h2:n/2≠0:=by omega
  unfold blen
  rw[if_neg h,if_neg h2,Nat.log2_def,if_pos (by omega)]
  omega
theorem bitLenAux_eq:∀(f n:Nat),n < 2^f->Lib.bitLenAux f n=blen n
 | 0,n,h=>by
  have:n=0:=by simpa using h
  subst this;rfl
 | f+1,n,h=>by
  unfold Lib.bitLenAux
  by_cases h0:n=0
  ·subst h0;rfl
  ·rw[if_neg h0,bitLenAux_eq f (n/2) (by rw[Nat.pow_succ]at h;omega),blen_half h0]
theorem bitLen_eq (n:Nat)(h:n < 4294967296):Lib.bitLen n=blen n:=bitLenAux_eq 64 n (by omega)
theorem blen_shift (n k:Nat)(h:2^k<=n):blen n=k+blen (n/2^k):=by
 induction k with
 | zero=>simp
 | succ k ih=>
  have h1:2^k<=n:=Nat.le_trans (Nat.pow_le_pow_right (by decide) (Nat.le_succ k)) h
  have h2:n/2^k≠0:=by
   have:=(Nat.le_div_iff_mul_le (Nat.two_pow_pos k)).2 (show 1*2^k<=n by omega)
   omega
  rw[ih h1,blen_half h2,Nat.div_div_eq_div_mul,Nat.pow_succ]
  omega
theorem blen_mono_le{n k:Nat}(h:n < 2^k):blen n<=k:=by
 by_cases h0:n=0
 ·subst h0;rw[blen_zero];omega
 ·rcases Nat.lt_or_ge k (blen n)with hlt | hge
  ·have:=blen_le h0
   have:=Nat.pow_le_pow_right (n:=2) (by decide) (show k<=blen n-1 by omega)
   omega
  ·exact hge
theorem index_len8 (w:World)(k:Nat)(h:k < 256):
  (Instr.index 9 (.string Lib.len8tab) (.int .u8 (k:Int))).run Tryz.prog w= .ok (.int .u8 (blen k:Int)) w:=by
 rw[Lib.run_index_len8tab (P:=Tryz.prog) w 9 .u8 (k:Int) Tryz.underlying9 (by omega) (by omega)]
 have:=Lib.len8_eq ⟨k,h⟩
 simp only at this;rw[this,bitLen_eq k (by omega)]
set_option maxRecDepth 100000 in
theorem len32_a (z:Int)(q:Nat)(w:World)(h0:0<=z)(hz:z<=4294967295)(h1:65536<=z)(h2:256<=z/65536)(hq:q<=8)
  (hi:∀W,(Instr.index 9 (.string Lib.len8tab) (.int .u8 (z/65536/256))).run Tryz.prog W= .ok (.int .u8 (q:Int)) W):
  Calls Tryz.prog 236 #[.int .u32 z] w fun e w'=>e= .returned (.int .i64 (24+q:Int))/\w=w':=by
 go_enter Tryz.func236,Tryz.ntmps236
 go_wp2
 go_ret
 exact⟨rfl,rfl⟩
set_option maxRecDepth 100000 in
theorem len32_b (z:Int)(q:Nat)(w:World)(h0:0<=z)(hz:z<=4294967295)(h1:65536<=z)(h2:z/65536 < 256)(hq:q<=8)
  (hi:∀W,(Instr.index 9 (.string Lib.len8tab) (.int .u8 (z/65536))).run Tryz.prog W= .ok (.int .u8 (q:Int)) W):
  Calls Tryz.prog 236 #[.int .u32 z] w fun e w'=>e= .returned (.int .i64 (16+q:Int))/\w=w':=by
 go_enter Tryz.func236,Tryz.ntmps236
 go_wp2
 go_ret
 exact⟨rfl,rfl⟩
set_option maxRecDepth 100000 in
theorem len32_c (z:Int)(q:Nat)(w:World)(h0:0<=z)(hz:z<=4294967295)(h1:z < 65536)(h2:256<=z)(hq:q<=8)
  (hi:∀W,(Instr.index 9 (.string Lib.len8tab) (.int .u8 (z/256))).run Tryz.prog W= .ok (.int .u8 (q:Int)) W):
  Calls Tryz.prog 236 #[.int .u32 z] w fun e w'=>e= .returned (.int .i64 (8+q:Int))/\w=w':=by
 go_enter Tryz.func236,Tryz.ntmps236
 go_wp2
 go_ret
 exact⟨rfl,rfl⟩
set_option maxRecDepth 100000 in
theorem len32_d (z:Int)(q:Nat)(w:World)(h0:0<=z)(hz:z<=4294967295)(h1:z < 65536)(h2:z < 256)(hq:q<=8)
  (hi:∀W,(Instr.index 9 (.string Lib.len8tab) (.int .u8 (z))).run Tryz.prog W= .ok (.int .u8 (q:Int)) W):
  Calls Tryz.prog 236 #[.int .u32 z] w fun e w'=>e= .returned (.int .i64 (q:Int))/\w=w':=by
 go_enter Tryz.func236,Tryz.ntmps236
 go_wp2
 go_ret
 exact⟨rfl,rfl⟩
theorem len32_any (x:Nat)(hx:x < 4294967296)(w:World):
  Calls Tryz.prog 236 #[.int .u32 (x:Int)] w fun e w'=>e= .returned (.int .i64 (blen x:Int))/\w=w':=by
 by_cases h1:65536<=x
 ·have s1:=blen_shift x 16 (by omega)
  rw[show 2^16=65536 by decide]at s1
  by_cases h2:256<=x/65536
  ·have s2:=blen_shift (x/65536) 8 (by omega)
   rw[show 2^8=256 by decide]at s2
   have:=len32_a (x:Int) (blen (x/65536/256)) w (by omega) (by omega) (by omega) (by omega) (blen_mono_le (by omega)) (fun W=>index_len8 W (x/65536/256) (by omega))
   exact this.mono fun e w' h=>⟨h.1.trans (ret_int (by omega)),h.2⟩
  ·have:=len32_b (x:Int) (blen (x/65536)) w (by omega) (by omega) (by omega) (by omega) (blen_mono_le (by omega)) (fun W=>index_len8 W (x/65536) (by omega))
   exact this.mono fun e w' h=>⟨h.1.trans (ret_int (by omega)),h.2⟩
 ·by_cases h2:256<=x
  ·have s2:=blen_shift x 8 (by omega)
   rw[show 2^8=256 by decide]at s2
   have:=len32_c (x:Int) (blen (x/256)) w (by omega) (by omega) (by omega) (by omega) (blen_mono_le (by omega)) (fun W=>index_len8 W (x/256) (by omega))
   exact this.mono fun e w' h=>⟨h.1.trans (ret_int (by omega)),h.2⟩
  ·exact len32_d (x:Int) (blen x) w (by omega) (by omega) (by omega) (by omega) (blen_mono_le (by omega)) (fun W=>index_len8 W x (by omega))
theorem lead32_any (x:Nat)(hx:x < 4294967296)(w:World):
  Calls Tryz.prog 260 #[.int .u32 (x:Int)] w fun e w'=>e= .returned (.int .i64 (32-blen x:Int))/\w=w':=by
 have hb:=blen_mono_le (n:=x) (k:=32) hx
 go_enter Tryz.func260,Tryz.ntmps260
 go_wp2_with (go_at_call 236;refine(len32_any x hx _).mono ?_;rintro e w' ⟨rfl,rfl⟩)
 go_ret
 exact⟨rfl,rfl⟩
theorem cmp_core (w:World)(b1 b2:Nat)(A1 A2:Option Addr)(n m c1 c2:Nat)(xs ys:List Nat)(n' m':Nat)(h1:Sl w b1 A1 n' c1 xs)(h2:Sl w b2 A2 m' c2 ys)
  (HC1:Hid (Calls Tryz.prog 186 #[.slice A1 n c1] w fun e w'=>e= .returned (.slice A1 n' c1)/\w=w'))
  (HC2:Hid (Calls Tryz.prog 186 #[.slice A2 m c2] w fun e w'=>e= .returned (.slice A2 m' c2)/\w=w'))
  (hne:n'≠m'->cmpI (n':Int) (m':Int)=cmpI (val xs:Nat) (val ys:Nat)):
  Calls Tryz.prog 123 #[.slice A1 n c1,.slice A2 m c2] w fun e w'=>e= .returned (.int .i64 (cmpI (val xs:Nat) (val ys:Nat)))/\∃q,w'=w.drewN q:=by
 have hb1:=h1.big;have hb2:=h2.big;have hl1:=Lib.hid h1.len;have hl2:=Lib.hid h2.len
 by_cases heq:n'=m'
 ·subst heq;clear hne
  have hne':((n':Int) !=(n':Int))=false:=by simp
  go_enter Tryz.func123,Tryz.ntmps123
  go_wp2_with (first
   | (go_at_call 186;((with_reducible refine HC1.out.mono ?_);rintro e w' ⟨rfl,rfl⟩))
   | (go_at_call 186;((with_reducible refine HC2.out.mono ?_);rintro e w' ⟨rfl,rfl⟩)))
  clear HC1 HC2
  go_loopw [23] (fun i wr=>∃k q:Nat,k<=n'/\i= .int .i64 k/\wr=w.drewN q/\val (xs.drop (n' - k))=val (ys.drop (n' - k))) (fun i _=>n' - (intOf i).toNat)
  case atStart=>exact ⟨0,0,Nat.zero_le _,rfl,rfl,by rw[List.drop_of_length_le (by rw[hl1.out];omega),List.drop_of_length_le (by rw[hl2.out];omega)]⟩
  case round=>
   obtain⟨k,q,hk,rfl,rfl,hz⟩:=hrel;have HZ:=Lib.hid hz;clear hz
   by_cases hlt:k < n'
   ·obtain⟨o1,rfl,hc1⟩:=h1.at (by omega);obtain⟨o2,rfl,hc2⟩:=h2.at (by omega);have g1:=hc1 (n' - 1-k) (by omega);have g2:=hc2 (n' - 1-k) (by omega);clear hc1 hc2;have HX:=Lib.hid (val_limb_cases h1.lim h2.lim hl1.out hl2.out hlt HZ.out)
    revert g1 g2 HX
    generalize xs.getD (n' - 1-k) 0=x;generalize ys.getD (n' - 1-k) 0=y
    intro g1 g2 HX
    have i1:((n':Int)-1-k).toNat=n' - 1-k:=by omega
    by_cases hxy:x=y
    ·subst hxy;go_wp2
     go_quiet (fail)
     go_wp2
     go_roundw
     case rel=>exact ⟨k+1,_,by omega,by go_num,rfl,by rw[show n' - (k+1)=n' - 1-k by omega];exact HX.out.2.2 (by first | trivial | rfl)⟩
     case measure=>simp [intOf];omega
    ·have HR:Hid (cmpI (x:Int) (y:Int)=cmpI (val xs:Nat) (val ys:Nat)):=by
      rcases Nat.lt_or_gt_of_ne hxy with h | h
      ·exact(cmpI_lt (by omega)).trans (cmpI_lt (by have:=HX.out.1 h;omega)).symm
      ·exact(cmpI_gt (by omega)).trans (cmpI_gt (by have:=HX.out.2.1 h;omega)).symm
     have hxy':((x:Int) !=(y:Int))=true:=by simp;omega
     clear hxy HX;go_wp2
     go_quiet (fail)
     go_wp2
     go_quiet ((go_at_call 189;first | exact quiet_add_left (compareU_any _ _ _) | exact quiet_left (compareU_any _ _ _)))
     go_wp2
     go_ret
     exact⟨ret_int HR.out,_,by rw[World.drewN_drewN,World.drewN_drewN]⟩
   ·go_wp2
    go_ret
    have hkn:k=n':=by omega
    subst hkn;have e:=HZ.out;rw[Nat.sub_self,List.drop_zero,List.drop_zero]at e;exact⟨ret_int (cmpI_eq (by omega)).symm,_,rfl⟩
 ·have hne':((n':Int) !=(m':Int))=true:=by simp;omega
  have HN:=Lib.hid (hne heq);clear hne heq
  go_enter Tryz.func123,Tryz.ntmps123
  go_wp2_with (first
   | (go_at_call 186;((with_reducible refine HC1.out.mono ?_);rintro e w' ⟨rfl,rfl⟩))
   | (go_at_call 186;((with_reducible refine HC2.out.mono ?_);rintro e w' ⟨rfl,rfl⟩))
   | (go_at_call 110;((with_reducible refine(compareInt_any _ _ _).mono ?_);rintro e w' ⟨rfl,rfl⟩)))
  go_ret
  exact⟨ret_int HN.out,0,rfl⟩
theorem cmp_any (w:World)(b1 b2:Nat)(A1 A2:Option Addr)(n m c1 c2:Nat)(xs ys:List Nat)(h1:Sl w b1 A1 n c1 xs)(h2:Sl w b2 A2 m c2 ys):
  Calls Tryz.prog 123 #[.slice A1 n c1,.slice A2 m c2] w fun e w'=>e= .returned (.int .i64 (cmpI (val xs:Nat) (val ys:Nat)))/\∃q,w'=w.drewN q:=by
 have s1:=h1.take (k:=(limbs (val xs)).length) (by have:=val_limbs_le h1.lim;have:=h1.len;omega);have s2:=h2.take (k:=(limbs (val ys)).length) (by have:=val_limbs_le h2.lim;have:=h2.len;omega);rw[limbs_prefix h1.lim]at s1;rw[limbs_prefix h2.lim]at s2
 have:=cmp_core w b1 b2 A1 A2 n m c1 c2 _ _ _ _ s1 s2 (cut_any w b1 A1 n c1 xs h1) (cut_any w b2 A2 m c2 ys h2) (fun hne=>by
  rw[val_limbs,val_limbs]
  rcases Nat.lt_or_gt_of_ne hne with h | h
  ·exact(cmpI_lt (by omega)).trans (cmpI_lt (by have:=limbs_length_lt_of_lt h;omega)).symm
  ·exact(cmpI_gt (by omega)).trans (cmpI_gt (by have:=limbs_length_lt_of_lt h;omega)).symm)
 rw[val_limbs,val_limbs]at this;exact this
def Turned (w:World)(g o:Nat)(l zs:List Nat)(w':World):Prop:=Own w' g (mid l o zs)/\w.grownBy w' (some g)/\Lim zs
theorem Turned.step{w wr:World}{g o:Nat}{l zs:List Nat}(h:Turned w g o l zs wr)(hk:o+zs.length < l.length){x:Nat}(hx:x < 4294967296):
  Turned w g o l (zs ++[x]) (wr.setCell ⟨g,o+zs.length,none⟩ (.int .u32 (x:Int))):=
 ⟨by have:=h.1.set (o+zs.length) x;rwa [mid_set hk]at this,grown_set h.2.1 _,h.2.2.append (Lim.cons hx Lim.nil)⟩
theorem Turned.cell{w wr:World}{g o:Nat}{l zs:List Nat}(h:Turned w g o l zs wr)(hk:o+zs.length < l.length):wr.cell? ⟨g,o+zs.length,none⟩=some (.int .u32 (l.getD (o+zs.length) 0:Nat)):=by
 rw[h.1.cell (by rw[mid_length (by omega)];omega),mid_getD hk]
def AddInv (w:World)(g o:Nat)(l ys:List Nat)(k cy:Nat)(wr:World):Prop:=
 ∃zs,zs.length=k/\Turned w g o l zs wr/\cy<=1/\val zs+cy*4294967296^k=val ((l.drop o).take k)+val (ys.take k)
theorem AddInv.step{w wr:World}{g o:Nat}{l ys:List Nat}{k cy x y:Nat}(h:AddInv w g o l ys k cy wr)(hk:o+k < l.length)(hx:l.getD (o+k) 0=x)(hy:ys.getD k 0=y)(hl:Lim l)(hly:Lim ys):
  AddInv w g o l ys (k+1) ((x+y+cy) /4294967296) (wr.setCell ⟨g,o+k,none⟩ (.int .u32 (((x+y+cy)%4294967296:Nat):Int))):=by
 obtain⟨zs,rfl,ht,hc,hv⟩:=h
 have bx:x < 4294967296:=by rw[<-hx];exact hl.getD _
 have by':y < 4294967296:=by rw[<-hy];exact hly.getD _
 refine⟨zs ++[(x+y+cy)%4294967296],by simp,ht.step hk (by omega),by omega,?_⟩
 rw[val_snoc,val_take_more,val_take_more,hy,getD_drop,hx,Nat.pow_succ];exact add_step hv
def AddPost (w:World)(g o n:Nat)(l ys:List Nat)(e:Ending)(w':World):Prop:=
 e= .returned (.tuple #[])/\∃zs cy,zs.length=n/\Turned w g o l zs w'/\cy<=1/\val zs+cy*4294967296^n=val ((l.drop o).take n)+val ys
theorem AddInv.done{w wr:World}{g o n:Nat}{l ys:List Nat}{cy:Nat}(h:AddInv w g o l ys n cy wr)(hm:ys.length<=n):AddPost w g o n l ys (.returned (.tuple #[])) wr:=by
 obtain⟨zs,hz,ht,hc,hv⟩:=h;exact⟨rfl,zs,cy,hz,ht,hc,by rw[hv,val_take_all hm]⟩
theorem mid_more{l zs:List Nat}{o n:Nat}(h:o+n<=l.length)(hz:zs.length<=n):mid l o (zs ++(l.drop (o+zs.length)).take (n-zs.length))=mid l o zs:=by
 unfold mid
 have e:(zs ++(l.drop (o+zs.length)).take (n-zs.length)).length=n:=by simp;omega
 rw[e,List.append_assoc,List.append_assoc,List.append_assoc]
 congr 2
 have:l.drop (o+n)=(l.drop (o+zs.length)).drop (n-zs.length):=by rw[List.drop_drop];congr 1;omega
 rw[this,List.take_append_drop]
theorem val_seg_split{l:List Nat}{o n k:Nat}(h:o+n<=l.length)(hk:k<=n):val ((l.drop o).take n)=val ((l.drop o).take k)+4294967296^k*val ((l.drop (o+k)).take (n-k)):=by
 have h1:=val_take_drop ((l.drop o).take n) (k:=k) (by simp;omega);rw[List.take_take,Nat.min_eq_left hk,List.drop_take,List.drop_drop]at h1;exact h1
theorem AddInv.early{w wr:World}{g o n k:Nat}{l ys:List Nat}(h:AddInv w g o l ys k 0 wr)(hl:Lim l)(hn:o+n<=l.length)(hk:k<=n)(hm:ys.length<=k):AddPost w g o n l ys (.returned (.tuple #[])) wr:=by
 obtain⟨zs,rfl,ht,hc,hv⟩:=h;refine⟨rfl,zs ++(l.drop (o+zs.length)).take (n-zs.length),0,by simp;omega,⟨by rw[mid_more hn hk];exact ht.1,ht.2.1,ht.2.2.append ((hl.drop _).take _)⟩,by omega,?_⟩
 rw[val_append,val_seg_split hn hk];rw[val_take_all hm]at hv
 omega
theorem addTo_any (w:World)(g o n c b m c2:Nat)(A:Option Addr)(l ys:List Nat)(hg:Own w g l)(hl:Lim l)(hn:o+n<=l.length)(hbl:l.length<=1099511627776)(h2:Sl w b A m c2 ys)(hne:0 < m->b≠g)(hm:m<=n):
  Calls Tryz.prog 240 #[.slice (some ⟨g,o,none⟩) n c,.slice A m c2] w (AddPost w g o n l ys):=by
 have hl2:=Lib.hid h2.len
 go_enter Tryz.func240,Tryz.ntmps240
 go_wp2
 go_loopw [4,9] (fun u i wr=>∃k cy:Nat,k<=n/\i= .int .i64 k/\u= .int .u32 cy/\AddInv w g o l ys k cy wr) (fun _ i _=>n-(intOf i).toNat)
 case atStart=>exact ⟨0,0,Nat.zero_le _,rfl,rfl,[],rfl,⟨by rw[mid_nil];exact hg,grown_refl _ _,Lim.nil⟩,by omega,by simp[val]⟩
 case round=>
  obtain⟨k,cy,hk,rfl,rfl,hI⟩:=hrel;have HI:=Lib.hid hI;clear hI
  by_cases hlt:k < n
  ·have HI':=HI
   obtain⟨zs,hz,ht,hcy,-⟩:=HI';have hcell:=ht.cell (by omega);rw[hz]at hcell
   have hfr:wr.frozen? ⟨g,o+k,none⟩=false:=ht.1.frozen _
   have bx:=hl.getD (o+k)
   have HS:=Lib.hid (fun y hy=>HI.out.step (y:=y) (by omega) rfl hy hl h2.lim)
   have hsl:=h2.grown ht.2.1 (fun h=>by simpa using hne h)
   clear ht hz hg;obtain⟨x,hx⟩:∃x,l.getD (o+k) 0=x:=⟨_,rfl⟩;rw[hx]at hcell bx HS;clear hx
   by_cases hkm:k < m
   ·obtain⟨o2,rfl,hc2⟩:=hsl.at (by omega);have hcell2:=hc2 k hkm
    have by':=h2.lim.getD k
    have HS':=Lib.hid (HS.out _ rfl)
    clear HS hc2
    revert hcell2 by' HS'
    generalize ys.getD k 0=y
    intro hcell2 by' HS'
    go_wp2_with (go_at_call 262;((with_reducible refine(add32_any x y cy bx by' hcy _).mono ?_);rintro e w' ⟨rfl,rfl⟩))
    go_roundw
    case rel=>exact ⟨k+1,_,by omega,by go_num,rfl,HS'.out⟩
    case measure=>simp [intOf];omega
   ·have HS':=Lib.hid (HS.out 0 (getD_beyond (by rw[hl2.out];omega)))
    clear HS
    by_cases hc0:cy=0
    ·subst hc0;go_wp2;refine bodyPost_ret (results_none rfl _ _ _) rfl ?_;exact HI.out.early hl hn hk (by rw[hl2.out];omega)
    ·have hc0':((cy:Int)==0)=false:=by simpa using hc0
     go_wp2_with (go_at_call 262;((with_reducible refine(add32_zero x cy bx hcy _).mono ?_);rintro e w' ⟨rfl,rfl⟩))
     go_roundw
     case rel=>exact ⟨k+1,_,by omega,by go_num,rfl,HS'.out⟩
     case measure=>simp [intOf];omega
  ·go_wp2
   go_end0
   have hkn:k=n:=by omega
   subst hkn;exact HI.out.done (by rw[hl2.out];omega)
def MulInv (w:World)(g o:Nat)(l ys:List Nat)(f k cy:Nat)(wr:World):Prop:=
 ∃zs,zs.length=k/\Turned w g o l zs wr/\cy < 4294967296/\val zs+cy*4294967296^k=val ((l.drop o).take k)+f*val (ys.take k)
theorem prod_lt{y f:Nat}(hy:y < 4294967296)(hf:f < 4294967296):y*f<=4294967295*4294967295:=Nat.mul_le_mul (by omega) (by omega)
theorem wrap_u64_nat (s:Nat)(h:s < 18446744073709551616):IntKind.u64.wrap (s:Int)=s:=by
 rw[show IntKind.u64.wrap (s:Int)=(s:Int)%18446744073709551616 from by simp[IntKind.wrap,IntKind.bits,IntKind.signed]]
 omega
theorem mul_sums{y f x cy:Nat}(hy:y < 4294967296)(hf:f < 4294967296)(hx:x < 4294967296)(hc:cy < 4294967296):
  ∃p q s:Nat,Hid (s=y*f+x+cy)/\Hid (s/4294967296 < 4294967296)/\IntKind.u64.wrap ((y:Int)*f)=p/\IntKind.u64.wrap ((p:Int)+x)=q/\IntKind.u64.wrap ((q:Int)+cy)=s:=by
 have hp:=prod_lt hy hf;refine⟨y*f,y*f+x,y*f+x+cy,rfl,?_,?_,?_,?_⟩
 ·show _ < _;omega
 ·have:=wrap_u64_nat (y*f) (by omega);simpa using this
 ·have:=wrap_u64_nat (y*f+x) (by omega);simpa using this
 ·have:=wrap_u64_nat (y*f+x+cy) (by omega);simpa using this
theorem MulInv.step{w wr:World}{g o:Nat}{l ys:List Nat}{f k cy x y s:Nat}(h:MulInv w g o l ys f k cy wr)(hk:o+k < l.length)(hx:l.getD (o+k) 0=x)(hy:ys.getD k 0=y)
  (hs:s=y*f+x+cy) (hb:s/4294967296 < 4294967296) (q:Nat):
  MulInv w g o l ys f (k+1) (s/4294967296) ((wr.drewN q).setCell ⟨g,o+k,none⟩ (.int .u32 ((s%4294967296:Nat):Int))):=by
 obtain⟨zs,rfl,ht,hc,hv⟩:=h
 have ht':Turned w g o l zs (wr.drewN q):=⟨ht.1,grown_drewN ht.2.1 q,ht.2.2⟩
 refine⟨zs ++[s%4294967296],by simp,ht'.step hk (by omega),hb,?_⟩
 rw[val_snoc,val_take_more,val_take_more,hy,getD_drop,hx,Nat.pow_succ,hs];exact mul_step hv
def MulPost (w:World)(g o n:Nat)(l ys:List Nat)(f:Nat)(e:Ending)(w':World):Prop:=
 ∃cy:Nat,e= .returned (.int .u32 (cy:Int))/\∃zs,zs.length=n/\Turned w g o l zs w'/\cy < 4294967296/\val zs+cy*4294967296^n=val ((l.drop o).take n)+f*val ys
theorem addTimes_any (w:World)(g o n c b c2 f:Nat)(A:Option Addr)(l ys:List Nat)(hg:Own w g l)(hl:Lim l)(hn:o+n<=l.length)(hbl:l.length<=1099511627776)(h2:Sl w b A n c2 ys)(hne:0 < n->b≠g)(hf:f < 4294967296):
  Calls Tryz.prog 187 #[.slice (some ⟨g,o,none⟩) n c,.slice A n c2,.int .u32 (f:Int)] w (MulPost w g o n l ys f):=by
 have hl2:=Lib.hid h2.len
 go_enter Tryz.func187,Tryz.ntmps187
 go_wp2
 go_loopw [7,12] (fun u i wr=>∃k cy:Nat,k<=n/\i= .int .i64 k/\u= .int .u64 cy/\MulInv w g o l ys f k cy wr) (fun _ i _=>n-(intOf i).toNat)
 case atStart=>exact ⟨0,0,Nat.zero_le _,rfl,rfl,[],rfl,⟨by rw[mid_nil];exact hg,grown_refl _ _,Lim.nil⟩,by omega,by simp[val]⟩
 case round=>
  obtain⟨k,cy,hk,rfl,rfl,hI⟩:=hrel;have HI:=Lib.hid hI;clear hI
  by_cases hlt:k < n
  ·have HI':=HI
   obtain⟨zs,hz,ht,hcy,-⟩:=HI';have hcell:=ht.cell (by omega);rw[hz]at hcell
   have hfr:wr.frozen? ⟨g,o+k,none⟩=false:=ht.1.frozen _
   have bx:=hl.getD (o+k)
   have hsl:=h2.grown ht.2.1 (fun h=>by simpa using hne h)
   clear ht hz hg;obtain⟨x,hx⟩:∃x,l.getD (o+k) 0=x:=⟨_,rfl⟩;rw[hx]at hcell bx;have HX:=Lib.hid hx;clear hx;obtain⟨o2,rfl,hc2⟩:=hsl.at (by omega);have hcell2:=hc2 k hlt
   have by':=h2.lim.getD k
   clear hc2;obtain⟨y,hy⟩:∃y,ys.getD k 0=y:=⟨_,rfl⟩;rw[hy]at hcell2 by'
   have HY:=Lib.hid hy;clear hy;obtain⟨p,q,s,HS,HB,e1,e2,e3⟩:=mul_sums by' hf bx hcy
   go_wp2
   go_quiet (fail)
   go_wp2
   go_roundw
   case rel=>exact ⟨k+1,s/4294967296,by omega,by go_num,by go_num,HI.out.step (by omega) HX.out HY.out HS.out HB.out _⟩
   case measure=>simp [intOf];omega
  ·obtain⟨zs,hz,ht,hcy,hv⟩:=HI.out;have HV:=Lib.hid hv;clear hv
   have hkn:k=n:=by omega
   subst hkn;go_wp2
   go_ret
   refine⟨cy,ret_int (by omega),zs,hz,ht,hcy,?_⟩;rw[HV.out,val_take_all (xs:=ys) (by rw[hl2.out];omega)]
theorem take_step{p A Y v x y f ov bo s a b:Nat}(h:A+(ov+bo)*p=v+f*Y)(hs:s=ov+y*f)(ha:x+b*4294967296=a+s%4294967296+bo):
  (A+p*x)+(s/4294967296+b)*(p*4294967296)=(v+p*a)+f*(Y+p*y):=by
 have e:=Nat.mod_add_div s 4294967296
 have e2:p*(x+b*4294967296)=p*(a+s%4294967296+bo):=by rw[ha]
 have e3:p*(s%4294967296+4294967296*(s/4294967296))=p*(ov+y*f):=by rw[e,hs]
 grind
def TakeInv (w:World)(g o:Nat)(l ys:List Nat)(f k ov bo:Nat)(wr:World):Prop:=
 ∃zs,zs.length=k/\Turned w g o l zs wr/\ov < 4294967296/\bo<=1/\val ((l.drop o).take k)+(ov+bo)*4294967296^k=val zs+f*val (ys.take k)
theorem bor_eq{x t bo:Nat}(hx:x < 4294967296)(ht:t < 4294967296)(hb:bo<=1):x+bor x t bo*4294967296=(x+4294967296-t-bo)%4294967296+t+bo:=by
 unfold bor
 split <;> omega
theorem TakeInv.step{w wr:World}{g o:Nat}{l ys:List Nat}{f k ov bo x y s t u:Nat}(h:TakeInv w g o l ys f k ov bo wr)(hk:o+k < l.length)(hx:l.getD (o+k) 0=x)(hl:Lim l)(hy:ys.getD k 0=y)
  (hs:s=ov+y*f) (ht:t=s%4294967296) (hu:u=s/4294967296) (hb:s/4294967296 < 4294967296):
  TakeInv w g o l ys f (k+1) u (bor x t bo) (wr.setCell ⟨g,o+k,none⟩ (.int .u32 (((x+4294967296-t-bo)%4294967296:Nat):Int))):=by
 obtain⟨zs,rfl,hT,hov,hbo,hv⟩:=h;subst ht;subst hu
 have bx:x < 4294967296:=by rw[<-hx];exact hl.getD _
 refine⟨zs ++[(x+4294967296-s%4294967296-bo)%4294967296],by simp,hT.step hk (by omega),hb,bor_le _ _ _,?_⟩
 rw[val_snoc,val_take_more,val_take_more,hy,getD_drop,hx,Nat.pow_succ];exact take_step hv hs (bor_eq bx (by omega) hbo)
def TakePost (w:World)(g o n:Nat)(l ys:List Nat)(f:Nat)(e:Ending)(w':World):Prop:=
 ∃q:Nat,e= .returned (.bool (decide (0 < q)))/\∃zs,zs.length=n/\Turned w g o l zs w'/\val ((l.drop o).take n)+q*4294967296^n=val zs+f*val ys
theorem TakeInv.early{w wr:World}{g o n k:Nat}{l ys:List Nat}{f:Nat}(h:TakeInv w g o l ys f k 0 0 wr)(hl:Lim l)(hn:o+n<=l.length)(hk:k<=n)(hm:ys.length<=k):TakePost w g o n l ys f (.returned (.bool false)) wr:=by
 obtain⟨zs,rfl,ht,_,_,hv⟩:=h;refine⟨0,rfl,zs ++(l.drop (o+zs.length)).take (n-zs.length),by simp;omega,⟨by rw[mid_more hn hk];exact ht.1,ht.2.1,ht.2.2.append ((hl.drop _).take _)⟩,?_⟩
 rw[val_append,val_seg_split hn hk];rw[val_take_all hm]at hv
 omega
theorem TakeInv.done{w wr:World}{g o n:Nat}{l ys:List Nat}{f ov bo:Nat}(h:TakeInv w g o l ys f n ov bo wr)(hm:ys.length<=n){t:Bool}(ht:t=decide (0 < ov+bo)):TakePost w g o n l ys f (.returned (.bool t)) wr:=by
 obtain⟨zs,hz,hT,_,_,hv⟩:=h;exact⟨ov+bo,by rw[ht],zs,hz,hT,by rw[hv,val_take_all hm]⟩
theorem take_sums{y f ov:Nat}(hy:y < 4294967296)(hf:f < 4294967296)(hc:ov < 4294967296):
  ∃p s t u:Nat,Hid (s=ov+y*f)/\Hid (t=s%4294967296)/\Hid (u=s/4294967296)/\Hid (s/4294967296 < 4294967296)/\t < 4294967296/\IntKind.u64.wrap ((y:Int)*f)=p/\IntKind.u64.wrap ((ov:Int)+p)=s/\
   (s:Int)%4294967296=t/\(s:Int) /4294967296=u:=by
 have hp:=prod_lt hy hf;refine⟨y*f,ov+y*f,(ov+y*f)%4294967296,(ov+y*f) /4294967296,rfl,rfl,rfl,?_,by omega,?_,?_,by omega,by omega⟩
 ·show _ < _;omega
 ·have:=wrap_u64_nat (y*f) (by omega);simpa using this
 ·have:=wrap_u64_nat (ov+y*f) (by omega);simpa using this
theorem takeFrom_any (w:World)(g o n c b m c2 f:Nat)(A:Option Addr)(l ys:List Nat)(hg:Own w g l)(hl:Lim l)(hn:o+n<=l.length)(hbl:l.length<=1099511627776)(h2:Sl w b A m c2 ys)(hne:0 < m->b≠g)(hm:m<=n)(hf:f < 4294967296):
  Calls Tryz.prog 241 #[.slice (some ⟨g,o,none⟩) n c,.slice A m c2,.int .u32 (f:Int)] w (TakePost w g o n l ys f):=by
 have hl2:=Lib.hid h2.len
 go_enter Tryz.func241,Tryz.ntmps241
 go_wp2
 go_loopw [7,8,12] (fun v u i wr=>∃k ov bo:Nat,k<=n/\i= .int .i64 k/\v= .int .u64 ov/\u= .int .u32 bo/\TakeInv w g o l ys f k ov bo wr) (fun _ _ i _=>n-(intOf i).toNat)
 case atStart=>exact ⟨0,0,0,Nat.zero_le _,rfl,rfl,rfl,[],rfl,⟨by rw[mid_nil];exact hg,grown_refl _ _,Lim.nil⟩,by omega,by omega,by simp[val]⟩
 case round=>
  obtain⟨k,ov,bo,hk,rfl,rfl,rfl,hI⟩:=hrel;have HI:=Lib.hid hI;clear hI
  by_cases hlt:k < n
  ·have HI':=HI
   obtain⟨zs,hz,ht,hov,hbo,-⟩:=HI';have hcell:=ht.cell (by omega);rw[hz]at hcell
   have hfr:wr.frozen? ⟨g,o+k,none⟩=false:=ht.1.frozen _
   have bx:=hl.getD (o+k)
   have hsl:=h2.grown ht.2.1 (fun h=>by simpa using hne h)
   clear ht hz hg;obtain⟨x,hx⟩:∃x,l.getD (o+k) 0=x:=⟨_,rfl⟩;rw[hx]at hcell bx;have HX:=Lib.hid hx;clear hx
   by_cases hkm:k < m
   ·obtain⟨o2,rfl,hc2⟩:=hsl.at (by omega);have hcell2:=hc2 k hkm
    have by':=h2.lim.getD k
    clear hc2;obtain⟨y,hy⟩:∃y,ys.getD k 0=y:=⟨_,rfl⟩;rw[hy]at hcell2 by'
    have HY:=Lib.hid hy;clear hy;obtain⟨p,s,t,u,HS,HT,HU,HB,bt,e1,e2,e3,e4⟩:=take_sums by' hf hov
    go_wp2_with (go_at_call 263;((with_reducible refine(sub32_any x t bo bx bt hbo _).mono ?_);rintro e w' ⟨rfl,rfl⟩))
    go_roundw
    case rel=>exact ⟨k+1,u,bor x t bo,by omega,by go_num,rfl,rfl,HI.out.step (by omega) HX.out hl HY.out HS.out HT.out HU.out HB.out⟩
    case measure=>simp [intOf];omega
   ·have HY:=Lib.hid (getD_beyond (xs:=ys) (k:=k) (by rw[hl2.out];omega))
    have HS':=Lib.hid (HI.out.step (s:=ov) (t:=ov) (u:=0) (by omega) HX.out hl HY.out (by simp) (by omega) (by omega) (by omega))
    by_cases h0:ov=0
    ·subst h0
     by_cases h1:bo=0
     ·subst h1;go_wp2
      go_ret
      exact HI.out.early hl hn hk (by rw[hl2.out];omega)
     ·have h1':((bo:Int)==0)=false:=by simpa using h1
      go_wp2_with (go_at_call 263;((with_reducible refine(sub32_zero x bo bx hbo _).mono ?_);rintro e w' ⟨rfl,rfl⟩))
      go_roundw
      case rel=>exact ⟨k+1,0,bor x 0 bo,by omega,by go_num,rfl,rfl,HS'.out⟩
      case measure=>simp [intOf];omega
    ·have h0':((ov:Int)==0)=false:=by simpa using h0
     go_wp2_with (go_at_call 263;((with_reducible refine(sub32_any x ov bo bx hov hbo _).mono ?_);rintro e w' ⟨rfl,rfl⟩))
     go_roundw
     case rel=>exact ⟨k+1,0,bor x ov bo,by omega,by go_num,by congr 1;omega,rfl,HS'.out⟩
     case measure=>simp [intOf];omega
  ·have hkn:k=n:=by omega
   subst hkn
   have HD:=Lib.hid (fun t=>HI.out.done (t:=t) (by rw[hl2.out];omega))
   by_cases h0:ov=0
   ·subst h0
    by_cases h1:bo=0
    ·subst h1;go_wp2
     go_ret
     exact HD.out _ (by simp)
    ·have h1':((bo:Int) !=0)=true:=by simpa using h1
     go_wp2
     go_ret
     exact HD.out _ (by simp;omega)
   ·have h0':((ov:Int) !=0)=true:=by simpa using h0
    go_wp2
    go_ret
    exact HD.out _ (by simp;omega)
theorem takeFrom_none (w:World)(c m c2 f:Nat)(A B:Option Addr):
  Calls Tryz.prog 241 #[.slice B 0 c,.slice A m c2,.int .u32 (f:Int)] w fun e w'=>e= .returned (.bool false)/\w=w':=by
 go_enter Tryz.func241,Tryz.ntmps241
 go_wp2
 go_loop [7,8,12] (fun v u i=>v= .int .u64 0/\u= .int .u32 0/\i= .int .i64 0) (fun _ _ _=>0)
 case atStart=>exact ⟨rfl,rfl,rfl⟩
 case round=>
  obtain⟨rfl,rfl,rfl⟩:=hrel;go_wp2
  go_ret
  exact⟨rfl,rfl⟩
theorem takeFrom_one (w:World)(g o n c b m c2:Nat)(A:Option Addr)(l ys:List Nat)(hg:Own w g l)(hl:Lim l)(hn:o+n<=l.length)(hbl:l.length<=1099511627776)(h2:Sl w b A m c2 ys)(hne:0 < m->b≠g)(hm:m<=n):
  Calls Tryz.prog 241 #[.slice (some ⟨g,o,none⟩) n c,.slice A m c2,.int .u32 1] w (TakePost w g o n l ys 1):=takeFrom_any w g o n c b m c2 1 A l ys hg hl hn hbl h2 hne hm (by omega)
theorem takeFrom_none1 (w:World)(c m c2:Nat)(A B:Option Addr):
  Calls Tryz.prog 241 #[.slice B 0 c,.slice A m c2,.int .u32 1] w fun e w'=>e= .returned (.bool false)/\w=w':=takeFrom_none w c m c2 1 A B
theorem cut_sl{w:World}{b:Nat}{A:Option Addr}{n c:Nat}{xs:List Nat}(h:Sl w b A n c xs):Sl w b A (limbs (val xs)).length c (limbs (val xs)):=by
 have:=h.take (k:=(limbs (val xs)).length) (by have:=val_limbs_le h.lim;have:=h.len;omega)
 rwa [limbs_prefix h.lim]at this
theorem lim_made{la:List Nat}(h:Lim la)(n k:Nat):Lim (la ++(List.replicate n 0).drop k):=h.append ((Lim.replicate n).drop k)
theorem val_made (la:List Nat)(n k:Nat):val (la ++(List.replicate n 0).drop k)=val la:=by
 rw[val_append,List.drop_replicate,val_zeros];simp
theorem grown_of_new{w w1 w2:World}(h1:Below w.heap.size w w1)(h2:w1.grownBy w2 (some w.heap.size)):Below w.heap.size w w2:=h1.trans (below_grown h2 (Nat.le_refl _) h1.size)
theorem add_end{la lb zs:List Nat}{cy p:Nat}(hp:la.length=p)(hq:lb.length<=p)(ha:Lim la)(hb:Lim lb)(hz:zs.length=p+1)(hv:val zs+cy*4294967296^(p+1)=val la+val lb):val zs=val la+val lb:=by
 have h1:=val_lt ha;have h2:=val_lt hb;have h3:=Nat.pow_le_pow_right (n:=4294967296) (by decide) hq;rw[hp]at h1;rw[Nat.pow_succ]at hv
 rcases Nat.eq_zero_or_pos cy with e | e
 ·subst e;omega
 ·have:=Nat.mul_le_mul_right (4294967296^p*4294967296) e
  omega
theorem Ret1.of{w w1 w':World}{l:List Nat}{g c:Nat}{A:Option Addr}(h:Made w1 w' l g A c)(hb:Below w1.heap.size w1 w')(hw:Below w.heap.size w w1):Ret1 w l (.returned (.slice A l.length c)) w':=
 ⟨g,A,c,rfl,⟨h.1,fun h0=>⟨Nat.le_trans hw.size (h.2 h0).1,(h.2 h0).2⟩⟩,hw.trans (hb.mono hw.size)⟩
theorem Turned.all{w w':World}{g:Nat}{l zs:List Nat}(h:Turned w g 0 l zs w')(hz:zs.length=l.length):Own w' g zs:=by
 have:=h.1
 unfold mid at this
 rw[hz]at this
 simpa using this
theorem add_core (w:World)(b1 b2:Nat)(A1 A2:Option Addr)(n m c1 c2 p q:Nat)(la lb:List Nat)(h1:Sl w b1 A1 p c1 la)(h2:Sl w b2 A2 q c2 lb)
  (HC1:Hid (Calls Tryz.prog 186 #[.slice A1 n c1] w fun e w'=>e= .returned (.slice A1 p c1)/\w=w'))
  (HC2:Hid (Calls Tryz.prog 186 #[.slice A2 m c2] w fun e w'=>e= .returned (.slice A2 q c2)/\w=w'))
  (hp:p<=549755813888) (hq:q<=549755813888):
  Calls Tryz.prog 191 #[.slice A1 n c1,.slice A2 m c2] w (Ret1 w (limbs (val la+val lb))):=by
 have H1:=Lib.hid h1.len;have H2:=Lib.hid h2.len
 by_cases hpq:p < q
 ·have hmk:=fun W=>run_make32' (q+1) ((q:Int)+1) (by omega) (by omega) W
  have hal:Below w.heap.size w (w.alloc (.cells (arr (List.replicate (q+1) 0)) 92)):=(Below.refl _ _).alloc (Nat.le_refl _) _
  go_enter Tryz.func191,Tryz.ntmps191
  go_wp2_with (first
   | (go_at_call 186;((with_reducible refine HC1.out.mono ?_);rintro e w' ⟨rfl,rfl⟩))
   | (go_at_call 186;((with_reducible refine HC2.out.mono ?_);rintro e w' ⟨rfl,rfl⟩))
   | (with_reducible refine wpList_copy32 rfl (.tmp 21) (.tmp 22) 25 rfl 92 Tryz.underlying25 size32 w.heap.size (q+1) (q+1) b2 A2 q c2 (List.replicate (q+1) 0) lb rfl rfl (Own.new w _) (h2.below hal) (by simp) (by omega) ?_;intro w2 ho2 hg2;have HO2:=Lib.hid ho2;clear ho2))
  have HB2:=Lib.hid (grown_of_new hal hg2)
  have hlen:(lb ++(List.replicate (q+1) 0).drop q).length=q+1:=by have:=H2.out;simp;omega
  refine(addTo_any w2 w.heap.size 0 (q+1) (q+1) b1 p c1 A1 _ la HO2.out (lim_made h2.lim _ _) (by omega) (by omega) (h1.below HB2.out) (fun h=>by have:=h1.lt h;omega) (by omega)).mono ?_
  rintro e w3 ⟨rfl,zs,cy,hz,ht,hcy,hv⟩;rw[List.drop_zero,List.take_of_length_le (by omega),val_made]at hv;have HV:=Lib.hid (add_end H2.out (by rw[H1.out];omega) h2.lim h1.lim hz hv);have HO3:=Lib.hid (ht.all (by omega));have HB3:=Lib.hid (HB2.out.trans (below_grown ht.2.1 (Nat.le_refl _) HB2.out.size));have HL:=Lib.hid ht.2.2;have HZ:=Lib.hid hz;clear hv ht hlen hg2 hmk hal hz HC1 HC2
  have hs:=HO3.out.all HL.out (by rw[HZ.out];omega) (c:=q+1) (by rw[HZ.out];omega);rw[HZ.out]at hs
  go_wp2_with (go_at_call 124;((with_reducible refine(trim_any w3 w.heap.size _ (q+1) (q+1) zs hs).mono ?_);rintro e w4 ⟨g4,A4,c4,rfl,hm4,hb4⟩))
  go_ret
  rw[HV.out]at hm4;rw[HV.out,Nat.add_comm (val la)];rw[Nat.add_comm]at hm4|-;exact Ret1.of hm4 hb4 HB3.out
 ·have hmk:=fun W=>run_make32' (p+1) ((p:Int)+1) (by omega) (by omega) W
  have hal:Below w.heap.size w (w.alloc (.cells (arr (List.replicate (p+1) 0)) 92)):=(Below.refl _ _).alloc (Nat.le_refl _) _
  go_enter Tryz.func191,Tryz.ntmps191
  go_wp2_with (first
   | (go_at_call 186;((with_reducible refine HC1.out.mono ?_);rintro e w' ⟨rfl,rfl⟩))
   | (go_at_call 186;((with_reducible refine HC2.out.mono ?_);rintro e w' ⟨rfl,rfl⟩))
   | (with_reducible refine wpList_copy32 rfl (.tmp 21) (.tmp 22) 25 rfl 92 Tryz.underlying25 size32 w.heap.size (p+1) (p+1) b1 A1 p c1 (List.replicate (p+1) 0) la rfl rfl (Own.new w _) (h1.below hal) (by simp) (by omega) ?_;intro w2 ho2 hg2;have HO2:=Lib.hid ho2;clear ho2))
  have HB2:=Lib.hid (grown_of_new hal hg2)
  have hlen:(la ++(List.replicate (p+1) 0).drop p).length=p+1:=by have:=H1.out;simp;omega
  refine(addTo_any w2 w.heap.size 0 (p+1) (p+1) b2 q c2 A2 _ lb HO2.out (lim_made h1.lim _ _) (by omega) (by omega) (h2.below HB2.out) (fun h=>by have:=h2.lt h;omega) (by omega)).mono ?_
  rintro e w3 ⟨rfl,zs,cy,hz,ht,hcy,hv⟩;rw[List.drop_zero,List.take_of_length_le (by omega),val_made]at hv;have HV:=Lib.hid (add_end H1.out (by rw[H2.out];omega) h1.lim h2.lim hz hv);have HO3:=Lib.hid (ht.all (by omega));have HB3:=Lib.hid (HB2.out.trans (below_grown ht.2.1 (Nat.le_refl _) HB2.out.size));have HL:=Lib.hid ht.2.2;have HZ:=Lib.hid hz;clear hv ht hlen hg2 hmk hal hz HC1 HC2
  have hs:=HO3.out.all HL.out (by rw[HZ.out];omega) (c:=p+1) (by rw[HZ.out];omega);rw[HZ.out]at hs
  go_wp2_with (go_at_call 124;((with_reducible refine(trim_any w3 w.heap.size _ (p+1) (p+1) zs hs).mono ?_);rintro e w4 ⟨g4,A4,c4,rfl,hm4,hb4⟩))
  go_ret
  rw[HV.out]at hm4;rw[HV.out];exact Ret1.of hm4 hb4 HB3.out
theorem add_any (w:World)(b1 b2:Nat)(A1 A2:Option Addr)(n m c1 c2:Nat)(xs ys:List Nat)(h1:Sl w b1 A1 n c1 xs)(h2:Sl w b2 A2 m c2 ys)(hn:n<=549755813888)(hm:m<=549755813888):
  Calls Tryz.prog 191 #[.slice A1 n c1,.slice A2 m c2] w (Ret1 w (limbs (val xs+val ys))):=by
 have:=add_core w b1 b2 A1 A2 n m c1 c2 _ _ _ _ (cut_sl h1) (cut_sl h2) (cut_any w b1 A1 n c1 xs h1) (cut_any w b2 A2 m c2 ys h2)
  (by have:=val_limbs_le h1.lim;have:=h1.len;omega) (by have:=val_limbs_le h2.lim;have:=h2.len;omega)
 rwa [val_limbs,val_limbs]at this
theorem sub_lt (w:World)(b1 b2:Nat)(A1 A2:Option Addr)(n m c1 c2:Nat)(xs ys:List Nat)(h1:Sl w b1 A1 n c1 xs)(h2:Sl w b2 A2 m c2 ys)(hlt:val xs < val ys):
  Calls Tryz.prog 192 #[.slice A1 n c1,.slice A2 m c2] w fun e w'=>e= .returned (.tuple #[.slice none 0 0,.bool false])/\∃q,w'=w.drewN q:=by
 have HC:=cmp_any w b1 b2 A1 A2 n m c1 c2 xs ys h1 h2;rw[cmpI_lt (by omega)]at HC;have HC:=Lib.hid HC;clear h1 h2 hlt
 go_enter Tryz.func192,Tryz.ntmps192
 go_wp2_with (go_at_call 123;((with_reducible refine HC.out.mono ?_);rintro e w' ⟨rfl,q,rfl⟩))
 go_ret2
 exact⟨rfl,_,rfl⟩
def Ret1T (w:World)(l:List Nat)(e:Ending)(w':World):Prop:=
 ∃g A c,e= .returned (.tuple #[.slice A l.length c,.bool true])/\Made w w' l g A c/\Below w.heap.size w w'
theorem Made.of{w w1 w':World}{l:List Nat}{g c:Nat}{A:Option Addr}(h:Made w1 w' l g A c)(hw:Below w.heap.size w w1):Made w w' l g A c:=
 ⟨h.1,fun h0=>⟨Nat.le_trans hw.size (h.2 h0).1,(h.2 h0).2⟩⟩
theorem cmpI_ge{a b:Nat}(h:b<=a):∃z:Int,cmpI (a:Int) (b:Int)=z/\0<=z:=by
 rcases Nat.lt_or_ge b a with h1 | h1
 ·exact⟨_,cmpI_gt (by omega),by omega⟩
 ·exact⟨_,cmpI_eq (by omega),by omega⟩
theorem sub_end{a b z q p:Nat}(hv:a+q*p=z+1*b)(hz:z < p)(h:b<=a):z=a-b:=by
 rcases Nat.eq_zero_or_pos q with e | e
 ·subst e;omega
 ·have:=Nat.mul_le_mul_right p e
  omega
theorem sub_ge (w:World)(b1 b2:Nat)(A1 A2:Option Addr)(n m c1 c2:Nat)(xs ys:List Nat)(h1:Sl w b1 A1 n c1 xs)(h2:Sl w b2 A2 m c2 ys)(hge:val ys<=val xs):
  Calls Tryz.prog 192 #[.slice A1 n c1,.slice A2 m c2] w (Ret1T w (limbs (val xs-val ys))):=by
 have HC:=cmp_any w b1 b2 A1 A2 n m c1 c2 xs ys h1 h2;obtain⟨z,hz,hz0⟩:=cmpI_ge hge;rw[hz]at HC;have HC:=Lib.hid HC;clear hz;have HG:=Lib.hid hge;clear hge
 go_enter Tryz.func192,Tryz.ntmps192
 go_wp2_with (first
  | (go_at_call 123;((with_reducible refine HC.out.mono ?_);rintro e w' ⟨rfl,q,rfl⟩))
  | (go_at_call 124;((with_reducible refine(trim_any _ b1 A1 n c1 xs (h1.drewN _)).mono ?_);rintro e w2 ⟨g,A,c,rfl,hm2,hb2⟩)))
 have hsl2:Sl w2 b2 A2 m c2 ys:=(h2.drewN _).below hb2
 have hb2':Below w.heap.size w w2:=(below_drewN (Below.refl _ _) _).trans hb2
 clear HC hb2;refine(cut_any w2 b2 A2 m c2 ys hsl2).mono ?_;rintro e w3 ⟨rfl,rfl⟩;have hcs:=Lib.hid (cut_sl hsl2)
 by_cases h0:val xs=0
 ·have hy0:val ys=0:=by have:=HG.out;omega
  have HE:Hid (limbs (val xs-val ys)=[]):=by show _=_;rw[h0,Nat.zero_sub,limbs_zero]
  rw[h0,limbs_zero]at hm2;rw[h0,hy0];simp only[limbs_zero,List.length_nil]
  have hz:Sl w2 g A 0 c []:=hm2.1
  clear hm2 h0 hy0 hcs HG
  go_wp2_with (first
   | (go_at_call 241;((with_reducible refine(takeFrom_none1 _ _ _ _ _ _).mono ?_);rintro e w4 ⟨rfl,rfl⟩))
   | (go_at_call 124;((with_reducible refine(trim_any w2 g A 0 c [] hz).mono ?_);rintro e w4 ⟨g4,A4,c4,rfl,hm4,hb4⟩)))
  go_ret2
  have e:limbs (val [])=[]:=limbs_zero
  rw[e]at hm4;rw[e,HE.out];exact⟨g4,A4,c4,rfl,hm4.of hb2',hb2'.trans (hb4.mono hb2'.size)⟩
 ·have hpos:0 < (limbs (val xs)).length:=Nat.pos_of_ne_zero fun e=>h0 (limbs_length_zero.1 e)
  obtain⟨hg,rfl,hown⟩:=hm2.2 hpos;have hge:=HG.out;have hbig:=hm2.1.big;have hcap:=hm2.1.cap;have hlen:=limbs_length_mono hge;have HOWN:=Lib.hid hown
  have hgw:w.heap.size<=g:=hg
  clear hown hm2 hg h0
  go_wp2_with fail
  refine(takeFrom_one w2 g 0 _ c b2 _ c2 A2 _ _ HOWN.out (lim_limbs _) (by omega) hbig hcs.out (fun h=>by have:=h2.lt (by have:=val_limbs_le h2.lim;have:=h2.len;omega);omega) hlen).mono ?_
  rintro e w4 ⟨q4,rfl,zs,hz,ht,hv⟩;rw[List.drop_zero,List.take_length,val_limbs,val_limbs]at hv;have HV:=Lib.hid (sub_end hv (by have:=val_lt ht.2.2;rwa [hz]at this) hge);have HO4:=Lib.hid (ht.all hz);have HB4:=Lib.hid (hb2'.trans (below_grown ht.2.1 hgw hb2'.size));have hs:=((ht.all hz).all ht.2.2 (by omega) (c:=c) (by rw[hz];exact hcap));rw[hz]at hs;clear hv ht HOWN hge HG hcs hz hlen hpos
  go_wp2_with (go_at_call 124;((with_reducible refine(trim_any w4 g _ _ _ zs hs).mono ?_);rintro e w5 ⟨g5,A5,c5,rfl,hm5,hb5⟩))
  go_ret2
  rw[HV.out]at hm5;rw[HV.out];exact⟨g5,A5,c5,rfl,hm5.of HB4.out,HB4.out.trans (hb5.mono HB4.out.size)⟩
def Out (w:World)(l:List Nat)(A:Option Addr)(c:Nat):Prop:=∃b,Sl w b A l.length c l/\(0 < l.length->∃cs,w.heap[b]?=some (.cells cs 92 (0,0)))
theorem Out.below{w w':World}{l:List Nat}{A:Option Addr}{c:Nat}(h:Out w l A c)(hb:Below w.heap.size w w'):Out w' l A c:=by
 obtain⟨b,h,k⟩:=h
 refine⟨b,h.below hb,fun hn=>?_⟩
 obtain⟨cs,e⟩:=k hn;exact⟨cs,(hb.block b (h.lt hn)).trans e⟩
theorem Made.out{w w':World}{l:List Nat}{g c:Nat}{A:Option Addr}(h:Made w w' l g A c):Out w' l A c:=⟨g,h.1,fun hn=>⟨_,(h.2 hn).2.2⟩⟩
def Ret2 (w:World)(lq lr:List Nat)(e:Ending)(w':World):Prop:=
 ∃A1 c1 A2 c2,e= .returned (.tuple #[.slice A1 lq.length c1,.slice A2 lr.length c2])/\Out w' lq A1 c1/\Out w' lr A2 c2/\Below w.heap.size w w'
def LimbInv (w:World)(g n d:Nat)(xs:List Nat)(k r:Nat)(wr:World):Prop:=
 ∃hs:List Nat,hs.length=k/\Lim hs/\r < d/\Own wr g (List.replicate (n-k) 0 ++hs)/\w.grownBy wr (some g)/\val hs*d+r=val (xs.drop (n-k))
theorem limb_step{w wr:World}{g n d k r x:Nat}{xs hs:List Nat}(hd:d < 4294967296)(hl:Lim xs)(hn:xs.length=n)(hk:k < n)(hhs:hs.length=k)(hsl:Lim hs)(hr:r < d)(hown:Own wr g (List.replicate (n-k) 0 ++hs))(hgr:w.grownBy wr (some g))
  (hv:val hs*d+r=val (xs.drop (n-k))) (hx:xs.getD (n-1-k) 0=x) (q:Nat):
  LimbInv w g n d xs (k+1) ((r*4294967296+x)%d) ((wr.drewN q).setCell ⟨g,n-1-k,none⟩ (.int .u32 (((r*4294967296+x) /d:Nat):Int))):=by
 have hd0:0 < d:=by omega
 have bx:x < 4294967296:=by rw[<-hx];exact hl.getD _
 have hq:(r*4294967296+x) /d < 4294967296:=by
  rw[Nat.div_lt_iff_lt_mul hd0,Nat.mul_comm 4294967296 d]
  have:=Nat.mul_le_mul_right 4294967296 (show r+1<=d from hr)
  omega
 refine⟨(r*4294967296+x) /d::hs,by simp;omega,Lim.cons hq hsl,Nat.mod_lt _ hd0,?_,grown_set (grown_drewN hgr q) _,?_⟩
 ·have h2:Own ((wr.drewN q).setCell ⟨g,n-1-k,none⟩ (.int .u32 (((r*4294967296+x) /d:Nat):Int))) g ((List.replicate (n-k) 0 ++hs).set (n-1-k) ((r*4294967296+x) /d)):=Own.set (w:=wr.drewN q) hown _ _
  have e:(List.replicate (n-k) 0 ++hs).set (n-1-k) ((r*4294967296+x) /d)=List.replicate (n-(k+1)) 0 ++((r*4294967296+x) /d::hs):=by
   rw[show n-k=n-(k+1)+1 by omega,<-List.replicate_append_replicate,List.append_assoc,List.set_append_right _ _ (by simp;omega),List.length_replicate,show n-1-k-(n-(k+1))=0 by omega]
   simp
  rwa [e]at h2
 ·rw[show n-(k+1)=n-1-k by omega,val_drop (by omega),hx,show n-1-k+1=n-k by omega,<-hv,val_cons]
  have e:=Nat.mod_add_div (r*4294967296+x) d
  have e2:(r*4294967296+x) /d*d=d*((r*4294967296+x) /d):=Nat.mul_comm _ _
  rw[Nat.add_mul,e2,Nat.mul_assoc];generalize d*((r*4294967296+x) /d)=t at *;generalize (r*4294967296+x)%d=u at *;generalize val hs*d=v at *
  omega
theorem divLimb_any (w:World)(b n c:Nat)(A:Option Addr)(xs:List Nat)(d:Nat)(h:Sl w b A n c xs)(hd0:0 < d)(hd:d < 4294967296):
  Calls Tryz.prog 238 #[.slice A n c,.int .u32 (d:Int)] w (Ret2 w (limbs (val xs/d)) (limbs (val xs%d))):=by
 have H1:=Lib.hid h.len;have hbig:=h.big
 have hmk:=fun W=>run_make32' n (n:Int) rfl (by omega) W
 have hal:Below w.heap.size w (w.alloc (.cells (arr (List.replicate n 0)) 92)):=(Below.refl _ _).alloc (Nat.le_refl _) _
 go_enter Tryz.func238,Tryz.ntmps238
 go_wp2;clear hmk
 go_loopw [7,15] (fun u i wr=>∃k r:Nat,k<=n/\i= .int .i64 k/\u= .int .u32 r/\LimbInv (w.alloc (.cells (arr (List.replicate n 0)) 92)) w.heap.size n d xs k r wr) (fun _ i _=>n-(intOf i).toNat)
 case atStart=>exact ⟨0,0,Nat.zero_le _,rfl,rfl,[],rfl,Lim.nil,hd0,by rw[List.append_nil];exact Own.new w _,grown_refl _ _,by rw[List.drop_of_length_le (by rw[H1.out];omega)];simp[val]⟩
 case round=>
  obtain⟨k,r,hk,rfl,rfl,hI⟩:=hrel;have HI:=Lib.hid hI;clear hI
  by_cases hlt:k < n
  ·obtain⟨hs,hhs,hsl,hr,hown,hgr,hv⟩:=HI.out;have hbw:=grown_of_new hal hgr;obtain⟨o1,rfl,hc1⟩:=(h.below hbw).at (by omega);have hcell:=hc1 (n-1-k) (by omega);have b0:=h.lim.getD (n-1-k)
   have hlen:(List.replicate (n-k) 0 ++hs).length=n:=by simp;omega
   have hcg:=hown.cell (i:=n-1-k) (by omega);have hcf:=hown.frozen (n-1-k);obtain⟨q,hq2⟩:∃q,(List.replicate (n-k) 0 ++hs).getD (n-1-k) 0=q:=⟨_,rfl⟩;rw[hq2]at hcg;have HS:=Lib.hid (limb_step hd h.lim H1.out hlt hhs hsl hr hown hgr hv rfl);clear hc1 hv hown hgr hhs hsl hlen hq2 HI
   revert hcell b0 HS
   generalize xs.getD (n-1-k) 0=x
   intro hcell b0 HS
   have i1:((n:Int)-1-k).toNat=n-1-k:=by omega
   go_wp2_with (go_at_call 259;((with_reducible refine(div32_any r x d hr b0 hd _).mono ?_);rintro e w' ⟨rfl,q2,rfl⟩))
   go_roundw
   case rel=>exact ⟨k+1,_,by omega,by go_num,rfl,HS.out _⟩
   case measure=>simp [intOf];omega
  ·have hkn:k=n:=by omega
   subst hkn;obtain⟨hs,hhs,hsl,hr,hown,hgr,hv⟩:=HI.out;rw[Nat.sub_self,List.replicate_zero,List.nil_append]at hown;rw[Nat.sub_self,List.drop_zero]at hv;have hS:=hown.all hsl (by omega) (c:=k) (by omega);rw[hhs]at hS
   have hq:val xs/d=val hs:=by
    rw[<-hv,Nat.mul_comm,Nat.mul_add_div hd0,Nat.div_eq_of_lt hr,Nat.add_zero]
   have hm:val xs%d=r:=by
    rw[<-hv,Nat.mul_comm,Nat.mul_add_mod,Nat.mod_eq_of_lt hr]
   have HM:=Lib.hid hm;have HV:=Lib.hid hq;have HB:=Lib.hid (grown_of_new hal hgr);clear hown hgr hv hhs hsl HI hq hm
   go_wp2_with (go_at_call 124;((with_reducible refine(trim_any wr w.heap.size _ k k hs hS).mono ?_);rintro e w4 ⟨g4,A4,c4,rfl,hm4,hb4⟩))
   have hS2:Sl (w4.alloc (.cells #[.int .u32 (r:Int)] 92)) w4.heap.size (some ⟨w4.heap.size,0,none⟩) 1 1 [r]:=(Own.new w4 [r]).all (Lim.cons (by omega) Lim.nil) (by simp) (Nat.le_refl _)
   have hal4:Below w4.heap.size w4 (w4.alloc (.cells #[.int .u32 (r:Int)] 92)):=(Below.refl _ _).alloc (Nat.le_refl _) _
   have HB4:=Lib.hid (HB.out.trans (hb4.mono HB.out.size))
   have HO4:Hid (Out w4 (limbs (val hs)) A4 c4):=hm4.out
   clear hm4 hb4 HB;refine(trim_any _ w4.heap.size _ 1 1 [r] hS2).mono ?_;rintro e w5 ⟨g5,A5,c5,rfl,hm5,hb5⟩
   have e1:val [r]=r:=by simp[val]
   rw[e1]at hm5|-
   have hb5':Below w4.heap.size w4 w5:=hal4.trans (hb5.mono hal4.size)
   have HO5:Hid (Out w5 (limbs r) A5 c5):=hm5.out
   clear hm5 hb5 hal4 hS2 e1;go_wp2
   go_ret2
   rw[HV.out,HM.out];exact⟨A4,c4,A5,c5,rfl,HO4.out.below hb5',HO5.out,HB4.out.trans (hb5'.mono HB4.out.size)⟩
theorem guess_le{P top r2 R' high next v' D:Nat}(hD:D < 4294967296)(hh:0 < high)(hv:v' < P)(hx:D*(high*4294967296+next)<=top*4294967296+r2):
  D<=(P*(top*4294967296+r2)+R') / (P*(high*4294967296+next)+v')+1:=by
 have hP:0 < P:=by omega
 have hV:0 < P*(high*4294967296+next)+v':=by
  have:0 < P*(high*4294967296+next):=Nat.mul_pos hP (by omega)
  omega
 have h1:D*(P*(high*4294967296+next)+v') < (P*(top*4294967296+r2)+R')+(P*(high*4294967296+next)+v'):=by
  have a1:D*(P*(high*4294967296+next))<=P*(top*4294967296+r2):=by
   rw[Nat.mul_left_comm];exact Nat.mul_le_mul_left P hx
  have a2:D*v'<=4294967295*P:=Nat.mul_le_mul (by omega) (by omega)
  have a3:P*4294967296<=P*(high*4294967296+next):=Nat.mul_le_mul_left P (by omega)
  rw[Nat.mul_add]
  omega
 have h2:(D-1)*(P*(high*4294967296+next)+v')<=P*(top*4294967296+r2)+R':=by
  rw[Nat.sub_mul,Nat.one_mul]
  omega
 have h3:=(Nat.le_div_iff_mul_le hV).2 h2
 omega
theorem guess_ge{P top r2 R' high next v' q:Nat}(hR:R' < P)(hq:q*(P*(high*4294967296+next)+v')<=P*(top*4294967296+r2)+R'):q*(high*4294967296+next)<=top*4294967296+r2:=by
 have a1:P*(q*(high*4294967296+next))<=q*(P*(high*4294967296+next)+v'):=by
  rw[Nat.mul_add q (P*(high*4294967296+next)) v',Nat.mul_left_comm q P]
  exact Nat.le_add_right _ _
 have a2:P*(q*(high*4294967296+next)) < P*(top*4294967296+r2+1):=by
  rw[Nat.mul_add P (top*4294967296+r2)]
  omega
 have:=Nat.lt_of_mul_lt_mul_left a2
 omega
theorem guess_top{top r2 high next q:Nat}(h2:r2 < 4294967296)(h:q*(high*4294967296+next)<=top*4294967296+r2):q*high<=top:=by
 have a:q*high*4294967296<=q*(high*4294967296+next):=by
  rw[Nat.mul_add,Nat.mul_assoc];exact Nat.le_add_right _ _
 have b:q*high*4294967296 < (top+1)*4294967296:=by omega
 have:=Nat.lt_of_mul_lt_mul_right b
 omega
theorem top3{rs:List Nat}{n:Nat}(hn:2<=n)(hl:rs.length=n+1):val rs=4294967296^(n-2)*((rs.getD n 0*4294967296+rs.getD (n-1) 0)*4294967296+rs.getD (n-2) 0)+val (rs.take (n-2)):=by
 rw[val_take_drop rs (k:=n-2) (by omega),val_drop (by omega),show n-2+1=n-1 by omega,val_drop (by omega),show n-1+1=n by omega,val_drop (by omega),List.drop_eq_nil_of_le (by omega),val_nil,Nat.add_comm]
 congr 2
 omega
theorem top2{ds:List Nat}{n:Nat}(hn:2<=n)(hl:ds.length=n):val ds=4294967296^(n-2)*(ds.getD (n-1) 0*4294967296+ds.getD (n-2) 0)+val (ds.take (n-2)):=by
 rw[val_take_drop ds (k:=n-2) (by omega),val_drop (by omega),show n-2+1=n-1 by omega,val_drop (by omega),List.drop_eq_nil_of_le (by omega),val_nil,Nat.add_comm]
 congr 2
 omega
def GuessInv (q top high:Nat)(D lf:Nat):Prop:=q<=D/\D < 4294967296/\lf+D*high=top
theorem guess_start{q top high:Nat}(hh:0 < high)(hq:q < 4294967296)(hqt:q*high<=top):GuessInv q top high (min (top/high) 4294967295) (top-min (top/high) 4294967295*high):=by
 have h1:=(Nat.le_div_iff_mul_le hh).2 hqt
 have h2:min (top/high) 4294967295*high<=top:=by
  have:=Nat.mul_le_mul_right high (Nat.min_le_left (top/high) 4294967295)
  have:=Nat.div_mul_le_self top high
  omega
 exact⟨by omega,by omega,by omega⟩
theorem guess_down{q top r2 high next D lf:Nat}(h:GuessInv q top high D lf)(hqq:q*(high*4294967296+next)<=top*4294967296+r2)(hgt:lf*4294967296+r2 < D*next):GuessInv q top high (D-1) (lf+high)/\0 < D:=by
 obtain⟨h1,h2,h3⟩:=h
 have hD:0 < D:=by
  rcases Nat.eq_zero_or_pos D with e | e
  ·subst e;omega
  ·exact e
 have hne:q≠D:=by
  rintro rfl;rw[Nat.mul_add,<-Nat.mul_assoc]at hqq;rw[<-h3]at hqq
  omega
 refine⟨⟨by omega,by omega,?_⟩,hD⟩
 obtain⟨d,rfl⟩:∃d,D=d+1:=⟨D-1,by omega⟩
 rw[Nat.add_sub_cancel];rw[Nat.add_mul,Nat.one_mul]at h3
 omega
theorem guess_end{q top r2 high next D lf:Nat}(h:GuessInv q top high D lf)(hle:D*next<=lf*4294967296+r2):D*(high*4294967296+next)<=top*4294967296+r2:=by
 obtain⟨_,_,h3⟩:=h;rw[Nat.mul_add,<-Nat.mul_assoc,<-h3]
 omega
theorem guess_end_big{q top r2 high next D lf:Nat}(h:GuessInv q top high D lf)(hn:next < 4294967296)(hb:4294967296<=lf):D*(high*4294967296+next)<=top*4294967296+r2:=by
 apply guess_end h
 have:=Nat.mul_le_mul (show D<=4294967295 by have:=h.2.1;omega) (show next<=4294967295 by omega)
 omega
theorem guess_nums{a b high:Nat}(ha:a < 4294967296)(hb:b < 4294967296)(hh:0 < high):
  ∃top d0 D p lf:Nat,Hid (top=a*4294967296+b)/\Hid (D=min (top/high) 4294967295)/\Hid (lf=top-D*high)/\bits BinOp.or IntKind.u64 ((a:Int)*4294967296) (b:Int)=top/\(top:Int) /high=d0/\IntKind.u64.wrap (d0:Int)=d0/\
   (if (4294967295:Int) < d0 then (4294967295:Int)else d0)=D/\IntKind.u64.wrap ((D:Int)*high)=p/\IntKind.u64.wrap ((top:Int)-p)=lf:=by
 have hD:min ((a*4294967296+b) /high) 4294967295*high<=a*4294967296+b:=by
  have:=Nat.mul_le_mul_right high (Nat.min_le_left ((a*4294967296+b) /high) 4294967295)
  have:=Nat.div_mul_le_self (a*4294967296+b) high
  omega
 refine⟨a*4294967296+b,(a*4294967296+b) /high,min ((a*4294967296+b) /high) 4294967295,min ((a*4294967296+b) /high) 4294967295*high,a*4294967296+b-min ((a*4294967296+b) /high) 4294967295*high,rfl,rfl,rfl,?_,?_,?_,?_,?_,?_⟩
 ·have:=or_join a b ha hb
  rw[this];simp
 ·simp
 ·exact wrap_u64_nat _ (Nat.lt_of_le_of_lt (Nat.div_le_self _ _) (by omega))
 ·split <;> omega
 ·have:=wrap_u64_nat (min ((a*4294967296+b) /high) 4294967295*high) (by omega)
  simpa using this
 ·have:=wrap_u64_nat (a*4294967296+b-min ((a*4294967296+b) /high) 4294967295*high) (by omega)
  rw[Int.natCast_sub hD]at this;exact this.trans (by omega)
def GuessPost (w:World)(q:Nat)(e:Ending)(w':World):Prop:=∃D m:Nat,e= .returned (.int .u32 (D:Int))/\w'=w.drewN m/\q<=D/\D<=q+1/\D < 4294967296
theorem guess_any (w:World)(b1 b2:Nat)(A1 A2:Option Addr)(n c1 c2:Nat)(rs ds:List Nat)(h1:Sl w b1 A1 (n+1) c1 rs)(h2:Sl w b2 A2 n c2 ds)(hn:2<=n)(hh:ds.getD (n-1) 0≠0)(hlt:val rs < val ds*4294967296):
  Calls Tryz.prog 270 #[.slice A1 (n+1) c1,.slice A2 n c2] w (GuessPost w (val rs/val ds)):=by
 have hbig:=h1.big;have T3:=top3 hn h1.len;have T2:=top2 hn h2.len;have B1:=val_lt (h1.lim.take (n-2));have B2:=val_lt (h2.lim.take (n-2));rw[List.length_take,h1.len,Nat.min_eq_left (by omega)]at B1;rw[List.length_take,h2.len,Nat.min_eq_left (by omega)]at B2;have bA:=h1.lim.getD n;have bB:=h1.lim.getD (n-1);have bC:=h1.lim.getD (n-2);have bH:=h2.lim.getD (n-1)
 have bN:=h2.lim.getD (n-2);obtain⟨o1,rfl,k1⟩:=h1.at (by omega);obtain⟨o2,rfl,k2⟩:=h2.at (by omega);have g1:=k1 n (by omega);have g2:=k1 (n-1) (by omega);have g3:=k1 (n-2) (by omega);have g4:=k2 (n-1) (by omega);have g5:=k2 (n-2) (by omega)
 have hv0:0 < val ds:=by
  rw[T2]
  have:0 < 4294967296^(n-2)*(ds.getD (n-1) 0*4294967296+ds.getD (n-2) 0):=Nat.mul_pos (Nat.pow_pos (by decide)) (by omega)
  omega
 have hq:val rs/val ds < 4294967296:=by
  rw[Nat.div_lt_iff_lt_mul hv0,Nat.mul_comm];exact hlt
 have hqm:val rs/val ds*val ds<=val rs:=Nat.div_mul_le_self _ _
 clear k1 k2 h1 h2 hlt hv0
 revert T3 T2 bA bB bC bH bN g1 g2 g3 g4 g5 hh hqm hq B1 B2
 generalize rs.getD n 0=a;generalize rs.getD (n-1) 0=b;generalize rs.getD (n-2) 0=r2;generalize ds.getD (n-1) 0=high
 generalize ds.getD (n-2) 0=next
 generalize val (rs.take (n-2))=R';generalize val (ds.take (n-2))=v';generalize 4294967296^(n-2)=P;generalize val rs=R;generalize val ds=V
 intro hh T3 T2 B1 B2 bA bB bC bH bN g1 g2 g3 g4 g5 hq hqm
 subst T3;subst T2;have hqq:=guess_ge B1 hqm
 have HLE:=Lib.hid (fun D hD hx=>guess_le (P:=P) (top:=a*4294967296+b) (r2:=r2) (next:=next) (R':=R') (D:=D) hD (Nat.pos_of_ne_zero hh) B2 hx)
 clear hqm B1 B2
 revert hq hqq HLE
 generalize (P*((a*4294967296+b)*4294967296+r2)+R') / (P*(high*4294967296+next)+v')=q
 intro hq hqq HLE
 obtain⟨top,d0,D,p,lf,E1,E2,E3,e1,e2,e2',e3,e4,e5⟩:=guess_nums bA bB (Nat.pos_of_ne_zero hh);rw[<-E1.out]at hqq HLE
 have HI:Hid (GuessInv q top high D lf):=by
  rw[E3.out,E2.out];exact guess_start (Nat.pos_of_ne_zero hh) hq (guess_top bC hqq)
 have HQQ:=Lib.hid hqq;clear hqq E1 E2 E3 hq
 have hhp:((high:Int)==0)=false:=by simpa using hh
 have i1:((n:Int)-1).toNat=n-1:=by omega
 have i2:((n:Int)-2).toNat=n-2:=by omega
 go_enter Tryz.func270,Tryz.ntmps270
 go_wp2
 go_quiet (fail)
 go_wp2
 go_quiet (fail)
 go_wp2;clear e1 e2 e2' e3 e4 e5 g1 g2 g4 g5
 go_loop [9,10] (fun u v=>∃D lf:Nat,u= .int .u64 D/\v= .int .u64 lf/\GuessInv q top high D lf) (fun u _=>(intOf u).toNat)
 case atStart=>exact ⟨D,lf,rfl,rfl,HI.out⟩
 case round=>
  clear HI;obtain⟨D,lf,rfl,rfl,hI⟩:=hrel;have bD:=hI.2.1;have HI:=Lib.hid hI;clear hI
  by_cases hb:lf < 4294967296
  ·obtain⟨p,ep⟩:∃p:Nat,IntKind.u64.wrap ((D:Int)*next)=p/\Hid (p=D*next):=by
    have:=prod_lt bD bN
    exact⟨D*next,by have:=wrap_u64_nat (D*next) (by omega);simpa using this,rfl⟩
   obtain⟨ep,HP⟩:=ep;obtain⟨s,es,HS⟩:∃s:Nat,bits BinOp.or IntKind.u64 ((lf:Int)*4294967296) (r2:Int)=s/\Hid (s=lf*4294967296+r2):=⟨lf*4294967296+r2,by rw[or_join lf r2 hb bC];simp,rfl⟩
   have hb':((lf:Int) /4294967296==0)=true:=by simp;omega
   by_cases hgt:s < p
   ·have hd:=guess_down HI.out HQQ.out (by have:=HP.out;have:=HS.out;omega);have hD0:=hd.2;have HD:=Lib.hid hd.1;clear hd HI;go_wp2
    go_round
    case rel=>exact ⟨D-1,lf+high,by go_num,by go_num,HD.out⟩
    case measure=>simp [intOf];omega
   ·have HE:=Lib.hid (HLE.out D bD (guess_end HI.out (by have:=HP.out;have:=HS.out;omega)));have HG:=Lib.hid HI.out.1;clear HI;go_wp2
    go_ret
    exact⟨D,_,ret_int (by omega),by first | rfl | rw[World.drewN_drewN],HG.out,HE.out,bD⟩
  ·have hb':((lf:Int) /4294967296==0)=false:=by simp;omega
   have HE:=Lib.hid (HLE.out D bD (guess_end_big HI.out bN (by omega)));have HG:=Lib.hid HI.out.1;clear HI;go_wp2
   go_ret
   exact⟨D,_,ret_int (by omega),by first | rfl | rw[World.drewN_drewN],HG.out,HE.out,bD⟩
theorem Turned.trans{w w1 w2:World}{g o:Nat}{l zs ys:List Nat}(h:Turned w g o l zs w1)(k:Turned w1 g o (mid l o zs) ys w2)(hl:o+zs.length<=l.length)(hz:ys.length=zs.length):Turned w g o l ys w2:=
 ⟨by have:=k.1;rwa [mid_mid hl hz]at this,grown_trans h.2.1 k.2.1,k.2.2⟩
def DigitPost (w:World)(g o n:Nat)(l:List Nat)(R V:Nat)(e:Ending)(w':World):Prop:=
 e= .returned (.int .u32 ((R/V:Nat):Int))/\∃zs,zs.length=n/\Turned w g o l zs w'/\val zs=R%V
theorem div_split (R V:Nat):R/V*V+R%V=R:=by rw[Nat.mul_comm];exact Nat.div_add_mod R V
theorem digit_exact{R V Q r z q P:Nat}(h1:Q*V+r=R)(h2:r < V)(hv:R+q*P=z+Q*V)(hz:z < P):q=0/\z=r:=by
 rcases Nat.eq_zero_or_pos q with e | e
 ·subst e;exact⟨rfl,by omega⟩
 ·have:=Nat.mul_le_mul_right P e
  omega
theorem digit_over{R V Q r z q P:Nat}(h1:Q*V+r=R)(h2:r < V)(hv:R+q*P=z+(Q+1)*V):0 < q:=by
 rw[Nat.add_mul,Nat.one_mul]at hv
 rcases Nat.eq_zero_or_pos q with e | e
 ·subst e;omega
 ·exact e
theorem digit_back{R V Q r z q P z2 cy:Nat}(h1:Q*V+r=R)(h2:r < V)(hv:R+q*P=z+(Q+1)*V)(hz:z < P)(hz2:z2 < P)(hVP:V < P)(hcy:cy<=1)(hv2:z2+cy*P=z+V):z2=r:=by
 have h0:=digit_over h1 h2 hv;rw[Nat.add_mul,Nat.one_mul]at hv
 have hq:q=1:=by
  rcases Nat.lt_or_ge q 2 with e | e
  ·omega
  ·have:=Nat.mul_le_mul_right P e
   omega
 subst hq
 rcases (by omega:cy=0\/cy=1)with e | e
 ·subst e;omega
 ·subst e;omega
theorem takeDigit_any (w:World)(g o n c1 b2 c2:Nat)(A2:Option Addr)(l ds:List Nat)(hg:Own w g l)(hl:Lim l)(hn1:o+(n+1)<=l.length)(hbl:l.length<=1099511627776)(hc1:n+1<=c1)(h2:Sl w b2 A2 n c2 ds)(hne:b2≠g)(hn:2<=n)(hh:ds.getD (n-1) 0≠0)
  (hlt:val ((l.drop o).take (n+1)) < val ds*4294967296):
  Calls Tryz.prog 261 #[.slice (some ⟨g,o,none⟩) (n+1) c1,.slice A2 n c2] w (DigitPost w g o (n+1) l (val ((l.drop o).take (n+1))) (val ds)):=by
 have h1:=hg.sl hl hn1 hc1 hbl;have HG:=Lib.hid (guess_any w g b2 _ A2 n c1 c2 _ ds h1 h2 hn hh hlt)
 have hV:0 < val ds:=by omega
 have hVP:val ds < 4294967296^(n+1):=by
  have:=val_lt h2.lim
  rw[h2.len]at this;exact Nat.lt_trans this (Nat.pow_lt_pow_right (by decide) (by omega))
 have HK:Hid (∀(m D:Nat),D < 4294967296->Calls Tryz.prog 241 #[.slice (some ⟨g,o,none⟩) (n+1) c1,.slice A2 n c2,.int .u32 (D:Int)] (w.drewN m) (TakePost (w.drewN m) g o (n+1) l ds D)):=
  fun m D hD=>takeFrom_any (w.drewN m) g o (n+1) c1 b2 n c2 D A2 l ds hg hl hn1 hbl h2 (fun _=>hne) (by omega) hD
 have HA:Hid (∀(w1:World) (zs:List Nat),zs.length=n+1->Turned w g o l zs w1->Calls Tryz.prog 240 #[.slice (some ⟨g,o,none⟩) (n+1) c1,.slice A2 n c2] w1 (AddPost w1 g o (n+1) (mid l o zs) ds)):=
  fun w1 zs hz ht=>addTo_any w1 g o (n+1) c1 b2 n c2 A2 (mid l o zs) ds ht.1 (mid_lim hl ht.2.2) (by rw[mid_length (by omega)];omega) (by rw[mid_length (by omega)];omega) (h2.grown ht.2.1 (fun _=>by simpa using hne)) (fun _=>hne) (by omega)
 have HT:Hid (∀(m:Nat) (zs:List Nat) (w1:World),Turned (w.drewN m) g o l zs w1->Turned w g o l zs w1):=fun m zs w1 ht=>⟨ht.1,⟨ht.2.1.os,ht.2.1.tape,ht.2.1.output,ht.2.1.size,ht.2.1.block⟩,ht.2.2⟩
 clear h1 h2 hlt hc1 hg
 revert HG
 generalize hR:val ((l.drop o).take (n+1))=R;have HR:=Lib.hid hR;clear hR
 intro HG
 have hr:=Nat.mod_lt R hV;have hs:=div_split R (val ds)
 have HP:Hid (∀e w',(e= .returned (.int .u32 ((R/val ds:Nat):Int))/\∃zs,zs.length=n+1/\Turned w g o l zs w'/\val zs=R%val ds)->DigitPost w g o (n+1) l R (val ds) e w'):=fun e w' h=>h
 revert HG hr hs HP
 generalize R/val ds=Q;generalize R%val ds=r
 intro HG hr hs HP
 have HS:=Lib.hid hs;clear hs
 go_enter Tryz.func261,Tryz.ntmps261
 go_wp2_with (go_at_call 270;((with_reducible refine HG.out.mono ?_);rintro e w1 ⟨D,m,rfl,rfl,hq1,hq2,hDb⟩))
 clear HG;refine(HK.out m D hDb).mono ?_;rintro e w2 ⟨q,rfl,zs,hz,ht,hv⟩;rw[HR.out]at hv;have ht2:=HT.out m zs w2 ht;have hzl:=val_lt ht.2.2;rw[hz]at hzl;clear ht HT HK
 by_cases hD:D=Q
 ·subst hD;obtain⟨rfl,hz2⟩:=digit_exact HS.out hr hv hzl;have HZ2:=Lib.hid hz2;clear hz2 hv hzl;go_wp2
  go_ret
  exact HP.out _ _ ⟨rfl,zs,hz,ht2,HZ2.out⟩
 ·obtain rfl:D=Q+1:=by omega
  have hq0:=digit_over HS.out hr hv
  have HB:=Lib.hid (fun z2 cy h3 h4 h5=>digit_back (z2:=z2) (cy:=cy) HS.out hr hv hzl h3 hVP h4 h5)
  clear hD hv hq1 hq2 hzl
  go_wp2_with fail
  refine(HA.out w2 zs hz ht2).mono ?_;rintro e w3 ⟨rfl,ys,cy,hy,ht3,hcy,hv3⟩;have hseg:=mid_seg (l:=l) (zs:=zs) (o:=o) (by omega);rw[hz]at hseg;rw[hseg]at hv3;have hyl:=val_lt ht3.2.2;rw[hy]at hyl;have HZ2:=Lib.hid (HB.out _ _ hyl hcy hv3);have HT3:=Lib.hid (ht2.trans ht3 (by omega) (by omega));clear hv3 hyl ht3 hseg HB hz;go_wp2
  go_ret
  exact HP.out _ _ ⟨by go_num,ys,hy,HT3.out,HZ2.out⟩
def RaiseInv (w:World)(g n sk lo:Nat)(xs:List Nat)(i:Nat)(wr:World):Prop:=
 ∃hs:List Nat,∃t:Nat,hs.length=i+sk/\Lim hs/\t < 2^lo/\Own wr g (hs ++[t]++List.replicate (n-i) 0)/\w.grownBy wr (some g)/\val (hs ++[t])=val (xs.take i)*2^(32*sk+lo)
theorem pow_split (sk lo:Nat):2^(32*sk+lo)=4294967296^sk*2^lo:=by rw[Nat.pow_add,Nat.pow_mul]
theorem lo_dvd{lo x:Nat}(hlo:lo < 32):x*2^lo%4294967296%2^lo=0:=by
 have e:4294967296=2^lo*2^(32-lo):=by rw[<-Nat.pow_add,show lo+(32-lo)=32 by omega]
 rw[e,Nat.mod_mul_right_mod,Nat.mul_mod_left]
theorem lo_sum{lo x t:Nat}(hlo:lo < 32)(ht:t < 2^lo):t+x*2^lo%4294967296 < 4294967296:=by
 have e:4294967296=2^lo*2^(32-lo):=by rw[<-Nat.pow_add,show lo+(32-lo)=32 by omega]
 have h1:x*2^lo%4294967296 < 4294967296:=Nat.mod_lt _ (by decide)
 have h2:=lo_dvd (x:=x) hlo;obtain⟨q,hq⟩:=Nat.dvd_of_mod_eq_zero h2;rw[hq]at h1|-;rw[e]at h1
 have h3:q < 2^(32-lo):=Nat.lt_of_mul_lt_mul_left h1
 have h4:=Nat.mul_le_mul_left (2^lo) (show q+1<=2^(32-lo)from h3)
 rw[<-e,Nat.mul_add,Nat.mul_one]at h4
 omega
theorem raise_nums{x t lo:Nat}(hlo:lo < 32)(ht:t < 2^lo)(hx:x < 4294967296):
  ∃p pl ph v:Nat,Hid (p=x*2^lo)/\Hid (pl=p%4294967296)/\Hid (ph=p/4294967296)/\Hid (v=t+pl)/\Hid (v < 4294967296)/\Hid (ph < 2^lo)/\IntKind.u64.wrap ((x:Int)*2^lo)=p/\(p:Int)%4294967296=pl/\
   (p:Int) /4294967296%4294967296=ph/\bits BinOp.or IntKind.u32 (t:Int) (pl:Int)=v:=by
 have hp:2^lo<=2147483648:=Nat.pow_le_pow_right (n:=2) (by decide) (show lo<=31 by omega)
 have hb:x*2^lo<=4294967295*2147483648:=Nat.mul_le_mul (by omega) hp
 have hl:=lo_sum (x:=x) hlo ht
 have hph:x*2^lo/4294967296 < 2^lo:=by
  rw[Nat.div_lt_iff_lt_mul (by decide),Nat.mul_comm];exact Nat.mul_lt_mul_of_pos_left hx (Nat.two_pow_pos lo)
 refine⟨x*2^lo,x*2^lo%4294967296,x*2^lo/4294967296,t+x*2^lo%4294967296,rfl,rfl,rfl,rfl,hl,hph,?_,by omega,by omega,?_⟩
 ·have:=wrap_u64_nat (x*2^lo) (by omega)
  simpa using this
 ·rw[u32_or_nat _ _ (by omega) (by omega),Nat.or_comm,nat_join lo _ _ (lo_dvd hlo) ht,Nat.add_comm]
theorem raise_step{w wr:World}{g n sk lo k x:Nat}{xs hs:List Nat}{t p pl ph v:Nat}(hk:k < n)(hl:xs.length=n)(hhs:hs.length=k+sk)(hsl:Lim hs)(hown:Own wr g (hs ++[t]++List.replicate (n-k) 0))(hgr:w.grownBy wr (some g))
  (hv:val (hs ++[t])=val (xs.take k)*2^(32*sk+lo)) (hx:xs.getD k 0=x) (hp:p=x*2^lo) (hpl:pl=p%4294967296) (hph:ph=p/4294967296) (hvv:v=t+pl) (hvb:v < 4294967296) (hpb:ph < 2^lo):
  RaiseInv w g n sk lo xs (k+1) ((wr.setCell ⟨g,k+sk,none⟩ (.int .u32 (v:Int))).setCell ⟨g,k+sk+1,none⟩ (.int .u32 (ph:Int))):=by
 refine⟨hs ++[v],ph,by simp;omega,hsl.append (Lim.cons hvb Lim.nil),hpb,?_,grown_set (grown_set hgr _) _,?_⟩
 ·have h1:=(hown.set (k+sk) v).set (k+sk+1) ph
  have e:((hs ++[t]++List.replicate (n-k) 0).set (k+sk) v).set (k+sk+1) ph=hs ++[v]++[ph]++List.replicate (n-(k+1)) 0:=by
   rw[List.append_assoc,List.set_append_right _ _ (by omega),List.set_append_right _ _ (by omega),hhs,Nat.sub_self,show k+sk+1-(k+sk)=1 by omega,show n-k=n-(k+1)+1 by omega,List.replicate_succ]
   simp
  rw[e]at h1;exact h1
 ·have e:=Nat.mod_add_div p 4294967296;rw[<-hpl,<-hph]at e;rw[val_take_succ (by omega),hx,pow_split]at *;rw[val_snoc]at hv|-;rw[val_snoc,List.length_append,List.length_singleton,hhs,Nat.pow_succ];rw[hhs]at hv
  have e1:4294967296^(k+sk)*(pl+4294967296*ph)=4294967296^(k+sk)*(x*2^lo):=by rw[e,hp]
  rw[Nat.pow_add]at *;rw[hvv]
  grind
def RaisedPost (w:World)(n sk lo:Nat)(xs:List Nat)(e:Ending)(w':World):Prop:=
 ∃g l,e= .returned (.slice (some ⟨g,0,none⟩) (n+sk+1) (n+sk+1))/\w.heap.size<=g/\Own w' g l/\l.length=n+sk+1/\Lim l/\val l=val xs*2^(32*sk+lo)/\Below w.heap.size w w'
theorem raised_any (w:World)(b n c:Nat)(A:Option Addr)(xs:List Nat)(z:Int)(sk lo:Nat)(h:Sl w b A n c xs)(hz0:0<=z)(hq:z/32=(sk:Int))(hr:z%32=(lo:Int))(hlo:lo < 32)(hbig:n+sk+1<=1099511627776):
  Calls Tryz.prog 185 #[.slice A n c,.int .i64 z] w (RaisedPost w n sk lo xs):=by
 have H1:=Lib.hid h.len
 have hmk:=fun W=>run_make32' (n+sk+1) ((n:Int)+sk+1) (by omega) (by omega) W
 have hal:Below w.heap.size w (w.alloc (.cells (arr (List.replicate (n+sk+1) 0)) 92)):=(Below.refl _ _).alloc (Nat.le_refl _) _
 go_enter Tryz.func185,Tryz.ntmps185
 go_wp2;clear hmk
 go_loopw [22] (fun i wr=>∃k:Nat,k<=n/\i= .int .i64 k/\RaiseInv (w.alloc (.cells (arr (List.replicate (n+sk+1) 0)) 92)) w.heap.size n sk lo xs k wr) (fun i _=>n-(intOf i).toNat)
 case atStart=>
  refine⟨0,Nat.zero_le _,rfl,List.replicate sk 0,0,by simp,Lim.replicate _,Nat.two_pow_pos lo,?_,grown_refl _ _,by rw[val_snoc,val_zeros];simp[val]⟩
  have:=Own.new w (List.replicate (n+sk+1) 0)
  rwa [show n+sk+1=sk+1+(n-0) by omega,<-List.replicate_append_replicate,<-List.replicate_append_replicate]at this|-
 case round=>
  obtain⟨k,hk,rfl,hI⟩:=hrel;have HI:=Lib.hid hI;clear hI
  by_cases hlt:k < n
  ·obtain⟨hs,t,hhs,hsl,ht,hown,hgr,hv⟩:=HI.out;have hbw:=grown_of_new hal hgr;obtain⟨o1,rfl,hc1⟩:=(h.below hbw).at (by omega);have hcell:=hc1 k hlt;have bx:=h.lim.getD k
   have hlen:(hs ++[t]++List.replicate (n-k) 0).length=n+sk+1:=by simp;omega
   have hcg:=hown.cell (i:=k+sk) (by omega)
   have e0:(hs ++[t]++List.replicate (n-k) 0).getD (k+sk) 0=t:=by
    rw[List.append_assoc,List.getD_eq_getElem?_getD,List.getElem?_append_right (by omega),hhs,Nat.sub_self];rfl
   rw[e0]at hcg;have hcf:=hown.frozen (k+sk);have hcg2:=hown.cell (i:=k+sk+1) (by omega);have hcf2:=hown.frozen (k+sk+1);obtain⟨q,hq2⟩:∃q,(hs ++[t]++List.replicate (n-k) 0).getD (k+sk+1) 0=q:=⟨_,rfl⟩;rw[hq2]at hcg2;obtain⟨p,pl,ph,v,E1,E2,E3,E4,E5,E6,e1,e2,e3,e4⟩:=raise_nums hlo ht bx;have HS:=Lib.hid (raise_step hlt H1.out hhs hsl hown hgr hv rfl E1.out E2.out E3.out E4.out E5.out E6.out)
   clear hc1 hv hown hgr hhs hsl hlen e0 E1 E2 E3 E4 E5 E6 ht hq2 HI
   revert hcell bx e1
   generalize xs.getD k 0=x
   intro hcell bx e1
   go_wp2
   go_roundw
   case rel=>exact ⟨k+1,by omega,by go_num,HS.out⟩
   case measure=>simp [intOf];omega
  ·have hkn:k=n:=by omega
   subst hkn;obtain⟨hs,t,hhs,hsl,ht,hown,hgr,hv⟩:=HI.out;rw[Nat.sub_self,List.replicate_zero,List.append_nil]at hown;rw[val_take_all (xs:=xs) (by rw[H1.out];omega)]at hv
   have ht':t < 4294967296:=Nat.lt_of_lt_of_le ht (Nat.pow_le_pow_right (n:=2) (by decide) (show lo<=32 by omega))
   have HP:Hid (RaisedPost w k sk lo xs (.returned (.slice (some ⟨w.heap.size,0,none⟩) (k+sk+1) (k+sk+1))) wr):=⟨w.heap.size,hs ++[t],rfl,Nat.le_refl _,hown,by simp;omega,hsl.append (Lim.cons ht' Lim.nil),hv,grown_of_new hal hgr⟩
   clear hown hgr hv hhs hsl ht ht' HI;go_wp2
   go_ret
   exact HP.out
theorem shr_limb{lo d0 d1 R:Nat}(hlo:lo < 32):(d0+4294967296*(d1+4294967296*R)) /2^lo%4294967296=(d0+4294967296*d1) /2^lo%4294967296:=by
 have e:4294967296=2^lo*2^(32-lo):=by rw[<-Nat.pow_add,show lo+(32-lo)=32 by omega]
 have e1:d0+4294967296*(d1+4294967296*R)=d0+4294967296*d1+2^lo*(2^(32-lo)*R*4294967296):=by
  have:2^lo*(2^(32-lo)*R*4294967296)=4294967296*(4294967296*R):=by
   rw[<-Nat.mul_assoc,<-Nat.mul_assoc,<-e,Nat.mul_comm (4294967296*R)]
  rw[this];omega
 rw[e1,Nat.add_mul_div_left _ _ (Nat.two_pow_pos lo),Nat.add_mul_mod_self_right]
def ShrInv (w:World)(g n sk lo:Nat)(xs:List Nat)(i:Nat)(wr:World):Prop:=
 ∃hs:List Nat,hs.length=i/\Lim hs/\Own wr g (hs ++List.replicate (n-i) 0)/\w.grownBy wr (some g)/\val hs=val (xs.drop sk) /2^lo%4294967296^i
theorem val_drop_div{xs:List Nat}(hl:Lim xs)(k:Nat):val (xs.drop k)=val xs/4294967296^k:=by
 rcases Nat.lt_or_ge xs.length k with h | h
 ·rw[List.drop_eq_nil_of_le (by omega),Nat.div_eq_of_lt]
  ·rfl
  ·exact Nat.lt_of_lt_of_le (val_lt hl) (Nat.pow_le_pow_right (by decide) (by omega))
 ·rw[val_take_drop xs h,Nat.add_mul_div_left _ _ (Nat.pow_pos (by decide)),Nat.div_eq_of_lt,Nat.zero_add]
  have:=val_lt (hl.take k)
  rwa [List.length_take,Nat.min_eq_left h]at this
theorem shr_step{w wr:World}{g n sk lo k d0 d1 v:Nat}{xs hs:List Nat}(hlo:lo < 32)(hl:Lim xs)(hn:xs.length=sk+n)(hk:k < n)(hhs:hs.length=k)(hsl:Lim hs)(hown:Own wr g (hs ++List.replicate (n-k) 0))(hgr:w.grownBy wr (some g))
  (hv:val hs=val (xs.drop sk) /2^lo%4294967296^k) (h0:xs.getD (k+sk) 0=d0) (h1:xs.getD (k+sk+1) 0=d1) (hv2:v=(d0+4294967296*d1) /2^lo%4294967296):
  ShrInv w g n sk lo xs (k+1) (wr.setCell ⟨g,k,none⟩ (.int .u32 (v:Int))):=by
 have bv:v < 4294967296:=by rw[hv2];exact Nat.mod_lt _ (by decide)
 refine⟨hs ++[v],by simp;omega,hsl.append (Lim.cons bv Lim.nil),?_,grown_set hgr _,?_⟩
 ·have h2:=hown.set k v
  have e:(hs ++List.replicate (n-k) 0).set k v=hs ++[v]++List.replicate (n-(k+1)) 0:=by
   rw[List.set_append_right _ _ (by omega),hhs,Nat.sub_self,show n-k=n-(k+1)+1 by omega,List.replicate_succ]
   simp
  rwa [e]at h2
 ·rw[val_snoc,hv,hhs,Nat.mod_pow_succ]
  congr 2
  rw[Nat.div_div_eq_div_mul,Nat.mul_comm (2^lo),<-Nat.div_div_eq_div_mul,<-val_drop_div (hl.drop sk),List.drop_drop,val_drop (by omega),show sk+k=k+sk by omega,h0,hv2]
  rcases Nat.lt_or_ge (k+sk+1) xs.length with h | h
  ·rw[val_drop h,h1,shr_limb hlo]
  ·rw[List.drop_eq_nil_of_le h,show d1=0 by rw[<-h1];exact getD_beyond h]
   rfl
theorem shr_nums{d0 d1 lo:Nat}(h0:d0 < 4294967296)(h1:d1 < 4294967296):
  ∃p v u:Nat,Hid (v=(d0+4294967296*d1) /2^lo%4294967296)/\bits BinOp.or IntKind.u64 (d0:Int) ((d1:Int)*4294967296)=p/\(p:Int) /2^lo=u/\(u:Int)%4294967296=v:=by
 refine⟨d0+4294967296*d1,(d0+4294967296*d1) /2^lo%4294967296,(d0+4294967296*d1) /2^lo,rfl,?_,?_,?_⟩
 ·have:=u64_or_nat d0 (d1*4294967296) (by omega) (by omega)
  rw[Nat.or_comm,nat_join 32 _ _ (by omega) h0]at this
  have e:d1*4294967296+d0=d0+4294967296*d1:=by omega
  rw[e]at this
  simpa using this
 ·simp
 ·simp
theorem shr_core (w:World)(b n c:Nat)(A:Option Addr)(xs:List Nat)(z:Int)(sk lo:Nat)(h:Sl w b A (sk+n) c xs)(hz0:1<=z)(hq:z/32=(sk:Int))(hr:z%32=(lo:Int))(hlo:lo < 32)(hn:0 < n):
  Calls Tryz.prog 249 #[.slice A (sk+n) c,.int .i64 z] w (Ret1 w (limbs (val (xs.drop sk) /2^lo))):=by
 have H1:=Lib.hid h.len;have hbig:=h.big
 have hmk:=fun W=>run_make32' n ((sk:Int)+n-sk) (by omega) (by omega) W
 have hal:Below w.heap.size w (w.alloc (.cells (arr (List.replicate n 0)) 92)):=(Below.refl _ _).alloc (Nat.le_refl _) _
 go_enter Tryz.func249,Tryz.ntmps249
 go_wp2;clear hmk
 go_loopw [29] (fun i wr=>∃k:Nat,k<=n/\i= .int .i64 k/\ShrInv (w.alloc (.cells (arr (List.replicate n 0)) 92)) w.heap.size n sk lo xs k wr) (fun i _=>n-(intOf i).toNat)
 case atStart=>exact ⟨0,Nat.zero_le _,rfl,[],rfl,Lim.nil,Own.new w _,grown_refl _ _,by rw[Nat.pow_zero,Nat.mod_one];rfl⟩
 case round=>
  obtain⟨k,hk,rfl,hI⟩:=hrel;have HI:=Lib.hid hI;clear hI
  by_cases hlt:k < n
  ·obtain⟨hs,hhs,hsl,hown,hgr,hv⟩:=HI.out;have hbw:=grown_of_new hal hgr;obtain⟨o1,rfl,hc1⟩:=(h.below hbw).at (by omega);have hcell:=hc1 (k+sk) (by omega);have b0:=h.lim.getD (k+sk);have b1:=h.lim.getD (k+sk+1)
   have hlen:(hs ++List.replicate (n-k) 0).length=n:=by simp;omega
   have hcg:=hown.cell (i:=k) (by omega);have hcf:=hown.frozen k;obtain⟨q,hq2⟩:∃q,(hs ++List.replicate (n-k) 0).getD k 0=q:=⟨_,rfl⟩;rw[hq2]at hcg
   have HS:=Lib.hid (fun v d1 hd=>shr_step (v:=v) (d1:=d1) hlo h.lim H1.out hlt hhs hsl hown hgr hv rfl hd)
   by_cases hmore:k+sk+1 < sk+n
   ·have hcell2:=hc1 (k+sk+1) hmore
    have HS':=Lib.hid (fun v=>HS.out v _ rfl)
    clear HS hc1 hv hown hgr hhs hsl hlen hq2 HI
    revert hcell hcell2 b0 b1 HS'
    generalize xs.getD (k+sk) 0=d0;generalize xs.getD (k+sk+1) 0=d1
    intro hcell b0 b1 hcell2 HS'
    obtain⟨p,v,u,HV,e1,e2,e3⟩:=shr_nums (lo:=lo) b0 b1;have HS2:=Lib.hid (HS'.out v HV.out);clear HS' HV;go_wp2
    go_roundw
    case rel=>exact ⟨k+1,by omega,by go_num,HS2.out⟩
    case measure=>simp [intOf];omega
   ·have HS':=Lib.hid (fun v=>HS.out v 0 (getD_beyond (by rw[H1.out];omega)))
    clear HS hc1 hv hown hgr hhs hsl hlen hq2 HI b1
    revert hcell b0 HS'
    generalize xs.getD (k+sk) 0=d0
    intro hcell b0 HS'
    obtain⟨u,e2⟩:∃u:Nat,(d0:Int) /2^lo=u:=⟨d0/2^lo,by simp⟩
    obtain⟨v,e3⟩:∃v:Nat,(u:Int)%4294967296=v:=⟨u%4294967296,by simp⟩
    have HS2:=Lib.hid (HS'.out v (by
     have a:d0/2^lo=u:=by
      have:((d0/2^lo:Nat):Int)=u:=by simpa using e2
      omega
     rw[Nat.mul_zero,Nat.add_zero,a];omega))
    clear HS';go_wp2
    go_roundw
    case rel=>exact ⟨k+1,by omega,by go_num,HS2.out⟩
    case measure=>simp [intOf];omega
  ·have hkn:k=n:=by omega
   subst hkn;obtain⟨hs,hhs,hsl,hown,hgr,hv⟩:=HI.out;rw[Nat.sub_self,List.replicate_zero,List.append_nil]at hown;have hS:=hown.all hsl (by omega) (c:=k) (by omega);rw[hhs]at hS
   have hlt2:val (xs.drop sk) /2^lo < 4294967296^k:=by
    have:=val_lt (h.lim.drop sk)
    rw[List.length_drop,H1.out,show sk+k-sk=k by omega]at this
    exact Nat.lt_of_le_of_lt (Nat.div_le_self _ _) this
   rw[Nat.mod_eq_of_lt hlt2]at hv;have HV:=Lib.hid hv;have HB:=Lib.hid (grown_of_new hal hgr);clear hown hgr hv hhs hsl hlt2 HI
   go_wp2_with (go_at_call 124;((with_reducible refine(trim_any wr w.heap.size _ k k hs hS).mono ?_);rintro e w4 ⟨g4,A4,c4,rfl,hm4,hb4⟩))
   go_ret
   rw[HV.out]at hm4;rw[HV.out];exact Ret1.of hm4 hb4 HB.out
theorem shr_low (w:World)(b:Nat)(A:Option Addr)(n c:Nat)(xs:List Nat)(z:Int)(h:Sl w b A n c xs)(hz:z < 1):
  Calls Tryz.prog 249 #[.slice A n c,.int .i64 z] w (Ret1 w (limbs (val xs))):=by
 have HT:=Lib.hid (trim_any w b A n c xs h)
 go_enter Tryz.func249,Tryz.ntmps249
 go_wp2_with (go_at_call 124;((with_reducible refine HT.out.mono ?_);rintro e w4 ⟨g4,A4,c4,rfl,hm4,hb4⟩))
 go_ret
 exact⟨g4,A4,c4,rfl,hm4,hb4⟩
theorem shr_all (w:World)(A:Option Addr)(n c:Nat)(z:Int)(hz:1<=z)(hz2:z<=9223372036854775807)(hn:(n:Int)<=z/32)(hb:n<=1099511627776):
  Calls Tryz.prog 249 #[.slice A n c,.int .i64 z] w (Ret1 w []):=by
 go_enter Tryz.func249,Tryz.ntmps249
 go_wp2
 go_ret
 exact⟨0,none,0,rfl,⟨Sl.nil,fun h=>absurd h (by decide)⟩,Below.refl _ _⟩
theorem shr_any (w:World)(b:Nat)(A:Option Addr)(n c:Nat)(xs:List Nat)(z:Int)(h:Sl w b A n c xs)(hz2:z<=9223372036854775807):
  Calls Tryz.prog 249 #[.slice A n c,.int .i64 z] w (Ret1 w (limbs (val xs/2^z.toNat))):=by
 by_cases h0:z < 1
 ·rw[show z.toNat=0 by omega,Nat.pow_zero,Nat.div_one]
  exact shr_low w b A n c xs z h h0
 ·have ez:z.toNat=32*(z/32).toNat+(z%32).toNat:=by omega
  rw[ez,pow_split,<-Nat.div_div_eq_div_mul,<-val_drop_div h.lim]
  by_cases h1:(n:Int)<=z/32
  ·rw[List.drop_eq_nil_of_le (by rw[h.len];omega),show limbs (val [] /2^(z%32).toNat)=[] by rw[val_nil,Nat.zero_div,limbs_zero]]
   exact shr_all w A n c z (by omega) hz2 h1 h.big
  ·obtain⟨m,hm⟩:∃m,n=(z/32).toNat+m:=⟨n-(z/32).toNat,by omega⟩
   subst hm;exact shr_core w b m c A xs z (z/32).toNat (z%32).toNat h (by omega) (by omega) (by omega) (by omega) (by omega)
end Go.Proofs.YtomikokonmikgaaGreatDoor
namespace Go.Proofs.YtomikokonmikgaaGreatDoor
set_option linter.unusedVariables false
theorem blen_limbs{n:Nat}(h:n≠0):blen n=((limbs n).length-1)*32+blen ((limbs n).getD ((limbs n).length-1) 0):=by
 have hl:(limbs n).length≠0:=fun e=>h (limbs_length_zero.1 e)
 have hs:=val_take_succ (xs:=limbs n) (k:=(limbs n).length-1) (by omega)
 rw[show (limbs n).length-1+1=(limbs n).length by omega,List.take_length,val_limbs]at hs
 have ht:=val_lt ((lim_limbs n).take ((limbs n).length-1));rw[List.length_take,Nat.min_eq_left (by omega)]at ht
 have hp:0 < 4294967296^((limbs n).length-1):=Nat.pow_pos (by decide)
 have hlast:=limbs_last h
 have hd:n/4294967296^((limbs n).length-1)=(limbs n).getD ((limbs n).length-1) 0:=by
  have:∀p q r,p < 4294967296^((limbs n).length-1)->r=p+4294967296^((limbs n).length-1)*q->r/4294967296^((limbs n).length-1)=q:=by
   intro p q r hpq e
   rw[e,Nat.add_mul_div_left _ _ hp,Nat.div_eq_of_lt hpq,Nat.zero_add]
  exact this _ _ _ ht hs
 have hge:4294967296^((limbs n).length-1)<=n:=by
  have:=Nat.le_mul_of_pos_right (4294967296^((limbs n).length-1)) (Nat.pos_of_ne_zero hlast)
  omega
 rw[pow32]at hd hge;rw[blen_shift n _ hge,hd]
end Go.Proofs.YtomikokonmikgaaGreatDoor
namespace Go.Proofs.YtomikokonmikgaaGreatDoor
set_option maxHeartbeats 400000
open Go.RowKit
set_option linter.unusedVariables false
theorem len_core (w:World)(b o n k c x L:Nat)(HC:Hid (Calls Tryz.prog 186 #[.slice (some ⟨b,o,none⟩) n c] w fun e w'=>e= .returned (.slice (some ⟨b,o,none⟩) k c)/\w=w'))
  (hbig:k<=1099511627776) (hpos:k≠0) (hck:w.cell? ⟨b,o+(k-1),none⟩=some (.int .u32 (x:Int))) (hlt:x < 4294967296) (HB:Hid (L=(k-1)*32+blen x)):
  Calls Tryz.prog 188 #[.slice (some ⟨b,o,none⟩) n c] w fun e w'=>e= .returned (.int .i64 (L:Int))/\w=w':=by
 have hx:=blen_mono_le (n:=x) (k:=32) hlt
 have hk0:((k:Int)==0)=false:=by simpa using hpos
 have i1:((k:Int)-1).toNat=k-1:=by omega
 go_enter Tryz.func188,Tryz.ntmps188
 go_wp2_with (first
  | (go_at_call 186;((with_reducible refine HC.out.mono ?_);rintro e w' ⟨rfl,rfl⟩))
  | (go_at_call 236;((with_reducible refine(len32_any x hlt _).mono ?_);rintro e w' ⟨rfl,rfl⟩)))
 go_ret
 have e:=HB.out;exact⟨ret_int (by omega),rfl⟩
theorem len_any (w:World)(b:Nat)(A:Option Addr)(n c:Nat)(xs:List Nat)(h:Sl w b A n c xs):
  Calls Tryz.prog 188 #[.slice A n c] w fun e w'=>e= .returned (.int .i64 (blen (val xs):Int))/\w=w':=by
 have hle:=val_limbs_le h.lim;have hlen:=h.len;have hsl:=h.take (k:=(limbs (val xs)).length) (by omega);rw[limbs_prefix h.lim]at hsl;have HC:=Lib.hid (cut_any w b A n c xs h);have hbig:=hsl.big
 by_cases h0:val xs=0
 ·rw[h0]at HC|-;rw[limbs_zero]at HC;clear hbig hsl hlen hle h h0
  go_enter Tryz.func188,Tryz.ntmps188
  go_wp2_with (go_at_call 186;((with_reducible refine HC.out.mono ?_);rintro e w' ⟨rfl,rfl⟩))
  go_ret
  exact⟨ret_int (by rw[blen_zero];rfl),rfl⟩
 ·have HB:=Lib.hid (blen_limbs h0)
  have hpos:(limbs (val xs)).length≠0:=fun e=>h0 (limbs_length_zero.1 e)
  obtain⟨o,rfl,hc⟩:=hsl.at (by omega);exact len_core w b o n _ c _ _ HC hbig hpos (hc _ (by omega)) ((lim_limbs (val xs)).getD _) HB
theorem shl_low (w:World)(b:Nat)(A:Option Addr)(n c:Nat)(xs:List Nat)(z:Int)(h:Sl w b A n c xs)(hz:z < 1):
  Calls Tryz.prog 119 #[.slice A n c,.int .i64 z] w (Ret1 w (limbs (val xs))):=by
 have HT:=Lib.hid (trim_any w b A n c xs h)
 go_enter Tryz.func119,Tryz.ntmps119
 go_wp2_with (go_at_call 124;((with_reducible refine HT.out.mono ?_);rintro e w4 ⟨g4,A4,c4,rfl,hm4,hb4⟩))
 go_ret
 exact⟨g4,A4,c4,rfl,hm4,hb4⟩
theorem shl_mid (w:World)(b:Nat)(A:Option Addr)(n c:Nat)(xs:List Nat)(z:Int)(h:Sl w b A n c xs)(hz:1<=z)(hz2:z<=16777216)(hn:n<=549755813888):
  Calls Tryz.prog 119 #[.slice A n c,.int .i64 z] w (Ret1 w (limbs (val xs*2^z.toNat))):=by
 have HT:=Lib.hid (raised_any w b n c A xs z (z/32).toNat (z%32).toNat h (by omega) (by omega) (by omega) (by omega) (by omega))
 have e:32*(z/32).toNat+(z%32).toNat=z.toNat:=by omega
 unfold RaisedPost at HT
 rw[e]at HT;clear e
 have hs:n+(z/32).toNat+1<=1099511627776:=by omega
 revert HT hs
 generalize n+(z/32).toNat+1=L
 intro HT hs
 go_enter Tryz.func119,Tryz.ntmps119
 go_wp2_with (go_at_call 185;((with_reducible refine HT.out.mono ?_);rintro e w3 ⟨g,l,rfl,hg,hown,hlen,hlim,hv,hb⟩))
 have hS:=hown.all hlim (by omega) (c:=L) (by omega);rw[hlen]at hS;have HV:=Lib.hid hv;have HB:=Lib.hid hb;clear hown hlen hlim hv hb HT
 go_wp2_with (go_at_call 124;((with_reducible refine(trim_any w3 g _ L L l hS).mono ?_);rintro e w4 ⟨g4,A4,c4,rfl,hm4,hb4⟩))
 go_ret
 rw[HV.out]at hm4;rw[HV.out];exact Ret1.of hm4 hb4 HB.out
theorem shl_any (w:World)(b:Nat)(A:Option Addr)(n c:Nat)(xs:List Nat)(s:Nat)(h:Sl w b A n c xs)(hz2:s<=16777216)(hn:n<=549755813888):
  Calls Tryz.prog 119 #[.slice A n c,.int .i64 (s:Int)] w (Ret1 w (limbs (val xs*2^s))):=by
 by_cases h0:s=0
 ·subst h0;rw[Nat.pow_zero,Nat.mul_one];exact shl_low w b A n c xs _ h (by omega)
 ·have:=shl_mid w b A n c xs (s:Int) h (by omega) (by omega) hn
  rwa [Int.toNat_natCast]at this
