/-
 Contracts that the proof rests on.
-/
import Derived.Test.YteigedaefgmojaaGreatDoorYUao
namespace Go.Proofs.YteigedaefgmojaaGreatDoor
open Go.Proofs.Tryz
set_option maxHeartbeats 4000000
open Go.RowKit
set_option linter.unusedVariables false
set_option linter.unusedSimpArgs false
set_option maxRecDepth 100000
def fin (s:Bool)(M E:Int)(aw:Bool):Int:=aj s (if 1048576 < E then (if aw=true then TP else TP-1)else if E < -1048576 then (if aw=true then 1 else 0)else M-9223372036854775808+1+(E+1048576)*9223372036854775808)
theorem DY{w:World}{s aw:Bool}{M E r:Int}(h1:9223372036854775808<=M)(h2:LQ M)(hr:fin s M E aw=r):Calls prog 184 #[.bool s,.int .u64 M,.int .i64 E,.bool aw] w (PN w r):=by
 unfold fin at hr
 have k:=dq
 by_cases hb:1048576 < E
 ·rw[if_pos hb]at hr
  by_cases h:aw=true
  ·subst h;rw[if_pos rfl]at hr;have j:=ie hr;clear hr
   go_enter func184,ntmps184
   go_upto_region 1 with fail
   generalize a:w.alloc _=w1 at *;obtain⟨d,g⟩:=Bo.en1 a;clear a
   go_wp2_with fail
   refine(nV j.out).mono ?_;rintro m n ⟨K2,s2,M2,E2,rfl,l,B⟩;replace d:=d.b B;replace g:=ak g B;clear B;have e:=d.cell;have c:=d.frozen;go_wp2;clear e c;have f:=ac.t4 d K2 s2 M2 E2;exact bq (by simp[results,results184,go_sem,f.box.cell]) rfl ⟨_,_,_,_,rfl,l,(f.below g.out (by omega))⟩
  ·have h:aw=false:=by simpa using h
   subst h;rw[if_neg (by decide)]at hr
   have i:Fq 1 s 18446744073709551615 1048576 r:=Fq.fin (by decide) (by decide) (by decide) (by decide) hr
   clear hr
   go_enter func184,ntmps184
   go_upto_region 1 with fail
   generalize a:w.alloc _=w1 at *;obtain⟨d,g⟩:=Bo.en1 a;clear a;have e:=d.cell;have c:=d.frozen;go_wp2;clear e c;have f:=ac.t4 d 1 s 18446744073709551615 1048576;exact bq (by simp[results,results184,go_sem,f.box.cell]) rfl ⟨_,_,_,_,rfl,i,(f.below g.out (by omega))⟩
 ·rw[if_neg hb]at hr
  by_cases hl:E < -1048576
  ·rw[if_pos hl]at hr
   by_cases h:aw=true
   ·subst h;rw[if_pos rfl]at hr
    have i:Fq 1 s 9223372036854775808 (-1048576) r:=Fq.fin (by decide) (by decide) (by decide) (by decide) hr
    clear hr
    go_enter func184,ntmps184
    go_upto_region 1 with fail
    generalize a:w.alloc _=w1 at *;obtain⟨d,g⟩:=Bo.en1 a;clear a;have e:=d.cell;have c:=d.frozen;go_wp2;clear e c;have f:=ac.t4 d 1 s 9223372036854775808 (-1048576);exact bq (by simp[results,results184,go_sem,f.box.cell]) rfl ⟨_,_,_,_,rfl,i,(f.below g.out (by omega))⟩
   ·have h:aw=false:=by simpa using h
    subst h;rw[if_neg (by decide)]at hr
    obtain rfl:0=r:=by rw[<-hr];cases s <;> rfl
    clear hr
    go_enter func184,ntmps184
    go_upto_region 1 with fail
    generalize a:w.alloc _=w1 at *;obtain⟨d,g⟩:=Bo.en1 a;clear a;have e:=d.cell;have c:=d.frozen;go_wp2;clear e c;have f:=ac.t4 d 0 false 0 0;exact bq (by simp[results,results184,go_sem,f.box.cell]) rfl ⟨_,_,_,_,rfl,Fq.nought,(f.below g.out (by omega))⟩
  ·rw[if_neg hl]at hr
   have i:Fq 1 s M E r:=Fq.fin h1 h2 (by omega) (by omega) hr
   clear hr
   go_enter func184,ntmps184
   go_upto_region 1 with fail
   generalize a:w.alloc _=w1 at *;obtain⟨d,g⟩:=Bo.en1 a;clear a;have e:=d.cell;have c:=d.frozen;go_wp2;clear e c;have f:=ac.t4 d 1 s M E;exact bq (by simp[results,results184,go_sem,f.box.cell]) rfl ⟨_,_,_,_,rfl,i,(f.below g.out (by omega))⟩
def tp (m:Nat):Nat:=m*2^64/2^ae m
theorem je{m:Nat}(h:m≠0):2^63<=tp m:=by
 unfold tp
 have h1:=blen_le h
 have h2:ae m≠0:=fun e=>h (aL.1 e)
 obtain⟨k,a⟩:∃k,ae m=k+1:=⟨ae m-1,by omega⟩
 rw[a]at h1|-;rw[Nat.le_div_iff_mul_le (Nat.pow_pos (by decide)),Nat.pow_succ,Nat.add_sub_cancel]at *
 have:=Nat.mul_le_mul_right (2^64) h1
 calc 2^63*(2^k*2)=2^k*2^64:=by rw[show (2:Nat)^64=2^63*2 by decide,Nat.mul_comm (2^63) (2^k*2),Nat.mul_assoc,Nat.mul_comm 2 (2^63)]
  _<=m*2^64:=this
theorem gj (m:Nat):tp m < 2^64:=by
 unfold tp
 rw[Nat.div_lt_iff_lt_mul (Nat.pow_pos (by decide)),Nat.mul_comm (2^64)];exact Nat.mul_lt_mul_of_pos_right (dZ m) (Nat.pow_pos (by decide))
theorem fZ{m:Nat}(h:m≠0)(t:Nat):ae (m*2^t)=ae m+t:=by
 have:=bG (m*2^t) t (Nat.le_mul_of_pos_left _ (by omega))
 rw[Nat.mul_div_cancel _ (Nat.pow_pos (by decide))]at this
 omega
theorem DF{m:Nat}(h:m≠0)(t:Nat):tp (m*2^t)=tp m:=by
 unfold tp
 rw[fZ h,Nat.pow_add,Nat.mul_right_comm m,Nat.mul_div_mul_right _ _ (Nat.pow_pos (by decide))]
theorem tJ{m:Nat}(h:64<=ae m):tp m=m/2^(ae m-64):=by
 unfold tp
 rw[show 2^ae m=2^(ae m-64)*2^64 by rw[<-Nat.pow_add];congr 1;omega,Nat.mul_div_mul_right _ _ (Nat.pow_pos (by decide))]
theorem fE{m:Nat}(h:ae m<=64):tp m=m*2^(64-ae m):=by
 unfold tp
 rw[show 2^64=2^(64-ae m)*2^ae m by rw[<-Nat.pow_add];congr 1;omega,<-Nat.mul_assoc,Nat.mul_div_cancel _ (Nat.pow_pos (by decide))]
def xp (m:Nat)(E:Int):Int:=E+(ae m:Nat)-64
def lo (m:Nat)(E:Int):Int:=
 if m=0 then 0 else if 1048576 < xp m E then 19342822337206103650074624 else if xp m E < -1048576 then 0 else (tp m:Int)-9223372036854775808+1+(xp m E+1048576)*9223372036854775808
def ext (m:Nat)(E:Int):Bool:=m==0 || (decide (xp m E<=1048576) && (decide (-1048576<=xp m E) && decide (ae m<=64)))
def hi (m:Nat)(E:Int):Int:=if ext m E=true then lo m E else lo m E+1
def eI (up:Bool)(N E:Int):Int:=aj (decide (N < 0)) (if (up !=decide (N < 0))=true then hi N.natAbs E else lo N.natAbs E)
theorem sT{m:Nat}(h:m≠0)(t:Nat)(E:Int):lo (m*2^t) E=lo m (E+t):=by
 have h2:m*2^t≠0:=Nat.mul_ne_zero h (Nat.ne_of_gt (Nat.pow_pos (by decide)))
 unfold lo
 rw[if_neg h,if_neg h2,DF h]
 unfold xp
 rw[fZ h,show E+((ae m+t:Nat):Int)-64=E+(t:Int)+(ae m:Nat)-64 by omega]
theorem qW (m:Nat)(E:Int):0<=lo m E/\lo m E<=19342822337206103650074624:=by
 unfold lo
 have h1:=gj m
 by_cases h:m=0
 ·rw[if_pos h];omega
 ·rw[if_neg h];have b:=je h
  by_cases a:1048576 < xp m E
  ·rw[if_pos a];omega
  ·rw[if_neg a]
   by_cases h4:xp m E < -1048576
   ·rw[if_pos h4];omega
   ·rw[if_neg h4]
    omega
def vp (r:Int):Int:=if r<=0 then 0 else ((r-1)%9223372036854775808+9223372036854775808)*2^((r-1) /9223372036854775808-1048576+KK).toNat
def vr (r:Int):Int:=if r < 0 then -vp (-r)else vp r
theorem dS{M E:Int}(h1:9223372036854775808<=M)(h2:LQ M)(h3: -1048576<=E):vp (M-9223372036854775808+1+(E+1048576)*9223372036854775808)=M*2^(E+KK).toNat:=by
 unfold vp
 rw[if_neg (by omega)]
 have e1:(M-9223372036854775808+1+(E+1048576)*9223372036854775808-1)%9223372036854775808+9223372036854775808=M:=by omega
 have e2:(M-9223372036854775808+1+(E+1048576)*9223372036854775808-1) /9223372036854775808-1048576=E:=by omega
 rw[e1,e2]
theorem wX{r:Int}(h:0<=r):vp r < vp (r+1):=by
 by_cases b:r=0
 ·subst b
  have:vp 0=0:=rfl
  rw[this]
  unfold vp
  rw[if_neg (by omega)];exact Int.mul_pos (by omega) (aE _)
 ·obtain⟨q,m,hm,a,e⟩:∃q m:Int,9223372036854775808<=m/\m < 18446744073709551616/\r=m-9223372036854775808+1+(q+1048576)*9223372036854775808:=⟨(r-1) /9223372036854775808-1048576,(r-1)%9223372036854775808+9223372036854775808,by omega,by omega,by omega⟩
  have hq: -1048576<=q:=by omega
  have e0:=dS hm a hq;rw[<-e]at e0;rw[e0]
  by_cases c:m=18446744073709551615
  ·have e1:=dS (M:=9223372036854775808) (E:=q+1) (by omega) (by omega) (by omega)
   rw[show (9223372036854775808:Int)-9223372036854775808+1+(q+1+1048576)*9223372036854775808=r+1 by omega]at e1
   rw[e1,show (q+1+(KK:Int)).toNat=(q+KK).toNat+1 by rw[dT];omega,Int.pow_succ,c,<-Int.mul_assoc,Int.mul_right_comm]
   exact Int.mul_lt_mul_of_pos_right (by omega) (aE _)
  ·have e1:=dS (M:=m+1) (E:=q) (by omega) (by omega) hq
   rw[show m+1-9223372036854775808+1+(q+1048576)*9223372036854775808=r+1 by omega]at e1
   rw[e1];exact Int.mul_lt_mul_of_pos_right (by omega) (aE _)
theorem l9 (r:Int):vr r < vr (r+1):=by
 unfold vr
 by_cases h:0<=r
 ·rw[if_neg (by omega),if_neg (by omega)];exact wX h
 ·rw[if_pos (by omega)]
  have:=wX (r:= -(r+1)) (by omega)
  rw[show -(r+1)+1= -r by omega]at this
  by_cases h2:r+1 < 0
  ·rw[if_pos h2]
   omega
  ·rw[if_neg h2]
   have e:r+1=0:=by omega
   rw[e]at this|-
   rw[show vp (-0)=0 from rfl]at this
   rw[show vp 0=0 from rfl]
   omega
theorem DT (r:Int):∀n:Nat,vr r < vr (r+(n+1:Nat))
 | 0=>l9 r
 | n+1=>by
  have h1:=DT r n;have h2:=l9 (r+(n+1:Nat))
  rw[show r+((n+1+1:Nat):Int)=r+((n+1:Nat):Int)+1 by omega]
  omega
theorem jl{r t:Int}(h:r < t):vr r < vr t:=by
 have:=DT r (t-r-1).toNat
 rwa [show r+(((t-r-1).toNat+1:Nat):Int)=t by omega]at this
theorem IW (r t:Int):ag (vr r) (vr t)=ag r t:=by
 rcases aU r t with⟨a1,a2⟩ | ⟨a1,a2⟩ | ⟨a1,a2⟩ <;> rw[a2]
 ·exact av (jl a1)
 ·exact be (by rw[a1])
 ·exact aC (jl a1)
theorem aJ (r:Int):vr (-r)= -vr r:=by
 unfold vr
 by_cases h:r < 0
 ·rw[if_neg (by omega),if_pos h,Int.neg_neg]
 ·by_cases h2:r=0
  ·subst h2;rfl
  ·rw[if_pos (by omega),if_neg h,Int.neg_neg]
theorem IY (s:Bool)(r:Int):vr (aj s r)=aj s (vr r):=by
 cases s
 ·rfl
 ·exact aJ r
theorem JI{m:Nat}{E:Int}(h:m≠0)(h1:xp m E<=1048576)(h2: -1048576<=xp m E)(hE: -(KK:Int)<=E)(ho:m%2=1):
  vr (lo m E)<=(m:Int)*2^(E+KK).toNat/\(m:Int)*2^(E+KK).toNat < vr (lo m E+1)/\(ext m E=true->vr (lo m E)=(m:Int)*2^(E+KK).toNat)/\(ext m E=false->vr (lo m E) < (m:Int)*2^(E+KK).toNat):=by
 have k:=je h;have l:=gj m;have j:=dT
 have hb:0<=lo m E:=(qW m E).1
 have b:lo m E=(tp m:Int)-9223372036854775808+1+(xp m E+1048576)*9223372036854775808:=by
  unfold lo
  rw[if_neg h,if_neg (by omega),if_neg (by omega)]
 have d:vr (lo m E)=(tp m:Int)*2^(xp m E+KK).toNat:=by
  unfold vr
  rw[if_neg (by omega),b];exact dS (by omega) (by omega) h2
 have f:ext m E=decide (ae m<=64):=by
  unfold ext
  rw[show (m==0)=false by simpa using h,dt h1,dt h2]
  rfl
 have c:vr (lo m E+1)=((tp m:Int)+1)*2^(xp m E+KK).toNat:=by
  unfold vr
  rw[if_neg (by omega),b]
  by_cases g:(tp m:Int)=18446744073709551615
  ·have e1:=dS (M:=9223372036854775808) (E:=xp m E+1) (by omega) (by omega) (by omega)
   rw[show (tp m:Int)-9223372036854775808+1+(xp m E+1048576)*9223372036854775808+1=(9223372036854775808:Int)-9223372036854775808+1+(xp m E+1+1048576)*9223372036854775808 by omega,e1,show (xp m E+1+(KK:Int)).toNat=(xp m E+KK).toNat+1 by omega,Int.pow_succ,g,<-Int.mul_assoc,Int.mul_right_comm]
   rfl
  ·have e1:=dS (M:=(tp m:Int)+1) (E:=xp m E) (by omega) (by omega) h2
   rw[show (tp m:Int)-9223372036854775808+1+(xp m E+1048576)*9223372036854775808+1=(tp m:Int)+1-9223372036854775808+1+(xp m E+1048576)*9223372036854775808 by omega,e1]
 rw[d,c,f]
 by_cases hl:ae m<=64
 ·have e1:(m:Int)*2^(E+KK).toNat=(tp m:Int)*2^(xp m E+KK).toNat:=by
   have hx:(xp m E+KK).toNat+(64-ae m)=(E+KK).toNat:=by unfold xp at h2|-;omega
   rw[fE hl,<-hx,Int.pow_add]
   push_cast
   rw[Int.mul_assoc,Int.mul_comm (2^(64-ae m))]
  have hp:=aE (xp m E+KK).toNat;rw[e1,dt hl]
  refine⟨Int.le_refl _,Int.mul_lt_mul_of_pos_right (by omega) hp,fun _=>rfl,fun h=>by cases h⟩
 ·have hd:=Nat.div_add_mod m (2^(ae m-64))
  have hm:=Nat.mod_lt m (Nat.pow_pos (n:=ae m-64) (show 0 < 2 by decide))
  have i:m%2^(ae m-64)≠0:=by
   intro e
   have:2 ∣ m:=Nat.dvd_trans (show 2 ∣ 2^(ae m-64)from ⟨2^(ae m-64-1),by rw[<-Nat.pow_succ'];congr 1;omega⟩) (Nat.dvd_of_mod_eq_zero e)
   omega
  rw[<-tJ (by omega)]at hd
  have e1:(2:Int)^(xp m E+KK).toNat=2^(ae m-64)*2^(E+KK).toNat:=by
   rw[<-Int.pow_add]
   congr 1
   unfold xp
   omega
  have hp:=aE (E+KK).toNat
  have c1:(tp m:Int)*2^(ae m-64) < (m:Int):=by
   have:tp m*2^(ae m-64) < m:=by rw[Nat.mul_comm];omega
   exact_mod_cast this
  have c2:(m:Int) < ((tp m:Int)+1)*2^(ae m-64):=by
   have:m < (tp m+1)*2^(ae m-64):=by rw[Nat.mul_comm,Nat.mul_add,Nat.mul_one];omega
   exact_mod_cast this
  have a:=Int.mul_lt_mul_of_pos_right c1 hp;have l2:=Int.mul_lt_mul_of_pos_right c2 hp;rw[Int.mul_assoc]at a l2;rw[e1,df hl]
  exact⟨Int.le_of_lt a,l2,fun h=>(by cases h),fun _=>a⟩
theorem yh (z:Int)(q:Nat)(w:World)(h0:0<=z)(hz:z<=18446744073709551615)(h1:4294967296<=z)(h2:65536<=z/4294967296)(h3:256<=z/4294967296/65536)(hq:q<=8)
  (hi:∀W,(Instr.index 9 (.string Lib.len8tab) (.int .u8 (z/4294967296/65536/256))).run prog W= .ok (.int .u8 (q:Int)) W):
  Calls prog 113 #[.int .u64 z] w fun e w'=>e= .returned (.int .i64 (56+q:Int))/\w=w':=by
 go_enter func113,ntmps113
 go_wp2
 go_ret
 exact⟨rfl,rfl⟩
theorem yg (z:Int)(q:Nat)(w:World)(h0:0<=z)(hz:z<=18446744073709551615)(h1:4294967296<=z)(h2:65536<=z/4294967296)(h3:z/4294967296/65536 < 256)(hq:q<=8)
  (hi:∀W,(Instr.index 9 (.string Lib.len8tab) (.int .u8 (z/4294967296/65536))).run prog W= .ok (.int .u8 (q:Int)) W):
  Calls prog 113 #[.int .u64 z] w fun e w'=>e= .returned (.int .i64 (48+q:Int))/\w=w':=by
 go_enter func113,ntmps113
 go_wp2
 go_ret
 exact⟨rfl,rfl⟩
theorem yf (z:Int)(q:Nat)(w:World)(h0:0<=z)(hz:z<=18446744073709551615)(h1:4294967296<=z)(h2:z/4294967296 < 65536)(h3:256<=z/4294967296)(hq:q<=8)
  (hi:∀W,(Instr.index 9 (.string Lib.len8tab) (.int .u8 (z/4294967296/256))).run prog W= .ok (.int .u8 (q:Int)) W):
  Calls prog 113 #[.int .u64 z] w fun e w'=>e= .returned (.int .i64 (40+q:Int))/\w=w':=by
 go_enter func113,ntmps113
 go_wp2
 go_ret
 exact⟨rfl,rfl⟩
theorem ye (z:Int)(q:Nat)(w:World)(h0:0<=z)(hz:z<=18446744073709551615)(h1:4294967296<=z)(h2:z/4294967296 < 65536)(h3:z/4294967296 < 256)(hq:q<=8)
  (hi:∀W,(Instr.index 9 (.string Lib.len8tab) (.int .u8 (z/4294967296))).run prog W= .ok (.int .u8 (q:Int)) W):
  Calls prog 113 #[.int .u64 z] w fun e w'=>e= .returned (.int .i64 (32+q:Int))/\w=w':=by
 go_enter func113,ntmps113
 go_wp2
 go_ret
 exact⟨rfl,rfl⟩
theorem yd (z:Int)(q:Nat)(w:World)(h0:0<=z)(hz:z<=18446744073709551615)(h1:z < 4294967296)(h2:65536<=z)(h3:256<=z/65536)(hq:q<=8)
  (hi:∀W,(Instr.index 9 (.string Lib.len8tab) (.int .u8 (z/65536/256))).run prog W= .ok (.int .u8 (q:Int)) W):
  Calls prog 113 #[.int .u64 z] w fun e w'=>e= .returned (.int .i64 (24+q:Int))/\w=w':=by
 go_enter func113,ntmps113
 go_wp2
 go_ret
 exact⟨rfl,rfl⟩
theorem x9 (z:Int)(q:Nat)(w:World)(h0:0<=z)(hz:z<=18446744073709551615)(h1:z < 4294967296)(h2:65536<=z)(h3:z/65536 < 256)(hq:q<=8)
  (hi:∀W,(Instr.index 9 (.string Lib.len8tab) (.int .u8 (z/65536))).run prog W= .ok (.int .u8 (q:Int)) W):
  Calls prog 113 #[.int .u64 z] w fun e w'=>e= .returned (.int .i64 (16+q:Int))/\w=w':=by
 go_enter func113,ntmps113
 go_wp2
 go_ret
 exact⟨rfl,rfl⟩
theorem xZ (z:Int)(q:Nat)(w:World)(h0:0<=z)(hz:z<=18446744073709551615)(h1:z < 4294967296)(h2:z < 65536)(h3:256<=z)(hq:q<=8)
  (hi:∀W,(Instr.index 9 (.string Lib.len8tab) (.int .u8 (z/256))).run prog W= .ok (.int .u8 (q:Int)) W):
  Calls prog 113 #[.int .u64 z] w fun e w'=>e= .returned (.int .i64 (8+q:Int))/\w=w':=by
 go_enter func113,ntmps113
 go_wp2
 go_ret
 exact⟨rfl,rfl⟩
theorem xY (z:Int)(q:Nat)(w:World)(h0:0<=z)(hz:z<=18446744073709551615)(h1:z < 4294967296)(h2:z < 65536)(h3:z < 256)(hq:q<=8)
  (hi:∀W,(Instr.index 9 (.string Lib.len8tab) (.int .u8 (z))).run prog W= .ok (.int .u8 (q:Int)) W):
  Calls prog 113 #[.int .u64 z] w fun e w'=>e= .returned (.int .i64 (0+q:Int))/\w=w':=by
 go_enter func113,ntmps113
 go_wp2
 go_ret
 exact⟨ap (by omega),rfl⟩
theorem yi (x:Nat)(hx:x < 18446744073709551616)(w:World):
  Calls prog 113 #[.int .u64 (x:Int)] w fun e w'=>e= .returned (.int .i64 (ae x:Int))/\w=w':=by
 by_cases b:4294967296<=x
 ·have a:=bG (x) 32 (by omega)
  rw[show 2^32=4294967296 by decide]at a
  by_cases h1:65536<=x/4294967296
  ·have s1:=bG (x/4294967296) 16 (by omega)
   rw[show 2^16=65536 by decide]at s1
   by_cases h2:256<=x/4294967296/65536
   ·have s2:=bG (x/4294967296/65536) 8 (by omega)
    rw[show 2^8=256 by decide]at s2
    have:=yh (x:Int) (ae (x/4294967296/65536/256)) w (by omega) (by omega) (by omega) (by omega) (by omega) (ai (by omega)) (fun W=>bS W (x/4294967296/65536/256) (by omega))
    exact this.mono fun e w' h=>⟨h.1.trans (ap (by omega)),h.2⟩
   ·have:=yg (x:Int) (ae (x/4294967296/65536)) w (by omega) (by omega) (by omega) (by omega) (by omega) (ai (by omega)) (fun W=>bS W (x/4294967296/65536) (by omega))
    exact this.mono fun e w' h=>⟨h.1.trans (ap (by omega)),h.2⟩
  ·by_cases h2:256<=x/4294967296
   ·have s2:=bG (x/4294967296) 8 (by omega)
    rw[show 2^8=256 by decide]at s2
    have:=yf (x:Int) (ae (x/4294967296/256)) w (by omega) (by omega) (by omega) (by omega) (by omega) (ai (by omega)) (fun W=>bS W (x/4294967296/256) (by omega))
    exact this.mono fun e w' h=>⟨h.1.trans (ap (by omega)),h.2⟩
   ·have:=ye (x:Int) (ae (x/4294967296)) w (by omega) (by omega) (by omega) (by omega) (by omega) (ai (by omega)) (fun W=>bS W (x/4294967296) (by omega))
    exact this.mono fun e w' h=>⟨h.1.trans (ap (by omega)),h.2⟩
 ·by_cases h1:65536<=x
  ·have s1:=bG (x) 16 (by omega)
   rw[show 2^16=65536 by decide]at s1
   by_cases h2:256<=x/65536
   ·have s2:=bG (x/65536) 8 (by omega)
    rw[show 2^8=256 by decide]at s2
    have:=yd (x:Int) (ae (x/65536/256)) w (by omega) (by omega) (by omega) (by omega) (by omega) (ai (by omega)) (fun W=>bS W (x/65536/256) (by omega))
    exact this.mono fun e w' h=>⟨h.1.trans (ap (by omega)),h.2⟩
   ·have:=x9 (x:Int) (ae (x/65536)) w (by omega) (by omega) (by omega) (by omega) (by omega) (ai (by omega)) (fun W=>bS W (x/65536) (by omega))
    exact this.mono fun e w' h=>⟨h.1.trans (ap (by omega)),h.2⟩
  ·by_cases h2:256<=x
   ·have s2:=bG (x) 8 (by omega)
    rw[show 2^8=256 by decide]at s2
    have:=xZ (x:Int) (ae (x/256)) w (by omega) (by omega) (by omega) (by omega) (by omega) (ai (by omega)) (fun W=>bS W (x/256) (by omega))
    exact this.mono fun e w' h=>⟨h.1.trans (ap (by omega)),h.2⟩
   ·have:=xY (x:Int) (ae (x)) w (by omega) (by omega) (by omega) (by omega) (by omega) (ai (by omega)) (fun W=>bS W (x) (by omega))
    exact this.mono fun e w' h=>⟨h.1.trans (ap (by omega)),h.2⟩
theorem iu{x:Nat}{z a:Int}(w:World)(hx:x < 18446744073709551616)(hz:(x:Int)=z)(ha:64-(ae x:Int)=a):
  Calls prog 48 #[.int .u64 z] w (PI w a):=by
 have hb:=ai (n:=x) (k:=64) hx;subst hz;subst ha
 go_enter func48,ntmps48
 go_wp2_with (go_at_call 113;refine(yi x hx _).mono ?_;rintro e w' ⟨rfl,rfl⟩)
 go_ret
 exact⟨rfl,Below.refl _ _⟩
theorem GG{n:Int}(h0:n≠0)(h1: -9223372036854775808<=n)(h2:n<=9223372036854775807):Fq 1 (decide (n < 0)) ((tp n.natAbs:Nat):Int) (-(64-(ae n.natAbs:Int))) (aj (decide (n < 0)) (lo n.natAbs 0)):=by
 have hm:n.natAbs≠0:=by omega
 have a1:=je hm;have a2:=gj n.natAbs;have a3:=ai (n:=n.natAbs) (k:=64) (by omega);refine Fq.fin (by omega) (by omega) (by omega) (by omega) ?_
 congr 1
 unfold lo xp
 rw[if_neg hm,if_neg (by omega),if_neg (by omega)]
 omega
theorem Cs{n:Int}(h0:n≠0)(h1: -9223372036854775808<=n)(h2:n<=9223372036854775807):(n.natAbs:Int)*2^(64-(ae n.natAbs:Int)).toNat=((tp n.natAbs:Nat):Int):=by
 have a3:=ai (n:=n.natAbs) (k:=64) (by omega)
 rw[fE a3,show (64-(ae n.natAbs:Int)).toNat=64-ae n.natAbs by omega]
 push_cast
 rfl
theorem Cb{n r:Int}(w:World)(h1: -9223372036854775808<=n)(h2:n<=9223372036854775807)(hr:aj (decide (n < 0)) (lo n.natAbs 0)=r):Calls prog 16 #[.int .i64 n] w (PN w r):=by
 by_cases q:n=0
 ·subst q
  obtain rfl:0=r:=hr
  go_enter func16,ntmps16
  go_upto_region 1 with fail
  generalize c:w.alloc _=w1 at *;obtain⟨f,h⟩:=Bo.en1 c;clear c;have g:=f.cell;have d:=f.frozen;go_wp2;clear g d;have j:=ac.t4 f 0 false 0 0;exact bq (by simp[results,results16,go_sem,j.box.cell]) rfl ⟨_,_,_,_,rfl,Fq.nought,(j.below h.out (by omega))⟩
 ·have i:=GG q h1 h2;have hs:=Cs q h1 h2
  have e0:(n==0)=false:=by simpa using q
  have hx:n.natAbs < 18446744073709551616:=by omega
  have hb:=ai (n:=n.natAbs) (k:=64) (by omega);have z:=gj n.natAbs;rw[hr]at i;clear hr
  by_cases C:n < 0
  ·obtain⟨a,m⟩:∃a,64-(ae n.natAbs:Int)=a:=⟨_,rfl⟩
   have p:((n.natAbs:Nat):Int)= -n:=by omega
   rw[m]at i hs;rw[p]at hs
   have hd:decide (n < 0)=true:=by simp;omega
   rw[hd]at i;have t:=ie m;have u:=ie p;obtain⟨T,s⟩:∃T,((tp n.natAbs:Nat):Int)=T:=⟨_,rfl⟩;rw[s]at i hs
   have l:0<=T/\T < 18446744073709551616:=by omega
   have v:=ie hs
   have x:=ie (show IntKind.u64.wrap T=T from IntWalk.u64_in _ (by omega))
   have a1:0<=a:=by omega
   have o:ae n.natAbs≠0:=fun e=>q (by have:=aL.1 e;omega)
   have a2:a < 64:=by omega
   clear o;clear hs m hb z s p l
   go_enter func16,ntmps16
   go_upto_region 1 with fail
   generalize c:w.alloc _=w1 at *;obtain⟨f,h⟩:=Bo.en1 c;clear c
   have y:n.natAbs < 18446744073709551616:=hx
   have F:IntKind.u64.wrap (-IntKind.u64.wrap n)= -n:=by
    show (-(n%18446744073709551616))%18446744073709551616= -n
    omega
   go_wp2_with fail
   refine(iu _ hx u.out t.out).mono ?_;rintro A E ⟨rfl,B⟩;replace f:=f.b B;replace h:=ak h B;clear B;have hs:=v.out;have D:=x.out;have g:=f.cell;have d:=f.frozen;go_wp2;clear g d;have j:=ac.t4 f 1 true T (-a);exact bq (by simp[results,results16,go_sem,j.box.cell]) rfl ⟨_,_,_,_,rfl,i,(j.below h.out (by omega))⟩
  ·obtain⟨a,m⟩:∃a,64-(ae n.natAbs:Int)=a:=⟨_,rfl⟩
   have p:((n.natAbs:Nat):Int)=n:=by omega
   rw[m]at i hs;rw[p]at hs
   have hd:decide (n < 0)=false:=by simp;omega
   rw[hd]at i;have t:=ie m;have u:=ie p;obtain⟨T,s⟩:∃T,((tp n.natAbs:Nat):Int)=T:=⟨_,rfl⟩;rw[s]at i hs
   have l:0<=T/\T < 18446744073709551616:=by omega
   have v:=ie hs
   have x:=ie (show IntKind.u64.wrap T=T from IntWalk.u64_in _ (by omega))
   have a1:0<=a:=by omega
   have o:ae n.natAbs≠0:=fun e=>q (by have:=aL.1 e;omega)
   have a2:a < 64:=by omega
   clear o;clear hs m hb z s p l
   go_enter func16,ntmps16
   go_upto_region 1 with fail
   generalize c:w.alloc _=w1 at *;obtain⟨f,h⟩:=Bo.en1 c;clear c
   have y:n.natAbs < 18446744073709551616:=hx
   go_wp2_with fail
   refine(iu _ hx u.out t.out).mono ?_;rintro A E ⟨rfl,B⟩;replace f:=f.b B;replace h:=ak h B;clear B;have hs:=v.out;have D:=x.out;have g:=f.cell;have d:=f.frozen;go_wp2;clear g d;have j:=ac.t4 f 1 false T (-a);exact bq (by simp[results,results16,go_sem,j.box.cell]) rfl ⟨_,_,_,_,rfl,i,(j.below h.out (by omega))⟩
def Nl (w:World)(A:Option Addr)(n c:Nat)(l:List Int):Prop:=
 l.length=n/\n<=c/\n<=1099511627776/\(0 < n->∃b o,A=some ⟨b,o,none⟩/\∀k,k < n->∃D s M E,w.cell? ⟨b,o+k*4,none⟩=some (.int .i64 D)/\w.cell? ⟨b,o+k*4+1,none⟩=some (.bool s)/\w.cell? ⟨b,o+k*4+2,none⟩=some (.int .u64 M)/\w.cell? ⟨b,o+k*4+3,none⟩=some (.int .i64 E)/\M < 18446744073709551616/\rk D s M E=l.getD k 0)
theorem Nl.below{w w':World}{A:Option Addr}{n c:Nat}{l:List Int}(h:Nl w A n c l)(hb:Below w.heap.size w w'):Nl w' A n c l:=by
 obtain⟨h1,h2,a,h4⟩:=h
 refine⟨h1,h2,a,fun hn=>?_⟩
 obtain⟨b,o,e,f⟩:=h4 hn
 refine⟨b,o,e,fun k hk=>?_⟩
 obtain⟨D,s,M,E,c0,c1,c2,c3,d,g⟩:=f k hk;exact⟨D,s,M,E,(hb.cell (p:=⟨b,_,none⟩) (block_lt_of_cell c0)).trans c0,(hb.cell (p:=⟨b,_,none⟩) (block_lt_of_cell c1)).trans c1,(hb.cell (p:=⟨b,_,none⟩) (block_lt_of_cell c2)).trans c2,(hb.cell (p:=⟨b,_,none⟩) (block_lt_of_cell c3)).trans c3,d,g⟩
abbrev Nl.b:= @Nl.below
instance {w w':World} {A:Option Addr} {n c:Nat} {l:List Int}:Mv (Nl w A n c l) w w' (Nl w' A n c l):=⟨fun h b=>h.below b⟩
def Jo.Fact.nl (n:Nat)(l:List Int):Jo.Fact:=⟨fun v w=>∃A c,v= .slice A n c/\Nl w A n c l,fun v w w' h b=>by
 obtain⟨A,c,e,h⟩:=h;exact⟨A,c,e,h.below b⟩⟩
def Jo.Fact.num (r:Int):Jo.Fact:=⟨fun v w=>∃K s M E,v= .agg #[.int .i64 K,.bool s,.int .u64 M,.int .i64 E]/\Fq K s M E r,fun v w w' h b=>h⟩
def oE (l:List Int):Int:=l.foldl min TP
def nD (l:List Int):Int:=l.foldl max (-TP)
theorem rc{l:List Int}{k:Nat}(h:k < l.length):oE (l.take (k+1))=min (oE (l.take k)) (l.getD k 0):=by
 unfold oE
 rw[List.take_succ_eq_append_getElem h,List.foldl_append]
 simp[List.getD_eq_getElem?_getD,h]
theorem re{l:List Int}{k:Nat}(h:k < l.length):nD (l.take (k+1))=max (nD (l.take k)) (l.getD k 0):=by
 unfold nD
 rw[List.take_succ_eq_append_getElem h,List.foldl_append]
 simp[List.getD_eq_getElem?_getD,h]
def zt (w:World)(g3:Nat)(r:Int)(wr:World):Prop:=
 ∃K s M E,Bo wr w.heap.size #[.int .i64 0,.bool false,.int .u64 0,.int .i64 0] 24/\Bo wr g3 #[.int .i64 K,.bool s,.int .u64 M,.int .i64 E] 24/\Fq K s M E r/\Below w.heap.size w wr
theorem sY{w:World}{A:Option Addr}{n c:Nat}{l:List Int}{r:Int}(h:Nl w A n c l)(hr:oE l=r):Calls prog 81 #[.slice A n c] w (PN w r):=by
 have HR:=ie hr;have u:=ie h.1;have bA:=h.2.1;have Z:=h.2.2.1;have y:=h;clear hr
 go_enter func81,ntmps81
 go_upto_region 1 with fail
 generalize C:w.alloc _=w1 at *;obtain⟨a,d⟩:=Bo.en1 C;replace h:=h.below d.out;clear C
 go_wp2_with fail
 refine(jb (s:=false) rfl).mono ?_;rintro W T ⟨I,s1,J,H,rfl,p,B⟩;refine aF ?_ a h d B;clear a h d B;intro a h d
 go_upto_region 2 with fail
 have bB:=a.lt;have bD:=Nat.le_refl (World.heap T).size;have P:=a.lt;generalize g:T.alloc _=w3 at *;obtain⟨e,t⟩:=Bo.nw g;clear g;refine aF ?_ a h d t;clear a h d t;intro a h d
 go_wp2_with fail
 generalize T.heap.size=g3 at *;clear h w1
 go_loopw [9] (fun i wr=>∃k:Nat,k<=n/\i= .int .i64 k/\zt w g3 (oE (l.take k)) wr) (fun i _=>n-(intOf i).toNat)
 case atStart=>exact ⟨0,Nat.zero_le _,rfl,_,_,_,_,a,e,p,d.out⟩
 case round=>
  obtain⟨k,hk,rfl,hI⟩:=hrel;obtain⟨I,s1,J,H,a,e,p,N⟩:=hI;have d:=ie N;have h:=y.below N;clear N
  by_cases hlt:k < n
  ·obtain⟨b,o,rfl,hcell⟩:=h.2.2.2 (by omega);obtain⟨D,s,M,E,c0,c1,c2,c3,X,hx⟩:=hcell k hlt;clear hcell h y;have ht:=rc (l:=l) (k:=k) (by rw[u.out];exact hlt);rw[<-hx]at ht;generalize oE (l.take k)=R at *;obtain⟨x,L⟩:∃x,rk D s M E=x:=⟨_,rfl⟩;rw[L]at ht;have HX:=ie L;have V:=ie ht;obtain⟨z,hz⟩:∃z,ag x R=z:=⟨_,rfl⟩
   have HZ:=ie (show ag (rk D s M E) (rk I s1 J H)=z by rw[L,p.rk];exact hz)
   clear ht L hx
   have i1:(k:Int) < n:=by omega
   have i2:(0:Int)<=k:=by omega
   go_upto_region 5 with fail
   have bC:=e.lt;have S:=a.lt;have Q:=e.lt;generalize g:wr.alloc _=w3 at *;obtain⟨v,t⟩:=Bo.nw g;clear g;refine aF ?_ a e d t;clear a e d t;intro a e d;clear c0 c1 c2 c3;have j:=e.cell;have q:=v.cell
   go_wp2_with fail
   refine(kq X p.top HZ.out).mono ?_;rintro W w4 ⟨rfl,B⟩;clear j q;refine aR ?_ a e v d B;clear a e v d B;intro a e v d
   by_cases hb:x < R
   ·obtain rfl: -1=z:=by rw[<-hz,av hb]
    have f:=V.out
    rw[show min R x=x by omega]at f
    have q:=v.cell
    go_wp2_with fail
    refine(mJ X HX.out).mono ?_;rintro W w5 ⟨K2,s2,M2,E2,rfl,q2,B⟩;clear q;refine aF ?_ a e d B;clear a e d B;intro a e d;have j:=e.cell;have F:=e.frozen
    go_upto_region 7 with fail
    clear j F;generalize Y:(((w5.setCell _ _).setCell _ _).setCell _ _).setCell _ _=w6 at *;have m:=ac.of4 e Y;replace a:=a.s m;replace d:=bi d m (by omega);replace e:=m.box;clear m Y;go_wp2
    go_roundw
    case rel=>
     refine⟨k+1,by omega,by go_num,K2,s2,M2,E2,a,e,?_,d.out⟩
     rw[f];exact q2
    case measure=>simp [intOf];omega
   ·have f:=V.out
    rw[show min R x=R by omega]at f
    have O:¬z < 0:=by
     rw[<-hz]
     rcases aU x R with⟨a1,a2⟩ | ⟨a1,a2⟩ | ⟨a1,a2⟩ <;> rw[a2] <;> omega
    have e0:decide (z < 0)=false:=df O
    go_wp2
    go_roundw
    case rel=>
     refine⟨k+1,by omega,by go_num,I,s1,J,H,a,e,?_,d.out⟩
     rw[f];exact p
    case measure=>simp [intOf];omega
  ·obtain rfl:k=n:=by omega
   rw[List.take_of_length_le (by rw[u.out];omega),HR.out]at p;have U:=a.cell;have G:=a.frozen;have j:=e.cell;go_wp2;clear U G j;have m:=ac.t4 a I s1 J H;exact bq (by simp[results,results81,go_sem,m.box.cell]) rfl ⟨_,_,_,_,rfl,p,(m.below d.out (by omega))⟩
theorem rg{w:World}{A:Option Addr}{n c:Nat}{l:List Int}{r:Int}(h:Nl w A n c l)(hr:nD l=r):Calls prog 80 #[.slice A n c] w (PN w r):=by
 have HR:=ie hr;have u:=ie h.1;have bA:=h.2.1;have Z:=h.2.2.1;have y:=h;clear hr
 go_enter func80,ntmps80
 go_upto_region 1 with fail
 generalize C:w.alloc _=w1 at *;obtain⟨a,d⟩:=Bo.en1 C;replace h:=h.below d.out;clear C
 go_wp2_with fail
 refine(jb (s:=true) rfl).mono ?_;rintro W T ⟨I,s1,J,H,rfl,p,B⟩;refine aF ?_ a h d B;clear a h d B;intro a h d
 go_upto_region 2 with fail
 have bB:=a.lt;have bD:=Nat.le_refl (World.heap T).size;have P:=a.lt;generalize g:T.alloc _=w3 at *;obtain⟨e,t⟩:=Bo.nw g;clear g;refine aF ?_ a h d t;clear a h d t;intro a h d
 go_wp2_with fail
 generalize T.heap.size=g3 at *;clear h w1
 go_loopw [9] (fun i wr=>∃k:Nat,k<=n/\i= .int .i64 k/\zt w g3 (nD (l.take k)) wr) (fun i _=>n-(intOf i).toNat)
 case atStart=>exact ⟨0,Nat.zero_le _,rfl,_,_,_,_,a,e,p,d.out⟩
 case round=>
  obtain⟨k,hk,rfl,hI⟩:=hrel;obtain⟨I,s1,J,H,a,e,p,N⟩:=hI;have d:=ie N;have h:=y.below N;clear N
  by_cases hlt:k < n
  ·obtain⟨b,o,rfl,hcell⟩:=h.2.2.2 (by omega);obtain⟨D,s,M,E,c0,c1,c2,c3,X,hx⟩:=hcell k hlt;clear hcell h y;have ht:=re (l:=l) (k:=k) (by rw[u.out];exact hlt);rw[<-hx]at ht;generalize nD (l.take k)=R at *;obtain⟨x,L⟩:∃x,rk D s M E=x:=⟨_,rfl⟩;rw[L]at ht;have HX:=ie L;have V:=ie ht;obtain⟨z,hz⟩:∃z,ag x R=z:=⟨_,rfl⟩
   have HZ:=ie (show ag (rk D s M E) (rk I s1 J H)=z by rw[L,p.rk];exact hz)
   clear ht L hx
   have i1:(k:Int) < n:=by omega
   have i2:(0:Int)<=k:=by omega
   go_upto_region 5 with fail
   have bC:=e.lt;have S:=a.lt;have Q:=e.lt;generalize g:wr.alloc _=w3 at *;obtain⟨v,t⟩:=Bo.nw g;clear g;refine aF ?_ a e d t;clear a e d t;intro a e d;clear c0 c1 c2 c3;have j:=e.cell;have q:=v.cell
   go_wp2_with fail
   refine(kq X p.top HZ.out).mono ?_;rintro W w4 ⟨rfl,B⟩;clear j q;refine aR ?_ a e v d B;clear a e v d B;intro a e v d
   by_cases hb:R < x
   ·obtain rfl:1=z:=by rw[<-hz,aC hb]
    have f:=V.out
    rw[show max R x=x by omega]at f
    have q:=v.cell
    go_wp2_with fail
    refine(mJ X HX.out).mono ?_;rintro W w5 ⟨K2,s2,M2,E2,rfl,q2,B⟩;clear q;refine aF ?_ a e d B;clear a e d B;intro a e d;have j:=e.cell;have F:=e.frozen
    go_upto_region 7 with fail
    clear j F;generalize Y:(((w5.setCell _ _).setCell _ _).setCell _ _).setCell _ _=w6 at *;have m:=ac.of4 e Y;replace a:=a.s m;replace d:=bi d m (by omega);replace e:=m.box;clear m Y;go_wp2
    go_roundw
    case rel=>
     refine⟨k+1,by omega,by go_num,K2,s2,M2,E2,a,e,?_,d.out⟩
     rw[f];exact q2
    case measure=>simp [intOf];omega
   ·have f:=V.out
    rw[show max R x=R by omega]at f
    have O:¬0 < z:=by
     rw[<-hz]
     rcases aU x R with⟨a1,a2⟩ | ⟨a1,a2⟩ | ⟨a1,a2⟩ <;> rw[a2] <;> omega
    have e0:decide (0 < z)=false:=df O
    go_wp2
    go_roundw
    case rel=>
     refine⟨k+1,by omega,by go_num,I,s1,J,H,a,e,?_,d.out⟩
     rw[f];exact p
    case measure=>simp [intOf];omega
  ·obtain rfl:k=n:=by omega
   rw[List.take_of_length_le (by rw[u.out];omega),HR.out]at p;have U:=a.cell;have G:=a.frozen;have j:=e.cell;go_wp2;clear U G j;have m:=ac.t4 a I s1 J H;exact bq (by simp[results,results80,go_sem,m.box.cell]) rfl ⟨_,_,_,_,rfl,p,(m.below d.out (by omega))⟩
theorem I3{w:World}{A:Option Addr}{n c:Nat}{l:List Int}{r:Int}(h:Nl w A n c l)(hr:oE l=r):Calls prog 102 #[.slice A n c] w (PN w r):=by
 have HR:=ie hr;have v:=ie h.1;have Z:=h.2.1;have Y:=h.2.2.1;have F:=h;clear hr
 go_enter func102,ntmps102
 go_upto_region 1 with fail
 generalize G:w.alloc _=w1 at *;obtain⟨a,d⟩:=Bo.en1 G;replace h:=h.below d.out;clear G
 go_wp2_with fail
 refine(nV (s:=false) rfl).mono ?_;rintro V Q ⟨y,s1,C,u,rfl,q,B⟩;refine aF ?_ a h d B;clear a h d B;intro a h d
 go_upto_region 2 with fail
 have bH:=a.lt;have bN:=Nat.le_refl (World.heap Q).size;have P:=a.lt;generalize H:Q.alloc _=w3 at *;obtain⟨e,T⟩:=Bo.nw H;clear H;refine aF ?_ a h d T;clear a h d T;intro a h d
 go_wp2_with fail
 generalize Q.heap.size=g3 at *;clear h w1
 go_loopw [4] (fun i wr=>∃k:Nat,k<=n/\i= .int .i64 k/\zt w g3 (oE (l.take k)) wr) (fun i _=>n-(intOf i).toNat)
 case atStart=>exact ⟨0,Nat.zero_le _,rfl,_,_,_,_,a,e,q,d.out⟩
 case round=>
  obtain⟨k,hk,rfl,hI⟩:=hrel;obtain⟨y,s1,C,u,a,e,q,N⟩:=hI;have d:=ie N;have h:=F.below N;clear N
  by_cases hlt:k < n
  ·obtain⟨b,o,rfl,hcell⟩:=h.2.2.2 (by omega);obtain⟨D,s,M,E,c0,c1,c2,c3,W,hx⟩:=hcell k hlt;clear hcell h F;have ht:=rc (l:=l) (k:=k) (by rw[v.out];exact hlt);rw[<-hx]at ht;generalize oE (l.take k)=R at *;obtain⟨x,L⟩:∃x,rk D s M E=x:=⟨_,rfl⟩;rw[L]at ht;have HX:=ie L;have U:=ie ht;obtain⟨z,hz⟩:∃z,ag x R=z:=⟨_,rfl⟩
   have HZ:=ie (show ag (rk D s M E) (rk y s1 C u)=z by rw[L,q.rk];exact hz)
   clear ht L hx
   have i1:(k:Int) < n:=by omega
   have i2:(0:Int)<=k:=by omega
   go_upto_region 5 with fail
   refine bF [0,1,2,3,4,5,6] [13,14,15,16,17,18,19] [[],[],[0,1],[2],[],[3,4],[5]] 7 0 [Jo.Fact.eq (.slice (some ⟨b,o,none⟩) n c),Jo.qi k,Jo.Fact.eq (.pointer (some ⟨b,o+k*4,none⟩)),Jo.q4 D s M E,Jo.q4 y s1 C u,Jo.qi z,Jo.Fact.eq (.bool (decide (z < 0)))] ?_ ?_
   ·iterate 3 (refine jm ?_ ?_;rotate_left)
    refine jm ?_ ?_
    ·rintro wj f _ rfl K t;simp only[Jo.z]at t|-
     have bA:=(f.cell (p:=⟨b,_,none⟩) (block_lt_of_cell c0)).trans c0
     have bB:=(f.cell (p:=⟨b,_,none⟩) (block_lt_of_cell c1)).trans c1
     have bC:=(f.cell (p:=⟨b,_,none⟩) (block_lt_of_cell c2)).trans c2
     have bD:=(f.cell (p:=⟨b,_,none⟩) (block_lt_of_cell c3)).trans c3
     go_simp;exact t.out _ _ rfl (br _ _)
    refine jm ?_ ?_;rotate_left
    refine jm ?_ ?_
    ·rintro wj f _ rfl _ rfl K t;go_simp;refine(nA W q.top HZ.out).mono ?_;rintro V wk ⟨rfl,B⟩;exact t.out _ _ rfl B
    refine jm ?_ ?_;rotate_left
    exact jo
    all_goals (rintro wj f;(repeat rintro _ rfl);intro K t;have j:=(e.b f).cell;go_simp;exact t.out _ _ rfl (br _ _))
   rintro w4 f _ rfl _ rfl _ _ _ rfl _ rfl _ rfl _ rfl -;simp only[Jo.z];replace a:=a.b f;replace e:=e.b f;replace d:=ak d f;refine jd ?_;replace c0:=(f.cell (p:=⟨b,_,none⟩) (block_lt_of_cell c0)).trans c0;replace c1:=(f.cell (p:=⟨b,_,none⟩) (block_lt_of_cell c1)).trans c1;replace c2:=(f.cell (p:=⟨b,_,none⟩) (block_lt_of_cell c2)).trans c2
   replace c3:=(f.cell (p:=⟨b,_,none⟩) (block_lt_of_cell c3)).trans c3
   by_cases hb:x < R
   ·obtain rfl: -1=z:=by rw[<-hz,av hb]
    have g:=U.out
    rw[show min R x=x by omega]at g
    go_wp2_with fail
    refine(li W HX.out).mono ?_;rintro V w5 ⟨K2,s2,M2,E2,rfl,q2,B⟩;refine aF ?_ a e d B;clear a e d B;intro a e d;have j:=e.cell;have I:=e.frozen
    go_upto_region 4 with fail
    clear j I;generalize X:(((w5.setCell _ _).setCell _ _).setCell _ _).setCell _ _=w6 at *;have m:=ac.of4 e X;replace a:=a.s m;replace d:=bi d m (by omega);replace e:=m.box;clear m X;go_wp2
    go_roundw
    case rel=>
     refine⟨k+1,by omega,by go_num,K2,s2,M2,E2,a,e,?_,d.out⟩
     rw[g];exact q2
    case measure=>simp [intOf];omega
   ·have g:=U.out
    rw[show min R x=R by omega]at g
    have O:¬z < 0:=by
     rw[<-hz]
     rcases aU x R with⟨a1,a2⟩ | ⟨a1,a2⟩ | ⟨a1,a2⟩ <;> rw[a2] <;> omega
    have e0:decide (z < 0)=false:=df O
    go_wp2
    go_roundw
    case rel=>
     refine⟨k+1,by omega,by go_num,y,s1,C,u,a,e,?_,d.out⟩
     rw[g];exact q
    case measure=>simp [intOf];omega
  ·obtain rfl:k=n:=by omega
   rw[List.take_of_length_le (by rw[v.out];omega),HR.out]at q;have S:=a.cell;have J:=a.frozen;have j:=e.cell;go_wp2;clear S J j;have m:=ac.t4 a y s1 C u;exact bq (by simp[results,results102,go_sem,m.box.cell]) rfl ⟨_,_,_,_,rfl,q,(m.below d.out (by omega))⟩
theorem Kj{w:World}{A:Option Addr}{n c:Nat}{l:List Int}{r:Int}(h:Nl w A n c l)(hr:nD l=r):Calls prog 103 #[.slice A n c] w (PN w r):=by
 have HR:=ie hr;have v:=ie h.1;have Z:=h.2.1;have Y:=h.2.2.1;have F:=h;clear hr
 go_enter func103,ntmps103
 go_upto_region 1 with fail
 generalize G:w.alloc _=w1 at *;obtain⟨a,d⟩:=Bo.en1 G;replace h:=h.below d.out;clear G
 go_wp2_with fail
 refine(nV (s:=true) rfl).mono ?_;rintro V Q ⟨y,s1,C,u,rfl,q,B⟩;refine aF ?_ a h d B;clear a h d B;intro a h d
 go_upto_region 2 with fail
 have bH:=a.lt;have bN:=Nat.le_refl (World.heap Q).size;have P:=a.lt;generalize H:Q.alloc _=w3 at *;obtain⟨e,T⟩:=Bo.nw H;clear H;refine aF ?_ a h d T;clear a h d T;intro a h d
 go_wp2_with fail
 generalize Q.heap.size=g3 at *;clear h w1
 go_loopw [4] (fun i wr=>∃k:Nat,k<=n/\i= .int .i64 k/\zt w g3 (nD (l.take k)) wr) (fun i _=>n-(intOf i).toNat)
 case atStart=>exact ⟨0,Nat.zero_le _,rfl,_,_,_,_,a,e,q,d.out⟩
 case round=>
  obtain⟨k,hk,rfl,hI⟩:=hrel;obtain⟨y,s1,C,u,a,e,q,N⟩:=hI;have d:=ie N;have h:=F.below N;clear N
  by_cases hlt:k < n
  ·obtain⟨b,o,rfl,hcell⟩:=h.2.2.2 (by omega);obtain⟨D,s,M,E,c0,c1,c2,c3,W,hx⟩:=hcell k hlt;clear hcell h F;have ht:=re (l:=l) (k:=k) (by rw[v.out];exact hlt);rw[<-hx]at ht;generalize nD (l.take k)=R at *;obtain⟨x,L⟩:∃x,rk D s M E=x:=⟨_,rfl⟩;rw[L]at ht;have HX:=ie L;have U:=ie ht;obtain⟨z,hz⟩:∃z,ag x R=z:=⟨_,rfl⟩
   have HZ:=ie (show ag (rk D s M E) (rk y s1 C u)=z by rw[L,q.rk];exact hz)
   clear ht L hx
   have i1:(k:Int) < n:=by omega
   have i2:(0:Int)<=k:=by omega
   go_upto_region 5 with fail
   refine bF [0,1,2,3,4,5,6] [13,14,15,16,17,18,19] [[],[],[0,1],[2],[],[3,4],[5]] 7 0 [Jo.Fact.eq (.slice (some ⟨b,o,none⟩) n c),Jo.qi k,Jo.Fact.eq (.pointer (some ⟨b,o+k*4,none⟩)),Jo.q4 D s M E,Jo.q4 y s1 C u,Jo.qi z,Jo.Fact.eq (.bool (decide (0 < z)))] ?_ ?_
   ·iterate 3 (refine jm ?_ ?_;rotate_left)
    refine jm ?_ ?_
    ·rintro wj f _ rfl K t;simp only[Jo.z]at t|-
     have bA:=(f.cell (p:=⟨b,_,none⟩) (block_lt_of_cell c0)).trans c0
     have bB:=(f.cell (p:=⟨b,_,none⟩) (block_lt_of_cell c1)).trans c1
     have bC:=(f.cell (p:=⟨b,_,none⟩) (block_lt_of_cell c2)).trans c2
     have bD:=(f.cell (p:=⟨b,_,none⟩) (block_lt_of_cell c3)).trans c3
     go_simp;exact t.out _ _ rfl (br _ _)
    refine jm ?_ ?_;rotate_left
    refine jm ?_ ?_
    ·rintro wj f _ rfl _ rfl K t;go_simp;refine(nA W q.top HZ.out).mono ?_;rintro V wk ⟨rfl,B⟩;exact t.out _ _ rfl B
    refine jm ?_ ?_;rotate_left
    exact jo
    all_goals (rintro wj f;(repeat rintro _ rfl);intro K t;have j:=(e.b f).cell;go_simp;exact t.out _ _ rfl (br _ _))
   rintro w4 f _ rfl _ rfl _ _ _ rfl _ rfl _ rfl _ rfl -;simp only[Jo.z];replace a:=a.b f;replace e:=e.b f;replace d:=ak d f;refine jd ?_;replace c0:=(f.cell (p:=⟨b,_,none⟩) (block_lt_of_cell c0)).trans c0;replace c1:=(f.cell (p:=⟨b,_,none⟩) (block_lt_of_cell c1)).trans c1;replace c2:=(f.cell (p:=⟨b,_,none⟩) (block_lt_of_cell c2)).trans c2
   replace c3:=(f.cell (p:=⟨b,_,none⟩) (block_lt_of_cell c3)).trans c3
   by_cases hb:R < x
   ·obtain rfl:1=z:=by rw[<-hz,aC hb]
    have g:=U.out
    rw[show max R x=x by omega]at g
    go_wp2_with fail
    refine(li W HX.out).mono ?_;rintro V w5 ⟨K2,s2,M2,E2,rfl,q2,B⟩;refine aF ?_ a e d B;clear a e d B;intro a e d;have j:=e.cell;have I:=e.frozen
    go_upto_region 4 with fail
    clear j I;generalize X:(((w5.setCell _ _).setCell _ _).setCell _ _).setCell _ _=w6 at *;have m:=ac.of4 e X;replace a:=a.s m;replace d:=bi d m (by omega);replace e:=m.box;clear m X;go_wp2
    go_roundw
    case rel=>
     refine⟨k+1,by omega,by go_num,K2,s2,M2,E2,a,e,?_,d.out⟩
     rw[g];exact q2
    case measure=>simp [intOf];omega
   ·have g:=U.out
    rw[show max R x=R by omega]at g
    have O:¬0 < z:=by
     rw[<-hz]
     rcases aU x R with⟨a1,a2⟩ | ⟨a1,a2⟩ | ⟨a1,a2⟩ <;> rw[a2] <;> omega
    have e0:decide (0 < z)=false:=df O
    go_wp2
    go_roundw
    case rel=>
     refine⟨k+1,by omega,by go_num,y,s1,C,u,a,e,?_,d.out⟩
     rw[g];exact q
    case measure=>simp [intOf];omega
  ·obtain rfl:k=n:=by omega
   rw[List.take_of_length_le (by rw[v.out];omega),HR.out]at q;have S:=a.cell;have J:=a.frozen;have j:=e.cell;go_wp2;clear S J j;have m:=ac.t4 a y s1 C u;exact bq (by simp[results,results103,go_sem,m.box.cell]) rfl ⟨_,_,_,_,rfl,q,(m.below d.out (by omega))⟩
end Go.Proofs.YteigedaefgmojaaGreatDoor
namespace Go.Proofs.YteigedaefgmojaaGreatDoor
open Go.Proofs.Tryz
open Go.RowKit
set_option linter.unusedVariables false
open Go in
theorem Jo.n1{P:Program}{f:FuncId}{a:Array Value}{w:World}{Q:Ending->World->Prop}{R:Value->World->Prop}{z:Int}(h:Calls P f a w (PN w z))(hR:∀v w',(Jo.Fact.num z).P v w'->Jo.Grow w w'->R v w')(hQ:∀v w',R v w'->Q (.returned v) w':=by exact fun _ _ h=>h):Calls P f a w Q:=by
 refine h.mono ?_
 rintro e w' ⟨K,s,M,E,rfl,p,B⟩
 exact hQ _ _ (hR _ _ ⟨K,s,M,E,rfl,p⟩ B)
end Go.Proofs.YteigedaefgmojaaGreatDoor
namespace Go.Proofs.YteigedaefgmojaaGreatDoor.Jo
open Go.Proofs.Tryz
open Go Go.RowKit
set_option linter.unusedVariables false
structure Off (g:Nat) (new:Array Value) (R:TypeId) (w w':World):Prop where
 os:w'.os=w.os
 tape:w'.tape=w.tape
 output:w'.output=w.output
 size:w.heap.size<=w'.heap.size
 block:∀k,k < w.heap.size->k≠g->w'.heap[k]?=w.heap[k]?
 own:w'.heap[g]?=w.heap[g]?\/w'.heap[g]?=some (.cells new R (0,0))
section
variable {g:Nat} {new:Array Value} {R:TypeId} {w w' w'':World}
theorem Off.refl (g:Nat)(new:Array Value)(R:TypeId)(w:World):Off g new R w w:=⟨rfl,rfl,rfl,Nat.le_refl _,fun _ _ _=>rfl,.inl rfl⟩
theorem Off.drew (w:World):Off g new R w w.drew:=⟨rfl,rfl,rfl,Nat.le_refl _,fun _ _ _=>rfl,.inl rfl⟩
theorem Off.trans (h:Off g new R w w')(k:Off g new R w' w''):Off g new R w w'':=
 ⟨k.os.trans h.os,k.tape.trans h.tape,k.output.trans h.output,Nat.le_trans h.size k.size,fun i hi hn=>(k.block i (Nat.lt_of_lt_of_le hi h.size) hn).trans (h.block i hi hn),by
  rcases k.own with e | e
  ·rcases h.own with f | f
   ·exact .inl (e.trans f)
   ·exact .inr (e.trans f)
  ·exact .inr e⟩
theorem Off.of_below (h:Below w.heap.size w w')(hg:g < w.heap.size):Off g new R w w':=⟨h.os,h.tape,h.output,h.size,fun k hk _=>h.block k hk,.inl (h.block g hg)⟩
theorem Off.of_stn{old:Array Value}(S:ac w w' g old new R):Off g new R w w':=by
 have hb:=S.2.2.2 0 w (Nat.zero_le _) (Below.refl 0 w)
 exact⟨hb.os,hb.tape,hb.output,hb.size,fun k _ hn=>S.2.2.1 k hn,.inr S.2.1⟩
theorem Off.below{B:Nat}{a:World}(O:Off g new R w w')(h:Below B a w)(hB:B<=g)(hg:g < w.heap.size):Below B a w':=
 ⟨O.os.trans h.os,O.tape.trans h.tape,O.output.trans h.output,Nat.le_trans h.size O.size,fun k hk=>(O.block k (by omega) (by omega)).trans (h.block k hk)⟩
abbrev Off.b:= @Off.below
theorem _root_.Go.Proofs.YteigedaefgmojaaGreatDoor.Bo.off{k:Nat}{cs:Array Value}{T:TypeId}(X:Bo w k cs T)(hk:k≠g)(O:Off g new R w w'):Bo w' k cs T:=X.keep (O.block k X.lt hk)
theorem _root_.Go.Proofs.YteigedaefgmojaaGreatDoor.Nm.off{old:Array Value}{B:Option Addr}{m d a:Nat}(h:Nm w B m d a)(X:Bo w g old R)(hn:old.all no32=true)(O:Off g new R w w'):Nm w' B m d a:=by
 obtain⟨b,h⟩:=h
 exact⟨b,h.keep fun hm=>O.block b (h.lt hm) (fun e=>by
  obtain⟨o,_,c⟩:=h.at hm
  have:=c 0 hm
  rw[e]at this
  exact X.no hn this)⟩
theorem _root_.Go.Proofs.YteigedaefgmojaaGreatDoor.Rd.off{old:Array Value}{B:Option Addr}{m d a:Nat}(h:Rd w B m d a)(X:Bo w g old R)(hn:old.all no32=true)(O:Off g new R w w'):Rd w' B m d a:=by
 obtain⟨b,xs,h,e⟩:=h
 exact⟨b,xs,h.keep fun hm=>O.block b (h.lt hm) (fun e=>by
  obtain⟨o,_,c⟩:=h.at hm
  have:=c 0 hm
  rw[e]at this
  exact X.no hn this),e⟩
end
structure LFact (g:Nat) (new:Array Value) (R:TypeId) where
 P:Value->World->Prop
 keep:∀v w w',P v w->Off g new R w w'->P v w'
section
variable {g:Nat} {new:Array Value} {R:TypeId}
def LFact.any:LFact g new R:=⟨fun _ _=>True,fun _ _ _ h _=>h⟩
def LFact.eq (u:Value):LFact g new R:=⟨fun v _=>v=u,fun _ _ _ h _=>h⟩
def LFact.done:LFact g new R:=⟨fun _ w=>Bo w g new R,fun v w w' h o=>by
 rcases o.own with e | e
 ·exact h.keep e
 ·exact e⟩
def lphi (F:List (LFact g new R))(i:Nat)(v:Value)(w:World):Prop:=(F.getD i LFact.any).P v w
variable {P:Program} {ops:Array Oper} {Q:Exit->Act->World->Prop} {a0:Act} {T:List Nat} {ds:List (Option Tmp)} {ls:List (List Nat)} {k:Nat} {F:List (LFact g new R)} {J:World->Prop}
theorem lcons{i:Nat}{o:Oper}{r:List Nat}{di:Option Tmp}{L:List (Option Tmp × Nat)}{f:LFact g new R}(ho:ops[i]?=some o)(hdi:ds.getD i none=di)(hL:((ls.getD i []).map fun j=>(ds.getD j none,j))=L)(hf:F.getD i LFact.any=f)
  (h:∀vs w,J w->(∀j ∈ ls.getD i [],lphi F j (vs j) w)->∀K:Act->World->Prop,Shut (∀v w',f.P v w'->Off g new R w w'->K ((putl vs L a0).put di v) w')->
   if Region.wanted o (yielded ops (putl vs L a0).tmps)=true then Oper.wp P o (putl vs L a0) w K Q else K ((putl vs L a0).put o.dst undef) w)
  (hs:Steps P ops Q a0 (dstOf ds) (depOf ls) (lphi F) J (Off g new R) r):Steps P ops Q a0 (dstOf ds) (depOf ls) (lphi F) J (Off g new R) (i::r):=by
 refine Steps.cons ho (fun vs w hJ hd K hK=>?_) hs
 have e:base (dstOf ds) vs (depOf ls i) a0=putl vs L a0:=by
  rw[fs,<-hL]
  rfl
 rw[e]at hK|-
 refine h vs w hJ hd K ?_
 intro v w' h1 h2
 have:=hK.out v w' (by unfold lphi;rw[hf];exact h1) h2
 rwa [show dstOf ds i=di from hdi]at this
theorem region_late{id fuel:Nat}{w:World}{L:List (Option Tmp × Nat)}(hm:P.follows .mixedOrders=true)(hok:ok .any ops T (dstOf ds) (depOf ls) k a0.tmps.size=true)(hnd:T.Nodup)
  (hL:(T.map fun j=>(ds.getD j none,j))=L) (hfu:ops.size-T.length=fuel)
  (step:Steps P ops (NoPanic Q) a0 (dstOf ds) (depOf ls) (lphi F) (fun wj=>Off g new R w wj) (Off g new R) T)
  (fin:∀vs wj,Off g new R w wj->(∀j ∈ T,lphi F j (vs j) wj)->wpAny P .any ops (NoPanic Q) fuel (mark T ops.size) (putl vs L a0) wj):
  (Code.region id ops true).wp P Q a0 w:=by
 refine wp_region_noPanic ?_
 refine iM (T:=T) (dst:=dstOf ds) (D:=depOf ls) (k:=k) (Φ:=lphi F) (J:=fun wj=>Off g new R w wj) (St:=Off g new R) hm hok hnd (fun _ _ _ _ h=>h) (fun i _ v w w' h b=>(F.getD i LFact.any).keep v w w' h b) (fun _ _ h b=>h.trans b) (Off.drew w) step ?_
 intro vs w a hd
 have e:base (dstOf ds) vs T a0=putl vs L a0:=by
  rw[fs,<-hL]
  rfl
 rw[e,hfu]
 exact fin vs w a hd
end
end Go.Proofs.YteigedaefgmojaaGreatDoor.Jo
namespace Go.Proofs.YteigedaefgmojaaGreatDoor
open Go.Proofs.Tryz
open Go.RowKit
set_option linter.unusedVariables false
open Go in
theorem Jo.ld{g:Nat}{new:Array Value}{R:TypeId}{P:Program}{ops:Array Oper}{Q:Exit->Act->World->Prop}{a0:Act}{ds:List (Option Tmp)}{ls:List (List Nat)}{F:List (Jo.LFact g new R)}{J:World->Prop}(i:Nat)(di:Option Tmp)(L:List (Option Tmp × Nat))(f:Jo.LFact g new R){o:Oper}{r:List Nat}(ho:ops[i]?=some o)(hdi:ds.getD i none=di)(hL:((ls.getD i []).map fun j=>(ds.getD j none,j))=L)(hf:F.getD i Jo.LFact.any=f)
  (h:∀vs w,J w->(∀j ∈ ls.getD i [],Jo.lphi F j (vs j) w)->∀K:Act->World->Prop,Shut (∀v w',f.P v w'->Jo.Off g new R w w'->K ((Jo.putl vs L a0).put di v) w')->
   if Region.wanted o (yielded ops (Jo.putl vs L a0).tmps)=true then Oper.wp P o (Jo.putl vs L a0) w K Q else K ((Jo.putl vs L a0).put o.dst undef) w)
  (hs:Jo.Steps P ops Q a0 (Jo.dstOf ds) (Jo.depOf ls) (Jo.lphi F) J (Jo.Off g new R) r):Jo.Steps P ops Q a0 (Jo.dstOf ds) (Jo.depOf ls) (Jo.lphi F) J (Jo.Off g new R) (i::r):=Jo.lcons ho hdi hL hf h hs
open Go in
theorem Jo.lm{P:Program}{ops:Array Oper}{Q:Exit->Act->World->Prop}{a0:Act}{ds:List (Option Tmp)}{ls:List (List Nat)}{g:Nat}{new:Array Value}{R:TypeId}{F:List (Jo.LFact g new R)}{J:World->Prop}{i:Nat}{o:Oper}{r:List Nat}(ho:ops[i]?=some o)
  (h:∀w,J w->Jo.ad (Jo.lphi F) ds w (ls.getD i []) fun l=>∀K:Act->World->Prop,Shut (∀v w',Jo.lphi F i v w'->Jo.Off g new R w w'->K ((Jo.pv l a0).put (ds.getD i none) v) w')->
   if Region.wanted o (yielded ops (Jo.pv l a0).tmps)=true then Oper.wp P o (Jo.pv l a0) w K Q else K ((Jo.pv l a0).put o.dst undef) w)
  (hs:Jo.Steps P ops Q a0 (Jo.dstOf ds) (Jo.depOf ls) (Jo.lphi F) J (Jo.Off g new R) r):Jo.Steps P ops Q a0 (Jo.dstOf ds) (Jo.depOf ls) (Jo.lphi F) J (Jo.Off g new R) (i::r):=
 Jo.lcons ho rfl rfl rfl (fun vs w hJ hd=>by
  have:=Jo.ad_out vs _ _ (h w hJ) hd
  simp only[Jo.pv_map]at this
  exact this) hs
open Go in
theorem Jo.rl{P:Program}{ops:Array Oper}{Q:Exit->Act->World->Prop}{a0:Act}{id:Nat}{w:World}(g:Nat)(new:Array Value)(R:TypeId)(T:List Nat)(ds:List (Option Tmp))(ls:List (List Nat))(k:Nat)(fuel:Nat)(F:List (Jo.LFact g new R))
  (hm:P.follows .mixedOrders=true) (hok:Jo.ok .any ops T (Jo.dstOf ds) (Jo.depOf ls) k a0.tmps.size=true) (hnd:T.Nodup) (hfu:ops.size-T.length=fuel)
  (step:Jo.Steps P ops (NoPanic Q) a0 (Jo.dstOf ds) (Jo.depOf ls) (Jo.lphi F) (fun wj=>Jo.Off g new R w wj) (Jo.Off g new R) T)
  (fin:∀wj,Jo.Off g new R w wj->Jo.ad (Jo.lphi F) ds wj T fun l=>True->wpAny P .any ops (NoPanic Q) fuel (Jo.mark T ops.size) (Jo.pv l a0) wj):
  (Code.region id ops true).wp P Q a0 w:=
 Jo.region_late hm hok hnd rfl hfu step fun vs wj hJ hd=>by
  have:=Jo.ad_out vs _ _ (fin wj hJ) hd
  rw[Jo.pv_map]at this
  exact this trivial
abbrev Jo.k9{g:Nat}{new:Array Value}{R:TypeId}(e:Bool)(D:Int)(s:Bool)(M E:Int)(D':Int)(s':Bool)(M' E':Int):Jo.LFact g new R:=Jo.LFact.eq (.agg #[.bool e,.int .i64 D,.bool s,.int .u64 M,.int .i64 E,.int .i64 D',.bool s',.int .u64 M',.int .i64 E'])
abbrev Jo.kp{g:Nat}{new:Array Value}{R:TypeId}(h i:Nat):Jo.LFact g new R:=Jo.LFact.eq (.pointer (some ⟨h,i,none⟩))
end Go.Proofs.YteigedaefgmojaaGreatDoor
namespace Go.Proofs.YteigedaefgmojaaGreatDoor
open Go.Proofs.Tryz
set_option maxHeartbeats 4000000
open Go.RowKit
set_option linter.unusedVariables false
set_option maxRecDepth 100000
theorem Hk{w:World}{A:Option Addr}{n c:Nat}{s:Bool}{N E nC r:Int}(h:Wn w s A n c N)(hn:n<=100000)(h0:nC<=E)(h1:E-nC<=8388608)(hr:N*((2^(E-nC).toNat:Nat):Int)=r):
  Calls prog 219 #[.agg #[.bool s,.slice A n c,.int .i64 E],.int .i64 nC] w (W1 w (n+(E-nC).toNat/32+1) r):=by
 have C:=ie hr;clear hr;obtain⟨d,hd⟩:∃d,E-nC=d:=⟨_,rfl⟩
 have H:Hid (IntKind.i64.wrap (E-nC)=d):=ie (by rw[hd];exact IntWalk.i64_in _ (by omega))
 rw[hd]at h1
 have u:0<=d:=by omega
 rw[hd]at C|-;clear hd h0
 go_enter func219,ntmps219
 go_wp2_with fail
 have q:=(Bo.new w #[.bool s,.slice A n c,.int .i64 E] 94).below (af _ (.cells #[.bool false,.slice none 0 0] 43));have j:=Bo.newAt (w.alloc (.cells #[.bool s,.slice A n c,.int .i64 E] 94)) (g:=w.heap.size+1) (by simp) #[.bool false,.slice none 0 0] 43;replace h:=h.below (bV w (.cells #[.bool s,.slice A n c,.int .i64 E] 94) (.cells #[.bool false,.slice none 0 0] 43));have o:=ie (bV w (.cells #[.bool s,.slice A n c,.int .i64 E] 94) (.cells #[.bool false,.slice none 0 0] 43))
 generalize t:(w.alloc (.cells #[.bool s,.slice A n c,.int .i64 E] 94)).alloc (.cells #[.bool false,.slice none 0 0] 43)=w1 at *;clear t;go_wp2;refine bF [0,1,2,3,4,5,6,7,8,9,10,11] [6,7,8,9,10,11,12,13,14,15,16,17,0] [[],[0],[1],[],[3],[4],[],[6],[],[7,8],[5,9],[2,10],[]] 13 1 [Jo.qp w.heap.size 0,Jo.qp w.heap.size 0,Jo.qb s,Jo.qp w.heap.size 0,Jo.qp w.heap.size 1,Jo.Fact.eq (.slice A n c),Jo.qp w.heap.size 2,Jo.qi E,Jo.qi nC,Jo.qi d,Jo.Fact.nm (N.natAbs*2^d.toNat) (n+d.toNat/32+1),Jo.Fact.wn r (n+d.toNat/32+1),Jo.Fact.any] ?_ ?_
 ·iterate 2 (refine jm ?_ ?_;rotate_left)
  refine jm ?_ ?_
  ·rintro i f _ rfl K e;have D:=(q.b f).a 0 (.bool s) rfl;go_simp;exact e.out _ _ rfl (br _ _)
  iterate 2 (refine jm ?_ ?_;rotate_left)
  refine jm ?_ ?_
  ·rintro i f _ rfl K e;have F:=(q.b f).a 1 (.slice A n c) rfl;go_simp;exact e.out _ _ rfl (br _ _)
  refine jm ?_ ?_;rotate_left
  refine jm ?_ ?_
  ·rintro i f _ rfl K e;have G:=(q.b f).a 2 (.int .i64 E) rfl;go_simp;exact e.out _ _ rfl (br _ _)
  refine jm ?_ ?_;rotate_left
  refine jm ?_ ?_
  ·rintro i f _ rfl _ rfl K e;have L:=H.out;go_simp;exact e.out _ _ rfl (br _ _)
  refine jm ?_ ?_
  ·rintro i f _ rfl _ rfl K e;go_simp;refine(Kd (h.b f).1.rd (by omega) u (by omega) rfl).mono ?_;rintro J O ⟨A3,n3,c3,rfl,m,l,B⟩;exact e.out _ _ ⟨A3,n3,c3,rfl,m,l⟩ B
  refine jm ?_ ?_
  ·rintro i f _ rfl _ ⟨A3,n3,c3,rfl,m,l⟩ K e;go_simp;exact e.out _ _ ⟨s,A3,n3,c3,rfl,C.out▸Di h (Nat.pow_pos (by decide)) m,l⟩ (br _ _)
  exact jo
  all_goals (rintro i f;(repeat rintro _ rfl);intro K e;go_simp;exact e.out _ _ rfl (br _ _))
 rintro M f _ _ _ _ _ rfl _ _ _ _ _ rfl _ _ _ rfl _ rfl _ rfl _ ⟨A3,n3,c3,rfl,m,l⟩ _ ⟨s4,A4,n4,c4,rfl,x,I⟩ -;simp only[Jo.z];replace j:=j.b f;replace o:=ak o f;have y:=j.cell;have k:=j.frozen
 refine jn 12 fun K e=>?_
 go_simp;refine e.out _ _ ?_;clear e K y k;have p:=ac.t2 j s4 A4 n4 c4;replace x:=x.s p;refine jd ?_;go_wp2;exact bq (v:= .agg #[.bool s4,.slice A4 n4 c4]) (by simp[results,results219,go_sem,p.box.cell]) rfl ⟨s4,A4,n4,c4,rfl,x,I,(p.below o.out (by omega))⟩
theorem Hj{w:World}{A:Option Addr}{n c:Nat}{s:Bool}{z e k N E:Int}(hT:dL w)(h:Wr w s A n c z)(hn:n<=100000)(hN:(mk (mk z e).1 (IntKind.i64.wrap ((mk z e).2+k))).1=N)(hE:(mk (mk z e).1 (IntKind.i64.wrap ((mk z e).2+k))).2=E):
  Calls prog 176 #[.agg #[.bool s,.slice A n c,.int .i64 e],.int .i64 k] w (D1 w n N E):=by
 obtain⟨M,m⟩:∃x,(mk z e).1=x:=⟨_,rfl⟩;obtain⟨F,l⟩:∃x,(mk z e).2=x:=⟨_,rfl⟩;rw[m,l]at hN hE;obtain⟨d,hd⟩:∃x,IntKind.i64.wrap (F+k)=x:=⟨_,rfl⟩;rw[hd]at hN hE;have G:=ie hd;have t:=ie m;have r:=ie l;have I:=ie hN;have H:=ie hE;clear hN hE m l hd
 go_enter func176,ntmps176
 go_upto_region 1 with fail
 generalize o:(w.alloc _).alloc _=w1 at *;obtain⟨j,i,f⟩:=Bo.en2 o;replace hT:=hT.below f.out;replace h:=h.below f.out;clear o;have a:=j.cell
 go_wp2_with fail
 refine(oY hT h hn t.out r.out).mono ?_;rintro J L ⟨s1,A1,n1,c1,rfl,u,O,B⟩;clear a;refine aR ?_ j i hT f B;clear j i hT f B;intro j i hT f;have a:=j.cell;have p:=j.frozen
 go_upto_region 2 with fail
 clear a p;generalize D:((L.setCell _ _).setCell _ _).setCell _ _=Q at *;have g:=ac.of3 j D;replace i:=i.s g;replace hT:=hT.s g;replace u:=u.s g;replace f:=bi f g (by omega);replace j:=g.box;clear g D;have a:=j.cell;have hd:=G.out
 go_wp2_with fail
 refine(vo hT u.wr (by clear hd;omega) I.out H.out).mono ?_;rintro J R ⟨s4,A4,n4,c4,rfl,y,P,B⟩;clear a;replace i:=i.b B;replace f:=ak f B;clear B;clear hd;have C:=i.cell;have q:=i.frozen;go_wp2;clear C q;have g:=ac.mk3 i (.bool s4) (.slice A4 n4 c4) (.int .i64 E);replace y:=y.s g
 exact bq (v:= .agg #[.bool s4,.slice A4 n4 c4,.int .i64 E]) (by simp[results,results176,go_sem,g.box.cell]) rfl ⟨s4,A4,n4,c4,rfl,y,by omega,(g.below f.out (by omega))⟩
theorem xx{w:World}{A:Option Addr}{n c:Nat}{s:Bool}{z e N1 E1 r:Int}(hT:dL w)(h:Wr w s A n c z)(hn:n<=100000)(HN1:Hid ((mk z e).1=N1))(HE1:Hid ((mk z e).2=E1))(h0:0<=E1)(hb:E1<=4194304)(HR:Hid (N1*((2^(E1-0).toNat:Nat):Int)=r)):
  Calls prog 175 #[.agg #[.bool s,.slice A n c,.int .i64 e]] w (W1 w (n+131100) r):=by
 go_enter func175,ntmps175
 go_upto_region 1 with fail
 generalize k:(w.alloc _).alloc _=w1 at *;obtain⟨i,d,a⟩:=Bo.en2 k;replace hT:=hT.below a.out;replace h:=h.below a.out;clear k;have f:=i.cell
 go_wp2_with fail
 refine(oY hT h hn HN1.out HE1.out).mono ?_;rintro t u ⟨s1,A1,n1,c1,rfl,o,C,B⟩;clear f;refine aF ?_ i d a B;clear i d a B;intro i d a;have f:=i.cell;have l:=i.frozen
 go_upto_region 2 with fail
 clear f l;generalize j:((u.setCell _ _).setCell _ _).setCell _ _=E at *;have g:=ac.of3 i j;replace d:=d.s g;replace o:=o.s g;replace a:=bi a g (by omega);replace i:=g.box;clear g j;have f:=i.cell
 go_wp2_with fail
 refine(Hk o (by omega) h0 (by omega) HR.out).mono ?_;rintro t x ⟨s4,A4,n4,c4,rfl,p,D,B⟩;clear f;replace d:=d.b B;replace a:=ak a B;clear B;have q:=d.cell;have m:=d.frozen;go_wp2;clear q m;generalize j:(x.setCell _ _).setCell _ _=F at *;have g:=ac.of2 d j;replace p:=p.s g
 replace a:=bi a g (by omega);replace d:=g.box;clear g j
 have y:(E1-0).toNat/32<=131072:=by omega
 exact bq (v:= .agg #[.bool s4,.slice A4 n4 c4]) (by simp[results,results175,go_sem,d.cell]) rfl ⟨s4,A4,n4,c4,rfl,p,by omega,a.out⟩
theorem sh{w:World}{A:Option Addr}{n c:Nat}{s:Bool}{z e N1 E1 r:Int}(hT:dL w)(h:Wr w s A n c z)(hn:n<=100000)(HN1:Hid ((mk z e).1=N1))(HE1:Hid ((mk z e).2=E1))(h0:E1 < 0)(hb: -4194304<=E1)(hs:N1 < 0)(HR:Hid (-((N1.natAbs/2^(-E1).toNat+1:Nat):Int)=r)):
  Calls prog 175 #[.agg #[.bool s,.slice A n c,.int .i64 e]] w (W1 w (n+131100) r):=by
 obtain⟨d,hd⟩:∃d,-E1=d:=⟨_,rfl⟩;have I:=ie hd
 have C:0<=d:=by omega
 have D:d<=4194304:=by omega
 have y:Hid (IntKind.i64.wrap (-E1)=d):=ie (by rw[hd];exact IntWalk.i64_in _ (by omega))
 rw[hd]at HR;clear hd
 go_enter func175,ntmps175
 go_upto_region 1 with fail
 generalize k:(w.alloc _).alloc _=w1 at *;obtain⟨f,i,g⟩:=Bo.en2 k;replace hT:=hT.below g.out;replace h:=h.below g.out;clear k;have a:=f.cell
 go_wp2_with fail
 refine(oY hT h hn HN1.out HE1.out).mono ?_;rintro q G ⟨s1,A1,n1,c1,rfl,p,J,B⟩;clear a;refine aF ?_ f i g B;clear f i g B;intro f i g;have a:=f.cell;have m:=f.frozen
 go_upto_region 2 with fail
 clear a m;generalize u:((G.setCell _ _).setCell _ _).setCell _ _=O at *;have j:=ac.of3 f u;replace i:=i.s j;replace p:=p.s j;replace g:=bi g j (by omega);replace f:=j.box;clear j u
 obtain rfl:s1=true:=by rw[p.2];simp;omega
 have a:=f.cell;have x:=y.out
 go_wp2_with fail
 refine(rJ p.1.rd (by clear x;omega) rfl).mono ?_;rintro q P ⟨A3,n3,c3,rfl,E,L,B⟩;clear a;refine aF ?_ f i g B;clear f i g B;intro f i g;clear x;have a:=f.cell
 go_wp2_with fail
 refine(F8 (E.rd.below (af _ _)) (jW _) (by omega) (by omega)).mono ?_;rintro q Q ⟨A6,n6,c6,rfl,F,N,B⟩;replace B:=bt (af _ _) B;clear a;refine aF ?_ f i g B;clear f i g B;intro f i g;have a:=f.cell
 go_wp2_with fail
 refine(kH true F.rd).mono ?_;rintro q H ⟨s4,A4,n4,c4,rfl,l,M,B⟩;clear a;replace i:=i.b B;replace g:=ak g B;clear B
 replace l:Wn H s4 A4 n4 c4 r:=by
  have e:=HR.out;rw[<-e];exact l
 have t:=i.cell;have o:=i.frozen;go_wp2;clear t o;have j:=ac.t2 i s4 A4 n4 c4;replace l:=l.s j;exact bq (v:= .agg #[.bool s4,.slice A4 n4 c4]) (by simp[results,results175,go_sem,j.box.cell]) rfl ⟨s4,A4,n4,c4,rfl,l,by omega,(j.below g.out (by omega))⟩
theorem sj{w:World}{A:Option Addr}{n c:Nat}{s:Bool}{z e N1 E1 r:Int}(hT:dL w)(h:Wr w s A n c z)(hn:n<=100000)(HN1:Hid ((mk z e).1=N1))(HE1:Hid ((mk z e).2=E1))(h0:E1 < 0)(hb: -4194304<=E1)(hs:0<=N1)(HR:Hid (((N1.natAbs/2^(-E1).toNat:Nat):Int)=r)):
  Calls prog 175 #[.agg #[.bool s,.slice A n c,.int .i64 e]] w (W1 w (n+131100) r):=by
 obtain⟨d,hd⟩:∃d,-E1=d:=⟨_,rfl⟩;have H:=ie hd
 have C:0<=d:=by omega
 have D:d<=4194304:=by omega
 have y:Hid (IntKind.i64.wrap (-E1)=d):=ie (by rw[hd];exact IntWalk.i64_in _ (by omega))
 rw[hd]at HR;clear hd
 go_enter func175,ntmps175
 go_upto_region 1 with fail
 generalize k:(w.alloc _).alloc _=w1 at *;obtain⟨g,i,f⟩:=Bo.en2 k;replace hT:=hT.below f.out;replace h:=h.below f.out;clear k;have a:=g.cell
 go_wp2_with fail
 refine(oY hT h hn HN1.out HE1.out).mono ?_;rintro t F ⟨s1,A1,n1,c1,rfl,p,I,B⟩;clear a;refine aF ?_ g i f B;clear g i f B;intro g i f;have a:=g.cell;have m:=g.frozen
 go_upto_region 2 with fail
 clear a m;generalize u:((F.setCell _ _).setCell _ _).setCell _ _=M at *;have j:=ac.of3 g u;replace i:=i.s j;replace p:=p.s j;replace f:=bi f j (by omega);replace g:=j.box;clear j u
 obtain rfl:s1=false:=by rw[p.2];simp;omega
 have a:=g.cell;have x:=y.out
 go_wp2_with fail
 refine(rJ p.1.rd (by clear x;omega) rfl).mono ?_;rintro t N ⟨A3,n3,c3,rfl,E,J,B⟩;clear a;refine aF ?_ g i f B;clear g i f B;intro g i f;clear x;have a:=g.cell
 go_wp2_with fail
 refine(kH false E.rd).mono ?_;rintro t G ⟨s4,A4,n4,c4,rfl,l,L,B⟩;clear a;replace i:=i.b B;replace f:=ak f B;clear B
 replace l:Wn G s4 A4 n4 c4 r:=by
  have e:=HR.out;rw[<-e];exact l
 have q:=i.cell;have o:=i.frozen;go_wp2;clear q o;have j:=ac.t2 i s4 A4 n4 c4;replace l:=l.s j;exact bq (v:= .agg #[.bool s4,.slice A4 n4 c4]) (by simp[results,results175,go_sem,j.box.cell]) rfl ⟨s4,A4,n4,c4,rfl,l,by omega,(j.below f.out (by omega))⟩
theorem Hi{w:World}{A:Option Addr}{n c:Nat}{s:Bool}{z e r:Int}(hT:dL w)(h:Wr w s A n c z)(hn:n<=100000)(hr:sD (mk z e).1 (mk z e).2=r):
  Calls prog 175 #[.agg #[.bool s,.slice A n c,.int .i64 e]] w (W1 w (n+131100) r):=by
 have hb:=f9 z e
 have b:=(fJ z e).cases
 by_cases a:0<=(mk z e).2
 ·exact xx hT h hn (ie rfl) (ie rfl) a hb.2 (ie (by rw[<-hr,Int.sub_zero];unfold sD;rw[if_pos a]))
 ·have d:(mk z e).1.natAbs%2=1:=by
   rcases b with e1 | ⟨_,e1,_⟩
   ·rw[e1]at a;simp at a
   ·exact e1
  by_cases hs:(mk z e).1 < 0
  ·exact sh hT h hn (ie rfl) (ie rfl) (by omega) hb.1 hs (ie (by rw[<-hr,Ez (by omega) d hs]))
  ·exact sj hT h hn (ie rfl) (ie rfl) (by omega) hb.1 (by omega) (ie (by rw[<-hr,EA (by omega) (by omega)]))
set_option linter.unusedSimpArgs false
theorem Kc{w:World}{A1:Option Addr}{n c1 a r:Nat}{z:Int}(h1:Rd w A1 n c1 a)(hn:n<=1000000)(hz:z<=16777216)(hr:a*2^z.toNat=r):Calls prog 206 #[.slice A1 n c1,.int .i64 z] w (P1 w (n+z.toNat/32+1) r):=by
 subst hr
 by_cases b:z < 1
 ·rw[show z.toNat=0 by omega,Nat.pow_zero,Nat.mul_one]
  refine(DO z h1 b).mono ?_;rintro e w' ⟨A,m,c,e,h,k,B⟩;exact⟨A,m,c,e,h,by omega,B⟩
 ·have:=Ga z.toNat h1 (by omega) (by omega)
  rwa [show ((z.toNat:Nat):Int)=z by omega]at this
def PU (w:World)(z:Int)(e:Ending)(w':World):Prop:=e= .returned (.int .u64 z)/\Below w.heap.size w w'
theorem F6{a:Nat}{v:Int}(hv:v=(ae a:Int)-64):a/2^v.toNat*2^(-v).toNat=tp a:=by
 subst hv
 rcases Nat.lt_or_ge (ae a) 64 with h | h
 ·rw[show ((ae a:Int)-64).toNat=0 by omega,Nat.pow_zero,Nat.div_one,fE (by omega),show (-((ae a:Int)-64)).toNat=64-ae a by omega]
 ·rw[show (-((ae a:Int)-64)).toNat=0 by omega,Nat.pow_zero,Nat.mul_one,tJ h,show ((ae a:Int)-64).toNat=ae a-64 by omega]
theorem yl{v:Nat}(h1:4294967296<=v)(h2:v < 18446744073709551616):ah v=[v%4294967296,v/4294967296]:=by
 rw[ej (by omega),ej (by omega),show v/4294967296/4294967296=0 by omega,aD,Nat.mod_eq_of_lt (show v/4294967296 < 4294967296 by omega)]
theorem JM{w:World}{A:Option Addr}{n c a:Nat}{L T:Int}(h:Rd w A n c a)(hn:n<=100000)(h0:a≠0)(hL:((ae a:Nat):Int)=L)(hT:((tp a:Nat):Int)=T):Calls prog 258 #[.slice A n c,.int .i64 L] w (PU w T):=by
 have hb:=h.blen_le;obtain⟨v,M⟩:∃v:Int,L-64=v:=⟨_,rfl⟩;have F:=F6 (a:=a) (v:=v) (by omega)
 have k:Hid (IntKind.i64.wrap (L-64)=v):=ie (by rw[M];exact IntWalk.i64_in _ (by omega))
 have l:=iw (-v);obtain⟨q,hq⟩:∃q,a/2^v.toNat=q:=⟨_,rfl⟩;rw[hq]at F;have J:=ie hq;have t:=ie F;have g1:=je h0;have g2:=gj a
 revert hT g1 g2 t
 generalize tp a=W
 intro hT t g1 g2
 have i:=yl (v:=W) (by omega) (by omega);obtain⟨X,r⟩:∃X,W/4294967296=X:=⟨_,rfl⟩;obtain⟨Y,s⟩:∃Y,W%4294967296=Y:=⟨_,rfl⟩;rw[r,s]at i
 have P:X < 4294967296:=by omega
 have hY:Y < 4294967296:=by omega
 have m:(X:Int)*4294967296+(Y:Int)=T:=by omega
 have f:=lW X Y P hY;rw[m]at f
 have u:=ie (show IntKind.u64.wrap (X:Int)=X from IntWalk.u64_in _ (by omega))
 have x:=ie (show IntKind.u64.wrap ((X:Int)*4294967296)=(X:Int)*4294967296 from IntWalk.u64_in _ (by omega))
 have y:=ie (show IntKind.u64.wrap (Y:Int)=Y from IntWalk.u64_in _ (by omega))
 have U: -64<=v:=by omega
 have V:v<=3200000:=by omega
 have N:=ie f;have I:=ie i;clear f i m hT g1 g2 F hq M hL r s
 go_enter func258,ntmps258
 have g:=ie (Below.refl w.heap.size w);have G:=k.out
 go_wp2_with fail
 refine(rJ h (by omega) J.out).mono ?_;rintro O w2 ⟨A2,n2,c2,rfl,p2,k2,B⟩;replace h:=h.b B;replace g:=ak g B;clear B;clear G;have H:=l.out
 go_wp2_with fail
 refine(Kc p2.rd (by omega) (by omega) t.out).mono ?_;rintro O w3 ⟨A3,n3,c3,rfl,Z,k3,B⟩;replace g:=ak g B;clear B;clear H k l J t;obtain⟨b,hs⟩:=Z;have hl:=hs.len;rw[I.out]at hs hl
 obtain rfl:2=n3:=hl
 obtain⟨o,rfl,E⟩:=hs.at (by decide);have c0:=E 0 (by decide);have c1:=E 1 (by decide);rw[List.getD_cons_zero,Nat.add_zero]at c0;rw[List.getD_cons_succ,List.getD_cons_zero]at c1;clear E hs I
 go_upto_region 3 with fail
 refine bF [0,1,2,3,4,5,6,7,8,9,10] [16,17,18,19,20,21,22,23,24,25,5] [[],[0],[1],[2],[3],[],[5],[6],[7],[4,8],[9]] 11 0 [Jo.Fact.eq (.slice (some ⟨b,o,none⟩) 2 c3),Jo.Fact.eq (.pointer (some ⟨b,o+1,none⟩)),Jo.Fact.eq (.int .u32 (X:Int)),Jo.Fact.eq (.int .u64 (X:Int)),Jo.Fact.eq (.int .u64 ((X:Int)*4294967296)),Jo.Fact.eq (.slice (some ⟨b,o,none⟩) 2 c3),Jo.Fact.eq (.pointer (some ⟨b,o,none⟩)),Jo.Fact.eq (.int .u32 (Y:Int)),Jo.Fact.eq (.int .u64 (Y:Int)),Jo.Fact.eq (.int .u64 T),Jo.Fact.eq (.int .u64 T)] ?_ ?_
 ·iterate 2 (refine jm ?_ ?_;rotate_left)
  refine jm ?_ ?_
  ·rintro j e _ rfl K d;simp only[Jo.z]at d|-
   have C:=(e.cell (p:=⟨b,_,none⟩) (block_lt_of_cell c0)).trans c0
   have D:=(e.cell (p:=⟨b,_,none⟩) (block_lt_of_cell c1)).trans c1
   go_simp;exact d.out _ _ rfl (br _ _)
  refine jm ?_ ?_
  ·rintro j e _ rfl K d;have Q:=u.out;go_simp;exact d.out _ _ rfl (br _ _)
  refine jm ?_ ?_
  ·rintro j e _ rfl K d;have R:=x.out;go_simp;exact d.out _ _ rfl (br _ _)
  iterate 2 (refine jm ?_ ?_;rotate_left)
  refine jm ?_ ?_
  ·rintro j e _ rfl K d;simp only[Jo.z]at d|-
   have C:=(e.cell (p:=⟨b,_,none⟩) (block_lt_of_cell c0)).trans c0
   have D:=(e.cell (p:=⟨b,_,none⟩) (block_lt_of_cell c1)).trans c1
   go_simp;exact d.out _ _ rfl (br _ _)
  refine jm ?_ ?_
  ·rintro j e _ rfl K d;have S:=y.out;go_simp;exact d.out _ _ rfl (br _ _)
  refine jm ?_ ?_
  ·rintro j e _ rfl _ rfl K d;have f:=N.out;go_simp;exact d.out _ _ rfl (br _ _)
  refine jm ?_ ?_;rotate_left
  exact jo
  all_goals (rintro j e;(repeat rintro _ rfl);intro K d;go_simp;exact d.out _ _ rfl (br _ _))
 rintro w4 e _ rfl _ _ _ rfl _ rfl _ rfl _ rfl _ _ _ rfl _ rfl _ rfl _ rfl -;simp only[Jo.z];replace g:=ak g e;refine jd ?_;go_wp2
 go_ret
 exact⟨rfl,g.out⟩
theorem rR{w:World}{A:Option Addr}{n c v:Nat}{T:Int}(h:Nm w A n c v)(hv:v < 18446744073709551616)(hT:(v:Int)=T):Calls prog 185 #[.slice A n c] w (PU w T):=by
 have l:=ie hT;clear hT
 have p:n<=2:=by
  have hl:=h.len
  have:(ah v).length<=2:=aH (by simpa using hv)
  omega
 obtain⟨b,hs⟩:=h;have f:=ie (aB v)
 revert hs f
 generalize ah v=xs
 intro hs f
 go_enter func185,ntmps185
 go_wp2
 go_loop [3,4] (fun u i=>∃k:Nat,k<=n/\i= .int .i64 ((k:Int)-1)/\u= .int .u64 (val (xs.drop k):Nat)) (fun _ i=>(intOf i+1).toNat)
 case atStart=>exact ⟨n,Nat.le_refl _,rfl,by rw[List.drop_of_length_le (by rw[hs.len];omega)];rfl⟩
 case round=>
  obtain⟨k,q,rfl,rfl⟩:=hrel
  rcases Nat.eq_zero_or_pos k with e | m
  ·subst e;rw[List.drop_zero,f.out,l.out]
   have c0:(((0:Nat):Int)-1)= -1:=rfl
   rw[c0];go_wp2
   go_ret
   exact⟨rfl,Below.refl _ _⟩
  ·obtain⟨o,rfl,hcell⟩:=hs.at (by omega);have a:=hcell (k-1) (by omega);have hx:=hs.lim.getD (k-1)
   have d:Hid (val (xs.drop (k-1))=xs.getD (k-1) 0+4294967296*val (xs.drop k)):=ie (by rw[aW (by rw[hs.len];omega),show k-1+1=k by omega])
   have g:val (xs.drop k) < 4294967296:=by
    have:=bI (hs.lim.drop k)
    rw[List.length_drop,hs.len]at this;exact Nat.lt_of_lt_of_le this (Nat.pow_le_pow_right (n:=4294967296) (j:=1) (by decide) (by omega))
   have hi:((k:Int)-1).toNat=k-1:=by omega
   clear hcell
   revert a hx d g
   generalize xs.getD (k-1) 0=x;generalize val (xs.drop k)=u
   intro a hx d g
   go_wp2
   go_round
   case rel=>exact ⟨k-1,by omega,wW (by omega),wW (by have:=d.out;omega)⟩
   case measure=>simp [intOf];omega
def I6 (w:World)(r:Int)(t:Bool)(e:Ending)(w':World):Prop:=∃K s M E,e= .returned (.tuple #[.agg #[.int .i64 K,.bool s,.int .u64 M,.int .i64 E],.bool t])/\Fq K s M E r/\Below w.heap.size w w'
theorem yD{w:World}{A:Option Addr}{n c a:Nat}{s:Bool}{E L x r:Int}{t:Bool}(h:Rd w A n c a)(hn:n<=100000)(b1: -4194304<=E)(b2:E<=4194304)(h0:a=0)(hr:0=r)(ht:true=t):
  Calls prog 250 #[.agg #[.bool s,.slice A n c,.int .i64 E]] w (I6 w r t):=by
 have hb:=h.blen_le;subst h0;subst hr;subst ht
 go_enter func250,ntmps250
 go_upto_region 1 with fail
 generalize g:(w.alloc _).alloc _=w1 at *;obtain⟨f,d,e⟩:=Bo.en2 g;replace h:=h.below e.out;clear g;have b:=f.cell
 go_wp2_with fail
 refine(jg (z:=0) h rfl).mono ?_;rintro l m ⟨rfl,B⟩;clear b;refine aF ?_ f d e B;clear f d e B;intro f d e;have j:=d.cell;have i:=d.frozen;have b:=f.cell;go_wp2;clear j i b;have k:=ac.t4 d 0 false 0 0
 exact bq (v:= .tuple #[.agg #[.int .i64 0,.bool false,.int .u64 0,.int .i64 0],.bool true]) (by simp[results,results250,go_sem,k.box.cell]) rfl ⟨_,_,_,_,rfl,Fq.nought,(k.below e.out (by omega))⟩
theorem Cf{w:World}{A:Option Addr}{n c a:Nat}{s:Bool}{E L x r:Int}(h:Rd w A n c a)(hn:n<=100000)(b1: -4194304<=E)(b2:E<=4194304)(h0:a≠0)(hL:((ae a:Nat):Int)=L)(hx:E+L-64=x)(hx3:1048576 < x)(hr:aj s 19342822337206103650074624=r):
  Calls prog 250 #[.agg #[.bool s,.slice A n c,.int .i64 E]] w (I6 w r false):=by
 have hb:=h.blen_le
 have h1:ae a≠0:=fun e=>h0 (aL.1 e)
 have p:=ie hL;have k:=iw (E+L)
 have l:Hid (IntKind.i64.wrap (E+L-64)=x):=ie (by rw[hx];exact IntWalk.i64_in _ (by omega))
 have e0:(L==0)=false:=by
  have:L≠0:=by omega
  simpa using this
 have t:Fq 1 s 18446744073709551615 1048576 r:=Fq.fin (by decide) (by decide) (by decide) (by decide) hr
 clear hL hx hr h1
 go_enter func250,ntmps250
 go_upto_region 1 with fail
 generalize i:(w.alloc _).alloc _=w1 at *;obtain⟨d,f,g⟩:=Bo.en2 i;replace h:=h.below g.out;clear i;have b:=d.cell
 go_wp2_with fail
 refine(jg h p.out).mono ?_;rintro q z ⟨rfl,B⟩;clear b;refine aF ?_ d f g B;clear d f g B;intro d f g;have u:=k.out;have y:=l.out;have b:=d.cell
 go_wp2_with fail
 refine(nH).mono ?_;rintro q C ⟨rfl,B⟩;clear b;refine aF ?_ d f g B;clear d f g B;intro d f g;have m:=f.cell;have j:=f.frozen;have b:=d.cell;go_wp2;clear m j b;have o:=ac.t4 f 1 s 18446744073709551615 1048576
 exact bq (v:= .tuple #[.agg #[.int .i64 1,.bool s,.int .u64 18446744073709551615,.int .i64 1048576],.bool false]) (by simp[results,results250,go_sem,o.box.cell]) rfl ⟨_,_,_,_,rfl,t,(o.below g.out (by omega))⟩
theorem Cg{w:World}{A:Option Addr}{n c a:Nat}{s:Bool}{E L x:Int}(h:Rd w A n c a)(hn:n<=100000)(b1: -4194304<=E)(b2:E<=4194304)(h0:a≠0)(hL:((ae a:Nat):Int)=L)(hx:E+L-64=x)(hx3:x < -1048576):
  Calls prog 250 #[.agg #[.bool s,.slice A n c,.int .i64 E]] w (I6 w 0 false):=by
 have hb:=h.blen_le
 have h1:ae a≠0:=fun e=>h0 (aL.1 e)
 have p:=ie hL;have k:=iw (E+L)
 have l:Hid (IntKind.i64.wrap (E+L-64)=x):=ie (by rw[hx];exact IntWalk.i64_in _ (by omega))
 have e0:(L==0)=false:=by
  have:L≠0:=by omega
  simpa using this
 clear hL hx h1
 go_enter func250,ntmps250
 go_upto_region 1 with fail
 generalize i:(w.alloc _).alloc _=w1 at *;obtain⟨g,d,f⟩:=Bo.en2 i;replace h:=h.below f.out;clear i;have b:=g.cell
 go_wp2_with fail
 refine(jg h p.out).mono ?_;rintro t u ⟨rfl,B⟩;clear b;refine aF ?_ g d f B;clear g d f B;intro g d f;have q:=k.out;have r:=l.out;have m:=d.cell;have j:=d.frozen;have b:=g.cell;go_wp2;clear m j b;have o:=ac.t4 d 0 false 0 0
 exact bq (v:= .tuple #[.agg #[.int .i64 0,.bool false,.int .u64 0,.int .i64 0],.bool false]) (by simp[results,results250,go_sem,o.box.cell]) rfl ⟨_,_,_,_,rfl,Fq.nought,(o.below f.out (by omega))⟩
theorem Ch{w:World}{A:Option Addr}{n c a:Nat}{s:Bool}{E L x r:Int}{t:Bool}(h:Rd w A n c a)(hn:n<=100000)(b1: -4194304<=E)(b2:E<=4194304)(h0:a≠0)(hL:((ae a:Nat):Int)=L)(hx:E+L-64=x)(hx3: -1048576<=x)(hx4:x<=1048576)(hr:aj s ((tp a:Int)-9223372036854775808+1+(x+1048576)*9223372036854775808)=r)(ht:decide (L<=64)=t):
  Calls prog 250 #[.agg #[.bool s,.slice A n c,.int .i64 E]] w (I6 w r t):=by
 have hb:=h.blen_le
 have h1:ae a≠0:=fun e=>h0 (aL.1 e)
 have J:=ie hL;have p:=iw (E+L)
 have q:Hid (IntKind.i64.wrap (E+L-64)=x):=ie (by rw[hx];exact IntWalk.i64_in _ (by omega))
 have e0:(L==0)=false:=by
  have:L≠0:=by omega
  simpa using this
 obtain⟨T,y⟩:∃T,((tp a:Nat):Int)=T:=⟨_,rfl⟩;rw[y]at hr
 have P:Fq 1 s T x r:=by
  have g1:=je h0;have g2:=gj a;exact Fq.fin (by omega) (by omega) hx3 hx4 hr
 have N:=ie y;have o:=ie ht;clear hL hx hr h1 y ht
 go_enter func250,ntmps250
 go_upto_region 1 with fail
 generalize m:(w.alloc _).alloc _=w1 at *;obtain⟨g,k,l⟩:=Bo.en2 m;replace h:=h.below l.out;clear m;have i:=g.cell
 go_wp2_with fail
 refine(jg h J.out).mono ?_;rintro O X ⟨rfl,B⟩;clear i;refine aR ?_ g k h l B;clear g k h l B;intro g k h l;have D:=p.out;have F:=q.out;have i:=g.cell
 go_upto_region 9 with fail
 clear D F;clear i;refine Jo.rl (w.heap.size+1) #[.int .i64 1,.bool s,.int .u64 T,.int .i64 x] 24 [0,1,2,3,4,5,6,7,8,9,10,11,12] [some 27,some 28,some 29,some 30,some 31,some 32,some 33,some 34,some 35,some 36,some 37,some 38,none,some 3] [[],[0],[1],[],[3],[4],[],[5,6],[],[2,7,8],[],[10],[9],[]] 14 1 [Jo.kp w.heap.size 0,Jo.kp w.heap.size 0,Jo.LFact.eq (.bool s),Jo.kp w.heap.size 0,Jo.kp w.heap.size 1,Jo.LFact.eq (.slice A n c),Jo.LFact.eq (.int .i64 L),Jo.LFact.eq (.int .u64 T),Jo.LFact.eq (.int .i64 x),Jo.LFact.eq (.agg #[.int .i64 1,.bool s,.int .u64 T,.int .i64 x]),Jo.LFact.eq (.int .i64 L),Jo.LFact.eq (.bool t),Jo.LFact.done,Jo.LFact.any] (by kernel_rfl) (by kernel_rfl) (by decide) rfl ?_ ?_
 ·refine Jo.lm rfl ?_ ?_
  ·rintro f d K b;go_simp;exact b.out _ _ rfl (Jo.Off.refl _ _ _ _)
  refine Jo.lm rfl ?_ ?_
  ·rintro f d _ rfl K b;go_simp;exact b.out _ _ rfl (Jo.Off.refl _ _ _ _)
  refine Jo.lm rfl ?_ ?_
  ·rintro f d _ rfl K b;simp only[Jo.z]at b|-;replace g:=g.off (by omega) d;have i:=g.cell;go_simp;exact b.out _ _ rfl (Jo.Off.refl _ _ _ _)
  refine Jo.lm rfl ?_ ?_
  ·rintro f d K b;go_simp;exact b.out _ _ rfl (Jo.Off.refl _ _ _ _)
  refine Jo.lm rfl ?_ ?_
  ·rintro f d _ rfl K b;go_simp;exact b.out _ _ rfl (Jo.Off.refl _ _ _ _)
  refine Jo.lm rfl ?_ ?_
  ·rintro f d _ rfl K b;simp only[Jo.z]at b|-;replace g:=g.off (by omega) d;have i:=g.cell;go_simp;exact b.out _ _ rfl (Jo.Off.refl _ _ _ _)
  refine Jo.lm rfl ?_ ?_
  ·rintro f d K b;go_simp;exact b.out _ _ rfl (Jo.Off.refl _ _ _ _)
  refine Jo.lm rfl ?_ ?_
  ·rintro f d _ rfl _ rfl K b;go_simp;refine(JM (h.off k (by simp[no32]) d) hn h0 J.out N.out).mono ?_;rintro O Y ⟨rfl,B⟩;exact b.out _ _ rfl (Jo.Off.of_below B (Nat.lt_of_lt_of_le k.lt d.size))
  refine Jo.lm rfl ?_ ?_
  ·rintro f d K b;go_simp;exact b.out _ _ rfl (Jo.Off.refl _ _ _ _)
  refine Jo.lm rfl ?_ ?_
  ·rintro f d _ rfl _ rfl _ rfl K b;go_simp;exact b.out _ _ rfl (Jo.Off.refl _ _ _ _)
  refine Jo.lm rfl ?_ ?_
  ·rintro f d K b;go_simp;exact b.out _ _ rfl (Jo.Off.refl _ _ _ _)
  refine Jo.lm rfl ?_ ?_
  ·rintro f d _ rfl K b;have C:=o.out;go_simp
   exact b.out _ _ (by first | rfl | (show Value.bool _=Value.bool _;rw[C])) (Jo.Off.refl _ _ _ _)
  refine Jo.lm rfl ?_ ?_
  ·rintro f d _ rfl K b;simp only[Jo.z]at b|-
   obtain⟨G,H,v2,I,j⟩:∃G H v2 I,Bo f (w.heap.size+1) #[G,H,v2,I] 24:=by
    rcases d.own with e | e
    ·exact⟨_,_,_,_,k.keep e⟩
    ·exact⟨_,_,_,_,e⟩
   have Z:=j.a 0 (G) rfl;have S:=j.frozen 0;have y1:=j.a 1 (H) rfl;have U:=j.frozen 1;have y2:=j.a 2 (v2) rfl;have V:=j.frozen 2;have y3:=j.a 3 (I) rfl;have W:=j.frozen 3;go_simp;have M:=ac.t4 j 1 s T x;exact b.out undef _ M.box (Jo.Off.of_stn M)
  exact jo
 rintro R d _ _ _ _ _ rfl _ _ _ _ _ rfl _ rfl _ rfl _ rfl _ rfl _ rfl _ rfl Q u -;simp only[Jo.z];replace l:=ie (d.below l.out (by omega) k.lt)
 replace k:Bo R (w.heap.size+1) #[.int .i64 1,.bool s,.int .u64 T,.int .i64 x] 24:=u
 refine jn 13 fun K b=>?_
 go_simp;refine b.out _ _ ?_;clear b K;refine jd ?_;go_wp2;exact bq (v:= .tuple #[.agg #[.int .i64 1,.bool s,.int .u64 T,.int .i64 x],.bool t]) (by simp[results,results250,go_sem,k.cell]) rfl ⟨_,_,_,_,rfl,P,l.out⟩
theorem JL{w:World}{A:Option Addr}{n c a:Nat}{s:Bool}{E r:Int}{t:Bool}(h:Rd w A n c a)(hn:n<=100000)(b1: -4194304<=E)(b2:E<=4194304)(hr:aj s (lo a E)=r)(ht:ext a E=t):
  Calls prog 250 #[.agg #[.bool s,.slice A n c,.int .i64 E]] w (I6 w r t):=by
 unfold lo at hr
 unfold ext at ht
 by_cases b:a=0
 ·rw[if_pos b]at hr
  have e0:(a==0)=true:=by simpa using b
  rw[e0]at ht
  exact yD (L:=0) (x:=0) h hn b1 b2 b (by rw[<-hr];cases s <;> rfl) ht
 ·rw[if_neg b]at hr
  have e0:(a==0)=false:=by simpa using b
  rw[e0,Bool.false_or]at ht
  have hx:E+((ae a:Nat):Int)-64=xp a E:=rfl
  by_cases c1:1048576 < xp a E
  ·rw[if_pos c1]at hr
   rw[show decide (xp a E<=1048576)=false from df (by omega),Bool.false_and]at ht
   subst ht;exact Cf h hn b1 b2 b rfl hx c1 hr
  ·rw[if_neg c1]at hr
   rw[show decide (xp a E<=1048576)=true from dt (by omega),Bool.true_and]at ht
   by_cases c2:xp a E < -1048576
   ·rw[if_pos c2]at hr
    rw[show decide (-1048576<=xp a E)=false from df (by omega),Bool.false_and]at ht
    subst ht
    obtain rfl:0=r:=by rw[<-hr];cases s <;> rfl
    exact Cg h hn b1 b2 b rfl hx c2
   ·rw[if_neg c2]at hr
    rw[show decide (-1048576<=xp a E)=true from dt (by omega),Bool.true_and]at ht
    refine Ch h hn b1 b2 b rfl hx (by omega) (by omega) hr ?_;rw[<-ht,Bool.eq_iff_iff]
    simp
    omega
