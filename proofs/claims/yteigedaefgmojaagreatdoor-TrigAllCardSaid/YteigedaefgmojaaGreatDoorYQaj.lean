/-
 Contracts that the proof rests on.
-/
import Derived.Test.YteigedaefgmojaaGreatDoorYQaf
import Derived.Test.YteigedaefgmojaaGreatDoorYQag
namespace Go.Proofs.YteigedaefgmojaaGreatDoor
open Go.Proofs.Tryz
set_option maxHeartbeats 4000000
open Go.RowKit
set_option linter.unusedVariables false
theorem Ar.nm{w:World}{base n c v:Nat}{A:Option Addr}(h:Ar w base A n c (ag v))(hn:n<=1099511627776):Nm w A n c v:=by
 obtain⟨g,h⟩:=h.slice hn;exact⟨g,h⟩
theorem eS{w:World}{A:Option Addr}{n c v:Nat}(h1:Rd w A n c v):Calls prog 192 #[.slice A n c] w (P1 w n v):=by
 have y:=h1.limbs_le;obtain⟨b,xs,h,rfl⟩:=h1;have E:=h.cap;have hb:=h.big
 go_enter func192,ntmps192
 go_wp2
 go_loop [3] (fun i=>∃k:Nat,k<=n/\i= .int .i64 k/\af (xs.drop k)=0) (fun i=>(intOf i).toNat)
 case atStart=>exact ⟨n,Nat.le_refl _,rfl,by rw[List.drop_of_length_le (by rw[h.len];omega)];rfl⟩
 case round=>
  obtain⟨k,t,rfl,hz⟩:=hrel;have r:=Lib.hid hz;clear hz
  by_cases d:0 < k/\xs.getD (k-1) 0=0
  ·obtain⟨d,hx⟩:=d;obtain⟨o,rfl,hcell⟩:=h.at (by omega);have g:=hcell (k-1) (by omega)
   have hi:((k:Int)-1).toNat=k-1:=by omega
   clear hcell;rw[hx]at g;have u:=Lib.hid hx;clear hx;go_wp2
   go_round
   case rel=>
    refine⟨k-1,by omega,by go_num,?_⟩
    have hl:=h.len
    rw[aO (by omega),show k-1+1=k by omega,r.out,u.out]
   case measure=>simp [intOf];omega
  ·have s:=dF h.lim (by have:=h.len;omega) r.out (fun h0 e=>d ⟨h0,e⟩)
   have f:=h.take t;rw[s]at f
   have D:Hid (k=(ag (af xs)).length):=by show k=_;rw[f.len]
   have m:=f.len
   have p:Hid (∀A2 c2 w',Ar w' w.heap.size A2 (0+k) c2 ([]++ag (af xs))->Below w.heap.size w w'->P1 w n (af xs) (.returned (.slice A2 k c2)) w'):=by
    intro A2 c2 w' l a
    rw[Nat.zero_add,List.nil_append]at l;exact⟨A2,k,c2,rfl,l.nm (by omega),t,a⟩
   have q:=Lib.hid f;clear s f m
   by_cases z:0 < k
   ·obtain⟨o,rfl,hcell⟩:=h.at (by omega);have g:=hcell (k-1) (by omega)
    have hi:((k:Int)-1).toNat=k-1:=by omega
    have j:((xs.getD (k-1) 0:Nat):Int)≠0:=by
     intro e
     exact d ⟨z,by omega⟩
    clear d hcell
    revert g j
    generalize xs.getD (k-1) 0=x
    intro g j
    have B:((x:Int)==0)=false:=by simpa using j
    go_wp2_with (with_reducible refine bV rfl (.const (.slice none 0 0)) (.tmp 20) 41 rfl Tryz.underlying41 rfl rfl (Ar.nil w w.heap.size) q.out (by omega) (Nat.le_refl _) ?_;intro A2 c2 C l a)
    go_ret
    exact p.out _ _ _ l a
   ·obtain rfl:k=0:=by omega
    go_wp2_with (with_reducible refine bV rfl (.const (.slice none 0 0)) (.tmp 20) 41 rfl Tryz.underlying41 rfl rfl (Ar.nil w w.heap.size) q.out (by omega) (Nat.le_refl _) ?_;intro A2 c2 C l a)
    go_ret
    exact p.out _ _ _ l a
theorem G5 (w:World)(b:Nat)(A:Option Addr)(n c:Nat)(xs:List Nat)(h:Sl w b A n c xs)(i:Nat)(hi:i<=1099511627776):
  Calls prog 193 #[.slice A n c,.int .i64 (i:Int)] w fun e w'=>e= .returned (.int .u64 ((xs.getD i 0:Nat):Int))/\w=w':=by
 have hb:=h.big
 by_cases d:i < n
 ·obtain⟨o,rfl,f⟩:=h.at (by omega);have a:=f i d;have hx:=h.lim.getD i;clear f h
  revert a hx
  generalize xs.getD i 0=x
  intro a hx
  go_enter func193,ntmps193
  go_wp2
  go_ret
  exact⟨rfl,rfl⟩
 ·rw[bS (by rw[h.len];omega)];clear h
  go_enter func193,ntmps193
  go_wp2
  go_ret
  exact⟨rfl,rfl⟩
def rc (w:World)(xs ys:List Nat)(k cy:Nat)(v:Value)(wr:World):Prop:=
 ∃A c zs,v= .slice A k c/\Ar wr w.heap.size A k c zs/\Below w.heap.size w wr/\cy<=1/\af zs+cy*4294967296^k=af (xs.take k)+af (ys.take k)
theorem Fo{w:World}{A1 A2:Option Addr}{n m c1 c2 a b:Nat}(h1:Rd w A1 n c1 a)(h2:Rd w A2 m c2 b)(hn:n<=1073741824)(hm:m<=1073741824):
  Calls prog 136 #[.slice A1 n c1,.slice A2 m c2] w (P1 w (n+m+1) (a+b)):=by
 have hL:=gX h1.bound h2.bound;obtain⟨W,xs,h1,rfl⟩:=h1;obtain⟨X,ys,h2,rfl⟩:=h2;have P:=Lib.hid h1.len;have Q:=Lib.hid h2.len
 go_enter func136,ntmps136
 go_wp2
 go_loopw [5,6,7] (fun v u i wr=>∃k cy:Nat,k<=max n m+1/\(max n m < k->cy=0)/\i= .int .i64 k/\u= .int .u64 cy/\rc w xs ys k cy v wr) (fun _ _ i _=>n+m+2-(intOf i).toNat)
 case atStart=>exact ⟨0,0,Nat.zero_le _,fun _=>rfl,rfl,rfl,none,0,[],rfl,Ar.nil _ _,Below.refl _ _,by omega,by simp[af]⟩
 case round=>
  obtain⟨k,cy,hk,r,rfl,rfl,Y⟩:=hrel;obtain⟨A,c,zs,rfl,S,D,Z,s⟩:=Y;have G:=Lib.hid s;have H:=Lib.hid S;have l:=Lib.hid D;clear s S D
  have bB:k<=2147483649:=by omega
  by_cases J:k < n\/k < m\/0 < cy
  ·have E:k<=max n m:=by
    rcases Nat.lt_or_ge (max n m) k with e | e
    ·have:=r e;omega
    ·exact e
   have s1:=h1.below l.out;have s2:=h2.below l.out;have R:=h1.lim.getD k
   have C:=h2.lim.getD k
   have o:=Lib.hid (G5 wr W A1 n c1 xs s1 k (by omega));have p:=Lib.hid (G5 wr X A2 m c2 ys s2 k (by omega))
   have d:Hid (∀x y,xs.getD k 0=x->ys.getD k 0=y->af (xs.take (k+1))+af (ys.take (k+1))=(af (xs.take k)+4294967296^k*x)+(af (ys.take k)+4294967296^k*y)/\(n<=k->x=0)/\(m<=k->y=0)):=fun x y hx hy=>by
    refine⟨by rw[aL,aL,hx,hy],fun h=>?_,fun h=>?_⟩
    ·rw[<-hx];exact bS (by rw[P.out];exact h)
    ·rw[<-hy];exact bS (by rw[Q.out];exact h)
   have B:=Lib.hid (d.out _ _ rfl rfl)
   clear d s1 s2
   revert o p R C B
   generalize xs.getD k 0=x;generalize ys.getD k 0=y
   intro R C o p d
   obtain⟨t,ht,e1⟩:∃t:Nat,t=(x+y+cy)%4294967296/\((x:Int)+y+cy)%4294967296=t:=⟨_,rfl,by omega⟩
   obtain⟨u,T,e2⟩:∃u:Nat,u=(x+y+cy) /4294967296/\((x:Int)+y+cy) /4294967296=u:=⟨_,rfl,by omega⟩
   have bt:t < 4294967296:=by omega
   have e3:(t:Int)%4294967296=t:=by omega
   have U:Hid (∀A3 c3 z,Ar z w.heap.size A3 (k+1) c3 (zs ++[t])->Below w.heap.size (wr.alloc (.cells #[.int .u32 (t:Int)] 103)) z->k+1<=max n m+1/\(max n m < k+1->u=0)/\rc w xs ys (k+1) u (.slice A3 (k+1) c3) z):=by
    intro A3 c3 z f j
    refine⟨by omega,fun h=>?_,A3,c3,_,rfl,f,(l.out.alloc l.out.size _).trans j,by omega,?_⟩
    ·have M:n<=k:=by omega
     have N:m<=k:=by omega
     have:=d.out.2.1 M
     have:=d.out.2.2 N
     omega
    ·rw[da,H.out.len,d.out.1,Nat.pow_succ,ht,T];exact nW G.out
   clear ht T G d r;have O:=lit1 wr t bt
   go_wp2_with (first
    | (go_at_call 193;((with_reducible refine o.out.mono ?_);rintro e w' ⟨rfl,rfl⟩))
    | (go_at_call 193;((with_reducible refine p.out.mono ?_);rintro e w' ⟨rfl,rfl⟩))
    | (with_reducible refine bV rfl (.tmp 34) (.tmp 38) 41 rfl Tryz.underlying41 rfl rfl (H.out.alloc _) O (by omega) (l.out.alloc l.out.size _).size ?_;intro A3 c3 z f j;have q:=Lib.hid (U.out A3 c3 z f j);clear f j))
   all_goals
    go_roundw
    case rel=>exact ⟨k+1,u,q.out.1,q.out.2.1,by go_num,by first | rfl | rw[e2],q.out.2.2⟩
    case measure=>simp [intOf];omega
  ·have L:n<=k:=by omega
   have E:m<=k:=by omega
   obtain rfl:cy=0:=by omega
   obtain⟨g,hs⟩:=H.out.slice (by omega);have s:=G.out;rw[aq (by rw[P.out];exact L),aq (by rw[Q.out];exact E),Nat.zero_mul,Nat.add_zero]at s;have V:=Lib.hid (eS ⟨g,zs,hs,s⟩);clear s G J r hs
   go_wp2_with (go_at_call 192;((with_reducible refine V.out.mono ?_);rintro e w4 ⟨A4,n4,c4,rfl,F,bA,I⟩))
   go_ret
   have:=F.len
   exact⟨A4,n4,c4,rfl,F,by omega,l.out.trans (I.mono l.out.size)⟩
theorem G6{w:World}{A1 A2:Option Addr}{n m c1 c2 a b:Nat}{z:Int}(h1:Rd w A1 n c1 a)(h2:Rd w A2 m c2 b)(hz:ah (a:Int) (b:Int)=z):
  Calls prog 194 #[.slice A1 n c1,.slice A2 m c2] w (PI w z):=by
 have s:=Lib.hid (eS h1);have u:=Lib.hid hz;clear hz
 go_enter func194,ntmps194
 go_wp2_with (go_at_call 192;((with_reducible refine s.out.mono ?_);rintro e W ⟨A3,p,c3,rfl,s3,S,D⟩;replace h2:=h2.below D;have d:=Lib.hid D;clear D))
 refine(eS h2).mono ?_;rintro e O ⟨A4,q,c4,rfl,s4,T,E⟩;replace s3:=s3.below E;replace d:=Lib.hid (d.out.trans (E.mono d.out.size));clear E s h1 h2;have B:=s3.len;have C:=s4.len;obtain⟨P,s3⟩:=s3;obtain⟨Q,s4⟩:=s4;have M:=s3.big;have N:=s4.big
 by_cases l:p=q
 ·subst l
  have A:((p:Int) !=(p:Int))=false:=by simp
  have o:=Lib.hid B;have r:=Lib.hid C;clear B C
  go_wp2_with fail
  go_loopw [7] (fun i wr=>∃k t:Nat,k<=p/\i= .int .i64 ((p:Int)-1-k)/\wr=O.drewN t/\af ((ag a).drop (p-k))=af ((ag b).drop (p-k))) (fun i _=>(intOf i+1).toNat)
  case atStart=>exact ⟨0,0,Nat.zero_le _,by go_num,rfl,by rw[List.drop_of_length_le (by rw[o.out];omega),List.drop_of_length_le (by rw[r.out];omega)]⟩
  case round=>
   obtain⟨k,t,R,rfl,rfl,hz⟩:=hrel;have j:=Lib.hid hz;clear hz
   by_cases hlt:k < p
   ·obtain⟨U,rfl,I⟩:=s3.at (by omega);obtain⟨V,rfl,J⟩:=s4.at (by omega);have g3:=I (p-1-k) (by omega);have F:=J (p-1-k) (by omega);clear I J;have g:=Lib.hid (gF (dn a) (dn b) o.out r.out hlt j.out);rw[av,av]at g
    revert g3 F g
    generalize (ag a).getD (p-1-k) 0=x;generalize (ag b).getD (p-1-k) 0=y
    intro g3 F g
    have i1:((p:Int)-1-k).toNat=p-1-k:=by omega
    have i2:0<=(p:Int)-1-k:=by omega
    rcases Nat.lt_trichotomy x y with c | c | c
    ·have f:Hid ((-1:Int)=z):=by show _=_;rw[<-u.out];exact(ax (by have:=g.out.1 c;omega)).symm
     have h:decide ((x:Int) < y)=true:=by simp;omega
     clear g;go_wp2
     go_quiet (fail)
     go_wp2
     go_ret
     exact⟨au f.out,by first | exact aJ d.out _ | exact aJ (aJ d.out _) _⟩
    ·subst c
     have h:decide ((x:Int) < x)=false:=by simp
     have G:=g.out.2.2 rfl;have L:=Lib.hid G;clear g G;go_wp2
     go_quiet (fail)
     go_wp2
     go_quiet (fail)
     go_wp2
     go_roundw
     case rel=>exact ⟨k+1,_,by omega,by go_num,by first | rfl | rw[World.drewN_drewN] | rw[World.drewN_drewN,World.drewN_drewN],by rw[show p-(k+1)=p-1-k by omega];exact L.out⟩
     case measure=>simp [intOf];omega
    ·have f:Hid ((1:Int)=z):=by show _=_;rw[<-u.out];exact(aA (by have:=g.out.2.1 c;omega)).symm
     have h:decide ((x:Int) < y)=false:=by simp;omega
     have H:decide ((y:Int) < x)=true:=by simp;omega
     clear g;go_wp2
     go_quiet (fail)
     go_wp2
     go_quiet (fail)
     go_wp2
     go_ret
     exact⟨au f.out,aJ (aJ (aJ d.out _) _) _⟩
   ·obtain rfl:k=p:=by omega
    have e:=j.out;rw[Nat.sub_self,List.drop_zero,List.drop_zero,av,av]at e
    have f:Hid ((0:Int)=z):=by show _=_;rw[<-u.out];exact(aT (by omega)).symm
    clear e j;go_wp2
    go_ret
    exact⟨au f.out,aJ d.out _⟩
 ·have A:((p:Int) !=(q:Int))=true:=by simp;omega
  by_cases hlt:p < q
  ·have f:Hid ((-1:Int)=z):=by show _=_;rw[<-u.out];exact(ax (by have:=bQ (a:=a) (b:=b) (by omega);omega)).symm
   have v:decide ((p:Int) < q)=true:=by simp;omega
   clear l B C;go_wp2
   go_ret
   exact⟨au f.out,d.out⟩
  ·have f:Hid ((1:Int)=z):=by show _=_;rw[<-u.out];exact(aA (by have:=bQ (a:=b) (b:=a) (by omega);omega)).symm
   have v:decide ((p:Int) < q)=false:=by simp;omega
   clear l B C;go_wp2
   go_ret
   exact⟨au f.out,d.out⟩
theorem nE{w:World}{A1 A2:Option Addr}{n m c1 c2 a b:Nat}(h1:Rd w A1 n c1 a)(h2:Rd w A2 m c2 b)(h:a < b):
  Calls prog 137 #[.slice A1 n c1,.slice A2 m c2] w fun e w'=>e= .returned (.tuple #[.slice none 0 0,.bool false])/\Below w.heap.size w w':=by
 have d:=Lib.hid (G6 h1 h2 (ax (by omega)));clear h1 h2 h
 go_enter func137,ntmps137
 go_wp2_with (go_at_call 194;((with_reducible refine d.out.mono ?_);rintro e f ⟨rfl,c⟩))
 go_ret2
 exact⟨rfl,c⟩
theorem Az{ys:List Nat}{n:Nat}(h:af ys < 4294967296^n):af (ys.take n)=af ys:=by
 rcases Nat.le_total ys.length n with e | e
 ·exact aq e
 ·have h1:=ao ys e
  rcases Nat.eq_zero_or_pos (af (ys.drop n))with e0 | e0
  ·rw[e0]at h1;omega
  ·have:=Nat.le_mul_of_pos_right (4294967296^n) e0
   omega
theorem vw{p A Y v x y l t u:Nat}(h:A+l*p=v+Y)(hx:x+u*4294967296=t+y+l):(A+p*x)+u*(p*4294967296)=(v+p*t)+(Y+p*y):=by
 have e:p*(x+u*4294967296)=p*(t+y+l):=by rw[hx]
 grind
def rf (w:World)(xs ys:List Nat)(k l:Nat)(v:Value)(wr:World):Prop:=
 ∃A c zs,v= .slice A k c/\Ar wr w.heap.size A k c zs/\Below w.heap.size w wr/\l<=1/\af (xs.take k)+l*4294967296^k=af zs+af (ys.take k)
theorem CX{w:World}{A1 A2:Option Addr}{n m c1 c2 a b r:Nat}(h1:Rd w A1 n c1 a)(h2:Rd w A2 m c2 b)(h:b<=a)(hr:a-b=r):
  Calls prog 137 #[.slice A1 n c1,.slice A2 m c2] w (IK w n r):=by
 obtain⟨z,hz,bB⟩:=mP h;have V:=Lib.hid (G6 h1 h2 hz);have F:=h1.bound;obtain⟨b1,xs,h1,rfl⟩:=h1;obtain⟨b2,ys,h2,rfl⟩:=h2;have bA:=h1.big;have Y:=Lib.hid h1.len;have P:=Lib.hid (Az (ys:=ys) (n:=n) (by omega));have M:=Lib.hid h;have Z:=Lib.hid F;have O:=Lib.hid hr;clear hz h F hr
 go_enter func137,ntmps137
 go_wp2_with (go_at_call 194;((with_reducible refine V.out.mono ?_);rintro e w0 ⟨rfl,U⟩;have f:=Lib.hid U;clear U))
 clear V;replace h1:=h1.below f.out;replace h2:=h2.below f.out
 go_loopw [6,7,8] (fun v u i wr=>∃k l:Nat,k<=n/\i= .int .i64 k/\u= .int .u64 l/\rf w0 xs ys k l v wr) (fun _ _ i _=>n-(intOf i).toNat)
 case atStart=>exact ⟨0,0,Nat.zero_le _,rfl,rfl,none,0,[],rfl,Ar.nil _ _,Below.refl _ _,by omega,by simp[af]⟩
 case round=>
  obtain⟨k,l,hk,rfl,rfl,hI⟩:=hrel;obtain⟨A,c,zs,rfl,X,G,hl,H⟩:=hI;have L:=Lib.hid H;have C:=Lib.hid X;have p:=Lib.hid G;clear H X G
  by_cases hlt:k < n
  ·have s1:=h1.below p.out;have s2:=h2.below p.out;have W:=h1.lim.getD k
   have E:=h2.lim.getD k
   have q:=Lib.hid (G5 wr b1 A1 n c1 xs s1 k (by omega));have s:=Lib.hid (G5 wr b2 A2 m c2 ys s2 k (by omega))
   have d:Hid (∀x y,xs.getD k 0=x->ys.getD k 0=y->af (xs.take (k+1))=af (xs.take k)+4294967296^k*x/\af (ys.take (k+1))=af (ys.take k)+4294967296^k*y):=fun x y hx hy=>by
    rw[aL,aL,hx,hy];exact⟨rfl,rfl⟩
   have D:=Lib.hid (d.out _ _ rfl rfl)
   clear d s1 s2
   revert q s W E D
   generalize xs.getD k 0=x;generalize ys.getD k 0=y
   intro W E q s d
   obtain⟨t,ht,e1⟩:∃t:Nat,t=(4294967296+x-y-l)%4294967296/\((4294967296:Int)+x-y-l)%4294967296=t:=⟨_,rfl,by omega⟩
   obtain⟨u,hu,e2⟩:∃u:Nat,u=(4294967296+x-y-l) /4294967296/\((4294967296:Int)+x-y-l) /4294967296=u:=⟨_,rfl,by omega⟩
   have bt:t < 4294967296:=by omega
   have bu:u<=1:=by omega
   have e3:(t:Int)%4294967296=t:=by omega
   have HN:Hid (∀A3 c3 B,Ar B w0.heap.size A3 (k+1) c3 (zs ++[t])->Below w0.heap.size (wr.alloc (.cells #[.int .u32 (t:Int)] 103)) B->rf w0 xs ys (k+1) (1-u) (.slice A3 (k+1) c3) B):=by
    intro A3 c3 B j o
    refine⟨A3,c3,_,rfl,j,(p.out.alloc p.out.size _).trans o,by omega,?_⟩
    rw[da,C.out.len,d.out.1,d.out.2,Nat.pow_succ];exact vw L.out (by omega)
   clear ht hu L d;have T:=lit1 wr t bt
   go_wp2_with (first
    | (go_at_call 193;((with_reducible refine q.out.mono ?_);rintro e w' ⟨rfl,rfl⟩))
    | (go_at_call 193;((with_reducible refine s.out.mono ?_);rintro e w' ⟨rfl,rfl⟩))
    | (with_reducible refine bV rfl (.tmp 30) (.tmp 34) 41 rfl Tryz.underlying41 rfl rfl (C.out.alloc _) T (by omega) (p.out.alloc p.out.size _).size ?_;intro A3 c3 B j o;have N:=Lib.hid (HN.out A3 c3 B j o);clear j o))
   go_roundw
   case rel=>exact ⟨k+1,1-u,by omega,by go_num,by first | go_num | (congr 1;omega),N.out⟩
   case measure=>simp [intOf];omega
  ·obtain rfl:k=n:=by omega
   obtain⟨g,hs⟩:=C.out.slice (by omega);have H:=L.out;have J:=bi C.out.lim;rw[aq (by rw[Y.out];omega),P.out]at H;rw[C.out.len]at J
   have I:af zs=r:=by
    rw[<-O.out]
    have:=M.out
    rcases Nat.eq_zero_or_pos l with e | e
    ·subst e;omega
    ·have:=Nat.mul_le_mul_right (4294967296^k) e
     omega
   have HT:=Lib.hid (eS ⟨g,zs,hs,I⟩);clear H L hs J I
   go_wp2_with (go_at_call 192;((with_reducible refine HT.out.mono ?_);rintro e w4 ⟨A4,n4,c4,rfl,S,R,Q⟩))
   go_ret2
   exact⟨A4,n4,c4,rfl,S,R,f.out.trans ((p.out.trans (Q.mono p.out.size)).mono f.out.size)⟩
theorem EM (W:World)(base x:Nat)(hx:x < 4294967296)(hb:base<=W.heap.size):Ar (W.alloc (.cells #[.int .u32 (x:Int)] 103)) base (some ⟨W.heap.size,0,none⟩) 1 1 [x]:=
 ⟨⟨rfl,Or.inr ⟨W.heap.size,1,_,rfl,hb,heap_alloc_new W _,Nat.le_refl _,by decide,rfl,rfl⟩⟩,aR.cons hx aR.nil⟩
theorem zO{x f cy:Nat}(hx:x < 4294967296)(hf:f < 4294967296)(hc:cy < 4294967296):
  ∃p s t u:Nat,Hid (s=x*f+cy)/\Hid (t=s%4294967296)/\Hid (u=s/4294967296)/\t < 4294967296/\u < 4294967296/\IntKind.u64.wrap ((x:Int)*f)=p/\IntKind.u64.wrap ((p:Int)+cy)=s/\(s:Int)%4294967296=t/\(t:Int)%4294967296=t/\(s:Int) /4294967296=u:=by
 have a:=kg hx hf;refine⟨x*f,x*f+cy,(x*f+cy)%4294967296,(x*f+cy) /4294967296,rfl,rfl,rfl,by omega,by omega,?_,?_,by omega,by omega,by omega⟩
 ·have:=aU (x*f) (by omega);simpa using this
 ·have:=aU (x*f+cy) (by omega);simpa using this
theorem zN{p A v x c f:Nat}(h:v+c*p=A*f):(v+p*((x*f+c)%4294967296))+(x*f+c) /4294967296*(p*4294967296)=(A+p*x)*f:=by
 have e:=Nat.mod_add_div (x*f+c) 4294967296
 have e2:p*((x*f+c)%4294967296+4294967296*((x*f+c) /4294967296))=p*(x*f+c):=by rw[e]
 grind
theorem ES (a f d:Nat):0+4294967296*(a*d)+a*f=a*(f+4294967296*d):=by grind
def vT (w:World)(xs:List Nat)(f k cy:Nat)(v:Value)(wr:World):Prop:=
 ∃A c zs,v= .slice A k c/\Ar wr w.heap.size A k c zs/\Below w.heap.size w wr/\cy < 4294967296/\af zs+cy*4294967296^k=af (xs.take k)*f
def re (w:World)(n m:Nat)(xs ys:List Nat)(k:Nat)(v:Value)(wr:World):Prop:=
 ∃A l c,v= .slice A l c/\Rd wr A l c (af xs*af (ys.drop (m-k)))/\l<=n+m+2/\Below w.heap.size w wr
theorem G7{w:World}{A1 A2:Option Addr}{n m c1 c2 a b r:Nat}(h1:Rd w A1 n c1 a)(h2:Rd w A2 m c2 b)(hn:n<=268435456)(hm:m<=268435456)(hr:a*b=r):
  Calls prog 191 #[.slice A1 n c1,.slice A2 m c2] w (P1 w (n+m) r):=by
 have hL:=er h1.bound h2.bound;obtain⟨b1,xs,h1,rfl⟩:=h1;obtain⟨b2,ys,h2,rfl⟩:=h2;have H1:=Lib.hid h1.len;have Z:=Lib.hid h2.len;rw[hr]at hL;have bN:=Lib.hid hr;clear hr
 have J:Hid (∀k,(ag (af xs*af (ys.drop k))).length<=n+m):=fun k=>by
  have e1:=bi h1.lim;have e2:=bi (h2.lim.drop k);rw[H1.out]at e1
  have:=er e1 e2
  have e3:(ys.drop k).length<=m:=by rw[List.length_drop,Z.out];omega
  omega
 go_enter func191,ntmps191
 go_wp2
 go_loopw [5,6] (fun v i wr=>∃k:Nat,k<=m/\i= .int .i64 ((m:Int)-1-k)/\re w n m xs ys k v wr) (fun _ i _=>(intOf i+1).toNat)
 case atStart=>exact ⟨0,Nat.zero_le _,by go_num,none,0,0,rfl,by rw[List.drop_of_length_le (by rw[Z.out];omega),kj,Nat.mul_zero];exact Nm.zero.rd,by omega,Below.refl _ _⟩
 case round=>
  obtain⟨k,hk,rfl,hI⟩:=hrel;obtain⟨A,l,c,rfl,hs,hl,D⟩:=hI;obtain⟨Y,rfl⟩:∃Y:World,Y=wr:=⟨_,rfl⟩;have E:=Lib.hid D;clear D
  by_cases hlt:k < m
  ·obtain⟨bo,os,so,T⟩:=hs;have gO:=Lib.hid T;clear T;have P:=aI Y (.cells #[.int .u32 ((0:Nat):Int)] 103);have N:=EM Y w.heap.size 0 (by decide) E.out.size;have U:=so.below P
   have i0:0<=(m:Int)-1-k:=by omega
   go_wp2_with (with_reducible refine bV rfl (.tmp 20) (.tmp 21) 41 rfl Tryz.underlying41 rfl rfl N U (by omega) (E.out.alloc E.out.size _).size ?_;intro A3 c3 z O Q)
   have o:Hid (Below w.heap.size w z):=(E.out.alloc E.out.size _).trans Q
   have bB:=Lib.hid O;have s1:=h1.below o.out;have s2:=h2.below o.out;obtain⟨hC,rfl,j2⟩:=s2.at (by omega);have g2:=j2 (m-1-k) (by omega);have bf:=h2.lim.getD (m-1-k)
   have I:Hid (∀f,ys.getD (m-1-k) 0=f->af (ys.drop (m-(k+1)))=f+4294967296*af (ys.drop (m-k))):=fun f hf=>by
    have:=aO (xs:=ys) (k:=m-1-k) (by rw[Z.out];omega)
    rw[hf,show m-1-k+1=m-k by omega]at this
    rw[show m-(k+1)=m-1-k by omega]
    exact this
   have bC:=Lib.hid (I.out _ rfl)
   clear I j2 O Q so U N P s2
   revert g2 bf bC
   generalize ys.getD (m-1-k) 0=f
   intro g2 bf I
   have i1:((m:Int)-1-k).toNat=m-1-k:=by omega
   have i2:(m:Int)-1-k < m:=by omega
   go_loopw [8,9,10] (fun v u i wr2=>∃j cy:Nat,j<=n/\i= .int .i64 j/\u= .int .u64 cy/\vT z xs f j cy v wr2) (fun _ _ i _=>n-(intOf i).toNat)
   case atStart=>exact ⟨0,0,Nat.zero_le _,rfl,rfl,none,0,[],rfl,Ar.nil _ _,Below.refl _ _,by omega,by simp[af]⟩
   case round=>
    obtain⟨j,cy,hj,rfl,rfl,hI⟩:=hrel;obtain⟨A4,c4,zs,rfl,ha,D,R,hv⟩:=hI;have X:=Lib.hid hv;have V:=Lib.hid ha;have d:=Lib.hid D;clear hv ha D
    by_cases hB:j < n
    ·have t1:=s1.below d.out
     have hE:Hid (Below w.heap.size w wr):=o.out.trans (d.out.mono o.out.size)
     have gf:wr.cell? ⟨b2,hC+(m-1-k),none⟩=some (.int .u32 (f:Int)):=(d.out.cell (by
      have:=block_lt_of_cell g2
      exact this)).trans g2
     obtain⟨o1,rfl,j1⟩:=t1.at (by omega);have g1:=j1 j hB;have bx:=h1.lim.getD j
     have B:Hid (∀x,xs.getD j 0=x->af (xs.take (j+1))=af (xs.take j)+4294967296^j*x):=fun x hx=>by
      rw[aL,hx]
     have L:=Lib.hid (B.out _ rfl)
     clear B j1 t1
     revert g1 bx L
     generalize xs.getD j 0=x
     intro g1 bx B
     obtain⟨p,s,t,u,HS,W,HU,bt,bu,e1,e2,e3,hF,e4⟩:=zO bx bf R
     have HN:Hid (∀q A5 c5 y,Ar y z.heap.size A5 (j+1) c5 (zs ++[t])->Below z.heap.size ((wr.drewN q).alloc (.cells #[.int .u32 (t:Int)] 103)) y->vT z xs f (j+1) u (.slice A5 (j+1) c5) y):=by
      intro q A5 c5 y g h
      refine⟨A5,c5,_,rfl,g,((aJ d.out q).alloc d.out.size _).trans h,bu,?_⟩;rw[da,V.out.len,B.out,Nat.pow_succ,W.out,HU.out,HS.out];exact zN X.out
     clear B X HS W HU
     have bA:Hid (∀q,Ar ((wr.drewN q).alloc (.cells #[.int .u32 (t:Int)] 103)) z.heap.size A4 j c4 zs):=fun q=>Ar.alloc (w:=wr.drewN q) V.out _
     have gB:Hid (∀q,Sl ((wr.drewN q).alloc (.cells #[.int .u32 (t:Int)] 103)) wr.heap.size (some ⟨wr.heap.size,0,none⟩) 1 1 [t]):=fun q=>lit1 (wr.drewN q) t bt
     have gP:Hid (∀q,z.heap.size<=((wr.drewN q).alloc (.cells #[.int .u32 (t:Int)] 103)).heap.size):=fun q=>((aJ d.out q).alloc d.out.size _).size
     go_wp2
     go_quiet (fail)
     go_wp2_with (with_reducible refine bV rfl (.tmp 43) (.tmp 47) 41 rfl Tryz.underlying41 rfl rfl (bA.out _) (gB.out _) (by omega) (gP.out _) ?_;intro A5 c5 y g h;have bD:=Lib.hid (HN.out _ A5 c5 y g h);clear g h)
     go_roundw
     case rel=>exact ⟨j+1,u,by omega,by go_num,rfl,bD.out⟩
     case measure=>simp [intOf];omega
    ·obtain rfl:j=n:=by omega
     have hG:(cy:Int)%4294967296=cy:=by omega
     have H:Hid (Below z.heap.size z (wr.alloc (.cells #[.int .u32 (cy:Int)] 103))):=d.out.alloc d.out.size _
     have hD:=lit1 wr cy R
     have M:Hid (af (zs ++[cy])=af xs*f):=by
      show _=_
      have:=X.out
      rw[aq (by rw[H1.out];omega)]at this;rw[da,V.out.len,Nat.mul_comm,this]
     have G:Hid (∀A5 c5 y,Ar y z.heap.size A5 (j+1) c5 (zs ++[cy])->Below z.heap.size (wr.alloc (.cells #[.int .u32 (cy:Int)] 103)) y->
       Calls prog 136 #[.slice A3 (1+l) c3,.slice A5 (j+1) c5] y (fun e w6=>∃A6 F c6,e= .returned (.slice A6 F c6)/\re w j m xs ys (k+1) (.slice A6 F c6) w6)):=by
      intro A5 c5 y g h
      have C:Below z.heap.size z y:=H.out.trans h
      obtain⟨gu,su⟩:=(bB.out.all C).slice (by omega);obtain⟨gr,sr⟩:=g.slice (by omega);refine(Fo ⟨gu,_,su,rfl⟩ ⟨gr,_,sr,M.out⟩ (by omega) (by omega)).mono ?_;rintro e w6 ⟨A6,F,c6,rfl,m6,k6,b6⟩
      have ev:af ([0]++os)+af xs*f=af xs*af (ys.drop (m-(k+1))):=by
       rw[I.out,List.singleton_append,bZ,gO.out];exact ES _ _ _
      rw[ev]at m6
      have:=m6.len
      have:=J.out (m-(k+1))
      exact⟨A6,F,c6,rfl,A6,F,c6,rfl,m6.rd,by omega,(o.out.trans (C.mono o.out.size)).trans (b6.mono (Nat.le_trans o.out.size C.size))⟩
     clear X M I
     go_wp2_with (first
      | (with_reducible refine bV rfl (.tmp 51) (.tmp 54) 41 rfl Tryz.underlying41 rfl rfl (V.out.alloc _) hD (by omega) H.out.size ?_;intro A5 c5 y g h;have gS:=Lib.hid (G.out A5 c5 y g h);clear g h)
      | (go_at_call 136;((with_reducible refine gS.out.mono ?_);rintro e w6 ⟨A6,F,c6,rfl,hR⟩;have bH:=Lib.hid hR;clear hR)))
     go_roundw
     case rel=>exact ⟨k+1,by omega,by go_num,bH.out⟩
     case measure=>simp [intOf];omega
  ·obtain rfl:k=m:=by omega
   rw[Nat.sub_self,List.drop_zero,bN.out]at hs;have W:=Lib.hid (eS hs);clear hs
   go_wp2_with (go_at_call 192;((with_reducible refine W.out.mono ?_);rintro e w4 ⟨A4,n4,c4,rfl,S,hH,hA⟩))
   go_ret
   have:=S.len
   exact⟨A4,n4,c4,rfl,S,by omega,E.out.trans (hA.mono E.out.size)⟩
theorem lO{w:World}{A1:Option Addr}{n c1 a:Nat}{z:Int}(h1:Rd w A1 n c1 a)(hz:((ac a:Nat):Int)=z):Calls prog 162 #[.slice A1 n c1] w (PI w z):=by
 subst hz;have c:=Lib.hid (eS h1);have r:=h1.blen_le
 have J:n<=1099511627776:=by obtain⟨_,_,h,_⟩:=h1;exact h.big
 clear h1
 go_enter func162,ntmps162
 go_wp2_with fail
 refine c.out.mono ?_;rintro e N ⟨A3,p,c3,rfl,s3,M,A⟩;have B:=Lib.hid A;clear A;have i:=s3.len
 by_cases d:a=0
 ·obtain rfl:p=0:=by rw[<-i,d,ay];rfl
  have D:Hid ((0:Int)=((ac a:Nat):Int)):=by show _=_;rw[d];rfl
  clear d i s3 c;go_wp2
  go_ret
  exact⟨au D.out,B.out⟩
 ·have F:p≠0:=fun e=>d (bh.1 (by omega))
  have G:((p:Int)==0)=false:=by simpa using F
  have f:=kq d;rw[i]at f;obtain⟨I,s3⟩:=s3;obtain⟨o,rfl,C⟩:=s3.at (by omega);have s:=C (p-1) (by omega);have hx:=(dn a).getD (p-1);clear C s3 d i c;obtain⟨x,g⟩:∃x,(ag a).getD (p-1) 0=x:=⟨_,rfl⟩;rw[g]at f s hx;clear g
  have i1:((p:Int)-1).toNat=p-1:=by omega
  obtain⟨L,q⟩:∃L,ac a=L:=⟨_,rfl⟩;rw[q]at f r;have m:=Lib.hid q;clear q;have l:=Lib.hid f;clear f;go_wp2
  go_loop [4,5] (fun v u=>∃t j:Nat,u= .int .u32 t/\v= .int .i64 j/\t < 4294967296/\j+ac t=L) (fun _ u=>(intOf u).toNat)
  case atStart=>exact ⟨x,(p-1)*32,rfl,by go_num,hx,l.out.symm⟩
  case round=>
   obtain⟨t,j,rfl,rfl,ht,y⟩:=hrel
   by_cases b:t=0
   ·have k:Hid ((j:Int)=((ac a:Nat):Int)):=by show _=_;rw[m.out,<-y,b];simp[ac]
    subst b;clear y;go_wp2
    go_ret
    exact⟨au k.out,B.out⟩
   ·have hh:=ju b
    have k:Hid (j+1+ac (t/2)=L):=by show _=_;omega
    have E:j<=n*32:=by omega
    have H:0 < t:=by omega
    clear y hh b;go_wp2
    go_round
    case rel=>exact ⟨t/2,j+1,by go_num,by go_num,by omega,k.out⟩
    case measure=>simp [intOf];omega
theorem nX{xs:List Nat}(hl:aR xs)(i:Nat):xs.getD (i/32) 0/2^(i%32)%2=af xs/2^i%2:=by
 have h1:xs.getD (i/32) 0=af xs/4294967296^(i/32)%4294967296:=by
  rw[<-dT hl]
  rcases Nat.lt_or_ge (i/32) xs.length with h | h
  ·rw[aO h]
   have:=hl.getD (i/32)
   omega
  ·rw[bS h,List.drop_eq_nil_of_le h];rfl
 have h2:2^i=4294967296^(i/32)*2^(i%32):=by rw[<-eI,show 32*(i/32)+i%32=i by omega]
 rw[h1,h2,<-Nat.div_div_eq_div_mul];generalize af xs/4294967296^(i/32)=y
 have hs:i%32 < 32:=Nat.mod_lt _ (by decide)
 generalize i%32=s at hs
 have e:4294967296=2^s*2^(32-s):=by rw[<-Nat.pow_add,show s+(32-s)=32 by omega]
 rw[e,Nat.mod_mul_right_div_self]
 have e2:2^(32-s)=2*2^(31-s):=by rw[show 32-s=(31-s)+1 by omega,Nat.pow_succ,Nat.mul_comm]
 rw[e2,Nat.mod_mul_right_mod]
theorem CV{w:World}{A1:Option Addr}{n c1 a:Nat}{t:Bool}(h1:Rd w A1 n c1 a)(i:Nat)(hi:i<=34359738368)(ht:decide (a/2^i%2=1)=t):
  Calls prog 210 #[.slice A1 n c1,.int .i64 (i:Int)] w fun e w'=>e= .returned (.bool t)/\Below w.heap.size w w':=by
 obtain⟨g,xs,h1,rfl⟩:=h1;have b:=G5 w g A1 n c1 xs h1 (i/32) (by omega);have hb:=nX h1.lim i;have hx:=h1.lim.getD (i/32);rw[<-hb]at ht;clear hb h1
 revert b hx ht
 generalize xs.getD (i/32) 0=x
 intro ht b hx
 have b:=Lib.hid b;obtain⟨q,hq⟩:∃q,i/32=q:=⟨_,rfl⟩;rw[hq]at b
 have h:(i:Int) /32=q:=by omega
 clear hq;obtain⟨s,j,hs,c⟩:∃s:Nat,(i:Int)%32=s/\s < 32/\Hid (s=i%32):=⟨i%32,by omega,by omega,rfl⟩
 obtain⟨y,k,d⟩:∃y:Nat,(x:Int) /2^s=y/\Hid (y=x/2^s):=⟨x/2^s,by simp,rfl⟩
 have f:Hid (((y:Int)%2==1)=t):=by
  show _=_
  rw[<-ht,<-c.out,<-d.out,Bool.eq_iff_iff]
  simp
  omega
 clear ht
 go_enter func210,ntmps210
 go_wp2_with (go_at_call 193;((with_reducible refine b.out.mono ?_);rintro e w' ⟨rfl,rfl⟩))
 go_ret
 exact⟨by rw[<-f.out];rfl,Below.refl _ _⟩
theorem Ar.set{w:World}{base n c:Nat}{A:Option Addr}{l:List Nat}(h:Ar w base A n c l){i:Nat}(hi:i < n):
  ∃g,A=some ⟨g,0,none⟩/\base<=g/\w.cell? ⟨g,i,none⟩=some (.int .u32 (l.getD i 0:Nat))/\w.frozen? ⟨g,i,none⟩=false/\
   ∀x:Nat,x < 4294967296->Ar (w.setCell ⟨g,i,none⟩ (.int .u32 (x:Int))) base A n c (l.set i x):=by
 have hl:=h.len
 rcases h.1.2 with⟨h1,h2⟩ | ⟨g,cap,a,d,hg,hh,b,hm,hs,ht⟩
 ·omega
 ·injection d with e1 e2 e3
  subst e1;subst e3
  refine⟨g,rfl,hg,?_,by simp[World.frozen?,hh],fun x hx=>⟨⟨by simp[hl],Or.inr ⟨g,c,a.setIfInBounds i (.int .u32 (x:Int)),rfl,hg,?_,b,hm,by simpa using hs,?_⟩⟩,h.2.set i hx⟩⟩
  ·rw[cell_of_row w g i _ _ (0,0) hh]
   have h2:(a.toList.take (n*1))[i]?=(l.map u32)[i]?:=by rw[ht]
   rw[List.getElem?_take,if_pos (by omega),List.getElem?_map]at h2;rw[<-Array.getElem?_toList,h2,List.getD_eq_getElem?_getD]
   rcases hq:l[i]? with _ | y
   ·rw[List.getElem?_eq_none_iff]at hq;omega
   ·simp[u32]
  ·simp[World.setCell,Array.getElem?_modify,hh]
  ·rw[Array.toList_setIfInBounds,List.take_set,ht,List.map_set]
   rfl
def pD (w:World)(xs:List Nat)(q:Nat)(v:Value)(wr:World):Prop:=
 ∃A c k,v= .slice A (xs.length+k) c/\Ar wr w.heap.size A (xs.length+k) c (xs ++List.replicate k 0)/\Below w.heap.size w wr/\(0 < k->xs.length+k<=q+1)
theorem C3{l:List Nat}{q x:Nat}(hq:q < l.length):af (l.set q (l.getD q 0+x))=af l+4294967296^q*x:=by
 have h1:=ao l (k:=q) (by omega);have h2:=ao (l.set q (l.getD q 0+x)) (k:=q) (by simp;omega);rw[List.take_set_of_le (Nat.le_refl q),aO (by simp;omega),List.drop_set_of_lt (by omega)]at h2;rw[aO hq]at h1
 have e:(l.set q (l.getD q 0+x)).getD q 0=l.getD q 0+x:=by
  rw[List.getD_eq_getElem?_getD,List.getElem?_set_self hq];rfl
 rw[e]at h2;rw[h2,h1]
 grind
theorem zV{x s:Nat}(hs:s < 32)(hx:x < 4294967296)(h:x/2^s%2=0):x+2^s < 4294967296:=by
 have e:4294967296=2^s*2^(32-s):=by rw[<-Nat.pow_add,show s+(32-s)=32 by omega]
 have e2:2^(32-s)=2*2^(31-s):=by rw[show 32-s=(31-s)+1 by omega,Nat.pow_succ,Nat.mul_comm]
 have h1:x/2^s < 2^(32-s):=by
  rw[Nat.div_lt_iff_lt_mul (Nat.two_pow_pos s),Nat.mul_comm,<-e];exact hx
 have h2:x/2^s+2<=2^(32-s):=by omega
 have a:=Nat.mul_le_mul_left (2^s) h2;have h4:=Nat.div_add_mod x (2^s);have b:=Nat.mod_lt x (Nat.two_pow_pos s);rw[<-e,Nat.mul_add]at a
 omega
theorem G8{w:World}{A1:Option Addr}{n c1 a:Nat}(h1:Rd w A1 n c1 a)(i:Nat)(hn:n<=1073741824)(hi:i<=34359738368)(hb:a/2^i%2=0):
  Calls prog 211 #[.slice A1 n c1,.int .i64 (i:Int)] w (fun e w'=>∃A m c,e= .returned (.slice A m c)/\Rd w' A m c (a+2^i)/\m<=max n (i/32+1)/\Below w.heap.size w w'):=by
 obtain⟨U,xs,h1,rfl⟩:=h1;have f:=nX h1.lim i;rw[hb]at f;have T:=Lib.hid h1.len;have H:=h1.len;subst H
 have N:Hid (2^i=4294967296^(i/32)*2^(i%32)):=by show _=_;rw[<-eI,show 32*(i/32)+i%32=i by omega]
 have u:Hid (xs.getD (i/32) 0/2^(i%32)%2=0):=f
 clear f hb;obtain⟨q,hq⟩:∃q,i/32=q:=⟨_,rfl⟩;obtain⟨s,hs⟩:∃s,i%32=s:=⟨_,rfl⟩;rw[hq,hs]at N u;rw[hq]
 have V:(i:Int) /32=q:=by omega
 have W:(i:Int)%32=s:=by omega
 have D:s < 32:=by omega
 have Q:q<=1073741824:=by omega
 clear hq hs
 go_enter func211,ntmps211
 go_wp2_with (with_reducible refine bV rfl (.const (.slice none 0 0)) (.tmp 6) 41 rfl Tryz.underlying41 rfl rfl (Ar.nil w w.heap.size) h1 (by omega) (Nat.le_refl _) ?_;intro A2 c2 R p B)
 rw[Nat.zero_add,List.nil_append]at p
 have M:Hid (pD w xs q (.slice A2 xs.length c2) R):=⟨A2,c2,0,rfl,by simpa using p,B,fun h=>absurd h (by omega)⟩
 clear p B
 go_loopw [5] (fun v wr=>pD w xs q v wr) (fun v _=>match v with | .slice _ m _=>q+1-m | _=>0)
 case atStart=>exact M.out
 case round=>
  clear M;obtain⟨A,c,k,rfl,E,f,P⟩:=hrel;have L:=Lib.hid E;have r:=Lib.hid f;clear E f
  by_cases hlt:xs.length+k<=q
  ·have J:=lit1 wr 0 (by decide)
   go_wp2_with (with_reducible refine bV rfl (.tmp 13) (.tmp 14) 41 rfl Tryz.underlying41 rfl rfl (L.out.alloc _) J (by omega) (r.out.alloc r.out.size _).size ?_;intro A3 c3 S z C)
   have F:Hid (pD w xs q (.slice A3 (xs.length+(k+1)) c3) S):=⟨A3,c3,k+1,rfl,by rw[List.replicate_succ',<-List.append_assoc];exact z,(r.out.alloc r.out.size _).trans C,fun _=>by omega⟩
   clear z C
   go_roundw
   case rel=>exact F.out
   case measure=>show q+1-(xs.length+k+1) < q+1-(xs.length+k);omega
  ·obtain⟨g,rfl,hg,hcell,O,j⟩:=L.out.set (i:=q) (by omega)
   have e0:(xs ++List.replicate k 0).getD q 0=xs.getD q 0:=by
    rcases Nat.lt_or_ge q xs.length with h | h
    ·rw[List.getD_eq_getElem?_getD,List.getElem?_append_left h,List.getD_eq_getElem?_getD]
    ·rw[List.getD_eq_getElem?_getD,List.getElem?_append_right h,List.getElem?_replicate,List.getD_eq_getElem?_getD,List.getElem?_eq_none h]
     split <;> rfl
   rw[e0]at hcell;have G:=h1.lim.getD q;have d:=C3 (l:=xs ++List.replicate k 0) (q:=q) (x:=2^s) (by simp;omega);rw[e0,dh,fK,Nat.mul_zero,Nat.add_zero,<-N.out]at d;have b:=Lib.hid (j (xs.getD q 0+2^s))
   have t:=Lib.hid d
   clear j e0 d
   revert hcell G t b u
   generalize xs.getD q 0=x
   intro u hcell G b d
   go_wp2
   go_ret
   have o:=zV D G u.out
   have e:((x:Int)+2^s)%4294967296=((x+2^s:Nat):Int):=by
    have:((x+2^s:Nat):Int)=(x:Int)+2^s:=by simp
    rw[<-this];clear this d b u;generalize x+2^s=y at o|-
    omega
   rw[e];have E:=b.out o;obtain⟨g2,I⟩:=E.slice (by omega);refine⟨_,_,_,rfl,⟨g2,_,I,d.out⟩,?_,r.out.setCell (by simpa using hg) _⟩
   rcases Nat.eq_zero_or_pos k with e | e
   ·omega
   ·have:=P e;omega
theorem Ef (a d i:Nat):a/2^i=2*(a/2^(i+1))+a/2^i%2:=by
 rw[Nat.pow_succ,<-Nat.div_div_eq_div_mul]
 omega
theorem i6{w:World}{A1 A2:Option Addr}{n m c1 c2 a b r:Nat}(h1:Rd w A1 n c1 a)(h2:Rd w A2 m c2 b)(hn:n<=1073741824)(hm:m<=1073741824)(hr:a+b=r):
  Calls prog 136 #[.slice A1 n c1,.slice A2 m c2] w (P1 w (n+m+1) r):=hr▸Fo h1 h2 hn hm
theorem oh{x d q r:Nat}(h:x=d*q+r)(hr:r < d):x/d=q/\x%d=r:=by
 subst h;rw[Nat.mul_add_div (by omega),Nat.mul_add_mod,Nat.div_eq_of_lt hr,Nat.mod_eq_of_lt hr];exact⟨rfl,rfl⟩
theorem BH{A d b:Nat}(hd:0 < d)(hb:b<=1):
  (d<=2*(A%d)+b->(2*A+b) /d=2*(A/d)+1/\(2*A+b)%d=2*(A%d)+b-d)/\(2*(A%d)+b < d->(2*A+b) /d=2*(A/d)/\(2*A+b)%d=2*(A%d)+b):=by
 have h1:=jA A d;have h2:=Nat.mod_lt A hd
 constructor
 ·intro h
  refine oh ?_ (by omega)
  have:d*(2*(A/d)+1)=2*(A/d*d)+d:=by grind
  omega
 ·intro h
  refine oh ?_ h
  have:d*(2*(A/d))=2*(A/d*d):=by grind
  omega
theorem CU{Q i:Nat}:Q*2^(i+1) /2^i%2=0:=by
 rw[Nat.pow_succ,<-Nat.mul_assoc,Nat.mul_right_comm,Nat.mul_div_cancel _ (Nat.two_pow_pos i)]
 omega
theorem CW{w:World}{A1 A2:Option Addr}{n m c1 c2 a d:Nat}(h1:Rd w A1 n c1 a)(h2:Rd w A2 m c2 d)(hn:n<=268435456)(hm:m<=268435456)(hd:d≠0):
  Calls prog 163 #[.slice A1 n c1,.slice A2 m c2] w (P3 w n (a/d) (a%d)):=by
 have I:0 < d:=Nat.pos_of_ne_zero hd
 have R:=h1.blen_le;have P:=dw a;have gB:=Nat.le_trans (aB (Nat.div_le_self a d)) h1.limbs_le;have gO:=Nat.le_trans (aB (Nat.mod_le a d)) h1.limbs_le;have HT:=Lib.hid (eS h2)
 go_enter func163,ntmps163
 go_wp2_with fail
 refine HT.out.mono ?_;rintro e C ⟨Ad,p,cd,rfl,f,kd,Z⟩;have g:=h1.below Z
 have hp:p≠0:=fun e=>hd (bh.1 (by rw[f.len,e]))
 have hA:((p:Int)==0)=false:=by simpa using hp
 have G:=Lib.hid Z;clear HT Z h1 h2 hp
 go_wp2_with fail
 refine(lO g rfl).mono ?_;rintro e w4 ⟨rfl,V⟩;replace g:=g.below V;replace f:=f.below V;have N:=Lib.hid (G.out.trans (V.mono G.out.size));clear V G
 have F:Hid (a/2^ac a=0):=Nat.div_eq_of_lt P
 have T:d < 4294967296^m:=Nat.lt_of_lt_of_le f.rd.bound (Nat.pow_le_pow_right (by decide) kd)
 have bA:=Lib.hid T;clear P T
 revert R F
 generalize ac a=L
 intro R F
 go_wp2
 go_loopw [8,9,10] (fun vq vr i wr=>∃k:Nat,k<=L/\i= .int .i64 ((L:Int)-1-k)/\∃Y lq cq Ar lr cr,vq= .slice Y lq cq/\vr= .slice Ar lr cr/\Rd wr Y lq cq (a/2^(L-k) /d*2^(L-k))/\Nm wr Ar lr cr (a/2^(L-k)%d)/\lq<=n/\
   Rd wr A1 n c1 a/\Nm wr Ad p cd d/\Below w.heap.size w wr) (fun _ _ i _=>(intOf i+1).toNat)
 case atStart=>exact ⟨0,Nat.zero_le _,by go_num,none,0,0,none,0,0,rfl,rfl,by rw[Nat.sub_zero,F.out,Nat.zero_div,Nat.zero_mul];exact Nm.zero.rd,by rw[Nat.sub_zero,F.out,Nat.zero_mod];exact Nm.zero,by omega,g,f,N.out⟩
 case round=>
  clear g f N;obtain⟨k,hk,rfl,Y,lq,cq,Ar,lr,cr,rfl,rfl,j,z,gP,g,f,S⟩:=hrel;have c:=Lib.hid S;clear S
  by_cases hlt:k < L
  ·have bD:0<=(L:Int)-1-k:=by omega
   obtain⟨i,hi⟩:∃i,L-1-k=i:=⟨_,rfl⟩
   have U:L-k=i+1:=by omega
   have ei:(L:Int)-1-k=(i:Int):=by omega
   have bN:i/32+1<=n:=by omega
   have bH:i<=34359738368:=by omega
   rw[U]at j z
   have y:L-(k+1)=i:=by omega
   have gS:lr<=m:=by
    rw[<-z.len];exact az (Nat.lt_trans (Nat.mod_lt _ I) bA.out)
   have H:=Ef a d i;obtain⟨bt,E⟩:∃bt,a/2^i%2=bt:=⟨_,rfl⟩
   have bB:bt<=1:=by omega
   rw[E]at H;have o:=BH (A:=a/2^(i+1)) (b:=bt) I bB;rw[<-H]at o;obtain⟨Q,hQ⟩:∃Q,a/2^(i+1) /d=Q:=⟨_,rfl⟩;obtain⟨r,X⟩:∃r,a/2^(i+1)%d=r:=⟨_,rfl⟩;rw[hQ,X]at o;rw[hQ]at j;rw[X]at z
   have hB:r < d:=by rw[<-X];exact Nat.mod_lt _ I
   have O:=Lib.hid (CU (Q:=Q) (i:=i))
   have J:Q*2^(i+1)=2*Q*2^i:=by rw[Nat.pow_succ];grind
   have W:Hid (r+r=2*r):=by show _=_;omega
   have s:Hid (d<=2*r+bt->Q*2^(i+1)+2^i=a/2^(L-(k+1)) /d*2^(L-(k+1))/\2*r+bt-d=a/2^(L-(k+1))%d):=fun h=>by
    obtain⟨x1,x2⟩:=o.1 h;rw[y,x1,x2,J];exact⟨by grind,rfl⟩
   have t:Hid (2*r+bt < d->Q*2^(i+1)=a/2^(L-(k+1)) /d*2^(L-(k+1))/\2*r+bt=a/2^(L-(k+1))%d):=fun h=>by
    obtain⟨x1,x2⟩:=o.2 h;rw[y,x1,x2,J];exact⟨rfl,rfl⟩
   have D:=Lib.hid E;clear H hi U y o J hQ X E
   by_cases bC:bt=0
   ·subst bC
    have M:Hid (decide (a/2^i%2=1)=false):=by show _=_;rw[D.out];rfl
    by_cases q:d<=2*r
    ·obtain⟨x,hx⟩:∃x,2*r-d=x:=⟨_,rfl⟩;have E3:=Lib.hid hx;have u:=Lib.hid (s.out q).1
     have v:Hid (x=a/2^(L-(k+1))%d):=by show _=_;rw[<-hx];exact(s.out q).2
     clear hx s t D
     go_wp2_with (first
      | (go_at_call 136;((with_reducible refine(i6 z.rd z.rd (by omega) (by omega) W.out).mono ?_);rintro e w2 ⟨A2,n2,c2,rfl,s2,k2,B⟩;replace g:=g.b B;replace f:=f.b B;replace j:=j.b B;replace c:=Lib.hid (c.out.trans (B.mono c.out.size));clear B))
      | (go_at_call 210;((with_reducible refine(CV g i (by omega) M.out).mono ?_);rintro e C ⟨rfl,B⟩;replace g:=g.b B;replace f:=f.b B;replace j:=j.b B;replace s2:=s2.b B;replace c:=Lib.hid (c.out.trans (B.mono c.out.size));clear B))
      | (go_at_call 137;((with_reducible refine(CX s2.rd f.rd q E3.out).mono ?_);rintro e w5 ⟨A5,n5,c5,rfl,s5,k5,B⟩;replace g:=g.b B;replace f:=f.b B;replace j:=j.b B;replace c:=Lib.hid (c.out.trans (B.mono c.out.size));clear B))
      | (go_at_call 211;((with_reducible refine(G8 j i (by omega) (by omega) O.out).mono ?_);rintro e w6 ⟨A6,n6,c6,rfl,s6,k6,B⟩;replace g:=g.b B;replace f:=f.b B;replace s5:=s5.b B;replace c:=Lib.hid (c.out.trans (B.mono c.out.size));clear B)))
     go_roundw
     case rel=>exact ⟨k+1,by omega,by congr 1;omega,_,_,_,_,_,_,rfl,rfl,(by rw[u.out]at s6;exact s6),(by rw[v.out]at s5;exact s5),by omega,g,f,c.out⟩
     case measure=>simp [intOf];omega
    ·have l:2*r < d:=by omega
     have u:=Lib.hid (t.out l).1
     have v:Hid (2*r=a/2^(L-(k+1))%d):=(t.out l).2
     clear s t D q
     go_wp2_with (first
      | (go_at_call 136;((with_reducible refine(i6 z.rd z.rd (by omega) (by omega) W.out).mono ?_);rintro e w2 ⟨A2,n2,c2,rfl,s2,k2,B⟩;replace g:=g.b B;replace f:=f.b B;replace j:=j.b B;replace c:=Lib.hid (c.out.trans (B.mono c.out.size));clear B))
      | (go_at_call 210;((with_reducible refine(CV g i (by omega) M.out).mono ?_);rintro e C ⟨rfl,B⟩;replace g:=g.b B;replace f:=f.b B;replace j:=j.b B;replace s2:=s2.b B;replace c:=Lib.hid (c.out.trans (B.mono c.out.size));clear B))
      | (go_at_call 137;((with_reducible refine(nE s2.rd f.rd l).mono ?_);rintro e w5 ⟨rfl,B⟩;replace g:=g.b B;replace f:=f.b B;replace j:=j.b B;replace s2:=s2.b B;replace c:=Lib.hid (c.out.trans (B.mono c.out.size));clear B)))
     go_roundw
     case rel=>exact ⟨k+1,by omega,by congr 1;omega,_,_,_,_,_,_,rfl,rfl,(by rw[u.out]at j;exact j),(by rw[v.out]at s2;exact s2),by omega,g,f,c.out⟩
     case measure=>simp [intOf];omega
   ·obtain rfl:bt=1:=by omega
    have M:Hid (decide (a/2^i%2=1)=true):=by show _=_;rw[D.out];rfl
    have E2:Hid (2*r+1=2*r+1):=rfl
    by_cases q:d<=2*r+1
    ·obtain⟨x,hx⟩:∃x,2*r+1-d=x:=⟨_,rfl⟩;have E3:=Lib.hid hx;have u:=Lib.hid (s.out q).1
     have v:Hid (x=a/2^(L-(k+1))%d):=by show _=_;rw[<-hx];exact(s.out q).2
     clear hx s t D
     go_wp2_with (first
      | (go_at_call 136;((with_reducible refine(i6 z.rd z.rd (by omega) (by omega) W.out).mono ?_);rintro e w2 ⟨A2,n2,c2,rfl,s2,k2,B⟩;replace g:=g.b B;replace f:=f.b B;replace j:=j.b B;replace c:=Lib.hid (c.out.trans (B.mono c.out.size));clear B))
      | (go_at_call 210;((with_reducible refine(CV g i (by omega) M.out).mono ?_);rintro e C ⟨rfl,B⟩;replace g:=g.b B;replace f:=f.b B;replace j:=j.b B;replace s2:=s2.b B;replace c:=Lib.hid (c.out.trans (B.mono c.out.size));clear B))
      | (go_at_call 136;((with_reducible refine(i6 (s2.below (aI C (.cells #[.int .u32 1] 103))).rd (iz C) (by omega) (by omega) rfl).mono ?_);rintro e w4 ⟨A4,n4,c4,rfl,s4,k4,B⟩;replace g:=g.below (aI C (.cells #[.int .u32 1] 103));replace f:=f.below (aI C (.cells #[.int .u32 1] 103));replace j:=j.below (aI C (.cells #[.int .u32 1] 103));replace c:=Lib.hid (c.out.alloc c.out.size (.cells #[.int .u32 1] 103));replace g:=g.b B;replace f:=f.b B;replace j:=j.b B;replace c:=Lib.hid (c.out.trans (B.mono c.out.size));clear B))
      | (go_at_call 137;((with_reducible refine(CX s4.rd f.rd q E3.out).mono ?_);rintro e w5 ⟨A5,n5,c5,rfl,s5,k5,B⟩;replace g:=g.b B;replace f:=f.b B;replace j:=j.b B;replace c:=Lib.hid (c.out.trans (B.mono c.out.size));clear B))
      | (go_at_call 211;((with_reducible refine(G8 j i (by omega) (by omega) O.out).mono ?_);rintro e w6 ⟨A6,n6,c6,rfl,s6,k6,B⟩;replace g:=g.b B;replace f:=f.b B;replace s5:=s5.b B;replace c:=Lib.hid (c.out.trans (B.mono c.out.size));clear B)))
     go_roundw
     case rel=>exact ⟨k+1,by omega,by congr 1;omega,_,_,_,_,_,_,rfl,rfl,(by rw[u.out]at s6;exact s6),(by rw[v.out]at s5;exact s5),by omega,g,f,c.out⟩
     case measure=>simp [intOf];omega
    ·have l:2*r+1 < d:=by omega
     have u:=Lib.hid (t.out l).1;have v:=Lib.hid (t.out l).2;clear s t D q
     go_wp2_with (first
      | (go_at_call 136;((with_reducible refine(i6 z.rd z.rd (by omega) (by omega) W.out).mono ?_);rintro e w2 ⟨A2,n2,c2,rfl,s2,k2,B⟩;replace g:=g.b B;replace f:=f.b B;replace j:=j.b B;replace c:=Lib.hid (c.out.trans (B.mono c.out.size));clear B))
      | (go_at_call 210;((with_reducible refine(CV g i (by omega) M.out).mono ?_);rintro e C ⟨rfl,B⟩;replace g:=g.b B;replace f:=f.b B;replace j:=j.b B;replace s2:=s2.b B;replace c:=Lib.hid (c.out.trans (B.mono c.out.size));clear B))
      | (go_at_call 136;((with_reducible refine(i6 (s2.below (aI C (.cells #[.int .u32 1] 103))).rd (iz C) (by omega) (by omega) rfl).mono ?_);rintro e w4 ⟨A4,n4,c4,rfl,s4,k4,B⟩;replace g:=g.below (aI C (.cells #[.int .u32 1] 103));replace f:=f.below (aI C (.cells #[.int .u32 1] 103));replace j:=j.below (aI C (.cells #[.int .u32 1] 103));replace c:=Lib.hid (c.out.alloc c.out.size (.cells #[.int .u32 1] 103));replace g:=g.b B;replace f:=f.b B;replace j:=j.b B;replace c:=Lib.hid (c.out.trans (B.mono c.out.size));clear B))
      | (go_at_call 137;((with_reducible refine(nE s4.rd f.rd l).mono ?_);rintro e w5 ⟨rfl,B⟩;replace g:=g.b B;replace f:=f.b B;replace j:=j.b B;replace s4:=s4.b B;replace c:=Lib.hid (c.out.trans (B.mono c.out.size));clear B)))
     go_roundw
     case rel=>exact ⟨k+1,by omega,by congr 1;omega,_,_,_,_,_,_,rfl,rfl,(by rw[u.out]at j;exact j),(by rw[v.out]at s4;exact s4),by omega,g,f,c.out⟩
     case measure=>simp [intOf];omega
  ·obtain rfl:k=L:=by omega
   rw[Nat.sub_self,Nat.pow_zero,Nat.div_one,Nat.mul_one]at j;rw[Nat.sub_self,Nat.pow_zero,Nat.div_one]at z
   go_wp2_with (first
    | (go_at_call 192;((with_reducible refine(eS j).mono ?_);rintro e w6 ⟨A6,n6,c6,rfl,s6,k6,B⟩;replace z:=z.b B;replace c:=Lib.hid (c.out.trans (B.mono c.out.size));clear B))
    | (go_at_call 192;((with_reducible refine(eS z.rd).mono ?_);rintro e w7 ⟨A7,n7,c7,rfl,s7,k7,B⟩;replace s6:=s6.b B;replace c:=Lib.hid (c.out.trans (B.mono c.out.size));clear B)))
   go_ret3
   have e6:=s6.len;have e7:=s7.len;exact⟨A6,n6,c6,A7,n7,c7,rfl,s6,s7,by omega,by omega,c.out⟩
theorem yp (W:World)(s o:Nat)(ho:2^s=o)(hs:s < 32):Rd (W.alloc (.cells #[.int .u32 (o:Int)] 103)) (some ⟨W.heap.size,0,none⟩) 1 1 (2^s):=by
 have hb:o < 4294967296:=by rw[<-ho];exact Nat.pow_lt_pow_right (n:=32) (by decide) hs
 exact⟨_,_,lit1 W o hb,by rw[ho];simp[af]⟩
theorem Dd{w:World}{b o n c:Nat}{xs:List Nat}(h:Sl w b (some ⟨b,o,none⟩) n c xs){q:Nat}(hq:q < n):Sl w b (some ⟨b,o+q,none⟩) (n-q) (c-q) (xs.drop q):=by
 obtain⟨d,e,a⟩:=h.at (by omega)
 injection e with e
 injection e with _ e
 subst e
 exact⟨by rw[List.length_drop,h.len],by have:=h.cap;omega,by have:=h.big;omega,h.lim.drop q,fun _=>⟨o+q,rfl,fun k hk=>by rw[Nat.add_assoc,a (q+k) (by omega),fE]⟩⟩
theorem zF{w:World}{A1:Option Addr}{n c1 a:Nat}(z:Int)(h1:Rd w A1 n c1 a)(hz:z < 1):Calls prog 186 #[.slice A1 n c1,.int .i64 z] w (P1 w n a):=by
 have b:=Lib.hid (eS h1);clear h1
 go_enter func186,ntmps186
 go_wp2_with (go_at_call 192;((with_reducible refine b.out.mono ?_);rintro e d ⟨A6,n6,c6,rfl,s6,c,B⟩))
 go_ret
 exact⟨A6,n6,c6,rfl,s6,c,B⟩
theorem zE{w:World}{A1:Option Addr}{n c1:Nat}(z:Int)(hz:1<=z)(hn:32*(n:Int)<=z)(hb:n<=268435456):Calls prog 186 #[.slice A1 n c1,.int .i64 z] w fun e w'=>e= .returned (.slice none 0 0)/\Below w.heap.size w w':=by
 go_enter func186,ntmps186
 go_wp2
 go_ret
 exact⟨rfl,Below.refl _ _⟩
theorem zG{w:World}{A1:Option Addr}{n c1 a:Nat}(z:Nat)(h1:Rd w A1 n c1 a)(hn:n<=268435456)(hz1:1<=z)(hz:z < 32*n):Calls prog 186 #[.slice A1 n c1,.int .i64 (z:Int)] w (P1 w n (a/2^z)):=by
 obtain⟨m,xs,h1,rfl⟩:=h1;have hl:=Nat.le_trans (aB (Nat.div_le_self (af xs) (2^z))) (by have:=aM h1.lim;rw[h1.len]at this;exact this);obtain⟨o1,rfl,_⟩:=h1.at (by omega)
 have hq:(z:Int) /32=((z/32:Nat):Int):=by omega
 have hs:(z:Int)%32=((z%32:Nat):Int):=by omega
 have g:Hid (2^z=4294967296^(z/32)*2^(z%32)):=by show _=_;rw[<-eI,show 32*(z/32)+z%32=z by omega]
 have b:z%32 < 32:=Nat.mod_lt _ (by decide)
 have c:z/32 < n:=by omega
 revert hq hs g b c
 generalize z/32=q;generalize z%32=s
 intro hq hs g b c
 obtain⟨o,f⟩:∃o,2^s=o:=⟨_,rfl⟩
 have t:(2:Int)^s=(o:Int):=by rw[<-f];simp
 have bo:o < 4294967296:=by rw[<-f];exact Nat.pow_lt_pow_right (n:=32) (by decide) b
 have k:=Lib.hid f;clear f;have h:=h1.cap
 have i:¬(c1=q):=by omega
 have l:=Lib.hid (eS ⟨m,_,Dd h1 c,dT h1.lim q⟩);clear h1
 go_enter func186,ntmps186
 go_wp2_with (first
  | (go_at_call 192;((with_reducible refine l.out.mono ?_);rintro e j ⟨A6,n6,c6,rfl,s6,u,B⟩;have d:=Lib.hid B;clear B))
  | (go_at_call 163;((with_reducible refine(CW (s6.below (aI j (.cells #[.int .u32 (o:Int)] 103))).rd (yp j s o k.out b) (by omega) (by omega) (Nat.pos_iff_ne_zero.1 (Nat.two_pow_pos s))).mono ?_);rintro e C ⟨A7,n7,c7,p,y,r,rfl,s7,A,v,x,B⟩;replace d:=Lib.hid ((d.out.alloc d.out.size (.cells #[.int .u32 (o:Int)] 103)).trans (B.mono (d.out.alloc d.out.size (.cells #[.int .u32 (o:Int)] 103)).size));clear B)))
 go_ret
 rw[Nat.div_div_eq_div_mul,<-g.out]at s7;exact⟨A7,n7,c7,rfl,s7,by omega,d.out⟩
theorem oV{w:World}{A1:Option Addr}{n c1 a:Nat}(z:Int)(h1:Rd w A1 n c1 a)(hn:n<=268435456):Calls prog 186 #[.slice A1 n c1,.int .i64 z] w (P1 w n (a/2^z.toNat)):=by
 by_cases b:z < 1
 ·rw[show z.toNat=0 by omega,Nat.pow_zero,Nat.div_one]
  exact zF z h1 b
 ·by_cases h2:32*(n:Int)<=z
  ·have e:a/2^z.toNat=0:=by
    apply Nat.div_eq_of_lt
    have:=h1.bound
    rw[mD]at this;exact Nat.lt_of_lt_of_le this (Nat.pow_le_pow_right (by decide) (by omega))
   rw[e];refine(zE z (by omega) h2 hn).mono ?_;rintro e w' ⟨rfl,B⟩;exact⟨none,0,0,rfl,Nm.zero,Nat.zero_le _,B⟩
  ·obtain⟨k,rfl⟩:=Int.eq_ofNat_of_zero_le (show 0<=z by omega)
   rw[Int.toNat_natCast];exact zG k h1 hn (by omega) (by omega)
theorem bX.ar{w:World}{g base:Nat}{l:List Nat}(h:bX w g l)(hl:aR l)(hb:base<=g)(hn:l.length<=1099511627776):Ar w base (some ⟨g,0,none⟩) l.length l.length l:=
 ⟨⟨by simp,Or.inr ⟨g,l.length,iC l,rfl,hb,h,Nat.le_refl _,by unfold maxLen;omega,by simp[iC],by show (l.map u32).take (l.length*1)=_;rw[Nat.mul_one,List.take_of_length_le (by simp)]⟩⟩,hl⟩
theorem zD{w:World}{A1:Option Addr}{n c1 a:Nat}(z:Int)(h1:Rd w A1 n c1 a)(hz:z < 1):Calls prog 164 #[.slice A1 n c1,.int .i64 z] w (P1 w n a):=by
 have b:=Lib.hid (eS h1);clear h1
 go_enter func164,ntmps164
 go_wp2_with (go_at_call 192;((with_reducible refine b.out.mono ?_);rintro e d ⟨A6,n6,c6,rfl,s6,c,B⟩))
 go_ret
 exact⟨A6,n6,c6,rfl,s6,c,B⟩
theorem Cs (W:World)(s o:Nat)(ho:2^s=o)(hs:s < 32):Rd (W.alloc (.cells #[.int .u32 (o:Int)] 103)) (some ⟨W.heap.size,0,none⟩) 1 1 (2^s):=by
 have hb:o < 4294967296:=by rw[<-ho];exact Nat.pow_lt_pow_right (n:=32) (by decide) hs
 exact⟨_,_,lit1 W o hb,by rw[ho];simp[af]⟩
theorem G9{w:World}{A1:Option Addr}{n c1 a:Nat}(z:Nat)(h1:Rd w A1 n c1 a)(hn:n<=134217728)(hz1:1<=z)(hz:z<=16777216):Calls prog 164 #[.slice A1 n c1,.int .i64 (z:Int)] w (P1 w (n+z/32+1) (a*2^z)):=by
 obtain⟨v,xs,h1,rfl⟩:=h1
 have hq:(z:Int) /32=((z/32:Nat):Int):=by omega
 have hs:(z:Int)%32=((z%32:Nat):Int):=by omega
 have k:Hid (2^z=4294967296^(z/32)*2^(z%32)):=by show _=_;rw[<-eI,show 32*(z/32)+z%32=z by omega]
 have b:z%32 < 32:=Nat.mod_lt _ (by decide)
 have i:z/32<=524288:=by omega
 revert hq hs k b i
 generalize z/32=q;generalize z%32=s
 intro hq hs k b i
 obtain⟨o,j⟩:∃o,2^s=o:=⟨_,rfl⟩
 have x:(2:Int)^s=(o:Int):=by rw[<-j];simp
 have bo:o < 4294967296:=by rw[<-j];exact Nat.pow_lt_pow_right (n:=32) (by decide) b
 have u:=Lib.hid j;clear j
 have l:=fun W=>db q (q:Int) rfl (by omega) W
 have c:=(bX.new w (List.replicate q 0)).ar (base:=w.heap.size) (aR.replicate q) (Nat.le_refl _) (by simp;omega);rw[List.length_replicate]at c;have s1:=h1.below (aI w (.cells (iC (List.replicate q 0)) 103))
 go_enter func164,ntmps164
 go_wp2_with (with_reducible refine bV rfl (.tmp 16) (.tmp 17) 41 rfl Tryz.underlying41 rfl rfl c s1 (by omega) (aI w _).size ?_;intro A2 c2 m g h)
 obtain⟨g2,s2⟩:=g.slice (by omega);have f:=(aI w (.cells (iC (List.replicate q 0)) 103)).trans h;have d:=aI m (.cells #[.int .u32 (o:Int)] 103)
 have r:Rd (m.alloc (.cells #[.int .u32 (o:Int)] 103)) A2 (q+n) c2 (4294967296^q*af xs):=⟨g2,_,s2.below d,by rw[dh,fK,List.length_replicate,Nat.zero_add]⟩
 have t:=Lib.hid (G7 r (Cs m s o u.out b) (by omega) (by omega) (show 4294967296^q*af xs*2^s=af xs*2^z by rw[k.out];grind))
 have p:=Lib.hid (f.trans (d.mono f.size));clear g h s2 f d r l c s1
 go_wp2_with (go_at_call 191;((with_reducible refine t.out.mono ?_);rintro e A ⟨A6,n6,c6,rfl,s6,y,B⟩))
 go_ret
 exact⟨A6,n6,c6,rfl,s6,by omega,p.out.trans (B.mono p.out.size)⟩
