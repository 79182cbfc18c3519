/-
 Contracts that the proof rests on.
-/
import Derived.IntWalk
import Derived.Test.YteigedaefgmojaaGreatDoorYQag
namespace Go.Proofs.YteigedaefgmojaaGreatDoor
open Go.Proofs.Tryz
set_option maxHeartbeats 1000000
open Go.RowKit
set_option linter.unusedVariables false
theorem dl (s:Bool)(a:Nat):(a=0/\ah (sg s a) 0=0)\/(0 < a/\s=true/\ah (sg s a) 0= -1)\/(0 < a/\s=false/\ah (sg s a) 0=1):=by
 rcases Nat.eq_zero_or_pos a with e | e
 ·subst e;exact .inl ⟨rfl,by rw[eF];exact aT rfl⟩
 ·cases s
  ·exact .inr (.inr ⟨e,rfl,aA (by simp[sg];omega)⟩)
  ·exact .inr (.inl ⟨e,rfl,ax (by simp[sg];omega)⟩)
theorem fU{w:World}{A:Option Addr}{n c:Nat}{s:Bool}{x r:Int}(h:Wr w s A n c x)(hr:ah x 0=r):Calls prog 122 #[.agg #[.bool s,.slice A n c]] w (PI w r):=by
 obtain⟨a,h,e1⟩:=h;subst e1
 have hb:ac a<=35184372088832:=by have:=h.blen_le;have:=h.big;omega
 rcases dl s a with⟨rfl,e⟩ | ⟨d,rfl,e⟩ | ⟨d,rfl,e⟩
 ·rw[e]at hr;subst hr;clear e hb
  go_enter func122,ntmps122
  go_wp2_with (first
   | (go_at_call 180;((with_reducible refine(gE (z:=0) (h.below (ab _ _)) rfl).mono ?_);rintro e w1 ⟨rfl,b⟩)))
  go_ret
  exact⟨rfl,bt (ab _ _) b⟩
 all_goals
  rw[e]at hr;subst hr
  have hz:((ac a:Nat):Int)≠0:=by have:=aF (a:=a);omega
  have hq:(((ac a:Nat):Int)==0)=false:=by simpa using hz
  clear e hz
  go_enter func122,ntmps122
  go_wp2_with (first
   | (go_at_call 180;((with_reducible refine(qZ (h.below (ab _ _))).mono ?_);rintro e w1 ⟨rfl,b⟩;obtain⟨f,hf⟩:=aQ b)))
  go_ret
  exact⟨rfl,bt (ab _ _) b⟩
theorem sO{x y:Int}(h:ah x 0≠ah y 0):ah (ah x 0) (ah y 0)=ah x y:=by
 unfold ah at h|-
 split <;> split <;> split <;> (try split) <;> (try split) <;> (try split) <;> simp_all <;> omega
theorem xg{s t:Bool}{a b:Nat}(h:ah (sg s a) 0=ah (sg t b) 0):ah (sg s a) 0*ah (a:Int) (b:Int)=ah (sg s a) (sg t b):=by
 rcases dl s a with⟨rfl,e⟩ | ⟨c,rfl,e⟩ | ⟨c,rfl,e⟩ <;> rcases dl t b with⟨rfl,e'⟩ | ⟨hb,rfl,e'⟩ | ⟨hb,rfl,e'⟩ <;> rw[e,e']at h <;> first | (exfalso;revert h;decide) | skip
 ·rw[e,eF,eF,Int.zero_mul];exact(aT rfl).symm
 ·rw[e]
  rcases Nat.lt_trichotomy a b with q | q | q
  ·rw[ax (by omega),aA (by simp[sg];omega)];rfl
  ·subst q;rw[jy,aT rfl];rfl
  ·rw[aA (by omega),ax (by simp[sg];omega)];rfl
 ·rw[e]
  rcases Nat.lt_trichotomy a b with q | q | q
  ·rw[ax (by omega),ax (by simp[sg];omega)];rfl
  ·subst q;rw[jy,aT rfl];rfl
  ·rw[aA (by omega),aA (by simp[sg];omega)];rfl
theorem lS{w:World}{A B:Option Addr}{n c m d:Nat}{s t:Bool}{x y r:Int}(h:Wr w s A n c x)(k:Wr w t B m d y)(hr:ah x y=r):
  Calls prog 126 #[.agg #[.bool s,.slice A n c],.agg #[.bool t,.slice B m d]] w (PI w r):=by
 obtain⟨a,M,e1⟩:=id h;obtain⟨b,R,e2⟩:=id k;have j:=eE x 0;have v:=eE y 0;have z:=eE a b
 by_cases hs:ah x 0=ah y 0
 ·have i:Hid (ah x 0*ah (a:Int) (b:Int)=r):=Lib.hid (by rw[<-hr,<-e1,<-e2];exact xg (by rw[e1,e2];exact hs))
  have l:=Lib.hid (rfl:ah x 0=ah x 0);have E:=Lib.hid hs.symm;have F:=Lib.hid (rfl:ah (a:Int) (b:Int)=ah (a:Int) (b:Int));clear hr e1 e2 hs v
  revert j z i l E F
  generalize u:ah x 0=p;generalize hq:ah (a:Int) (b:Int)=q
  intro j z i l E F
  have C:=Lib.hid u;have D:=Lib.hid hq;clear u hq l F
  have hb: -1<=p*q/\p*q<=1:=by
   rcases (by omega:p= -1\/p=0\/p=1)with rfl | rfl | rfl <;> omega
  obtain⟨N,O⟩:=hb;obtain⟨G,H⟩:=j;obtain⟨I,J⟩:=z
  have V:IntKind.i64.wrap (p*q)=p*q:=IntWalk.i64_in _ (by omega)
  have Q:(p !=p)=false:=by simp
  go_enter func126,ntmps126
  go_wp2_with (first
   | (go_at_call 122;((with_reducible refine(fU (h.below (bJ _ _ _)) C.out).mono ?_);rintro e w1 ⟨rfl,f⟩;obtain⟨o,hf⟩:=aQ f))
   | (go_at_call 122;((with_reducible refine(fU (k.below (bt (bJ _ _ _) f)) E.out).mono ?_);rintro e S ⟨rfl,g⟩;clear o hf;obtain⟨o,hf⟩:=aQ (bt f g)))
   | (go_at_call 183;((with_reducible refine(D6 (M.below (bt (bJ _ _ _) (bt f g))) (R.below (bt (bJ _ _ _) (bt f g))) D.out).mono ?_);rintro e T ⟨rfl,L⟩)))
  go_ret
  exact⟨au i.out,bt (bJ _ _ _) (bt f (bt g L))⟩
 ·have i:Hid (ah (ah x 0) (ah y 0)=r):=Lib.hid (by rw[<-hr];exact sO hs)
  have l:=Lib.hid (rfl:ah x 0=ah x 0);clear hr e1 e2 z
  revert j v i hs
  generalize u:ah x 0=p;generalize hq:ah y 0=q
  intro j v hs i
  have C:=Lib.hid u;have D:=Lib.hid hq;clear u hq l;obtain⟨G,H⟩:=j;obtain⟨I,J⟩:=v
  have P:(p !=q)=true:=by simpa using hs
  have U:=Lib.hid hs;clear hs
  go_enter func126,ntmps126
  go_wp2_with (first
   | (go_at_call 122;((with_reducible refine(fU (h.below (bJ _ _ _)) C.out).mono ?_);rintro e w1 ⟨rfl,f⟩;obtain⟨o,hf⟩:=aQ f))
   | (go_at_call 122;((with_reducible refine(fU (k.below (bt (bJ _ _ _) f)) D.out).mono ?_);rintro e S ⟨rfl,g⟩;clear o hf;obtain⟨o,hf⟩:=aQ (bt f g)))
   | (go_at_call 51;((with_reducible refine(eM _ _ _).mono ?_);rintro e T ⟨rfl,rfl⟩)))
  go_ret
  exact⟨au i.out,bt (bJ _ _ _) (bt f g)⟩
theorem dm{x y:Int}:ah x y=0↔x=y:=by unfold ah;split <;> (try split) <;> omega
theorem nP (W:World){g k:Nat}{X Y:Int}(hg:W.heap.size=g)(hX:X=((k%4294967296:Nat):Int))(hY:Y=((k/4294967296:Nat):Int))(hk:k < 18446744073709551616):
  Rd (W.alloc (.cells #[.int .u32 X,.int .u32 Y] 103)) (some ⟨g,0,none⟩) 2 2 k:=by
 subst hg;subst hX;subst hY;exact⟨_,_,lit2 W _ _ (Nat.mod_lt _ (by decide)) (by omega),by simp[af];omega⟩
theorem qY (k:Nat)(h:k<=9223372036854775808):IntKind.u64.wrap (-IntKind.u64.wrap (-(k:Int)))=k:=by
 simp[IntKind.wrap,IntKind.signed,IntKind.bits]
 omega
theorem xG (k:Nat)(w:World)(h:k < 9223372036854775808):Calls prog 58 #[.int .i64 (k:Int)] w (W1 w 2 (k:Int)):=by
 have hd:decide ((k:Int) < 0)=false:=by simp
 go_enter func58,ntmps58
 go_wp2_with (first
  | (go_at_call 123;((with_reducible refine(ic false (nP _ (by simp) (k:=k) (by omega) (by omega) (by omega))).mono ?_);rintro e b ⟨s2,A2,n2,c2,rfl,h2,d,a⟩;obtain⟨c,hf⟩:=aQ a)))
 have X:Bx b w.heap.size false none 0 0:=((Bx.new w false none 0 0).below (ab _ _)).below a
 exact bodyPost_ret (v:= .agg #[.bool s2,.slice A2 n2 c2]) (by simp[results,results58,go_sem,X.cell0,X.cell1]) rfl ⟨s2,A2,n2,c2,rfl,h2.st X _ _,by omega,fW (bt (bJ _ _ _) a) (Nat.le_refl _) _ _⟩
theorem xF (k:Nat)(w:World)(h:k<=9223372036854775808)(h0:0 < k):Calls prog 58 #[.int .i64 (-(k:Int))] w (W1 w 2 (-(k:Int))):=by
 have hlt: -(k:Int) < 0:=by omega
 have b:=qY k h
 go_enter func58,ntmps58
 go_wp2_with (first
  | (go_at_call 123;((with_reducible refine(ic true (nP _ (by simp) (k:=k) (by clear b;omega) (by clear b;omega) (by clear b;omega))).mono ?_);rintro e c ⟨s2,A2,n2,c2,rfl,h2,f,a⟩;obtain⟨d,hf⟩:=aQ a)))
 have X:Bx c w.heap.size false none 0 0:=((Bx.new w false none 0 0).below (ab _ _)).below a
 exact bodyPost_ret (v:= .agg #[.bool s2,.slice A2 n2 c2]) (by simp[results,results58,go_sem,X.cell0,X.cell1]) rfl ⟨s2,A2,n2,c2,rfl,h2.st X _ _,by omega,fW (bt (bJ _ _ _) a) (Nat.le_refl _) _ _⟩
theorem dU (z:Int)(w:World)(h1: -9223372036854775808<=z)(h2:z<=9223372036854775807):Calls prog 58 #[.int .i64 z] w (W1 w 2 z):=by
 rcases Int.lt_or_le z 0 with h | h
 ·have:=xF z.natAbs w (by omega) (by omega)
  rwa [show -((z.natAbs:Nat):Int)=z by omega]at this
 ·have:=xG z.natAbs w (by omega)
  rwa [show ((z.natAbs:Nat):Int)=z by omega]at this
def tZ (l:List Int):Int:=l.foldl (· * ·) 1
theorem zu{l:List Int}{k:Nat}(h:k < l.length):tZ (l.take (k+1))=tZ (l.take k)*l.getD k 0:=by
 unfold tZ
 rw[List.take_succ_eq_append_getElem h,List.foldl_append]
 simp[List.getD_eq_getElem?_getD,h]
theorem zW (s t:Bool)(a b:Nat):sg (s !=t) (a*b)=sg s a*sg t b:=by
 cases s <;> cases t <;> simp[sg,Int.neg_mul,Int.mul_neg]
def Wl (w:World)(A:Option Addr)(n c K:Nat)(zs:List Int):Prop:=
 zs.length=n/\n<=c/\n<=1099511627776/\(0 < n->∃b o,A=some ⟨b,o,none⟩/\∀k,k < n->∃s B m d,w.cell? ⟨b,o+k*2,none⟩=some (.bool s)/\w.cell? ⟨b,o+k*2+1,none⟩=some (.slice B m d)/\Wr w s B m d (zs.getD k 0)/\m<=K)
theorem Wl.below{w w':World}{A:Option Addr}{n c K:Nat}{zs:List Int}(h:Wl w A n c K zs)(hb:Below w.heap.size w w'):Wl w' A n c K zs:=by
 obtain⟨h1,h2,a,h4⟩:=h
 refine⟨h1,h2,a,fun hn=>?_⟩
 obtain⟨b,o,e,f⟩:=h4 hn
 refine⟨b,o,e,fun k hk=>?_⟩
 obtain⟨s,B,m,d,c0,c1,g,hm⟩:=f k hk;exact⟨s,B,m,d,(hb.cell (p:=⟨b,_,none⟩) (block_lt_of_cell c0)).trans c0,(hb.cell (p:=⟨b,_,none⟩) (block_lt_of_cell c1)).trans c1,g.below hb,hm⟩
abbrev Wl.b:= @Wl.below
instance {w w':World} {A:Option Addr} {n c K:Nat} {zs:List Int}:Mv (Wl w A n c K zs) w w' (Wl w' A n c K zs):=⟨fun h b=>h.below b⟩
def Bj (w0:World)(K:Nat)(zs:List Int)(k:Nat)(s:Bool)(A:Option Addr)(n c:Nat)(wr:World):Prop:=Below w0.heap.size w0 wr/\∃a,Nm wr A n c a/\sg s a=tZ (zs.take k)/\n<=1+k*K
theorem y7 (W:World):Nm (W.alloc (.cells #[.int .u32 1] 103)) (some ⟨W.heap.size,0,none⟩) 1 1 1:=⟨_,by rw[show ag 1=[1] by rw[dq (by decide)];simp[ay]];exact iT W⟩
theorem jp{w:World}{A:Option Addr}{n c K:Nat}{zs:List Int}{r:Int}(h:Wl w A n c K zs)(hK:1+n*K<=1073741824)(hr:tZ zs=r):Calls prog 121 #[.slice A n c] w (W1 w (1+n*K) r):=by
 have H:=h.2.1;have G:=h.2.2.1
 go_enter func121,ntmps121
 go_wp2
 go_loopw [3,4,10] (fun u m i wr=>∃(k:Nat) (s:Bool) (B:Option Addr) (p d:Nat),k<=n/\i= .int .i64 k/\u= .bool s/\m= .slice B p d/\Bj ((w.alloc (.cells #[.bool false,.slice none 0 0] 43)).alloc (.cells #[.int .u32 1] 103)) K zs k s B p d wr) (fun _ _ i _=>n-(intOf i).toNat)
 case atStart=>exact ⟨0,false,_,1,1,Nat.zero_le _,rfl,rfl,rfl,Below.refl _ _,1,by first | exact y7 _ | (have:=y7 (w.alloc (.cells #[.bool false,.slice none 0 0] 43));simpa using this),rfl,by omega⟩
 case round=>
  obtain⟨k,s,B,p,d,R,rfl,rfl,rfl,F⟩:=hrel;have E:=Lib.hid F;clear F
  by_cases hlt:k < n
  ·obtain⟨f,a,x,hs,O⟩:=E.out;have hl:=h.below (bt (bJ _ _ _) f);obtain⟨b,o,rfl,hcell⟩:=hl.2.2.2 (by omega);obtain⟨t,D,q,e,c0,c1,I,hq⟩:=hcell k hlt;clear hcell hl;have l:=Lib.hid hs;clear hs;have y:=block_lt_of_cell c0
   have N:b≠wr.heap.size:=by
    have:b < wr.heap.size:=y
    omega
   have g:n*K=(n-k-1)*K+(k*K+K):=by
    rw[<-Nat.succ_mul,<-Nat.add_mul];congr 1;omega
   have z:p<=1073741824:=by omega
   have C:q<=1073741824:=by omega
   have L:=Lib.hid g;clear g
   go_wp2_with (first
    | (go_at_call 178;((with_reducible refine(IG (x.rd.below (ab _ _)) (I.rd.below (ab _ _)) z C).mono ?_);rintro e U ⟨A3,n3,c3,rfl,M,T,J⟩)))
   go_roundw
   case rel=>
    refine⟨k+1,(s !=t),A3,n3,c3,by omega,by go_num,rfl,rfl,bt f (bt (ab _ _) J),_,M,?_,by rw[Nat.succ_mul];omega⟩
    rw[zu (by rw[h.1];exact hlt),zW,l.out,I.eq]
   case measure=>simp [intOf];omega
  ·obtain rfl:k=n:=by omega
   obtain⟨f,a,x,hs,O⟩:=E.out
   have l:Hid (sg s a=r):=Lib.hid (by rw[hs,<-hr,List.take_of_length_le (by rw[h.1];omega)])
   clear hs hr
   go_wp2_with (first
    | (go_at_call 179;((with_reducible refine(dV s x).mono ?_);rintro e P ⟨s2,A2,n2,c2,rfl,h2,S,j⟩;obtain⟨Q,hf⟩:=aQ (bt f j))))
   have X:Bx P w.heap.size false none 0 0:=(((Bx.new w false none 0 0).below (ab _ _)).below f).below j
   exact bodyPost_ret (v:= .agg #[.bool s2,.slice A2 n2 c2]) (by simp[results,results121,go_sem,X.cell0,X.cell1]) rfl ⟨s2,A2,n2,c2,rfl,l.out▸h2.st X _ _,by omega,fW (bt (bJ _ _ _) (bt f j)) (Nat.le_refl _) _ _⟩
end Go.Proofs.YteigedaefgmojaaGreatDoor
namespace Go.Proofs.YteigedaefgmojaaGreatDoor
open Go.Proofs.Tryz
set_option maxHeartbeats 1000000
open Go.RowKit
set_option linter.unusedVariables false
theorem ji{k:IntKind}{a b:Int}(h:a=b):Value.int k a= .int k b:=by rw[h]
theorem GU (x y:Nat)(hx:x < 4294967296)(hy:y < 4294967296):bits BinOp.or IntKind.u64 (y:Int) ((x:Int)*4294967296)=((y+x*4294967296:Nat):Int):=by
 have:=u64_or_nat y (x*4294967296) (by omega) (by omega)
 rw[Nat.or_comm,nat_join 32 _ _ (by omega) hy]at this
 rw[show y+x*4294967296=x*4294967296+y by omega]
 simpa using this
theorem AW (w:World)(b:Nat)(A:Option Addr)(n c:Nat)(xs:List Nat)(h:Sl w b A n c xs)(hn:n<=2):
  Calls prog 226 #[.slice A n c] w fun e w'=>e= .returned (.int .u64 (af xs:Nat))/\w=w':=by
 have j:=h.cap
 go_enter func226,ntmps226
 go_wp2
 go_loop [3,8] (fun u i=>∃k:Nat,k<=n/\i= .int .i64 k/\u= .int .u64 (af (xs.take k):Nat)) (fun _ i=>n-(intOf i).toNat)
 case atStart=>exact ⟨0,Nat.zero_le _,rfl,rfl⟩
 case round=>
  obtain⟨k,l,rfl,rfl⟩:=hrel
  by_cases hlt:k < n
  ·obtain⟨o,rfl,hcell⟩:=h.at (by omega);have a:=hcell k hlt;have hx:=h.lim.getD k;have d:=Lib.hid (aL xs k);clear hcell
   rcases (by omega:k=0\/k=1)with rfl | rfl
   ·revert a hx d
    generalize xs.getD 0 0=x
    intro a hx d
    simp only[Nat.add_zero]at a
    have f:bits BinOp.or IntKind.u64 0 (x:Int)=x:=by have:=u64_or_nat 0 x (by omega) (by omega);simpa using this
    have e0:((af (List.take 0 xs):Nat):Int)=0:=rfl
    have c0:((0:Nat):Int)=0:=rfl
    rw[e0,c0];go_wp2
    go_round
    case rel=>exact ⟨1,by omega,rfl,by rw[d.out];simp[af]⟩
    case measure=>simp [intOf];omega
   ·revert a hx d
    generalize xs.getD 1 0=x
    intro a hx d
    have c1:((1:Nat):Int)=1:=rfl
    rw[c1];have hy:=bi (h.lim.take 1);rw[List.length_take,h.len,Nat.min_eq_left (by omega)]at hy
    revert hy d
    generalize af (List.take 1 xs)=y
    intro d hy
    have f:=GU x y hx (by simpa using hy)
    have hb:y+x*4294967296 < 18446744073709551616:=by omega
    go_wp2
    go_round
    case rel=>exact ⟨2,by omega,rfl,ji (by have:af (List.take 2 xs)=y+4294967296^1*x:=d.out;omega)⟩
    case measure=>simp [intOf];omega
  ·obtain rfl:k=n:=by omega
   have g:Hid (af (xs.take k)=af xs):=Lib.hid (aq (by rw[h.len];omega))
   go_wp2
   go_ret
   exact⟨au (by rw[g.out]),rfl⟩
theorem AL{w:World}{A:Option Addr}{n c a:Nat}(h:Nm w A n c a)(ha:a < 18446744073709551616):Calls prog 226 #[.slice A n c] w fun e w'=>e= .returned (.int .u64 (a:Nat))/\w=w':=by
 have hl:=h.len
 have h2:(ag a).length<=2:=az (by simpa using ha)
 obtain⟨b,h⟩:=h
 have:=AW w b A n c (ag a) h (by omega)
 rwa [av]at this
theorem AM{w:World}{A:Option Addr}{n c a:Nat}{z:Int}(h:Nm w A n c a)(ha:a < 18446744073709551616)(hz:(a:Int)=z):Calls prog 226 #[.slice A n c] w fun e w'=>e= .returned (.int .u64 z)/\w=w':=hz▸AL h ha
theorem BT (a:Nat)(h:a<=9223372036854775808):IntKind.i64.wrap (IntKind.u64.wrap (-(a:Int)))= -(a:Int):=by
 simp[IntKind.wrap,IntKind.signed,IntKind.bits]
 omega
theorem zH{k:IntKind}{a b:Int}{s t:Bool}(h:a=b)(e:s=t):Ending.returned (.tuple #[.int k a,.bool s])= .returned (.tuple #[.int k b,.bool t]):=by rw[h,e]
theorem BV{w:World}{A:Option Addr}{n c a:Nat}(s:Bool)(h:Rd w A n c a)(ha:64 < ac a):Calls prog 182 #[.agg #[.bool s,.slice A n c]] w (F9 w 0 false):=by
 have hb:ac a<=35184372088832:=by have:=h.blen_le;have:=h.big;omega
 go_enter func182,ntmps182
 go_wp2_with (first
  | (go_at_call 180;((with_reducible refine(qZ (h.below (ab _ _))).mono ?_);rintro e w1 ⟨rfl,b⟩)))
 go_ret2
 exact⟨rfl,bt (ab _ _) b⟩
theorem th{w:World}{A:Option Addr}{n c a:Nat}(s:Bool)(h:Rd w A n c a)(hb:ac a<=64):Calls prog 182 #[.agg #[.bool s,.slice A n c]] w (F9 w (if (s=true/\a<=9223372036854775808)\/(s=false/\a < 9223372036854775808)then sg s a else 0) (decide ((s=true/\a<=9223372036854775808)\/(s=false/\a < 9223372036854775808)))):=by
 have r:a < 18446744073709551616:=Nat.lt_of_lt_of_le (dw a) (Nat.pow_le_pow_right (n:=2) (j:=64) (by decide) hb)
 have k:=Lib.hid r;clear r
 cases s
 ·by_cases d:a < 9223372036854775808
  ·rw[if_pos (by simp[d]),decide_eq_true (by simp[d])];obtain⟨z,hz⟩:∃z:Int,(a:Int)=z:=⟨_,rfl⟩
   have m:0<=z:=by omega
   have o:z < 9223372036854775808:=by omega
   have p:z<=9223372036854775807:=by omega
   have l:=Lib.hid hz;clear d hz
   go_enter func182,ntmps182
   go_wp2_with (first
    | (go_at_call 180;((with_reducible refine(qZ (h.below (ab _ _))).mono ?_);rintro e w1 ⟨rfl,b⟩;obtain⟨g,hf⟩:=aQ b))
    | (go_at_call 181;((with_reducible refine(pn (h.below (bt (ab _ _) b))).mono ?_);rintro e i ⟨A1,n1,c1,rfl,h1,q,f⟩;clear g hf;obtain⟨g,hf⟩:=aQ (bt b f)))
    | (go_at_call 226;((with_reducible refine(AM h1 k.out l.out).mono ?_);rintro e i ⟨rfl,rfl⟩)))
   go_ret2
   exact⟨zH l.out.symm rfl,bt (ab _ _) (bt b f)⟩
  ·rw[if_neg (by simp[d]),decide_eq_false (by simp[d])];obtain⟨z,hz⟩:∃z:Int,(a:Int)=z:=⟨_,rfl⟩
   have m:0<=z:=by omega
   have o:¬z < 9223372036854775808:=by omega
   have p:9223372036854775808<=z:=by omega
   have l:=Lib.hid hz;clear d hz
   go_enter func182,ntmps182
   go_wp2_with (first
    | (go_at_call 180;((with_reducible refine(qZ (h.below (ab _ _))).mono ?_);rintro e w1 ⟨rfl,b⟩;obtain⟨g,hf⟩:=aQ b))
    | (go_at_call 181;((with_reducible refine(pn (h.below (bt (ab _ _) b))).mono ?_);rintro e i ⟨A1,n1,c1,rfl,h1,q,f⟩;clear g hf;obtain⟨g,hf⟩:=aQ (bt b f)))
    | (go_at_call 226;((with_reducible refine(AM h1 k.out l.out).mono ?_);rintro e i ⟨rfl,rfl⟩)))
   go_ret2
   exact⟨rfl,bt (ab _ _) (bt b f)⟩
 ·by_cases d:a<=9223372036854775808
  ·rw[if_pos (by simp[d]),decide_eq_true (by simp[d])];have t:=BT a d
   go_enter func182,ntmps182
   go_wp2_with (first
    | (go_at_call 180;((with_reducible refine(qZ (h.below (ab _ _))).mono ?_);rintro e w1 ⟨rfl,b⟩;obtain⟨g,hf⟩:=aQ b))
    | (go_at_call 181;((with_reducible refine(pn (h.below (bt (ab _ _) b))).mono ?_);rintro e i ⟨A1,n1,c1,rfl,h1,q,f⟩;clear g hf;obtain⟨g,hf⟩:=aQ (bt b f)))
    | (go_at_call 226;((with_reducible refine(AL h1 k.out).mono ?_);rintro e i ⟨rfl,rfl⟩)))
   go_ret2
   exact⟨zH rfl rfl,bt (ab _ _) (bt b f)⟩
  ·rw[if_neg (by simp[d]),decide_eq_false (by simp[d])]
   go_enter func182,ntmps182
   go_wp2_with (first
    | (go_at_call 180;((with_reducible refine(qZ (h.below (ab _ _))).mono ?_);rintro e w1 ⟨rfl,b⟩;obtain⟨g,hf⟩:=aQ b))
    | (go_at_call 181;((with_reducible refine(pn (h.below (bt (ab _ _) b))).mono ?_);rintro e i ⟨A1,n1,c1,rfl,h1,q,f⟩;clear g hf;obtain⟨g,hf⟩:=aQ (bt b f)))
    | (go_at_call 226;((with_reducible refine(AL h1 k.out).mono ?_);rintro e i ⟨rfl,rfl⟩)))
   go_ret2
   exact⟨rfl,bt (ab _ _) (bt b f)⟩
def fits (z:Int):Bool:=decide (-9223372036854775808<=z/\z<=9223372036854775807)
theorem II{w:World}{A:Option Addr}{n c:Nat}{s:Bool}{z r:Int}{t:Bool}(h:Wr w s A n c z)(ht:fits z=t)(hr:(if t=true then z else 0)=r):Calls prog 182 #[.agg #[.bool s,.slice A n c]] w (F9 w r t):=by
 obtain⟨a,h,e⟩:=h;subst e;subst ht
 by_cases hb:ac a<=64
 ·have hf:fits (sg s a)=decide ((s=true/\a<=9223372036854775808)\/(s=false/\a < 9223372036854775808)):=by
   unfold fits
   apply decide_eq_decide.2
   cases s <;> simp[sg] <;> omega
  have:=th s h hb
  subst hr;rw[hf];simp only[decide_eq_true_eq];exact this
 ·have h1:=blen_le (n:=a) (by rintro rfl;simp[jx]at hb)
  have h2:2^64<=2^(ac a-1):=Nat.pow_le_pow_right (by decide) (by omega)
  have hf:fits (sg s a)=false:=by
   unfold fits
   apply decide_eq_false
   cases s <;> simp[sg] <;> omega
  subst hr;rw[hf];exact BV s h (by omega)
