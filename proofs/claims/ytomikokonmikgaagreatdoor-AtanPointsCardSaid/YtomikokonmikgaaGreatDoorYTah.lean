/-
 Contracts that the proof rests on.
-/
import Derived.IntWalk
import Derived.Test.YtomikokonmikgaaGreatDoorYTag
namespace Go.Proofs.YtomikokonmikgaaGreatDoor
open Go.Proofs.Tryz
set_option maxHeartbeats 1000000
open Go.RowKit
set_option linter.unusedVariables false
theorem dD (s:Bool)(a:Nat):(a=0/\ag (sg s a) 0=0)\/(0 < a/\s=true/\ag (sg s a) 0= -1)\/(0 < a/\s=false/\ag (sg s a) 0=1):=by
 rcases Nat.eq_zero_or_pos a with e | e
 ·subst e;exact .inl ⟨rfl,by rw[fE];exact aW rfl⟩
 ·cases s
  ·exact .inr (.inr ⟨e,rfl,az (by simp[sg];omega)⟩)
  ·exact .inr (.inl ⟨e,rfl,aq (by simp[sg];omega)⟩)
theorem ju{w:World}{A:Option Addr}{n c:Nat}{s:Bool}{x r:Int}(h:Wr w s A n c x)(hr:ag x 0=r):Calls prog 122 #[.agg #[.bool s,.slice A n c]] w (PI w r):=by
 obtain⟨a,h,e1⟩:=h;subst e1
 have hb:ac a<=35184372088832:=by have:=h.blen_le;have:=h.big;omega
 rcases dD s a with⟨rfl,e⟩ | ⟨d,rfl,e⟩ | ⟨d,rfl,e⟩
 ·rw[e]at hr;subst hr;clear e hb
  go_enter func122,ntmps122
  go_wp2_with (first
   | (go_at_call 188;((with_reducible refine(iW (z:=0) (h.below (af _ _)) rfl).mono ?_);rintro e w1 ⟨rfl,b⟩)))
  go_ret
  exact⟨rfl,bt (af _ _) b⟩
 all_goals
  rw[e]at hr;subst hr
  have hz:((ac a:Nat):Int)≠0:=by have:=aI (a:=a);omega
  have hq:(((ac a:Nat):Int)==0)=false:=by simpa using hz
  clear e hz
  go_enter func122,ntmps122
  go_wp2_with (first
   | (go_at_call 188;((with_reducible refine(Jx (h.below (af _ _))).mono ?_);rintro e w1 ⟨rfl,b⟩;obtain⟨f,g⟩:=bz b)))
  go_ret
  exact⟨rfl,bt (af _ _) b⟩
theorem wv{x y:Int}(h:ag x 0≠ag y 0):ag (ag x 0) (ag y 0)=ag x y:=by
 unfold ag at h|-
 split <;> split <;> split <;> (try split) <;> (try split) <;> (try split) <;> simp_all <;> omega
theorem y9{s t:Bool}{a b:Nat}(h:ag (sg s a) 0=ag (sg t b) 0):ag (sg s a) 0*ag (a:Int) (b:Int)=ag (sg s a) (sg t b):=by
 rcases dD s a with⟨rfl,e⟩ | ⟨c,rfl,e⟩ | ⟨c,rfl,e⟩ <;> rcases dD t b with⟨rfl,e'⟩ | ⟨hb,rfl,e'⟩ | ⟨hb,rfl,e'⟩ <;> rw[e,e']at h <;> first | (exfalso;revert h;decide) | skip
 ·rw[e,fE,fE,Int.zero_mul];exact(aW rfl).symm
 ·rw[e]
  rcases Nat.lt_trichotomy a b with q | q | q
  ·rw[aq (by omega),az (by simp[sg];omega)];rfl
  ·subst q;rw[kx,aW rfl];rfl
  ·rw[az (by omega),aq (by simp[sg];omega)];rfl
 ·rw[e]
  rcases Nat.lt_trichotomy a b with q | q | q
  ·rw[aq (by omega),aq (by simp[sg];omega)];rfl
  ·subst q;rw[kx,aW rfl];rfl
  ·rw[az (by omega),az (by simp[sg];omega)];rfl
theorem sW{w:World}{A B:Option Addr}{n c m d:Nat}{s t:Bool}{x y r:Int}(h:Wr w s A n c x)(k:Wr w t B m d y)(hr:ag x y=r):
  Calls prog 56 #[.agg #[.bool s,.slice A n c],.agg #[.bool t,.slice B m d]] w (PI w r):=by
 obtain⟨a,N,e1⟩:=id h;obtain⟨b,S,e2⟩:=id k;have j:=fB x 0;have z:=fB y 0;have C:=fB a b
 by_cases hs:ag x 0=ag y 0
 ·have i:Hid (ag x 0*ag (a:Int) (b:Int)=r):=Lib.hid (by rw[<-hr,<-e1,<-e2];exact y9 (by rw[e1,e2];exact hs))
  have l:=Lib.hid (rfl:ag x 0=ag x 0);have F:=Lib.hid hs.symm;have G:=Lib.hid (rfl:ag (a:Int) (b:Int)=ag (a:Int) (b:Int));clear hr e1 e2 hs z
  revert j C i l F G
  generalize v:ag x 0=p;generalize hq:ag (a:Int) (b:Int)=q
  intro j C i l F G
  have D:=Lib.hid v;have E:=Lib.hid hq;clear v hq l G
  have hb: -1<=p*q/\p*q<=1:=by
   rcases (by omega:p= -1\/p=0\/p=1)with rfl | rfl | rfl <;> omega
  obtain⟨O,P⟩:=hb;obtain⟨H,I⟩:=j;obtain⟨J,L⟩:=C
  have W:IntKind.i64.wrap (p*q)=p*q:=IntWalk.i64_in _ (by omega)
  have R:(p !=p)=false:=by simp
  go_enter func56,ntmps56
  go_wp2_with (first
   | (go_at_call 122;((with_reducible refine(ju (h.below (bK _ _ _)) D.out).mono ?_);rintro e w1 ⟨rfl,f⟩;obtain⟨o,u⟩:=bz f))
   | (go_at_call 122;((with_reducible refine(ju (k.below (bt (bK _ _ _) f)) F.out).mono ?_);rintro e T ⟨rfl,g⟩;clear o u;obtain⟨o,u⟩:=bz (bt f g)))
   | (go_at_call 123;((with_reducible refine(F4 (N.below (bt (bK _ _ _) (bt f g))) (S.below (bt (bK _ _ _) (bt f g))) E.out).mono ?_);rintro e U ⟨rfl,M⟩)))
  go_ret
  exact⟨ao i.out,bt (bK _ _ _) (bt f (bt g M))⟩
 ·have i:Hid (ag (ag x 0) (ag y 0)=r):=Lib.hid (by rw[<-hr];exact wv hs)
  have l:=Lib.hid (rfl:ag x 0=ag x 0);clear hr e1 e2 C
  revert j z i hs
  generalize v:ag x 0=p;generalize hq:ag y 0=q
  intro j z hs i
  have D:=Lib.hid v;have E:=Lib.hid hq;clear v hq l;obtain⟨H,I⟩:=j;obtain⟨J,L⟩:=z
  have Q:(p !=q)=true:=by simpa using hs
  have V:=Lib.hid hs;clear hs
  go_enter func56,ntmps56
  go_wp2_with (first
   | (go_at_call 122;((with_reducible refine(ju (h.below (bK _ _ _)) D.out).mono ?_);rintro e w1 ⟨rfl,f⟩;obtain⟨o,u⟩:=bz f))
   | (go_at_call 122;((with_reducible refine(ju (k.below (bt (bK _ _ _) f)) E.out).mono ?_);rintro e T ⟨rfl,g⟩;clear o u;obtain⟨o,u⟩:=bz (bt f g)))
   | (go_at_call 110;((with_reducible refine(fS _ _ _).mono ?_);rintro e U ⟨rfl,rfl⟩)))
  go_ret
  exact⟨ao i.out,bt (bK _ _ _) (bt f g)⟩
theorem dG{x y:Int}:ag x y=0↔x=y:=by unfold ag;split <;> (try split) <;> omega
theorem mP (W:World){g k:Nat}{X Y:Int}(hg:W.heap.size=g)(hX:X=((k%4294967296:Nat):Int))(hY:Y=((k/4294967296:Nat):Int))(hk:k < 18446744073709551616):
  Rd (W.alloc (.cells #[.int .u32 X,.int .u32 Y] 92)) (some ⟨g,0,none⟩) 2 2 k:=by
 subst hg;subst hX;subst hY;exact⟨_,_,lit2 W _ _ (Nat.mod_lt _ (by decide)) (by omega),by simp[val];omega⟩
theorem sV (k:Nat)(h:k<=9223372036854775808):IntKind.u64.wrap (-IntKind.u64.wrap (-(k:Int)))=k:=by
 simp[IntKind.wrap,IntKind.signed,IntKind.bits]
 omega
theorem zM (k:Nat)(w:World)(h:k < 9223372036854775808):Calls prog 55 #[.int .i64 (k:Int)] w (W1 w 2 (k:Int)):=by
 have hd:decide ((k:Int) < 0)=false:=by simp
 go_enter func55,ntmps55
 go_wp2_with (first
  | (go_at_call 58;((with_reducible refine(kr false (mP _ (by simp) (k:=k) (by omega) (by omega) (by omega))).mono ?_);rintro e b ⟨s2,A2,n2,c2,rfl,h2,f,a⟩;obtain⟨c,d⟩:=bz a)))
 have X:Bx b w.heap.size false none 0 0:=((Bx.new w false none 0 0).below (af _ _)).below a
 exact bodyPost_ret (v:= .agg #[.bool s2,.slice A2 n2 c2]) (by simp[results,results55,go_sem,X.cell0,X.cell1]) rfl ⟨s2,A2,n2,c2,rfl,h2.st X _ _,by omega,st2 (bt (bK _ _ _) a) (Nat.le_refl _) _ _⟩
theorem zL (k:Nat)(w:World)(h:k<=9223372036854775808)(h0:0 < k):Calls prog 55 #[.int .i64 (-(k:Int))] w (W1 w 2 (-(k:Int))):=by
 have hlt: -(k:Int) < 0:=by omega
 have b:=sV k h
 go_enter func55,ntmps55
 go_wp2_with (first
  | (go_at_call 58;((with_reducible refine(kr true (mP _ (by simp) (k:=k) (by clear b;omega) (by clear b;omega) (by clear b;omega))).mono ?_);rintro e c ⟨s2,A2,n2,c2,rfl,h2,g,a⟩;obtain⟨d,f⟩:=bz a)))
 have X:Bx c w.heap.size false none 0 0:=((Bx.new w false none 0 0).below (af _ _)).below a
 exact bodyPost_ret (v:= .agg #[.bool s2,.slice A2 n2 c2]) (by simp[results,results55,go_sem,X.cell0,X.cell1]) rfl ⟨s2,A2,n2,c2,rfl,h2.st X _ _,by omega,st2 (bt (bK _ _ _) a) (Nat.le_refl _) _ _⟩
theorem iB (z:Int)(w:World)(h1: -9223372036854775808<=z)(h2:z<=9223372036854775807):Calls prog 55 #[.int .i64 z] w (W1 w 2 z):=by
 rcases Int.lt_or_le z 0 with h | h
 ·have:=zL z.natAbs w (by omega) (by omega)
  rwa [show -((z.natAbs:Nat):Int)=z by omega]at this
 ·have:=zM z.natAbs w (by omega)
  rwa [show ((z.natAbs:Nat):Int)=z by omega]at this
def sA (l:List Int):Int:=l.foldl (· * ·) 1
theorem BG{l:List Int}{k:Nat}(h:k < l.length):sA (l.take (k+1))=sA (l.take k)*l.getD k 0:=by
 unfold sA
 rw[List.take_succ_eq_append_getElem h,List.foldl_append]
 simp[List.getD_eq_getElem?_getD,h]
theorem Ch (s t:Bool)(a b:Nat):sg (s !=t) (a*b)=sg s a*sg t b:=by
 cases s <;> cases t <;> simp[sg,Int.neg_mul,Int.mul_neg]
def Wl (w:World)(A:Option Addr)(n c K:Nat)(zs:List Int):Prop:=
 zs.length=n/\n<=c/\n<=1099511627776/\(0 < n->∃b o,A=some ⟨b,o,none⟩/\∀k,k < n->∃s B m d,w.cell? ⟨b,o+k*2,none⟩=some (.bool s)/\w.cell? ⟨b,o+k*2+1,none⟩=some (.slice B m d)/\Wr w s B m d (zs.getD k 0)/\m<=K)
theorem Wl.below{w w':World}{A:Option Addr}{n c K:Nat}{zs:List Int}(h:Wl w A n c K zs)(hb:Below w.heap.size w w'):Wl w' A n c K zs:=by
 obtain⟨h1,h2,a,h4⟩:=h
 refine⟨h1,h2,a,fun hn=>?_⟩
 obtain⟨b,o,e,f⟩:=h4 hn
 refine⟨b,o,e,fun k hk=>?_⟩
 obtain⟨s,B,m,d,c0,c1,g,hm⟩:=f k hk;exact⟨s,B,m,d,(hb.cell (p:=⟨b,_,none⟩) (block_lt_of_cell c0)).trans c0,(hb.cell (p:=⟨b,_,none⟩) (block_lt_of_cell c1)).trans c1,g.below hb,hm⟩
abbrev Wl.b:= @Wl.below
def Db (w0:World)(K:Nat)(zs:List Int)(k:Nat)(s:Bool)(A:Option Addr)(n c:Nat)(wr:World):Prop:=Below w0.heap.size w0 wr/\∃a,Nm wr A n c a/\sg s a=sA (zs.take k)/\n<=1+k*K
theorem Bn (W:World):Nm (W.alloc (.cells #[.int .u32 1] 92)) (some ⟨W.heap.size,0,none⟩) 1 1 1:=⟨_,by rw[show ah 1=[1] by rw[dU (by decide)];simp[aA]];exact j7 W⟩
theorem mR{w:World}{A:Option Addr}{n c K:Nat}{zs:List Int}{r:Int}(h:Wl w A n c K zs)(hK:1+n*K<=1073741824)(hr:sA zs=r):Calls prog 54 #[.slice A n c] w (W1 w (1+n*K) r):=by
 have H:=h.2.1;have G:=h.2.2.1
 go_enter func54,ntmps54
 go_wp2
 go_loopw [3,4,10] (fun u m i wr=>∃(k:Nat) (s:Bool) (B:Option Addr) (p d:Nat),k<=n/\i= .int .i64 k/\u= .bool s/\m= .slice B p d/\Db ((w.alloc (.cells #[.bool false,.slice none 0 0] 27)).alloc (.cells #[.int .u32 1] 92)) K zs k s B p d wr) (fun _ _ i _=>n-(intOf i).toNat)
 case atStart=>exact ⟨0,false,_,1,1,Nat.zero_le _,rfl,rfl,rfl,Below.refl _ _,1,by first | exact Bn _ | (have:=Bn (w.alloc (.cells #[.bool false,.slice none 0 0] 27));simpa using this),rfl,by omega⟩
 case round=>
  obtain⟨k,s,B,p,d,S,rfl,rfl,rfl,F⟩:=hrel;have E:=Lib.hid F;clear F
  by_cases hlt:k < n
  ·obtain⟨f,a,x,hs,O⟩:=E.out;have hl:=h.below (bt (bK _ _ _) f);obtain⟨b,o,rfl,hcell⟩:=hl.2.2.2 (by omega);obtain⟨t,D,q,e,c0,c1,I,hq⟩:=hcell k hlt;clear hcell hl;have l:=Lib.hid hs;clear hs;have y:=block_lt_of_cell c0
   have N:b≠wr.heap.size:=by
    have:b < wr.heap.size:=y
    omega
   have g:n*K=(n-k-1)*K+(k*K+K):=by
    rw[<-Nat.succ_mul,<-Nat.add_mul];congr 1;omega
   have z:p<=1073741824:=by omega
   have C:q<=1073741824:=by omega
   have L:=Lib.hid g;clear g
   go_wp2_with (first
    | (go_at_call 120;((with_reducible refine(Ke (x.rd.below (af _ _)) (I.rd.below (af _ _)) z C).mono ?_);rintro e V ⟨A3,n3,c3,rfl,M,U,J⟩)))
   go_roundw
   case rel=>
    refine⟨k+1,(s !=t),A3,n3,c3,by omega,by go_num,rfl,rfl,bt f (bt (af _ _) J),_,M,?_,by rw[Nat.succ_mul];omega⟩
    rw[BG (by rw[h.1];exact hlt),Ch,l.out,I.eq]
   case measure=>simp [intOf];omega
  ·obtain rfl:k=n:=by omega
   obtain⟨f,a,x,hs,O⟩:=E.out
   have l:Hid (sg s a=r):=Lib.hid (by rw[hs,<-hr,List.take_of_length_le (by rw[h.1];omega)])
   clear hs hr
   go_wp2_with (first
    | (go_at_call 121;((with_reducible refine(eX s x).mono ?_);rintro e P ⟨s2,A2,n2,c2,rfl,h2,T,j⟩;obtain⟨Q,R⟩:=bz (bt f j))))
   have X:Bx P w.heap.size false none 0 0:=(((Bx.new w false none 0 0).below (af _ _)).below f).below j
   exact bodyPost_ret (v:= .agg #[.bool s2,.slice A2 n2 c2]) (by simp[results,results54,go_sem,X.cell0,X.cell1]) rfl ⟨s2,A2,n2,c2,rfl,l.out▸h2.st X _ _,by omega,st2 (bt (bK _ _ _) (bt f j)) (Nat.le_refl _) _ _⟩
theorem vQ{k:IntKind}{a b:Int}(h:a=b):Value.int k a= .int k b:=by rw[h]
def fits (z:Int):Bool:=decide (-9223372036854775808<=z/\z<=9223372036854775807)
