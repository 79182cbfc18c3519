/-
 Contracts that the proof rests on.
-/
import Derived.IntWalk
import Derived.Test.YteigedaefgmojaaGreatDoorYUag
namespace Go.Proofs.YteigedaefgmojaaGreatDoor
open Go.Proofs.Tryz
set_option maxHeartbeats 1000000
open Go.RowKit
set_option linter.unusedVariables false
theorem dK (s:Bool)(a:Nat):(a=0/\ag (sg s a) 0=0)\/(0 < a/\s=true/\ag (sg s a) 0= -1)\/(0 < a/\s=false/\ag (sg s a) 0=1):=by
 rcases Nat.eq_zero_or_pos a with e | e
 ·subst e;exact .inl ⟨rfl,by rw[fO];exact be rfl⟩
 ·cases s
  ·exact .inr (.inr ⟨e,rfl,aC (by simp[sg];omega)⟩)
  ·exact .inr (.inl ⟨e,rfl,av (by simp[sg];omega)⟩)
theorem jN{w:World}{A:Option Addr}{n c:Nat}{s:Bool}{x r:Int}(h:Wr w s A n c x)(hr:ag x 0=r):Calls prog 122 #[.agg #[.bool s,.slice A n c]] w (PI w r):=by
 obtain⟨a,h,e1⟩:=h;subst e1
 have hb:ae a<=35184372088832:=by have:=h.blen_le;have:=h.big;omega
 rcases dK s a with⟨rfl,e⟩ | ⟨d,rfl,e⟩ | ⟨d,rfl,e⟩
 ·rw[e]at hr;subst hr;clear e hb
  go_enter func122,ntmps122
  go_wp2_with (first
   | (go_at_call 180;((with_reducible refine(jg (z:=0) (h.below (af _ _)) rfl).mono ?_);rintro e w1 ⟨rfl,b⟩)))
  go_ret
  exact⟨rfl,bt (af _ _) b⟩
 all_goals
  rw[e]at hr;subst hr
  have hz:((ae a:Nat):Int)≠0:=by have:=aL (a:=a);omega
  have hq:(((ae a:Nat):Int)==0)=false:=by simpa using hz
  clear e hz
  go_enter func122,ntmps122
  go_wp2_with (first
   | (go_at_call 180;((with_reducible refine(Kb (h.below (af _ _))).mono ?_);rintro e w1 ⟨rfl,b⟩;obtain⟨f,hf⟩:=bJ b)))
  go_ret
  exact⟨rfl,bt (af _ _) b⟩
theorem xt{x y:Int}(h:ag x 0≠ag y 0):ag (ag x 0) (ag y 0)=ag x y:=by
 unfold ag at h|-
 split <;> split <;> split <;> (try split) <;> (try split) <;> (try split) <;> simp_all <;> omega
theorem Aj{s t:Bool}{a b:Nat}(h:ag (sg s a) 0=ag (sg t b) 0):ag (sg s a) 0*ag (a:Int) (b:Int)=ag (sg s a) (sg t b):=by
 rcases dK s a with⟨rfl,e⟩ | ⟨c,rfl,e⟩ | ⟨c,rfl,e⟩ <;> rcases dK t b with⟨rfl,e'⟩ | ⟨hb,rfl,e'⟩ | ⟨hb,rfl,e'⟩ <;> rw[e,e']at h <;> first | (exfalso;revert h;decide) | skip
 ·rw[e,fO,fO,Int.zero_mul];exact(be rfl).symm
 ·rw[e]
  rcases Nat.lt_trichotomy a b with q | q | q
  ·rw[av (by omega),aC (by simp[sg];omega)];rfl
  ·subst q;rw[kN,be rfl];rfl
  ·rw[aC (by omega),av (by simp[sg];omega)];rfl
 ·rw[e]
  rcases Nat.lt_trichotomy a b with q | q | q
  ·rw[av (by omega),av (by simp[sg];omega)];rfl
  ·subst q;rw[kN,be rfl];rfl
  ·rw[aC (by omega),aC (by simp[sg];omega)];rfl
theorem tM{w:World}{A B:Option Addr}{n c m d:Nat}{s t:Bool}{x y r:Int}(h:Wr w s A n c x)(k:Wr w t B m d y)(hr:ag x y=r):
  Calls prog 126 #[.agg #[.bool s,.slice A n c],.agg #[.bool t,.slice B m d]] w (PI w r):=by
 obtain⟨a,L,e1⟩:=id h;obtain⟨b,Q,e2⟩:=id k;have j:=fM x 0;have u:=fM y 0;have v:=fM a b
 by_cases hs:ag x 0=ag y 0
 ·have i:Hid (ag x 0*ag (a:Int) (b:Int)=r):=Lib.hid (by rw[<-hr,<-e1,<-e2];exact Aj (by rw[e1,e2];exact hs))
  have l:=Lib.hid (rfl:ag x 0=ag x 0);have D:=Lib.hid hs.symm;have E:=Lib.hid (rfl:ag (a:Int) (b:Int)=ag (a:Int) (b:Int));clear hr e1 e2 hs u
  revert j v i l D E
  generalize hp:ag x 0=p;generalize hq:ag (a:Int) (b:Int)=q
  intro j v i l D E
  have z:=Lib.hid hp;have C:=Lib.hid hq;clear hp hq l E
  have hb: -1<=p*q/\p*q<=1:=by
   rcases (by omega:p= -1\/p=0\/p=1)with rfl | rfl | rfl <;> omega
  obtain⟨M,N⟩:=hb;obtain⟨F,G⟩:=j;obtain⟨H,I⟩:=v
  have U:IntKind.i64.wrap (p*q)=p*q:=IntWalk.i64_in _ (by omega)
  have P:(p !=p)=false:=by simp
  go_enter func126,ntmps126
  go_wp2_with (first
   | (go_at_call 122;((with_reducible refine(jN (h.below (bV _ _ _)) z.out).mono ?_);rintro e w1 ⟨rfl,f⟩;obtain⟨o,hf⟩:=bJ f))
   | (go_at_call 122;((with_reducible refine(jN (k.below (bt (bV _ _ _) f)) D.out).mono ?_);rintro e R ⟨rfl,g⟩;clear o hf;obtain⟨o,hf⟩:=bJ (bt f g)))
   | (go_at_call 183;((with_reducible refine(GR (L.below (bt (bV _ _ _) (bt f g))) (Q.below (bt (bV _ _ _) (bt f g))) C.out).mono ?_);rintro e S ⟨rfl,J⟩)))
  go_ret
  exact⟨ap i.out,bt (bV _ _ _) (bt f (bt g J))⟩
 ·have i:Hid (ag (ag x 0) (ag y 0)=r):=Lib.hid (by rw[<-hr];exact xt hs)
  have l:=Lib.hid (rfl:ag x 0=ag x 0);clear hr e1 e2 v
  revert j u i hs
  generalize hp:ag x 0=p;generalize hq:ag y 0=q
  intro j u hs i
  have z:=Lib.hid hp;have C:=Lib.hid hq;clear hp hq l;obtain⟨F,G⟩:=j;obtain⟨H,I⟩:=u
  have O:(p !=q)=true:=by simpa using hs
  have T:=Lib.hid hs;clear hs
  go_enter func126,ntmps126
  go_wp2_with (first
   | (go_at_call 122;((with_reducible refine(jN (h.below (bV _ _ _)) z.out).mono ?_);rintro e w1 ⟨rfl,f⟩;obtain⟨o,hf⟩:=bJ f))
   | (go_at_call 122;((with_reducible refine(jN (k.below (bt (bV _ _ _) f)) C.out).mono ?_);rintro e R ⟨rfl,g⟩;clear o hf;obtain⟨o,hf⟩:=bJ (bt f g)))
   | (go_at_call 51;((with_reducible refine(f7 _ _ _).mono ?_);rintro e S ⟨rfl,rfl⟩)))
  go_ret
  exact⟨ap i.out,bt (bV _ _ _) (bt f g)⟩
theorem dO{x y:Int}:ag x y=0↔x=y:=by unfold ag;split <;> (try split) <;> omega
theorem nu (W:World){g k:Nat}{X Y:Int}(hg:W.heap.size=g)(hX:X=((k%4294967296:Nat):Int))(hY:Y=((k/4294967296:Nat):Int))(hk:k < 18446744073709551616):
  Rd (W.alloc (.cells #[.int .u32 X,.int .u32 Y] 103)) (some ⟨g,0,none⟩) 2 2 k:=by
 subst hg;subst hX;subst hY;exact⟨_,_,lit2 W _ _ (Nat.mod_lt _ (by decide)) (by omega),by simp[val];omega⟩
theorem tL (k:Nat)(h:k<=9223372036854775808):IntKind.u64.wrap (-IntKind.u64.wrap (-(k:Int)))=k:=by
 simp[IntKind.wrap,IntKind.signed,IntKind.bits]
 omega
theorem AP (k:Nat)(w:World)(h:k < 9223372036854775808):Calls prog 58 #[.int .i64 (k:Int)] w (W1 w 2 (k:Int)):=by
 have hd:decide ((k:Int) < 0)=false:=by simp
 go_enter func58,ntmps58
 go_wp2_with (first
  | (go_at_call 123;((with_reducible refine(kH false (nu _ (by simp) (k:=k) (by omega) (by omega) (by omega))).mono ?_);rintro e b ⟨s2,A2,n2,c2,rfl,h2,d,a⟩;obtain⟨c,hf⟩:=bJ a)))
 have X:Bx b w.heap.size false none 0 0:=((Bx.new w false none 0 0).below (af _ _)).below a
 exact bodyPost_ret (v:= .agg #[.bool s2,.slice A2 n2 c2]) (by simp[results,results58,go_sem,X.cell0,X.cell1]) rfl ⟨s2,A2,n2,c2,rfl,h2.st X _ _,by omega,st2 (bt (bV _ _ _) a) (Nat.le_refl _) _ _⟩
theorem AO (k:Nat)(w:World)(h:k<=9223372036854775808)(h0:0 < k):Calls prog 58 #[.int .i64 (-(k:Int))] w (W1 w 2 (-(k:Int))):=by
 have hlt: -(k:Int) < 0:=by omega
 have b:=tL k h
 go_enter func58,ntmps58
 go_wp2_with (first
  | (go_at_call 123;((with_reducible refine(kH true (nu _ (by simp) (k:=k) (by clear b;omega) (by clear b;omega) (by clear b;omega))).mono ?_);rintro e c ⟨s2,A2,n2,c2,rfl,h2,f,a⟩;obtain⟨d,hf⟩:=bJ a)))
 have X:Bx c w.heap.size false none 0 0:=((Bx.new w false none 0 0).below (af _ _)).below a
 exact bodyPost_ret (v:= .agg #[.bool s2,.slice A2 n2 c2]) (by simp[results,results58,go_sem,X.cell0,X.cell1]) rfl ⟨s2,A2,n2,c2,rfl,h2.st X _ _,by omega,st2 (bt (bV _ _ _) a) (Nat.le_refl _) _ _⟩
theorem iL (z:Int)(w:World)(h1: -9223372036854775808<=z)(h2:z<=9223372036854775807):Calls prog 58 #[.int .i64 z] w (W1 w 2 z):=by
 rcases Int.lt_or_le z 0 with h | h
 ·have:=AO z.natAbs w (by omega) (by omega)
  rwa [show -((z.natAbs:Nat):Int)=z by omega]at this
 ·have:=AP z.natAbs w (by omega)
  rwa [show ((z.natAbs:Nat):Int)=z by omega]at this
def tj (l:List Int):Int:=l.foldl (· * ·) 1
theorem CM{l:List Int}{k:Nat}(h:k < l.length):tj (l.take (k+1))=tj (l.take k)*l.getD k 0:=by
 unfold tj
 rw[List.take_succ_eq_append_getElem h,List.foldl_append]
 simp[List.getD_eq_getElem?_getD,h]
theorem Dh (s t:Bool)(a b:Nat):sg (s !=t) (a*b)=sg s a*sg t b:=by
 cases s <;> cases t <;> simp[sg,Int.neg_mul,Int.mul_neg]
def Wl (w:World)(A:Option Addr)(n c K:Nat)(zs:List Int):Prop:=
 zs.length=n/\n<=c/\n<=1099511627776/\(0 < n->∃b o,A=some ⟨b,o,none⟩/\∀k,k < n->∃s B m d,w.cell? ⟨b,o+k*2,none⟩=some (.bool s)/\w.cell? ⟨b,o+k*2+1,none⟩=some (.slice B m d)/\Wr w s B m d (zs.getD k 0)/\m<=K)
theorem Wl.below{w w':World}{A:Option Addr}{n c K:Nat}{zs:List Int}(h:Wl w A n c K zs)(hb:Below w.heap.size w w'):Wl w' A n c K zs:=by
 obtain⟨h1,h2,a,h4⟩:=h
 refine⟨h1,h2,a,fun hn=>?_⟩
 obtain⟨b,o,e,f⟩:=h4 hn
 refine⟨b,o,e,fun k hk=>?_⟩
 obtain⟨s,B,m,d,c0,c1,g,hm⟩:=f k hk;exact⟨s,B,m,d,(hb.cell (p:=⟨b,_,none⟩) (block_lt_of_cell c0)).trans c0,(hb.cell (p:=⟨b,_,none⟩) (block_lt_of_cell c1)).trans c1,g.below hb,hm⟩
abbrev Wl.b:= @Wl.below
instance {w w':World} {A:Option Addr} {n c K:Nat} {zs:List Int}:Mv (Wl w A n c K zs) w w' (Wl w' A n c K zs):=⟨fun h b=>h.below b⟩
def D8 (w0:World)(K:Nat)(zs:List Int)(k:Nat)(s:Bool)(A:Option Addr)(n c:Nat)(wr:World):Prop:=Below w0.heap.size w0 wr/\∃a,Nm wr A n c a/\sg s a=tj (zs.take k)/\n<=1+k*K
theorem Ct (W:World):Nm (W.alloc (.cells #[.int .u32 1] 103)) (some ⟨W.heap.size,0,none⟩) 1 1 1:=⟨_,by rw[show ah 1=[1] by rw[ej (by decide)];simp[aD]];exact kt W⟩
theorem ny{w:World}{A:Option Addr}{n c K:Nat}{zs:List Int}{r:Int}(h:Wl w A n c K zs)(hK:1+n*K<=1073741824)(hr:tj zs=r):Calls prog 121 #[.slice A n c] w (W1 w (1+n*K) r):=by
 have H:=h.2.1;have G:=h.2.2.1
 go_enter func121,ntmps121
 go_wp2
 go_loopw [3,4,10] (fun u m i wr=>∃(k:Nat) (s:Bool) (B:Option Addr) (p d:Nat),k<=n/\i= .int .i64 k/\u= .bool s/\m= .slice B p d/\D8 ((w.alloc (.cells #[.bool false,.slice none 0 0] 43)).alloc (.cells #[.int .u32 1] 103)) K zs k s B p d wr) (fun _ _ i _=>n-(intOf i).toNat)
 case atStart=>exact ⟨0,false,_,1,1,Nat.zero_le _,rfl,rfl,rfl,Below.refl _ _,1,by first | exact Ct _ | (have:=Ct (w.alloc (.cells #[.bool false,.slice none 0 0] 43));simpa using this),rfl,by omega⟩
 case round=>
  obtain⟨k,s,B,p,d,Q,rfl,rfl,rfl,F⟩:=hrel;have E:=Lib.hid F;clear F
  by_cases hlt:k < n
  ·obtain⟨f,a,x,hs,hp⟩:=E.out;have hl:=h.below (bt (bV _ _ _) f);obtain⟨b,o,rfl,hcell⟩:=hl.2.2.2 (by omega);obtain⟨t,D,q,e,c0,c1,I,hq⟩:=hcell k hlt;clear hcell hl;have l:=Lib.hid hs;clear hs;have y:=block_lt_of_cell c0
   have N:b≠wr.heap.size:=by
    have:b < wr.heap.size:=y
    omega
   have g:n*K=(n-k-1)*K+(k*K+K):=by
    rw[<-Nat.succ_mul,<-Nat.add_mul];congr 1;omega
   have z:p<=1073741824:=by omega
   have C:q<=1073741824:=by omega
   have L:=Lib.hid g;clear g
   go_wp2_with (first
    | (go_at_call 178;((with_reducible refine(KT (x.rd.below (af _ _)) (I.rd.below (af _ _)) z C).mono ?_);rintro e T ⟨A3,n3,c3,rfl,M,S,J⟩)))
   go_roundw
   case rel=>
    refine⟨k+1,(s !=t),A3,n3,c3,by omega,by go_num,rfl,rfl,bt f (bt (af _ _) J),_,M,?_,by rw[Nat.succ_mul];omega⟩
    rw[CM (by rw[h.1];exact hlt),Dh,l.out,I.eq]
   case measure=>simp [intOf];omega
  ·obtain rfl:k=n:=by omega
   obtain⟨f,a,x,hs,hp⟩:=E.out
   have l:Hid (sg s a=r):=Lib.hid (by rw[hs,<-hr,List.take_of_length_le (by rw[h.1];omega)])
   clear hs hr
   go_wp2_with (first
    | (go_at_call 179;((with_reducible refine(fo s x).mono ?_);rintro e O ⟨s2,A2,n2,c2,rfl,h2,R,j⟩;obtain⟨P,hf⟩:=bJ (bt f j))))
   have X:Bx O w.heap.size false none 0 0:=(((Bx.new w false none 0 0).below (af _ _)).below f).below j
   exact bodyPost_ret (v:= .agg #[.bool s2,.slice A2 n2 c2]) (by simp[results,results121,go_sem,X.cell0,X.cell1]) rfl ⟨s2,A2,n2,c2,rfl,l.out▸h2.st X _ _,by omega,st2 (bt (bV _ _ _) (bt f j)) (Nat.le_refl _) _ _⟩
end Go.Proofs.YteigedaefgmojaaGreatDoor
namespace Go.Proofs.YteigedaefgmojaaGreatDoor
open Go.Proofs.Tryz
open Go.RowKit
set_option linter.unusedVariables false
theorem wW{k:IntKind}{a b:Int}(h:a=b):Value.int k a= .int k b:=by rw[h]
def fits (z:Int):Bool:=decide (-9223372036854775808<=z/\z<=9223372036854775807)
