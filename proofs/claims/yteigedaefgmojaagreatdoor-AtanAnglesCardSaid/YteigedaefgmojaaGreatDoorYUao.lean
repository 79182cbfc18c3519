/-
 Contracts that the proof rests on.
-/
import Derived.Deep.DeepCutAuto
import Derived.Test.YteigedaefgmojaaGreatDoorYUaj
import Derived.Test.YteigedaefgmojaaGreatDoorYUan
namespace Go.Proofs.YteigedaefgmojaaGreatDoor
open Go.Proofs.Tryz
set_option maxHeartbeats 4000000
open Go.RowKit
set_option linter.unusedVariables false
theorem Bx.far3{w:World}{g:Nat}{s:Bool}{A:Option Addr}{n c:Nat}(h:Bx w g s A n c){k:Nat}(hk:g≠k)(u v t:Value):Bx (((w.setCell ⟨k,0,none⟩ u).setCell ⟨k,1,none⟩ v).setCell ⟨k,2,none⟩ t) g s A n c:=
 h.keep (by rw[Below.heap_setCell _ _ _ _ hk,Below.heap_setCell _ _ _ _ hk,Below.heap_setCell _ _ _ _ hk])
set_option maxRecDepth 100000
theorem xA{w:World}{s:Bool}{A:Option Addr}{n c:Nat}{z e:Int}(h:Wr w s A n c z)(hc:xJ e=false):
  Calls prog 217 #[.agg #[.bool s,.slice A n c],.int .i64 e] w (D1 w n 0 0):=by
 go_enter func217,ntmps217
 go_wp2_with fail
 have a:Bo ((w.alloc (.cells #[.bool s,.slice A n c] 43)).alloc (.cells #[.bool false,.slice none 0 0,.int .i64 0] 94)) (w.heap.size+1) #[.bool false,.slice none 0 0,.int .i64 0] 94:=Bo.newAt _ (by simp) _ _
 have d:=Lib.hid (bV w (.cells #[.bool s,.slice A n c] 43) (.cells #[.bool false,.slice none 0 0,.int .i64 0] 94));refine(jx hc).mono ?_;rintro j w1 ⟨rfl,B⟩;replace a:=a.b B;replace d:=Lib.hid (bt d.out B);clear B;have f:=a.c0;have g:=a.c1;have i:=a.c2;have k:=a.frozen 0;have l:=a.frozen 1;have m:=a.frozen 2;go_wp2;exact bodyPost_ret (v:= .agg #[.bool false,.slice none 0 0,.int .i64 0]) (by simp[results,results217,go_sem,f,g,i]) rfl ⟨false,none,0,0,rfl,Wn.zero.st3 a _ _ _ _ _ (by simp[no32]),Nat.zero_le _,st3 d.out (by omega) _ _ _⟩
theorem sv{w:World}{s:Bool}{A:Option Addr}{n c:Nat}{e:Int}(h:Wr w s A n c 0)(hc:xJ e=true):
  Calls prog 217 #[.agg #[.bool s,.slice A n c],.int .i64 e] w (D1 w n 0 0):=by
 go_enter func217,ntmps217
 go_wp2_with fail
 have a:Bo ((w.alloc (.cells #[.bool s,.slice A n c] 43)).alloc (.cells #[.bool false,.slice none 0 0,.int .i64 0] 94)) (w.heap.size+1) #[.bool false,.slice none 0 0,.int .i64 0] 94:=Bo.newAt _ (by simp) _ _
 have d:=Lib.hid (bV w (.cells #[.bool s,.slice A n c] 43) (.cells #[.bool false,.slice none 0 0,.int .i64 0] 94))
 have f:Bx ((w.alloc (.cells #[.bool s,.slice A n c] 43)).alloc (.cells #[.bool false,.slice none 0 0,.int .i64 0] 94)) w.heap.size s A n c:=(Bx.new w s A n c).below (af _ _)
 refine(jx hc).mono ?_;rintro g w1 ⟨rfl,B⟩;replace a:=a.b B;replace f:=f.b B;replace d:=Lib.hid (bt d.out B);clear B;have q:=f.cell0;have t:=f.cell1
 go_wp2_with fail
 refine(jN (r:=0) (h.below d.out) (be rfl)).mono ?_;rintro g p ⟨rfl,B⟩;replace a:=a.b B;replace d:=Lib.hid (bt d.out B);clear B;have i:=a.c0;have j:=a.c1;have k:=a.c2;have l:=a.frozen 0;have m:=a.frozen 1;have o:=a.frozen 2;go_wp2;exact bodyPost_ret (v:= .agg #[.bool false,.slice none 0 0,.int .i64 0]) (by simp[results,results217,go_sem,i,j,k]) rfl ⟨false,none,0,0,rfl,Wn.zero.st3 a _ _ _ _ _ (by simp[no32]),Nat.zero_le _,st3 d.out (by omega) _ _ _⟩
theorem An{w:World}{s:Bool}{A:Option Addr}{n c:Nat}{z e N E:Int}(hT:dL w)(h:Wr w s A n c z)(hn:n<=100000)(h0:z≠0)(hc:xJ e=true)(HN:Hid ((mk z e).1=N))(HE:Hid ((mk z e).2=E)):
  Calls prog 217 #[.agg #[.bool s,.slice A n c],.int .i64 e] w (D1 w n N E):=by
 have S:z.natAbs≠0:=by omega
 have Y:v2 z.natAbs < 3200001:=by
  have e1:=eX S;have e2:=h.rd.bound;rw[oI]at e2;have e3:=(Nat.pow_lt_pow_iff_right (a:=2) (by decide)).1 (Nat.lt_of_le_of_lt e1 e2)
  omega
 have G: -4194304<=e/\e<=4194304:=by simpa [xJ]using hc
 obtain⟨zn,W⟩:=G
 have H:(ag z 0==0)=false:=by
  have:=(dO (x:=z) (y:=0))
  have h2:ag z 0≠0:=fun e=>h0 (this.1 e)
  simpa using h2
 obtain⟨sz,p⟩:∃q,ag z 0=q:=⟨_,rfl⟩;rw[p]at H;have f:=h.rd;have I:=h.eq;obtain⟨m,hm⟩:∃m,v2 z.natAbs=m:=⟨_,rfl⟩;have k:=Lib.hid hm
 have X:m < 3200001:=by omega
 have r:IntKind.i64.wrap (e+m)=e+m:=IntWalk.i64_in _ (by omega)
 have U:=Lib.hid r;clear hm Y r
 go_enter func217,ntmps217
 go_wp2_with fail
 have g:Bx ((w.alloc (.cells #[.bool s,.slice A n c] 43)).alloc (.cells #[.bool false,.slice none 0 0,.int .i64 0] 94)) w.heap.size s A n c:=(Bx.new w s A n c).below (af _ _)
 have d:Bo ((w.alloc (.cells #[.bool s,.slice A n c] 43)).alloc (.cells #[.bool false,.slice none 0 0,.int .i64 0] 94)) (w.heap.size+1) #[.bool false,.slice none 0 0,.int .i64 0] 94:=Bo.newAt _ (by simp) _ _
 have i:=Lib.hid (bV w (.cells #[.bool s,.slice A n c] 43) (.cells #[.bool false,.slice none 0 0,.int .i64 0] 94));replace hT:=hT.below i.out;replace f:=f.below i.out;refine(jx hc).mono ?_;rintro o w1 ⟨rfl,B⟩;replace g:=g.b B;replace d:=d.b B;replace hT:=hT.b B;replace f:=f.b B;replace i:=Lib.hid (bt i.out B);clear B;have P:=g.cell0
 have Q:=g.cell1
 go_wp2_with fail
 refine(jN (h.below i.out) p).mono ?_;rintro o w2 ⟨rfl,B⟩;clear P Q;replace g:=g.b B;replace d:=d.b B;replace hT:=hT.b B;replace f:=f.b B;replace i:=Lib.hid (bt i.out B);clear B h;have P:=g.cell0;have Q:=g.cell1
 go_wp2_with fail
 refine(xw hT f S (congrArg _ k.out)).mono ?_;rintro o w3 ⟨rfl,B⟩;clear P Q;replace g:=g.b B;replace d:=d.b B;replace f:=f.b B;replace i:=Lib.hid (bt i.out B);clear B;have r:=U.out
 by_cases u:xJ (e+m)=true
 ·have j:e+m<=4194304:=by
   have: -4194304<=e+m/\e+m<=4194304:=by simpa [xJ]using u
   exact this.2
  go_wp2_with fail
  refine(jx u).mono ?_;rintro o w4 ⟨rfl,B⟩;replace g:=g.b B;replace d:=d.b B;replace f:=f.b B;replace i:=Lib.hid (bt i.out B);clear B
  have l:Hid (sg s (z.natAbs/2^m)=N/\s=decide (N < 0)):=Lib.hid (by
   obtain⟨e1,e2,e3,V,e5⟩:=iH (z:=z) (e:=e) h0 zn (by rw[k.out];exact j);rw[HN.out]at e2 e3 V;rw[k.out]at e2
   have hs:s=decide (z < 0):=by
    rw[<-I,rC]
    have:decide (0 < z.natAbs)=true:=decide_eq_true (by omega)
    rw[this,Bool.and_true]
   refine⟨?_,by rw[hs,decide_eq_decide];exact e3.symm⟩
   rw[<-e2,hs]
   by_cases hz:z < 0
   ·have:=e3.2 hz
    simp[sg,hz];omega
   ·have:¬N < 0:=fun h=>hz (e3.1 h)
    simp[sg,hz];omega)
  have D:E=e+m:=by
   rw[<-HE.out,(iH (z:=z) (e:=e) h0 zn (by rw[k.out];exact j)).1,k.out]
  subst D
  have R:w.heap.size≠w.heap.size+1:=by omega
  have T:z.natAbs/2^m=(z.natAbs/2^m):=rfl
  go_wp2
  go_region_held3 (fun w'=>w'.cell? ⟨w.heap.size,0,none⟩=some (.bool s)/\w'.cell? ⟨w.heap.size,1,none⟩=some (.slice A n c)) (first | with_reducible exact⟨g.cell0,g.cell1⟩ | with_reducible exact⟨g.drew.cell0,g.drew.cell1⟩ | with_reducible exact⟨(g.far3 R _ _ _).cell0,(g.far3 R _ _ _).cell1⟩)
   (first
    | (go_at_call 220;((with_reducible refine(Ke f.drew (by clear r;omega) rfl).mono ?_);rintro o w5 ⟨A5,n5,c5,rfl,p5,Z,t⟩;replace g:=g.drew.below t;replace d:=d.drew.below t;replace i:=Lib.hid (bt i.out.drew t);clear t;have L:=d.c0;have M:=d.c1;have O:=d.c2;have q0:=d.frozen 0;have q1:=d.frozen 1;have q2:=d.frozen 2)))
  clear r;go_wp2
  have J:Wn w5 s A5 n5 c5 N:=by
   refine⟨?_,l.out.2⟩;rw[<-l.out.1,ew];exact p5
  exact bodyPost_ret (v:= .agg #[.bool s,.slice A5 n5 c5,.int .i64 (e+m)]) (by simp[results,results217,go_sem,L,M,O]) rfl ⟨s,A5,n5,c5,rfl,J.st3 d _ _ _ _ _ (by simp[no32]),Z,st3 i.out (by omega) _ _ _⟩
 ·have j:xJ (e+m)=false:=by simpa using u
  have e3:=vX (z:=z) (e:=e) (by
   rw[k.out]
   have:¬(-4194304<=e+m/\e+m<=4194304):=by simpa [xJ]using u
   omega)
  have F:N=0:=by rw[<-HN.out,e3]
  have C:E=0:=by rw[<-HE.out,e3]
  subst F;subst C;clear e3
  go_wp2_with fail
  refine(jx j).mono ?_;rintro o w4 ⟨rfl,B⟩;replace d:=d.b B;replace i:=Lib.hid (bt i.out B);clear B;have L:=d.c0;have M:=d.c1;have O:=d.c2;have q0:=d.frozen 0;have q1:=d.frozen 1;have q2:=d.frozen 2;go_wp2;exact bodyPost_ret (v:= .agg #[.bool false,.slice none 0 0,.int .i64 0]) (by simp[results,results217,go_sem,L,M,O]) rfl ⟨false,none,0,0,rfl,Wn.zero.st3 d _ _ _ _ _ (by simp[no32]),Nat.zero_le _,st3 i.out (by omega) _ _ _⟩
theorem vo{w:World}{s:Bool}{A:Option Addr}{n c:Nat}{z e N E:Int}(hT:dL w)(h:Wr w s A n c z)(hn:n<=100000)(hN:(mk z e).1=N)(hE:(mk z e).2=E):
  Calls prog 217 #[.agg #[.bool s,.slice A n c],.int .i64 e] w (D1 w n N E):=by
 by_cases a:xJ e=true
 ·by_cases b:z=0
  ·subst b;rw[dg]at hN hE;subst hN;subst hE;exact sv h a
  ·exact An hT h hn b a (Lib.hid hN) (Lib.hid hE)
 ·have hm:mk z e=(0,0):=by
   have:¬(-4194304<=e/\e<=4194304):=by simpa [xJ]using a
   by_cases h1:e < -4194304
   ·exact BN h1
   ·exact vW (by omega)
  rw[hm]at hN hE;subst hN;subst hE;exact xA h (by simpa using a)
theorem xv{w:World}{A:Option Addr}{c a:Nat}{s:Bool}{e:Int}(h:Rd w A 0 c a):Calls prog 243 #[.agg #[.bool s,.slice A 0 c,.int .i64 e]] w (PB w (mG s 0 a && (e==0))):=by
 obtain⟨μ,d⟩:∃t,mG s 0 a=t:=⟨_,rfl⟩;have f:=Lib.hid d;rw[d];clear d
 cases μ
 ·go_enter func243,ntmps243
  go_wp2_with (first
   | (go_at_call 252;((with_reducible refine(DV (h.below (af _ _)) f.out).mono ?_);rintro g w1 ⟨rfl,b⟩;obtain⟨i,hf⟩:=bJ b)))
  go_ret
  exact⟨rfl,bt (af _ _) b⟩
 ·go_enter func243,ntmps243
  go_wp2_with (first
   | (go_at_call 252;((with_reducible refine(DV (h.below (af _ _)) f.out).mono ?_);rintro g w1 ⟨rfl,b⟩;obtain⟨i,hf⟩:=bJ b)))
  go_ret
  exact⟨rfl,bt (af _ _) b⟩
theorem Ak{w:World}{A:Option Addr}{n c a:Nat}{s:Bool}{e:Int}(h:Rd w A n c a)(hn:0 < n):Calls prog 243 #[.agg #[.bool s,.slice A n c,.int .i64 e]] w (PB w (mG s n a && ((((a%4294967296:Nat):Int)%2==1) && (decide (-4194304<=e) && decide (e<=4194304))))):=by
 obtain⟨μ,u⟩:∃t,mG s n a=t:=⟨_,rfl⟩;have q:=Lib.hid u;rw[u];have v:=h.big
 have hq:((n:Int)==0)=false:=by
  have:(n:Int)≠0:=by omega
  simpa using this
 obtain⟨b,xs,hs,B⟩:=id h;have z:=hs.cap;have hlt:=hs.lt hn;obtain⟨o,rfl,hcell⟩:=hs.at hn;have k:=hcell 0 hn
 have hx:xs.getD 0 0=a%4294967296:=by
  have hl:=hs.len
  match xs,hl with
  | [],hl=>exfalso;simp at hl;omega
  | y::ys,_=>
   have:=hs.lim.head
   rw[<-B,dA]
   simp
   omega
 rw[hx,Nat.add_zero]at k
 have d:a%4294967296 < 4294967296:=Nat.mod_lt _ (by decide)
 clear hcell u hx B hs
 revert k d
 generalize a%4294967296=y
 intro k d
 have E:b≠w.heap.size:=by omega
 have D:b < (w.alloc (.cells #[.bool s,.slice (some ⟨b,o,none⟩) n c,.int .i64 e] 94)).heap.size:=by simp;omega
 have p:(y:Int)%2=0\/(y:Int)%2=1:=by omega
 have j:bits BinOp.and IntKind.u32 (y:Int) 1=(y:Int)%2:=by
  have:=u32_and_nat y 1 d (by decide)
  rw[Nat.and_one_is_mod]at this
  simpa using this
 cases μ
 ·go_enter func243,ntmps243
  go_wp2_with (first
   | (go_at_call 252;((with_reducible refine(DV (h.below (af _ _)) q.out).mono ?_);rintro r w1 ⟨rfl,g⟩;obtain⟨x,hf⟩:=bJ g)))
  go_ret
  exact⟨rfl,bt (af _ _) g⟩
 ·rcases p with l | l
  ·have f:((y:Int)%2==1)=false:=by rw[l];rfl
   rw[l]at j;clear l;rw[f];clear f
   go_enter func243,ntmps243
   go_wp2_with (first
    | (go_at_call 252;((with_reducible refine(DV (h.below (af _ _)) q.out).mono ?_);rintro r w1 ⟨rfl,g⟩;obtain⟨x,hf⟩:=bJ g)))
   go_ret
   exact⟨rfl,bt (af _ _) g⟩
  ·have f:((y:Int)%2==1)=true:=by rw[l];rfl
   rw[l]at j;clear l;rw[f];clear f;obtain⟨i,hi⟩:∃i,xJ e=i:=⟨_,rfl⟩
   have m:(decide (-4194304<=e) && decide (e<=4194304))=i:=hi
   rw[m];clear m
   go_enter func243,ntmps243
   go_wp2_with (first
    | (go_at_call 252;((with_reducible refine(DV (h.below (af _ _)) q.out).mono ?_);rintro r w1 ⟨rfl,g⟩;obtain⟨x,hf⟩:=bJ g))
    | (go_at_call 241;((with_reducible refine(jx hi).mono ?_);rintro r F ⟨rfl,C⟩)))
   go_ret
   exact⟨rfl,bt (af _ _) (bt g C)⟩
theorem Er{w:World}{A:Option Addr}{n c a:Nat}{s:Bool}{e:Int}{r:Bool}(h:Rd w A n c a)(hr:qY s n a e=r):Calls prog 243 #[.agg #[.bool s,.slice A n c,.int .i64 e]] w (PB w r):=by
 subst hr
 unfold qY
 rcases Nat.eq_zero_or_pos n with e0 | e0
 ·subst e0
  simpa using xv (e:=e) h
 ·rw[if_neg (by omega)];exact Ak h e0
theorem oB{w:World}{s:Bool}{A:Option Addr}{n c:Nat}{z e:Int}(h:Wr w s A n c z)(hm:qY s n z.natAbs e=true):Wn w s A n c z/\mk z e=(z,e):=by
 have i:=h.eq;obtain⟨b,xs,hs,k⟩:=h.rd
 unfold qY mG at hm
 simp only[Bool.and_eq_true,decide_eq_true_eq,Bool.or_eq_true,Bool.not_eq_true']at hm;obtain⟨⟨hl,g⟩,he⟩:=hm
 have hx:xs=ah z.natAbs:=by
  have h1:=er hs.lim;rw[k,hl,List.take_of_length_le (by rw[hs.len];omega)]at h1;exact h1
 have f:Nm w A n c z.natAbs:=⟨b,hx▸hs⟩
 rcases Nat.eq_zero_or_pos n with e0 | e0
 ·have hz:z.natAbs=0:=by have:=f.pos;omega
  obtain rfl:z=0:=by omega
  rw[if_pos e0]at he
  obtain rfl:e=0:=by simpa using he
  have:s=false:=by
   rcases g with h1 | h1
   ·omega
   ·exact h1
  subst this;exact⟨⟨f,rfl⟩,dg 0⟩
 ·rw[if_neg (by omega)]at he;simp only[Bool.and_eq_true,beq_iff_eq,decide_eq_true_eq]at he;obtain⟨m,h1,h2⟩:=he
  have hz:z.natAbs≠0:=by have:=f.pos;omega
  have a:z.natAbs%2=1:=by omega
  refine⟨⟨f,?_⟩,?_⟩
  ·have:=rC s z.natAbs
   rw[i]at this;rw[this,decide_eq_true (by omega:0 < z.natAbs),Bool.and_true]
  ·have d:=pY a;obtain⟨e1,e2,e3,l,j⟩:=iH (z:=z) (e:=e) (by omega) h1 (by rw[d];simpa using h2);rw[d]at e1 j
   apply Prod.ext
   ·simpa using j.symm
   ·simpa using e1
theorem oY{w:World}{s:Bool}{A:Option Addr}{n c:Nat}{z e N E:Int}(hT:dL w)(h:Wr w s A n c z)(hn:n<=100000)(hN:(mk z e).1=N)(hE:(mk z e).2=E):
  Calls prog 218 #[.agg #[.bool s,.slice A n c,.int .i64 e]] w (D1 w n N E):=by
 have q:=Lib.hid hN;have p:=Lib.hid hE;clear hN hE;have g:=h.rd
 by_cases hm:qY s n z.natAbs e=true
 ·obtain⟨k,j⟩:=oB h hm;have e1:=q.out;have e2:=p.out;rw[j]at e1 e2;simp only at e1 e2;subst e1;subst e2;clear j
  go_enter func218,ntmps218
  go_wp2_with fail
  obtain⟨d,a,f⟩:=vw w s A n c e rfl;refine(Er (g.below f) hm).mono ?_;rintro r w1 ⟨rfl,B⟩;replace d:=d.b B;replace a:=a.b B;replace k:=k.below (bt f B);have i:=Lib.hid (bt f B);clear B f h g;have t:=d.c0;have u:=d.c1;have x2:=d.c2;have l:=a.c0;have m:=a.c1;have o:=a.c2;have y:=a.frozen 0;have C:=a.frozen 1
  have D:=a.frozen 2;go_wp2;exact bodyPost_ret (v:= .agg #[.bool s,.slice A n c,.int .i64 e]) (by simp[results,results218,go_sem,l,m,o]) rfl ⟨s,A,n,c,rfl,k.st3 a _ _ _ _ _ (by simp[no32]),Nat.le_refl _,st3 i.out (by omega) _ _ _⟩
 ·go_enter func218,ntmps218
  go_wp2_with fail
  obtain⟨d,a,f⟩:=vw w s A n c e rfl;refine(Er (g.below f) (Bool.eq_false_iff.2 hm)).mono ?_;rintro r w1 ⟨rfl,B⟩;replace d:=d.b B;replace a:=a.b B;replace h:=h.below (bt f B);replace hT:=hT.below (bt f B);have i:=Lib.hid (bt f B);clear B f g;have t:=d.c0;have u:=d.c1;have x2:=d.c2
  go_wp2_with fail
  refine(vo hT h hn q.out p.out).mono ?_;rintro r F ⟨s2,A2,n2,c2,rfl,h2,x,B⟩;clear t u x2;replace a:=a.b B;replace i:=Lib.hid (bt i.out B);clear B;have l:=a.c0;have m:=a.c1;have o:=a.c2;have y:=a.frozen 0;have C:=a.frozen 1;have D:=a.frozen 2;go_wp2;exact bodyPost_ret (v:= .agg #[.bool s2,.slice A2 n2 c2,.int .i64 E]) (by simp[results,results218,go_sem,l,m,o]) rfl ⟨s2,A2,n2,c2,rfl,h2.st3 a _ _ _ _ _ (by simp[no32]),x,st3 i.out (by omega) _ _ _⟩
def Jo.Fact.wn (z:Int)(K:Nat):Jo.Fact:=⟨fun v w=>∃s A n c,v= .agg #[.bool s,.slice A n c]/\Wn w s A n c z/\n<=K,fun v w w' h b=>by
 obtain⟨s,A,n,c,e,h,k⟩:=h
 exact⟨s,A,n,c,e,h.below b,k⟩⟩
def Jo.Fact.nm (a K:Nat):Jo.Fact:=⟨fun v w=>∃A n c,v= .slice A n c/\Nm w A n c a/\n<=K,fun v w w' h b=>by
 obtain⟨A,n,c,e,h,k⟩:=h
 exact⟨A,n,c,e,h.below b,k⟩⟩
def Jo.Fact.dy (N E:Int)(K:Nat):Jo.Fact:=⟨fun v w=>∃s A n c,v= .agg #[.bool s,.slice A n c,.int .i64 E]/\Wn w s A n c N/\n<=K,fun v w w' h b=>by
 obtain⟨s,A,n,c,e,h,k⟩:=h
 exact⟨s,A,n,c,e,h.below b,k⟩⟩
def Jo.Fact.wl (K n:Nat)(zs:List Int):Jo.Fact:=⟨fun v w=>∃A c,v= .slice A n c/\Wl w A n c K zs,fun v w w' h b=>by
 obtain⟨A,c,e,h⟩:=h
 exact⟨A,c,e,h.below b⟩⟩
theorem Bo.at{w:World}{g:Nat}{cs:Array Value}{T:TypeId}(h:Bo w g cs T){i:Nat}{v:Value}(e:cs[i]?=some v):w.cell? ⟨g,i,none⟩=some v:=(h.cell i).trans e
def GF (v:Value):Bool:=match v with
 | .int .u8 _=>false
 | _=>true
def ac (w w':World)(g:Nat)(old new:Array Value)(T:TypeId):Prop:=
 Bo w g old T/\Bo w' g new T/\(∀k,k≠g->w'.heap[k]?=w.heap[k]?)/\∀B a,B<=g->Below B a w->Below B a w'
section
variable {w w':World} {g:Nat} {old new:Array Value} {T:TypeId}
theorem ac.box (S:ac w w' g old new T):Bo w' g new T:=S.2.1
theorem ac.mk3{a b c:Value}(X:Bo w g #[a,b,c] T)(u v t:Value):ac w (((w.setCell ⟨g,0,none⟩ u).setCell ⟨g,1,none⟩ v).setCell ⟨g,2,none⟩ t) g #[a,b,c] #[u,v,t] T:=
 ⟨X,by simpa using ((X.set 0 u).set 1 v).set 2 t,fun k hk=>by rw[Below.heap_setCell _ _ _ _ hk,Below.heap_setCell _ _ _ _ hk,Below.heap_setCell _ _ _ _ hk],fun B a hg h=>st3 h hg u v t⟩
theorem ac.mk2{a b:Value}(X:Bo w g #[a,b] T)(u v:Value):ac w ((w.setCell ⟨g,0,none⟩ u).setCell ⟨g,1,none⟩ v) g #[a,b] #[u,v] T:=
 ⟨X,by simpa using (X.set 0 u).set 1 v,fun k hk=>by rw[Below.heap_setCell _ _ _ _ hk,Below.heap_setCell _ _ _ _ hk],fun B a hg h=>st2 h hg u v⟩
theorem ac.below (S:ac w w' g old new T){B:Nat}{a:World}(h:Below B a w)(hg:B<=g):Below B a w':=S.2.2.2 B a hg h
theorem Bo.stn{k:Nat}{cs:Array Value}{R:TypeId}(X:Bo w k cs R)(S:ac w w' g old new T)(h:k≠g):Bo w' k cs R:=X.keep (S.2.2.1 k h)
theorem Dr{b:Nat}{B:Option Addr}{m d:Nat}{xs:List Nat}(h:Sl w b B m d xs)(S:ac w w' g old new T)(hn:old.all no32=true):Sl w' b B m d xs:=
 h.keep fun hm=>S.2.2.1 _ (fun e=>by
  obtain⟨o,_,a⟩:=h.at hm
  have:=a 0 hm
  rw[e]at this
  exact S.1.no hn this)
theorem Nm.stn{B:Option Addr}{m d a:Nat}(h:Nm w B m d a)(S:ac w w' g old new T)(hn:old.all no32=true):Nm w' B m d a:=by
 obtain⟨b,h⟩:=h
 exact⟨b,Dr h S hn⟩
theorem Rd.stn{B:Option Addr}{m d a:Nat}(h:Rd w B m d a)(S:ac w w' g old new T)(hn:old.all no32=true):Rd w' B m d a:=by
 obtain⟨b,xs,h,e⟩:=h
 exact⟨b,xs,Dr h S hn,e⟩
theorem Wn.stn{s:Bool}{B:Option Addr}{m d:Nat}{z:Int}(h:Wn w s B m d z)(S:ac w w' g old new T)(hn:old.all no32=true):Wn w' s B m d z:=⟨h.1.stn S hn,h.2⟩
theorem Wr.stn{s:Bool}{B:Option Addr}{m d:Nat}{z:Int}(h:Wr w s B m d z)(S:ac w w' g old new T)(hn:old.all no32=true):Wr w' s B m d z:=by
 obtain⟨a,h,e⟩:=h
 exact⟨a,h.stn S hn,e⟩
theorem dL.stn (h:dL w)(S:ac w w' g old new T)(hn:old.all GF=true):dL w':=h.keep (S.2.2.1 _ (fun e=>by
 have a:=h 0 (by decide)
 subst e
 rw[S.1.cell]at a
 rw[Array.all_eq_true]at hn
 obtain⟨hlt,he⟩:=Array.getElem?_eq_some_iff.1 a
 have:=hn 0 hlt
 rw[he]at this
 cases this))
end
theorem Kd{w:World}{A1:Option Addr}{n c1 a:Nat}{z:Int}{r:Nat}(h1:Rd w A1 n c1 a)(hn:n<=1073741824)(hz0:0<=z)(hz:z<=16777216)(hr:a*2^z.toNat=r):Calls prog 206 #[.slice A1 n c1,.int .i64 z] w (P1 w (n+z.toNat/32+1) r):=by
 subst hr
 obtain⟨k,rfl⟩:=Int.eq_ofNat_of_zero_le hz0
 have:=Ga k h1 hn (by omega)
 simpa using this
theorem Di{w:World}{s:Bool}{A:Option Addr}{n c:Nat}{N:Int}{p m:Nat}{B:Option Addr}{d:Nat}{w':World}(h:Wn w s A n c N)(hp:0 < p)(k:Nm w' B m d (N.natAbs*p)):Wn w' s B m d (N*(p:Int)):=by
 refine⟨by rwa [Int.natAbs_mul,Int.natAbs_natCast],?_⟩
 rw[h.2,decide_eq_decide]
 constructor
 ·intro hh;exact Int.mul_neg_of_neg_of_pos hh (by omega)
 ·intro hh
  by_cases e:N < 0
  ·exact e
  ·exact absurd hh (Int.not_lt.2 (Int.mul_nonneg (by omega) (by omega)))
theorem Bo.a{w:World}{g:Nat}{cs:Array Value}{T:TypeId}(h:Bo w g cs T)(i:Nat)(v:Value)(e:cs[i]?=some v):w.cell? ⟨g,i,none⟩=some v:=h.at e
theorem Bo.ce2{w:World}{g:Nat}{cs:Array Value}{T:TypeId}(h:Bo w g cs T){v0 v1:Value}(e0:cs[0]?=some v0)(e1:cs[1]?=some v1):w.cell? ⟨g,0,none⟩=some v0/\w.cell? ⟨g,1,none⟩=some v1:=⟨h.at e0,h.at e1⟩
theorem Bo.ce3{w:World}{g:Nat}{cs:Array Value}{T:TypeId}(h:Bo w g cs T){v0 v1 v2:Value}(e0:cs[0]?=some v0)(e1:cs[1]?=some v1)(e2:cs[2]?=some v2):w.cell? ⟨g,0,none⟩=some v0/\w.cell? ⟨g,1,none⟩=some v1/\w.cell? ⟨g,2,none⟩=some v2:=⟨h.at e0,h.at e1,h.at e2⟩
theorem Bo.ce4{w:World}{g:Nat}{cs:Array Value}{T:TypeId}(h:Bo w g cs T){v0 v1 v2 v3:Value}(e0:cs[0]?=some v0)(e1:cs[1]?=some v1)(e2:cs[2]?=some v2)(e3:cs[3]?=some v3):w.cell? ⟨g,0,none⟩=some v0/\w.cell? ⟨g,1,none⟩=some v1/\w.cell? ⟨g,2,none⟩=some v2/\w.cell? ⟨g,3,none⟩=some v3:=⟨h.at e0,h.at e1,h.at e2,h.at e3⟩
theorem Bo.ce9{w:World}{g:Nat}{cs:Array Value}{T:TypeId}(h:Bo w g cs T){v0 v1 v2 v3 v4 v5 v6 v7 v8:Value}(e0:cs[0]?=some v0)(e1:cs[1]?=some v1)(e2:cs[2]?=some v2)(e3:cs[3]?=some v3)(e4:cs[4]?=some v4)(e5:cs[5]?=some v5)(e6:cs[6]?=some v6)(e7:cs[7]?=some v7)(e8:cs[8]?=some v8):w.cell? ⟨g,0,none⟩=some v0/\w.cell? ⟨g,1,none⟩=some v1/\w.cell? ⟨g,2,none⟩=some v2/\w.cell? ⟨g,3,none⟩=some v3/\w.cell? ⟨g,4,none⟩=some v4/\w.cell? ⟨g,5,none⟩=some v5/\w.cell? ⟨g,6,none⟩=some v6/\w.cell? ⟨g,7,none⟩=some v7/\w.cell? ⟨g,8,none⟩=some v8:=⟨h.at e0,h.at e1,h.at e2,h.at e3,h.at e4,h.at e5,h.at e6,h.at e7,h.at e8⟩
theorem Bo.en1{w w1:World}{c0:Array Value}{T0:TypeId}(h:w.alloc (.cells c0 T0)=w1):Bo w1 (w.heap.size) c0 T0/\RowKit.Hid (Below w.heap.size w w1):=h▸⟨(Bo.newAt (w) (g:=w.heap.size) (by simp) c0 T0),Lib.hid (af w _)⟩
theorem Bo.en2{w w1:World}{c0:Array Value}{T0:TypeId}{c1:Array Value}{T1:TypeId}(h:(w.alloc (.cells c0 T0)).alloc (.cells c1 T1)=w1):Bo w1 (w.heap.size) c0 T0/\Bo w1 (w.heap.size+1) c1 T1/\RowKit.Hid (Below w.heap.size w w1):=h▸⟨(Bo.newAt (w) (g:=w.heap.size) (by simp) c0 T0).below (af _ _),(Bo.newAt (w.alloc (.cells c0 T0)) (g:=w.heap.size+1) (by simp) c1 T1),Lib.hid (bV w _ _)⟩
theorem Bo.en3{w w1:World}{c0:Array Value}{T0:TypeId}{c1:Array Value}{T1:TypeId}{c2:Array Value}{T2:TypeId}(h:((w.alloc (.cells c0 T0)).alloc (.cells c1 T1)).alloc (.cells c2 T2)=w1):Bo w1 (w.heap.size) c0 T0/\Bo w1 (w.heap.size+1) c1 T1/\Bo w1 (w.heap.size+1+1) c2 T2/\RowKit.Hid (Below w.heap.size w w1):=h▸⟨(Bo.newAt (w) (g:=w.heap.size) (by simp) c0 T0).below (bV _ _ _),(Bo.newAt (w.alloc (.cells c0 T0)) (g:=w.heap.size+1) (by simp) c1 T1).below (af _ _),(Bo.newAt ((w.alloc (.cells c0 T0)).alloc (.cells c1 T1)) (g:=w.heap.size+1+1) (by simp) c2 T2),Lib.hid (gQ w _ _ _)⟩
theorem Bo.en4{w w1:World}{c0:Array Value}{T0:TypeId}{c1:Array Value}{T1:TypeId}{c2:Array Value}{T2:TypeId}{c3:Array Value}{T3:TypeId}(h:(((w.alloc (.cells c0 T0)).alloc (.cells c1 T1)).alloc (.cells c2 T2)).alloc (.cells c3 T3)=w1):Bo w1 (w.heap.size) c0 T0/\Bo w1 (w.heap.size+1) c1 T1/\Bo w1 (w.heap.size+1+1) c2 T2/\Bo w1 (w.heap.size+1+1+1) c3 T3/\RowKit.Hid (Below w.heap.size w w1):=h▸⟨(Bo.newAt (w) (g:=w.heap.size) (by simp) c0 T0).below (gQ _ _ _ _),(Bo.newAt (w.alloc (.cells c0 T0)) (g:=w.heap.size+1) (by simp) c1 T1).below (bV _ _ _),(Bo.newAt ((w.alloc (.cells c0 T0)).alloc (.cells c1 T1)) (g:=w.heap.size+1+1) (by simp) c2 T2).below (af _ _),(Bo.newAt (((w.alloc (.cells c0 T0)).alloc (.cells c1 T1)).alloc (.cells c2 T2)) (g:=w.heap.size+1+1+1) (by simp) c3 T3),Lib.hid (j9 w _ _ _ _)⟩
theorem Bo.en5{w w1:World}{c0:Array Value}{T0:TypeId}{c1:Array Value}{T1:TypeId}{c2:Array Value}{T2:TypeId}{c3:Array Value}{T3:TypeId}{c4:Array Value}{T4:TypeId}(h:((((w.alloc (.cells c0 T0)).alloc (.cells c1 T1)).alloc (.cells c2 T2)).alloc (.cells c3 T3)).alloc (.cells c4 T4)=w1):Bo w1 (w.heap.size) c0 T0/\Bo w1 (w.heap.size+1) c1 T1/\Bo w1 (w.heap.size+1+1) c2 T2/\Bo w1 (w.heap.size+1+1+1) c3 T3/\Bo w1 (w.heap.size+1+1+1+1) c4 T4/\RowKit.Hid (Below w.heap.size w w1):=h▸⟨(Bo.newAt (w) (g:=w.heap.size) (by simp) c0 T0).below (j9 _ _ _ _ _),(Bo.newAt (w.alloc (.cells c0 T0)) (g:=w.heap.size+1) (by simp) c1 T1).below (gQ _ _ _ _),(Bo.newAt ((w.alloc (.cells c0 T0)).alloc (.cells c1 T1)) (g:=w.heap.size+1+1) (by simp) c2 T2).below (bV _ _ _),(Bo.newAt (((w.alloc (.cells c0 T0)).alloc (.cells c1 T1)).alloc (.cells c2 T2)) (g:=w.heap.size+1+1+1) (by simp) c3 T3).below (af _ _),(Bo.newAt ((((w.alloc (.cells c0 T0)).alloc (.cells c1 T1)).alloc (.cells c2 T2)).alloc (.cells c3 T3)) (g:=w.heap.size+1+1+1+1) (by simp) c4 T4),Lib.hid (G9 w _ _ _ _ _)⟩
theorem Bo.en6{w w1:World}{c0:Array Value}{T0:TypeId}{c1:Array Value}{T1:TypeId}{c2:Array Value}{T2:TypeId}{c3:Array Value}{T3:TypeId}{c4:Array Value}{T4:TypeId}{c5:Array Value}{T5:TypeId}(h:(((((w.alloc (.cells c0 T0)).alloc (.cells c1 T1)).alloc (.cells c2 T2)).alloc (.cells c3 T3)).alloc (.cells c4 T4)).alloc (.cells c5 T5)=w1):Bo w1 (w.heap.size) c0 T0/\Bo w1 (w.heap.size+1) c1 T1/\Bo w1 (w.heap.size+1+1) c2 T2/\Bo w1 (w.heap.size+1+1+1) c3 T3/\Bo w1 (w.heap.size+1+1+1+1) c4 T4/\Bo w1 (w.heap.size+1+1+1+1+1) c5 T5/\RowKit.Hid (Below w.heap.size w w1):=h▸⟨(Bo.newAt (w) (g:=w.heap.size) (by simp) c0 T0).below (G9 _ _ _ _ _ _),(Bo.newAt (w.alloc (.cells c0 T0)) (g:=w.heap.size+1) (by simp) c1 T1).below (j9 _ _ _ _ _),(Bo.newAt ((w.alloc (.cells c0 T0)).alloc (.cells c1 T1)) (g:=w.heap.size+1+1) (by simp) c2 T2).below (gQ _ _ _ _),(Bo.newAt (((w.alloc (.cells c0 T0)).alloc (.cells c1 T1)).alloc (.cells c2 T2)) (g:=w.heap.size+1+1+1) (by simp) c3 T3).below (bV _ _ _),(Bo.newAt ((((w.alloc (.cells c0 T0)).alloc (.cells c1 T1)).alloc (.cells c2 T2)).alloc (.cells c3 T3)) (g:=w.heap.size+1+1+1+1) (by simp) c4 T4).below (af _ _),(Bo.newAt (((((w.alloc (.cells c0 T0)).alloc (.cells c1 T1)).alloc (.cells c2 T2)).alloc (.cells c3 T3)).alloc (.cells c4 T4)) (g:=w.heap.size+1+1+1+1+1) (by simp) c5 T5),Lib.hid ((G9 w _ _ _ _ _).alloc (by simp;omega) _)⟩
theorem Bo.nw{w w1:World}{c:Array Value}{T:TypeId}(h:w.alloc (.cells c T)=w1):Bo w1 w.heap.size c T/\Below w.heap.size w w1:=h▸⟨Bo.new w c T,af w _⟩
theorem Bo.u2{w:World}{g:Nat}{T:TypeId}{v0 v1:Value}(h:Bo w g #[v0,v1] T):w.cell? ⟨g,0,none⟩=some v0/\w.cell? ⟨g,1,none⟩=some v1:=⟨h.at rfl,h.at rfl⟩
theorem Bo.u3{w:World}{g:Nat}{T:TypeId}{v0 v1 v2:Value}(h:Bo w g #[v0,v1,v2] T):w.cell? ⟨g,0,none⟩=some v0/\w.cell? ⟨g,1,none⟩=some v1/\w.cell? ⟨g,2,none⟩=some v2:=⟨h.at rfl,h.at rfl,h.at rfl⟩
theorem Bo.u4{w:World}{g:Nat}{T:TypeId}{v0 v1 v2 v3:Value}(h:Bo w g #[v0,v1,v2,v3] T):w.cell? ⟨g,0,none⟩=some v0/\w.cell? ⟨g,1,none⟩=some v1/\w.cell? ⟨g,2,none⟩=some v2/\w.cell? ⟨g,3,none⟩=some v3:=⟨h.at rfl,h.at rfl,h.at rfl,h.at rfl⟩
theorem Bo.u9{w:World}{g:Nat}{T:TypeId}{v0 v1 v2 v3 v4 v5 v6 v7 v8:Value}(h:Bo w g #[v0,v1,v2,v3,v4,v5,v6,v7,v8] T):w.cell? ⟨g,0,none⟩=some v0/\w.cell? ⟨g,1,none⟩=some v1/\w.cell? ⟨g,2,none⟩=some v2/\w.cell? ⟨g,3,none⟩=some v3/\w.cell? ⟨g,4,none⟩=some v4/\w.cell? ⟨g,5,none⟩=some v5/\w.cell? ⟨g,6,none⟩=some v6/\w.cell? ⟨g,7,none⟩=some v7/\w.cell? ⟨g,8,none⟩=some v8:=⟨h.at rfl,h.at rfl,h.at rfl,h.at rfl,h.at rfl,h.at rfl,h.at rfl,h.at rfl,h.at rfl⟩
theorem ac.of2{w w1:World}{g:Nat}{T:TypeId}{a0 a1 v0 v1:Value}(X:Bo w g #[a0,a1] T)(h:(w.setCell ⟨g,0,none⟩ v0).setCell ⟨g,1,none⟩ v1=w1):ac w w1 g #[a0,a1] #[v0,v1] T:=h▸ac.mk2 X v0 v1
theorem ac.of3{w w1:World}{g:Nat}{T:TypeId}{a0 a1 a2 v0 v1 v2:Value}(X:Bo w g #[a0,a1,a2] T)(h:((w.setCell ⟨g,0,none⟩ v0).setCell ⟨g,1,none⟩ v1).setCell ⟨g,2,none⟩ v2=w1):ac w w1 g #[a0,a1,a2] #[v0,v1,v2] T:=h▸ac.mk3 X v0 v1 v2
theorem Bo.w9{w:World}{g:Nat}{T:TypeId}{v0 v1 v2 v3 v4 v5 v6 v7 v8:Value}(h:Bo w g #[v0,v1,v2,v3,v4,v5,v6,v7,v8] T):w.cell? ⟨g,1,none⟩=some v1/\w.cell? ⟨g,2,none⟩=some v2/\w.cell? ⟨g,3,none⟩=some v3/\w.cell? ⟨g,4,none⟩=some v4:=⟨h.at rfl,h.at rfl,h.at rfl,h.at rfl⟩
theorem Bo.v9{w:World}{g:Nat}{T:TypeId}{v0 v1 v2 v3 v4 v5 v6 v7 v8:Value}(h:Bo w g #[v0,v1,v2,v3,v4,v5,v6,v7,v8] T):w.cell? ⟨g,5,none⟩=some v5/\w.cell? ⟨g,6,none⟩=some v6/\w.cell? ⟨g,7,none⟩=some v7/\w.cell? ⟨g,8,none⟩=some v8:=⟨h.at rfl,h.at rfl,h.at rfl,h.at rfl⟩
theorem ak{w w1 w2:World}(h:RowKit.Hid (Below w.heap.size w w1))(b:Below w1.heap.size w1 w2):RowKit.Hid (Below w.heap.size w w2):=Lib.hid (bt h.out b)
theorem bi{n g:Nat}{a w w':World}{o c:Array Value}{T:TypeId}(h:RowKit.Hid (Below n a w))(S:ac w w' g o c T)(hg:n<=g):RowKit.Hid (Below n a w'):=Lib.hid (S.below h.out hg)
abbrev LQ (m:Int):Prop:=m < 18446744073709551616
abbrev VQ (D:Int)(s:Bool)(M E:Int):Value:= .agg #[.int .i64 D,.bool s,.int .u64 M,.int .i64 E]
abbrev VI (e:Bool)(D:Int)(s:Bool)(M E:Int)(D':Int)(s':Bool)(M' E':Int):Value:= .agg #[.bool e,.int .i64 D,.bool s,.int .u64 M,.int .i64 E,.int .i64 D',.bool s',.int .u64 M',.int .i64 E']
open Go in
theorem Jo.w1{P:Program}{f:FuncId}{a:Array Value}{w:World}{Q:Ending->World->Prop}{R:Value->World->Prop}{K K':Nat}{z:Int}(h:Calls P f a w (W1 w K z))(hR:∀v w',(Jo.Fact.wn z K').P v w'->Jo.Grow w w'->R v w')(hk:K<=K':=by omega)(hQ:∀v w',R v w'->Q (.returned v) w':=by exact fun _ _ h=>h):Calls P f a w Q:=by
 refine h.mono ?_
 rintro e w' ⟨s,A,n,c,rfl,p,k,B⟩
 exact hQ _ _ (hR _ _ ⟨s,A,n,c,rfl,p,Nat.le_trans k hk⟩ B)
open Go in
theorem Jo.d1{P:Program}{f:FuncId}{a:Array Value}{w:World}{Q:Ending->World->Prop}{R:Value->World->Prop}{K K':Nat}{N E:Int}(h:Calls P f a w (D1 w K N E))(hR:∀v w',(Jo.Fact.dy N E K').P v w'->Jo.Grow w w'->R v w')(hk:K<=K':=by omega)(hQ:∀v w',R v w'->Q (.returned v) w':=by exact fun _ _ h=>h):Calls P f a w Q:=by
 refine h.mono ?_
 rintro e w' ⟨s,A,n,c,rfl,p,k,B⟩
 exact hQ _ _ (hR _ _ ⟨s,A,n,c,rfl,p,Nat.le_trans k hk⟩ B)
theorem Bo.s{w w':World}{g:Nat}{old new:Array Value}{T:TypeId}{k:Nat}{cs:Array Value}{R:TypeId}(X:Bo w k cs R)(S:ac w w' g old new T)(h:k≠g:=by omega):Bo w' k cs R:=X.stn S h
theorem Nm.s{w w':World}{g:Nat}{old new:Array Value}{T:TypeId}{B:Option Addr}{m d a:Nat}(h:Nm w B m d a)(S:ac w w' g old new T)(hn:old.all no32=true:=by simp[no32]):Nm w' B m d a:=h.stn S hn
theorem Rd.s{w w':World}{g:Nat}{old new:Array Value}{T:TypeId}{B:Option Addr}{m d a:Nat}(h:Rd w B m d a)(S:ac w w' g old new T)(hn:old.all no32=true:=by simp[no32]):Rd w' B m d a:=h.stn S hn
theorem Wn.s{w w':World}{g:Nat}{old new:Array Value}{T:TypeId}{s:Bool}{B:Option Addr}{m d:Nat}{z:Int}(h:Wn w s B m d z)(S:ac w w' g old new T)(hn:old.all no32=true:=by simp[no32]):Wn w' s B m d z:=h.stn S hn
theorem Wr.s{w w':World}{g:Nat}{old new:Array Value}{T:TypeId}{s:Bool}{B:Option Addr}{m d:Nat}{z:Int}(h:Wr w s B m d z)(S:ac w w' g old new T)(hn:old.all no32=true:=by simp[no32]):Wr w' s B m d z:=h.stn S hn
theorem dL.s{w w':World}{g:Nat}{old new:Array Value}{T:TypeId}(h:dL w)(S:ac w w' g old new T)(hn:old.all GF=true:=by simp[GF]):dL w':=h.stn S hn
instance {u w w':World}:Mv (RowKit.Hid (Below u.heap.size u w)) w w' (RowKit.Hid (Below u.heap.size u w')):=⟨fun h b=>ak h b⟩
theorem ie{p:Prop}(h:p):Hid p:=Lib.hid h
theorem dt{p:Prop} [Decidable p](h:p):decide p=true:=decide_eq_true h
theorem df{p:Prop} [Decidable p](h:¬p):decide p=false:=decide_eq_false h
abbrev bq:= @bodyPost_ret
abbrev jo:= @Jo.Steps.nil
theorem iw (z:Int)(h: -9223372036854775808<=z/\z<=9223372036854775807:=by omega):Hid (IntKind.i64.wrap z=z):=Lib.hid (IntWalk.i64_in z h)
theorem jw (z:Int)(h: -9223372036854775808<=z/\z<=9223372036854775807:=by omega):Hid (wrap64 z=z):=Lib.hid (IntWalk.wrap64_in z h)
theorem ac.t2{w:World}{g:Nat}{T:TypeId}{a b:Value}(X:Bo w g #[a,b] T)(s:Bool)(A:Option Addr)(n c:Nat):ac w ((w.setCell ⟨g,0,none⟩ (.bool s)).setCell ⟨g,1,none⟩ (.slice A n c)) g #[a,b] #[.bool s,.slice A n c] T:=ac.mk2 X _ _
end Go.Proofs.YteigedaefgmojaaGreatDoor
namespace Go.Proofs.YteigedaefgmojaaGreatDoor
open Go.Proofs.Tryz
open Go.RowKit
set_option linter.unusedVariables false
theorem Ez{N E:Int}(hE:E < 0)(ho:N.natAbs%2=1)(hN:N < 0):sD N E= -((N.natAbs/2^(-E).toNat+1:Nat):Int):=by
 unfold sD
 rw[if_neg (by omega)];obtain⟨k,a⟩:∃k,(-E).toNat=k+1:=⟨(-E).toNat-1,by omega⟩
 rw[a]
 have hp:0 < 2^(k+1):=Nat.pow_pos (by decide)
 have hd:=Nat.div_add_mod N.natAbs (2^(k+1))
 have hm:N.natAbs%2^(k+1)≠0:=by
  intro e
  rw[e,Nat.pow_succ,Nat.add_zero]at hd
  have:N.natAbs%2=0:=by rw[<-hd,Nat.mul_comm _ 2,Nat.mul_assoc];exact Nat.mul_mod_right _ _
  omega
 have hlt:=Nat.mod_lt N.natAbs hp
 revert hd hm hlt
 generalize N.natAbs%2^(k+1)=r;generalize N.natAbs/2^(k+1)=q;generalize 2^(k+1)=P at *
 intro hd hm hlt
 have e1:N= -((P:Int)*q)-r:=by
  have:((P*q+r:Nat):Int)=(N.natAbs:Int):=by rw[hd]
  rw[Int.natCast_add,Int.natCast_mul]at this
  omega
 have:=(oZ (x:=N) (y:=(P:Int)) (q:= -((q+1:Nat):Int)) (r:=(P:Int)-r) (by omega) (by
  rw[e1,Int.natCast_add,Int.mul_neg,Int.mul_add]
  omega) (fun _=>by omega) (fun h=>by omega)).1
 exact this.symm
theorem EA{N E:Int}(hE:E < 0)(hN:0<=N):sD N E=((N.natAbs/2^(-E).toNat:Nat):Int):=by
 unfold sD
 rw[if_neg (by omega)]
 have b:N=(N.natAbs:Int):=by omega
 generalize (-E).toNat=k;rw[b,Int.natAbs_natCast];generalize N.natAbs=a;rw[Int.fdiv_eq_ediv_of_nonneg _ (Int.natCast_nonneg _)]
 rfl
def TP:Int:=19342822337206103650074625
theorem dq:TP=19342822337206103650074625:=rfl
def au (K:Int)(s:Bool)(M E:Int):Prop:=(K=0/\s=false/\M=0/\E=0)\/(K=1/\9223372036854775808<=M/\ -1048576<=E/\E<=1048576)\/(K=2/\M=0/\E=0)
instance (K:Int) (s:Bool) (M E:Int):Decidable (au K s M E):=by unfold au;infer_instance
def plc (K M E:Int):Int:=if K=0 then 0 else if K=1 then M-9223372036854775808+1+(E+1048576)*9223372036854775808 else TP
def aj (s:Bool)(x:Int):Int:=if s=true then -x else x
def rk (K:Int)(s:Bool)(M E:Int):Int:=if au K s M E then aj s (plc K M E)else 0
def Fq (K:Int)(s:Bool)(M E r:Int):Prop:=au K s M E/\M < 18446744073709551616/\aj s (plc K M E)=r
theorem Fq.cases{K:Int}{s:Bool}{M E r:Int}(h:Fq K s M E r):(K=0/\s=false/\M=0/\E=0/\r=0)\/(K=1/\9223372036854775808<=M/\M < 18446744073709551616/\ -1048576<=E/\E<=1048576/\((s=false/\r=M-9223372036854775808+1+(E+1048576)*9223372036854775808)\/(s=true/\ -r=M-9223372036854775808+1+(E+1048576)*9223372036854775808)))
  \/(K=2/\M=0/\E=0/\((s=false/\r=19342822337206103650074625)\/(s=true/\r= -19342822337206103650074625))):=by
 obtain⟨h1,h2,a⟩:=h
 rcases h1 with⟨rfl,rfl,rfl,rfl⟩ | ⟨rfl,h4,c,d⟩ | ⟨rfl,rfl,rfl⟩
 ·left
  exact⟨rfl,rfl,rfl,rfl,by rw[<-a];rfl⟩
 ·right;left
  refine⟨rfl,h4,h2,c,d,?_⟩
  cases s
  ·left
   exact⟨rfl,a.symm⟩
  ·right
   have b: -(M-9223372036854775808+1+(E+1048576)*9223372036854775808)=r:=a
   exact⟨rfl,by rw[<-b,Int.neg_neg]⟩
 ·right;right
  refine⟨rfl,rfl,rfl,?_⟩
  cases s
  ·left
   exact⟨rfl,a.symm⟩
  ·right
   exact⟨rfl,a.symm⟩
theorem Fq.fin{s:Bool}{M E r:Int}(h1:9223372036854775808<=M)(h2:M < 18446744073709551616)(h3: -1048576<=E)(h4:E<=1048576)(hr:aj s (M-9223372036854775808+1+(E+1048576)*9223372036854775808)=r):Fq 1 s M E r:=
 ⟨Or.inr (Or.inl ⟨rfl,h1,h3,h4⟩),h2,hr⟩
theorem Fq.nought:Fq 0 false 0 0 0:=⟨Or.inl ⟨rfl,rfl,rfl,rfl⟩,by decide,rfl⟩
theorem Fq.inf (s:Bool):Fq 2 s 0 0 (aj s TP):=⟨Or.inr (Or.inr ⟨rfl,rfl,rfl⟩),by decide,rfl⟩
theorem Fq.uniq{K K':Int}{s s':Bool}{M M' E E' r:Int}(h:Fq K s M E r)(k:Fq K' s' M' E' r):K=K'/\s=s'/\M=M'/\E=E':=by
 rcases h.cases with⟨rfl,rfl,rfl,rfl,c⟩ | ⟨rfl,h1,h2,d,h4,⟨rfl,a⟩ | ⟨rfl,a⟩⟩ | ⟨rfl,rfl,rfl,⟨rfl,a⟩ | ⟨rfl,a⟩⟩ <;>
  rcases k.cases with⟨rfl,rfl,rfl,rfl,e⟩ | ⟨rfl,f,g,i,j,⟨rfl,b⟩ | ⟨rfl,b⟩⟩ | ⟨rfl,rfl,rfl,⟨rfl,b⟩ | ⟨rfl,b⟩⟩ <;>
  first | exact⟨rfl,rfl,rfl,rfl⟩ | (exfalso;omega) | exact⟨rfl,rfl,by omega,by omega⟩
theorem Fq.bd{K:Int}{s:Bool}{M E r:Int}(h:Fq K s M E r): -19342822337206103650074625<=r/\r<=19342822337206103650074625:=by
 rcases h.cases with⟨rfl,rfl,rfl,rfl,b⟩ | ⟨rfl,h1,h2,c,h4,⟨rfl,a⟩ | ⟨rfl,a⟩⟩ | ⟨rfl,rfl,rfl,⟨rfl,a⟩ | ⟨rfl,a⟩⟩ <;> omega
theorem Fq.top{K:Int}{s:Bool}{M E r:Int}(h:Fq K s M E r):M < 18446744073709551616:=h.2.1
theorem Fq.rk{K:Int}{s:Bool}{M E r:Int}(h:Fq K s M E r):rk K s M E=r:=by
 unfold Go.Proofs.YteigedaefgmojaaGreatDoor.rk
 rw[if_pos h.1];exact h.2.2
theorem fI{K:Int}{s:Bool}{M E:Int}(h:¬au K s M E):rk K s M E=0:=by
 unfold rk
 rw[if_neg h]
theorem eD{K:Int}{s:Bool}{M E:Int}(hM:M < 18446744073709551616)(h:au K s M E):Fq K s M E (rk K s M E):=⟨h,hM,by unfold rk;rw[if_pos h]⟩
theorem C6{K:Int}{s:Bool}{M E:Int}(hM:LQ M): -19342822337206103650074625<=rk K s M E/\rk K s M E<=19342822337206103650074625:=by
 by_cases h:au K s M E
 ·exact(eD hM h).bd
 ·rw[fI h];decide
theorem tz{K:Int}{s:Bool}{M E r:Int}(h:Fq K s M E r)(hK:K≠0):Fq K (!s) M E (-r):=by
 rcases h.cases with⟨rfl,rfl,rfl,rfl,c⟩ | ⟨rfl,h1,h2,b,h4,⟨rfl,a⟩ | ⟨rfl,a⟩⟩ | ⟨rfl,rfl,rfl,⟨rfl,a⟩ | ⟨rfl,a⟩⟩
 ·exact absurd rfl hK
 ·exact Fq.fin h1 h2 b h4 (by rw[a];rfl)
 ·exact Fq.fin h1 h2 b h4 (by rw[a];rfl)
 ·subst a;exact Fq.inf true
 ·subst a;exact Fq.inf false
def fa (K M E K' M' E':Int):Int:=if K≠K' then ag K K' else if E≠E' then ag E E' else ag M M'
theorem Jv (K M E K' M' E':Int): -1<=fa K M E K' M' E'/\fa K M E K' M' E'<=1:=by
 unfold fa
 split
 ·exact fM _ _
 ·split
  ·exact fM _ _
  ·exact fM _ _
theorem aU (x y:Int):(x < y/\ag x y= -1)\/(x=y/\ag x y=0)\/(y < x/\ag x y=1):=by
 unfold ag
 by_cases h1:x < y
 ·rw[if_pos h1];exact Or.inl ⟨h1,rfl⟩
 ·by_cases h2:y < x
  ·rw[if_neg h1,if_pos h2];exact Or.inr (Or.inr ⟨h2,rfl⟩)
  ·rw[if_neg h1,if_neg h2];exact Or.inr (Or.inl ⟨by omega,rfl⟩)
theorem Fq.plc{K:Int}{s:Bool}{M E r:Int}(h:Fq K s M E r)(hK:K≠0):(K=1/\9223372036854775808<=M/\M < 18446744073709551616/\ -1048576<=E/\E<=1048576/\plc K M E=M-9223372036854775808+1+(E+1048576)*9223372036854775808)\/(K=2/\M=0/\E=0/\plc K M E=19342822337206103650074625):=by
 obtain⟨h1,h2,c⟩:=h
 rcases h1 with⟨rfl,rfl,rfl,rfl⟩ | ⟨rfl,h4,a,b⟩ | ⟨rfl,rfl,rfl⟩
 ·exact absurd rfl hK
 ·exact Or.inl ⟨rfl,h4,h2,a,b,rfl⟩
 ·exact Or.inr ⟨rfl,rfl,rfl,rfl⟩
theorem Hm{K K':Int}{s s':Bool}{M M' E E' r r':Int}(h:Fq K s M E r)(k:Fq K' s' M' E' r')(hK:K≠0)(hK':K'≠0):fa K M E K' M' E'=ag (plc K M E) (plc K' M' E'):=by
 unfold fa
 rcases h.plc hK with⟨rfl,h1,h2,e,h4,c⟩ | ⟨rfl,rfl,rfl,c⟩ <;> rcases k.plc hK' with⟨rfl,f,g,i,j,d⟩ | ⟨rfl,rfl,rfl,d⟩ <;> simp only[c,d]
 ·rw[if_neg (by decide)]
  rcases aU E E' with⟨b,a⟩ | ⟨b,a⟩ | ⟨b,a⟩
  ·rw[if_pos (by omega),a,av (by omega)]
  ·rw[if_neg (by omega)]
   rcases aU M M' with⟨c1,c2⟩ | ⟨c1,c2⟩ | ⟨c1,c2⟩
   ·rw[c2,av (by omega)]
   ·rw[c2,be (by omega)]
   ·rw[c2,aC (by omega)]
  ·rw[if_pos (by omega),a,aC (by omega)]
 ·rw[if_pos (by decide),av (by decide),av (by omega)]
 ·rw[if_pos (by decide),aC (by decide),aC (by omega)]
 ·rw[if_neg (by decide),if_neg (by decide)]
  rfl
theorem pD{K:Int}{s:Bool}{M E r:Int}(h:Fq K s M E r)(hK:K≠0):0 < plc K M E:=by
 rcases h.plc hK with⟨rfl,h1,h2,b,h4,a⟩ | ⟨rfl,rfl,rfl,a⟩ <;> rw[a] <;> omega
theorem xr (x y:Int):ag (-x) (-y)= -ag x y:=by
 rcases aU x y with⟨a1,a2⟩ | ⟨a1,a2⟩ | ⟨a1,a2⟩ <;> rw[a2]
 ·rw[aC (by omega),Int.neg_neg]
 ·rw[be (by omega)];rfl
 ·rw[av (by omega)]
theorem Gm{K K':Int}{s:Bool}{M M' E E' r r':Int}(h:Fq K s M E r)(k:Fq K' s M' E' r')(hK:K≠0)(hK':K'≠0):ag r 0*fa K M E K' M' E'=ag r r':=by
 rw[Hm h k hK hK',<-h.2.2,<-k.2.2];have a:=pD h hK
 cases s
 ·show ag (plc K M E) 0*_=ag (plc K M E) (plc K' M' E')
  rw[aC a,Int.one_mul]
 ·show ag (-plc K M E) 0*_=ag (-plc K M E) (-plc K' M' E')
  rw[av (show -plc K M E < 0 by omega),xr,Int.neg_mul,Int.one_mul]
theorem Fq.zero_iff{K:Int}{s:Bool}{M E r:Int}(h:Fq K s M E r):K=0↔r=0:=by
 rcases h.cases with⟨rfl,rfl,rfl,rfl,b⟩ | ⟨rfl,h1,h2,c,h4,⟨rfl,a⟩ | ⟨rfl,a⟩⟩ | ⟨rfl,rfl,rfl,⟨rfl,a⟩ | ⟨rfl,a⟩⟩ <;> constructor <;> intro _ <;> omega
theorem Fq.sign{K:Int}{s:Bool}{M E r:Int}(h:Fq K s M E r)(hK:K≠0):ag r 0=if s=true then -1 else 1:=by
 rcases h.cases with⟨rfl,rfl,rfl,rfl,b⟩ | ⟨rfl,h1,h2,c,h4,⟨rfl,a⟩ | ⟨rfl,a⟩⟩ | ⟨rfl,rfl,rfl,⟨rfl,a⟩ | ⟨rfl,a⟩⟩
 ·exact absurd rfl hK
 ·rw[aC (by omega)];rfl
 ·rw[av (by omega)];rfl
 ·rw[aC (by omega)];rfl
 ·rw[av (by omega)];rfl
theorem Eo{K K':Int}{s s':Bool}{M M' E E':Int}(hM:LQ M)(hM':LQ M')(he:ag (rk K s M E) 0=ag (rk K' s' M' E') 0):ag (rk K s M E) 0*fa K M E K' M' E'=ag (rk K s M E) (rk K' s' M' E'):=by
 by_cases a:rk K s M E=0
 ·have h1:rk K' s' M' E'=0:=by
   rw[a,be rfl]at he;exact dO.1 he.symm
  rw[a,h1,be rfl,Int.zero_mul]
 ·have h1:rk K' s' M' E'≠0:=fun h=>by
   rw[h,be rfl]at he;exact a (dO.1 he)
  have f:au K s M E:=Decidable.by_contra fun h=>a (fI h)
  have g:au K' s' M' E':=Decidable.by_contra fun h=>h1 (fI h)
  have b:=eD hM f;have c:=eD hM' g
  have d:K≠0:=fun h=>a (b.zero_iff.1 h)
  have e:K'≠0:=fun h=>h1 (c.zero_iff.1 h)
  have hs:s=s':=by
   rw[b.sign d,c.sign e]at he
   cases s <;> cases s' <;> first | rfl | exact absurd he (by decide)
  subst hs;exact Gm b c d e
theorem qx{x y:Int}(he:ag x 0≠ag y 0):ag (ag x 0) (ag y 0)=ag x y:=by
 rcases aU x 0 with⟨a1,a2⟩ | ⟨a1,a2⟩ | ⟨a1,a2⟩ <;> rcases aU y 0 with⟨b,a⟩ | ⟨b,a⟩ | ⟨b,a⟩ <;> rw[a2,a]at he|-
 ·exact absurd rfl he
 ·rw[av (show x < y by omega)];rfl
 ·rw[av (show x < y by omega)];rfl
 ·rw[aC (show y < x by omega)];rfl
 ·exact absurd rfl he
 ·rw[av (show x < y by omega)];rfl
 ·rw[aC (show y < x by omega)];rfl
 ·rw[aC (show y < x by omega)];rfl
 ·exact absurd rfl he
def nx (up:Bool)(r:Int):Int:=if up=true then min TP (r+1)else max (-TP) (r-1)
end Go.Proofs.YteigedaefgmojaaGreatDoor
namespace Go.Proofs.YteigedaefgmojaaGreatDoor
open Go.Proofs.Tryz
set_option maxHeartbeats 4000000
open Go.RowKit
set_option linter.unusedVariables false
theorem ac.mk4{w:World}{g:Nat}{T:TypeId}{a b c d:Value}(X:Bo w g #[a,b,c,d] T)(u v t x:Value):ac w ((((w.setCell ⟨g,0,none⟩ u).setCell ⟨g,1,none⟩ v).setCell ⟨g,2,none⟩ t).setCell ⟨g,3,none⟩ x) g #[a,b,c,d] #[u,v,t,x] T:=
 ⟨X,by simpa using (((X.set 0 u).set 1 v).set 2 t).set 3 x,fun k hk=>by rw[Below.heap_setCell _ _ _ _ hk,Below.heap_setCell _ _ _ _ hk,Below.heap_setCell _ _ _ _ hk,Below.heap_setCell _ _ _ _ hk],fun B a hg h=>fC (st3 h hg u v t) hg 3 x⟩
theorem ac.at4{w:World}{g:Nat}{T:TypeId}{cs:Array Value}(X:Bo w g cs T)(i:Nat)(v:Value):ac w (w.setCell ⟨g,i,none⟩ v) g cs (cs.setIfInBounds i v) T:=
 ⟨X,X.set i v,fun k hk=>Below.heap_setCell _ _ _ _ hk,fun B a hg h=>fC h hg i v⟩
theorem GA{s:Bool}{M E:Int}:decide (au 0 s M E)=((s==false) && ((M==0) && (E==0))):=by
 unfold au
 rw[Bool.eq_iff_iff]
 simp
theorem GB{s:Bool}{M E:Int}:decide (au 1 s M E)=(decide (9223372036854775808<=M) && (decide (-1048576<=E) && decide (E<=1048576))):=by
 unfold au
 rw[Bool.eq_iff_iff]
 simp
theorem GC{s:Bool}{M E:Int}:decide (au 2 s M E)=((M==0) && (E==0)):=by
 unfold au
 rw[Bool.eq_iff_iff]
 simp
theorem GD{K:Int}{s:Bool}{M E:Int}(h0:K≠0)(h1:K≠1)(h2:K≠2):decide (au K s M E)=false:=by
 unfold au
 simp[h0,h1,h2]
theorem kY{w:World}{K M E:Int}{s:Bool}{r:Bool}(hr:decide (au K s M E)=r):Calls prog 94 #[VQ K s M E] w (PB w r):=by
 delta VQ
 subst hr
 by_cases a:K=0
 ·subst a;rw[GA]
  go_enter func94,ntmps94
  go_wp2
  all_goals go_ret
  all_goals exact⟨by simp_all,af _ _⟩
 by_cases h1:K=1
 ·subst h1;rw[GB]
  by_cases c1:9223372036854775808<=M
  ·have e1:decide (9223372036854775808<=M)=true:=dt c1
   by_cases c2: -1048576<=E
   ·have e2:decide (-1048576<=E)=true:=dt c2
    by_cases c3:E<=1048576
    ·have e3:decide (E<=1048576)=true:=dt c3
     rw[e1,e2,e3]
     go_enter func94,ntmps94
     go_wp2
     go_ret
     exact⟨rfl,af _ _⟩
    ·have e3:decide (E<=1048576)=false:=df c3
     rw[e1,e2,e3]
     go_enter func94,ntmps94
     go_wp2
     go_ret
     exact⟨rfl,af _ _⟩
   ·have e2:decide (-1048576<=E)=false:=df c2
    rw[e1,e2]
    go_enter func94,ntmps94
    go_wp2
    go_ret
    exact⟨rfl,af _ _⟩
  ·have e1:decide (9223372036854775808<=M)=false:=df c1
   rw[e1]
   go_enter func94,ntmps94
   go_wp2
   go_ret
   exact⟨rfl,af _ _⟩
 by_cases h2:K=2
 ·subst h2;rw[GC]
  by_cases c1:M=0
  ·subst c1
   by_cases c2:E=0
   ·subst c2
    go_enter func94,ntmps94
    go_wp2
    go_ret
    exact⟨rfl,af _ _⟩
   ·have e2:(E==0)=false:=by simpa using c2
    rw[e2]
    go_enter func94,ntmps94
    go_wp2
    go_ret
    exact⟨rfl,af _ _⟩
  ·have e1:(M==0)=false:=by simpa using c1
   rw[e1]
   go_enter func94,ntmps94
   go_wp2
   go_ret
   exact⟨rfl,af _ _⟩
 ·rw[GD a h1 h2]
  have e0:(K==0)=false:=by simpa using a
  have e1:(K==1)=false:=by simpa using h1
  have e2:(K==2)=false:=by simpa using h2
  go_enter func94,ntmps94
  go_wp2
  go_ret
  exact⟨rfl,af _ _⟩
theorem dD{w:World}{K M E:Int}{s:Bool}{r:Bool}(hr:decide (au K s M E)=r):Calls prog 34 #[VQ K s M E] w (PB w r):=by
 delta VQ
 subst hr
 by_cases a:K=0
 ·subst a;rw[GA]
  go_enter func34,ntmps34
  go_wp2
  all_goals go_ret
  all_goals exact⟨by simp_all,af _ _⟩
 by_cases h1:K=1
 ·subst h1;rw[GB]
  by_cases c1:9223372036854775808<=M
  ·have e1:decide (9223372036854775808<=M)=true:=dt c1
   by_cases c2: -1048576<=E
   ·have e2:decide (-1048576<=E)=true:=dt c2
    by_cases c3:E<=1048576
    ·have e3:decide (E<=1048576)=true:=dt c3
     rw[e1,e2,e3]
     go_enter func34,ntmps34
     go_wp2
     go_ret
     exact⟨rfl,af _ _⟩
    ·have e3:decide (E<=1048576)=false:=df c3
     rw[e1,e2,e3]
     go_enter func34,ntmps34
     go_wp2
     go_ret
     exact⟨rfl,af _ _⟩
   ·have e2:decide (-1048576<=E)=false:=df c2
    rw[e1,e2]
    go_enter func34,ntmps34
    go_wp2
    go_ret
    exact⟨rfl,af _ _⟩
  ·have e1:decide (9223372036854775808<=M)=false:=df c1
   rw[e1]
   go_enter func34,ntmps34
   go_wp2
   go_ret
   exact⟨rfl,af _ _⟩
 by_cases h2:K=2
 ·subst h2;rw[GC]
  by_cases c1:M=0
  ·subst c1
   by_cases c2:E=0
   ·subst c2
    go_enter func34,ntmps34
    go_wp2
    go_ret
    exact⟨rfl,af _ _⟩
   ·have e2:(E==0)=false:=by simpa using c2
    rw[e2]
    go_enter func34,ntmps34
    go_wp2
    go_ret
    exact⟨rfl,af _ _⟩
  ·have e1:(M==0)=false:=by simpa using c1
   rw[e1]
   go_enter func34,ntmps34
   go_wp2
   go_ret
   exact⟨rfl,af _ _⟩
 ·rw[GD a h1 h2]
  have e0:(K==0)=false:=by simpa using a
  have e1:(K==1)=false:=by simpa using h1
  have e2:(K==2)=false:=by simpa using h2
  go_enter func34,ntmps34
  go_wp2
  go_ret
  exact⟨rfl,af _ _⟩
theorem ac.of4{w w1:World}{g:Nat}{T:TypeId}{a0 a1 a2 a3 v0 v1 v2 v3:Value}(X:Bo w g #[a0,a1,a2,a3] T)(h:(((w.setCell ⟨g,0,none⟩ v0).setCell ⟨g,1,none⟩ v1).setCell ⟨g,2,none⟩ v2).setCell ⟨g,3,none⟩ v3=w1):ac w w1 g #[a0,a1,a2,a3] #[v0,v1,v2,v3] T:=h▸ac.mk4 X v0 v1 v2 v3
theorem ac.t4{w:World}{g:Nat}{T:TypeId}{a b c d:Value}(X:Bo w g #[a,b,c,d] T)(K:Int)(s:Bool)(M E:Int):ac w ((((w.setCell ⟨g,0,none⟩ (.int .i64 K)).setCell ⟨g,1,none⟩ (.bool s)).setCell ⟨g,2,none⟩ (.int .u64 M)).setCell ⟨g,3,none⟩ (.int .i64 E)) g #[a,b,c,d] #[.int .i64 K,.bool s,.int .u64 M,.int .i64 E] T:=ac.mk4 X _ _ _ _
set_option linter.unusedSimpArgs false
set_option maxRecDepth 100000
def PN (w:World)(r:Int)(e:Ending)(w':World):Prop:=∃D s M E,e= .returned (.agg #[.int .i64 D,.bool s,.int .u64 M,.int .i64 E])/\Fq D s M E r/\Below w.heap.size w w'
theorem Fq.three{D:Int}{s:Bool}{M E r:Int}(h:Fq D s M E r):(D=0/\r=0)\/(D≠0/\s=false/\0 < r)\/(D≠0/\s=true/\r < 0):=by
 rcases h.cases with⟨rfl,rfl,rfl,rfl,b⟩ | ⟨rfl,h1,h2,c,h4,⟨rfl,a⟩ | ⟨rfl,a⟩⟩ | ⟨rfl,rfl,rfl,⟨rfl,a⟩ | ⟨rfl,a⟩⟩
 ·exact Or.inl ⟨rfl,b⟩
 ·exact Or.inr (Or.inl ⟨by decide,rfl,by omega⟩)
 ·exact Or.inr (Or.inr ⟨by decide,rfl,by omega⟩)
 ·exact Or.inr (Or.inl ⟨by decide,rfl,by omega⟩)
 ·exact Or.inr (Or.inr ⟨by decide,rfl,by omega⟩)
theorem mJ{w:World}{D M E:Int}{s:Bool}{r:Int}(hM:LQ M)(hr:rk D s M E=r):Calls prog 95 #[VQ D s M E] w (PN w r):=by
 delta VQ
 by_cases hm:au D s M E
 ·have j:=eD hM hm;rw[hr]at j
  have i:=ie (show decide (au D s M E)=true from dt hm)
  clear hm hr hM
  go_enter func95,ntmps95
  go_upto_region 1 with fail
  generalize d:(w.alloc _).alloc _=w1 at *;obtain⟨c,b,f⟩:=Bo.en2 d;clear d;have a:=c.cell
  go_wp2_with fail
  refine(kY i.out).mono ?_;rintro k l ⟨rfl,B⟩;clear a;refine aF ?_ c b f B;clear c b f B;intro c b f;have g:=b.cell;have e:=b.frozen;have a:=c.cell;go_wp2;clear g e a;have h:=ac.t4 b D s M E
  exact bq (by simp[results,results95,go_sem,h.box.cell]) rfl ⟨D,s,M,E,rfl,j,(h.below f.out (by omega))⟩
 ·rw[fI hm]at hr;subst hr
  have i:=ie (show decide (au D s M E)=false from df hm)
  clear hm hM
  go_enter func95,ntmps95
  go_upto_region 1 with fail
  generalize d:(w.alloc _).alloc _=w1 at *;obtain⟨c,b,f⟩:=Bo.en2 d;clear d;have a:=c.cell
  go_wp2_with fail
  refine(kY i.out).mono ?_;rintro k l ⟨rfl,B⟩;clear a;refine aF ?_ c b f B;clear c b f B;intro c b f;have g:=b.cell;have e:=b.frozen;have a:=c.cell;go_wp2;clear g e a;have h:=ac.t4 b 0 false 0 0
  exact bq (by simp[results,results95,go_sem,h.box.cell]) rfl ⟨_,_,_,_,rfl,Fq.nought,(h.below f.out (by omega))⟩
theorem jb{w:World}{s:Bool}{r:Int}(hr:aj s TP=r):Calls prog 87 #[.bool s] w (PN w r):=by
 go_enter func87,ntmps87
 go_upto_region 1 with fail
 generalize a:w.alloc _=w1 at *;obtain⟨c,f⟩:=Bo.en1 a;clear a;have d:=c.cell;have b:=c.frozen;go_wp2;clear d b;have e:=ac.t4 c 2 s 0 0;exact bq (v:= .agg #[.int .i64 2,.bool s,.int .u64 0,.int .i64 0]) (by simp[results,results87,go_sem,e.box.cell]) rfl ⟨_,_,_,_,rfl,hr▸Fq.inf s,(e.below f.out (by omega))⟩
theorem nT{w:World}{s:Bool}:Calls prog 231 #[.bool s] w (fun e w'=>e= .returned (.agg #[.int .i64 1,.bool s,.int .u64 9223372036854775808,.int .i64 (-1048576)])/\Below w.heap.size w w'):=by
 go_enter func231,ntmps231
 go_upto_region 1 with fail
 generalize a:w.alloc _=w1 at *;obtain⟨c,g⟩:=Bo.en1 a;clear a;have d:=c.cell;have b:=c.frozen;go_wp2;clear d b;have f:=ac.t4 c 1 s 9223372036854775808 (-1048576);exact bq (v:= .agg #[.int .i64 1,.bool s,.int .u64 9223372036854775808,.int .i64 (-1048576)]) (by simp[results,results231,go_sem,f.box.cell]) rfl ⟨rfl,(f.below g.out (by omega))⟩
theorem nH{w:World}{s:Bool}:Calls prog 249 #[.bool s] w (fun e w'=>e= .returned (.agg #[.int .i64 1,.bool s,.int .u64 18446744073709551615,.int .i64 1048576])/\Below w.heap.size w w'):=by
 go_enter func249,ntmps249
 go_upto_region 1 with fail
 generalize a:w.alloc _=w1 at *;obtain⟨c,g⟩:=Bo.en1 a;clear a;have d:=c.cell;have b:=c.frozen;go_wp2;clear d b;have f:=ac.t4 c 1 s 18446744073709551615 1048576;exact bq (v:= .agg #[.int .i64 1,.bool s,.int .u64 18446744073709551615,.int .i64 1048576]) (by simp[results,results249,go_sem,f.box.cell]) rfl ⟨rfl,(f.below g.out (by omega))⟩
theorem dj{w:World}{D M E:Int}{s:Bool}{σ:Int}(hM:LQ M)(hs:ag (rk D s M E) 0=σ):Calls prog 31 #[VQ D s M E] w (PI w σ):=by
 delta VQ
 obtain⟨r,d⟩:∃r,rk D s M E=r:=⟨_,rfl⟩;rw[d]at hs;have n:=ie d;have j:=ie hs;clear d hs
 go_enter func31,ntmps31
 go_upto_region 1 with fail
 generalize g:w.alloc _=w1 at *;obtain⟨c,e⟩:=Bo.en1 g;clear g;have a:=c.cell
 go_wp2_with fail
 refine(mJ hM n.out).mono ?_;rintro t o ⟨l,s1,q,p,rfl,i,B⟩;clear a;replace c:=c.b B;replace e:=ak e B;clear B;have a:=c.cell;have h:=c.frozen
 go_upto_region 2 with fail
 clear a h;generalize m:(((o.setCell _ _).setCell _ _).setCell _ _).setCell _ _=u at *;have k:=ac.of4 c m;replace e:=bi e k (by omega);replace c:=k.box;clear k m
 rcases i.three with⟨f,d⟩ | ⟨f,h1,d⟩ | ⟨f,h1,d⟩
 ·subst f;have hs:=j.out;rw[be d]at hs;subst hs;clear i;have a:=c.cell;go_wp2
  go_ret
  exact⟨by first | rfl | simp_all,e.out⟩
 ·have e0:(l==0)=false:=by simpa using f
  have hs:=j.out;rw[aC d]at hs;subst hs;subst h1;clear i;have a:=c.cell;go_wp2
  go_ret
  exact⟨by first | rfl | simp_all,e.out⟩
 ·have e0:(l==0)=false:=by simpa using f
  have hs:=j.out;rw[av d]at hs;subst hs;subst h1;clear i;have a:=c.cell;go_wp2
  go_ret
  exact⟨by first | rfl | simp_all,e.out⟩
theorem yA{w:World}{D M E:Int}{s:Bool}{r:Int}(hM:LQ M)(hr: -rk D s M E=r):Calls prog 86 #[VQ D s M E] w (PN w r):=by
 delta VQ
 obtain⟨x,hx⟩:∃x,rk D s M E=x:=⟨_,rfl⟩;rw[hx]at hr;have q:=ie hx;subst hr;clear hx
 go_enter func86,ntmps86
 go_upto_region 1 with fail
 generalize i:(w.alloc _).alloc _=w1 at *;obtain⟨c,d,g⟩:=Bo.en2 i;clear i;have a:=c.cell
 go_wp2_with fail
 refine(mJ hM q.out).mono ?_;rintro v u ⟨j,s1,l,k,rfl,n,B⟩;clear a;refine aF ?_ c d g B;clear c d g B;intro c d g;have a:=c.cell;have e:=c.frozen
 go_upto_region 2 with fail
 clear a e;generalize p:(((u.setCell _ _).setCell _ _).setCell _ _).setCell _ _=o at *;have b:=ac.of4 c p;replace d:=d.s b;replace g:=bi g b (by omega);replace c:=b.box;clear b p
 by_cases m:j=0
 ·subst m;have hz:=n.zero_iff.1 rfl;subst hz;have h:=d.cell;have f:=d.frozen;have a:=c.cell;go_wp2;clear h f a;have b:=ac.t4 d 0 s1 l k;exact bq (by simp[results,results86,go_sem,b.box.cell]) rfl ⟨_,_,_,_,rfl,n,(b.below g.out (by omega))⟩
 ·have e0:(j==0)=false:=by simpa using m
  have t:=tz n m;have a:=c.cell;have e:=c.frozen
  go_upto_region 4 with fail
  clear a e
  have b:ac o (World.setCell o ⟨w.heap.size,1,none⟩ (.bool (!s1))) _ _ #[.int .i64 j,.bool (!s1),.int .u64 l,.int .i64 k] _:=ac.at4 c 1 (.bool (!s1))
  replace d:=d.s b;replace g:=bi g b (by omega);replace c:=b.box;clear b;generalize World.setCell o ⟨w.heap.size,1,none⟩ (.bool (!s1))=y at *;have h:=d.cell;have f:=d.frozen;have a:=c.cell;go_wp2;clear h f a;have b:=ac.t4 d j (!s1) l k
  exact bq (by simp[results,results86,go_sem,b.box.cell]) rfl ⟨_,_,_,_,rfl,t,(b.below g.out (by omega))⟩
theorem li{w:World}{D M E:Int}{s:Bool}{r:Int}(hM:LQ M)(hr:rk D s M E=r):Calls prog 97 #[VQ D s M E] w (PN w r):=by
 delta VQ
 by_cases hm:au D s M E
 ·have j:=eD hM hm;rw[hr]at j
  have i:=ie (show decide (au D s M E)=true from dt hm)
  clear hm hr hM
  go_enter func97,ntmps97
  go_upto_region 1 with fail
  generalize d:(w.alloc _).alloc _=w1 at *;obtain⟨c,b,f⟩:=Bo.en2 d;clear d;have a:=c.cell
  go_wp2_with fail
  refine(dD i.out).mono ?_;rintro k l ⟨rfl,B⟩;clear a;refine aF ?_ c b f B;clear c b f B;intro c b f;have g:=b.cell;have e:=b.frozen;have a:=c.cell;go_wp2;clear g e a;have h:=ac.t4 b D s M E
  exact bq (by simp[results,results97,go_sem,h.box.cell]) rfl ⟨D,s,M,E,rfl,j,(h.below f.out (by omega))⟩
 ·rw[fI hm]at hr;subst hr
  have i:=ie (show decide (au D s M E)=false from df hm)
  clear hm hM
  go_enter func97,ntmps97
  go_upto_region 1 with fail
  generalize d:(w.alloc _).alloc _=w1 at *;obtain⟨c,b,f⟩:=Bo.en2 d;clear d;have a:=c.cell
  go_wp2_with fail
  refine(dD i.out).mono ?_;rintro k l ⟨rfl,B⟩;clear a;refine aF ?_ c b f B;clear c b f B;intro c b f;have g:=b.cell;have e:=b.frozen;have a:=c.cell;go_wp2;clear g e a;have h:=ac.t4 b 0 false 0 0
  exact bq (by simp[results,results97,go_sem,h.box.cell]) rfl ⟨_,_,_,_,rfl,Fq.nought,(h.below f.out (by omega))⟩
theorem nV{w:World}{s:Bool}{r:Int}(hr:aj s TP=r):Calls prog 106 #[.bool s] w (PN w r):=by
 go_enter func106,ntmps106
 go_upto_region 1 with fail
 generalize a:w.alloc _=w1 at *;obtain⟨c,f⟩:=Bo.en1 a;clear a;have d:=c.cell;have b:=c.frozen;go_wp2;clear d b;have e:=ac.t4 c 2 s 0 0;exact bq (v:= .agg #[.int .i64 2,.bool s,.int .u64 0,.int .i64 0]) (by simp[results,results106,go_sem,e.box.cell]) rfl ⟨_,_,_,_,rfl,hr▸Fq.inf s,(e.below f.out (by omega))⟩
theorem iN{w:World}{D M E:Int}{s:Bool}{σ:Int}(hM:LQ M)(hs:ag (rk D s M E) 0=σ):Calls prog 36 #[VQ D s M E] w (PI w σ):=by
 delta VQ
 obtain⟨r,a⟩:∃r,rk D s M E=r:=⟨_,rfl⟩;rw[a]at hs;have n:=ie a;have h:=ie hs;clear a hs
 go_enter func36,ntmps36
 go_upto_region 1 with fail
 generalize d:w.alloc _=w1 at *;obtain⟨o,b⟩:=Bo.en1 d;clear d;have j:=o.cell
 go_wp2_with fail
 refine(li hM n.out).mono ?_;rintro u m ⟨l,s1,t,q,rfl,g,B⟩;clear j;replace b:=ak b B;clear B
 go_upto_region 2 with fail
 have p:=Nat.le_refl (World.heap m).size;generalize e:m.alloc _=v at *;obtain⟨i,k⟩:=Bo.nw e;clear e;replace b:=ak b k;clear k
 rcases g.three with⟨c,a⟩ | ⟨c,h1,a⟩ | ⟨c,h1,a⟩
 ·subst c;have hs:=h.out;rw[be a]at hs;subst hs;clear g;have f:=i.cell;go_wp2
  go_ret
  exact⟨by first | rfl | simp_all,b.out⟩
 ·have e0:(l==0)=false:=by simpa using c
  have hs:=h.out;rw[aC a]at hs;subst hs;subst h1;clear g;have f:=i.cell;go_wp2
  go_ret
  exact⟨by first | rfl | simp_all,b.out⟩
 ·have e0:(l==0)=false:=by simpa using c
  have hs:=h.out;rw[av a]at hs;subst hs;subst h1;clear g;have f:=i.cell;go_wp2
  go_ret
  exact⟨by first | rfl | simp_all,b.out⟩
theorem I5{w:World}{D M E:Int}{s:Bool}{r:Int}(hM:LQ M)(hr: -rk D s M E=r):Calls prog 99 #[VQ D s M E] w (PN w r):=by
 delta VQ
 obtain⟨x,hx⟩:∃x,rk D s M E=x:=⟨_,rfl⟩;rw[hx]at hr;have z:=ie hx;subst hr;clear hx
 go_enter func99,ntmps99
 go_upto_region 1 with fail
 generalize i:(w.alloc _).alloc _=w1 at *;obtain⟨A,a,f⟩:=Bo.en2 i;clear i;have y:=A.cell
 go_wp2_with fail
 refine(li hM z.out).mono ?_;rintro G m ⟨l,s1,p,o,rfl,u,B⟩;clear y;replace a:=a.b B;replace f:=ak f B;clear B
 go_upto_region 2 with fail
 have C:=Nat.le_refl (World.heap m).size;have t:=a.lt;generalize j:m.alloc _=v at *;obtain⟨h,n⟩:=Bo.nw j;clear j;replace a:=a.b n;replace f:=ak f n;clear n
 by_cases q:l=0
 ·subst q;have hz:=u.zero_iff.1 rfl;subst hz;have g:=a.cell;have d:=a.frozen;have c:=h.cell;go_wp2;clear g d c;have e:=ac.t4 a 0 s1 p o;exact bq (by simp[results,results99,go_sem,e.box.cell]) rfl ⟨_,_,_,_,rfl,u,(e.below f.out (by omega))⟩
 ·have e0:(l==0)=false:=by simpa using q
  have F:=tz u q;have c:=h.cell;have k:=h.frozen
  go_upto_region 4 with fail
  clear c k
  have e:ac v (World.setCell v ⟨m.heap.size,1,none⟩ (.bool (!s1))) _ _ #[.int .i64 l,.bool (!s1),.int .u64 p,.int .i64 o] _:=ac.at4 h 1 (.bool (!s1))
  replace a:=a.s e;replace f:=bi f e (by omega);replace h:=e.box;clear e;generalize World.setCell v ⟨m.heap.size,1,none⟩ (.bool (!s1))=H at *;have g:=a.cell;have d:=a.frozen;have c:=h.cell;go_wp2;clear g d c;have e:=ac.t4 a l (!s1) p o
  exact bq (by simp[results,results99,go_sem,e.box.cell]) rfl ⟨_,_,_,_,rfl,F,(e.below f.out (by omega))⟩
theorem nJ (x y:Int)(w:World):Calls prog 116 #[.int .u64 x,.int .u64 y] w fun e w'=>e= .returned (.int .i64 (ag x y))/\w=w':=by
 go_enter func116,ntmps116
 go_wp2
 all_goals go_ret
 ·exact⟨ap (av (by assumption)).symm,rfl⟩
 ·exact⟨ap (aC (by assumption)).symm,rfl⟩
 ·exact⟨ap (be (by omega)).symm,rfl⟩
theorem DM{x y z:Int}(w:World)(h:ag x y=z):Calls prog 51 #[.int .i64 x,.int .i64 y] w (PI w z):=by
 subst h;refine(f7 x y w).mono ?_;rintro e w' ⟨rfl,rfl⟩;exact⟨rfl,Below.refl _ _⟩
theorem Ka{x y z:Int}(w:World)(h:ag x y=z):Calls prog 116 #[.int .u64 x,.int .u64 y] w (PI w z):=by
 subst h;refine(nJ x y w).mono ?_;rintro e w' ⟨rfl,rfl⟩;exact⟨rfl,Below.refl _ _⟩
theorem KI{w:World}{D D' M M' E E':Int}{s s':Bool}{r:Int}(hr:fa D M E D' M' E'=r):Calls prog 52 #[VQ D s M E,VQ D' s' M' E'] w (PI w r):=by
 delta VQ
 unfold fa at hr
 by_cases g:D≠D'
 ·rw[if_pos g]at hr
  have e0:(D==D')=false:=by simpa using g
  have h:=ie hr;clear hr g
  go_enter func52,ntmps52
  go_upto_region 1 with fail
  generalize a:(w.alloc _).alloc _=w1 at *;obtain⟨c,d,b⟩:=Bo.en2 a;clear a;have e:=c.cell;have f:=d.cell
  go_wp2_with fail
  refine(DM _ h.out).mono ?_;rintro i j ⟨rfl,B⟩;clear e f;refine aF ?_ c d b B;clear c d b B;intro c d b;go_wp2
  go_ret
  exact⟨rfl,b.out⟩
 ·rw[if_neg g]at hr
  obtain rfl:D=D':=Decidable.not_not.1 g
  clear g
  by_cases he:E≠E'
  ·rw[if_pos he]at hr
   have e0:(E==E')=false:=by simpa using he
   have h:=ie hr;clear hr he
   go_enter func52,ntmps52
   go_upto_region 1 with fail
   generalize a:(w.alloc _).alloc _=w1 at *;obtain⟨c,d,b⟩:=Bo.en2 a;clear a;have e:=c.cell;have f:=d.cell
   go_wp2_with fail
   refine(DM _ h.out).mono ?_;rintro i j ⟨rfl,B⟩;clear e f;refine aF ?_ c d b B;clear c d b B;intro c d b;go_wp2
   go_ret
   exact⟨rfl,b.out⟩
  ·rw[if_neg he]at hr
   obtain rfl:E=E':=Decidable.not_not.1 he
   have h:=ie hr;clear hr he
   go_enter func52,ntmps52
   go_upto_region 1 with fail
   generalize a:(w.alloc _).alloc _=w1 at *;obtain⟨c,d,b⟩:=Bo.en2 a;clear a;have e:=c.cell;have f:=d.cell
   go_wp2_with fail
   refine(Ka _ h.out).mono ?_;rintro i j ⟨rfl,B⟩;clear e f;replace b:=ak b B;clear B;go_wp2
   go_ret
   exact⟨rfl,b.out⟩
theorem kq{w:World}{D D' M M' E E':Int}{s s':Bool}{z:Int}(hM:LQ M)(hM':LQ M')(hz:ag (rk D s M E) (rk D' s' M' E')=z):Calls prog 19 #[VQ D s M E,VQ D' s' M' E'] w (PI w z):=by
 delta VQ
 have hs:=qx (x:=rk D s M E) (y:=rk D' s' M' E');have hf:=Eo (K:=D) (s:=s) (E:=E) (K':=D') (s':=s') (E':=E') hM hM';have m:=Jv D M E D' M' E';have n:=fM (rk D s M E) 0
 revert hs hf m n
 generalize t:ag (rk D s M E) 0=σ;generalize u:ag (rk D' s' M' E') 0=τ;generalize v:fa D M E D' M' E'=φ;rw[hz]
 intro hs hf m n
 have p:=ie t;have q:=ie u;have A:=ie v;clear t u v hz
 by_cases he:σ≠τ
 ·have e0:(σ==τ)=false:=by simpa using he
  have r:=ie (hs he);clear hs hf he m n
  go_enter func19,ntmps19
  go_upto_region 1 with fail
  generalize g:(w.alloc _).alloc _=w1 at *;obtain⟨d,e,c⟩:=Bo.en2 g;clear g;refine bF [0,1,2,3,4,5] [8,9,10,11,6,7] [[],[0],[],[2],[1],[3]] 6 0 [Jo.q4 D s M E,Jo.qi σ,Jo.q4 D' s' M' E',Jo.qi τ,Jo.qi σ,Jo.qi τ] ?_ ?_
  ·refine jm ?_ ?_;rotate_left
   refine jm ?_ ?_
   ·rintro l a _ rfl K f;go_simp;refine(dj hM p.out).mono ?_;rintro k o ⟨rfl,B⟩;exact f.out _ _ rfl B
   refine jm ?_ ?_;rotate_left
   refine jm ?_ ?_
   ·rintro l a _ rfl K f;go_simp;refine(dj hM' q.out).mono ?_;rintro k o ⟨rfl,B⟩;exact f.out _ _ rfl B
   iterate 2 (refine jm ?_ ?_;rotate_left)
   exact jo
   all_goals (rintro l a;(repeat rintro _ rfl);intro K f;have i:=(d.b a).cell;have j:=(e.b a).cell;go_simp;exact f.out _ _ rfl (br _ _))
  rintro F a _ rfl _ rfl _ rfl _ rfl _ rfl _ rfl -;simp only[Jo.z];replace d:=d.b a;replace e:=e.b a;replace c:=ak c a;refine jd ?_
  go_wp2_with fail
  refine(DM _ r.out).mono ?_;rintro k G ⟨rfl,B⟩;refine aF ?_ d e c B;clear d e c B;intro d e c;go_wp2
  go_ret
  exact⟨rfl,c.out⟩
 ·obtain rfl:σ=τ:=Decidable.not_not.1 he
  have r:=ie (hf rfl)
  have C:Hid (IntKind.i64.wrap (σ*φ)=z):=ie (by
   rw[hf rfl];refine IntWalk.i64_in _ ?_;rw[<-hf rfl]
   rcases (show σ= -1\/σ=0\/σ=1 by omega)with h | h | h <;> rw[h] <;> omega)
  clear hs hf he m n
  go_enter func19,ntmps19
  go_upto_region 1 with fail
  generalize g:(w.alloc _).alloc _=w1 at *;obtain⟨d,e,c⟩:=Bo.en2 g;clear g;refine bF [0,1,2,3,4,5] [8,9,10,11,6,7] [[],[0],[],[2],[1],[3]] 6 0 [Jo.q4 D s M E,Jo.qi σ,Jo.q4 D' s' M' E',Jo.qi σ,Jo.qi σ,Jo.qi σ] ?_ ?_
  ·refine jm ?_ ?_;rotate_left
   refine jm ?_ ?_
   ·rintro l a _ rfl K f;go_simp;refine(dj hM p.out).mono ?_;rintro k o ⟨rfl,B⟩;exact f.out _ _ rfl B
   refine jm ?_ ?_;rotate_left
   refine jm ?_ ?_
   ·rintro l a _ rfl K f;go_simp;refine(dj hM' q.out).mono ?_;rintro k o ⟨rfl,B⟩;exact f.out _ _ rfl B
   iterate 2 (refine jm ?_ ?_;rotate_left)
   exact jo
   all_goals (rintro l a;(repeat rintro _ rfl);intro K f;have i:=(d.b a).cell;have j:=(e.b a).cell;go_simp;exact f.out _ _ rfl (br _ _))
  rintro F a _ rfl _ rfl _ rfl _ rfl _ rfl _ rfl -;simp only[Jo.z];replace d:=d.b a;replace e:=e.b a;replace c:=ak c a;refine jd ?_;have i:=d.cell;have j:=e.cell
  go_wp2_with fail
  refine(KI A.out).mono ?_;rintro k G ⟨rfl,B⟩;clear i j;replace c:=ak c B;clear B;have H:=C.out;go_wp2
  go_ret
  exact⟨rfl,c.out⟩
theorem nA{w:World}{D D' M M' E E':Int}{s s':Bool}{z:Int}(hM:LQ M)(hM':LQ M')(hz:ag (rk D s M E) (rk D' s' M' E')=z):Calls prog 65 #[VQ D s M E,VQ D' s' M' E'] w (PI w z):=by
 delta VQ
 obtain⟨r,R⟩:∃r,rk D s M E=r:=⟨_,rfl⟩;obtain⟨Y,m⟩:∃r,rk D' s' M' E'=r:=⟨_,rfl⟩;rw[R,m]at hz;have hs:=qx (x:=r) (y:=Y);obtain⟨σ,F⟩:∃x,ag r 0=x:=⟨_,rfl⟩;obtain⟨τ,T⟩:∃x,ag Y 0=x:=⟨_,rfl⟩;rw[F,T,hz]at hs;have l:=ie F;have A:=ie T;have HR:=ie R
 have N:=ie m
 have G:=ie hz;have HQ:=ie hs;clear R m F T hz hs
 go_enter func65,ntmps65
 go_upto_region 1 with fail
 generalize C:(w.alloc _).alloc _=w1 at *;obtain⟨X1,t,a⟩:=Bo.en2 C;clear C;have Z:=X1.cell
 go_wp2_with fail
 refine(li hM HR.out).mono ?_;rintro Q w2 ⟨K1,s1,P,q,rfl,i,B⟩;clear Z;replace t:=t.b B;replace a:=ak a B;clear B
 go_upto_region 2 with fail
 have W:=t.lt;generalize h:w2.alloc _=w3 at *;obtain⟨c,k⟩:=Bo.nw h;clear h;replace t:=t.b k;replace a:=ak a k;clear k;have bA:=t.cell
 go_wp2_with fail
 refine(li hM' N.out).mono ?_;rintro Q w4 ⟨K2,s2,M2,E2,rfl,j,B⟩;clear bA;replace c:=c.b B;replace a:=ak a B;clear B
 go_upto_region 3 with fail
 have X:=c.lt;generalize h:w4.alloc _=w5 at *;obtain⟨g,k⟩:=Bo.nw h;clear h;replace c:=c.b k;replace a:=ak a k;clear k;have o:=l.out;rw[<-i.rk]at o;have p:=A.out;rw[<-j.rk]at p;have u:=ie o;have v:=ie p;clear o p;have d:=c.cell
 go_wp2_with fail
 refine(iN i.top u.out).mono ?_;rintro Q w6 ⟨rfl,B⟩;clear d;refine aF ?_ c g a B;clear c g a B;intro c g a;have f:=g.cell
 go_wp2_with fail
 refine(iN j.top v.out).mono ?_;rintro Q w7 ⟨rfl,B⟩;clear f;refine aF ?_ c g a B;clear c g a B;intro c g a;clear u v
 by_cases he:σ≠τ
 ·have e0:(σ==τ)=false:=by simpa using he
  have h1:=HQ.out he
  rcases aU σ τ with⟨a1,a2⟩ | ⟨a1,a2⟩ | ⟨a1,a2⟩
  ·obtain rfl: -1=z:=a2.symm.trans h1
   go_wp2
   go_ret
   exact⟨rfl,a.out⟩
  ·exact absurd a1 he
  ·obtain rfl:1=z:=a2.symm.trans h1
   go_wp2
   go_ret
   exact⟨rfl,a.out⟩
 ·obtain rfl:σ=τ:=Decidable.not_not.1 he
  by_cases J:σ=0
  ·subst J
   obtain rfl:0=z:=by
    have h1:=dO.1 l.out;have h2:=dO.1 A.out;rw[<-G.out,h1,h2];rfl
   go_wp2
   go_ret
   exact⟨rfl,a.out⟩
  ·have e0:(σ==0)=false:=by simpa using J
   have U:K1≠0:=fun e=>J (by rw[<-l.out,i.zero_iff.1 e];rfl)
   have V:K2≠0:=fun e=>J (by rw[<-A.out,j.zero_iff.1 e];rfl)
   have S:s1=s2:=by
    have e1:=i.sign U;have e2:=j.sign V;rw[l.out]at e1;rw[A.out,e1]at e2
    cases s1 <;> cases s2 <;> first | rfl | exact absurd e2 (by decide)
   subst S;have hf:=Gm i j U V;rw[l.out,G.out]at hf
   have F:σ= -1\/σ=1:=by
    have:=fM r 0
    rw[l.out]at this
    omega
   by_cases n:r=Y
   ·subst n;obtain⟨rfl,-,rfl,rfl⟩:=i.uniq j
    obtain rfl:0=z:=by rw[<-G.out,be rfl]
    have d:=c.cell;have f:=g.cell;go_wp2
    go_ret
    exact⟨rfl,a.out⟩
   ·have O:=iw (-σ);clear F
    unfold fa at hf
    clear l A HQ G
    rcases i.plc U with⟨rfl,h1,h2,h3,h4,L⟩ | ⟨rfl,rfl,rfl,L⟩ <;> rcases j.plc V with⟨rfl,g1,g2,g3,g4,g5⟩ | ⟨rfl,rfl,rfl,g5⟩
    ·rw[if_neg (by decide)]at hf;clear h1 h2 h3 h4 L g1 g2 g3 g4 g5
     rcases aU q E2 with⟨a1,a2⟩ | ⟨a1,a2⟩ | ⟨a1,a2⟩
     ·rw[if_pos (by omega),a2]at hf
      have e2:decide (E2 < q)=false:=df (by omega)
      have e3:(q==E2)=false:=by
       have:q≠E2:=by omega
       simpa using this
      obtain rfl: -σ=z:=by omega
      have hw:=O.out;clear hf;have d:=c.cell;have f:=g.cell;go_wp2
      go_ret
      exact⟨rfl,a.out⟩
     ·obtain rfl:q=E2:=a1
      rw[if_neg (by simp)]at hf
      rcases aU P M2 with⟨H,I⟩ | ⟨H,I⟩ | ⟨H,I⟩
      ·rw[I]at hf
       have e2:decide (M2 < P)=false:=df (by omega)
       obtain rfl: -σ=z:=by omega
       have hw:=O.out;clear hf;have d:=c.cell;have f:=g.cell;go_wp2
       go_ret
       exact⟨rfl,a.out⟩
      ·exact absurd (i.2.2.symm.trans (H▸j.2.2)) n
      ·rw[I]at hf
       have e2:decide (M2 < P)=true:=dt H
       rw[Int.mul_one]at hf;subst hf;have d:=c.cell;have f:=g.cell;go_wp2
       go_ret
       exact⟨rfl,a.out⟩
     ·rw[if_pos (by omega),a2]at hf
      have e2:decide (E2 < q)=true:=dt a1
      rw[Int.mul_one]at hf;subst hf;have d:=c.cell;have f:=g.cell;go_wp2
      go_ret
      exact⟨rfl,a.out⟩
    ·rw[if_pos (by decide),av (by decide)]at hf;clear h1 h2 h3 h4 L g5
     obtain rfl: -σ=z:=by omega
     have hw:=O.out;clear hf;have d:=c.cell;have f:=g.cell;go_wp2
     go_ret
     exact⟨rfl,a.out⟩
    ·rw[if_pos (by decide),aC (by decide)]at hf;clear g1 g2 g3 g4 g5 L;rw[Int.mul_one]at hf;subst hf;have d:=c.cell;have f:=g.cell;go_wp2
     go_ret
     exact⟨rfl,a.out⟩
    ·exact absurd (i.2.2.symm.trans j.2.2) n
theorem Ik{D:Int}{s:Bool}{M E r:Int}(q:Fq D s M E r)(h0:D≠0):nx (!s) r=aj s (min TP (plc D M E+1)):=by
 rw[<-q.2.2]
 have:=dq
 have h1:=pD q h0
 unfold nx
 cases s
 ·rfl
 ·show max (-TP) (-plc D M E-1)= -min TP (plc D M E+1)
  omega
theorem JP{D:Int}{s:Bool}{M E r:Int}(q:Fq D s M E r)(h0:D≠0):nx s r=aj s (plc D M E-1):=by
 have hb:=q.bd
 have:=dq
 have h1:=pD q h0;rw[<-q.2.2]at hb|-
 unfold nx
 cases s
 ·show max (-TP) (plc D M E-1)=plc D M E-1
  omega
 ·show min TP (-plc D M E+1)= -(plc D M E-1)
  omega
theorem Cc{w:World}{s:Bool}{r:Int}(hr:aj s TP=r):Calls prog 233 #[VQ 2 s 0 0] w (PN w r):=by
 delta VQ
 go_enter func233,ntmps233
 go_upto_region 1 with fail
 generalize h:(w.alloc _).alloc _=w1 at *;obtain⟨c,d,f⟩:=Bo.en2 h;clear h;refine bF [0,1,2,3,4,5,6,7,8,9] [4,5,6,7,8,9,10,11,12,13] [[],[0],[1],[2],[3],[3],[3,5],[3,6],[3,4,7],[3,8]] 10 0 [Jo.qp w.heap.size 0,Jo.qi 2,Jo.qb true,Jo.qb true,Jo.qu,Jo.qu,Jo.qu,Jo.qu,Jo.qu,Jo.qb true] ?_ ?_
 ·refine jm ?_ ?_;rotate_left
  refine jm ?_ ?_
  ·rintro p g _ rfl K j;have m:=(c.b g).a 0 (.int .i64 2) rfl;go_simp;exact j.out _ _ rfl (br _ _)
  iterate 8 (refine jm ?_ ?_;rotate_left)
  exact jo
  all_goals (rintro p g;(repeat rintro _ rfl);intro K j;go_simp;exact j.out _ _ rfl (br _ _))
 rintro t g _ _ _ rfl _ rfl _ rfl _ rfl _ rfl _ rfl _ rfl _ rfl _ rfl -;simp only[Jo.z];replace c:=c.b g;replace d:=d.b g;replace f:=ak f g;refine jd ?_;have e:=c.cell
 go_wp2_with fail
 refine(jb hr).mono ?_;rintro q u ⟨n,s2,M2,E2,rfl,o,B⟩;clear e;refine aF ?_ c d f B;clear c d f B;intro c d f;have k:=d.cell;have i:=d.frozen;have e:=c.cell;go_wp2;clear k i e;have l:=ac.t4 d n s2 M2 E2
 exact bq (by simp[results,results233,go_sem,l.box.cell]) rfl ⟨_,_,_,_,rfl,o,(l.below f.out (by omega))⟩
theorem yB{w:World}{s:Bool}{r:Int}(hr:aj s TP=r):Calls prog 233 #[VQ 1 s 18446744073709551615 1048576] w (PN w r):=by
 delta VQ
 go_enter func233,ntmps233
 go_upto_region 1 with fail
 generalize i:(w.alloc _).alloc _=w1 at *;obtain⟨d,g,h⟩:=Bo.en2 i;clear i;refine bF [0,1,2,3,4,5,6,7,8,9] [4,5,6,7,8,9,10,11,12,13] [[],[0],[1],[2],[3],[3],[3,5],[3,6],[3,4,7],[3,8]] 10 0 [Jo.qp w.heap.size 0,Jo.qi 1,Jo.qb false,Jo.qb false,Jo.q4 1 s 18446744073709551615 1048576,Jo.qp w.heap.size 1,Jo.qb s,Jo.q4 1 s 18446744073709551615 1048576,Jo.qb true,Jo.qb true] ?_ ?_
 ·refine jm ?_ ?_;rotate_left
  refine jm ?_ ?_
  ·rintro k c _ rfl K e;have n:=(d.b c).a 0 (.int .i64 1) rfl;go_simp;exact e.out _ _ rfl (br _ _)
  iterate 4 (refine jm ?_ ?_;rotate_left)
  refine jm ?_ ?_
  ·rintro k c _ rfl _ rfl K e;have o:=(d.b c).a 1 (.bool s) rfl;go_simp;exact e.out _ _ rfl (br _ _)
  refine jm ?_ ?_
  ·rintro k c _ rfl _ rfl K e;go_simp;refine(nH).mono ?_;rintro q x ⟨rfl,B⟩;exact e.out _ _ rfl B
  refine jm ?_ ?_
  ·rintro k c _ rfl _ rfl _ rfl K e;go_simp
   exact e.out _ _ (by first | rfl | (show Value.bool _=Value.bool _;simp)) (br _ _)
  refine jm ?_ ?_;rotate_left
  exact jo
  all_goals (rintro k c;(repeat rintro _ rfl);intro K e;have f:=(d.b c).cell;go_simp;exact e.out _ _ rfl (br _ _))
 rintro u c _ _ _ rfl _ rfl _ rfl _ rfl _ _ _ rfl _ rfl _ rfl _ rfl -;simp only[Jo.z];replace d:=d.b c;replace g:=g.b c;replace h:=ak h c;refine jd ?_;have f:=d.cell
 go_wp2_with fail
 refine(jb hr).mono ?_;rintro q v ⟨p,s2,M2,E2,rfl,t,B⟩;clear f;refine aF ?_ d g h B;clear d g h B;intro d g h;have l:=g.cell;have j:=g.frozen;have f:=d.cell;go_wp2;clear l j f;have m:=ac.t4 g p s2 M2 E2
 exact bq (by simp[results,results233,go_sem,m.box.cell]) rfl ⟨_,_,_,_,rfl,t,(m.below h.out (by omega))⟩
theorem sZ{w:World}{s:Bool}{E r:Int}(hF:Fq 1 s 9223372036854775808 (E+1) r)(h1: -1048576<=E)(h2:E < 1048576):Calls prog 233 #[VQ 1 s 18446744073709551615 E] w (PN w r):=by
 delta VQ
 have hq:E≠1048576:=by omega
 have u:=iw (E+1)
 go_enter func233,ntmps233
 go_upto_region 1 with fail
 generalize k:(w.alloc _).alloc _=w1 at *;obtain⟨c,h,j⟩:=Bo.en2 k;clear k;refine bF [0,1,2,3,4,5,6,7,8,9] [4,5,6,7,8,9,10,11,12,13] [[],[0],[1],[2],[3],[3],[3,5],[3,6],[3,4,7],[3,8]] 10 0 [Jo.qp w.heap.size 0,Jo.qi 1,Jo.qb false,Jo.qb false,Jo.q4 1 s 18446744073709551615 E,Jo.qp w.heap.size 1,Jo.qb s,Jo.q4 1 s 18446744073709551615 1048576,Jo.qb false,Jo.qb false] ?_ ?_
 ·refine jm ?_ ?_;rotate_left
  refine jm ?_ ?_
  ·rintro m f _ rfl K i;have q:=(c.b f).a 0 (.int .i64 1) rfl;go_simp;exact i.out _ _ rfl (br _ _)
  iterate 4 (refine jm ?_ ?_;rotate_left)
  refine jm ?_ ?_
  ·rintro m f _ rfl _ rfl K i;have t:=(c.b f).a 1 (.bool s) rfl;go_simp;exact i.out _ _ rfl (br _ _)
  refine jm ?_ ?_
  ·rintro m f _ rfl _ rfl K i;go_simp;refine(nH).mono ?_;rintro x A ⟨rfl,B⟩;exact i.out _ _ rfl B
  refine jm ?_ ?_
  ·rintro m f _ rfl _ rfl _ rfl K i;go_simp
   exact i.out _ _ (by first | rfl | (show Value.bool _=Value.bool _;simp[hq])) (br _ _)
  refine jm ?_ ?_;rotate_left
  exact jo
  all_goals (rintro m f;(repeat rintro _ rfl);intro K i;have d:=(c.b f).cell;go_simp;exact i.out _ _ rfl (br _ _))
 rintro n f _ _ _ rfl _ rfl _ rfl _ rfl _ _ _ rfl _ rfl _ rfl _ rfl -;simp only[Jo.z];replace c:=c.b f;replace h:=h.b f;replace j:=ak j f;refine jd ?_;have d:=c.cell;have g:=c.frozen
 go_upto_region 5 with fail
 clear d g
 have e:ac n (World.setCell n ⟨w.heap.size,2,none⟩ (.int .u64 9223372036854775808)) _ _ #[.int .i64 1,.bool s,.int .u64 9223372036854775808,.int .i64 E] _:=ac.at4 c 2 (.int .u64 9223372036854775808)
 replace h:=h.s e;replace j:=bi j e (by omega);replace c:=e.box;clear e;generalize World.setCell n ⟨w.heap.size,2,none⟩ (.int .u64 9223372036854775808)=o at *;have d:=c.cell;have g:=c.frozen;have v:=u.out
 go_upto_region 6 with fail
 clear v;clear d g
 have e:ac o (World.setCell o ⟨w.heap.size,3,none⟩ (.int .i64 (E+1))) _ _ #[.int .i64 1,.bool s,.int .u64 9223372036854775808,.int .i64 (E+1)] _:=ac.at4 c 3 (.int .i64 (E+1))
 replace h:=h.s e;replace j:=bi j e (by omega);replace c:=e.box;clear e;generalize World.setCell o ⟨w.heap.size,3,none⟩ (.int .i64 (E+1))=y at *;have p:=h.cell;have l:=h.frozen;have d:=c.cell;go_wp2;clear p l d;have e:=ac.t4 h 1 s 9223372036854775808 (E+1)
 exact bq (by simp[results,results233,go_sem,e.box.cell]) rfl ⟨_,_,_,_,rfl,hF,(e.below j.out (by omega))⟩
theorem yC{w:World}{s:Bool}{M E r:Int}(hF:Fq 1 s (M+1) E r)(h1:0<=M)(h2:M < 18446744073709551615):Calls prog 233 #[VQ 1 s M E] w (PN w r):=by
 delta VQ
 have hq:M≠18446744073709551615:=by omega
 have e1:(M==18446744073709551615)=false:=by simpa using hq
 have t:Hid (IntKind.u64.wrap (M+1)=M+1):=ie (IntWalk.u64_in _ (by omega))
 go_enter func233,ntmps233
 go_upto_region 1 with fail
 generalize j:(w.alloc _).alloc _=w1 at *;obtain⟨d,h,i⟩:=Bo.en2 j;clear j;refine bF [0,1,2,3,4,5,6,7,8,9] [4,5,6,7,8,9,10,11,12,13] [[],[0],[1],[2],[3],[3],[3,5],[3,6],[3,4,7],[3,8]] 10 0 [Jo.qp w.heap.size 0,Jo.qi 1,Jo.qb false,Jo.qb false,Jo.q4 1 s M E,Jo.qp w.heap.size 1,Jo.qb s,Jo.q4 1 s 18446744073709551615 1048576,Jo.qb false,Jo.qb false] ?_ ?_
 ·refine jm ?_ ?_;rotate_left
  refine jm ?_ ?_
  ·rintro m c _ rfl K e;have p:=(d.b c).a 0 (.int .i64 1) rfl;go_simp;exact e.out _ _ rfl (br _ _)
  iterate 4 (refine jm ?_ ?_;rotate_left)
  refine jm ?_ ?_
  ·rintro m c _ rfl _ rfl K e;have q:=(d.b c).a 1 (.bool s) rfl;go_simp;exact e.out _ _ rfl (br _ _)
  refine jm ?_ ?_
  ·rintro m c _ rfl _ rfl K e;go_simp;refine(nH).mono ?_;rintro v y ⟨rfl,B⟩;exact e.out _ _ rfl B
  refine jm ?_ ?_
  ·rintro m c _ rfl _ rfl _ rfl K e;go_simp
   exact e.out _ _ (by first | rfl | (show Value.bool _=Value.bool _;simp[hq])) (br _ _)
  refine jm ?_ ?_;rotate_left
  exact jo
  all_goals (rintro m c;(repeat rintro _ rfl);intro K e;have f:=(d.b c).cell;go_simp;exact e.out _ _ rfl (br _ _))
 rintro n c _ _ _ rfl _ rfl _ rfl _ rfl _ _ _ rfl _ rfl _ rfl _ rfl -;simp only[Jo.z];replace d:=d.b c;replace h:=h.b c;replace i:=ak i c;refine jd ?_;have f:=d.cell;have k:=d.frozen;have u:=t.out
 go_upto_region 8 with fail
 clear u;clear f k
 have g:ac n (World.setCell n ⟨w.heap.size,2,none⟩ (.int .u64 (M+1))) _ _ #[.int .i64 1,.bool s,.int .u64 (M+1),.int .i64 E] _:=ac.at4 d 2 (.int .u64 (M+1))
 replace h:=h.s g;replace i:=bi i g (by omega);replace d:=g.box;clear g;generalize World.setCell n ⟨w.heap.size,2,none⟩ (.int .u64 (M+1))=x at *;have o:=h.cell;have l:=h.frozen;have f:=d.cell;go_wp2;clear o l f;have g:=ac.t4 h 1 s (M+1) E
 exact bq (by simp[results,results233,go_sem,g.box.cell]) rfl ⟨_,_,_,_,rfl,hF,(g.below i.out (by omega))⟩
theorem KJ{w:World}{D:Int}{s:Bool}{M E x r:Int}(q:Fq D s M E x)(h0:D≠0)(hr:nx (!s) x=r):Calls prog 233 #[VQ D s M E] w (PN w r):=by
 delta VQ
 rw[Ik q h0]at hr
 have:=dq
 rcases q.plc h0 with⟨rfl,h1,h2,a,h4,b⟩ | ⟨rfl,rfl,rfl,b⟩ <;> rw[b]at hr
 ·by_cases hm:M=18446744073709551615
  ·subst hm
   by_cases he:E=1048576
   ·subst he;exact yB hr
   ·refine sZ (Fq.fin (by decide) (by decide) (by omega) (by omega) ?_) a (by omega);rw[<-hr]
    congr 1
    omega
  ·refine yC (Fq.fin (by omega) (by omega) a h4 ?_) (by omega) (by omega);rw[<-hr]
   congr 1
   omega
 ·exact Cc hr
theorem Fk{w:World}{s:Bool}{r:Int}(hF:Fq 1 s 18446744073709551615 1048576 r):Calls prog 232 #[VQ 2 s 0 0] w (PN w r):=by
 delta VQ
 go_enter func232,ntmps232
 go_upto_region 1 with fail
 generalize d:(w.alloc _).alloc _=w1 at *;obtain⟨c,b,f⟩:=Bo.en2 d;clear d;have a:=c.cell
 go_wp2_with fail
 refine(nH (s:=s)).mono ?_;rintro i j ⟨rfl,B⟩;clear a;refine aF ?_ c b f B;clear c b f B;intro c b f;have g:=b.cell;have e:=b.frozen;have a:=c.cell;go_wp2;clear g e a;have h:=ac.t4 b 1 s 18446744073709551615 1048576
 exact bq (by simp[results,results232,go_sem,h.box.cell]) rfl ⟨_,_,_,_,rfl,hF,(h.below f.out (by omega))⟩
theorem Ca{w:World}{s:Bool}{r:Int}(hr:0=r):Calls prog 232 #[.agg #[.int .i64 1,.bool s,.int .u64 9223372036854775808,.int .i64 (-1048576)]] w (PN w r):=by
 subst hr
 go_enter func232,ntmps232
 go_upto_region 1 with fail
 generalize h:(w.alloc _).alloc _=w1 at *;obtain⟨f,g,j⟩:=Bo.en2 h;clear h;have d:=f.cell
 go_upto_region 3 with fail
 clear d;refine bF [0,1,2,3,4] [10,11,12,13,14] [[],[],[1],[2],[0,3]] 5 0 [Jo.Fact.eq (.agg #[.int .i64 1,.bool s,.int .u64 9223372036854775808,.int .i64 (-1048576)]),Jo.qp w.heap.size 1,Jo.qb s,Jo.Fact.eq (.agg #[.int .i64 1,.bool s,.int .u64 9223372036854775808,.int .i64 (-1048576)]),Jo.qb true] ?_ ?_
 ·iterate 2 (refine jm ?_ ?_;rotate_left)
  refine jm ?_ ?_
  ·rintro k c _ rfl K e;have n:=(f.b c).a 1 (.bool s) rfl;go_simp;exact e.out _ _ rfl (br _ _)
  refine jm ?_ ?_
  ·rintro k c _ rfl K e;go_simp;refine(nT).mono ?_;rintro o q ⟨rfl,B⟩;exact e.out _ _ rfl B
  refine jm ?_ ?_
  ·rintro k c _ rfl _ rfl K e;go_simp
   exact e.out _ _ (by first | rfl | (show Value.bool _=Value.bool _;simp)) (br _ _)
  exact jo
  all_goals (rintro k c;(repeat rintro _ rfl);intro K e;have d:=(f.b c).cell;go_simp;exact e.out _ _ rfl (br _ _))
 rintro p c _ rfl _ _ _ rfl _ rfl _ rfl -;simp only[Jo.z];replace f:=f.b c;replace g:=g.b c;replace j:=ak j c;refine jd ?_;have l:=g.cell;have i:=g.frozen;have d:=f.cell;go_wp2;clear l i d;have m:=ac.t4 g 0 false 0 0
 exact bq (by simp[results,results232,go_sem,m.box.cell]) rfl ⟨_,_,_,_,rfl,Fq.nought,(m.below j.out (by omega))⟩
theorem yx{w:World}{s:Bool}{E r:Int}(hF:Fq 1 s 18446744073709551615 (E-1) r)(h1: -1048576 < E)(h2:E<=1048576):Calls prog 232 #[VQ 1 s 9223372036854775808 E] w (PN w r):=by
 delta VQ
 have hq:E≠ -1048576:=by omega
 have t:=iw (E-1)
 go_enter func232,ntmps232
 go_upto_region 1 with fail
 generalize k:(w.alloc _).alloc _=w1 at *;obtain⟨d,g,i⟩:=Bo.en2 k;clear k;have c:=d.cell
 go_upto_region 3 with fail
 clear c;refine bF [0,1,2,3,4] [10,11,12,13,14] [[],[],[1],[2],[0,3]] 5 0 [Jo.q4 1 s 9223372036854775808 E,Jo.qp w.heap.size 1,Jo.qb s,Jo.Fact.eq (.agg #[.int .i64 1,.bool s,.int .u64 9223372036854775808,.int .i64 (-1048576)]),Jo.qb false] ?_ ?_
 ·iterate 2 (refine jm ?_ ?_;rotate_left)
  refine jm ?_ ?_
  ·rintro o h _ rfl K j;have q:=(d.b h).a 1 (.bool s) rfl;go_simp;exact j.out _ _ rfl (br _ _)
  refine jm ?_ ?_
  ·rintro o h _ rfl K j;go_simp;refine(nT).mono ?_;rintro v y ⟨rfl,B⟩;exact j.out _ _ rfl B
  refine jm ?_ ?_
  ·rintro o h _ rfl _ rfl K j;go_simp
   exact j.out _ _ (by first | rfl | (show Value.bool _=Value.bool _;simp[hq])) (br _ _)
  exact jo
  all_goals (rintro o h;(repeat rintro _ rfl);intro K j;have c:=(d.b h).cell;go_simp;exact j.out _ _ rfl (br _ _))
 rintro m h _ rfl _ _ _ rfl _ rfl _ rfl -;simp only[Jo.z];replace d:=d.b h;replace g:=g.b h;replace i:=ak i h;refine jd ?_;have c:=d.cell;have f:=d.frozen
 go_upto_region 7 with fail
 clear c f
 have e:ac m (World.setCell m ⟨w.heap.size,2,none⟩ (.int .u64 18446744073709551615)) _ _ #[.int .i64 1,.bool s,.int .u64 18446744073709551615,.int .i64 E] _:=ac.at4 d 2 (.int .u64 18446744073709551615)
 replace g:=g.s e;replace i:=bi i e (by omega);replace d:=e.box;clear e;generalize World.setCell m ⟨w.heap.size,2,none⟩ (.int .u64 18446744073709551615)=n at *;have c:=d.cell;have f:=d.frozen;have u:=t.out
 go_upto_region 8 with fail
 clear u;clear c f
 have e:ac n (World.setCell n ⟨w.heap.size,3,none⟩ (.int .i64 (E-1))) _ _ #[.int .i64 1,.bool s,.int .u64 18446744073709551615,.int .i64 (E-1)] _:=ac.at4 d 3 (.int .i64 (E-1))
 replace g:=g.s e;replace i:=bi i e (by omega);replace d:=e.box;clear e;generalize World.setCell n ⟨w.heap.size,3,none⟩ (.int .i64 (E-1))=x at *;have p:=g.cell;have l:=g.frozen;have c:=d.cell;go_wp2;clear p l c;have e:=ac.t4 g 1 s 18446744073709551615 (E-1)
 exact bq (by simp[results,results232,go_sem,e.box.cell]) rfl ⟨_,_,_,_,rfl,hF,(e.below i.out (by omega))⟩
theorem B8{w:World}{s:Bool}{M E r:Int}(hF:Fq 1 s (M-1) E r)(h1:9223372036854775808 < M)(h2:M<=18446744073709551615):Calls prog 232 #[VQ 1 s M E] w (PN w r):=by
 delta VQ
 have hq:M≠9223372036854775808:=by omega
 have e1:(M==9223372036854775808)=false:=by simpa using hq
 have q:Hid (IntKind.u64.wrap (M-1)=M-1):=ie (IntWalk.u64_in _ (by omega))
 go_enter func232,ntmps232
 go_upto_region 1 with fail
 generalize j:(w.alloc _).alloc _=w1 at *;obtain⟨d,g,i⟩:=Bo.en2 j;clear j;have c:=d.cell
 go_upto_region 3 with fail
 clear c;refine bF [0,1,2,3,4] [10,11,12,13,14] [[],[],[1],[2],[0,3]] 5 0 [Jo.q4 1 s M E,Jo.qp w.heap.size 1,Jo.qb s,Jo.Fact.eq (.agg #[.int .i64 1,.bool s,.int .u64 9223372036854775808,.int .i64 (-1048576)]),Jo.qb false] ?_ ?_
 ·iterate 2 (refine jm ?_ ?_;rotate_left)
  refine jm ?_ ?_
  ·rintro n e _ rfl K h;have p:=(d.b e).a 1 (.bool s) rfl;go_simp;exact h.out _ _ rfl (br _ _)
  refine jm ?_ ?_
  ·rintro n e _ rfl K h;go_simp;refine(nT).mono ?_;rintro u x ⟨rfl,B⟩;exact h.out _ _ rfl B
  refine jm ?_ ?_
  ·rintro n e _ rfl _ rfl K h;go_simp
   exact h.out _ _ (by first | rfl | (show Value.bool _=Value.bool _;simp[hq])) (br _ _)
  exact jo
  all_goals (rintro n e;(repeat rintro _ rfl);intro K h;have c:=(d.b e).cell;go_simp;exact h.out _ _ rfl (br _ _))
 rintro m e _ rfl _ _ _ rfl _ rfl _ rfl -;simp only[Jo.z];replace d:=d.b e;replace g:=g.b e;replace i:=ak i e;refine jd ?_;have c:=d.cell;have k:=d.frozen;have t:=q.out
 go_upto_region 10 with fail
 clear t;clear c k
 have f:ac m (World.setCell m ⟨w.heap.size,2,none⟩ (.int .u64 (M-1))) _ _ #[.int .i64 1,.bool s,.int .u64 (M-1),.int .i64 E] _:=ac.at4 d 2 (.int .u64 (M-1))
 replace g:=g.s f;replace i:=bi i f (by omega);replace d:=f.box;clear f;generalize World.setCell m ⟨w.heap.size,2,none⟩ (.int .u64 (M-1))=v at *;have o:=g.cell;have l:=g.frozen;have c:=d.cell;go_wp2;clear o l c;have f:=ac.t4 g 1 s (M-1) E
 exact bq (by simp[results,results232,go_sem,f.box.cell]) rfl ⟨_,_,_,_,rfl,hF,(f.below i.out (by omega))⟩
theorem Lh{w:World}{D:Int}{s:Bool}{M E x r:Int}(q:Fq D s M E x)(h0:D≠0)(hr:nx s x=r):Calls prog 232 #[VQ D s M E] w (PN w r):=by
 delta VQ
 rw[JP q h0]at hr
 have:=dq
 rcases q.plc h0 with⟨rfl,h1,h2,b,h4,a⟩ | ⟨rfl,rfl,rfl,a⟩ <;> rw[a]at hr
 ·by_cases hm:M=9223372036854775808
  ·subst hm
   by_cases he:E= -1048576
   ·subst he;refine Ca (hr▸?_)
    cases s <;> rfl
   ·refine yx (Fq.fin (by decide) (by decide) (by omega) (by omega) ?_) (by omega) h4;rw[<-hr]
    congr 1
    omega
  ·refine B8 (Fq.fin (by omega) (by omega) b h4 ?_) (by omega) (by omega);rw[<-hr]
   congr 1
   omega
 ·refine Fk (Fq.fin (by decide) (by decide) (by decide) (by decide) ?_);rw[<-hr]
  rfl
theorem vZ{w:World}{D M E:Int}{s:Bool}{up:Bool}{r:Int}(hM:LQ M)(hr:nx up (rk D s M E)=r):Calls prog 198 #[VQ D s M E,.bool up] w (PN w r):=by
 delta VQ
 obtain⟨x,hx⟩:∃x,rk D s M E=x:=⟨_,rfl⟩;rw[hx]at hr;have t:=ie hx;have l:=ie hr;clear hx hr
 go_enter func198,ntmps198
 go_upto_region 1 with fail
 generalize h:(w.alloc _).alloc _=w1 at *;obtain⟨b,c,d⟩:=Bo.en2 h;clear h;have a:=b.cell
 go_wp2_with fail
 refine(mJ hM t.out).mono ?_;rintro m v ⟨o,s1,z,y,rfl,k,B⟩;clear a;refine aF ?_ b c d B;clear b c d B;intro b c d;have a:=b.cell;have i:=b.frozen
 go_upto_region 2 with fail
 clear a i;generalize p:(((v.setCell _ _).setCell _ _).setCell _ _).setCell _ _=A at *;have f:=ac.of4 b p;replace c:=c.s f;replace d:=bi d f (by omega);replace b:=f.box;clear f p
 by_cases j:o=0
 ·subst j;have hz:=k.zero_iff.1 rfl;subst hz
  have u:Fq 1 (!up) 9223372036854775808 (-1048576) r:=Fq.fin (by decide) (by decide) (by decide) (by decide) (by rw[<-l.out];cases up <;> rfl)
  clear k;have a:=b.cell
  go_wp2_with fail
  refine(nT).mono ?_;rintro m q ⟨rfl,B⟩;clear a;refine aF ?_ b c d B;clear b c d B;intro b c d;have g:=c.cell;have e:=c.frozen;have a:=b.cell;go_wp2;clear g e a;have f:=ac.t4 c 1 (!up) 9223372036854775808 (-1048576)
  exact bq (by simp[results,results198,go_sem,f.box.cell]) rfl ⟨_,_,_,_,rfl,u,(f.below d.out (by omega))⟩
 ·have e0:(o==0)=false:=by simpa using j
  by_cases hs:s1=up
  ·subst hs;have a:=b.cell
   go_wp2_with fail
   refine(Lh k j l.out).mono ?_;rintro m q ⟨K2,s2,M2,E2,rfl,n,B⟩;clear a;refine aF ?_ b c d B;clear b c d B;intro b c d;have g:=c.cell;have e:=c.frozen;have a:=b.cell;go_wp2;clear g e a;have f:=ac.t4 c K2 s2 M2 E2
   exact bq (by simp[results,results198,go_sem,f.box.cell]) rfl ⟨_,_,_,_,rfl,n,(f.below d.out (by omega))⟩
  ·obtain rfl:(!s1)=up:=by cases s1 <;> cases up <;> first | rfl | exact absurd rfl hs
   clear hs
   have e2:(s1==!s1)=false:=by cases s1 <;> rfl
   have a:=b.cell
   go_wp2_with fail
   refine(KJ k j l.out).mono ?_;rintro m q ⟨K2,s2,M2,E2,rfl,n,B⟩;clear a;refine aF ?_ b c d B;clear b c d B;intro b c d;have g:=c.cell;have e:=c.frozen;have a:=b.cell;go_wp2;clear g e a;have f:=ac.t4 c K2 s2 M2 E2
   exact bq (by simp[results,results198,go_sem,f.box.cell]) rfl ⟨_,_,_,_,rfl,n,(f.below d.out (by omega))⟩
