/-
 Contracts that the proof rests on.
-/
import Derived.Deep.DeepCutAuto
import Derived.Test.YtomikokonmikgaaGreatDoorYTaj
import Derived.Test.YtomikokonmikgaaGreatDoorYTan
namespace Go.Proofs.YtomikokonmikgaaGreatDoor
open Go.Proofs.Tryz
set_option maxHeartbeats 4000000
open Go.RowKit
set_option linter.unusedVariables false
theorem Bx.far3{w:World}{g:Nat}{s:Bool}{A:Option Addr}{n c:Nat}(h:Bx w g s A n c){k:Nat}(hk:g≠k)(u v t:Value):Bx (((w.setCell ⟨k,0,none⟩ u).setCell ⟨k,1,none⟩ v).setCell ⟨k,2,none⟩ t) g s A n c:=
 h.keep (by rw[Below.heap_setCell _ _ _ _ hk,Below.heap_setCell _ _ _ _ hk,Below.heap_setCell _ _ _ _ hk])
set_option maxRecDepth 100000
theorem wF{w:World}{s:Bool}{A:Option Addr}{n c:Nat}{z e:Int}(h:Wr w s A n c z)(hc:wP e=false):
  Calls prog 246 #[.agg #[.bool s,.slice A n c],.int .i64 e] w (D1 w n 0 0):=by
 go_enter func246,ntmps246
 go_wp2_with fail
 have a:Bo ((w.alloc (.cells #[.bool s,.slice A n c] 27)).alloc (.cells #[.bool false,.slice none 0 0,.int .i64 0] 124)) (w.heap.size+1) #[.bool false,.slice none 0 0,.int .i64 0] 124:=Bo.newAt _ (by simp) _ _
 have d:=Lib.hid (bK w (.cells #[.bool s,.slice A n c] 27) (.cells #[.bool false,.slice none 0 0,.int .i64 0] 124));refine(jc hc).mono ?_;rintro j w1 ⟨rfl,B⟩;replace a:=a.b B;replace d:=Lib.hid (bt d.out B);clear B;have f:=a.c0;have g:=a.c1;have i:=a.c2;have k:=a.frozen 0;have l:=a.frozen 1;have m:=a.frozen 2;go_wp2;exact bodyPost_ret (v:= .agg #[.bool false,.slice none 0 0,.int .i64 0]) (by simp[results,results246,go_sem,f,g,i]) rfl ⟨false,none,0,0,rfl,Wn.zero.st3 a _ _ _ _ _ (by simp[no32]),Nat.zero_le _,st3 d.out (by omega) _ _ _⟩
theorem rF{w:World}{s:Bool}{A:Option Addr}{n c:Nat}{e:Int}(h:Wr w s A n c 0)(hc:wP e=true):
  Calls prog 246 #[.agg #[.bool s,.slice A n c],.int .i64 e] w (D1 w n 0 0):=by
 go_enter func246,ntmps246
 go_wp2_with fail
 have a:Bo ((w.alloc (.cells #[.bool s,.slice A n c] 27)).alloc (.cells #[.bool false,.slice none 0 0,.int .i64 0] 124)) (w.heap.size+1) #[.bool false,.slice none 0 0,.int .i64 0] 124:=Bo.newAt _ (by simp) _ _
 have d:=Lib.hid (bK w (.cells #[.bool s,.slice A n c] 27) (.cells #[.bool false,.slice none 0 0,.int .i64 0] 124))
 have f:Bx ((w.alloc (.cells #[.bool s,.slice A n c] 27)).alloc (.cells #[.bool false,.slice none 0 0,.int .i64 0] 124)) w.heap.size s A n c:=(Bx.new w s A n c).below (af _ _)
 refine(jc hc).mono ?_;rintro g w1 ⟨rfl,B⟩;replace a:=a.b B;replace f:=f.b B;replace d:=Lib.hid (bt d.out B);clear B;have q:=f.cell0;have t:=f.cell1
 go_wp2_with fail
 refine(ju (r:=0) (h.below d.out) (aW rfl)).mono ?_;rintro g p ⟨rfl,B⟩;replace a:=a.b B;replace d:=Lib.hid (bt d.out B);clear B;have i:=a.c0;have j:=a.c1;have k:=a.c2;have l:=a.frozen 0;have m:=a.frozen 1;have o:=a.frozen 2;go_wp2;exact bodyPost_ret (v:= .agg #[.bool false,.slice none 0 0,.int .i64 0]) (by simp[results,results246,go_sem,i,j,k]) rfl ⟨false,none,0,0,rfl,Wn.zero.st3 a _ _ _ _ _ (by simp[no32]),Nat.zero_le _,st3 d.out (by omega) _ _ _⟩
theorem zi{w:World}{s:Bool}{A:Option Addr}{n c:Nat}{z e N E:Int}(hT:dQ w)(h:Wr w s A n c z)(hn:n<=100000)(h0:z≠0)(hc:wP e=true)(HN:Hid ((mk z e).1=N))(HE:Hid ((mk z e).2=E)):
  Calls prog 246 #[.agg #[.bool s,.slice A n c],.int .i64 e] w (D1 w n N E):=by
 have S:z.natAbs≠0:=by omega
 have Y:v2 z.natAbs < 3200001:=by
  have e1:=eJ S;have e2:=h.rd.bound;rw[og]at e2;have e3:=(Nat.pow_lt_pow_iff_right (a:=2) (by decide)).1 (Nat.lt_of_le_of_lt e1 e2)
  omega
 have G: -4194304<=e/\e<=4194304:=by simpa [wP]using hc
 obtain⟨ym,W⟩:=G
 have H:(ag z 0==0)=false:=by
  have:=(dG (x:=z) (y:=0))
  have h2:ag z 0≠0:=fun e=>h0 (this.1 e)
  simpa using h2
 obtain⟨sz,p⟩:∃q,ag z 0=q:=⟨_,rfl⟩;rw[p]at H;have f:=h.rd;have I:=h.eq;obtain⟨m,hm⟩:∃m,v2 z.natAbs=m:=⟨_,rfl⟩;have k:=Lib.hid hm
 have X:m < 3200001:=by omega
 have r:IntKind.i64.wrap (e+m)=e+m:=IntWalk.i64_in _ (by omega)
 have U:=Lib.hid r;clear hm Y r
 go_enter func246,ntmps246
 go_wp2_with fail
 have g:Bx ((w.alloc (.cells #[.bool s,.slice A n c] 27)).alloc (.cells #[.bool false,.slice none 0 0,.int .i64 0] 124)) w.heap.size s A n c:=(Bx.new w s A n c).below (af _ _)
 have d:Bo ((w.alloc (.cells #[.bool s,.slice A n c] 27)).alloc (.cells #[.bool false,.slice none 0 0,.int .i64 0] 124)) (w.heap.size+1) #[.bool false,.slice none 0 0,.int .i64 0] 124:=Bo.newAt _ (by simp) _ _
 have i:=Lib.hid (bK w (.cells #[.bool s,.slice A n c] 27) (.cells #[.bool false,.slice none 0 0,.int .i64 0] 124));replace hT:=hT.below i.out;replace f:=f.below i.out;refine(jc hc).mono ?_;rintro o w1 ⟨rfl,B⟩;replace g:=g.b B;replace d:=d.b B;replace hT:=hT.b B;replace f:=f.b B;replace i:=Lib.hid (bt i.out B);clear B;have P:=g.cell0
 have Q:=g.cell1
 go_wp2_with fail
 refine(ju (h.below i.out) p).mono ?_;rintro o w2 ⟨rfl,B⟩;clear P Q;replace g:=g.b B;replace d:=d.b B;replace hT:=hT.b B;replace f:=f.b B;replace i:=Lib.hid (bt i.out B);clear B h;have P:=g.cell0;have Q:=g.cell1
 go_wp2_with fail
 refine(wy hT f S (congrArg _ k.out)).mono ?_;rintro o w3 ⟨rfl,B⟩;clear P Q;replace g:=g.b B;replace d:=d.b B;replace f:=f.b B;replace i:=Lib.hid (bt i.out B);clear B;have r:=U.out
 by_cases u:wP (e+m)=true
 ·have j:e+m<=4194304:=by
   have: -4194304<=e+m/\e+m<=4194304:=by simpa [wP]using u
   exact this.2
  go_wp2_with fail
  refine(jc u).mono ?_;rintro o w4 ⟨rfl,B⟩;replace g:=g.b B;replace d:=d.b B;replace f:=f.b B;replace i:=Lib.hid (bt i.out B);clear B
  have l:Hid (sg s (z.natAbs/2^m)=N/\s=decide (N < 0)):=Lib.hid (by
   obtain⟨e1,e2,e3,V,e5⟩:=iu (z:=z) (e:=e) h0 ym (by rw[k.out];exact j);rw[HN.out]at e2 e3 V;rw[k.out]at e2
   have hs:s=decide (z < 0):=by
    rw[<-I,qR]
    have:decide (0 < z.natAbs)=true:=decide_eq_true (by omega)
    rw[this,Bool.and_true]
   refine⟨?_,by rw[hs,decide_eq_decide];exact e3.symm⟩
   rw[<-e2,hs]
   by_cases hz:z < 0
   ·have:=e3.2 hz
    simp[sg,hz];omega
   ·have:¬N < 0:=fun h=>hz (e3.1 h)
    simp[sg,hz];omega)
  have D:E=e+m:=by
   rw[<-HE.out,(iu (z:=z) (e:=e) h0 ym (by rw[k.out];exact j)).1,k.out]
  subst D
  have R:w.heap.size≠w.heap.size+1:=by omega
  have T:z.natAbs/2^m=(z.natAbs/2^m):=rfl
  go_wp2
  go_region_held3 (fun w'=>w'.cell? ⟨w.heap.size,0,none⟩=some (.bool s)/\w'.cell? ⟨w.heap.size,1,none⟩=some (.slice A n c)) (first | with_reducible exact⟨g.cell0,g.cell1⟩ | with_reducible exact⟨g.drew.cell0,g.drew.cell1⟩ | with_reducible exact⟨(g.far3 R _ _ _).cell0,(g.far3 R _ _ _).cell1⟩)
   (first
    | (go_at_call 249;((with_reducible refine(JA f.drew (by clear r;omega) rfl).mono ?_);rintro o w5 ⟨A5,n5,c5,rfl,p5,Z,t⟩;replace g:=g.drew.below t;replace d:=d.drew.below t;replace i:=Lib.hid (bt i.out.drew t);clear t;have L:=d.c0;have M:=d.c1;have O:=d.c2;have q0:=d.frozen 0;have q1:=d.frozen 1;have q2:=d.frozen 2)))
  clear r;go_wp2
  have J:Wn w5 s A5 n5 c5 N:=by
   refine⟨?_,l.out.2⟩;rw[<-l.out.1,dW];exact p5
  exact bodyPost_ret (v:= .agg #[.bool s,.slice A5 n5 c5,.int .i64 (e+m)]) (by simp[results,results246,go_sem,L,M,O]) rfl ⟨s,A5,n5,c5,rfl,J.st3 d _ _ _ _ _ (by simp[no32]),Z,st3 i.out (by omega) _ _ _⟩
 ·have j:wP (e+m)=false:=by simpa using u
  have e3:=vc (z:=z) (e:=e) (by
   rw[k.out]
   have:¬(-4194304<=e+m/\e+m<=4194304):=by simpa [wP]using u
   omega)
  have F:N=0:=by rw[<-HN.out,e3]
  have C:E=0:=by rw[<-HE.out,e3]
  subst F;subst C;clear e3
  go_wp2_with fail
  refine(jc j).mono ?_;rintro o w4 ⟨rfl,B⟩;replace d:=d.b B;replace i:=Lib.hid (bt i.out B);clear B;have L:=d.c0;have M:=d.c1;have O:=d.c2;have q0:=d.frozen 0;have q1:=d.frozen 1;have q2:=d.frozen 2;go_wp2;exact bodyPost_ret (v:= .agg #[.bool false,.slice none 0 0,.int .i64 0]) (by simp[results,results246,go_sem,L,M,O]) rfl ⟨false,none,0,0,rfl,Wn.zero.st3 d _ _ _ _ _ (by simp[no32]),Nat.zero_le _,st3 i.out (by omega) _ _ _⟩
theorem tA{w:World}{s:Bool}{A:Option Addr}{n c:Nat}{z e N E:Int}(hT:dQ w)(h:Wr w s A n c z)(hn:n<=100000)(hN:(mk z e).1=N)(hE:(mk z e).2=E):
  Calls prog 246 #[.agg #[.bool s,.slice A n c],.int .i64 e] w (D1 w n N E):=by
 by_cases a:wP e=true
 ·by_cases b:z=0
  ·subst b;rw[da]at hN hE;subst hN;subst hE;exact rF h a
  ·exact zi hT h hn b a (Lib.hid hN) (Lib.hid hE)
 ·have hm:mk z e=(0,0):=by
   have:¬(-4194304<=e/\e<=4194304):=by simpa [wP]using a
   by_cases h1:e < -4194304
   ·exact AJ h1
   ·exact tZ (by omega)
  rw[hm]at hN hE;subst hN;subst hE;exact wF h (by simpa using a)
theorem wx{w:World}{A:Option Addr}{c a:Nat}{s:Bool}{e:Int}(h:Rd w A 0 c a):Calls prog 267 #[.agg #[.bool s,.slice A 0 c,.int .i64 e]] w (PB w (mh s 0 a && (e==0))):=by
 obtain⟨μ,d⟩:∃t,mh s 0 a=t:=⟨_,rfl⟩;have f:=Lib.hid d;rw[d];clear d
 cases μ
 ·go_enter func267,ntmps267
  go_wp2_with (first
   | (go_at_call 272;((with_reducible refine(CU (h.below (af _ _)) f.out).mono ?_);rintro g w1 ⟨rfl,b⟩;obtain⟨i,j⟩:=bz b)))
  go_ret
  exact⟨rfl,bt (af _ _) b⟩
 ·go_enter func267,ntmps267
  go_wp2_with (first
   | (go_at_call 272;((with_reducible refine(CU (h.below (af _ _)) f.out).mono ?_);rintro g w1 ⟨rfl,b⟩;obtain⟨i,j⟩:=bz b)))
  go_ret
  exact⟨rfl,bt (af _ _) b⟩
theorem zf{w:World}{A:Option Addr}{n c a:Nat}{s:Bool}{e:Int}(h:Rd w A n c a)(hn:0 < n):Calls prog 267 #[.agg #[.bool s,.slice A n c,.int .i64 e]] w (PB w (mh s n a && ((((a%4294967296:Nat):Int)%2==1) && (decide (-4194304<=e) && decide (e<=4194304))))):=by
 obtain⟨μ,u⟩:∃t,mh s n a=t:=⟨_,rfl⟩;have q:=Lib.hid u;rw[u];have v:=h.big
 have hq:((n:Int)==0)=false:=by
  have:(n:Int)≠0:=by omega
  simpa using this
 obtain⟨b,xs,hs,C⟩:=id h;have z:=hs.cap;have hlt:=hs.lt hn;obtain⟨o,rfl,hcell⟩:=hs.at hn;have k:=hcell 0 hn
 have hx:xs.getD 0 0=a%4294967296:=by
  have hl:=hs.len
  match xs,hl with
  | [],hl=>exfalso;simp at hl;omega
  | y::ys,_=>
   have:=hs.lim.head
   rw[<-C,dq]
   simp
   omega
 rw[hx,Nat.add_zero]at k
 have d:a%4294967296 < 4294967296:=Nat.mod_lt _ (by decide)
 clear hcell u hx C hs
 revert k d
 generalize a%4294967296=y
 intro k d
 have F:b≠w.heap.size:=by omega
 have E:b < (w.alloc (.cells #[.bool s,.slice (some ⟨b,o,none⟩) n c,.int .i64 e] 124)).heap.size:=by simp;omega
 have p:(y:Int)%2=0\/(y:Int)%2=1:=by omega
 have j:bits BinOp.and IntKind.u32 (y:Int) 1=(y:Int)%2:=by
  have:=u32_and_nat y 1 d (by decide)
  rw[Nat.and_one_is_mod]at this
  simpa using this
 cases μ
 ·go_enter func267,ntmps267
  go_wp2_with (first
   | (go_at_call 272;((with_reducible refine(CU (h.below (af _ _)) q.out).mono ?_);rintro r w1 ⟨rfl,g⟩;obtain⟨x,B⟩:=bz g)))
  go_ret
  exact⟨rfl,bt (af _ _) g⟩
 ·rcases p with l | l
  ·have f:((y:Int)%2==1)=false:=by rw[l];rfl
   rw[l]at j;clear l;rw[f];clear f
   go_enter func267,ntmps267
   go_wp2_with (first
    | (go_at_call 272;((with_reducible refine(CU (h.below (af _ _)) q.out).mono ?_);rintro r w1 ⟨rfl,g⟩;obtain⟨x,B⟩:=bz g)))
   go_ret
   exact⟨rfl,bt (af _ _) g⟩
  ·have f:((y:Int)%2==1)=true:=by rw[l];rfl
   rw[l]at j;clear l;rw[f];clear f;obtain⟨i,hi⟩:∃i,wP e=i:=⟨_,rfl⟩
   have m:(decide (-4194304<=e) && decide (e<=4194304))=i:=hi
   rw[m];clear m
   go_enter func267,ntmps267
   go_wp2_with (first
    | (go_at_call 272;((with_reducible refine(CU (h.below (af _ _)) q.out).mono ?_);rintro r w1 ⟨rfl,g⟩;obtain⟨x,B⟩:=bz g))
    | (go_at_call 265;((with_reducible refine(jc hi).mono ?_);rintro r G ⟨rfl,D⟩)))
   go_ret
   exact⟨rfl,bt (af _ _) (bt g D)⟩
theorem Dw{w:World}{A:Option Addr}{n c a:Nat}{s:Bool}{e:Int}{r:Bool}(h:Rd w A n c a)(hr:qx s n a e=r):Calls prog 267 #[.agg #[.bool s,.slice A n c,.int .i64 e]] w (PB w r):=by
 subst hr
 unfold qx
 rcases Nat.eq_zero_or_pos n with e0 | e0
 ·subst e0
  simpa using wx (e:=e) h
 ·rw[if_neg (by omega)];exact zf h e0
theorem nX{w:World}{s:Bool}{A:Option Addr}{n c:Nat}{z e:Int}(h:Wr w s A n c z)(hm:qx s n z.natAbs e=true):Wn w s A n c z/\mk z e=(z,e):=by
 have j:=h.eq;obtain⟨b,xs,hs,l⟩:=h.rd
 unfold qx mh at hm
 simp only[Bool.and_eq_true,decide_eq_true_eq,Bool.or_eq_true,Bool.not_eq_true']at hm;obtain⟨⟨hl,i⟩,a⟩:=hm
 have hx:xs=ah z.natAbs:=by
  have h1:=dV hs.lim;rw[l,hl,List.take_of_length_le (by rw[hs.len];omega)]at h1;exact h1
 have g:Nm w A n c z.natAbs:=⟨b,hx▸hs⟩
 rcases Nat.eq_zero_or_pos n with e0 | e0
 ·have hz:z.natAbs=0:=by have:=g.pos;omega
  obtain rfl:z=0:=by omega
  rw[if_pos e0]at a
  obtain rfl:e=0:=by simpa using a
  have:s=false:=by
   rcases i with h1 | h1
   ·omega
   ·exact h1
  subst this;exact⟨⟨g,rfl⟩,da 0⟩
 ·rw[if_neg (by omega)]at a;simp only[Bool.and_eq_true,beq_iff_eq,decide_eq_true_eq]at a;obtain⟨o,h1,h2⟩:=a
  have hz:z.natAbs≠0:=by have:=g.pos;omega
  have d:z.natAbs%2=1:=by omega
  refine⟨⟨g,?_⟩,?_⟩
  ·have:=qR s z.natAbs
   rw[j]at this;rw[this,decide_eq_true (by omega:0 < z.natAbs),Bool.and_true]
  ·have f:=pj d;obtain⟨e1,e2,e3,m,k⟩:=iu (z:=z) (e:=e) (by omega) h1 (by rw[f];simpa using h2);rw[f]at e1 k
   apply Prod.ext
   ·simpa using k.symm
   ·simpa using e1
theorem oC{w:World}{s:Bool}{A:Option Addr}{n c:Nat}{z e N E:Int}(hT:dQ w)(h:Wr w s A n c z)(hn:n<=100000)(hN:(mk z e).1=N)(hE:(mk z e).2=E):
  Calls prog 247 #[.agg #[.bool s,.slice A n c,.int .i64 e]] w (D1 w n N E):=by
 have q:=Lib.hid hN;have p:=Lib.hid hE;clear hN hE;have g:=h.rd
 by_cases hm:qx s n z.natAbs e=true
 ·obtain⟨k,j⟩:=nX h hm;have e1:=q.out;have e2:=p.out;rw[j]at e1 e2;simp only at e1 e2;subst e1;subst e2;clear j
  go_enter func247,ntmps247
  go_wp2_with fail
  obtain⟨d,a,f⟩:=tB w s A n c e rfl;refine(Dw (g.below f) hm).mono ?_;rintro r w1 ⟨rfl,B⟩;replace d:=d.b B;replace a:=a.b B;replace k:=k.below (bt f B);have i:=Lib.hid (bt f B);clear B f h g;have t:=d.c0;have u:=d.c1;have x2:=d.c2;have l:=a.c0;have m:=a.c1;have o:=a.c2;have y:=a.frozen 0;have C:=a.frozen 1
  have D:=a.frozen 2;go_wp2;exact bodyPost_ret (v:= .agg #[.bool s,.slice A n c,.int .i64 e]) (by simp[results,results247,go_sem,l,m,o]) rfl ⟨s,A,n,c,rfl,k.st3 a _ _ _ _ _ (by simp[no32]),Nat.le_refl _,st3 i.out (by omega) _ _ _⟩
 ·go_enter func247,ntmps247
  go_wp2_with fail
  obtain⟨d,a,f⟩:=tB w s A n c e rfl;refine(Dw (g.below f) (Bool.eq_false_iff.2 hm)).mono ?_;rintro r w1 ⟨rfl,B⟩;replace d:=d.b B;replace a:=a.b B;replace h:=h.below (bt f B);replace hT:=hT.below (bt f B);have i:=Lib.hid (bt f B);clear B f g;have t:=d.c0;have u:=d.c1;have x2:=d.c2
  go_wp2_with fail
  refine(tA hT h hn q.out p.out).mono ?_;rintro r F ⟨s2,A2,n2,c2,rfl,h2,x,B⟩;clear t u x2;replace a:=a.b B;replace i:=Lib.hid (bt i.out B);clear B;have l:=a.c0;have m:=a.c1;have o:=a.c2;have y:=a.frozen 0;have C:=a.frozen 1;have D:=a.frozen 2;go_wp2;exact bodyPost_ret (v:= .agg #[.bool s2,.slice A2 n2 c2,.int .i64 E]) (by simp[results,results247,go_sem,l,m,o]) rfl ⟨s2,A2,n2,c2,rfl,h2.st3 a _ _ _ _ _ (by simp[no32]),x,st3 i.out (by omega) _ _ _⟩
def Jo.Fact.wn (z:Int)(K:Nat):Jo.Fact:=⟨fun v w=>∃s A n c,v= .agg #[.bool s,.slice A n c]/\Wn w s A n c z/\n<=K,fun v w w' h b=>by
 obtain⟨s,A,n,c,e,h,k⟩:=h
 exact⟨s,A,n,c,e,h.below b,k⟩⟩
def Jo.Fact.nm (a K:Nat):Jo.Fact:=⟨fun v w=>∃A n c,v= .slice A n c/\Nm w A n c a/\n<=K,fun v w w' h b=>by
 obtain⟨A,n,c,e,h,k⟩:=h
 exact⟨A,n,c,e,h.below b,k⟩⟩
def Jo.Fact.dy (N E:Int)(K:Nat):Jo.Fact:=⟨fun v w=>∃s A n c,v= .agg #[.bool s,.slice A n c,.int .i64 E]/\Wn w s A n c N/\n<=K,fun v w w' h b=>by
 obtain⟨s,A,n,c,e,h,k⟩:=h
 exact⟨s,A,n,c,e,h.below b,k⟩⟩
def Jo.Fact.wl (K n:Nat)(zs:List Int):Jo.Fact:=⟨fun v w=>∃A c,v= .slice A n c/\Wl w A n c K zs,fun v w w' h b=>by
 obtain⟨A,c,e,h⟩:=h
 exact⟨A,c,e,h.below b⟩⟩
theorem Bo.at{w:World}{g:Nat}{cs:Array Value}{T:TypeId}(h:Bo w g cs T){i:Nat}{v:Value}(e:cs[i]?=some v):w.cell? ⟨g,i,none⟩=some v:=(h.cell i).trans e
def FN (v:Value):Bool:=match v with
 | .int .u8 _=>false
 | _=>true
def ae (w w':World)(g:Nat)(old new:Array Value)(T:TypeId):Prop:=
 Bo w g old T/\Bo w' g new T/\(∀k,k≠g->w'.heap[k]?=w.heap[k]?)/\∀B a,B<=g->Below B a w->Below B a w'
section
variable {w w':World} {g:Nat} {old new:Array Value} {T:TypeId}
theorem ae.box (S:ae w w' g old new T):Bo w' g new T:=S.2.1
theorem ae.mk3{a b c:Value}(X:Bo w g #[a,b,c] T)(u v t:Value):ae w (((w.setCell ⟨g,0,none⟩ u).setCell ⟨g,1,none⟩ v).setCell ⟨g,2,none⟩ t) g #[a,b,c] #[u,v,t] T:=
 ⟨X,by simpa using ((X.set 0 u).set 1 v).set 2 t,fun k hk=>by rw[Below.heap_setCell _ _ _ _ hk,Below.heap_setCell _ _ _ _ hk,Below.heap_setCell _ _ _ _ hk],fun B a hg h=>st3 h hg u v t⟩
theorem ae.mk2{a b:Value}(X:Bo w g #[a,b] T)(u v:Value):ae w ((w.setCell ⟨g,0,none⟩ u).setCell ⟨g,1,none⟩ v) g #[a,b] #[u,v] T:=
 ⟨X,by simpa using (X.set 0 u).set 1 v,fun k hk=>by rw[Below.heap_setCell _ _ _ _ hk,Below.heap_setCell _ _ _ _ hk],fun B a hg h=>st2 h hg u v⟩
theorem ae.below (S:ae w w' g old new T){B:Nat}{a:World}(h:Below B a w)(hg:B<=g):Below B a w':=S.2.2.2 B a hg h
theorem Bo.stn{k:Nat}{cs:Array Value}{R:TypeId}(X:Bo w k cs R)(S:ae w w' g old new T)(h:k≠g):Bo w' k cs R:=X.keep (S.2.2.1 k h)
theorem Cr{b:Nat}{B:Option Addr}{m d:Nat}{xs:List Nat}(h:Sl w b B m d xs)(S:ae w w' g old new T)(hn:old.all no32=true):Sl w' b B m d xs:=
 h.keep fun hm=>S.2.2.1 _ (fun e=>by
  obtain⟨o,_,a⟩:=h.at hm
  have:=a 0 hm
  rw[e]at this
  exact S.1.no hn this)
theorem Nm.stn{B:Option Addr}{m d a:Nat}(h:Nm w B m d a)(S:ae w w' g old new T)(hn:old.all no32=true):Nm w' B m d a:=by
 obtain⟨b,h⟩:=h
 exact⟨b,Cr h S hn⟩
theorem Rd.stn{B:Option Addr}{m d a:Nat}(h:Rd w B m d a)(S:ae w w' g old new T)(hn:old.all no32=true):Rd w' B m d a:=by
 obtain⟨b,xs,h,e⟩:=h
 exact⟨b,xs,Cr h S hn,e⟩
theorem Wn.stn{s:Bool}{B:Option Addr}{m d:Nat}{z:Int}(h:Wn w s B m d z)(S:ae w w' g old new T)(hn:old.all no32=true):Wn w' s B m d z:=⟨h.1.stn S hn,h.2⟩
theorem Wr.stn{s:Bool}{B:Option Addr}{m d:Nat}{z:Int}(h:Wr w s B m d z)(S:ae w w' g old new T)(hn:old.all no32=true):Wr w' s B m d z:=by
 obtain⟨a,h,e⟩:=h
 exact⟨a,h.stn S hn,e⟩
theorem dQ.stn (h:dQ w)(S:ae w w' g old new T)(hn:old.all FN=true):dQ w':=h.keep (S.2.2.1 _ (fun e=>by
 have a:=h 0 (by decide)
 subst e
 rw[S.1.cell]at a
 rw[Array.all_eq_true]at hn
 obtain⟨hlt,b⟩:=Array.getElem?_eq_some_iff.1 a
 have:=hn 0 hlt
 rw[b]at this
 cases this))
end
theorem Jz{w:World}{A1:Option Addr}{n c1 a:Nat}{z:Int}{r:Nat}(h1:Rd w A1 n c1 a)(hn:n<=1073741824)(hz0:0<=z)(hz:z<=16777216)(hr:a*2^z.toNat=r):Calls prog 119 #[.slice A1 n c1,.int .i64 z] w (P1 w (n+z.toNat/32+1) r):=by
 subst hr
 obtain⟨k,rfl⟩:=Int.eq_ofNat_of_zero_le hz0
 have:=Fd k h1 hn (by omega)
 simpa using this
theorem Cj{w:World}{s:Bool}{A:Option Addr}{n c:Nat}{N:Int}{p m:Nat}{B:Option Addr}{d:Nat}{w':World}(h:Wn w s A n c N)(hp:0 < p)(k:Nm w' B m d (N.natAbs*p)):Wn w' s B m d (N*(p:Int)):=by
 refine⟨by rwa [Int.natAbs_mul,Int.natAbs_natCast],?_⟩
 rw[h.2,decide_eq_decide]
 constructor
 ·intro hh;exact Int.mul_neg_of_neg_of_pos hh (by omega)
 ·intro hh
  by_cases e:N < 0
  ·exact e
  ·exact absurd hh (Int.not_lt.2 (Int.mul_nonneg (by omega) (by omega)))
theorem Bo.a{w:World}{g:Nat}{cs:Array Value}{T:TypeId}(h:Bo w g cs T)(i:Nat)(v:Value)(e:cs[i]?=some v):w.cell? ⟨g,i,none⟩=some v:=h.at e
theorem Bo.ce2{w:World}{g:Nat}{cs:Array Value}{T:TypeId}(h:Bo w g cs T){v0 v1:Value}(e0:cs[0]?=some v0)(e1:cs[1]?=some v1):w.cell? ⟨g,0,none⟩=some v0/\w.cell? ⟨g,1,none⟩=some v1:=⟨h.at e0,h.at e1⟩
theorem Bo.ce3{w:World}{g:Nat}{cs:Array Value}{T:TypeId}(h:Bo w g cs T){v0 v1 v2:Value}(e0:cs[0]?=some v0)(e1:cs[1]?=some v1)(e2:cs[2]?=some v2):w.cell? ⟨g,0,none⟩=some v0/\w.cell? ⟨g,1,none⟩=some v1/\w.cell? ⟨g,2,none⟩=some v2:=⟨h.at e0,h.at e1,h.at e2⟩
theorem Bo.ce4{w:World}{g:Nat}{cs:Array Value}{T:TypeId}(h:Bo w g cs T){v0 v1 v2 v3:Value}(e0:cs[0]?=some v0)(e1:cs[1]?=some v1)(e2:cs[2]?=some v2)(e3:cs[3]?=some v3):w.cell? ⟨g,0,none⟩=some v0/\w.cell? ⟨g,1,none⟩=some v1/\w.cell? ⟨g,2,none⟩=some v2/\w.cell? ⟨g,3,none⟩=some v3:=⟨h.at e0,h.at e1,h.at e2,h.at e3⟩
theorem Bo.ce9{w:World}{g:Nat}{cs:Array Value}{T:TypeId}(h:Bo w g cs T){v0 v1 v2 v3 v4 v5 v6 v7 v8:Value}(e0:cs[0]?=some v0)(e1:cs[1]?=some v1)(e2:cs[2]?=some v2)(e3:cs[3]?=some v3)(e4:cs[4]?=some v4)(e5:cs[5]?=some v5)(e6:cs[6]?=some v6)(e7:cs[7]?=some v7)(e8:cs[8]?=some v8):w.cell? ⟨g,0,none⟩=some v0/\w.cell? ⟨g,1,none⟩=some v1/\w.cell? ⟨g,2,none⟩=some v2/\w.cell? ⟨g,3,none⟩=some v3/\w.cell? ⟨g,4,none⟩=some v4/\w.cell? ⟨g,5,none⟩=some v5/\w.cell? ⟨g,6,none⟩=some v6/\w.cell? ⟨g,7,none⟩=some v7/\w.cell? ⟨g,8,none⟩=some v8:=⟨h.at e0,h.at e1,h.at e2,h.at e3,h.at e4,h.at e5,h.at e6,h.at e7,h.at e8⟩
theorem Bo.en1{w w1:World}{c0:Array Value}{T0:TypeId}(h:w.alloc (.cells c0 T0)=w1):Bo w1 (w.heap.size) c0 T0/\RowKit.Hid (Below w.heap.size w w1):=h▸⟨(Bo.newAt (w) (g:=w.heap.size) (by simp) c0 T0),Lib.hid (af w _)⟩
theorem Bo.en2{w w1:World}{c0:Array Value}{T0:TypeId}{c1:Array Value}{T1:TypeId}(h:(w.alloc (.cells c0 T0)).alloc (.cells c1 T1)=w1):Bo w1 (w.heap.size) c0 T0/\Bo w1 (w.heap.size+1) c1 T1/\RowKit.Hid (Below w.heap.size w w1):=h▸⟨(Bo.newAt (w) (g:=w.heap.size) (by simp) c0 T0).below (af _ _),(Bo.newAt (w.alloc (.cells c0 T0)) (g:=w.heap.size+1) (by simp) c1 T1),Lib.hid (bK w _ _)⟩
theorem Bo.en3{w w1:World}{c0:Array Value}{T0:TypeId}{c1:Array Value}{T1:TypeId}{c2:Array Value}{T2:TypeId}(h:((w.alloc (.cells c0 T0)).alloc (.cells c1 T1)).alloc (.cells c2 T2)=w1):Bo w1 (w.heap.size) c0 T0/\Bo w1 (w.heap.size+1) c1 T1/\Bo w1 (w.heap.size+1+1) c2 T2/\RowKit.Hid (Below w.heap.size w w1):=h▸⟨(Bo.newAt (w) (g:=w.heap.size) (by simp) c0 T0).below (bK _ _ _),(Bo.newAt (w.alloc (.cells c0 T0)) (g:=w.heap.size+1) (by simp) c1 T1).below (af _ _),(Bo.newAt ((w.alloc (.cells c0 T0)).alloc (.cells c1 T1)) (g:=w.heap.size+1+1) (by simp) c2 T2),Lib.hid (gE w _ _ _)⟩
theorem Bo.en4{w w1:World}{c0:Array Value}{T0:TypeId}{c1:Array Value}{T1:TypeId}{c2:Array Value}{T2:TypeId}{c3:Array Value}{T3:TypeId}(h:(((w.alloc (.cells c0 T0)).alloc (.cells c1 T1)).alloc (.cells c2 T2)).alloc (.cells c3 T3)=w1):Bo w1 (w.heap.size) c0 T0/\Bo w1 (w.heap.size+1) c1 T1/\Bo w1 (w.heap.size+1+1) c2 T2/\Bo w1 (w.heap.size+1+1+1) c3 T3/\RowKit.Hid (Below w.heap.size w w1):=h▸⟨(Bo.newAt (w) (g:=w.heap.size) (by simp) c0 T0).below (gE _ _ _ _),(Bo.newAt (w.alloc (.cells c0 T0)) (g:=w.heap.size+1) (by simp) c1 T1).below (bK _ _ _),(Bo.newAt ((w.alloc (.cells c0 T0)).alloc (.cells c1 T1)) (g:=w.heap.size+1+1) (by simp) c2 T2).below (af _ _),(Bo.newAt (((w.alloc (.cells c0 T0)).alloc (.cells c1 T1)).alloc (.cells c2 T2)) (g:=w.heap.size+1+1+1) (by simp) c3 T3),Lib.hid (jP w _ _ _ _)⟩
theorem Bo.en5{w w1:World}{c0:Array Value}{T0:TypeId}{c1:Array Value}{T1:TypeId}{c2:Array Value}{T2:TypeId}{c3:Array Value}{T3:TypeId}{c4:Array Value}{T4:TypeId}(h:((((w.alloc (.cells c0 T0)).alloc (.cells c1 T1)).alloc (.cells c2 T2)).alloc (.cells c3 T3)).alloc (.cells c4 T4)=w1):Bo w1 (w.heap.size) c0 T0/\Bo w1 (w.heap.size+1) c1 T1/\Bo w1 (w.heap.size+1+1) c2 T2/\Bo w1 (w.heap.size+1+1+1) c3 T3/\Bo w1 (w.heap.size+1+1+1+1) c4 T4/\RowKit.Hid (Below w.heap.size w w1):=h▸⟨(Bo.newAt (w) (g:=w.heap.size) (by simp) c0 T0).below (jP _ _ _ _ _),(Bo.newAt (w.alloc (.cells c0 T0)) (g:=w.heap.size+1) (by simp) c1 T1).below (gE _ _ _ _),(Bo.newAt ((w.alloc (.cells c0 T0)).alloc (.cells c1 T1)) (g:=w.heap.size+1+1) (by simp) c2 T2).below (bK _ _ _),(Bo.newAt (((w.alloc (.cells c0 T0)).alloc (.cells c1 T1)).alloc (.cells c2 T2)) (g:=w.heap.size+1+1+1) (by simp) c3 T3).below (af _ _),(Bo.newAt ((((w.alloc (.cells c0 T0)).alloc (.cells c1 T1)).alloc (.cells c2 T2)).alloc (.cells c3 T3)) (g:=w.heap.size+1+1+1+1) (by simp) c4 T4),Lib.hid (Gj w _ _ _ _ _)⟩
theorem Bo.en6{w w1:World}{c0:Array Value}{T0:TypeId}{c1:Array Value}{T1:TypeId}{c2:Array Value}{T2:TypeId}{c3:Array Value}{T3:TypeId}{c4:Array Value}{T4:TypeId}{c5:Array Value}{T5:TypeId}(h:(((((w.alloc (.cells c0 T0)).alloc (.cells c1 T1)).alloc (.cells c2 T2)).alloc (.cells c3 T3)).alloc (.cells c4 T4)).alloc (.cells c5 T5)=w1):Bo w1 (w.heap.size) c0 T0/\Bo w1 (w.heap.size+1) c1 T1/\Bo w1 (w.heap.size+1+1) c2 T2/\Bo w1 (w.heap.size+1+1+1) c3 T3/\Bo w1 (w.heap.size+1+1+1+1) c4 T4/\Bo w1 (w.heap.size+1+1+1+1+1) c5 T5/\RowKit.Hid (Below w.heap.size w w1):=h▸⟨(Bo.newAt (w) (g:=w.heap.size) (by simp) c0 T0).below (Gj _ _ _ _ _ _),(Bo.newAt (w.alloc (.cells c0 T0)) (g:=w.heap.size+1) (by simp) c1 T1).below (jP _ _ _ _ _),(Bo.newAt ((w.alloc (.cells c0 T0)).alloc (.cells c1 T1)) (g:=w.heap.size+1+1) (by simp) c2 T2).below (gE _ _ _ _),(Bo.newAt (((w.alloc (.cells c0 T0)).alloc (.cells c1 T1)).alloc (.cells c2 T2)) (g:=w.heap.size+1+1+1) (by simp) c3 T3).below (bK _ _ _),(Bo.newAt ((((w.alloc (.cells c0 T0)).alloc (.cells c1 T1)).alloc (.cells c2 T2)).alloc (.cells c3 T3)) (g:=w.heap.size+1+1+1+1) (by simp) c4 T4).below (af _ _),(Bo.newAt (((((w.alloc (.cells c0 T0)).alloc (.cells c1 T1)).alloc (.cells c2 T2)).alloc (.cells c3 T3)).alloc (.cells c4 T4)) (g:=w.heap.size+1+1+1+1+1) (by simp) c5 T5),Lib.hid ((Gj w _ _ _ _ _).alloc (by simp;omega) _)⟩
theorem Bo.nw{w w1:World}{c:Array Value}{T:TypeId}(h:w.alloc (.cells c T)=w1):Bo w1 w.heap.size c T/\Below w.heap.size w w1:=h▸⟨Bo.new w c T,af w _⟩
theorem Bo.u2{w:World}{g:Nat}{T:TypeId}{v0 v1:Value}(h:Bo w g #[v0,v1] T):w.cell? ⟨g,0,none⟩=some v0/\w.cell? ⟨g,1,none⟩=some v1:=⟨h.at rfl,h.at rfl⟩
theorem Bo.u3{w:World}{g:Nat}{T:TypeId}{v0 v1 v2:Value}(h:Bo w g #[v0,v1,v2] T):w.cell? ⟨g,0,none⟩=some v0/\w.cell? ⟨g,1,none⟩=some v1/\w.cell? ⟨g,2,none⟩=some v2:=⟨h.at rfl,h.at rfl,h.at rfl⟩
theorem Bo.u4{w:World}{g:Nat}{T:TypeId}{v0 v1 v2 v3:Value}(h:Bo w g #[v0,v1,v2,v3] T):w.cell? ⟨g,0,none⟩=some v0/\w.cell? ⟨g,1,none⟩=some v1/\w.cell? ⟨g,2,none⟩=some v2/\w.cell? ⟨g,3,none⟩=some v3:=⟨h.at rfl,h.at rfl,h.at rfl,h.at rfl⟩
theorem Bo.u9{w:World}{g:Nat}{T:TypeId}{v0 v1 v2 v3 v4 v5 v6 v7 v8:Value}(h:Bo w g #[v0,v1,v2,v3,v4,v5,v6,v7,v8] T):w.cell? ⟨g,0,none⟩=some v0/\w.cell? ⟨g,1,none⟩=some v1/\w.cell? ⟨g,2,none⟩=some v2/\w.cell? ⟨g,3,none⟩=some v3/\w.cell? ⟨g,4,none⟩=some v4/\w.cell? ⟨g,5,none⟩=some v5/\w.cell? ⟨g,6,none⟩=some v6/\w.cell? ⟨g,7,none⟩=some v7/\w.cell? ⟨g,8,none⟩=some v8:=⟨h.at rfl,h.at rfl,h.at rfl,h.at rfl,h.at rfl,h.at rfl,h.at rfl,h.at rfl,h.at rfl⟩
theorem ae.of2{w w1:World}{g:Nat}{T:TypeId}{a0 a1 v0 v1:Value}(X:Bo w g #[a0,a1] T)(h:(w.setCell ⟨g,0,none⟩ v0).setCell ⟨g,1,none⟩ v1=w1):ae w w1 g #[a0,a1] #[v0,v1] T:=h▸ae.mk2 X v0 v1
theorem ae.of3{w w1:World}{g:Nat}{T:TypeId}{a0 a1 a2 v0 v1 v2:Value}(X:Bo w g #[a0,a1,a2] T)(h:((w.setCell ⟨g,0,none⟩ v0).setCell ⟨g,1,none⟩ v1).setCell ⟨g,2,none⟩ v2=w1):ae w w1 g #[a0,a1,a2] #[v0,v1,v2] T:=h▸ae.mk3 X v0 v1 v2
theorem Bo.w9{w:World}{g:Nat}{T:TypeId}{v0 v1 v2 v3 v4 v5 v6 v7 v8:Value}(h:Bo w g #[v0,v1,v2,v3,v4,v5,v6,v7,v8] T):w.cell? ⟨g,1,none⟩=some v1/\w.cell? ⟨g,2,none⟩=some v2/\w.cell? ⟨g,3,none⟩=some v3/\w.cell? ⟨g,4,none⟩=some v4:=⟨h.at rfl,h.at rfl,h.at rfl,h.at rfl⟩
theorem Bo.v9{w:World}{g:Nat}{T:TypeId}{v0 v1 v2 v3 v4 v5 v6 v7 v8:Value}(h:Bo w g #[v0,v1,v2,v3,v4,v5,v6,v7,v8] T):w.cell? ⟨g,5,none⟩=some v5/\w.cell? ⟨g,6,none⟩=some v6/\w.cell? ⟨g,7,none⟩=some v7/\w.cell? ⟨g,8,none⟩=some v8:=⟨h.at rfl,h.at rfl,h.at rfl,h.at rfl⟩
theorem aa{w w1 w2:World}(h:RowKit.Hid (Below w.heap.size w w1))(b:Below w1.heap.size w1 w2):RowKit.Hid (Below w.heap.size w w2):=Lib.hid (bt h.out b)
theorem bn{n g:Nat}{a w w':World}{o c:Array Value}{T:TypeId}(h:RowKit.Hid (Below n a w))(S:ae w w' g o c T)(hg:n<=g):RowKit.Hid (Below n a w'):=Lib.hid (S.below h.out hg)
abbrev LQ (m:Int):Prop:=m < 18446744073709551616
abbrev VQ (D:Int)(s:Bool)(M E:Int):Value:= .agg #[.int .i64 D,.bool s,.int .u64 M,.int .i64 E]
abbrev VI (e:Bool)(D:Int)(s:Bool)(M E:Int)(D':Int)(s':Bool)(M' E':Int):Value:= .agg #[.bool e,.int .i64 D,.bool s,.int .u64 M,.int .i64 E,.int .i64 D',.bool s',.int .u64 M',.int .i64 E']
open Go in
theorem Jo.w1{P:Program}{f:FuncId}{a:Array Value}{w:World}{Q:Ending->World->Prop}{R:Value->World->Prop}{K K':Nat}{z:Int}(h:Calls P f a w (W1 w K z))(hR:∀v w',(Jo.Fact.wn z K').P v w'->Jo.Grow w w'->R v w')(hk:K<=K':=by omega)(hQ:∀v w',R v w'->Q (.returned v) w':=by exact fun _ _ h=>h):Calls P f a w Q:=by
 refine h.mono ?_
 rintro e w' ⟨s,A,n,c,rfl,p,k,B⟩
 exact hQ _ _ (hR _ _ ⟨s,A,n,c,rfl,p,Nat.le_trans k hk⟩ B)
open Go in
theorem Jo.d1{P:Program}{f:FuncId}{a:Array Value}{w:World}{Q:Ending->World->Prop}{R:Value->World->Prop}{K K':Nat}{N E:Int}(h:Calls P f a w (D1 w K N E))(hR:∀v w',(Jo.Fact.dy N E K').P v w'->Jo.Grow w w'->R v w')(hk:K<=K':=by omega)(hQ:∀v w',R v w'->Q (.returned v) w':=by exact fun _ _ h=>h):Calls P f a w Q:=by
 refine h.mono ?_
 rintro e w' ⟨s,A,n,c,rfl,p,k,B⟩
 exact hQ _ _ (hR _ _ ⟨s,A,n,c,rfl,p,Nat.le_trans k hk⟩ B)
theorem Bo.s{w w':World}{g:Nat}{old new:Array Value}{T:TypeId}{k:Nat}{cs:Array Value}{R:TypeId}(X:Bo w k cs R)(S:ae w w' g old new T)(h:k≠g:=by omega):Bo w' k cs R:=X.stn S h
theorem Nm.s{w w':World}{g:Nat}{old new:Array Value}{T:TypeId}{B:Option Addr}{m d a:Nat}(h:Nm w B m d a)(S:ae w w' g old new T)(hn:old.all no32=true:=by simp[no32]):Nm w' B m d a:=h.stn S hn
theorem Rd.s{w w':World}{g:Nat}{old new:Array Value}{T:TypeId}{B:Option Addr}{m d a:Nat}(h:Rd w B m d a)(S:ae w w' g old new T)(hn:old.all no32=true:=by simp[no32]):Rd w' B m d a:=h.stn S hn
theorem Wn.s{w w':World}{g:Nat}{old new:Array Value}{T:TypeId}{s:Bool}{B:Option Addr}{m d:Nat}{z:Int}(h:Wn w s B m d z)(S:ae w w' g old new T)(hn:old.all no32=true:=by simp[no32]):Wn w' s B m d z:=h.stn S hn
theorem Wr.s{w w':World}{g:Nat}{old new:Array Value}{T:TypeId}{s:Bool}{B:Option Addr}{m d:Nat}{z:Int}(h:Wr w s B m d z)(S:ae w w' g old new T)(hn:old.all no32=true:=by simp[no32]):Wr w' s B m d z:=h.stn S hn
theorem dQ.s{w w':World}{g:Nat}{old new:Array Value}{T:TypeId}(h:dQ w)(S:ae w w' g old new T)(hn:old.all FN=true:=by simp[FN]):dQ w':=h.stn S hn
theorem ie{p:Prop}(h:p):Hid p:=Lib.hid h
theorem dt{p:Prop} [Decidable p](h:p):decide p=true:=decide_eq_true h
theorem df{p:Prop} [Decidable p](h:¬p):decide p=false:=decide_eq_false h
abbrev bq:= @bodyPost_ret
abbrev jo:= @Jo.Steps.nil
theorem iw (z:Int)(h: -9223372036854775808<=z/\z<=9223372036854775807:=by omega):Hid (IntKind.i64.wrap z=z):=Lib.hid (IntWalk.i64_in z h)
theorem jw (z:Int)(h: -9223372036854775808<=z/\z<=9223372036854775807:=by omega):Hid (wrap64 z=z):=Lib.hid (IntWalk.wrap64_in z h)
theorem ae.t2{w:World}{g:Nat}{T:TypeId}{a b:Value}(X:Bo w g #[a,b] T)(s:Bool)(A:Option Addr)(n c:Nat):ae w ((w.setCell ⟨g,0,none⟩ (.bool s)).setCell ⟨g,1,none⟩ (.slice A n c)) g #[a,b] #[.bool s,.slice A n c] T:=ae.mk2 X _ _
end Go.Proofs.YtomikokonmikgaaGreatDoor
namespace Go.Proofs.YtomikokonmikgaaGreatDoor
open Go.Proofs.Tryz
open Go.RowKit
set_option linter.unusedVariables false
theorem DF{N E:Int}(hE:E < 0)(ho:N.natAbs%2=1)(hN:N < 0):rL N E= -((N.natAbs/2^(-E).toNat+1:Nat):Int):=by
 unfold rL
 rw[if_neg (by omega)];obtain⟨k,a⟩:∃k,(-E).toNat=k+1:=⟨(-E).toNat-1,by omega⟩
 rw[a]
 have b:0 < 2^(k+1):=Nat.pow_pos (by decide)
 have hd:=Nat.div_add_mod N.natAbs (2^(k+1))
 have hm:N.natAbs%2^(k+1)≠0:=by
  intro e
  rw[e,Nat.pow_succ,Nat.add_zero]at hd
  have:N.natAbs%2=0:=by rw[<-hd,Nat.mul_comm _ 2,Nat.mul_assoc];exact Nat.mul_mod_right _ _
  omega
 have hlt:=Nat.mod_lt N.natAbs b
 revert hd hm hlt
 generalize N.natAbs%2^(k+1)=r;generalize N.natAbs/2^(k+1)=q;generalize 2^(k+1)=P at *
 intro hd hm hlt
 have e1:N= -((P:Int)*q)-r:=by
  have:((P*q+r:Nat):Int)=(N.natAbs:Int):=by rw[hd]
  rw[Int.natCast_add,Int.natCast_mul]at this
  omega
 have:=(oD (x:=N) (y:=(P:Int)) (q:= -((q+1:Nat):Int)) (r:=(P:Int)-r) (by omega) (by
  rw[e1,Int.natCast_add,Int.mul_neg,Int.mul_add]
  omega) (fun _=>by omega) (fun h=>by omega)).1
 exact this.symm
theorem DG{N E:Int}(hE:E < 0)(hN:0<=N):rL N E=((N.natAbs/2^(-E).toNat:Nat):Int):=by
 unfold rL
 rw[if_neg (by omega)]
 have b:N=(N.natAbs:Int):=by omega
 generalize (-E).toNat=k;rw[b,Int.natAbs_natCast];generalize N.natAbs=a;rw[Int.fdiv_eq_ediv_of_nonneg _ (Int.natCast_nonneg _)]
 rfl
def TP:Int:=19342822337206103650074625
theorem dj:TP=19342822337206103650074625:=rfl
def aC (K:Int)(s:Bool)(M E:Int):Prop:=(K=0/\s=false/\M=0/\E=0)\/(K=1/\9223372036854775808<=M/\ -1048576<=E/\E<=1048576)\/(K=2/\M=0/\E=0)
instance (K:Int) (s:Bool) (M E:Int):Decidable (aC K s M E):=by unfold aC;infer_instance
def plc (K M E:Int):Int:=if K=0 then 0 else if K=1 then M-9223372036854775808+1+(E+1048576)*9223372036854775808 else TP
def aj (s:Bool)(x:Int):Int:=if s=true then -x else x
def rk (K:Int)(s:Bool)(M E:Int):Int:=if aC K s M E then aj s (plc K M E)else 0
def Fq (K:Int)(s:Bool)(M E r:Int):Prop:=aC K s M E/\M < 18446744073709551616/\aj s (plc K M E)=r
theorem Fq.cases{K:Int}{s:Bool}{M E r:Int}(h:Fq K s M E r):(K=0/\s=false/\M=0/\E=0/\r=0)\/(K=1/\9223372036854775808<=M/\M < 18446744073709551616/\ -1048576<=E/\E<=1048576/\((s=false/\r=M-9223372036854775808+1+(E+1048576)*9223372036854775808)\/(s=true/\ -r=M-9223372036854775808+1+(E+1048576)*9223372036854775808)))
  \/(K=2/\M=0/\E=0/\((s=false/\r=19342822337206103650074625)\/(s=true/\r= -19342822337206103650074625))):=by
 obtain⟨h1,h2,a⟩:=h
 rcases h1 with⟨rfl,rfl,rfl,rfl⟩ | ⟨rfl,h4,c,d⟩ | ⟨rfl,rfl,rfl⟩
 ·left
  exact⟨rfl,rfl,rfl,rfl,by rw[<-a];rfl⟩
 ·right;left
  refine⟨rfl,h4,h2,c,d,?_⟩
  cases s
  ·left
   exact⟨rfl,a.symm⟩
  ·right
   have b: -(M-9223372036854775808+1+(E+1048576)*9223372036854775808)=r:=a
   exact⟨rfl,by rw[<-b,Int.neg_neg]⟩
 ·right;right
  refine⟨rfl,rfl,rfl,?_⟩
  cases s
  ·left
   exact⟨rfl,a.symm⟩
  ·right
   exact⟨rfl,a.symm⟩
theorem Fq.fin{s:Bool}{M E r:Int}(h1:9223372036854775808<=M)(h2:M < 18446744073709551616)(h3: -1048576<=E)(h4:E<=1048576)(hr:aj s (M-9223372036854775808+1+(E+1048576)*9223372036854775808)=r):Fq 1 s M E r:=
 ⟨Or.inr (Or.inl ⟨rfl,h1,h3,h4⟩),h2,hr⟩
theorem Fq.nought:Fq 0 false 0 0 0:=⟨Or.inl ⟨rfl,rfl,rfl,rfl⟩,by decide,rfl⟩
theorem Fq.inf (s:Bool):Fq 2 s 0 0 (aj s TP):=⟨Or.inr (Or.inr ⟨rfl,rfl,rfl⟩),by decide,rfl⟩
theorem Fq.uniq{K K':Int}{s s':Bool}{M M' E E' r:Int}(h:Fq K s M E r)(k:Fq K' s' M' E' r):K=K'/\s=s'/\M=M'/\E=E':=by
 rcases h.cases with⟨rfl,rfl,rfl,rfl,c⟩ | ⟨rfl,h1,h2,d,h4,⟨rfl,a⟩ | ⟨rfl,a⟩⟩ | ⟨rfl,rfl,rfl,⟨rfl,a⟩ | ⟨rfl,a⟩⟩ <;>
  rcases k.cases with⟨rfl,rfl,rfl,rfl,e⟩ | ⟨rfl,f,g,i,j,⟨rfl,b⟩ | ⟨rfl,b⟩⟩ | ⟨rfl,rfl,rfl,⟨rfl,b⟩ | ⟨rfl,b⟩⟩ <;>
  first | exact⟨rfl,rfl,rfl,rfl⟩ | (exfalso;omega) | exact⟨rfl,rfl,by omega,by omega⟩
theorem Fq.bd{K:Int}{s:Bool}{M E r:Int}(h:Fq K s M E r): -19342822337206103650074625<=r/\r<=19342822337206103650074625:=by
 rcases h.cases with⟨rfl,rfl,rfl,rfl,b⟩ | ⟨rfl,h1,h2,c,h4,⟨rfl,a⟩ | ⟨rfl,a⟩⟩ | ⟨rfl,rfl,rfl,⟨rfl,a⟩ | ⟨rfl,a⟩⟩ <;> omega
theorem Fq.top{K:Int}{s:Bool}{M E r:Int}(h:Fq K s M E r):M < 18446744073709551616:=h.2.1
theorem Fq.rk{K:Int}{s:Bool}{M E r:Int}(h:Fq K s M E r):rk K s M E=r:=by
 unfold Go.Proofs.YtomikokonmikgaaGreatDoor.rk
 rw[if_pos h.1];exact h.2.2
theorem fs{K:Int}{s:Bool}{M E:Int}(h:¬aC K s M E):rk K s M E=0:=by
 unfold rk
 rw[if_neg h]
theorem eU{K:Int}{s:Bool}{M E:Int}(hM:M < 18446744073709551616)(h:aC K s M E):Fq K s M E (rk K s M E):=⟨h,hM,by unfold rk;rw[if_pos h]⟩
theorem BY{K:Int}{s:Bool}{M E:Int}(hM:LQ M): -19342822337206103650074625<=rk K s M E/\rk K s M E<=19342822337206103650074625:=by
 by_cases h:aC K s M E
 ·exact(eU hM h).bd
 ·rw[fs h];decide
theorem sK{K:Int}{s:Bool}{M E r:Int}(h:Fq K s M E r)(hK:K≠0):Fq K (!s) M E (-r):=by
 rcases h.cases with⟨rfl,rfl,rfl,rfl,c⟩ | ⟨rfl,h1,h2,b,h4,⟨rfl,a⟩ | ⟨rfl,a⟩⟩ | ⟨rfl,rfl,rfl,⟨rfl,a⟩ | ⟨rfl,a⟩⟩
 ·exact absurd rfl hK
 ·exact Fq.fin h1 h2 b h4 (by rw[a];rfl)
 ·exact Fq.fin h1 h2 b h4 (by rw[a];rfl)
 ·subst a;exact Fq.inf true
 ·subst a;exact Fq.inf false
def fa (K M E K' M' E':Int):Int:=if K≠K' then ag K K' else if E≠E' then ag E E' else ag M M'
theorem IP (K M E K' M' E':Int): -1<=fa K M E K' M' E'/\fa K M E K' M' E'<=1:=by
 unfold fa
 split
 ·exact fB _ _
 ·split
  ·exact fB _ _
  ·exact fB _ _
theorem aO (x y:Int):(x < y/\ag x y= -1)\/(x=y/\ag x y=0)\/(y < x/\ag x y=1):=by
 unfold ag
 by_cases h1:x < y
 ·rw[if_pos h1];exact Or.inl ⟨h1,rfl⟩
 ·by_cases h2:y < x
  ·rw[if_neg h1,if_pos h2];exact Or.inr (Or.inr ⟨h2,rfl⟩)
  ·rw[if_neg h1,if_neg h2];exact Or.inr (Or.inl ⟨by omega,rfl⟩)
theorem Fq.plc{K:Int}{s:Bool}{M E r:Int}(h:Fq K s M E r)(hK:K≠0):(K=1/\9223372036854775808<=M/\M < 18446744073709551616/\ -1048576<=E/\E<=1048576/\plc K M E=M-9223372036854775808+1+(E+1048576)*9223372036854775808)\/(K=2/\M=0/\E=0/\plc K M E=19342822337206103650074625):=by
 obtain⟨h1,h2,c⟩:=h
 rcases h1 with⟨rfl,rfl,rfl,rfl⟩ | ⟨rfl,h4,a,b⟩ | ⟨rfl,rfl,rfl⟩
 ·exact absurd rfl hK
 ·exact Or.inl ⟨rfl,h4,h2,a,b,rfl⟩
 ·exact Or.inr ⟨rfl,rfl,rfl,rfl⟩
theorem Gx{K K':Int}{s s':Bool}{M M' E E' r r':Int}(h:Fq K s M E r)(k:Fq K' s' M' E' r')(hK:K≠0)(hK':K'≠0):fa K M E K' M' E'=ag (plc K M E) (plc K' M' E'):=by
 unfold fa
 rcases h.plc hK with⟨rfl,h1,h2,e,h4,c⟩ | ⟨rfl,rfl,rfl,c⟩ <;> rcases k.plc hK' with⟨rfl,f,g,i,j,d⟩ | ⟨rfl,rfl,rfl,d⟩ <;> simp only[c,d]
 ·rw[if_neg (by decide)]
  rcases aO E E' with⟨b,a⟩ | ⟨b,a⟩ | ⟨b,a⟩
  ·rw[if_pos (by omega),a,aq (by omega)]
  ·rw[if_neg (by omega)]
   rcases aO M M' with⟨c1,c2⟩ | ⟨c1,c2⟩ | ⟨c1,c2⟩
   ·rw[c2,aq (by omega)]
   ·rw[c2,aW (by omega)]
   ·rw[c2,az (by omega)]
  ·rw[if_pos (by omega),a,az (by omega)]
 ·rw[if_pos (by decide),aq (by decide),aq (by omega)]
 ·rw[if_pos (by decide),az (by decide),az (by omega)]
 ·rw[if_neg (by decide),if_neg (by decide)]
  rfl
theorem oS{K:Int}{s:Bool}{M E r:Int}(h:Fq K s M E r)(hK:K≠0):0 < plc K M E:=by
 rcases h.plc hK with⟨rfl,h1,h2,b,h4,a⟩ | ⟨rfl,rfl,rfl,a⟩ <;> rw[a] <;> omega
theorem wu (x y:Int):ag (-x) (-y)= -ag x y:=by
 rcases aO x y with⟨a1,a2⟩ | ⟨a1,a2⟩ | ⟨a1,a2⟩ <;> rw[a2]
 ·rw[az (by omega),Int.neg_neg]
 ·rw[aW (by omega)];rfl
 ·rw[aq (by omega)]
theorem Ft{K K':Int}{s:Bool}{M M' E E' r r':Int}(h:Fq K s M E r)(k:Fq K' s M' E' r')(hK:K≠0)(hK':K'≠0):ag r 0*fa K M E K' M' E'=ag r r':=by
 rw[Gx h k hK hK',<-h.2.2,<-k.2.2];have a:=oS h hK
 cases s
 ·show ag (plc K M E) 0*_=ag (plc K M E) (plc K' M' E')
  rw[az a,Int.one_mul]
 ·show ag (-plc K M E) 0*_=ag (-plc K M E) (-plc K' M' E')
  rw[aq (show -plc K M E < 0 by omega),wu,Int.neg_mul,Int.one_mul]
theorem Fq.zero_iff{K:Int}{s:Bool}{M E r:Int}(h:Fq K s M E r):K=0↔r=0:=by
 rcases h.cases with⟨rfl,rfl,rfl,rfl,b⟩ | ⟨rfl,h1,h2,c,h4,⟨rfl,a⟩ | ⟨rfl,a⟩⟩ | ⟨rfl,rfl,rfl,⟨rfl,a⟩ | ⟨rfl,a⟩⟩ <;> constructor <;> intro _ <;> omega
theorem Fq.sign{K:Int}{s:Bool}{M E r:Int}(h:Fq K s M E r)(hK:K≠0):ag r 0=if s=true then -1 else 1:=by
 rcases h.cases with⟨rfl,rfl,rfl,rfl,b⟩ | ⟨rfl,h1,h2,c,h4,⟨rfl,a⟩ | ⟨rfl,a⟩⟩ | ⟨rfl,rfl,rfl,⟨rfl,a⟩ | ⟨rfl,a⟩⟩
 ·exact absurd rfl hK
 ·rw[az (by omega)];rfl
 ·rw[aq (by omega)];rfl
 ·rw[az (by omega)];rfl
 ·rw[aq (by omega)];rfl
theorem Dt{K K':Int}{s s':Bool}{M M' E E':Int}(hM:LQ M)(hM':LQ M')(he:ag (rk K s M E) 0=ag (rk K' s' M' E') 0):ag (rk K s M E) 0*fa K M E K' M' E'=ag (rk K s M E) (rk K' s' M' E'):=by
 by_cases a:rk K s M E=0
 ·have h1:rk K' s' M' E'=0:=by
   rw[a,aW rfl]at he;exact dG.1 he.symm
  rw[a,h1,aW rfl,Int.zero_mul]
 ·have h1:rk K' s' M' E'≠0:=fun h=>by
   rw[h,aW rfl]at he;exact a (dG.1 he)
  have f:aC K s M E:=Decidable.by_contra fun h=>a (fs h)
  have g:aC K' s' M' E':=Decidable.by_contra fun h=>h1 (fs h)
  have b:=eU hM f;have c:=eU hM' g
  have d:K≠0:=fun h=>a (b.zero_iff.1 h)
  have e:K'≠0:=fun h=>h1 (c.zero_iff.1 h)
  have hs:s=s':=by
   rw[b.sign d,c.sign e]at he
   cases s <;> cases s' <;> first | rfl | exact absurd he (by decide)
  subst hs;exact Ft b c d e
theorem pP{x y:Int}(he:ag x 0≠ag y 0):ag (ag x 0) (ag y 0)=ag x y:=by
 rcases aO x 0 with⟨a1,a2⟩ | ⟨a1,a2⟩ | ⟨a1,a2⟩ <;> rcases aO y 0 with⟨b,a⟩ | ⟨b,a⟩ | ⟨b,a⟩ <;> rw[a2,a]at he|-
 ·exact absurd rfl he
 ·rw[aq (show x < y by omega)];rfl
 ·rw[aq (show x < y by omega)];rfl
 ·rw[az (show y < x by omega)];rfl
 ·exact absurd rfl he
 ·rw[aq (show x < y by omega)];rfl
 ·rw[az (show y < x by omega)];rfl
 ·rw[az (show y < x by omega)];rfl
 ·exact absurd rfl he
def nx (up:Bool)(r:Int):Int:=if up=true then min TP (r+1)else max (-TP) (r-1)
end Go.Proofs.YtomikokonmikgaaGreatDoor
namespace Go.Proofs.YtomikokonmikgaaGreatDoor
open Go.Proofs.Tryz
set_option maxHeartbeats 4000000
open Go.RowKit
set_option linter.unusedVariables false
theorem ae.mk4{w:World}{g:Nat}{T:TypeId}{a b c d:Value}(X:Bo w g #[a,b,c,d] T)(u v t x:Value):ae w ((((w.setCell ⟨g,0,none⟩ u).setCell ⟨g,1,none⟩ v).setCell ⟨g,2,none⟩ t).setCell ⟨g,3,none⟩ x) g #[a,b,c,d] #[u,v,t,x] T:=
 ⟨X,by simpa using (((X.set 0 u).set 1 v).set 2 t).set 3 x,fun k hk=>by rw[Below.heap_setCell _ _ _ _ hk,Below.heap_setCell _ _ _ _ hk,Below.heap_setCell _ _ _ _ hk,Below.heap_setCell _ _ _ _ hk],fun B a hg h=>fj (st3 h hg u v t) hg 3 x⟩
theorem ae.at4{w:World}{g:Nat}{T:TypeId}{cs:Array Value}(X:Bo w g cs T)(i:Nat)(v:Value):ae w (w.setCell ⟨g,i,none⟩ v) g cs (cs.setIfInBounds i v) T:=
 ⟨X,X.set i v,fun k hk=>Below.heap_setCell _ _ _ _ hk,fun B a hg h=>fj h hg i v⟩
theorem FJ{s:Bool}{M E:Int}:decide (aC 0 s M E)=((s==false) && ((M==0) && (E==0))):=by
 unfold aC
 rw[Bool.eq_iff_iff]
 simp
theorem FK{s:Bool}{M E:Int}:decide (aC 1 s M E)=(decide (9223372036854775808<=M) && (decide (-1048576<=E) && decide (E<=1048576))):=by
 unfold aC
 rw[Bool.eq_iff_iff]
 simp
theorem FL{s:Bool}{M E:Int}:decide (aC 2 s M E)=((M==0) && (E==0)):=by
 unfold aC
 rw[Bool.eq_iff_iff]
 simp
theorem FM{K:Int}{s:Bool}{M E:Int}(h0:K≠0)(h1:K≠1)(h2:K≠2):decide (aC K s M E)=false:=by
 unfold aC
 simp[h0,h1,h2]
theorem kI{w:World}{K M E:Int}{s:Bool}{r:Bool}(hr:decide (aC K s M E)=r):Calls prog 32 #[VQ K s M E] w (PB w r):=by
 delta VQ
 subst hr
 by_cases a:K=0
 ·subst a;rw[FJ]
  go_enter func32,ntmps32
  go_wp2
  all_goals go_ret
  all_goals exact⟨by simp_all,af _ _⟩
 by_cases h1:K=1
 ·subst h1;rw[FK]
  by_cases c1:9223372036854775808<=M
  ·have e1:decide (9223372036854775808<=M)=true:=dt c1
   by_cases c2: -1048576<=E
   ·have e2:decide (-1048576<=E)=true:=dt c2
    by_cases c3:E<=1048576
    ·have e3:decide (E<=1048576)=true:=dt c3
     rw[e1,e2,e3]
     go_enter func32,ntmps32
     go_wp2
     go_ret
     exact⟨rfl,af _ _⟩
    ·have e3:decide (E<=1048576)=false:=df c3
     rw[e1,e2,e3]
     go_enter func32,ntmps32
     go_wp2
     go_ret
     exact⟨rfl,af _ _⟩
   ·have e2:decide (-1048576<=E)=false:=df c2
    rw[e1,e2]
    go_enter func32,ntmps32
    go_wp2
    go_ret
    exact⟨rfl,af _ _⟩
  ·have e1:decide (9223372036854775808<=M)=false:=df c1
   rw[e1]
   go_enter func32,ntmps32
   go_wp2
   go_ret
   exact⟨rfl,af _ _⟩
 by_cases h2:K=2
 ·subst h2;rw[FL]
  by_cases c1:M=0
  ·subst c1
   by_cases c2:E=0
   ·subst c2
    go_enter func32,ntmps32
    go_wp2
    go_ret
    exact⟨rfl,af _ _⟩
   ·have e2:(E==0)=false:=by simpa using c2
    rw[e2]
    go_enter func32,ntmps32
    go_wp2
    go_ret
    exact⟨rfl,af _ _⟩
  ·have e1:(M==0)=false:=by simpa using c1
   rw[e1]
   go_enter func32,ntmps32
   go_wp2
   go_ret
   exact⟨rfl,af _ _⟩
 ·rw[FM a h1 h2]
  have e0:(K==0)=false:=by simpa using a
  have e1:(K==1)=false:=by simpa using h1
  have e2:(K==2)=false:=by simpa using h2
  go_enter func32,ntmps32
  go_wp2
  go_ret
  exact⟨rfl,af _ _⟩
theorem gV{w:World}{K M E:Int}{s:Bool}{r:Bool}(hr:decide (aC K s M E)=r):Calls prog 92 #[VQ K s M E] w (PB w r):=by
 delta VQ
 subst hr
 by_cases a:K=0
 ·subst a;rw[FJ]
  go_enter func92,ntmps92
  go_wp2
  all_goals go_ret
  all_goals exact⟨by simp_all,af _ _⟩
 by_cases h1:K=1
 ·subst h1;rw[FK]
  by_cases c1:9223372036854775808<=M
  ·have e1:decide (9223372036854775808<=M)=true:=dt c1
   by_cases c2: -1048576<=E
   ·have e2:decide (-1048576<=E)=true:=dt c2
    by_cases c3:E<=1048576
    ·have e3:decide (E<=1048576)=true:=dt c3
     rw[e1,e2,e3]
     go_enter func92,ntmps92
     go_wp2
     go_ret
     exact⟨rfl,af _ _⟩
    ·have e3:decide (E<=1048576)=false:=df c3
     rw[e1,e2,e3]
     go_enter func92,ntmps92
     go_wp2
     go_ret
     exact⟨rfl,af _ _⟩
   ·have e2:decide (-1048576<=E)=false:=df c2
    rw[e1,e2]
    go_enter func92,ntmps92
    go_wp2
    go_ret
    exact⟨rfl,af _ _⟩
  ·have e1:decide (9223372036854775808<=M)=false:=df c1
   rw[e1]
   go_enter func92,ntmps92
   go_wp2
   go_ret
   exact⟨rfl,af _ _⟩
 by_cases h2:K=2
 ·subst h2;rw[FL]
  by_cases c1:M=0
  ·subst c1
   by_cases c2:E=0
   ·subst c2
    go_enter func92,ntmps92
    go_wp2
    go_ret
    exact⟨rfl,af _ _⟩
   ·have e2:(E==0)=false:=by simpa using c2
    rw[e2]
    go_enter func92,ntmps92
    go_wp2
    go_ret
    exact⟨rfl,af _ _⟩
  ·have e1:(M==0)=false:=by simpa using c1
   rw[e1]
   go_enter func92,ntmps92
   go_wp2
   go_ret
   exact⟨rfl,af _ _⟩
 ·rw[FM a h1 h2]
  have e0:(K==0)=false:=by simpa using a
  have e1:(K==1)=false:=by simpa using h1
  have e2:(K==2)=false:=by simpa using h2
  go_enter func92,ntmps92
  go_wp2
  go_ret
  exact⟨rfl,af _ _⟩
theorem ae.of4{w w1:World}{g:Nat}{T:TypeId}{a0 a1 a2 a3 v0 v1 v2 v3:Value}(X:Bo w g #[a0,a1,a2,a3] T)(h:(((w.setCell ⟨g,0,none⟩ v0).setCell ⟨g,1,none⟩ v1).setCell ⟨g,2,none⟩ v2).setCell ⟨g,3,none⟩ v3=w1):ae w w1 g #[a0,a1,a2,a3] #[v0,v1,v2,v3] T:=h▸ae.mk4 X v0 v1 v2 v3
theorem ae.t4{w:World}{g:Nat}{T:TypeId}{a b c d:Value}(X:Bo w g #[a,b,c,d] T)(K:Int)(s:Bool)(M E:Int):ae w ((((w.setCell ⟨g,0,none⟩ (.int .i64 K)).setCell ⟨g,1,none⟩ (.bool s)).setCell ⟨g,2,none⟩ (.int .u64 M)).setCell ⟨g,3,none⟩ (.int .i64 E)) g #[a,b,c,d] #[.int .i64 K,.bool s,.int .u64 M,.int .i64 E] T:=ae.mk4 X _ _ _ _
set_option linter.unusedSimpArgs false
set_option maxRecDepth 100000
def PN (w:World)(r:Int)(e:Ending)(w':World):Prop:=∃D s M E,e= .returned (.agg #[.int .i64 D,.bool s,.int .u64 M,.int .i64 E])/\Fq D s M E r/\Below w.heap.size w w'
theorem Fq.three{D:Int}{s:Bool}{M E r:Int}(h:Fq D s M E r):(D=0/\r=0)\/(D≠0/\s=false/\0 < r)\/(D≠0/\s=true/\r < 0):=by
 rcases h.cases with⟨rfl,rfl,rfl,rfl,b⟩ | ⟨rfl,h1,h2,c,h4,⟨rfl,a⟩ | ⟨rfl,a⟩⟩ | ⟨rfl,rfl,rfl,⟨rfl,a⟩ | ⟨rfl,a⟩⟩
 ·exact Or.inl ⟨rfl,b⟩
 ·exact Or.inr (Or.inl ⟨by decide,rfl,by omega⟩)
 ·exact Or.inr (Or.inr ⟨by decide,rfl,by omega⟩)
 ·exact Or.inr (Or.inl ⟨by decide,rfl,by omega⟩)
 ·exact Or.inr (Or.inr ⟨by decide,rfl,by omega⟩)
theorem mn{w:World}{D M E:Int}{s:Bool}{r:Int}(hM:LQ M)(hr:rk D s M E=r):Calls prog 108 #[VQ D s M E] w (PN w r):=by
 delta VQ
 by_cases hm:aC D s M E
 ·have k:=eU hM hm;rw[hr]at k
  have j:=ie (show decide (aC D s M E)=true from dt hm)
  clear hm hr hM
  go_enter func108,ntmps108
  go_upto_region 1 with (fail)
  generalize d:(w.alloc _).alloc _=w1 at *;obtain⟨f,c,g⟩:=Bo.en2 d;clear d;have a:=f.cell
  go_wp2_with fail
  refine(kI j.out).mono ?_;rintro l m ⟨rfl,B⟩;clear a;replace f:=f.b B;replace c:=c.b B;replace g:=aa g B;clear B;have h:=c.cell;have e:=c.frozen;have a:=f.cell;go_wp2;clear h e a;have i:=ae.t4 c D s M E
  exact bq (by simp[results,results108,go_sem,i.box.cell]) rfl ⟨D,s,M,E,rfl,k,(i.below g.out (by omega))⟩
 ·rw[fs hm]at hr;subst hr
  have j:=ie (show decide (aC D s M E)=false from df hm)
  clear hm hM
  go_enter func108,ntmps108
  go_upto_region 1 with (fail)
  generalize d:(w.alloc _).alloc _=w1 at *;obtain⟨f,c,g⟩:=Bo.en2 d;clear d;have a:=f.cell
  go_wp2_with fail
  refine(kI j.out).mono ?_;rintro l m ⟨rfl,B⟩;clear a;replace f:=f.b B;replace c:=c.b B;replace g:=aa g B;clear B;have h:=c.cell;have e:=c.frozen;have a:=f.cell;go_wp2;clear h e a;have i:=ae.t4 c 0 false 0 0
  exact bq (by simp[results,results108,go_sem,i.box.cell]) rfl ⟨_,_,_,_,rfl,Fq.nought,(i.below g.out (by omega))⟩
theorem iQ{w:World}{s:Bool}{r:Int}(hr:aj s TP=r):Calls prog 79 #[.bool s] w (PN w r):=by
 go_enter func79,ntmps79
 go_upto_region 1 with (fail)
 generalize a:w.alloc _=w1 at *;obtain⟨c,f⟩:=Bo.en1 a;clear a;have d:=c.cell;have b:=c.frozen;go_wp2;clear d b;have e:=ae.t4 c 2 s 0 0;exact bq (v:= .agg #[.int .i64 2,.bool s,.int .u64 0,.int .i64 0]) (by simp[results,results79,go_sem,e.box.cell]) rfl ⟨_,_,_,_,rfl,hr▸Fq.inf s,(e.below f.out (by omega))⟩
theorem nT{w:World}{s:Bool}:Calls prog 256 #[.bool s] w (fun e w'=>e= .returned (.agg #[.int .i64 1,.bool s,.int .u64 9223372036854775808,.int .i64 (-1048576)])/\Below w.heap.size w w'):=by
 go_enter func256,ntmps256
 go_upto_region 1 with (fail)
 generalize a:w.alloc _=w1 at *;obtain⟨c,g⟩:=Bo.en1 a;clear a;have d:=c.cell;have b:=c.frozen;go_wp2;clear d b;have f:=ae.t4 c 1 s 9223372036854775808 (-1048576);exact bq (v:= .agg #[.int .i64 1,.bool s,.int .u64 9223372036854775808,.int .i64 (-1048576)]) (by simp[results,results256,go_sem,f.box.cell]) rfl ⟨rfl,(f.below g.out (by omega))⟩
theorem nH{w:World}{s:Bool}:Calls prog 269 #[.bool s] w (fun e w'=>e= .returned (.agg #[.int .i64 1,.bool s,.int .u64 18446744073709551615,.int .i64 1048576])/\Below w.heap.size w w'):=by
 go_enter func269,ntmps269
 go_upto_region 1 with (fail)
 generalize a:w.alloc _=w1 at *;obtain⟨c,g⟩:=Bo.en1 a;clear a;have d:=c.cell;have b:=c.frozen;go_wp2;clear d b;have f:=ae.t4 c 1 s 18446744073709551615 1048576;exact bq (v:= .agg #[.int .i64 1,.bool s,.int .u64 18446744073709551615,.int .i64 1048576]) (by simp[results,results269,go_sem,f.box.cell]) rfl ⟨rfl,(f.below g.out (by omega))⟩
theorem dm{w:World}{D M E:Int}{s:Bool}{σ:Int}(hM:LQ M)(hs:ag (rk D s M E) 0=σ):Calls prog 38 #[VQ D s M E] w (PI w σ):=by
 delta VQ
 obtain⟨r,d⟩:∃r,rk D s M E=r:=⟨_,rfl⟩;rw[d]at hs;have n:=ie d;have j:=ie hs;clear d hs
 go_enter func38,ntmps38
 go_upto_region 1 with (fail)
 generalize g:w.alloc _=w1 at *;obtain⟨c,e⟩:=Bo.en1 g;clear g;have a:=c.cell
 go_wp2_with fail
 refine(mn hM n.out).mono ?_;rintro t o ⟨l,s1,q,p,rfl,i,B⟩;clear a;replace c:=c.b B;replace e:=aa e B;clear B;have a:=c.cell;have h:=c.frozen
 go_upto_region 2 with (fail)
 clear a h;generalize m:(((o.setCell _ _).setCell _ _).setCell _ _).setCell _ _=u at *;have k:=ae.of4 c m;replace e:=bn e k (by omega);replace c:=k.box;clear k m
 rcases i.three with⟨f,d⟩ | ⟨f,h1,d⟩ | ⟨f,h1,d⟩
 ·subst f;have hs:=j.out;rw[aW d]at hs;subst hs;clear i;have a:=c.cell;go_wp2
  go_ret
  exact⟨by first | rfl | simp_all,e.out⟩
 ·have e0:(l==0)=false:=by simpa using f
  have hs:=j.out;rw[az d]at hs;subst hs;subst h1;clear i;have a:=c.cell;go_wp2
  go_ret
  exact⟨by first | rfl | simp_all,e.out⟩
 ·have e0:(l==0)=false:=by simpa using f
  have hs:=j.out;rw[aq d]at hs;subst hs;subst h1;clear i;have a:=c.cell;go_wp2
  go_ret
  exact⟨by first | rfl | simp_all,e.out⟩
theorem xv{w:World}{D M E:Int}{s:Bool}{r:Int}(hM:LQ M)(hr: -rk D s M E=r):Calls prog 36 #[VQ D s M E] w (PN w r):=by
 delta VQ
 obtain⟨x,hx⟩:∃x,rk D s M E=x:=⟨_,rfl⟩;rw[hx]at hr;have t:=ie hx;subst hr;clear hx
 go_enter func36,ntmps36
 go_upto_region 1 with (fail)
 generalize j:(w.alloc _).alloc _=w1 at *;obtain⟨d,e,h⟩:=Bo.en2 j;clear j;have a:=d.cell
 go_wp2_with fail
 refine(mn hM t.out).mono ?_;rintro y v ⟨k,s1,m,l,rfl,o,B⟩;clear a;replace d:=d.b B;replace e:=e.b B;replace h:=aa h B;clear B;have a:=d.cell;have f:=d.frozen
 go_upto_region 2 with (fail)
 clear a f;generalize q:(((v.setCell _ _).setCell _ _).setCell _ _).setCell _ _=p at *;have c:=ae.of4 d q;replace e:=e.s c;replace h:=bn h c (by omega);replace d:=c.box;clear c q
 by_cases n:k=0
 ·subst n;have hz:=o.zero_iff.1 rfl;subst hz;have i:=e.cell;have g:=e.frozen;have a:=d.cell;go_wp2;clear i g a;have c:=ae.t4 e 0 s1 m l;exact bq (by simp[results,results36,go_sem,c.box.cell]) rfl ⟨_,_,_,_,rfl,o,(c.below h.out (by omega))⟩
 ·have e0:(k==0)=false:=by simpa using n
  have u:=sK o n;have a:=d.cell;have f:=d.frozen
  go_upto_region 4 with (fail)
  clear a f
  have c:ae p (World.setCell p ⟨w.heap.size,1,none⟩ (.bool (!s1))) _ _ #[.int .i64 k,.bool (!s1),.int .u64 m,.int .i64 l] _:=ae.at4 d 1 (.bool (!s1))
  replace e:=e.s c;replace h:=bn h c (by omega);replace d:=c.box;clear c;generalize World.setCell p ⟨w.heap.size,1,none⟩ (.bool (!s1))=z at *;have i:=e.cell;have g:=e.frozen;have a:=d.cell;go_wp2;clear i g a;have c:=ae.t4 e k (!s1) m l
  exact bq (by simp[results,results36,go_sem,c.box.cell]) rfl ⟨_,_,_,_,rfl,u,(c.below h.out (by omega))⟩
theorem kO{w:World}{D M E:Int}{s:Bool}{r:Int}(hM:LQ M)(hr:rk D s M E=r):Calls prog 163 #[VQ D s M E] w (PN w r):=by
 delta VQ
 by_cases hm:aC D s M E
 ·have k:=eU hM hm;rw[hr]at k
  have j:=ie (show decide (aC D s M E)=true from dt hm)
  clear hm hr hM
  go_enter func163,ntmps163
  go_upto_region 1 with (fail)
  generalize d:(w.alloc _).alloc _=w1 at *;obtain⟨f,c,g⟩:=Bo.en2 d;clear d;have a:=f.cell
  go_wp2_with fail
  refine(gV j.out).mono ?_;rintro l m ⟨rfl,B⟩;clear a;replace f:=f.b B;replace c:=c.b B;replace g:=aa g B;clear B;have h:=c.cell;have e:=c.frozen;have a:=f.cell;go_wp2;clear h e a;have i:=ae.t4 c D s M E
  exact bq (by simp[results,results163,go_sem,i.box.cell]) rfl ⟨D,s,M,E,rfl,k,(i.below g.out (by omega))⟩
 ·rw[fs hm]at hr;subst hr
  have j:=ie (show decide (aC D s M E)=false from df hm)
  clear hm hM
  go_enter func163,ntmps163
  go_upto_region 1 with (fail)
  generalize d:(w.alloc _).alloc _=w1 at *;obtain⟨f,c,g⟩:=Bo.en2 d;clear d;have a:=f.cell
  go_wp2_with fail
  refine(gV j.out).mono ?_;rintro l m ⟨rfl,B⟩;clear a;replace f:=f.b B;replace c:=c.b B;replace g:=aa g B;clear B;have h:=c.cell;have e:=c.frozen;have a:=f.cell;go_wp2;clear h e a;have i:=ae.t4 c 0 false 0 0
  exact bq (by simp[results,results163,go_sem,i.box.cell]) rfl ⟨_,_,_,_,rfl,Fq.nought,(i.below g.out (by omega))⟩
theorem nA{w:World}{s:Bool}{r:Int}(hr:aj s TP=r):Calls prog 168 #[.bool s] w (PN w r):=by
 go_enter func168,ntmps168
 go_upto_region 1 with (fail)
 generalize a:w.alloc _=w1 at *;obtain⟨c,f⟩:=Bo.en1 a;clear a;have d:=c.cell;have b:=c.frozen;go_wp2;clear d b;have e:=ae.t4 c 2 s 0 0;exact bq (v:= .agg #[.int .i64 2,.bool s,.int .u64 0,.int .i64 0]) (by simp[results,results168,go_sem,e.box.cell]) rfl ⟨_,_,_,_,rfl,hr▸Fq.inf s,(e.below f.out (by omega))⟩
theorem vU{w:World}{D M E:Int}{s:Bool}{σ:Int}(hM:LQ M)(hs:ag (rk D s M E) 0=σ):Calls prog 85 #[VQ D s M E] w (PI w σ):=by
 delta VQ
 obtain⟨r,a⟩:∃r,rk D s M E=r:=⟨_,rfl⟩;rw[a]at hs;have n:=ie a;have h:=ie hs;clear a hs
 go_enter func85,ntmps85
 go_upto_region 1 with (fail)
 generalize d:w.alloc _=w1 at *;obtain⟨o,b⟩:=Bo.en1 d;clear d;have j:=o.cell
 go_wp2_with fail
 refine(kO hM n.out).mono ?_;rintro u m ⟨l,s1,t,q,rfl,g,B⟩;clear j;replace b:=aa b B;clear B
 go_upto_region 2 with (fail)
 have p:=Nat.le_refl (World.heap m).size;generalize e:m.alloc _=v at *;obtain⟨i,k⟩:=Bo.nw e;clear e;replace b:=aa b k;clear k
 rcases g.three with⟨c,a⟩ | ⟨c,h1,a⟩ | ⟨c,h1,a⟩
 ·subst c;have hs:=h.out;rw[aW a]at hs;subst hs;clear g;have f:=i.cell;go_wp2
  go_ret
  exact⟨by first | rfl | simp_all,b.out⟩
 ·have e0:(l==0)=false:=by simpa using c
  have hs:=h.out;rw[az a]at hs;subst hs;subst h1;clear g;have f:=i.cell;go_wp2
  go_ret
  exact⟨by first | rfl | simp_all,b.out⟩
 ·have e0:(l==0)=false:=by simpa using c
  have hs:=h.out;rw[aq a]at hs;subst hs;subst h1;clear g;have f:=i.cell;go_wp2
  go_ret
  exact⟨by first | rfl | simp_all,b.out⟩
theorem Iq{w:World}{D M E:Int}{s:Bool}{r:Int}(hM:LQ M)(hr: -rk D s M E=r):Calls prog 88 #[VQ D s M E] w (PN w r):=by
 delta VQ
 obtain⟨x,hx⟩:∃x,rk D s M E=x:=⟨_,rfl⟩;rw[hx]at hr;have z:=ie hx;subst hr;clear hx
 go_enter func88,ntmps88
 go_upto_region 1 with (fail)
 generalize i:(w.alloc _).alloc _=w1 at *;obtain⟨A,a,f⟩:=Bo.en2 i;clear i;have y:=A.cell
 go_wp2_with fail
 refine(kO hM z.out).mono ?_;rintro G m ⟨l,s1,p,o,rfl,u,B⟩;clear y;replace a:=a.b B;replace f:=aa f B;clear B
 go_upto_region 2 with (fail)
 have C:=Nat.le_refl (World.heap m).size;have t:=a.lt;generalize j:m.alloc _=v at *;obtain⟨h,n⟩:=Bo.nw j;clear j;replace a:=a.b n;replace f:=aa f n;clear n
 by_cases q:l=0
 ·subst q;have hz:=u.zero_iff.1 rfl;subst hz;have g:=a.cell;have d:=a.frozen;have c:=h.cell;go_wp2;clear g d c;have e:=ae.t4 a 0 s1 p o;exact bq (by simp[results,results88,go_sem,e.box.cell]) rfl ⟨_,_,_,_,rfl,u,(e.below f.out (by omega))⟩
 ·have e0:(l==0)=false:=by simpa using q
  have F:=sK u q;have c:=h.cell;have k:=h.frozen
  go_upto_region 4 with (fail)
  clear c k
  have e:ae v (World.setCell v ⟨m.heap.size,1,none⟩ (.bool (!s1))) _ _ #[.int .i64 l,.bool (!s1),.int .u64 p,.int .i64 o] _:=ae.at4 h 1 (.bool (!s1))
  replace a:=a.s e;replace f:=bn f e (by omega);replace h:=e.box;clear e;generalize World.setCell v ⟨m.heap.size,1,none⟩ (.bool (!s1))=H at *;have g:=a.cell;have d:=a.frozen;have c:=h.cell;go_wp2;clear g d c;have e:=ae.t4 a l (!s1) p o
  exact bq (by simp[results,results88,go_sem,e.box.cell]) rfl ⟨_,_,_,_,rfl,F,(e.below f.out (by omega))⟩
theorem m8 (x y:Int)(w:World):Calls prog 181 #[.int .u64 x,.int .u64 y] w fun e w'=>e= .returned (.int .i64 (ag x y))/\w=w':=by
 go_enter func181,ntmps181
 go_wp2
 all_goals go_ret
 ·exact⟨ao (aq (by assumption)).symm,rfl⟩
 ·exact⟨ao (az (by assumption)).symm,rfl⟩
 ·exact⟨ao (aW (by omega)).symm,rfl⟩
theorem CM{x y z:Int}(w:World)(h:ag x y=z):Calls prog 110 #[.int .i64 x,.int .i64 y] w (PI w z):=by
 subst h;refine(fS x y w).mono ?_;rintro e w' ⟨rfl,rfl⟩;exact⟨rfl,Below.refl _ _⟩
theorem Jw{x y z:Int}(w:World)(h:ag x y=z):Calls prog 181 #[.int .u64 x,.int .u64 y] w (PI w z):=by
 subst h;refine(m8 x y w).mono ?_;rintro e w' ⟨rfl,rfl⟩;exact⟨rfl,Below.refl _ _⟩
theorem J4{w:World}{D D' M M' E E':Int}{s s':Bool}{r:Int}(hr:fa D M E D' M' E'=r):Calls prog 111 #[VQ D s M E,VQ D' s' M' E'] w (PI w r):=by
 delta VQ
 unfold fa at hr
 by_cases i:D≠D'
 ·rw[if_pos i]at hr
  have e0:(D==D')=false:=by simpa using i
  have j:=ie hr;clear hr i
  go_enter func111,ntmps111
  go_upto_region 1 with (fail)
  generalize a:(w.alloc _).alloc _=w1 at *;obtain⟨f,g,c⟩:=Bo.en2 a;clear a;have d:=f.cell;have e:=g.cell
  go_wp2_with fail
  refine(CM _ j.out).mono ?_;rintro k l ⟨rfl,B⟩;clear d e;replace f:=f.b B;replace g:=g.b B;replace c:=aa c B;clear B;go_wp2
  go_ret
  exact⟨rfl,c.out⟩
 ·rw[if_neg i]at hr
  obtain rfl:D=D':=Decidable.not_not.1 i
  clear i
  by_cases h:E≠E'
  ·rw[if_pos h]at hr
   have e0:(E==E')=false:=by simpa using h
   have j:=ie hr;clear hr h
   go_enter func111,ntmps111
   go_upto_region 1 with (fail)
   generalize a:(w.alloc _).alloc _=w1 at *;obtain⟨f,g,c⟩:=Bo.en2 a;clear a;have d:=f.cell;have e:=g.cell
   go_wp2_with fail
   refine(CM _ j.out).mono ?_;rintro k l ⟨rfl,B⟩;clear d e;replace f:=f.b B;replace g:=g.b B;replace c:=aa c B;clear B;go_wp2
   go_ret
   exact⟨rfl,c.out⟩
  ·rw[if_neg h]at hr
   obtain rfl:E=E':=Decidable.not_not.1 h
   have j:=ie hr;clear hr h
   go_enter func111,ntmps111
   go_upto_region 1 with (fail)
   generalize a:(w.alloc _).alloc _=w1 at *;obtain⟨f,g,c⟩:=Bo.en2 a;clear a;have d:=f.cell;have e:=g.cell
   go_wp2_with fail
   refine(Jw _ j.out).mono ?_;rintro k l ⟨rfl,B⟩;clear d e;replace c:=aa c B;clear B;go_wp2
   go_ret
   exact⟨rfl,c.out⟩
theorem j5{w:World}{D D' M M' E E':Int}{s s':Bool}{z:Int}(hM:LQ M)(hM':LQ M')(hz:ag (rk D s M E) (rk D' s' M' E')=z):Calls prog 40 #[VQ D s M E,VQ D' s' M' E'] w (PI w z):=by
 delta VQ
 have hs:=pP (x:=rk D s M E) (y:=rk D' s' M' E');have i:=Dt (K:=D) (s:=s) (E:=E) (K':=D') (s':=s') (E':=E') hM hM';have o:=IP D M E D' M' E';have p:=fB (rk D s M E) 0
 revert hs i o p
 generalize v:ag (rk D s M E) 0=σ;generalize A:ag (rk D' s' M' E') 0=τ;generalize C:fa D M E D' M' E'=φ;rw[hz]
 intro hs i o p
 have r:=ie v;have t:=ie A;have F:=ie C;clear v A C hz
 by_cases m:σ≠τ
 ·have e0:(σ==τ)=false:=by simpa using m
  have u:=ie (hs m);clear hs i m o p
  go_enter func40,ntmps40
  go_upto_region 1 with (fail)
  generalize e:(w.alloc _).alloc _=w1 at *;obtain⟨f,g,d⟩:=Bo.en2 e;clear e;refine jk [0,1,2,3,4,5] [some 7,some 8,some 9,some 10,some 5,some 6] [[],[0],[],[2],[1],[3]] 6 0 [Jo.q4 D s M E,Jo.qi σ,Jo.q4 D' s' M' E',Jo.qi τ,Jo.qi σ,Jo.qi τ] ?_ ?_
  ·refine jm ?_ ?_;rotate_left
   refine jm ?_ ?_
   ·rintro n a _ rfl K c;simp only[Jo.z]at c|-;go_simp;refine(dm hM r.out).mono ?_;rintro l q ⟨rfl,B⟩;exact c.out _ _ rfl B
   refine jm ?_ ?_;rotate_left
   refine jm ?_ ?_
   ·rintro n a _ rfl K c;simp only[Jo.z]at c|-;go_simp;refine(dm hM' t.out).mono ?_;rintro l q ⟨rfl,B⟩;exact c.out _ _ rfl B
   iterate 2 (refine jm ?_ ?_;rotate_left)
   exact jo
   all_goals (rintro n a;(repeat rintro _ rfl);intro K c;simp only[Jo.z]at c|-;have j:=(f.b a).cell;have k:=(g.b a).cell;go_simp;exact c.out _ _ rfl (br _ _))
  rintro H a _ rfl _ rfl _ rfl _ rfl _ rfl _ rfl -;simp only[Jo.z];replace f:=f.b a;replace g:=g.b a;replace d:=aa d a;refine jd ?_
  go_wp2_with fail
  refine(CM _ u.out).mono ?_;rintro l I ⟨rfl,B⟩;replace f:=f.b B;replace g:=g.b B;replace d:=aa d B;clear B;go_wp2
  go_ret
  exact⟨rfl,d.out⟩
 ·obtain rfl:σ=τ:=Decidable.not_not.1 m
  have u:=ie (i rfl)
  have G:Hid (IntKind.i64.wrap (σ*φ)=z):=ie (by
   rw[i rfl];refine IntWalk.i64_in _ ?_;rw[<-i rfl]
   rcases (show σ= -1\/σ=0\/σ=1 by omega)with h | h | h <;> rw[h] <;> omega)
  clear hs i m o p
  go_enter func40,ntmps40
  go_upto_region 1 with (fail)
  generalize e:(w.alloc _).alloc _=w1 at *;obtain⟨f,g,d⟩:=Bo.en2 e;clear e;refine jk [0,1,2,3,4,5] [some 7,some 8,some 9,some 10,some 5,some 6] [[],[0],[],[2],[1],[3]] 6 0 [Jo.q4 D s M E,Jo.qi σ,Jo.q4 D' s' M' E',Jo.qi σ,Jo.qi σ,Jo.qi σ] ?_ ?_
  ·refine jm ?_ ?_;rotate_left
   refine jm ?_ ?_
   ·rintro n a _ rfl K c;simp only[Jo.z]at c|-;go_simp;refine(dm hM r.out).mono ?_;rintro l q ⟨rfl,B⟩;exact c.out _ _ rfl B
   refine jm ?_ ?_;rotate_left
   refine jm ?_ ?_
   ·rintro n a _ rfl K c;simp only[Jo.z]at c|-;go_simp;refine(dm hM' t.out).mono ?_;rintro l q ⟨rfl,B⟩;exact c.out _ _ rfl B
   iterate 2 (refine jm ?_ ?_;rotate_left)
   exact jo
   all_goals (rintro n a;(repeat rintro _ rfl);intro K c;simp only[Jo.z]at c|-;have j:=(f.b a).cell;have k:=(g.b a).cell;go_simp;exact c.out _ _ rfl (br _ _))
  rintro H a _ rfl _ rfl _ rfl _ rfl _ rfl _ rfl -;simp only[Jo.z];replace f:=f.b a;replace g:=g.b a;replace d:=aa d a;refine jd ?_;have j:=f.cell;have k:=g.cell
  go_wp2_with fail
  refine(J4 F.out).mono ?_;rintro l I ⟨rfl,B⟩;clear j k;replace d:=aa d B;clear B;have J:=G.out;go_wp2
  go_ret
  exact⟨rfl,d.out⟩
theorem mT{w:World}{D D' M M' E E':Int}{s s':Bool}{z:Int}(hM:LQ M)(hM':LQ M')(hz:ag (rk D s M E) (rk D' s' M' E')=z):Calls prog 151 #[VQ D s M E,VQ D' s' M' E'] w (PI w z):=by
 delta VQ
 obtain⟨r,T⟩:∃r,rk D s M E=r:=⟨_,rfl⟩;obtain⟨r',n⟩:∃r,rk D' s' M' E'=r:=⟨_,rfl⟩;rw[T,n]at hz;have hs:=pP (x:=r) (y:=r');obtain⟨σ,G⟩:∃x,ag r 0=x:=⟨_,rfl⟩;obtain⟨τ,V⟩:∃x,ag r' 0=x:=⟨_,rfl⟩;rw[G,V,hz]at hs;have m:=ie G;have C:=ie V;have HR:=ie T
 have P:=ie n
 have H:=ie hz;have HQ:=ie hs;clear T n G V hz hs
 go_enter func151,ntmps151
 go_upto_region 1 with (fail)
 generalize F:(w.alloc _).alloc _=w1 at *;obtain⟨X1,u,a⟩:=Bo.en2 F;clear F;have bA:=X1.cell
 go_wp2_with fail
 refine(kO hM HR.out).mono ?_;rintro S w2 ⟨K1,s1,R,t,rfl,j,B⟩;clear bA;replace u:=u.b B;replace a:=aa a B;clear B
 go_upto_region 2 with (fail)
 have Y:=u.lt;generalize i:w2.alloc _=w3 at *;obtain⟨d,l⟩:=Bo.nw i;clear i;replace u:=u.b l;replace a:=aa a l;clear l;have bB:=u.cell
 go_wp2_with fail
 refine(kO hM' P.out).mono ?_;rintro S w4 ⟨K2,s2,M2,E2,rfl,k,B⟩;clear bB;replace d:=d.b B;replace a:=aa a B;clear B
 go_upto_region 3 with (fail)
 have Z:=d.lt;generalize i:w4.alloc _=w5 at *;obtain⟨h,l⟩:=Bo.nw i;clear i;replace d:=d.b l;replace a:=aa a l;clear l;have p:=m.out;rw[<-j.rk]at p;have q:=C.out;rw[<-k.rk]at q;have v:=ie p;have A:=ie q;clear p q;have f:=d.cell
 go_wp2_with fail
 refine(vU j.top v.out).mono ?_;rintro S w6 ⟨rfl,B⟩;clear f;replace d:=d.b B;replace h:=h.b B;replace a:=aa a B;clear B;have g:=h.cell
 go_wp2_with fail
 refine(vU k.top A.out).mono ?_;rintro S w7 ⟨rfl,B⟩;clear g;replace d:=d.b B;replace h:=h.b B;replace a:=aa a B;clear B;clear v A
 by_cases O:σ≠τ
 ·have e0:(σ==τ)=false:=by simpa using O
  have h1:=HQ.out O
  rcases aO σ τ with⟨a1,a2⟩ | ⟨a1,a2⟩ | ⟨a1,a2⟩
  ·obtain rfl: -1=z:=a2.symm.trans h1
   go_wp2
   go_ret
   exact⟨rfl,a.out⟩
  ·exact absurd a1 O
  ·obtain rfl:1=z:=a2.symm.trans h1
   go_wp2
   go_ret
   exact⟨rfl,a.out⟩
 ·obtain rfl:σ=τ:=Decidable.not_not.1 O
  by_cases L:σ=0
  ·subst L
   obtain rfl:0=z:=by
    have h1:=dG.1 m.out;have h2:=dG.1 C.out;rw[<-H.out,h1,h2];rfl
   go_wp2
   go_ret
   exact⟨rfl,a.out⟩
  ·have e0:(σ==0)=false:=by simpa using L
   have W:K1≠0:=fun e=>L (by rw[<-m.out,j.zero_iff.1 e];rfl)
   have X:K2≠0:=fun e=>L (by rw[<-C.out,k.zero_iff.1 e];rfl)
   have U:s1=s2:=by
    have e1:=j.sign W;have e2:=k.sign X;rw[m.out]at e1;rw[C.out,e1]at e2
    cases s1 <;> cases s2 <;> first | rfl | exact absurd e2 (by decide)
   subst U;have c:=Ft j k W X;rw[m.out,H.out]at c
   have G:σ= -1\/σ=1:=by
    have:=fB r 0
    rw[m.out]at this
    omega
   by_cases o:r=r'
   ·subst o;obtain⟨rfl,-,rfl,rfl⟩:=j.uniq k
    obtain rfl:0=z:=by rw[<-H.out,aW rfl]
    have f:=d.cell;have g:=h.cell;go_wp2
    go_ret
    exact⟨rfl,a.out⟩
   ·have Q:=iw (-σ);clear G
    unfold fa at c
    clear m C HQ H
    rcases j.plc W with⟨rfl,h1,h2,h3,h4,N⟩ | ⟨rfl,rfl,rfl,N⟩ <;> rcases k.plc X with⟨rfl,g1,g2,g3,g4,g5⟩ | ⟨rfl,rfl,rfl,g5⟩
    ·rw[if_neg (by decide)]at c;clear h1 h2 h3 h4 N g1 g2 g3 g4 g5
     rcases aO t E2 with⟨a1,a2⟩ | ⟨a1,a2⟩ | ⟨a1,a2⟩
     ·rw[if_pos (by omega),a2]at c
      have e2:decide (E2 < t)=false:=df (by omega)
      have e3:(t==E2)=false:=by
       have:t≠E2:=by omega
       simpa using this
      obtain rfl: -σ=z:=by omega
      have hw:=Q.out;clear c;have f:=d.cell;have g:=h.cell;go_wp2
      go_ret
      exact⟨rfl,a.out⟩
     ·obtain rfl:t=E2:=a1
      rw[if_neg (by simp)]at c
      rcases aO R M2 with⟨I,J⟩ | ⟨I,J⟩ | ⟨I,J⟩
      ·rw[J]at c
       have e2:decide (M2 < R)=false:=df (by omega)
       obtain rfl: -σ=z:=by omega
       have hw:=Q.out;clear c;have f:=d.cell;have g:=h.cell;go_wp2
       go_ret
       exact⟨rfl,a.out⟩
      ·exact absurd (j.2.2.symm.trans (I▸k.2.2)) o
      ·rw[J]at c
       have e2:decide (M2 < R)=true:=dt I
       rw[Int.mul_one]at c;subst c;have f:=d.cell;have g:=h.cell;go_wp2
       go_ret
       exact⟨rfl,a.out⟩
     ·rw[if_pos (by omega),a2]at c
      have e2:decide (E2 < t)=true:=dt a1
      rw[Int.mul_one]at c;subst c;have f:=d.cell;have g:=h.cell;go_wp2
      go_ret
      exact⟨rfl,a.out⟩
    ·rw[if_pos (by decide),aq (by decide)]at c;clear h1 h2 h3 h4 N g5
     obtain rfl: -σ=z:=by omega
     have hw:=Q.out;clear c;have f:=d.cell;have g:=h.cell;go_wp2
     go_ret
     exact⟨rfl,a.out⟩
    ·rw[if_pos (by decide),az (by decide)]at c;clear g1 g2 g3 g4 g5 N;rw[Int.mul_one]at c;subst c;have f:=d.cell;have g:=h.cell;go_wp2
     go_ret
     exact⟨rfl,a.out⟩
    ·exact absurd (j.2.2.symm.trans k.2.2) o
