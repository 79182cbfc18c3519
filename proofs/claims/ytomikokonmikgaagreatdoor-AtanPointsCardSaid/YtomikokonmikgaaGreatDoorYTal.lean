/-
 Contracts that the proof rests on.
-/
import Derived.Deep.RegionHeld3
import Derived.Test.YtomikokonmikgaaGreatDoorYTah
namespace Go.Proofs.YtomikokonmikgaaGreatDoor
open Go.Proofs.Tryz
set_option maxHeartbeats 2000000
open Go.RowKit
set_option linter.unusedVariables false
theorem oD{x y q r:Int}(hy:y≠0)(h:r+y*q=x)(hp:0 < y->0<=r/\r < y)(hn:y < 0->y < r/\r<=0):q=x.fdiv y/\r=x.fmod y:=by
 rcases Int.lt_or_gt_of_ne hy with a | a
 ·have:=(Int.fdiv_fmod_unique' (q:=q) (r:=r) a).2 ⟨h,hn a⟩
  exact⟨this.1.symm,this.2.symm⟩
 ·have:=(Int.fdiv_fmod_unique (q:=q) (r:=r) a).2 ⟨h,hp a⟩
  exact⟨this.1.symm,this.2.symm⟩
theorem kz{a b:Nat}(hb:b≠0):(b:Int)*((a/b:Nat):Int)+((a%b:Nat):Int)=a/\a%b < b:=by
 refine⟨?_,Nat.mod_lt _ (by omega)⟩
 have:=Nat.div_add_mod a b
 exact_mod_cast this
theorem jT (s:Bool){a b:Nat}(hb:b≠0):sg false (a/b)=(sg s a).fdiv (sg s b)/\sg s (a%b)=(sg s a).fmod (sg s b):=by
 obtain⟨e,hl⟩:=kz (a:=a) hb
 revert e hl
 generalize a/b=D;generalize a%b=M
 intro e hl
 apply oD <;> cases s <;> simp[sg,Int.neg_mul] <;> omega
theorem je (s t:Bool)(hst:(s==t)=false){a b:Nat}(hb:b≠0)(h2:a%b=0):sg true (a/b)=(sg s a).fdiv (sg t b)/\sg t 0=(sg s a).fmod (sg t b):=by
 obtain⟨e,hl⟩:=kz (a:=a) hb;rw[h2]at e hl
 revert e hl
 generalize a/b=D
 intro e hl
 apply oD <;> revert hst <;> cases s <;> cases t <;> simp[sg,Int.neg_mul,Int.mul_neg] <;> omega
theorem jS (s t:Bool)(hst:(s==t)=false){a b:Nat}(hb:b≠0)(h2:a%b≠0):sg true (a/b+1)=(sg s a).fdiv (sg t b)/\sg t (b-a%b)=(sg s a).fmod (sg t b):=by
 obtain⟨e,hl⟩:=kz (a:=a) hb
 revert e hl h2
 generalize a/b=D;generalize a%b=M
 intro e h2 hl
 have e1:(b:Int)*((D:Int)+1)=b*D+b:=by rw[Int.mul_add,Int.mul_one]
 have e2:((b-M:Nat):Int)=b-M:=by omega
 apply oD <;> revert hst <;> cases s <;> cases t <;> simp[sg,e2,Int.neg_mul,Int.mul_neg,Int.mul_add] <;> omega
def W3 (w:World)(K:Nat)(q r:Int)(e:Ending)(w':World):Prop:=∃s1 A1 n1 c1 s2 A2 n2 c2,e= .returned (.tuple #[.agg #[.bool s1,.slice A1 n1 c1],.agg #[.bool s2,.slice A2 n2 c2],.bool true])/\Wn w' s1 A1 n1 c1 q/\Wn w' s2 A2 n2 c2 r/\n1<=K/\n2<=K/\Below w.heap.size w w'
theorem xZ (s:Bool){w:World}{A B:Option Addr}{n c m d a b:Nat}(h:Rd w A n c a)(k:Rd w B m d b)(hn:n<=1073741824)(hm:m<=1073741824)(h0:b≠0):
  Calls prog 125 #[.agg #[.bool s,.slice A n c],.agg #[.bool s,.slice B m d]] w (W3 w (n+m+2) (sg false (a/b)) (sg s (a%b))):=by
 have hq:(s==s)=true:=by simp
 go_enter func125,ntmps125
 go_wp2_with (first
  | (go_at_call 190;((with_reducible refine(Fc (h.below (jP _ _ _ _ _)) (k.below (jP _ _ _ _ _)) hn h0).mono ?_);rintro e w1 ⟨A1,n1,c1,A2,n2,c2,rfl,h1,h2,H,I,j⟩;obtain⟨z,C⟩:=bz j)))
 have i:Bx w1 (w.heap.size+1) s B m d:=(((Bx.newAt _ (by simp) s B m d).below (af _ _)).below (af _ _)).below j
 have f:Bx w1 (w.heap.size+1+1) false none 0 0:=((Bx.newAt _ (by simp) false none 0 0).below (af _ _)).below j
 have g:Bx w1 (w.heap.size+1+1+1) false none 0 0:=(Bx.newAt _ (by simp) false none 0 0).below j
 have p:=Lib.hid (bt (jP _ _ _ _ _) j);clear j z C;have r:=i.cell0
 go_region_held3 (fun w'=>w'.cell? ⟨w.heap.size+1,0,none⟩=some (.bool s)) (first | with_reducible exact r | with_reducible exact i.cell0 | with_reducible exact i.drew.cell0 | with_reducible exact(i.far (Nat.ne_of_lt (Nat.lt_succ_self _)) _ _).cell0 | with_reducible exact((i.far (Nat.ne_of_lt (Nat.lt_succ_self _)) _ _).far (Nat.ne_of_lt (Nat.lt_succ_of_lt (Nat.lt_succ_self _))) _ _).cell0)
  (first
   | (go_at_call 121;((with_reducible refine(eX _ h1.drew).mono ?_);rintro e M ⟨s3,A3,n3,c3,rfl,q,J,l⟩;replace h2:=h2.drew.below l;replace i:=i.drew.below l;replace f:=f.drew.below l;replace g:=g.drew.below l;replace p:=Lib.hid (bt p.out.drew l);clear l))
   | (go_at_call 121;((with_reducible refine(eX _ h2).mono ?_);rintro e N ⟨s4,A4,n4,c4,rfl,h4,L,o⟩;replace q:=q.below o;replace i:=i.below o;replace f:=f.below o;replace g:=g.below o;replace p:=Lib.hid (bt p.out o);clear o;have D:=f.cell0;have E:=f.cell1;have F:=g.cell0;have G:=g.cell1;have t:=f.frozen 0;have u:=f.frozen 1;have x:=g.frozen 0;have y:=g.frozen 1)))
 go_wp2
 exact bodyPost_ret (v:= .tuple #[.agg #[.bool s3,.slice A3 n3 c3],.agg #[.bool s4,.slice A4 n4 c4],.bool true]) (by simp[results,results125,go_sem,f.cell0,f.cell1,g.cell0,g.cell1]) rfl
  ⟨s3,A3,n3,c3,s4,A4,n4,c4,rfl,(q.st f _ _).st (g.far (by omega) _ _) _ _,(h4.st f _ _).st (g.far (by omega) _ _) _ _,by omega,by omega,st2 (st2 p.out (by omega) _ _) (by omega) _ _⟩
theorem x9 (s t:Bool)(hst:(s==t)=false){w:World}{A B:Option Addr}{n c m d a b:Nat}(h:Rd w A n c a)(k:Rd w B m d b)(hn:n<=1073741824)(hm:m<=1073741824)(h0:b≠0)(h2':a%b=0):
  Calls prog 125 #[.agg #[.bool s,.slice A n c],.agg #[.bool t,.slice B m d]] w (W3 w (n+m+2) (sg true (a/b)) (sg t 0)):=by
 have u:=Lib.hid h2';clear h2'
 go_enter func125,ntmps125
 go_wp2_with (first
  | (go_at_call 190;((with_reducible refine(Fc (h.below (jP _ _ _ _ _)) (k.below (jP _ _ _ _ _)) hn h0).mono ?_);rintro e w1 ⟨A1,n1,c1,A2,n2,c2,rfl,h1,h2,J,L,j⟩;obtain⟨D,E⟩:=bz j;rw[u.out]at h2;obtain rfl:n2=0:=by have:=h2.pos;omega)))
 have i:Bx w1 (w.heap.size+1) t B m d:=(((Bx.newAt _ (by simp) t B m d).below (af _ _)).below (af _ _)).below j
 have f:Bx w1 (w.heap.size+1+1) false none 0 0:=((Bx.newAt _ (by simp) false none 0 0).below (af _ _)).below j
 have g:Bx w1 (w.heap.size+1+1+1) false none 0 0:=(Bx.newAt _ (by simp) false none 0 0).below j
 have p:=Lib.hid (bt (jP _ _ _ _ _) j);clear j D E;have r:=i.cell0
 go_region_held3 (fun w'=>w'.cell? ⟨w.heap.size+1,0,none⟩=some (.bool t)) (first | with_reducible exact r | with_reducible exact i.cell0 | with_reducible exact i.drew.cell0 | with_reducible exact(i.far (Nat.ne_of_lt (Nat.lt_succ_self _)) _ _).cell0 | with_reducible exact((i.far (Nat.ne_of_lt (Nat.lt_succ_self _)) _ _).far (Nat.ne_of_lt (Nat.lt_succ_of_lt (Nat.lt_succ_self _))) _ _).cell0)
  (first
   | (go_at_call 121;((with_reducible refine(eX _ h1.drew).mono ?_);rintro e O ⟨s3,A3,n3,c3,rfl,q,M,l⟩;replace h2:=h2.drew.below l;replace i:=i.drew.below l;replace f:=f.drew.below l;replace g:=g.drew.below l;replace p:=Lib.hid (bt p.out.drew l);clear l))
   | (go_at_call 121;((with_reducible refine(eX _ h2).mono ?_);rintro e P ⟨s4,A4,n4,c4,rfl,h4,N,o⟩;replace q:=q.below o;replace i:=i.below o;replace f:=f.below o;replace g:=g.below o;replace p:=Lib.hid (bt p.out o);clear o;have F:=f.cell0;have G:=f.cell1;have H:=g.cell0;have I:=g.cell1;have x:=f.frozen 0;have y:=f.frozen 1;have z:=g.frozen 0;have C:=g.frozen 1)))
 go_wp2
 exact bodyPost_ret (v:= .tuple #[.agg #[.bool s3,.slice A3 n3 c3],.agg #[.bool s4,.slice A4 n4 c4],.bool true]) (by simp[results,results125,go_sem,f.cell0,f.cell1,g.cell0,g.cell1]) rfl
  ⟨s3,A3,n3,c3,s4,A4,n4,c4,rfl,(q.st f _ _).st (g.far (by omega) _ _) _ _,(h4.st f _ _).st (g.far (by omega) _ _) _ _,by omega,by omega,st2 (st2 p.out (by omega) _ _) (by omega) _ _⟩
theorem xY (s t:Bool)(hst:(s==t)=false){w:World}{A B:Option Addr}{n c m d a b:Nat}(h:Rd w A n c a)(k:Rd w B m d b)(hn:n<=1073741824)(hm:m<=1073741824)(h0:b≠0)(h2':a%b≠0):
  Calls prog 125 #[.agg #[.bool s,.slice A n c],.agg #[.bool t,.slice B m d]] w (W3 w (n+m+2) (sg true (a/b+1)) (sg t (b-a%b))):=by
 have E:=Lib.hid h2'
 have D:Hid (a%b<=b):=Lib.hid (Nat.le_of_lt (Nat.mod_lt _ (by omega)))
 clear h2'
 go_enter func125,ntmps125
 go_wp2_with (first
  | (go_at_call 190;((with_reducible refine(Fc (h.below (jP _ _ _ _ _)) (k.below (jP _ _ _ _ _)) hn h0).mono ?_);rintro e w1 ⟨A1,n1,c1,A2,n2,c2,rfl,h1,h2,R,S,f⟩;obtain⟨r,u⟩:=bz f;have C:0 < n2:=by {have:=h2.pos;have:=E.out;omega}))
  | (go_at_call 191;((with_reducible refine(Fb (h1.rd.below (af _ _)) (jF _) (by omega) (by omega)).mono ?_);rintro e M ⟨A3,n3,c3,rfl,o,J,y⟩;replace h2:=h2.below (bt (af _ _) y);replace f:=bt f (bt (af _ _) y);clear r u y;obtain⟨r,u⟩:=bz f))
  | (go_at_call 192;((with_reducible refine(Ie (k.below (bt (jP _ _ _ _ _) f)) h2.rd D.out).mono ?_);rintro e x ⟨A4,n4,c4,rfl,h4,L,j⟩;replace o:=o.below j;replace f:=bt f j;clear r u j;obtain⟨r,u⟩:=bz f)))
 have l:Bx x (w.heap.size+1) t B m d:=(((Bx.newAt _ (by simp) t B m d).below (af _ _)).below (af _ _)).below f
 have g:Bx x (w.heap.size+1+1) false none 0 0:=((Bx.newAt _ (by simp) false none 0 0).below (af _ _)).below f
 have i:Bx x (w.heap.size+1+1+1) false none 0 0:=(Bx.newAt _ (by simp) false none 0 0).below f
 have q:=Lib.hid (bt (jP _ _ _ _ _) f);clear f r u h1 h2;have h1:=o;have h2:=h4;clear o h4;have z:=l.cell0
 go_region_held3 (fun w'=>w'.cell? ⟨w.heap.size+1,0,none⟩=some (.bool t)) (first | with_reducible exact z | with_reducible exact l.cell0 | with_reducible exact l.drew.cell0 | with_reducible exact(l.far (Nat.ne_of_lt (Nat.lt_succ_self _)) _ _).cell0 | with_reducible exact((l.far (Nat.ne_of_lt (Nat.lt_succ_self _)) _ _).far (Nat.ne_of_lt (Nat.lt_succ_of_lt (Nat.lt_succ_self _))) _ _).cell0)
  (first
   | (go_at_call 121;((with_reducible refine(eX _ h1.drew).mono ?_);rintro e M ⟨s3,A3,n3,c3,rfl,o,J,p⟩;replace h2:=h2.drew.below p;replace l:=l.drew.below p;replace g:=g.drew.below p;replace i:=i.drew.below p;replace q:=Lib.hid (bt q.out.drew p);clear p))
   | (go_at_call 121;((with_reducible refine(eX _ h2).mono ?_);rintro e x ⟨s4,A4,n4,c4,rfl,h4,L,j⟩;replace o:=o.below j;replace l:=l.below j;replace g:=g.below j;replace i:=i.below j;replace q:=Lib.hid (bt q.out j);clear j;have N:=g.cell0;have O:=g.cell1;have P:=i.cell0;have Q:=i.cell1;have F:=g.frozen 0;have G:=g.frozen 1;have H:=i.frozen 0;have I:=i.frozen 1)))
 go_wp2
 exact bodyPost_ret (v:= .tuple #[.agg #[.bool s3,.slice A3 n3 c3],.agg #[.bool s4,.slice A4 n4 c4],.bool true]) (by simp[results,results125,go_sem,g.cell0,g.cell1,i.cell0,i.cell1]) rfl
  ⟨s3,A3,n3,c3,s4,A4,n4,c4,rfl,(o.st g _ _).st (i.far (by omega) _ _) _ _,(h4.st g _ _).st (i.far (by omega) _ _) _ _,by omega,by omega,st2 (st2 q.out (by omega) _ _) (by omega) _ _⟩
theorem JD{w:World}{A B:Option Addr}{n c m d:Nat}{s t:Bool}{x y q r:Int}(h:Wr w s A n c x)(k:Wr w t B m d y)(hn:n<=1073741824)(hm:m<=1073741824)(h0:y≠0)(hq:x.fdiv y=q)(hr:x.fmod y=r):
  Calls prog 125 #[.agg #[.bool s,.slice A n c],.agg #[.bool t,.slice B m d]] w (W3 w (n+m+2) q r):=by
 obtain⟨a,h,rfl⟩:=h;obtain⟨b,k,rfl⟩:=k
 have hb:b≠0:=by rintro rfl;exact h0 (fE _)
 subst hq;subst hr
 by_cases hs:s=t
 ·subst hs;rw[<-(jT s hb).1,<-(jT s hb).2];exact xZ s h k hn hm hb
 ·have e:(s==t)=false:=by simpa using hs
  by_cases h2:a%b=0
  ·rw[<-(je s t e hb h2).1,<-(je s t e hb h2).2];exact x9 s t e h k hn hm hb h2
  ·rw[<-(jS s t e hb h2).1,<-(jS s t e hb h2).2];exact xY s t e h k hn hm hb h2
theorem Wl.lit3{W:World}{g K:Nat}{s1 s2 s3:Bool}{A1 A2 A3:Option Addr}{n1 c1 n2 c2 n3 c3:Nat}{z1 z2 z3:Int}(hg:W.heap.size=g)
  (h1:Wr W s1 A1 n1 c1 z1) (h2:Wr W s2 A2 n2 c2 z2) (h3:Wr W s3 A3 n3 c3 z3) (k1:n1<=K) (k2:n2<=K) (k3:n3<=K):
  Wl (W.alloc (.cells #[.bool s1,.slice A1 n1 c1,.bool s2,.slice A2 n2 c2,.bool s3,.slice A3 n3 c3] 27)) (some ⟨g,0,none⟩) 3 3 K [z1,z2,z3]:=by
 subst hg;have hh:=heap_alloc_new W (.cells #[.bool s1,.slice A1 n1 c1,.bool s2,.slice A2 n2 c2,.bool s3,.slice A3 n3 c3] 27)
 refine⟨rfl,Nat.le_refl _,by decide,fun _=>⟨_,0,rfl,fun k hk=>?_⟩⟩
 rcases (by omega:k=0\/k=1\/k=2)with rfl | rfl | rfl
 ·exact⟨s1,A1,n1,c1,by rw[cell_of_row _ _ _ _ _ _ hh];rfl,by rw[cell_of_row _ _ _ _ _ _ hh];rfl,h1.below (af _ _),k1⟩
 ·exact⟨s2,A2,n2,c2,by rw[cell_of_row _ _ _ _ _ _ hh];rfl,by rw[cell_of_row _ _ _ _ _ _ hh];rfl,h2.below (af _ _),k2⟩
 ·exact⟨s3,A3,n3,c3,by rw[cell_of_row _ _ _ _ _ _ hh];rfl,by rw[cell_of_row _ _ _ _ _ _ hh];rfl,h3.below (af _ _),k3⟩
theorem Wl.lit2{W:World}{g K:Nat}{s1 s2:Bool}{A1 A2:Option Addr}{n1 c1 n2 c2:Nat}{z1 z2:Int}(hg:W.heap.size=g)
  (h1:Wr W s1 A1 n1 c1 z1) (h2:Wr W s2 A2 n2 c2 z2) (k1:n1<=K) (k2:n2<=K):
  Wl (W.alloc (.cells #[.bool s1,.slice A1 n1 c1,.bool s2,.slice A2 n2 c2] 27)) (some ⟨g,0,none⟩) 2 2 K [z1,z2]:=by
 subst hg;have hh:=heap_alloc_new W (.cells #[.bool s1,.slice A1 n1 c1,.bool s2,.slice A2 n2 c2] 27)
 refine⟨rfl,Nat.le_refl _,by decide,fun _=>⟨_,0,rfl,fun k hk=>?_⟩⟩
 rcases (by omega:k=0\/k=1)with rfl | rfl
 ·exact⟨s1,A1,n1,c1,by rw[cell_of_row _ _ _ _ _ _ hh];rfl,by rw[cell_of_row _ _ _ _ _ _ hh];rfl,h1.below (af _ _),k1⟩
 ·exact⟨s2,A2,n2,c2,by rw[cell_of_row _ _ _ _ _ _ hh];rfl,by rw[cell_of_row _ _ _ _ _ _ hh];rfl,h2.below (af _ _),k2⟩
