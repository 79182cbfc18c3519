/-
 Contracts that the proof rests on.
-/
import Derived.Deep.RegionHeld3
import Derived.Test.YteigedaefgmojaaGreatDoorYQai
namespace Go.Proofs.YteigedaefgmojaaGreatDoor
open Go.Proofs.Tryz
set_option maxHeartbeats 2000000
open Go.RowKit
set_option linter.unusedVariables false
theorem mS{x y q r:Int}(hy:y≠0)(h:r+y*q=x)(hp:0 < y->0<=r/\r < y)(hn:y < 0->y < r/\r<=0):q=x.fdiv y/\r=x.fmod y:=by
 rcases Int.lt_or_gt_of_ne hy with a | a
 ·have:=(Int.fdiv_fmod_unique' (q:=q) (r:=r) a).2 ⟨h,hn a⟩
  exact⟨this.1.symm,this.2.symm⟩
 ·have:=(Int.fdiv_fmod_unique (q:=q) (r:=r) a).2 ⟨h,hp a⟩
  exact⟨this.1.symm,this.2.symm⟩
theorem jz{a b:Nat}(hb:b≠0):(b:Int)*((a/b:Nat):Int)+((a%b:Nat):Int)=a/\a%b < b:=by
 refine⟨?_,Nat.mod_lt _ (by omega)⟩
 have:=Nat.div_add_mod a b
 exact_mod_cast this
theorem iK (s:Bool){a b:Nat}(hb:b≠0):sg false (a/b)=(sg s a).fdiv (sg s b)/\sg s (a%b)=(sg s a).fmod (sg s b):=by
 obtain⟨e,hl⟩:=jz (a:=a) hb
 revert e hl
 generalize a/b=D;generalize a%b=M
 intro e hl
 apply mS <;> cases s <;> simp[sg,Int.neg_mul] <;> omega
theorem gN (s t:Bool)(hst:(s==t)=false){a b:Nat}(hb:b≠0)(h2:a%b=0):sg true (a/b)=(sg s a).fdiv (sg t b)/\sg t 0=(sg s a).fmod (sg t b):=by
 obtain⟨e,hl⟩:=jz (a:=a) hb;rw[h2]at e hl
 revert e hl
 generalize a/b=D
 intro e hl
 apply mS <;> revert hst <;> cases s <;> cases t <;> simp[sg,Int.neg_mul,Int.mul_neg] <;> omega
theorem iJ (s t:Bool)(hst:(s==t)=false){a b:Nat}(hb:b≠0)(h2:a%b≠0):sg true (a/b+1)=(sg s a).fdiv (sg t b)/\sg t (b-a%b)=(sg s a).fmod (sg t b):=by
 obtain⟨e,hl⟩:=jz (a:=a) hb
 revert e hl h2
 generalize a/b=D;generalize a%b=M
 intro e h2 hl
 have e1:(b:Int)*((D:Int)+1)=b*D+b:=by rw[Int.mul_add,Int.mul_one]
 have e2:((b-M:Nat):Int)=b-M:=by omega
 apply mS <;> revert hst <;> cases s <;> cases t <;> simp[sg,e2,Int.neg_mul,Int.mul_neg,Int.mul_add] <;> omega
def W3 (w:World)(K:Nat)(q r:Int)(e:Ending)(w':World):Prop:=∃s1 A1 n1 c1 s2 A2 n2 c2,e= .returned (.tuple #[.agg #[.bool s1,.slice A1 n1 c1],.agg #[.bool s2,.slice A2 n2 c2],.bool true])/\Wn w' s1 A1 n1 c1 q/\Wn w' s2 A2 n2 c2 r/\n1<=K/\n2<=K/\Below w.heap.size w w'
theorem vH (s:Bool){w:World}{A B:Option Addr}{n c m d a b:Nat}(h:Rd w A n c a)(k:Rd w B m d b)(hn:n<=1073741824)(hm:m<=1073741824)(h0:b≠0):
  Calls prog 195 #[.agg #[.bool s,.slice A n c],.agg #[.bool s,.slice B m d]] w (W3 w (n+m+2) (sg false (a/b)) (sg s (a%b))):=by
 have hq:(s==s)=true:=by simp
 go_enter func195,ntmps195
 go_wp2_with (first
  | (go_at_call 229;((with_reducible refine(Dt (h.below (iF _ _ _ _ _)) (k.below (iF _ _ _ _ _)) hn h0).mono ?_);rintro e w1 ⟨A1,n1,c1,A2,n2,c2,rfl,h1,h2,G,H,j⟩;obtain⟨z,hf⟩:=aQ j)))
 have i:Bx w1 (w.heap.size+1) s B m d:=(((Bx.newAt _ (by simp) s B m d).below (ab _ _)).below (ab _ _)).below j
 have f:Bx w1 (w.heap.size+1+1) false none 0 0:=((Bx.newAt _ (by simp) false none 0 0).below (ab _ _)).below j
 have g:Bx w1 (w.heap.size+1+1+1) false none 0 0:=(Bx.newAt _ (by simp) false none 0 0).below j
 have p:=Lib.hid (bt (iF _ _ _ _ _) j);clear j z hf;have r:=i.cell0
 go_region_held3 (fun w'=>w'.cell? ⟨w.heap.size+1,0,none⟩=some (.bool s)) (first | with_reducible exact r | with_reducible exact i.cell0 | with_reducible exact i.drew.cell0 | with_reducible exact(i.far (Nat.ne_of_lt (Nat.lt_succ_self _)) _ _).cell0 | with_reducible exact((i.far (Nat.ne_of_lt (Nat.lt_succ_self _)) _ _).far (Nat.ne_of_lt (Nat.lt_succ_of_lt (Nat.lt_succ_self _))) _ _).cell0)
  (first
   | (go_at_call 179;((with_reducible refine(dV _ h1.drew).mono ?_);rintro e L ⟨s3,A3,n3,c3,rfl,q,I,l⟩;replace h2:=h2.drew.below l;replace i:=i.drew.below l;replace f:=f.drew.below l;replace g:=g.drew.below l;replace p:=Lib.hid (bt p.out.drew l);clear l))
   | (go_at_call 179;((with_reducible refine(dV _ h2).mono ?_);rintro e M ⟨s4,A4,n4,c4,rfl,h4,J,o⟩;replace q:=q.below o;replace i:=i.below o;replace f:=f.below o;replace g:=g.below o;replace p:=Lib.hid (bt p.out o);clear o;have C:=f.cell0;have D:=f.cell1;have E:=g.cell0;have F:=g.cell1;have t:=f.frozen 0;have u:=f.frozen 1;have x:=g.frozen 0;have y:=g.frozen 1)))
 go_wp2
 exact bodyPost_ret (v:= .tuple #[.agg #[.bool s3,.slice A3 n3 c3],.agg #[.bool s4,.slice A4 n4 c4],.bool true]) (by simp[results,results195,go_sem,f.cell0,f.cell1,g.cell0,g.cell1]) rfl
  ⟨s3,A3,n3,c3,s4,A4,n4,c4,rfl,(q.st f _ _).st (g.far (by omega) _ _) _ _,(h4.st f _ _).st (g.far (by omega) _ _) _ _,by omega,by omega,fW (fW p.out (by omega) _ _) (by omega) _ _⟩
theorem vI (s t:Bool)(hst:(s==t)=false){w:World}{A B:Option Addr}{n c m d a b:Nat}(h:Rd w A n c a)(k:Rd w B m d b)(hn:n<=1073741824)(hm:m<=1073741824)(h0:b≠0)(h2':a%b=0):
  Calls prog 195 #[.agg #[.bool s,.slice A n c],.agg #[.bool t,.slice B m d]] w (W3 w (n+m+2) (sg true (a/b)) (sg t 0)):=by
 have u:=Lib.hid h2';clear h2'
 go_enter func195,ntmps195
 go_wp2_with (first
  | (go_at_call 229;((with_reducible refine(Dt (h.below (iF _ _ _ _ _)) (k.below (iF _ _ _ _ _)) hn h0).mono ?_);rintro e w1 ⟨A1,n1,c1,A2,n2,c2,rfl,h1,h2,I,J,j⟩;obtain⟨D,hf⟩:=aQ j;rw[u.out]at h2;obtain rfl:n2=0:=by have:=h2.pos;omega)))
 have i:Bx w1 (w.heap.size+1) t B m d:=(((Bx.newAt _ (by simp) t B m d).below (ab _ _)).below (ab _ _)).below j
 have f:Bx w1 (w.heap.size+1+1) false none 0 0:=((Bx.newAt _ (by simp) false none 0 0).below (ab _ _)).below j
 have g:Bx w1 (w.heap.size+1+1+1) false none 0 0:=(Bx.newAt _ (by simp) false none 0 0).below j
 have p:=Lib.hid (bt (iF _ _ _ _ _) j);clear j D hf;have r:=i.cell0
 go_region_held3 (fun w'=>w'.cell? ⟨w.heap.size+1,0,none⟩=some (.bool t)) (first | with_reducible exact r | with_reducible exact i.cell0 | with_reducible exact i.drew.cell0 | with_reducible exact(i.far (Nat.ne_of_lt (Nat.lt_succ_self _)) _ _).cell0 | with_reducible exact((i.far (Nat.ne_of_lt (Nat.lt_succ_self _)) _ _).far (Nat.ne_of_lt (Nat.lt_succ_of_lt (Nat.lt_succ_self _))) _ _).cell0)
  (first
   | (go_at_call 179;((with_reducible refine(dV _ h1.drew).mono ?_);rintro e N ⟨s3,A3,n3,c3,rfl,q,L,l⟩;replace h2:=h2.drew.below l;replace i:=i.drew.below l;replace f:=f.drew.below l;replace g:=g.drew.below l;replace p:=Lib.hid (bt p.out.drew l);clear l))
   | (go_at_call 179;((with_reducible refine(dV _ h2).mono ?_);rintro e O ⟨s4,A4,n4,c4,rfl,h4,M,o⟩;replace q:=q.below o;replace i:=i.below o;replace f:=f.below o;replace g:=g.below o;replace p:=Lib.hid (bt p.out o);clear o;have E:=f.cell0;have F:=f.cell1;have G:=g.cell0;have H:=g.cell1;have x:=f.frozen 0;have y:=f.frozen 1;have z:=g.frozen 0;have C:=g.frozen 1)))
 go_wp2
 exact bodyPost_ret (v:= .tuple #[.agg #[.bool s3,.slice A3 n3 c3],.agg #[.bool s4,.slice A4 n4 c4],.bool true]) (by simp[results,results195,go_sem,f.cell0,f.cell1,g.cell0,g.cell1]) rfl
  ⟨s3,A3,n3,c3,s4,A4,n4,c4,rfl,(q.st f _ _).st (g.far (by omega) _ _) _ _,(h4.st f _ _).st (g.far (by omega) _ _) _ _,by omega,by omega,fW (fW p.out (by omega) _ _) (by omega) _ _⟩
theorem vG (s t:Bool)(hst:(s==t)=false){w:World}{A B:Option Addr}{n c m d a b:Nat}(h:Rd w A n c a)(k:Rd w B m d b)(hn:n<=1073741824)(hm:m<=1073741824)(h0:b≠0)(h2':a%b≠0):
  Calls prog 195 #[.agg #[.bool s,.slice A n c],.agg #[.bool t,.slice B m d]] w (W3 w (n+m+2) (sg true (a/b+1)) (sg t (b-a%b))):=by
 have D:=Lib.hid h2'
 have C:Hid (a%b<=b):=Lib.hid (Nat.le_of_lt (Nat.mod_lt _ (by omega)))
 clear h2'
 go_enter func195,ntmps195
 go_wp2_with (first
  | (go_at_call 229;((with_reducible refine(Dt (h.below (iF _ _ _ _ _)) (k.below (iF _ _ _ _ _)) hn h0).mono ?_);rintro e w1 ⟨A1,n1,c1,A2,n2,c2,rfl,h1,h2,Q,R,f⟩;obtain⟨r,hf⟩:=aQ f;have z:0 < n2:=by {have:=h2.pos;have:=D.out;omega}))
  | (go_at_call 221;((with_reducible refine(Ds (h1.rd.below (ab _ _)) (iz _) (by omega) (by omega)).mono ?_);rintro e L ⟨A3,n3,c3,rfl,o,I,x⟩;replace h2:=h2.below (bt (ab _ _) x);replace f:=bt f (bt (ab _ _) x);clear r hf x;obtain⟨r,hf⟩:=aQ f))
  | (go_at_call 222;((with_reducible refine(FV (k.below (bt (iF _ _ _ _ _) f)) h2.rd C.out).mono ?_);rintro e u ⟨A4,n4,c4,rfl,h4,J,j⟩;replace o:=o.below j;replace f:=bt f j;clear r hf j;obtain⟨r,hf⟩:=aQ f)))
 have l:Bx u (w.heap.size+1) t B m d:=(((Bx.newAt _ (by simp) t B m d).below (ab _ _)).below (ab _ _)).below f
 have g:Bx u (w.heap.size+1+1) false none 0 0:=((Bx.newAt _ (by simp) false none 0 0).below (ab _ _)).below f
 have i:Bx u (w.heap.size+1+1+1) false none 0 0:=(Bx.newAt _ (by simp) false none 0 0).below f
 have q:=Lib.hid (bt (iF _ _ _ _ _) f);clear f r hf h1 h2;have h1:=o;have h2:=h4;clear o h4;have y:=l.cell0
 go_region_held3 (fun w'=>w'.cell? ⟨w.heap.size+1,0,none⟩=some (.bool t)) (first | with_reducible exact y | with_reducible exact l.cell0 | with_reducible exact l.drew.cell0 | with_reducible exact(l.far (Nat.ne_of_lt (Nat.lt_succ_self _)) _ _).cell0 | with_reducible exact((l.far (Nat.ne_of_lt (Nat.lt_succ_self _)) _ _).far (Nat.ne_of_lt (Nat.lt_succ_of_lt (Nat.lt_succ_self _))) _ _).cell0)
  (first
   | (go_at_call 179;((with_reducible refine(dV _ h1.drew).mono ?_);rintro e L ⟨s3,A3,n3,c3,rfl,o,I,p⟩;replace h2:=h2.drew.below p;replace l:=l.drew.below p;replace g:=g.drew.below p;replace i:=i.drew.below p;replace q:=Lib.hid (bt q.out.drew p);clear p))
   | (go_at_call 179;((with_reducible refine(dV _ h2).mono ?_);rintro e u ⟨s4,A4,n4,c4,rfl,h4,J,j⟩;replace o:=o.below j;replace l:=l.below j;replace g:=g.below j;replace i:=i.below j;replace q:=Lib.hid (bt q.out j);clear j;have M:=g.cell0;have N:=g.cell1;have O:=i.cell0;have P:=i.cell1;have E:=g.frozen 0;have F:=g.frozen 1;have G:=i.frozen 0;have H:=i.frozen 1)))
 go_wp2
 exact bodyPost_ret (v:= .tuple #[.agg #[.bool s3,.slice A3 n3 c3],.agg #[.bool s4,.slice A4 n4 c4],.bool true]) (by simp[results,results195,go_sem,g.cell0,g.cell1,i.cell0,i.cell1]) rfl
  ⟨s3,A3,n3,c3,s4,A4,n4,c4,rfl,(o.st g _ _).st (i.far (by omega) _ _) _ _,(h4.st g _ _).st (i.far (by omega) _ _) _ _,by omega,by omega,fW (fW q.out (by omega) _ _) (by omega) _ _⟩
theorem F0{w:World}{A B:Option Addr}{n c m d:Nat}{s t:Bool}{x y q r:Int}(h:Wr w s A n c x)(k:Wr w t B m d y)(hn:n<=1073741824)(hm:m<=1073741824)(h0:y≠0)(hq:x.fdiv y=q)(hr:x.fmod y=r):
  Calls prog 195 #[.agg #[.bool s,.slice A n c],.agg #[.bool t,.slice B m d]] w (W3 w (n+m+2) q r):=by
 obtain⟨a,h,rfl⟩:=h;obtain⟨b,k,rfl⟩:=k
 have hb:b≠0:=by rintro rfl;exact h0 (eF _)
 subst hq;subst hr
 by_cases hs:s=t
 ·subst hs;rw[<-(iK s hb).1,<-(iK s hb).2];exact vH s h k hn hm hb
 ·have e:(s==t)=false:=by simpa using hs
  by_cases h2:a%b=0
  ·rw[<-(gN s t e hb h2).1,<-(gN s t e hb h2).2];exact vI s t e h k hn hm hb h2
  ·rw[<-(iJ s t e hb h2).1,<-(iJ s t e hb h2).2];exact vG s t e h k hn hm hb h2
theorem Wl.lit3{W:World}{g K:Nat}{s1 s2 s3:Bool}{A1 A2 A3:Option Addr}{n1 c1 n2 c2 n3 c3:Nat}{z1 z2 z3:Int}(hg:W.heap.size=g)
  (h1:Wr W s1 A1 n1 c1 z1) (h2:Wr W s2 A2 n2 c2 z2) (h3:Wr W s3 A3 n3 c3 z3) (k1:n1<=K) (k2:n2<=K) (k3:n3<=K):
  Wl (W.alloc (.cells #[.bool s1,.slice A1 n1 c1,.bool s2,.slice A2 n2 c2,.bool s3,.slice A3 n3 c3] 43)) (some ⟨g,0,none⟩) 3 3 K [z1,z2,z3]:=by
 subst hg;have hh:=heap_alloc_new W (.cells #[.bool s1,.slice A1 n1 c1,.bool s2,.slice A2 n2 c2,.bool s3,.slice A3 n3 c3] 43)
 refine⟨rfl,Nat.le_refl _,by decide,fun _=>⟨_,0,rfl,fun k hk=>?_⟩⟩
 rcases (by omega:k=0\/k=1\/k=2)with rfl | rfl | rfl
 ·exact⟨s1,A1,n1,c1,by rw[cell_of_row _ _ _ _ _ _ hh];rfl,by rw[cell_of_row _ _ _ _ _ _ hh];rfl,h1.below (ab _ _),k1⟩
 ·exact⟨s2,A2,n2,c2,by rw[cell_of_row _ _ _ _ _ _ hh];rfl,by rw[cell_of_row _ _ _ _ _ _ hh];rfl,h2.below (ab _ _),k2⟩
 ·exact⟨s3,A3,n3,c3,by rw[cell_of_row _ _ _ _ _ _ hh];rfl,by rw[cell_of_row _ _ _ _ _ _ hh];rfl,h3.below (ab _ _),k3⟩
theorem Wl.lit2{W:World}{g K:Nat}{s1 s2:Bool}{A1 A2:Option Addr}{n1 c1 n2 c2:Nat}{z1 z2:Int}(hg:W.heap.size=g)
  (h1:Wr W s1 A1 n1 c1 z1) (h2:Wr W s2 A2 n2 c2 z2) (k1:n1<=K) (k2:n2<=K):
  Wl (W.alloc (.cells #[.bool s1,.slice A1 n1 c1,.bool s2,.slice A2 n2 c2] 43)) (some ⟨g,0,none⟩) 2 2 K [z1,z2]:=by
 subst hg;have hh:=heap_alloc_new W (.cells #[.bool s1,.slice A1 n1 c1,.bool s2,.slice A2 n2 c2] 43)
 refine⟨rfl,Nat.le_refl _,by decide,fun _=>⟨_,0,rfl,fun k hk=>?_⟩⟩
 rcases (by omega:k=0\/k=1)with rfl | rfl
 ·exact⟨s1,A1,n1,c1,by rw[cell_of_row _ _ _ _ _ _ hh];rfl,by rw[cell_of_row _ _ _ _ _ _ hh];rfl,h1.below (ab _ _),k1⟩
 ·exact⟨s2,A2,n2,c2,by rw[cell_of_row _ _ _ _ _ _ hh];rfl,by rw[cell_of_row _ _ _ _ _ _ hh];rfl,h2.below (ab _ _),k2⟩
