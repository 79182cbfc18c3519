/-
 Contracts that the proof rests on.
-/
import Derived.Deep.RegionHeld3
import Derived.Test.YtomikokonmikgaaGreatDoorYBah
namespace Go.Proofs.YtomikokonmikgaaGreatDoor
set_option maxHeartbeats 2000000
open Go.RowKit
set_option linter.unusedVariables false
theorem div_un{x y q r:Int}(hy:y≠0)(h:r+y*q=x)(hp:0 < y->0<=r/\r < y)(hn:y < 0->y < r/\r<=0):q=x.fdiv y/\r=x.fmod y:=by
 rcases Int.lt_or_gt_of_ne hy with h0 | h0
 ·have:=(Int.fdiv_fmod_unique' (q:=q) (r:=r) h0).2 ⟨h,hn h0⟩
  exact⟨this.1.symm,this.2.symm⟩
 ·have:=(Int.fdiv_fmod_unique (q:=q) (r:=r) h0).2 ⟨h,hp h0⟩
  exact⟨this.1.symm,this.2.symm⟩
theorem div_parts{a b:Nat}(hb:b≠0):(b:Int)*((a/b:Nat):Int)+((a%b:Nat):Int)=a/\a%b < b:=by
 refine⟨?_,Nat.mod_lt _ (by omega)⟩
 have:=Nat.div_add_mod a b
 exact_mod_cast this
theorem div_same (s:Bool){a b:Nat}(hb:b≠0):sg false (a/b)=(sg s a).fdiv (sg s b)/\sg s (a%b)=(sg s a).fmod (sg s b):=by
 obtain⟨e,hl⟩:=div_parts (a:=a) hb
 revert e hl
 generalize a/b=D;generalize a%b=M
 intro e hl
 apply div_un <;> cases s <;> simp[sg,Int.neg_mul] <;> omega
theorem div_zero' (s t:Bool)(hst:(s==t)=false){a b:Nat}(hb:b≠0)(h2:a%b=0):sg true (a/b)=(sg s a).fdiv (sg t b)/\sg t 0=(sg s a).fmod (sg t b):=by
 obtain⟨e,hl⟩:=div_parts (a:=a) hb;rw[h2]at e hl
 revert e hl
 generalize a/b=D
 intro e hl
 apply div_un <;> revert hst <;> cases s <;> cases t <;> simp[sg,Int.neg_mul,Int.mul_neg] <;> omega
theorem div_left (s t:Bool)(hst:(s==t)=false){a b:Nat}(hb:b≠0)(h2:a%b≠0):sg true (a/b+1)=(sg s a).fdiv (sg t b)/\sg t (b-a%b)=(sg s a).fmod (sg t b):=by
 obtain⟨e,hl⟩:=div_parts (a:=a) hb
 revert e hl h2
 generalize a/b=D;generalize a%b=M
 intro e h2 hl
 have e1:(b:Int)*((D:Int)+1)=b*D+b:=by rw[Int.mul_add,Int.mul_one]
 have e2:((b-M:Nat):Int)=b-M:=by omega
 apply div_un <;> revert hst <;> cases s <;> cases t <;> simp[sg,e2,Int.neg_mul,Int.mul_neg,Int.mul_add] <;> omega
def W3 (w:World)(K:Nat)(q r:Int)(e:Ending)(w':World):Prop:=∃s1 A1 n1 c1 s2 A2 n2 c2,e= .returned (.tuple #[.agg #[.bool s1,.slice A1 n1 c1],.agg #[.bool s2,.slice A2 n2 c2],.bool true])/\Wn w' s1 A1 n1 c1 q/\Wn w' s2 A2 n2 c2 r/\n1<=K/\n2<=K/\Below w.heap.size w w'
theorem wDiv_same (s:Bool){w:World}{A B:Option Addr}{n c m d a b:Nat}(h:Rd w A n c a)(k:Rd w B m d b)(hn:n<=1073741824)(hm:m<=1073741824)(h0:b≠0):
  Calls Tryz.prog 125 #[.agg #[.bool s,.slice A n c],.agg #[.bool s,.slice B m d]] w (W3 w (n+m+2) (sg false (a/b)) (sg s (a%b))):=by
 have hq:(s==s)=true:=by simp
 go_enter Tryz.func125,Tryz.ntmps125
 go_wp2_with (first
  | (go_at_call 190;((with_reducible refine(vDiv (h.below (bel4 _ _ _ _ _)) (k.below (bel4 _ _ _ _ _)) hn h0).mono ?_);rintro e w1 ⟨A1,n1,c1,A2,n2,c2,rfl,h1,h2,k1,k2,B1⟩;obtain⟨hc,hf⟩:=bcell B1)))
 have X2:Bx w1 (w.heap.size+1) s B m d:=(((Bx.newAt _ (by simp) s B m d).below (bel1 _ _)).below (bel1 _ _)).below B1
 have X3:Bx w1 (w.heap.size+1+1) false none 0 0:=((Bx.newAt _ (by simp) false none 0 0).below (bel1 _ _)).below B1
 have X4:Bx w1 (w.heap.size+1+1+1) false none 0 0:=(Bx.newAt _ (by simp) false none 0 0).below B1
 have HB:=Lib.hid (bt (bel4 _ _ _ _ _) B1);clear B1 hc hf;have x20:=X2.cell0
 go_region_held3 (fun w'=>w'.cell? ⟨w.heap.size+1,0,none⟩=some (.bool s)) (first | with_reducible exact x20 | with_reducible exact X2.cell0 | with_reducible exact X2.drew.cell0 | with_reducible exact(X2.far (Nat.ne_of_lt (Nat.lt_succ_self _)) _ _).cell0 | with_reducible exact((X2.far (Nat.ne_of_lt (Nat.lt_succ_self _)) _ _).far (Nat.ne_of_lt (Nat.lt_succ_of_lt (Nat.lt_succ_self _))) _ _).cell0)
  (first
   | (go_at_call 121;((with_reducible refine(wSigned _ h1.drew).mono ?_);rintro e w2 ⟨s3,A3,n3,c3,rfl,h3,k3,B3⟩;replace h2:=h2.drew.below B3;replace X2:=X2.drew.below B3;replace X3:=X3.drew.below B3;replace X4:=X4.drew.below B3;replace HB:=Lib.hid (bt HB.out.drew B3);clear B3))
   | (go_at_call 121;((with_reducible refine(wSigned _ h2).mono ?_);rintro e w4 ⟨s4,A4,n4,c4,rfl,h4,k4,B4⟩;replace h3:=h3.below B4;replace X2:=X2.below B4;replace X3:=X3.below B4;replace X4:=X4.below B4;replace HB:=Lib.hid (bt HB.out B4);clear B4;have y30:=X3.cell0;have y31:=X3.cell1;have y40:=X4.cell0;have y41:=X4.cell1;have f30:=X3.frozen 0;have f31:=X3.frozen 1;have f40:=X4.frozen 0;have f41:=X4.frozen 1)))
 go_wp2
 exact bodyPost_ret (v:= .tuple #[.agg #[.bool s3,.slice A3 n3 c3],.agg #[.bool s4,.slice A4 n4 c4],.bool true]) (by simp[results,Tryz.results125,go_sem,X3.cell0,X3.cell1,X4.cell0,X4.cell1]) rfl
  ⟨s3,A3,n3,c3,s4,A4,n4,c4,rfl,(h3.st X3 _ _).st (X4.far (by omega) _ _) _ _,(h4.st X3 _ _).st (X4.far (by omega) _ _) _ _,by omega,by omega,st2 (st2 HB.out (by omega) _ _) (by omega) _ _⟩
theorem wDiv_zero (s t:Bool)(hst:(s==t)=false){w:World}{A B:Option Addr}{n c m d a b:Nat}(h:Rd w A n c a)(k:Rd w B m d b)(hn:n<=1073741824)(hm:m<=1073741824)(h0:b≠0)(h2':a%b=0):
  Calls Tryz.prog 125 #[.agg #[.bool s,.slice A n c],.agg #[.bool t,.slice B m d]] w (W3 w (n+m+2) (sg true (a/b)) (sg t 0)):=by
 have HZ:=Lib.hid h2';clear h2'
 go_enter Tryz.func125,Tryz.ntmps125
 go_wp2_with (first
  | (go_at_call 190;((with_reducible refine(vDiv (h.below (bel4 _ _ _ _ _)) (k.below (bel4 _ _ _ _ _)) hn h0).mono ?_);rintro e w1 ⟨A1,n1,c1,A2,n2,c2,rfl,h1,h2,k1,k2,B1⟩;obtain⟨hc,hf⟩:=bcell B1;rw[HZ.out]at h2;obtain rfl:n2=0:=by have:=h2.pos;omega)))
 have X2:Bx w1 (w.heap.size+1) t B m d:=(((Bx.newAt _ (by simp) t B m d).below (bel1 _ _)).below (bel1 _ _)).below B1
 have X3:Bx w1 (w.heap.size+1+1) false none 0 0:=((Bx.newAt _ (by simp) false none 0 0).below (bel1 _ _)).below B1
 have X4:Bx w1 (w.heap.size+1+1+1) false none 0 0:=(Bx.newAt _ (by simp) false none 0 0).below B1
 have HB:=Lib.hid (bt (bel4 _ _ _ _ _) B1);clear B1 hc hf;have x20:=X2.cell0
 go_region_held3 (fun w'=>w'.cell? ⟨w.heap.size+1,0,none⟩=some (.bool t)) (first | with_reducible exact x20 | with_reducible exact X2.cell0 | with_reducible exact X2.drew.cell0 | with_reducible exact(X2.far (Nat.ne_of_lt (Nat.lt_succ_self _)) _ _).cell0 | with_reducible exact((X2.far (Nat.ne_of_lt (Nat.lt_succ_self _)) _ _).far (Nat.ne_of_lt (Nat.lt_succ_of_lt (Nat.lt_succ_self _))) _ _).cell0)
  (first
   | (go_at_call 121;((with_reducible refine(wSigned _ h1.drew).mono ?_);rintro e w2 ⟨s3,A3,n3,c3,rfl,h3,k3,B3⟩;replace h2:=h2.drew.below B3;replace X2:=X2.drew.below B3;replace X3:=X3.drew.below B3;replace X4:=X4.drew.below B3;replace HB:=Lib.hid (bt HB.out.drew B3);clear B3))
   | (go_at_call 121;((with_reducible refine(wSigned _ h2).mono ?_);rintro e w4 ⟨s4,A4,n4,c4,rfl,h4,k4,B4⟩;replace h3:=h3.below B4;replace X2:=X2.below B4;replace X3:=X3.below B4;replace X4:=X4.below B4;replace HB:=Lib.hid (bt HB.out B4);clear B4;have y30:=X3.cell0;have y31:=X3.cell1;have y40:=X4.cell0;have y41:=X4.cell1;have f30:=X3.frozen 0;have f31:=X3.frozen 1;have f40:=X4.frozen 0;have f41:=X4.frozen 1)))
 go_wp2
 exact bodyPost_ret (v:= .tuple #[.agg #[.bool s3,.slice A3 n3 c3],.agg #[.bool s4,.slice A4 n4 c4],.bool true]) (by simp[results,Tryz.results125,go_sem,X3.cell0,X3.cell1,X4.cell0,X4.cell1]) rfl
  ⟨s3,A3,n3,c3,s4,A4,n4,c4,rfl,(h3.st X3 _ _).st (X4.far (by omega) _ _) _ _,(h4.st X3 _ _).st (X4.far (by omega) _ _) _ _,by omega,by omega,st2 (st2 HB.out (by omega) _ _) (by omega) _ _⟩
theorem wDiv_left (s t:Bool)(hst:(s==t)=false){w:World}{A B:Option Addr}{n c m d a b:Nat}(h:Rd w A n c a)(k:Rd w B m d b)(hn:n<=1073741824)(hm:m<=1073741824)(h0:b≠0)(h2':a%b≠0):
  Calls Tryz.prog 125 #[.agg #[.bool s,.slice A n c],.agg #[.bool t,.slice B m d]] w (W3 w (n+m+2) (sg true (a/b+1)) (sg t (b-a%b))):=by
 have HZ:=Lib.hid h2'
 have HL:Hid (a%b<=b):=Lib.hid (Nat.le_of_lt (Nat.mod_lt _ (by omega)))
 clear h2'
 go_enter Tryz.func125,Tryz.ntmps125
 go_wp2_with (first
  | (go_at_call 190;((with_reducible refine(vDiv (h.below (bel4 _ _ _ _ _)) (k.below (bel4 _ _ _ _ _)) hn h0).mono ?_);rintro e w1 ⟨A1,n1,c1,A2,n2,c2,rfl,h1,h2,k1,k2,B1⟩;obtain⟨hc,hf⟩:=bcell B1;have hpos:0 < n2:=by {have:=h2.pos;have:=HZ.out;omega}))
  | (go_at_call 191;((with_reducible refine(vAdd (h1.rd.below (bel1 _ _)) (one_rd _) (by omega) (by omega)).mono ?_);rintro e w2 ⟨A3,n3,c3,rfl,h3,k3,B2⟩;replace h2:=h2.below (bt (bel1 _ _) B2);replace B1:=bt B1 (bt (bel1 _ _) B2);clear hc hf B2;obtain⟨hc,hf⟩:=bcell B1))
  | (go_at_call 192;((with_reducible refine(vSub (k.below (bt (bel4 _ _ _ _ _) B1)) h2.rd HL.out).mono ?_);rintro e w4 ⟨A4,n4,c4,rfl,h4,k4,B4⟩;replace h3:=h3.below B4;replace B1:=bt B1 B4;clear hc hf B4;obtain⟨hc,hf⟩:=bcell B1)))
 have X2:Bx w4 (w.heap.size+1) t B m d:=(((Bx.newAt _ (by simp) t B m d).below (bel1 _ _)).below (bel1 _ _)).below B1
 have X3:Bx w4 (w.heap.size+1+1) false none 0 0:=((Bx.newAt _ (by simp) false none 0 0).below (bel1 _ _)).below B1
 have X4:Bx w4 (w.heap.size+1+1+1) false none 0 0:=(Bx.newAt _ (by simp) false none 0 0).below B1
 have HB:=Lib.hid (bt (bel4 _ _ _ _ _) B1);clear B1 hc hf h1 h2;have h1:=h3;have h2:=h4;clear h3 h4;have x20:=X2.cell0
 go_region_held3 (fun w'=>w'.cell? ⟨w.heap.size+1,0,none⟩=some (.bool t)) (first | with_reducible exact x20 | with_reducible exact X2.cell0 | with_reducible exact X2.drew.cell0 | with_reducible exact(X2.far (Nat.ne_of_lt (Nat.lt_succ_self _)) _ _).cell0 | with_reducible exact((X2.far (Nat.ne_of_lt (Nat.lt_succ_self _)) _ _).far (Nat.ne_of_lt (Nat.lt_succ_of_lt (Nat.lt_succ_self _))) _ _).cell0)
  (first
   | (go_at_call 121;((with_reducible refine(wSigned _ h1.drew).mono ?_);rintro e w2 ⟨s3,A3,n3,c3,rfl,h3,k3,B3⟩;replace h2:=h2.drew.below B3;replace X2:=X2.drew.below B3;replace X3:=X3.drew.below B3;replace X4:=X4.drew.below B3;replace HB:=Lib.hid (bt HB.out.drew B3);clear B3))
   | (go_at_call 121;((with_reducible refine(wSigned _ h2).mono ?_);rintro e w4 ⟨s4,A4,n4,c4,rfl,h4,k4,B4⟩;replace h3:=h3.below B4;replace X2:=X2.below B4;replace X3:=X3.below B4;replace X4:=X4.below B4;replace HB:=Lib.hid (bt HB.out B4);clear B4;have y30:=X3.cell0;have y31:=X3.cell1;have y40:=X4.cell0;have y41:=X4.cell1;have f30:=X3.frozen 0;have f31:=X3.frozen 1;have f40:=X4.frozen 0;have f41:=X4.frozen 1)))
 go_wp2
 exact bodyPost_ret (v:= .tuple #[.agg #[.bool s3,.slice A3 n3 c3],.agg #[.bool s4,.slice A4 n4 c4],.bool true]) (by simp[results,Tryz.results125,go_sem,X3.cell0,X3.cell1,X4.cell0,X4.cell1]) rfl
  ⟨s3,A3,n3,c3,s4,A4,n4,c4,rfl,(h3.st X3 _ _).st (X4.far (by omega) _ _) _ _,(h4.st X3 _ _).st (X4.far (by omega) _ _) _ _,by omega,by omega,st2 (st2 HB.out (by omega) _ _) (by omega) _ _⟩
theorem wDiv{w:World}{A B:Option Addr}{n c m d:Nat}{s t:Bool}{x y q r:Int}(h:Wr w s A n c x)(k:Wr w t B m d y)(hn:n<=1073741824)(hm:m<=1073741824)(h0:y≠0)(hq:x.fdiv y=q)(hr:x.fmod y=r):
  Calls Tryz.prog 125 #[.agg #[.bool s,.slice A n c],.agg #[.bool t,.slice B m d]] w (W3 w (n+m+2) q r):=by
 obtain⟨a,h,rfl⟩:=h;obtain⟨b,k,rfl⟩:=k
 have hb:b≠0:=by rintro rfl;exact h0 (sg_zero _)
 subst hq;subst hr
 by_cases hs:s=t
 ·subst hs;rw[<-(div_same s hb).1,<-(div_same s hb).2];exact wDiv_same s h k hn hm hb
 ·have hst:(s==t)=false:=by simpa using hs
  by_cases h2:a%b=0
  ·rw[<-(div_zero' s t hst hb h2).1,<-(div_zero' s t hst hb h2).2];exact wDiv_zero s t hst h k hn hm hb h2
  ·rw[<-(div_left s t hst hb h2).1,<-(div_left s t hst hb h2).2];exact wDiv_left s t hst h k hn hm hb h2
theorem Wl.lit3{W:World}{g K:Nat}{s1 s2 s3:Bool}{A1 A2 A3:Option Addr}{n1 c1 n2 c2 n3 c3:Nat}{z1 z2 z3:Int}(hg:W.heap.size=g)
  (h1:Wr W s1 A1 n1 c1 z1) (h2:Wr W s2 A2 n2 c2 z2) (h3:Wr W s3 A3 n3 c3 z3) (k1:n1<=K) (k2:n2<=K) (k3:n3<=K):
  Wl (W.alloc (.cells #[.bool s1,.slice A1 n1 c1,.bool s2,.slice A2 n2 c2,.bool s3,.slice A3 n3 c3] 27)) (some ⟨g,0,none⟩) 3 3 K [z1,z2,z3]:=by
 subst hg;have hh:=heap_alloc_new W (.cells #[.bool s1,.slice A1 n1 c1,.bool s2,.slice A2 n2 c2,.bool s3,.slice A3 n3 c3] 27)
 refine⟨rfl,Nat.le_refl _,by decide,fun _=>⟨_,0,rfl,fun k hk=>?_⟩⟩
 rcases (by omega:k=0\/k=1\/k=2)with rfl | rfl | rfl
 ·exact⟨s1,A1,n1,c1,by rw[cell_of_row _ _ _ _ _ _ hh];rfl,by rw[cell_of_row _ _ _ _ _ _ hh];rfl,h1.below (bel1 _ _),k1⟩
 ·exact⟨s2,A2,n2,c2,by rw[cell_of_row _ _ _ _ _ _ hh];rfl,by rw[cell_of_row _ _ _ _ _ _ hh];rfl,h2.below (bel1 _ _),k2⟩
 ·exact⟨s3,A3,n3,c3,by rw[cell_of_row _ _ _ _ _ _ hh];rfl,by rw[cell_of_row _ _ _ _ _ _ hh];rfl,h3.below (bel1 _ _),k3⟩
theorem Wl.lit2{W:World}{g K:Nat}{s1 s2:Bool}{A1 A2:Option Addr}{n1 c1 n2 c2:Nat}{z1 z2:Int}(hg:W.heap.size=g)
  (h1:Wr W s1 A1 n1 c1 z1) (h2:Wr W s2 A2 n2 c2 z2) (k1:n1<=K) (k2:n2<=K):
  Wl (W.alloc (.cells #[.bool s1,.slice A1 n1 c1,.bool s2,.slice A2 n2 c2] 27)) (some ⟨g,0,none⟩) 2 2 K [z1,z2]:=by
 subst hg;have hh:=heap_alloc_new W (.cells #[.bool s1,.slice A1 n1 c1,.bool s2,.slice A2 n2 c2] 27)
 refine⟨rfl,Nat.le_refl _,by decide,fun _=>⟨_,0,rfl,fun k hk=>?_⟩⟩
 rcases (by omega:k=0\/k=1)with rfl | rfl
 ·exact⟨s1,A1,n1,c1,by rw[cell_of_row _ _ _ _ _ _ hh];rfl,by rw[cell_of_row _ _ _ _ _ _ hh];rfl,h1.below (bel1 _ _),k1⟩
 ·exact⟨s2,A2,n2,c2,by rw[cell_of_row _ _ _ _ _ _ hh];rfl,by rw[cell_of_row _ _ _ _ _ _ hh];rfl,h2.below (bel1 _ _),k2⟩
theorem Wl.drew{w:World}{A:Option Addr}{n c K:Nat}{zs:List Int}(h:Wl w A n c K zs):Wl w.drew A n c K zs:=h
