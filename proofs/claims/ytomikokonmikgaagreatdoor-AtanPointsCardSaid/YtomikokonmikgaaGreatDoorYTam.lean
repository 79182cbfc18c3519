/-
 Contracts that the proof rests on.
-/
import Derived.Deep.RegionHeld3
import Derived.Test.YtomikokonmikgaaGreatDoorYTak
namespace Go.Proofs.YtomikokonmikgaaGreatDoor
open Go.Proofs.Tryz
set_option maxHeartbeats 2000000
open Go.RowKit
set_option linter.unusedVariables false
theorem Do (w:World)(s t:Bool)(A B:Option Addr)(n c m d:Nat){W:World}(hW:W=((w.alloc (.cells #[.bool s,.slice A n c] 27)).alloc (.cells #[.bool t,.slice B m d] 27)).alloc (.cells #[.bool false,.slice none 0 0] 27)):
  Bx W w.heap.size s A n c/\Bx W (w.heap.size+1) t B m d/\Bx W (w.heap.size+1+1) false none 0 0/\Below w.heap.size w W:=by
 subst hW;exact⟨((Bx.new w s A n c).below (af _ _)).below (af _ _),(Bx.newAt _ (by simp) t B m d).below (af _ _),Bx.newAt _ (by simp) false none 0 0,gE _ _ _ _⟩
theorem f8{w:World}{A B:Option Addr}{n c m d:Nat}{s t:Bool}{x y r:Int}(h:Wr w s A n c x)(k:Wr w t B m d y)(hn:n<=1073741824)(hm:m<=1073741824)(hr:x+y=r):
  Calls prog 69 #[.agg #[.bool s,.slice A n c],.agg #[.bool t,.slice B m d]] w (W1 w (n+m+1) r):=by
 obtain⟨a,h,e1⟩:=h;obtain⟨b,k,e2⟩:=k;subst e1;subst e2
 by_cases hs:s=t
 ·subst hs
  have C:Hid (sg s (a+b)=r):=Lib.hid (by rw[<-hr];cases s <;> simp[sg] <;> omega)
  have hq:(s==s)=true:=by simp
  clear hr
  go_enter func69,ntmps69
  go_wp2;obtain⟨j,p,l,i⟩:=Do w s s A B n c m d rfl;replace h:=h.below i;replace k:=k.below i;have z:=Lib.hid i;clear i;have E:=j.cell0;have F:=j.cell1;have G:=p.cell1
  go_region_held3 (fun w'=>w'.cell? ⟨w.heap.size,0,none⟩=some (.bool s)/\w'.cell? ⟨w.heap.size,1,none⟩=some (.slice A n c)/\w'.cell? ⟨w.heap.size+1,1,none⟩=some (.slice B m d))
   (first | with_reducible exact⟨E,F,G⟩ | with_reducible exact⟨j.cell0,j.cell1,p.cell1⟩ | with_reducible exact⟨j.drew.cell0,j.drew.cell1,p.drew.cell1⟩ | with_reducible exact⟨(j.far (Nat.ne_of_lt (Nat.lt_succ_of_lt (Nat.lt_succ_self _))) _ _).cell0,(j.far (Nat.ne_of_lt (Nat.lt_succ_of_lt (Nat.lt_succ_self _))) _ _).cell1,(p.far (Nat.ne_of_lt (Nat.lt_succ_self _)) _ _).cell1⟩)
   (first
    | (go_at_call 133;((with_reducible refine(Hi h.drew k.drew hn hm).mono ?_);rintro e w1 ⟨A1,n1,c1,rfl,h1,J,f⟩;clear E F G;replace j:=j.drew.below f;replace p:=p.drew.below f;replace l:=l.drew.below f;replace z:=Lib.hid (bt z.out.drew f);clear f))
    | (go_at_call 61;((with_reducible refine(db _ h1.rd).mono ?_);rintro e H ⟨s2,A2,n2,c2,rfl,h2,L,g⟩;replace j:=j.below g;replace p:=p.below g;replace l:=l.below g;replace z:=Lib.hid (bt z.out g);clear g;have P:=l.cell0;have Q:=l.cell1;have N:=l.frozen 0;have O:=l.frozen 1)))
  go_wp2;exact bodyPost_ret (v:= .agg #[.bool s2,.slice A2 n2 c2]) (by simp[results,results69,go_sem,l.cell0,l.cell1]) rfl ⟨s2,A2,n2,c2,rfl,C.out▸h2.st l _ _,by omega,st2 z.out (by omega) _ _⟩
 ·have hq:(s==t)=false:=by simpa using hs
  have o:t=!s:=by cases s <;> cases t <;> simp_all
  by_cases D:b<=a
  ·have C:Hid (sg s (a-b)=r):=Lib.hid (by rw[<-hr,o];cases s <;> simp[sg] <;> omega)
   have M:=Lib.hid hs;clear hr o hs
   go_enter func69,ntmps69
   go_wp2_with (first
    | (go_at_call 134;((with_reducible refine(EF (h.below (gE _ _ _ _)) (k.below (gE _ _ _ _)) D rfl).mono ?_);rintro e w1 ⟨A1,n1,c1,rfl,h1,J,f⟩;obtain⟨q,u⟩:=bz f))
    | (go_at_call 61;((with_reducible refine(db _ h1.rd).mono ?_);rintro e H ⟨s2,A2,n2,c2,rfl,h2,L,g⟩;clear q u;obtain⟨q,u⟩:=bz (bt f g))))
   have X:Bx H (w.heap.size+1+1) false none 0 0:=(Bx.newAt _ (by simp) false none 0 0).below (bt f g)
   exact bodyPost_ret (v:= .agg #[.bool s2,.slice A2 n2 c2]) (by simp[results,results69,go_sem,X.cell0,X.cell1]) rfl ⟨s2,A2,n2,c2,rfl,C.out▸h2.st X _ _,by omega,st2 (bt (gE _ _ _ _) (bt f g)) (by omega) _ _⟩
  ·have C:Hid (sg t (b-a)=r):=Lib.hid (by rw[<-hr,o];cases s <;> simp[sg] <;> omega)
   have M:=Lib.hid hs
   have hlt:a < b:=by omega
   have I:a<=b:=by omega
   clear hr o hs D
   go_enter func69,ntmps69
   go_wp2_with (first
    | (go_at_call 134;((with_reducible refine(oV (h.below (gE _ _ _ _)) (k.below (gE _ _ _ _)) hlt).mono ?_);rintro e w0 ⟨rfl,i⟩;obtain⟨q,u⟩:=bz i))
    | (go_at_call 134;((with_reducible refine(EF (k.below (bt (gE _ _ _ _) i)) (h.below (bt (gE _ _ _ _) i)) I rfl).mono ?_);rintro e w1 ⟨A1,n1,c1,rfl,h1,J,f⟩;clear q u;obtain⟨q,u⟩:=bz (bt i f)))
    | (go_at_call 61;((with_reducible refine(db _ h1.rd).mono ?_);rintro e H ⟨s2,A2,n2,c2,rfl,h2,L,g⟩;clear q u;obtain⟨q,u⟩:=bz (bt i (bt f g)))))
   have X:Bx H (w.heap.size+1+1) false none 0 0:=(Bx.newAt _ (by simp) false none 0 0).below (bt i (bt f g))
   exact bodyPost_ret (v:= .agg #[.bool s2,.slice A2 n2 c2]) (by simp[results,results69,go_sem,X.cell0,X.cell1]) rfl ⟨s2,A2,n2,c2,rfl,C.out▸h2.st X _ _,by omega,st2 (bt (gE _ _ _ _) (bt i (bt f g))) (by omega) _ _⟩
theorem Ey{w:World}{A B:Option Addr}{n c m d:Nat}{s t:Bool}{x y r:Int}(h:Wr w s A n c x)(k:Wr w t B m d y)(hn:n<=1073741824)(hm:m<=1073741824)(hr:x-y=r):
  Calls prog 129 #[.agg #[.bool s,.slice A n c],.agg #[.bool t,.slice B m d]] w (W1 w (n+m+1) r):=by
 have z:Hid (x+ -y=r):=Lib.hid (by omega)
 clear hr
 go_enter func129,ntmps129
 go_wp2;obtain⟨a,b,f,u⟩:=Do w s t A B n c m d rfl;replace h:=h.below u;replace k:=k.below u;have j:=Lib.hid u;clear u;have l:=a.cell0;have o:=a.cell1;have p:=b.cell0;have q:=b.cell1
 go_region_held3 (fun w'=>w'.cell? ⟨w.heap.size,0,none⟩=some (.bool s)/\w'.cell? ⟨w.heap.size,1,none⟩=some (.slice A n c)/\w'.cell? ⟨w.heap.size+1,0,none⟩=some (.bool t)/\w'.cell? ⟨w.heap.size+1,1,none⟩=some (.slice B m d))
  (first | with_reducible exact⟨l,o,p,q⟩ | with_reducible exact⟨a.cell0,a.cell1,b.cell0,b.cell1⟩ | with_reducible exact⟨a.drew.cell0,a.drew.cell1,b.drew.cell0,b.drew.cell1⟩ | with_reducible exact⟨(a.far (Nat.ne_of_lt (Nat.lt_succ_of_lt (Nat.lt_succ_self _))) _ _).cell0,(a.far (Nat.ne_of_lt (Nat.lt_succ_of_lt (Nat.lt_succ_self _))) _ _).cell1,(b.far (Nat.ne_of_lt (Nat.lt_succ_self _)) _ _).cell0,(b.far (Nat.ne_of_lt (Nat.lt_succ_self _)) _ _).cell1⟩)
  (first
   | (go_at_call 66;((with_reducible refine(Hg k.drew rfl).mono ?_);rintro e w1 ⟨s1,A1,n1,c1,rfl,h1,G,g⟩;clear l o p q;replace h:=h.drew.below g;replace a:=a.drew.below g;replace b:=b.drew.below g;replace f:=f.drew.below g;replace j:=Lib.hid (bt j.out.drew g);clear g))
   | (go_at_call 69;((with_reducible refine(f8 h h1.wr hn (by omega) z.out).mono ?_);rintro e I ⟨s2,A2,n2,c2,rfl,h2,H,i⟩;replace a:=a.below i;replace b:=b.below i;replace f:=f.below i;replace j:=Lib.hid (bt j.out i);clear i;have E:=f.cell0;have F:=f.cell1;have C:=f.frozen 0;have D:=f.frozen 1)))
 go_wp2;exact bodyPost_ret (v:= .agg #[.bool s2,.slice A2 n2 c2]) (by simp[results,results129,go_sem,f.cell0,f.cell1]) rfl ⟨s2,A2,n2,c2,rfl,h2.st f _ _,by omega,st2 j.out (by omega) _ _⟩
theorem y7{x y:Int}:ag (x-y) 0=ag x y:=by unfold ag;split <;> (try split) <;> (try split) <;> (try split) <;> omega
theorem Ex{w:World}{A B:Option Addr}{n c m d:Nat}{s t:Bool}{x y r:Int}(h:Wr w s A n c x)(k:Wr w t B m d y)(hn:n<=1073741824)(hm:m<=1073741824)(hr:ag x y=r):
  Calls prog 62 #[.agg #[.bool s,.slice A n c],.agg #[.bool t,.slice B m d]] w (PI w r):=by
 have f:Hid (ag (x-y) 0=r):=Lib.hid (by rw[<-hr];exact y7)
 clear hr
 go_enter func62,ntmps62
 go_wp2_with (first
  | (go_at_call 129;((with_reducible refine(Ey (h.below (bK _ _ _)) (k.below (bK _ _ _)) hn hm rfl).mono ?_);rintro e w1 ⟨s1,A1,n1,c1,rfl,h1,g,a⟩))
  | (go_at_call 128;((with_reducible refine(jr h1.wr f.out).mono ?_);rintro e i ⟨rfl,b⟩)))
 go_ret
 exact⟨rfl,bt (bK _ _ _) (bt a b)⟩
theorem sE{w:World}{s:Bool}{A:Option Addr}{n c:Nat}{z e:Int}(h:Wr w s A n c z)(hc:z=0\/e < -4194304\/4194304 < e):
  Calls prog 162 #[.agg #[.bool s,.slice A n c],.int .i64 e] w (D1 w n 0 0):=by
 by_cases o:z=0
 ·subst o;clear hc
  go_enter func162,ntmps162
  go_wp2_with fail
  refine(db s (h.rd.below (bK _ _ _))).mono ?_;rintro q w1 ⟨s1,A1,n1,c1,rfl,d,t,b⟩;rw[h.eq]at d
  obtain rfl:n1=0:=by have:=d.1.pos;omega
  have a:Bo (w1.alloc (.cells #[.bool s1,.slice A1 0 c1] 27)) (w.heap.size+1) #[.bool false,.slice none 0 0,.int .i64 0] 124:=((Bo.newAt _ (by simp) _ _).below b).below (af _ _)
  have f:=Lib.hid (bt (bt (bK _ _ _) b) (af w1 (.cells #[.bool s1,.slice A1 0 c1] 27)));have m:=(Bx.new w1 s1 A1 0 c1).cell1
  have j:(w1.alloc (.cells #[.bool s1,.slice A1 0 c1] 27)).cell? ⟨w.heap.size+1,0,none⟩=some (.bool false):=a.cell 0
  have k:(w1.alloc (.cells #[.bool s1,.slice A1 0 c1] 27)).cell? ⟨w.heap.size+1,1,none⟩=some (.slice none 0 0):=a.cell 1
  have l:(w1.alloc (.cells #[.bool s1,.slice A1 0 c1] 27)).cell? ⟨w.heap.size+1,2,none⟩=some (.int .i64 0):=a.cell 2
  have u:=a.frozen 0;have x:=a.frozen 1;have y:=a.frozen 2;clear b;go_wp2
  exact bodyPost_ret (v:= .agg #[.bool false,.slice none 0 0,.int .i64 0]) (by simp[results,results162,go_sem,j,k,l]) rfl
   ⟨false,none,0,0,rfl,Wn.zero.st3 a _ _ _ _ _ (by simp[no32]),Nat.zero_le _,st3 f.out (by omega) _ _ _⟩
 ·have i:e < -4194304\/(¬e < -4194304/\4194304 < e):=by omega
  clear hc
  rcases i with ht | ⟨ht,r⟩
  all_goals
   go_enter func162,ntmps162
   go_wp2_with fail
   refine(db s (h.rd.below (bK _ _ _))).mono ?_;rintro q w1 ⟨s1,A1,n1,c1,rfl,d,t,b⟩;rw[h.eq]at d
   have p:0 < n1:=by have:=d.1.pos;omega
   have hq:((n1:Int)==0)=false:=by
    have:(n1:Int)≠0:=by omega
    simpa using this
   have g:=d.1.rd.big
   have a:Bo (w1.alloc (.cells #[.bool s1,.slice A1 n1 c1] 27)) (w.heap.size+1) #[.bool false,.slice none 0 0,.int .i64 0] 124:=((Bo.newAt _ (by simp) _ _).below b).below (af _ _)
   have f:=Lib.hid (bt (bt (bK _ _ _) b) (af w1 (.cells #[.bool s1,.slice A1 n1 c1] 27)));have m:=(Bx.new w1 s1 A1 n1 c1).cell1
   have j:(w1.alloc (.cells #[.bool s1,.slice A1 n1 c1] 27)).cell? ⟨w.heap.size+1,0,none⟩=some (.bool false):=a.cell 0
   have k:(w1.alloc (.cells #[.bool s1,.slice A1 n1 c1] 27)).cell? ⟨w.heap.size+1,1,none⟩=some (.slice none 0 0):=a.cell 1
   have l:(w1.alloc (.cells #[.bool s1,.slice A1 n1 c1] 27)).cell? ⟨w.heap.size+1,2,none⟩=some (.int .i64 0):=a.cell 2
   have u:=a.frozen 0;have x:=a.frozen 1;have y:=a.frozen 2;clear b o;go_wp2
   exact bodyPost_ret (v:= .agg #[.bool false,.slice none 0 0,.int .i64 0]) (by simp[results,results162,go_sem,j,k,l]) rfl
    ⟨false,none,0,0,rfl,Wn.zero.st3 a _ _ _ _ _ (by simp[no32]),Nat.zero_le _,st3 f.out (by omega) _ _ _⟩
theorem bQ{w:World}{s:Bool}{A:Option Addr}{n c:Nat}{z e N E:Int}(h:Wr w s A n c z)(hn:n<=100000)(hN:(mk z e).1=N)(hE:(mk z e).2=E):
  Calls prog 162 #[.agg #[.bool s,.slice A n c],.int .i64 e] w (D1 w n N E):=by
 by_cases a:z=0\/e < -4194304\/4194304 < e
 ·have hm:mk z e=(0,0):=by
   rcases a with rfl | a | a
   ·exact da e
   ·exact AJ a
   ·exact tZ a
  rw[hm]at hN hE;subst hN;subst hE;exact sE h a
 ·exact xE h hn (by omega) (by omega) (by omega) (Lib.hid hN) (Lib.hid hE)
abbrev Bd (w:World)(g:Nat)(s:Bool)(A:Option Addr)(n c:Nat)(e:Int):Prop:=Bo w g #[.bool s,.slice A n c,.int .i64 e] 124
