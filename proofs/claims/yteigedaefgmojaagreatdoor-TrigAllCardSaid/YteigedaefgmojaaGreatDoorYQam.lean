/-
 Contracts that the proof rests on.
-/
import Derived.Deep.RegionHeld3
import Derived.Test.YteigedaefgmojaaGreatDoorYQak
namespace Go.Proofs.YteigedaefgmojaaGreatDoor
open Go.Proofs.Tryz
set_option maxHeartbeats 2000000
open Go.RowKit
set_option linter.unusedVariables false
theorem qx{w:World}{s:Bool}{A:Option Addr}{n c:Nat}{z e:Int}(h:Wr w s A n c z)(hc:z=0\/e < -4194304\/4194304 < e):
  Calls prog 132 #[.agg #[.bool s,.slice A n c],.int .i64 e] w (D1 w n 0 0):=by
 by_cases o:z=0
 ·subst o;clear hc
  go_enter func132,ntmps132
  go_wp2_with fail
  refine(bO s (h.rd.below (bJ _ _ _))).mono ?_;rintro q w1 ⟨s1,A1,n1,c1,rfl,d,t,b⟩;rw[h.eq]at d
  obtain rfl:n1=0:=by have:=d.1.pos;omega
  have a:Bo (w1.alloc (.cells #[.bool s1,.slice A1 0 c1] 43)) (w.heap.size+1) #[.bool false,.slice none 0 0,.int .i64 0] 94:=((Bo.newAt _ (by simp) _ _).below b).below (ab _ _)
  have f:=Lib.hid (bt (bt (bJ _ _ _) b) (ab w1 (.cells #[.bool s1,.slice A1 0 c1] 43)));have m:=(Bx.new w1 s1 A1 0 c1).cell1
  have j:(w1.alloc (.cells #[.bool s1,.slice A1 0 c1] 43)).cell? ⟨w.heap.size+1,0,none⟩=some (.bool false):=a.cell 0
  have k:(w1.alloc (.cells #[.bool s1,.slice A1 0 c1] 43)).cell? ⟨w.heap.size+1,1,none⟩=some (.slice none 0 0):=a.cell 1
  have l:(w1.alloc (.cells #[.bool s1,.slice A1 0 c1] 43)).cell? ⟨w.heap.size+1,2,none⟩=some (.int .i64 0):=a.cell 2
  have u:=a.frozen 0;have x:=a.frozen 1;have y:=a.frozen 2;clear b;go_wp2
  exact bodyPost_ret (v:= .agg #[.bool false,.slice none 0 0,.int .i64 0]) (by simp[results,results132,go_sem,j,k,l]) rfl
   ⟨false,none,0,0,rfl,Wn.zero.st3 a _ _ _ _ _ (by simp[no32]),Nat.zero_le _,st3 f.out (by omega) _ _ _⟩
 ·have i:e < -4194304\/(¬e < -4194304/\4194304 < e):=by omega
  clear hc
  rcases i with ht | ⟨ht,r⟩
  all_goals
   go_enter func132,ntmps132
   go_wp2_with fail
   refine(bO s (h.rd.below (bJ _ _ _))).mono ?_;rintro q w1 ⟨s1,A1,n1,c1,rfl,d,t,b⟩;rw[h.eq]at d
   have p:0 < n1:=by have:=d.1.pos;omega
   have hq:((n1:Int)==0)=false:=by
    have:(n1:Int)≠0:=by omega
    simpa using this
   have g:=d.1.rd.big
   have a:Bo (w1.alloc (.cells #[.bool s1,.slice A1 n1 c1] 43)) (w.heap.size+1) #[.bool false,.slice none 0 0,.int .i64 0] 94:=((Bo.newAt _ (by simp) _ _).below b).below (ab _ _)
   have f:=Lib.hid (bt (bt (bJ _ _ _) b) (ab w1 (.cells #[.bool s1,.slice A1 n1 c1] 43)));have m:=(Bx.new w1 s1 A1 n1 c1).cell1
   have j:(w1.alloc (.cells #[.bool s1,.slice A1 n1 c1] 43)).cell? ⟨w.heap.size+1,0,none⟩=some (.bool false):=a.cell 0
   have k:(w1.alloc (.cells #[.bool s1,.slice A1 n1 c1] 43)).cell? ⟨w.heap.size+1,1,none⟩=some (.slice none 0 0):=a.cell 1
   have l:(w1.alloc (.cells #[.bool s1,.slice A1 n1 c1] 43)).cell? ⟨w.heap.size+1,2,none⟩=some (.int .i64 0):=a.cell 2
   have u:=a.frozen 0;have x:=a.frozen 1;have y:=a.frozen 2;clear b o;go_wp2
   exact bodyPost_ret (v:= .agg #[.bool false,.slice none 0 0,.int .i64 0]) (by simp[results,results132,go_sem,j,k,l]) rfl
    ⟨false,none,0,0,rfl,Wn.zero.st3 a _ _ _ _ _ (by simp[no32]),Nat.zero_le _,st3 f.out (by omega) _ _ _⟩
theorem bE{w:World}{s:Bool}{A:Option Addr}{n c:Nat}{z e N E:Int}(h:Wr w s A n c z)(hn:n<=100000)(hN:(mk z e).1=N)(hE:(mk z e).2=E):
  Calls prog 132 #[.agg #[.bool s,.slice A n c],.int .i64 e] w (D1 w n N E):=by
 by_cases a:z=0\/e < -4194304\/4194304 < e
 ·have hm:mk z e=(0,0):=by
   rcases a with rfl | a | a
   ·exact bU e
   ·exact yA a
   ·exact rJ a
  rw[hm]at hN hE;subst hN;subst hE;exact qx h a
 ·exact vd h hn (by omega) (by omega) (by omega) (Lib.hid hN) (Lib.hid hE)
abbrev Bd (w:World)(g:Nat)(s:Bool)(A:Option Addr)(n c:Nat)(e:Int):Prop:=Bo w g #[.bool s,.slice A n c,.int .i64 e] 94
theorem Br (w:World)(s t:Bool)(A B:Option Addr)(n c m d:Nat){W:World}(hW:W=((w.alloc (.cells #[.bool s,.slice A n c] 43)).alloc (.cells #[.bool t,.slice B m d] 43)).alloc (.cells #[.bool false,.slice none 0 0] 43)):
  Bx W w.heap.size s A n c/\Bx W (w.heap.size+1) t B m d/\Bx W (w.heap.size+1+1) false none 0 0/\Below w.heap.size w W:=by
 subst hW;exact⟨((Bx.new w s A n c).below (ab _ _)).below (ab _ _),(Bx.newAt _ (by simp) t B m d).below (ab _ _),Bx.newAt _ (by simp) false none 0 0,fB _ _ _ _⟩
theorem fS{w:World}{A B:Option Addr}{n c m d:Nat}{s t:Bool}{x y r:Int}(h:Wr w s A n c x)(k:Wr w t B m d y)(hn:n<=1073741824)(hm:m<=1073741824)(hr:x+y=r):
  Calls prog 71 #[.agg #[.bool s,.slice A n c],.agg #[.bool t,.slice B m d]] w (W1 w (n+m+1) r):=by
 obtain⟨a,h,e1⟩:=h;obtain⟨b,k,e2⟩:=k;subst e1;subst e2
 by_cases hs:s=t
 ·subst hs
  have z:Hid (sg s (a+b)=r):=Lib.hid (by rw[<-hr];cases s <;> simp[sg] <;> omega)
  have hq:(s==s)=true:=by simp
  clear hr
  go_enter func71,ntmps71
  go_wp2;obtain⟨j,p,l,i⟩:=Br w s s A B n c m d rfl;replace h:=h.below i;replace k:=k.below i;have u:=Lib.hid i;clear i;have D:=j.cell0;have E:=j.cell1;have F:=p.cell1
  go_region_held3 (fun w'=>w'.cell? ⟨w.heap.size,0,none⟩=some (.bool s)/\w'.cell? ⟨w.heap.size,1,none⟩=some (.slice A n c)/\w'.cell? ⟨w.heap.size+1,1,none⟩=some (.slice B m d))
   (first | with_reducible exact⟨D,E,F⟩ | with_reducible exact⟨j.cell0,j.cell1,p.cell1⟩ | with_reducible exact⟨j.drew.cell0,j.drew.cell1,p.drew.cell1⟩ | with_reducible exact⟨(j.far (Nat.ne_of_lt (Nat.lt_succ_of_lt (Nat.lt_succ_self _))) _ _).cell0,(j.far (Nat.ne_of_lt (Nat.lt_succ_of_lt (Nat.lt_succ_self _))) _ _).cell1,(p.far (Nat.ne_of_lt (Nat.lt_succ_self _)) _ _).cell1⟩)
   (first
    | (go_at_call 136;((with_reducible refine(Fo h.drew k.drew hn hm).mono ?_);rintro e w1 ⟨A1,n1,c1,rfl,h1,I,f⟩;clear D E F;replace j:=j.drew.below f;replace p:=p.drew.below f;replace l:=l.drew.below f;replace u:=Lib.hid (bt u.out.drew f);clear f))
    | (go_at_call 135;((with_reducible refine(bO _ h1.rd).mono ?_);rintro e G ⟨s2,A2,n2,c2,rfl,h2,J,g⟩;replace j:=j.below g;replace p:=p.below g;replace l:=l.below g;replace u:=Lib.hid (bt u.out g);clear g;have O:=l.cell0;have P:=l.cell1;have M:=l.frozen 0;have N:=l.frozen 1)))
  go_wp2;exact bodyPost_ret (v:= .agg #[.bool s2,.slice A2 n2 c2]) (by simp[results,results71,go_sem,l.cell0,l.cell1]) rfl ⟨s2,A2,n2,c2,rfl,z.out▸h2.st l _ _,by omega,fW u.out (by omega) _ _⟩
 ·have hq:(s==t)=false:=by simpa using hs
  have o:t=!s:=by cases s <;> cases t <;> simp_all
  by_cases C:b<=a
  ·have z:Hid (sg s (a-b)=r):=Lib.hid (by rw[<-hr,o];cases s <;> simp[sg] <;> omega)
   have L:=Lib.hid hs;clear hr o hs
   go_enter func71,ntmps71
   go_wp2_with (first
    | (go_at_call 137;((with_reducible refine(CX (h.below (fB _ _ _ _)) (k.below (fB _ _ _ _)) C rfl).mono ?_);rintro e w1 ⟨A1,n1,c1,rfl,h1,I,f⟩;obtain⟨q,hf⟩:=aQ f))
    | (go_at_call 135;((with_reducible refine(bO _ h1.rd).mono ?_);rintro e G ⟨s2,A2,n2,c2,rfl,h2,J,g⟩;clear q hf;obtain⟨q,hf⟩:=aQ (bt f g))))
   have X:Bx G (w.heap.size+1+1) false none 0 0:=(Bx.newAt _ (by simp) false none 0 0).below (bt f g)
   exact bodyPost_ret (v:= .agg #[.bool s2,.slice A2 n2 c2]) (by simp[results,results71,go_sem,X.cell0,X.cell1]) rfl ⟨s2,A2,n2,c2,rfl,z.out▸h2.st X _ _,by omega,fW (bt (fB _ _ _ _) (bt f g)) (by omega) _ _⟩
  ·have z:Hid (sg t (b-a)=r):=Lib.hid (by rw[<-hr,o];cases s <;> simp[sg] <;> omega)
   have L:=Lib.hid hs
   have hlt:a < b:=by omega
   have H:a<=b:=by omega
   clear hr o hs C
   go_enter func71,ntmps71
   go_wp2_with (first
    | (go_at_call 137;((with_reducible refine(nE (h.below (fB _ _ _ _)) (k.below (fB _ _ _ _)) hlt).mono ?_);rintro e w0 ⟨rfl,i⟩;obtain⟨q,hf⟩:=aQ i))
    | (go_at_call 137;((with_reducible refine(CX (k.below (bt (fB _ _ _ _) i)) (h.below (bt (fB _ _ _ _) i)) H rfl).mono ?_);rintro e w1 ⟨A1,n1,c1,rfl,h1,I,f⟩;clear q hf;obtain⟨q,hf⟩:=aQ (bt i f)))
    | (go_at_call 135;((with_reducible refine(bO _ h1.rd).mono ?_);rintro e G ⟨s2,A2,n2,c2,rfl,h2,J,g⟩;clear q hf;obtain⟨q,hf⟩:=aQ (bt i (bt f g)))))
   have X:Bx G (w.heap.size+1+1) false none 0 0:=(Bx.newAt _ (by simp) false none 0 0).below (bt i (bt f g))
   exact bodyPost_ret (v:= .agg #[.bool s2,.slice A2 n2 c2]) (by simp[results,results71,go_sem,X.cell0,X.cell1]) rfl ⟨s2,A2,n2,c2,rfl,z.out▸h2.st X _ _,by omega,fW (bt (fB _ _ _ _) (bt i (bt f g))) (by omega) _ _⟩
theorem nC{w:World}{A B:Option Addr}{n c m d:Nat}{s t:Bool}{x y r:Int}(h:Wr w s A n c x)(k:Wr w t B m d y)(hn:n<=1073741824)(hm:m<=1073741824)(hr:x-y=r):
  Calls prog 139 #[.agg #[.bool s,.slice A n c],.agg #[.bool t,.slice B m d]] w (W1 w (n+m+1) r):=by
 have z:Hid (x+ -y=r):=Lib.hid (by omega)
 clear hr
 go_enter func139,ntmps139
 go_wp2;obtain⟨a,b,f,u⟩:=Br w s t A B n c m d rfl;replace h:=h.below u;replace k:=k.below u;have j:=Lib.hid u;clear u;have l:=a.cell0;have o:=a.cell1;have p:=b.cell0;have q:=b.cell1
 go_region_held3 (fun w'=>w'.cell? ⟨w.heap.size,0,none⟩=some (.bool s)/\w'.cell? ⟨w.heap.size,1,none⟩=some (.slice A n c)/\w'.cell? ⟨w.heap.size+1,0,none⟩=some (.bool t)/\w'.cell? ⟨w.heap.size+1,1,none⟩=some (.slice B m d))
  (first | with_reducible exact⟨l,o,p,q⟩ | with_reducible exact⟨a.cell0,a.cell1,b.cell0,b.cell1⟩ | with_reducible exact⟨a.drew.cell0,a.drew.cell1,b.drew.cell0,b.drew.cell1⟩ | with_reducible exact⟨(a.far (Nat.ne_of_lt (Nat.lt_succ_of_lt (Nat.lt_succ_self _))) _ _).cell0,(a.far (Nat.ne_of_lt (Nat.lt_succ_of_lt (Nat.lt_succ_self _))) _ _).cell1,(b.far (Nat.ne_of_lt (Nat.lt_succ_self _)) _ _).cell0,(b.far (Nat.ne_of_lt (Nat.lt_succ_self _)) _ _).cell1⟩)
  (first
   | (go_at_call 189;((with_reducible refine(vg k.drew rfl).mono ?_);rintro e w1 ⟨s1,A1,n1,c1,rfl,h1,G,g⟩;clear l o p q;replace h:=h.drew.below g;replace a:=a.drew.below g;replace b:=b.drew.below g;replace f:=f.drew.below g;replace j:=Lib.hid (bt j.out.drew g);clear g))
   | (go_at_call 71;((with_reducible refine(fS h h1.wr hn (by omega) z.out).mono ?_);rintro e I ⟨s2,A2,n2,c2,rfl,h2,H,i⟩;replace a:=a.below i;replace b:=b.below i;replace f:=f.below i;replace j:=Lib.hid (bt j.out i);clear i;have E:=f.cell0;have F:=f.cell1;have C:=f.frozen 0;have D:=f.frozen 1)))
 go_wp2;exact bodyPost_ret (v:= .agg #[.bool s2,.slice A2 n2 c2]) (by simp[results,results139,go_sem,f.cell0,f.cell1]) rfl ⟨s2,A2,n2,c2,rfl,h2.st f _ _,by omega,fW j.out (by omega) _ _⟩
theorem xe{x y:Int}:ah (x-y) 0=ah x y:=by unfold ah;split <;> (try split) <;> (try split) <;> (try split) <;> omega
theorem oU{w:World}{A B:Option Addr}{n c m d:Nat}{s t:Bool}{x y r:Int}(h:Wr w s A n c x)(k:Wr w t B m d y)(hn:n<=1073741824)(hm:m<=1073741824)(hr:ah x y=r):
  Calls prog 141 #[.agg #[.bool s,.slice A n c],.agg #[.bool t,.slice B m d]] w (PI w r):=by
 have f:Hid (ah (x-y) 0=r):=Lib.hid (by rw[<-hr];exact xe)
 clear hr
 go_enter func141,ntmps141
 go_wp2_with (first
  | (go_at_call 139;((with_reducible refine(nC (h.below (bJ _ _ _)) (k.below (bJ _ _ _)) hn hm rfl).mono ?_);rintro e w1 ⟨s1,A1,n1,c1,rfl,h1,g,a⟩))
  | (go_at_call 161;((with_reducible refine(gv h1.wr f.out).mono ?_);rintro e i ⟨rfl,b⟩)))
 go_ret
 exact⟨rfl,bt (bJ _ _ _) (bt a b)⟩
