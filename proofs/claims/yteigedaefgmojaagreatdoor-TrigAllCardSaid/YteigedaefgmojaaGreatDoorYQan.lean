/-
 Contracts that the proof rests on.
-/
import Derived.StillTailTactics
import Derived.Test.YteigedaefgmojaaGreatDoorYQal
import Derived.Test.YteigedaefgmojaaGreatDoorYQam
namespace Go.Proofs.YteigedaefgmojaaGreatDoor
open Go.Proofs.Tryz
set_option maxHeartbeats 4000000
open Go.RowKit
set_option linter.unusedVariables false
theorem vh{w:World}{A B:Option Addr}{n c m d:Nat}{s t:Bool}{x y r:Int}(h:Wr w s A n c x)(k:Wr w t B m d y)(hn:n<=268435456)(hm:m<=268435456)(hr:x*y=r):
  Calls prog 134 #[.agg #[.bool s,.slice A n c],.agg #[.bool t,.slice B m d]] w (W1 w (n+m) r):=by
 obtain⟨a,h,e1⟩:=h;obtain⟨b,k,e2⟩:=k
 have D:Hid (sg (s !=t) (a*b)=r):=Lib.hid (by rw[<-hr,<-e1,<-e2];exact zW s t a b)
 clear hr e1 e2
 go_enter func134,ntmps134
 go_wp2;obtain⟨f,g,i,C⟩:=Br w s t A B n c m d rfl;replace h:=h.below C;replace k:=k.below C;have o:=Lib.hid C;clear C;have p:=f.cell0;have q:=f.cell1;have u:=g.cell0;have z:=g.cell1
 go_region_held3 (fun w'=>w'.cell? ⟨w.heap.size,0,none⟩=some (.bool s)/\w'.cell? ⟨w.heap.size,1,none⟩=some (.slice A n c)/\w'.cell? ⟨w.heap.size+1,0,none⟩=some (.bool t)/\w'.cell? ⟨w.heap.size+1,1,none⟩=some (.slice B m d))
  (first | with_reducible exact⟨p,q,u,z⟩ | with_reducible exact⟨f.cell0,f.cell1,g.cell0,g.cell1⟩ | with_reducible exact⟨f.drew.cell0,f.drew.cell1,g.drew.cell0,g.drew.cell1⟩ | with_reducible exact⟨(f.far (Nat.ne_of_lt (Nat.lt_succ_of_lt (Nat.lt_succ_self _))) _ _).cell0,(f.far (Nat.ne_of_lt (Nat.lt_succ_of_lt (Nat.lt_succ_self _))) _ _).cell1,(g.far (Nat.ne_of_lt (Nat.lt_succ_self _)) _ _).cell0,(g.far (Nat.ne_of_lt (Nat.lt_succ_self _)) _ _).cell1⟩)
  (first
   | (go_at_call 191;((with_reducible refine(G7 h.drew k.drew hn hm rfl).mono ?_);rintro e w1 ⟨A1,n1,c1,rfl,h1,I,j⟩;clear p q u z;replace f:=f.drew.below j;replace g:=g.drew.below j;replace i:=i.drew.below j;replace o:=Lib.hid (bt o.out.drew j);clear j))
   | (go_at_call 135;((with_reducible refine(bO (!(s==t)) h1.rd).mono ?_);rintro e L ⟨s2,A2,n2,c2,rfl,h2,J,l⟩;replace f:=f.below l;replace g:=g.below l;replace i:=i.below l;replace o:=Lib.hid (bt o.out l);clear l;have G:=i.cell0;have H:=i.cell1;have E:=i.frozen 0;have F:=i.frozen 1)))
 go_wp2;exact bodyPost_ret (v:= .agg #[.bool s2,.slice A2 n2 c2]) (by simp[results,results134,go_sem,i.cell0,i.cell1]) rfl ⟨s2,A2,n2,c2,rfl,D.out▸h2.st i _ _,by omega,fW o.out (by omega) _ _⟩
section
variable {w:World} {g:Nat} {a b c:Value} {T:TypeId}
theorem Bo.c0 (h:Bo w g #[a,b,c] T):w.cell? ⟨g,0,none⟩=some a:=h.cell 0
theorem Bo.c1 (h:Bo w g #[a,b,c] T):w.cell? ⟨g,1,none⟩=some b:=h.cell 1
theorem Bo.c2 (h:Bo w g #[a,b,c] T):w.cell? ⟨g,2,none⟩=some c:=h.cell 2
end
theorem ro (w:World)(s:Bool)(A:Option Addr)(n c:Nat)(e:Int){W:World}(hW:W=(w.alloc (.cells #[.bool s,.slice A n c,.int .i64 e] 94)).alloc (.cells #[.bool false,.slice none 0 0,.int .i64 0] 94)):
  Bd W w.heap.size s A n c e/\Bd W (w.heap.size+1) false none 0 0 0/\Below w.heap.size w W:=by
 subst hW;exact⟨(Bo.new w _ _).below (ab _ _),Bo.newAt _ (by simp) _ _,bJ _ _ _⟩
theorem eR (z e:Int): -4194304<=(mk z e).2/\(mk z e).2<=4194304:=by
 unfold mk
 split
 ·simp
 ·rename_i h
  simp only
  omega
def mv (z e k:Int):Int × Int:=if 16777216 < k\/k < -16777216 then (0,0)else mk (mk z e).1 ((mk z e).2+k)
theorem Fj{w:World}{A:Option Addr}{n c:Nat}{s:Bool}{z e k N E:Int}(h:Wr w s A n c z)(hn:n<=100000)(hN:(mv z e k).1=N)(hE:(mv z e k).2=E):Calls prog 129 #[.agg #[.bool s,.slice A n c,.int .i64 e],.int .i64 k] w (D1 w n N E):=by
 have hb:=eR z e
 by_cases l:16777216 < k\/k < -16777216
 ·have hm:mv z e k=(0,0):=by unfold mv;rw[if_pos l]
  rw[hm]at hN hE;subst hN;subst hE;clear hm
  have u:16777216 < k\/(¬16777216 < k/\k < -16777216):=by omega
  clear l
  rcases u with H | ⟨H,S⟩
  all_goals
   go_enter func129,ntmps129
   go_wp2_with fail
   obtain⟨r,a,b⟩:=ro w s A n c e rfl;refine(bE (h.below b) hn rfl rfl).mono ?_;rintro G w1 ⟨s1,A1,n1,c1,rfl,m,O,d⟩;replace a:=(a.below d).below (ab _ (.cells #[.bool s1,.slice A1 n1 c1,.int .i64 (mk z e).2] 94));have f:=Lib.hid (bt b (bt d (ab _ (.cells #[.bool s1,.slice A1 n1 c1,.int .i64 (mk z e).2] 94))));have x:=a.c0;have y:=a.c1;have B:=a.c2
   have P:=a.frozen 0;have Q:=a.frozen 1;have R:=a.frozen 2;clear d b r;go_wp2;exact bodyPost_ret (v:= .agg #[.bool false,.slice none 0 0,.int .i64 0]) (by simp[results,results129,go_sem,x,y,B]) rfl ⟨false,none,0,0,rfl,Wn.zero.st3 a _ _ _ _ _ (by simp[no32]),Nat.zero_le _,st3 f.out (by omega) _ _ _⟩
 ·have hm:mv z e k=mk (mk z e).1 ((mk z e).2+k):=by unfold mv;rw[if_neg l]
  rw[hm]at hN hE
  have H:¬16777216 < k:=by omega
  have S:¬k < -16777216:=by omega
  clear hm l
  revert hb hN hE
  generalize i:(mk z e).1=T;generalize g:(mk z e).2=j
  intro hN hE hb
  have q:=Lib.hid i;have p:=Lib.hid g;have J:=Lib.hid hN;have I:=Lib.hid hE;clear i g hN hE;obtain⟨L,M⟩:=hb
  go_enter func129,ntmps129
  go_wp2_with fail
  obtain⟨r,a,b⟩:=ro w s A n c e rfl;refine(bE (h.below b) hn q.out p.out).mono ?_;rintro G w1 ⟨s1,A1,n1,c1,rfl,m,O,d⟩;replace a:=(a.below d).below (ab _ (.cells #[.bool s1,.slice A1 n1 c1,.int .i64 j] 94));have t:=Bo.new w1 #[.bool s1,.slice A1 n1 c1,.int .i64 j] 94;have f:=Lib.hid (bt b (bt d (ab _ (.cells #[.bool s1,.slice A1 n1 c1,.int .i64 j] 94))))
  replace m:=m.below (ab _ (.cells #[.bool s1,.slice A1 n1 c1,.int .i64 j] 94));have C:=t.c0;have D:=t.c1;have F:=t.c2;clear d b r
  go_wp2_with fail
  refine(bE m.wr (by omega) J.out I.out).mono ?_;rintro G V ⟨s2,A2,n2,c2,rfl,p2,U,o⟩;clear C D F;replace a:=a.below o;replace f:=Lib.hid (bt f.out o);have x:=a.c0;have y:=a.c1;have B:=a.c2;have P:=a.frozen 0;have Q:=a.frozen 1;have R:=a.frozen 2;clear o;go_wp2;exact bodyPost_ret (v:= .agg #[.bool s2,.slice A2 n2 c2,.int .i64 E]) (by simp[results,results129,go_sem,x,y,B]) rfl ⟨s2,A2,n2,c2,rfl,p2.st3 a _ _ _ _ _ (by simp[no32]),by omega,st3 f.out (by omega) _ _ _⟩
theorem Gr (w:World)(s t:Bool)(A B:Option Addr)(n c m d:Nat){W:World}(hW:W=((((w.alloc (.cells #[.bool s,.slice A n c] 43)).alloc (.cells #[.bool t,.slice B m d] 43)).alloc (.cells #[.bool false,.slice none 0 0] 43)).alloc (.cells #[.bool false,.slice none 0 0] 43)).alloc (.cells #[.bool false,.slice none 0 0] 43)):
  Bx W w.heap.size s A n c/\Bx W (w.heap.size+1) t B m d/\Bx W (w.heap.size+1+1) false none 0 0/\Bx W (w.heap.size+1+1+1) false none 0 0/\Bx W (w.heap.size+1+1+1+1) false none 0 0/\Below w.heap.size w W:=by
 subst hW;obtain⟨h1,h2,a,h4⟩:=Br w s t A B n c m d rfl;exact⟨(h1.below (ab _ _)).below (ab _ _),(h2.below (ab _ _)).below (ab _ _),(a.below (ab _ _)).below (ab _ _),(Bx.newAt _ (by simp) false none 0 0).below (ab _ _),Bx.newAt _ (by simp) false none 0 0,bt h4 (bJ _ _ _)⟩
theorem zv{w:World}{A B:Option Addr}{n c m d a b:Nat}(s t:Bool)(h:Rd w A n c a)(k:Rd w B m d b)(hn:n<=268435456)(hm:m<=268435456)(h0:b≠0){σ τ:Int}
  (HS:Hid (ah (sg t b) 0=σ)) (HT:Hid (ah (sg s (a%b)) 0=τ)) (hσ:(σ==0)=false) (hb1: -1<=σ) (hb2:σ<=1) (hne:(τ== -σ)=false):
  Calls prog 140 #[.agg #[.bool s,.slice A n c],.agg #[.bool t,.slice B m d]] w (W3 w (n+m+4) (sg (!(s==t)) (a/b)) (sg s (a%b))):=by
 go_enter func140,ntmps140
 go_wp2_with fail
 obtain⟨q,E,j,i,Q,N⟩:=Gr w s t A B n c m d rfl;replace h:=h.below N;replace k:=k.below N;have p:=Lib.hid N;clear N;refine(gv (k.wr t) HS.out).mono ?_;rintro e w1 ⟨rfl,C⟩;replace h:=h.below C;replace k:=k.below C;replace q:=q.below C;replace E:=E.below C;replace j:=j.below C;replace i:=i.below C;replace p:=Lib.hid (bt p.out C)
 clear C;clear Q;have r:=q.cell0;have O:=q.cell1;have H:=E.cell0;have P:=E.cell1
 go_wp2_with fail
 refine(CW h k hn hm h0).mono ?_;rintro e w2 ⟨A1,n1,c1,A2,n2,c2,rfl,h1,h2,k1,k2,I⟩;clear r O H P;replace q:=q.below I;replace E:=E.below I;replace j:=j.below I;replace i:=i.below I;replace p:=Lib.hid (bt p.out I);clear I h;have r:=q.cell0;have H:=E.cell0
 go_wp2_with fail
 refine(bO (!(s==t)) h1.rd).mono ?_;rintro e G ⟨s3,A3,n3,c3,rfl,F,k3,u⟩;clear r H
 have g6:w.heap.size+1+1+1 < G.heap.size:=(i.below u).lt
 replace u:=bt u (ab _ (.cells #[.bool s3,.slice A3 n3 c3] 43));replace h2:=h2.below u;replace q:=q.below u;replace j:=j.below u;replace i:=i.below u;replace p:=Lib.hid (bt p.out u);replace F:=F.below (ab _ (.cells #[.bool s3,.slice A3 n3 c3] 43));have f:=Bx.new G s3 A3 n3 c3;clear u h1;have r:=q.cell0
 go_wp2_with fail
 refine(bO s h2.rd).mono ?_;rintro e J ⟨s4,A4,n4,c4,rfl,h4,k4,x⟩;clear r
 have g7:G.heap.size < J.heap.size:=(f.below x).lt
 replace x:=bt x (ab _ (.cells #[.bool s4,.slice A4 n4 c4] 43));replace F:=F.below x;replace j:=j.below x;replace i:=i.below x;replace f:=f.below x;replace p:=Lib.hid (bt p.out x);replace h4:=h4.below (ab _ (.cells #[.bool s4,.slice A4 n4 c4] 43));have g:=Bx.new J s4 A4 n4 c4;clear x h2;have L:=g.cell0;have M:=g.cell1
 go_wp2_with fail
 refine(gv h4.wr HT.out).mono ?_;rintro e w5 ⟨rfl,D⟩;clear L M;replace F:=F.below D;replace h4:=h4.below D;replace j:=j.below D;replace i:=i.below D;replace f:=f.below D;replace g:=g.below D;replace p:=Lib.hid (bt p.out D);clear D q;clear E;have Z:=j.cell0;have bA:=j.cell1;have R:=j.frozen 0;have S:=j.frozen 1;have bB:=i.cell0
 have bC:=i.cell1;have T:=i.frozen 0;have U:=i.frozen 1;have bD:=f.cell0;have bH:=f.cell1;have V:=f.frozen 0;have W:=f.frozen 1;have L:=g.cell0;have M:=g.cell1;have X:=g.frozen 0;have Y:=g.frozen 1
 have l:G.heap.size≠w.heap.size+1+1:=by omega
 have y:G.heap.size≠w.heap.size+1+1+1:=by omega
 have o:J.heap.size≠w.heap.size+1+1:=by omega
 have z:J.heap.size≠w.heap.size+1+1+1:=by omega
 go_wp2
 go_region_held3 (fun w'=>w'.cell? ⟨G.heap.size,0,none⟩=some (.bool s3)/\w'.cell? ⟨G.heap.size,1,none⟩=some (.slice A3 n3 c3)/\w'.cell? ⟨J.heap.size,0,none⟩=some (.bool s4)/\w'.cell? ⟨J.heap.size,1,none⟩=some (.slice A4 n4 c4)) (first | with_reducible exact⟨f.cell0,f.cell1,g.cell0,g.cell1⟩ | with_reducible exact⟨f.drew.cell0,f.drew.cell1,g.drew.cell0,g.drew.cell1⟩ | with_reducible exact⟨(f.far l _ _).cell0,(f.far l _ _).cell1,(g.far o _ _).cell0,(g.far o _ _).cell1⟩ | with_reducible exact⟨(f.far l _ _).drew.cell0,(f.far l _ _).drew.cell1,(g.far o _ _).drew.cell0,(g.far o _ _).drew.cell1⟩ | with_reducible exact⟨((f.far l _ _).far y _ _).cell0,((f.far l _ _).far y _ _).cell1,((g.far o _ _).far z _ _).cell0,((g.far o _ _).far z _ _).cell1⟩ | with_reducible exact⟨((f.far l _ _).far y _ _).drew.cell0,((f.far l _ _).far y _ _).drew.cell1,((g.far o _ _).far z _ _).drew.cell0,((g.far o _ _).far z _ _).drew.cell1⟩) (fail)
 go_wp2
 exact bodyPost_ret (v:= .tuple #[.agg #[.bool s3,.slice A3 n3 c3],.agg #[.bool s4,.slice A4 n4 c4],.bool true]) (by simp[results,results140,go_sem,j.cell0,j.cell1,i.cell0,i.cell1]) rfl
  ⟨s3,A3,n3,c3,s4,A4,n4,c4,rfl,((F.st j _ _).st (i.far (by omega) _ _) _ _).drew,((h4.st j _ _).st (i.far (by omega) _ _) _ _).drew,by omega,by omega,(fW (fW p.out (by omega) _ _) (by omega) _ _).drew⟩
theorem Fl{w:World}{A B:Option Addr}{n c m d a b:Nat}(s t:Bool)(h:Rd w A n c a)(k:Rd w B m d b)(hn:n<=268435456)(hm:m<=268435456)(h0:b≠0){σ τ:Int}
  (HS:Hid (ah (sg t b) 0=σ)) (HT:Hid (ah (sg s (a%b)) 0=τ)) (hσ:(σ==0)=false) (hb1: -1<=σ) (hb2:σ<=1) (hne:(τ== -σ)=true):
  Calls prog 140 #[.agg #[.bool s,.slice A n c],.agg #[.bool t,.slice B m d]] w (W3 w (n+m+4) (sg (!(s==t)) (a/b)+ -1) (sg s (a%b)+sg t b)):=by
 go_enter func140,ntmps140
 go_wp2_with fail
 obtain⟨N,l,j,i,X5,B0⟩:=Gr w s t A B n c m d rfl;replace h:=h.below B0;replace k:=k.below B0;have o:=Lib.hid B0;clear B0;refine(gv (k.wr t) HS.out).mono ?_;rintro e w1 ⟨rfl,W⟩;replace h:=h.below W;replace k:=k.below W;replace N:=N.below W;replace l:=l.below W;replace j:=j.below W;replace i:=i.below W;replace o:=Lib.hid (bt o.out W)
 clear W;clear X5;have O:=N.cell0;have bD:=N.cell1;have P:=l.cell0;have bA:=l.cell1
 go_wp2_with fail
 refine(CW h k hn hm h0).mono ?_;rintro e w2 ⟨A1,n1,c1,A2,n2,c2,rfl,h1,h2,k1,k2,Y⟩;clear O bD P bA;replace k:=k.below Y;replace N:=N.below Y;replace l:=l.below Y;replace j:=j.below Y;replace i:=i.below Y;replace o:=Lib.hid (bt o.out Y);clear Y h;have O:=N.cell0;have P:=l.cell0
 go_wp2_with fail
 refine(bO (!(s==t)) h1.rd).mono ?_;rintro e q ⟨s3,A3,n3,c3,rfl,p,k3,L⟩;clear O P
 have g6:w.heap.size+1+1+1 < q.heap.size:=(i.below L).lt
 replace L:=bt L (ab _ (.cells #[.bool s3,.slice A3 n3 c3] 43));replace k:=k.below L;replace h2:=h2.below L;replace N:=N.below L;replace l:=l.below L;replace j:=j.below L;replace i:=i.below L;replace o:=Lib.hid (bt o.out L);replace p:=p.below (ab _ (.cells #[.bool s3,.slice A3 n3 c3] 43));have f:=Bx.new q s3 A3 n3 c3;clear L h1;have O:=N.cell0
 go_wp2_with fail
 refine(bO s h2.rd).mono ?_;rintro e x ⟨s4,A4,n4,c4,rfl,h4,k4,M⟩;clear O
 have g7:q.heap.size < x.heap.size:=(f.below M).lt
 replace M:=bt M (ab _ (.cells #[.bool s4,.slice A4 n4 c4] 43));replace k:=k.below M;replace p:=p.below M;replace l:=l.below M;replace j:=j.below M;replace i:=i.below M;replace f:=f.below M;replace o:=Lib.hid (bt o.out M);replace h4:=h4.below (ab _ (.cells #[.bool s4,.slice A4 n4 c4] 43));have g:=Bx.new x s4 A4 n4 c4;clear M h2;have I:=g.cell0
 have J:=g.cell1
 go_wp2_with fail
 refine(gv h4.wr HT.out).mono ?_;rintro e w5 ⟨rfl,Q⟩;clear I J;replace k:=k.below Q;replace p:=p.below Q;replace h4:=h4.below Q;replace l:=l.below Q;replace j:=j.below Q;replace i:=i.below Q;replace f:=f.below Q;replace g:=g.below Q;replace o:=Lib.hid (bt o.out Q);clear Q N;have G:=f.cell0;have H:=f.cell1;have E:=f.frozen 0
 have F:=f.frozen 1;go_wp2
 go_region_with (first
  | (go_at_call 72;((with_reducible refine(fk (-1) _ (by omega) (by omega)).mono ?_);rintro e w6 ⟨s6,A6,n6,c6,rfl,h6,k6,R⟩;clear G H E F;replace k:=k.drew.below R;replace p:=p.drew.below R;replace h4:=h4.drew.below R;replace l:=l.drew.below R;replace j:=j.drew.below R;replace i:=i.drew.below R;replace f:=f.drew.below R;replace g:=g.drew.below R;replace o:=Lib.hid (bt o.out.drew R);have G:=f.cell0;have H:=f.cell1;have E:=f.frozen 0;have F:=f.frozen 1))
  | (go_at_call 71;((with_reducible refine(fS p.wr h6.wr (by omega) (by omega) rfl).mono ?_);rintro e w7 ⟨D,y,C,z,rfl,h8,k8,X⟩;clear G H E F;replace k:=k.below X;replace h4:=h4.below X;replace l:=l.below X;replace j:=j.below X;replace i:=i.below X;replace f:=f.below X;replace g:=g.below X;replace o:=Lib.hid (bt o.out X);have G:=f.cell0;have H:=f.cell1;have E:=f.frozen 0;have F:=f.frozen 1)))
 all_goals
  have X8:Bx ((w7.setCell ⟨q.heap.size,0,none⟩ (.bool D)).setCell ⟨q.heap.size,1,none⟩ (.slice y C z)) q.heap.size D y C z:=f.set _ _ _ _
  have e1:w.heap.size+1≠q.heap.size:=by omega
  have e2:w.heap.size+1+1≠q.heap.size:=by omega
  have e3:w.heap.size+1+1+1≠q.heap.size:=by omega
  have e4:x.heap.size≠q.heap.size:=by omega
  replace l:=l.far e1 (.bool D) (.slice y C z);replace j:=j.far e2 (.bool D) (.slice y C z);replace i:=i.far e3 (.bool D) (.slice y C z);replace g:=g.far e4 (.bool D) (.slice y C z);replace h8:=h8.st f (.bool D) (.slice y C z);replace h4:=h4.st f (.bool D) (.slice y C z);replace k:=k.st f (.bool D) (.slice y C z)
  replace o:=Lib.hid (fW (o1:=0) (o2:=1) o.out (show w.heap.size<=q.heap.size by omega) (.bool D) (.slice y C z))
  clear G H E F f p h6
  revert l j i g X8 h8 h4 k o
  generalize (w7.setCell ⟨q.heap.size,0,none⟩ (.bool D)).setCell ⟨q.heap.size,1,none⟩ (.slice y C z)=w8
  intro f l j i g p h4 k o
  have P:=l.cell0;have bA:=l.cell1;have bB:=l.frozen 0;have bC:=l.frozen 1;have I:=g.cell0;have J:=g.cell1;have U:=g.frozen 0;have V:=g.frozen 1
  go_wp2_with (first
   | (go_at_call 71;((with_reducible refine(fS h4.wr (k.wr t) (by omega) (by omega) rfl).mono ?_);rintro e w9 ⟨s9,A9,n9,c9,rfl,h9,k9,Z⟩;clear P bA bB bC I J U V;replace p:=p.below Z;replace j:=j.below Z;replace i:=i.below Z;replace f:=f.below Z;replace g:=g.below Z;replace o:=Lib.hid (bt o.out Z);have I:=g.cell0;have J:=g.cell1;have U:=g.frozen 0;have V:=g.frozen 1;clear Z)))
  clear I J U V h4 k l
  have X8:Bx ((w9.setCell ⟨x.heap.size,0,none⟩ (.bool s9)).setCell ⟨x.heap.size,1,none⟩ (.slice A9 n9 c9)) x.heap.size s9 A9 n9 c9:=g.set _ _ _ _
  have e5:w.heap.size+1+1≠x.heap.size:=by omega
  have e6:w.heap.size+1+1+1≠x.heap.size:=by omega
  have e7:q.heap.size≠x.heap.size:=by omega
  replace j:=j.far e5 (.bool s9) (.slice A9 n9 c9);replace i:=i.far e6 (.bool s9) (.slice A9 n9 c9);replace f:=f.far e7 (.bool s9) (.slice A9 n9 c9);replace p:=p.st g (.bool s9) (.slice A9 n9 c9);replace h9:=h9.st g (.bool s9) (.slice A9 n9 c9)
  replace o:=Lib.hid (fW (o1:=0) (o2:=1) o.out (show w.heap.size<=x.heap.size by omega) (.bool s9) (.slice A9 n9 c9))
  clear g
  revert X8 j i f p h9 o
  generalize (w9.setCell ⟨x.heap.size,0,none⟩ (.bool s9)).setCell ⟨x.heap.size,1,none⟩ (.slice A9 n9 c9)=gP
  intro g j i f p h4 o
  have gS:=j.cell0;have hA:=j.cell1;have bH:=j.frozen 0;have bN:=j.frozen 1;have hB:=i.cell0;have hC:=i.cell1;have gB:=i.frozen 0;have gO:=i.frozen 1;have G:=f.cell0;have H:=f.cell1;have E:=f.frozen 0;have F:=f.frozen 1;have I:=g.cell0;have J:=g.cell1;have U:=g.frozen 0;have V:=g.frozen 1
  have r:q.heap.size≠w.heap.size+1+1:=by omega
  have S:q.heap.size≠w.heap.size+1+1+1:=by omega
  have u:x.heap.size≠w.heap.size+1+1:=by omega
  have T:x.heap.size≠w.heap.size+1+1+1:=by omega
  go_region_held3 (fun w'=>w'.cell? ⟨q.heap.size,0,none⟩=some (.bool D)/\w'.cell? ⟨q.heap.size,1,none⟩=some (.slice y C z)/\w'.cell? ⟨x.heap.size,0,none⟩=some (.bool s9)/\w'.cell? ⟨x.heap.size,1,none⟩=some (.slice A9 n9 c9)) (first | with_reducible exact⟨f.cell0,f.cell1,g.cell0,g.cell1⟩ | with_reducible exact⟨f.drew.cell0,f.drew.cell1,g.drew.cell0,g.drew.cell1⟩ | with_reducible exact⟨(f.far r _ _).cell0,(f.far r _ _).cell1,(g.far u _ _).cell0,(g.far u _ _).cell1⟩ | with_reducible exact⟨(f.far r _ _).drew.cell0,(f.far r _ _).drew.cell1,(g.far u _ _).drew.cell0,(g.far u _ _).drew.cell1⟩ | with_reducible exact⟨((f.far r _ _).far S _ _).cell0,((f.far r _ _).far S _ _).cell1,((g.far u _ _).far T _ _).cell0,((g.far u _ _).far T _ _).cell1⟩ | with_reducible exact⟨((f.far r _ _).far S _ _).drew.cell0,((f.far r _ _).far S _ _).drew.cell1,((g.far u _ _).far T _ _).drew.cell0,((g.far u _ _).far T _ _).drew.cell1⟩) (fail)
  go_wp2
  exact bodyPost_ret (v:= .tuple #[.agg #[.bool D,.slice y C z],.agg #[.bool s9,.slice A9 n9 c9],.bool true]) (by simp[results,results140,go_sem,j.cell0,j.cell1,i.cell0,i.cell1]) rfl
   ⟨D,y,C,z,s9,A9,n9,c9,rfl,((p.st j _ _).st (i.far (by omega) _ _) _ _).drew,((h4.st j _ _).st (i.far (by omega) _ _) _ _).drew,by omega,by omega,(fW (fW o.out (by omega) _ _) (by omega) _ _).drew⟩
theorem G4{w:World}{A B:Option Addr}{n c m d:Nat}{s t:Bool}{x y q r:Int}(h:Wr w s A n c x)(k:Wr w t B m d y)(hn:n<=268435456)(hm:m<=268435456)(h0:y≠0)(hq:x.fdiv y=q)(hr:x.fmod y=r):
  Calls prog 140 #[.agg #[.bool s,.slice A n c],.agg #[.bool t,.slice B m d]] w (W3 w (n+m+4) q r):=by
 obtain⟨a,h,rfl⟩:=h;obtain⟨b,k,rfl⟩:=k
 have hb:b≠0:=by rintro rfl;exact h0 (eF _)
 have g:=eE (sg t b) 0
 have i:(ah (sg t b) 0==0)=false:=by
  have:ah (sg t b) 0≠0:=fun e=>h0 (dm.1 e)
  simpa using this
 subst hq;subst hr
 by_cases hs:s=t
 ·subst hs;rw[<-(iK s hb).1,<-(iK s hb).2]
  have:=zv s s h k hn hm hb (Lib.hid rfl) (Lib.hid rfl) i g.1 g.2 (by
   rcases dl s b with⟨e,_⟩ | ⟨_,rfl,e⟩ | ⟨_,rfl,e⟩
   ·exact absurd e hb
   ·rw[e];rcases dl true (a%b)with ⟨_,e'⟩ | ⟨_,_,e'⟩ | ⟨_,e2,_⟩
    ·rw[e'];rfl
    ·rw[e'];rfl
    ·cases e2
   ·rw[e];rcases dl false (a%b)with ⟨_,e'⟩ | ⟨_,e2,_⟩ | ⟨_,_,e'⟩
    ·rw[e'];rfl
    ·cases e2
    ·rw[e'];rfl)
  simpa using this
 ·have f:(s==t)=false:=by simpa using hs
  by_cases h2:a%b=0
  ·rw[<-(gN s t f hb h2).1,<-(gN s t f hb h2).2]
   have:=zv s t h k hn hm hb (Lib.hid rfl) (Lib.hid rfl) i g.1 g.2 (by
    rw[h2,eF,aT rfl]
    have:ah (sg t b) 0≠0:=fun e=>h0 (dm.1 e)
    simp;omega)
   rw[f,h2,eF]at this;rw[eF];exact this
  ·rw[<-(iJ s t f hb h2).1,<-(iJ s t f hb h2).2]
   have:=Fl s t h k hn hm hb (Lib.hid rfl) (Lib.hid rfl) i g.1 g.2 (by
    rcases dl t b with⟨e,_⟩ | ⟨_,rfl,e⟩ | ⟨_,rfl,e⟩
    ·exact absurd e hb
    ·obtain rfl:s=false:=by cases s <;> simp_all
     rcases dl false (a%b)with ⟨e2,_⟩ | ⟨_,e2,_⟩ | ⟨_,_,e'⟩
     ·exact absurd e2 h2
     ·cases e2
     ·rw[e,e'];rfl
    ·obtain rfl:s=true:=by cases s <;> simp_all
     rcases dl true (a%b)with ⟨e2,_⟩ | ⟨_,_,e'⟩ | ⟨_,e2,_⟩
     ·exact absurd e2 h2
     ·rw[e,e'];rfl
     ·cases e2)
   rw[f]at this
   have e1:sg (!false) (a/b)+ -1=sg true (a/b+1):=by simp[sg];omega
   have e2:sg s (a%b)+sg t b=sg t (b-a%b):=by
    have:=Nat.mod_lt a (Nat.pos_of_ne_zero hb)
    revert f
    cases s <;> cases t <;> simp[sg] <;> omega
   rw[e1,e2]at this;exact this
def pO (N E:Int):Int:=if 0<=E then N*((2^E.toNat:Nat):Int)else N.fdiv ((2^(-E).toNat:Nat):Int)
theorem gZ{w:World}{A1:Option Addr}{n c1 a r:Nat}{z:Int}(h1:Rd w A1 n c1 a)(hn:n<=134217728)(hz0:0<=z)(hz:z<=16777216)(hr:a*2^z.toNat=r):Calls prog 164 #[.slice A1 n c1,.int .i64 z] w (P1 w (n+z.toNat/32+1) r):=by
 subst hr;obtain⟨k,rfl⟩:=Int.eq_ofNat_of_zero_le hz0
 rcases Nat.eq_zero_or_pos k with e | e
 ·subst e;refine(zD _ h1 (by omega)).mono ?_;rintro b w' ⟨A,m,c,rfl,hm,d,hb⟩;exact⟨A,m,c,rfl,by simpa using hm,by omega,hb⟩
 ·have:=G9 k h1 hn (by omega) (by omega)
  simpa using this
theorem lu (s:Bool)(N:Int)(p:Nat)(h:sg s N.natAbs=N):sg s (N.natAbs*p)=N*(p:Int):=by
 have:sg s (N.natAbs*p)=sg s N.natAbs*(p:Int):=by cases s <;> simp[sg,Int.neg_mul]
 rw[this,h]
theorem CQ{w:World}{A:Option Addr}{n c:Nat}{s:Bool}{z e r:Int}(h:Wr w s A n c z)(hn:n<=100000)(hr:pO (mk z e).1 (mk z e).2=r):Calls prog 128 #[.agg #[.bool s,.slice A n c,.int .i64 e]] w (W1 w (n+131100) r):=by
 have hb:=eR z e
 revert hr hb
 generalize C:(mk z e).1=F;generalize B:(mk z e).2=d
 intro hr hb
 have y:=Lib.hid C;have x:=Lib.hid B;clear C B;obtain⟨bA,bB⟩:=hb
 by_cases G:0<=d
 ·have E:Hid (F*((2^d.toNat:Nat):Int)=r):=Lib.hid (by rw[<-hr];unfold pO;rw[if_pos G])
  clear hr
  have hk:d.toNat/32<=131072:=by omega
  go_enter func128,ntmps128
  go_wp2_with fail
  refine(bE (h.below (bJ _ _ _)) hn y.out x.out).mono ?_;rintro t w1 ⟨s1,A1,n1,c1,rfl,i,k1,j⟩
  have a:Bx w1 (w.heap.size+1) false none 0 0:=(Bx.newAt _ (by simp) false none 0 0).below j
  have g5:=a.lt;have b:=Bo.new w1 #[.bool s1,.slice A1 n1 c1,.int .i64 d] 94;replace i:=i.below (ab _ (.cells #[.bool s1,.slice A1 n1 c1,.int .i64 d] 94));replace j:=bt j (ab _ (.cells #[.bool s1,.slice A1 n1 c1,.int .i64 d] 94));replace a:=a.below (ab _ (.cells #[.bool s1,.slice A1 n1 c1,.int .i64 d] 94));have f:=Lib.hid (bt (bJ _ _ _) j)
  have q:w1.heap.size≠w.heap.size+1:=by omega
  have W:=Lib.hid (lu s1 F (2^d.toNat) i.wr.eq);have I:=i.wr.rd;have k:=b.c0;have l:=b.c1;have o:=b.c2;clear j;go_wp2
  go_region_held3 (fun w'=>w'.cell? ⟨w1.heap.size,0,none⟩=some (.bool s1)/\w'.cell? ⟨w1.heap.size,1,none⟩=some (.slice A1 n1 c1)/\w'.cell? ⟨w1.heap.size,2,none⟩=some (.int .i64 d)) (first | with_reducible exact⟨b.c0,b.c1,b.c2⟩ | with_reducible exact⟨b.drew.c0,b.drew.c1,b.drew.c2⟩ | with_reducible exact⟨((b.far q 0 _).far q 1 _).c0,((b.far q 0 _).far q 1 _).c1,((b.far q 0 _).far q 1 _).c2⟩)
   (first
    | (go_at_call 164;((with_reducible refine(gZ I.drew (by omega) G (by omega) rfl).mono ?_);rintro t T ⟨A3,n3,c3,rfl,D,k3,m⟩;clear k l o;replace b:=b.drew.below m;replace a:=a.drew.below m;replace f:=Lib.hid (bt f.out.drew m);clear m))
    | (go_at_call 135;((with_reducible refine(bO _ D.rd).mono ?_);rintro t w4 ⟨s4,A4,n4,c4,rfl,u,k4,g⟩;replace b:=b.below g;replace a:=a.below g;replace f:=Lib.hid (bt f.out g);clear g;have L:=a.cell0;have M:=a.cell1;have q0:=a.frozen 0;have q1:=a.frozen 1)))
  go_wp2
  exact bodyPost_ret (v:= .agg #[.bool s4,.slice A4 n4 c4]) (by simp[results,results128,go_sem,L,M]) rfl ⟨s4,A4,n4,c4,rfl,by
   have X:=W.out.trans E.out;rw[<-X];exact u.st a _ _,by omega,fW f.out (by omega) _ _⟩
 ·have E:Hid (F.fdiv ((2^(-d).toNat:Nat):Int)=r):=Lib.hid (by rw[<-hr];unfold pO;rw[if_neg G])
  clear hr
  have hk:(-d).toNat/32<=131072:=by omega
  have Y:d < 0:=by omega
  have H:0<= -d:=by omega
  have Z: -d<=4194304:=by omega
  have S:((2^(-d).toNat:Nat):Int)≠0:=by
   have:0 < 2^(-d).toNat:=Nat.pow_pos (by decide)
   omega
  have V:=Lib.hid S;clear S
  go_enter func128,ntmps128
  go_wp2_with fail
  refine(bE (h.below (bJ _ _ _)) hn y.out x.out).mono ?_;rintro t w1 ⟨s1,A1,n1,c1,rfl,i,k1,j⟩
  have a:Bx w1 (w.heap.size+1) false none 0 0:=(Bx.newAt _ (by simp) false none 0 0).below j
  have g5:=a.lt;have b:=(Bo.new w1 #[.bool s1,.slice A1 n1 c1,.int .i64 d] 94).below (ab _ (.cells #[.int .u32 1] 103));replace j:=bt j (bJ _ (.cells #[.bool s1,.slice A1 n1 c1,.int .i64 d] 94) (.cells #[.int .u32 1] 103));replace i:=i.below (bJ _ (.cells #[.bool s1,.slice A1 n1 c1,.int .i64 d] 94) (.cells #[.int .u32 1] 103));replace a:=a.below (bJ _ (.cells #[.bool s1,.slice A1 n1 c1,.int .i64 d] 94) (.cells #[.int .u32 1] 103))
  have f:=Lib.hid (bt (bJ _ _ _) j);have k:=b.c0;have l:=b.c1;have o:=b.c2;clear j
  go_wp2_with fail
  have h1:Rd ((w1.alloc (.cells #[.bool s1,.slice A1 n1 c1,.int .i64 d] 94)).alloc (.cells #[.int .u32 1] 103)) (some ⟨w1.heap.size+1,0,none⟩) 1 1 1:=by
   have:=iz (w1.alloc (.cells #[.bool s1,.slice A1 n1 c1,.int .i64 d] 94))
   simpa using this
  refine(gZ h1 (by omega) H (by omega) rfl).mono ?_;rintro t w2 ⟨A3,n3,c3,rfl,D,k3,m⟩;clear k l o h1;replace b:=b.below m;replace a:=a.below m;replace i:=i.below m;replace f:=Lib.hid (bt f.out m);clear m
  go_wp2_with fail
  refine(bO false D.rd).mono ?_;rintro t T ⟨s4,A4,n4,c4,rfl,u,k4,g⟩
  have R:sg false (1*2^(-d).toNat)=((2^(-d).toNat:Nat):Int):=by rw[Nat.one_mul];rfl
  rw[R]at u;clear R;have P:=Bx.new T s4 A4 n4 c4;replace u:=u.below (ab _ (.cells #[.bool s4,.slice A4 n4 c4] 43));replace g:=bt g (ab _ (.cells #[.bool s4,.slice A4 n4 c4] 43));replace b:=b.below g;replace a:=a.below g;replace i:=i.below g;replace f:=Lib.hid (bt f.out g);have k:=b.c0;have l:=b.c1;have N:=P.cell0;have O:=P.cell1
  clear g D
  go_wp2_with fail
  refine(G4 i.wr u.wr (by omega) (by omega) V.out E.out rfl).mono ?_;rintro t U ⟨s5,A5,n5,c5,s6,A6,n6,c6,rfl,J,p6,k5,k6,p⟩;clear k l N O
  have g6:w.heap.size+1 < U.heap.size:=(a.below p).lt
  replace J:=J.below (bJ _ (.cells #[.bool s5,.slice A5 n5 c5] 43) (.cells #[.bool s6,.slice A6 n6 c6] 43));replace p:=bt p (bJ _ (.cells #[.bool s5,.slice A5 n5 c5] 43) (.cells #[.bool s6,.slice A6 n6 c6] 43));replace a:=a.below p;replace f:=Lib.hid (bt f.out p);have Q:=(Bx.new U s5 A5 n5 c5).below (ab _ (.cells #[.bool s6,.slice A6 n6 c6] 43));have bC:=Q.cell0
  have bD:=Q.cell1;have L:=a.cell0;have M:=a.cell1;have q0:=a.frozen 0;have q1:=a.frozen 1;clear p p6;go_wp2;exact bodyPost_ret (v:= .agg #[.bool s5,.slice A5 n5 c5]) (by simp[results,results128,go_sem,L,M]) rfl ⟨s5,A5,n5,c5,rfl,J.st a _ _,by omega,fW f.out (by omega) _ _⟩
def IE:List Int:=[0,1,28,2,29,14,24,3,30,22,20,15,25,17,4,8,31,27,13,23,21,19,16,7,26,12,18,6,11,5,10,9]
def dN (w:World):Prop:=∀i,i < 32->w.cell? ⟨1,i,none⟩=some (.int .u8 (IE.getD i 0))
section
variable {w w':World}
theorem dN.lt (h:dN w):1 < w.heap.size:=World.block_lt_of_cell? w _ (h 0 (by decide))
theorem dN.keep (h:dN w)(hk:w'.heap[1]?=w.heap[1]?):dN w':=fun i hi=>by
 rw[<-h i hi];simp only[World.cell?,hk]
theorem dN.below (h:dN w)(hb:Below w.heap.size w w'):dN w':=h.keep (hb.block _ h.lt)
abbrev dN.b:= @dN.below
instance:Mv (dN w) w w' (dN w'):=⟨fun h b=>h.below b⟩
end
theorem yk (a b:Nat):(2*a+1) &&& (2*b+1)=2*(a &&& b)+1:=by
 apply Nat.eq_of_testBit_eq
 intro i
 cases i with
 | zero=>simp [Nat.testBit_zero]
 | succ i=>
  rw[Nat.testBit_and,Nat.testBit_add_one,Nat.testBit_add_one,Nat.testBit_add_one,show (2*a+1) /2=a by omega,show (2*b+1) /2=b by omega,show (2*(a &&& b)+1) /2=a &&& b by omega,Nat.testBit_and]
theorem yj (q j:Nat)(h:q < 2^j):q &&& (2^j-(q+1))=0:=by
 apply Nat.eq_of_testBit_eq
 intro i
 rw[Nat.testBit_and,Nat.testBit_two_pow_sub_succ h]
 cases q.testBit i <;> simp
theorem kE{x:Nat}(h0:x≠0)(hx:x < 4294967296):x &&& (4294967296-x)=2^v2 x/\v2 x < 32:=by
 obtain⟨e,c⟩:=eG x h0
 have b:v2 x < 32:=by
  have h1:=ej h0
  have h2:2^v2 x < 2^32:=by omega
  exact(Nat.pow_lt_pow_iff_right (by decide)).1 h2
 refine⟨?_,b⟩
 revert e c b
 generalize x/2^v2 x=m;generalize v2 x=k
 intro e c b
 have d:(4294967296:Nat)=2^(32-k)*2^k:=by rw[<-Nat.pow_add,show 32-k+k=32 by omega]
 have hm:m < 2^(32-k):=by
  have:m*2^k < 2^(32-k)*2^k:=by rw[<-d,<-e];exact hx
  exact Nat.lt_of_mul_lt_mul_right this
 have e2:4294967296-x=(2^(32-k)-m)*2^k:=by rw[Nat.sub_mul,<-d,<-e]
 have a:(m*2^k) &&& ((2^(32-k)-m)*2^k)=(m &&& (2^(32-k)-m))*2^k:=by
  rw[<-Nat.shiftLeft_eq,<-Nat.shiftLeft_eq,<-Nat.shiftLeft_eq,Nat.shiftLeft_and_distrib]
 rw[e2]
 have e3:x &&& (2^(32-k)-m)*2^k=(m*2^k) &&& ((2^(32-k)-m)*2^k):=by rw[<-e]
 rw[e3,a];obtain⟨j,f⟩:∃j,32-k=j+1:=⟨31-k,by omega⟩
 rw[f]at hm|-;obtain⟨q,rfl⟩:∃q,m=2*q+1:=⟨m/2,by omega⟩
 have hq:q < 2^j:=by rw[Nat.pow_succ]at hm;omega
 rw[show 2^(j+1)-(2*q+1)=2*(2^j-(q+1))+1 by rw[Nat.pow_succ];omega,yk,yj q j hq]
 simp
theorem AG:∀k:Nat,k < 32->(((2^k:Nat):Int)*125613361%4294967296/134217728).toNat < 32/\0<=((2^k:Nat):Int)*125613361%4294967296/134217728/\IE.getD (((2^k:Nat):Int)*125613361%4294967296/134217728).toNat 0=(k:Int):=by decide +kernel
theorem ID{w:World}{x:Nat}(hT:dN w)(h0:x≠0)(hx:x < 4294967296):Calls prog 251 #[.int .u32 (x:Int)] w fun e w'=>e= .returned (.int .i64 (v2 x:Nat))/\w'=w:=by
 have hq:((x:Int)==0)=false:=by
  have:(x:Int)≠0:=by omega
  simpa using this
 obtain⟨e1,f⟩:=kE h0 hx
 have hb:bits BinOp.and IntKind.u32 (x:Int) (-(x:Int)%4294967296)=((2^v2 x:Nat):Int):=by
  have e2: -(x:Int)%4294967296=((4294967296-x:Nat):Int):=by omega
  rw[e2,u32_and_nat _ _ hx (by omega),e1]
 obtain⟨b,c,g⟩:=AG (v2 x) f;have a:=hT _ b;rw[g]at a
 revert hb b c a
 generalize ((2^v2 x:Nat):Int)=p
 intro hb b c a
 obtain⟨i,hi⟩:∃i:Int,p*125613361%4294967296/134217728=i:=⟨_,rfl⟩;rw[hi]at b c a;obtain⟨i,rfl⟩:=Int.eq_ofNat_of_zero_le c
 have h:i < 32:=by simpa using b
 have d:w.cell? ⟨1,i,none⟩=some (.int .u8 ((v2 x:Nat):Int)):=by simpa using a
 clear a b c g hT e1
 revert d f
 generalize v2 x=k
 intro f a
 go_enter func251,ntmps251
 go_wp2
 go_ret
 exact⟨rfl,rfl⟩
theorem CZ{a b:Int}(h:a=b):Ending.returned (.int .i64 a)= .returned (.int .i64 b):=by rw[h]
theorem FT{x y:Nat}(h0:x≠0)(hx:x < 4294967296):v2 (x+4294967296*y)=v2 x:=by
 obtain⟨e,b⟩:=eG x h0;have a:=(kE h0 hx).2
 revert e b a
 generalize x/2^v2 x=m;generalize v2 x=k
 intro e b a
 obtain⟨j,c⟩:∃j,32-k=j+1:=⟨31-k,by omega⟩
 have d:(4294967296:Nat)=2*2^j*2^k:=by
  rw[show 2*2^j=2^(j+1) by rw[Nat.pow_succ,Nat.mul_comm],<-c,<-Nat.pow_add,show 32-k+k=32 by omega]
 refine(sx (m:=m+2*(2^j*y)) (k:=k) (by omega) ?_).1;rw[Nat.add_mul,<-e,d]
 congr 1
 rw[Nat.mul_right_comm,Nat.mul_assoc 2,Nat.mul_assoc 2]
theorem Dr{y:Nat}(h:y≠0):v2 (4294967296*y)=v2 y+32:=by
 obtain⟨e,a⟩:=eG y h;refine(sx (m:=y/2^v2 y) (k:=v2 y+32) a ?_).1;rw[Nat.pow_add,<-Nat.mul_assoc,<-e,Nat.mul_comm]
theorem AH:∀{xs:List Nat},aR xs->af xs≠0->∃j,j < xs.length/\(∀i,i < j->xs.getD i 0=0)/\xs.getD j 0≠0/\v2 (af xs)=j*32+v2 (xs.getD j 0)
 | [],_,h=>absurd rfl h
 | x::xs,hl,h=>by
  rw[bZ]at h|-
  by_cases hx:x=0
  ·subst hx
   have h1:af xs≠0:=by omega
   obtain⟨j,h2,a,h4,b⟩:=AH hl.tail h1
   refine⟨j+1,by simp;omega,fun i hi=>?_,by simpa using h4,?_⟩
   ·cases i with
    | zero=>rfl
    | succ i=>simpa using a i (by omega)
   ·rw[Nat.zero_add,Dr h1,b,show (0::xs).getD (j+1) 0=xs.getD j 0 by simp]
    omega
  ·exact⟨0,by simp,fun i hi=>by omega,by simpa using hx,by rw[FT hx hl.head];simp⟩
theorem sR{w:World}{A:Option Addr}{n c a:Nat}{r:Int}(hT:dN w)(h:Rd w A n c a)(h0:a≠0)(hr:((v2 a:Nat):Int)=r):Calls prog 242 #[.slice A n c] w (PI w r):=by
 obtain⟨b,xs,hs,rfl⟩:=h;obtain⟨j,y,hz,g,l⟩:=AH hs.lim h0;have q:=hs.len;have p:=hs.cap;have m:=hs.big;obtain⟨o,rfl,hcell⟩:=hs.at (by omega);have d:=hs.lim.getD j;have e:=hcell j (by omega);obtain⟨x,hx⟩:∃x,xs.getD j 0=x:=⟨_,rfl⟩;rw[hx]at g l e d
 have s:Hid ((j:Int)*32+((v2 x:Nat):Int)=r):=Lib.hid (by rw[<-hr,l];omega)
 have z:=(kE g d).2
 have u:((x:Int)==0)=false:=by
  have:(x:Int)≠0:=by omega
  simpa using this
 have t:=Lib.hid hz;clear hz l hr h0
 go_enter func242,ntmps242
 go_wp2
 go_loop [3] (fun i=>∃k:Nat,k<=j/\i= .int .i64 k) (fun i=>j-(intOf i).toNat)
 case atStart=>exact ⟨0,Nat.zero_le _,rfl⟩
 case round=>
  obtain⟨k,hk1,rfl⟩:=hrel
  by_cases hlt:k < j
  ·have f:=hcell k (by omega);rw[t.out k hlt]at f;clear hcell e;go_wp2
   go_round
   case rel=>exact ⟨k+1,by omega,by go_num⟩
   case measure=>simp [intOf];omega
  ·obtain rfl:k=j:=by omega
   clear hcell
   go_wp2_with (first
    | (go_at_call 251;((with_reducible refine(ID hT g d).mono ?_);rintro v w1 ⟨rfl,rfl⟩)))
   go_ret
   exact⟨CZ s.out,Below.refl _ _⟩
def tg (e:Int):Bool:=decide (-4194304<=e) && decide (e<=4194304)
theorem gM{w:World}{e:Int}{r:Bool}(hr:tg e=r):Calls prog 241 #[.int .i64 e] w (PB w r):=by
 subst hr
 unfold tg
 by_cases h: -4194304<=e
 ·have a:decide (-4194304<=e)=true:=decide_eq_true h
  rw[a]
  go_enter func241,ntmps241
  go_wp2
  go_ret
  exact⟨rfl,Below.refl _ _⟩
 ·have a:decide (-4194304<=e)=false:=decide_eq_false h
  rw[a]
  go_enter func241,ntmps241
  go_wp2
  go_ret
  exact⟨rfl,Below.refl _ _⟩
def oG (s:Bool)(n a:Nat)(e:Int):Bool:=kI s n a && (if n=0 then e==0 else ((((a%4294967296:Nat):Int)%2==1) && (decide (-4194304<=e) && decide (e<=4194304))))
end Go.Proofs.YteigedaefgmojaaGreatDoor
namespace Go.Proofs.YteigedaefgmojaaGreatDoor
open Go.Proofs.Tryz
set_option linter.unusedVariables false
theorem aN (k:Nat):(0:Int) < 2^k:=Int.pow_pos (by decide)
theorem bM (z:Int)(k:Nat):(z*2^k).natAbs=z.natAbs*2^k:=by
 rw[Int.natAbs_mul,Int.natAbs_pow]
 rfl
def Nf (p:Int × Int):Prop:=mk p.1 p.2=p
theorem EQ{z e:Int}(hz:z.natAbs%2=1)(h1: -4194304<=e)(h2:e<=4194304):mk z e=(z,e):=by
 have c:z≠0:=by omega
 have b:=nQ hz;obtain⟨e1,e2,e3,d,a⟩:=gl (z:=z) (e:=e) c h1 (by rw[b];simpa using h2);rw[b]at e1 a
 apply Prod.ext
 ·simpa using a.symm
 ·simpa using e1
theorem iQ (z e:Int):mk z e=(0,0)\/(z≠0/\ -4194304<=e/\e<=4194304/\e+(v2 z.natAbs:Nat)<=4194304/\(mk z e).1.natAbs%2=1/\(mk z e).2=e+(v2 z.natAbs:Nat)/\z=(mk z e).1*2^v2 z.natAbs):=by
 by_cases c:z=0\/e < -4194304\/4194304 < e\/4194304 < e+(v2 z.natAbs:Nat)
 ·left
  unfold mk
  rw[if_pos c]
 ·right
  have a:z≠0:=by omega
  obtain⟨e1,e2,e3,d,b⟩:=gl (z:=z) (e:=e) a (by omega) (by omega);refine⟨a,by omega,by omega,by omega,?_,e1,b⟩
  rw[e2];exact(eG z.natAbs (by omega)).2
theorem fh (z e:Int):Nf (mk z e):=by
 rcases iQ z e with h | ⟨a,h1,h2,b,h4,c,d⟩
 ·unfold Nf
  rw[h];exact bU 0
 ·exact EQ h4 (by omega) (by omega)
theorem Nf.cases{p:Int × Int}(h:Nf p):p=(0,0)\/(p.1≠0/\p.1.natAbs%2=1/\ -4194304<=p.2/\p.2<=4194304):=by
 have hb:=eR p.1 p.2
 rcases iQ p.1 p.2 with e | ⟨a,h1,h2,b,h4,c,d⟩
 ·left
  rw[<-e];exact h.symm
 ·right
  rw[show mk p.1 p.2=p from h]at h4
  exact⟨a,h4,h1,h2⟩
theorem Nf.zero{p:Int × Int}(h:Nf p)(h0:p.1=0):p=(0,0):=by
 rcases h.cases with e | ⟨e,_⟩
 ·exact e
 ·exact absurd h0 e
theorem Nf.bd{p:Int × Int}(h:Nf p): -4194304<=p.2/\p.2<=4194304:=by
 rcases h.cases with e | ⟨_,_,e⟩
 ·rw[e];simp
 ·exact e
theorem yB (z e:Int):mk (-z) e=(-(mk z e).1,(mk z e).2):=by
 by_cases hz:z=0
 ·subst hz;rw[Int.neg_zero,bU];rfl
 ·unfold mk
  rw[Int.natAbs_neg]
  by_cases c:z=0\/e < -4194304\/4194304 < e\/4194304 < e+(v2 z.natAbs:Nat)
  ·have a: -z=0\/e < -4194304\/4194304 < e\/4194304 < e+(v2 z.natAbs:Nat):=by omega
   rw[if_pos c,if_pos a];rfl
  ·have a:¬(-z=0\/e < -4194304\/4194304 < e\/4194304 < e+(v2 z.natAbs:Nat)):=by omega
   rw[if_neg c,if_neg a]
   apply Prod.ext
   ·rcases Int.lt_or_gt_of_ne hz with h | h
    ·have b:¬ -z < 0:=by omega
     rw[if_neg b,if_pos h]
     simp
    ·have b: -z < 0:=by omega
     have h2:¬z < 0:=by omega
     rw[if_pos b,if_neg h2]
     simp
   ·rfl
def KK:Nat:=4194304
theorem eB:KK=4194304:=rfl
def vl (p:Int × Int):Int:=p.1*2^(p.2+KK).toNat
theorem jl:vl (0,0)=0:=by unfold vl;exact Int.zero_mul _
theorem pG{a b p:Int}(hp:0 < p):ah (a*p) (b*p)=ah a b:=by
 unfold ah
 by_cases h1:a < b
 ·rw[if_pos h1,if_pos (Int.mul_lt_mul_of_pos_right h1 hp)]
 ·have c:¬a*p < b*p:=Int.not_lt.2 (Int.mul_le_mul_of_nonneg_right (Int.not_lt.1 h1) (Int.le_of_lt hp))
  rw[if_neg h1,if_neg c]
  by_cases h2:b < a
  ·rw[if_pos h2,if_pos (Int.mul_lt_mul_of_pos_right h2 hp)]
  ·have d:¬b*p < a*p:=Int.not_lt.2 (Int.mul_le_mul_of_nonneg_right (Int.not_lt.1 h2) (Int.le_of_lt hp))
   rw[if_neg h2,if_neg d]
def kn (h:Nat)(p:Int × Int):Prop:=Nf p/\ -(h:Int)<=p.2/\p.1.natAbs*2^(p.2+h).toNat < 2^(2*h)
theorem kn.nf{h:Nat}{p:Int × Int}(f:kn h p):Nf p:=f.1
theorem kn.lo{h:Nat}{p:Int × Int}(f:kn h p): -(h:Int)<=p.2:=f.2.1
theorem kn.abs{h:Nat}{p:Int × Int}(f:kn h p):p.1.natAbs < 2^(2*h):=
 Nat.lt_of_le_of_lt (Nat.le_mul_of_pos_right _ (Nat.pow_pos (by decide))) f.2.2
theorem kn.hi{h:Nat}{p:Int × Int}(f:kn h p):p.2<=h:=by
 rcases f.1.cases with e | ⟨e,_⟩
 ·rw[e];simp
 ·have h1:1<=p.1.natAbs:=by omega
  have h2:=Nat.lt_of_le_of_lt (Nat.mul_le_mul_right (2^(p.2+h).toNat) h1) f.2.2;rw[Nat.one_mul]at h2
  have:=(Nat.pow_lt_pow_iff_right (a:=2) (by decide)).1 h2
  have:=f.lo
  omega
theorem kn.zero (h:Nat):kn h (0,0):=⟨bU 0,by simp,by simp;exact Nat.pow_pos (by decide)⟩
theorem kn.mono{h k:Nat}{p:Int × Int}(f:kn h p)(hk:h<=k):kn k p:=by
 have h1:=f.lo;refine⟨f.1,by omega,?_⟩
 have e1:(2:Nat)^(p.2+k).toNat=2^(p.2+h).toNat*2^(k-h):=by rw[<-Nat.pow_add];congr 1;omega
 have e2:(2:Nat)^(2*k)=2^(2*h)*2^(k-h)*2^(k-h):=by rw[<-Nat.pow_add,<-Nat.pow_add];congr 1;omega
 rw[e1,e2,<-Nat.mul_assoc];refine Nat.lt_of_lt_of_le (Nat.mul_lt_mul_of_pos_right f.2.2 (Nat.pow_pos (by decide))) (Nat.le_mul_of_pos_right _ (Nat.pow_pos (by decide)))
theorem kL{z e:Int}{h:Nat}(hh:h<=4194304)(h1: -(h:Int)<=e)(h2:z.natAbs*2^(e+h).toNat < 2^(2*h)):kn h (mk z e)/\vl (mk z e)=z*2^(e+KK).toNat:=by
 by_cases d:z=0
 ·subst d;rw[bU];exact⟨kn.zero h,by rw[jl,Int.zero_mul]⟩
 ·have g:z.natAbs≠0:=by omega
  have f:=Nat.lt_of_le_of_lt (Nat.mul_le_mul_right (2^(e+h).toNat) (ej g)) h2;rw[<-Nat.pow_add]at f;have h4:=(Nat.pow_lt_pow_iff_right (a:=2) (by decide)).1 f;obtain⟨e1,e2,e3,i,c⟩:=gl (z:=z) (e:=e) d (by omega) (by omega);have b:=fh z e
  revert e1 c b
  generalize j:v2 z.natAbs=v at *;generalize mk z e=p;obtain⟨N,E⟩:=p
  intro e1 c b
  simp only at e1 c;subst c;subst e1;refine⟨⟨b,by simp only;omega,?_⟩,?_⟩
  ·simp only
   rw[bM,Nat.mul_assoc,<-Nat.pow_add,show v+(e+h).toNat=(e+v+h).toNat by omega]at h2
   exact h2
  ·unfold vl
   simp only
   rw[Int.mul_assoc,<-Int.pow_add]
   congr 2
   rw[eB]
   omega
def pl (p q:Int × Int):Int × Int:=if p.1=0 then q else if q.1=0 then p else mk (p.1*2^(p.2-min p.2 q.2).toNat+q.1*2^(q.2-min p.2 q.2).toNat) (min p.2 q.2)
theorem CP{p q:Int × Int}(hp:Nf p)(hq:Nf q):pl p q=pl q p:=by
 unfold pl
 by_cases h1:p.1=0
 ·rw[if_pos h1]
  by_cases h2:q.1=0
  ·rw[if_pos h2,hp.zero h1,hq.zero h2]
  ·rw[if_neg h2,if_pos h1]
 ·rw[if_neg h1]
  by_cases h2:q.1=0
  ·rw[if_pos h2,if_pos h2]
  ·rw[if_neg h2,if_neg h2,if_neg h1,Int.min_comm q.2 p.2,Int.add_comm]
theorem GX{p q:Int × Int}(hp:Nf p)(hq:Nf q):Nf (pl p q):=by
 unfold pl
 split
 ·exact hq
 ·split
  ·exact hp
  ·exact fh _ _
theorem zr{h:Nat}{p q:Int × Int}(hh:h+1<=4194304)(fp:kn h p)(fq:kn h q):kn (h+1) (pl p q)/\vl (pl p q)=vl p+vl q:=by
 unfold pl
 by_cases h1:p.1=0
 ·rw[if_pos h1,fp.1.zero h1,jl,Int.zero_add];exact⟨fq.mono (by omega),rfl⟩
 ·rw[if_neg h1]
  by_cases h2:q.1=0
  ·rw[if_pos h2,fq.1.zero h2,jl,Int.add_zero];exact⟨fp.mono (by omega),rfl⟩
  ·rw[if_neg h2];have f:=fp.lo;have lq:=fq.lo;obtain⟨l,hl⟩:∃l,min p.2 q.2=l:=⟨_,rfl⟩;rw[hl]
   have c:l<=p.2:=by omega
   have l2:l<=q.2:=by omega
   have d: -(h:Int)<=l:=by omega
   obtain⟨a1,a2⟩:=kL (z:=p.1*2^(p.2-l).toNat+q.1*2^(q.2-l).toNat) (e:=l) (h:=h+1) hh (by omega) (by
    have t:=Int.natAbs_add_le (p.1*2^(p.2-l).toNat) (q.1*2^(q.2-l).toNat);rw[bM,bM]at t;refine Nat.lt_of_le_of_lt (Nat.mul_le_mul_right _ t) ?_;have g:=fp.2.2;have i:=fq.2.2
    rw[Nat.add_mul,Nat.mul_assoc,Nat.mul_assoc,<-Nat.pow_add,<-Nat.pow_add,
     show (p.2-l).toNat+(l+(h+1:Nat)).toNat=(p.2+h).toNat+1 by omega,show (q.2-l).toNat+(l+(h+1:Nat)).toNat=(q.2+h).toNat+1 by omega,
     show 2*(h+1)=2*h+1+1 by omega,Nat.pow_succ,Nat.pow_succ,Nat.pow_succ,Nat.pow_succ,<-Nat.mul_assoc,<-Nat.mul_assoc]
    omega)
   refine⟨a1,?_⟩;rw[a2,Int.add_mul,Int.mul_assoc,Int.mul_assoc,<-Int.pow_add,<-Int.pow_add]
   unfold vl
   have a:(p.2-l).toNat+(l+KK).toNat=(p.2+KK).toNat:=by rw[eB];omega
   have b:(q.2-l).toNat+(l+KK).toNat=(q.2+KK).toNat:=by rw[eB];omega
   rw[a,b]
def ml (p q:Int × Int):Int × Int:=mk (p.1*q.1) (p.2+q.2)
theorem Cz (p q:Int × Int):ml p q=ml q p:=by unfold ml;rw[Int.mul_comm,Int.add_comm]
def ng (p:Int × Int):Int × Int:=(-p.1,p.2)
theorem Hw (p:Int × Int):vl (ng p)= -vl p:=Int.neg_mul _ _
theorem GQ{p:Int × Int}(h:Nf p):Nf (ng p):=by
 unfold Nf ng
 rw[yB,show mk p.1 p.2=p from h]
def vy (l:List (Int × Int)):Int × Int:=l.foldl (fun a p=>pl a (mk p.1 p.2)) (0,0)
