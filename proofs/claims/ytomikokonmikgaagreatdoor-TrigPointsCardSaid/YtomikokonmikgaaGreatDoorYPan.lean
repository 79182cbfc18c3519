/-
 Contracts that the proof rests on.
-/
import Derived.StillTailTactics
import Derived.Test.YtomikokonmikgaaGreatDoorYPal
import Derived.Test.YtomikokonmikgaaGreatDoorYPam
namespace Go.Proofs.YtomikokonmikgaaGreatDoor
set_option maxHeartbeats 4000000
open Go.RowKit
set_option linter.unusedVariables false
theorem qTwo{w:World}{A B:Option Addr}{n c m d:Nat}{s t:Bool}{x y r:Int}(h:Wr w s A n c x)(k:Wr w t B m d y)(hn:n<=268435456)(hm:m<=268435456)(hr:x*y=r):
  Calls Tryz.prog 130 #[.agg #[.bool s,.slice A n c],.agg #[.bool t,.slice B m d]] w (W1 w (n+m) r):=by
 obtain⟨a,h,e1⟩:=h;obtain⟨b,k,e2⟩:=k
 have HR:Hid (sg (s !=t) (a*b)=r):=Lib.hid (by rw[<-hr,<-e1,<-e2];exact sg_mul s t a b)
 clear hr e1 e2
 go_enter Tryz.func130,Tryz.ntmps130
 go_wp2;obtain⟨X1,X2,X3,B0⟩:=box3 w s t A B n c m d rfl;replace h:=h.below B0;replace k:=k.below B0;have HB:=Lib.hid B0;clear B0;have x10:=X1.cell0;have x11:=X1.cell1;have x20:=X2.cell0;have x21:=X2.cell1
 go_region_held3 (fun w'=>w'.cell? ⟨w.heap.size,0,none⟩=some (.bool s)/\w'.cell? ⟨w.heap.size,1,none⟩=some (.slice A n c)/\w'.cell? ⟨w.heap.size+1,0,none⟩=some (.bool t)/\w'.cell? ⟨w.heap.size+1,1,none⟩=some (.slice B m d))
  (first | with_reducible exact⟨x10,x11,x20,x21⟩ | with_reducible exact⟨X1.cell0,X1.cell1,X2.cell0,X2.cell1⟩ | with_reducible exact⟨X1.drew.cell0,X1.drew.cell1,X2.drew.cell0,X2.drew.cell1⟩ | with_reducible exact⟨(X1.far (Nat.ne_of_lt (Nat.lt_succ_of_lt (Nat.lt_succ_self _))) _ _).cell0,(X1.far (Nat.ne_of_lt (Nat.lt_succ_of_lt (Nat.lt_succ_self _))) _ _).cell1,(X2.far (Nat.ne_of_lt (Nat.lt_succ_self _)) _ _).cell0,(X2.far (Nat.ne_of_lt (Nat.lt_succ_self _)) _ _).cell1⟩)
  (first
   | (go_at_call 193;((with_reducible refine(rMul h.drew k.drew hn hm rfl).mono ?_);rintro e w1 ⟨A1,n1,c1,rfl,h1,k1,B1⟩;clear x10 x11 x20 x21;replace X1:=X1.drew.below B1;replace X2:=X2.drew.below B1;replace X3:=X3.drew.below B1;replace HB:=Lib.hid (bt HB.out.drew B1);clear B1))
   | (go_at_call 61;((with_reducible refine(qMake (!(s==t)) h1.rd).mono ?_);rintro e w2 ⟨s2,A2,n2,c2,rfl,h2,k2,B2⟩;replace X1:=X1.below B2;replace X2:=X2.below B2;replace X3:=X3.below B2;replace HB:=Lib.hid (bt HB.out B2);clear B2;have y30:=X3.cell0;have y31:=X3.cell1;have f30:=X3.frozen 0;have f31:=X3.frozen 1)))
 go_wp2;exact bodyPost_ret (v:= .agg #[.bool s2,.slice A2 n2 c2]) (by simp[results,Tryz.results130,go_sem,X3.cell0,X3.cell1]) rfl ⟨s2,A2,n2,c2,rfl,HR.out▸h2.st X3 _ _,by omega,st2 HB.out (by omega) _ _⟩
section
variable {w:World} {g:Nat} {a b c:Value} {T:TypeId}
theorem Bo.c0 (h:Bo w g #[a,b,c] T):w.cell? ⟨g,0,none⟩=some a:=h.cell 0
theorem Bo.c1 (h:Bo w g #[a,b,c] T):w.cell? ⟨g,1,none⟩=some b:=h.cell 1
theorem Bo.c2 (h:Bo w g #[a,b,c] T):w.cell? ⟨g,2,none⟩=some c:=h.cell 2
end
theorem dbox2 (w:World)(s:Bool)(A:Option Addr)(n c:Nat)(e:Int){W:World}(hW:W=(w.alloc (.cells #[.bool s,.slice A n c,.int .i64 e] 124)).alloc (.cells #[.bool false,.slice none 0 0,.int .i64 0] 124)):
  Bd W w.heap.size s A n c e/\Bd W (w.heap.size+1) false none 0 0 0/\Below w.heap.size w W:=by
 subst hW;exact⟨(Bo.new w _ _).below (bel1 _ _),Bo.newAt _ (by simp) _ _,bel2 _ _ _⟩
theorem mk_bd (z e:Int): -4194304<=(mk z e).2/\(mk z e).2<=4194304:=by
 unfold mk
 split
 ·simp
 ·rename_i h
  simp only
  omega
def mv (z e k:Int):Int × Int:=if 16777216 < k\/k < -16777216 then (0,0)else mk (mk z e).1 ((mk z e).2+k)
theorem q3Move{w:World}{A:Option Addr}{n c:Nat}{s:Bool}{z e k N E:Int}(h:Wr w s A n c z)(hn:n<=100000)(hN:(mv z e k).1=N)(hE:(mv z e k).2=E):Calls Tryz.prog 202 #[.agg #[.bool s,.slice A n c,.int .i64 e],.int .i64 k] w (D1 w n N E):=by
 have hb:=mk_bd z e
 by_cases hc:16777216 < k\/k < -16777216
 ·have hm:mv z e k=(0,0):=by unfold mv;rw[if_pos hc]
  rw[hm]at hN hE;subst hN;subst hE;clear hm
  have hc2:16777216 < k\/(¬16777216 < k/\k < -16777216):=by omega
  clear hc
  rcases hc2 with t1 | ⟨t1,t2⟩
  all_goals
   go_enter Tryz.func202,Tryz.ntmps202
   go_wp2_with fail
   obtain⟨X1,XR,B0⟩:=dbox2 w s A n c e rfl;refine(q3Make (h.below B0) hn rfl rfl).mono ?_;rintro ee w1 ⟨s1,A1,n1,c1,rfl,p1,k1,B1⟩;replace XR:=(XR.below B1).below (bel1 _ (.cells #[.bool s1,.slice A1 n1 c1,.int .i64 (mk z e).2] 124));have HB:=Lib.hid (bt B0 (bt B1 (bel1 _ (.cells #[.bool s1,.slice A1 n1 c1,.int .i64 (mk z e).2] 124))));have r0:=XR.c0;have r1:=XR.c1
   have r2:=XR.c2;have q0:=XR.frozen 0;have q1:=XR.frozen 1;have q2:=XR.frozen 2;clear B1 B0 X1;go_wp2;exact bodyPost_ret (v:= .agg #[.bool false,.slice none 0 0,.int .i64 0]) (by simp[results,Tryz.results202,go_sem,r0,r1,r2]) rfl ⟨false,none,0,0,rfl,Wn.zero.st3 XR _ _ _ _ _ (by simp[no32]),Nat.zero_le _,st3 HB.out (by omega) _ _ _⟩
 ·have hm:mv z e k=mk (mk z e).1 ((mk z e).2+k):=by unfold mv;rw[if_neg hc]
  rw[hm]at hN hE
  have t1:¬16777216 < k:=by omega
  have t2:¬k < -16777216:=by omega
  clear hm hc
  revert hb hN hE
  generalize hN1:(mk z e).1=N1;generalize hE1:(mk z e).2=E1
  intro hN hE hb
  have HN1:=Lib.hid hN1;have HE1:=Lib.hid hE1;have HN:=Lib.hid hN;have HE:=Lib.hid hE;clear hN1 hE1 hN hE;obtain⟨hb1,hb2⟩:=hb
  go_enter Tryz.func202,Tryz.ntmps202
  go_wp2_with fail
  obtain⟨X1,XR,B0⟩:=dbox2 w s A n c e rfl;refine(q3Make (h.below B0) hn HN1.out HE1.out).mono ?_;rintro ee w1 ⟨s1,A1,n1,c1,rfl,p1,k1,B1⟩;replace XR:=(XR.below B1).below (bel1 _ (.cells #[.bool s1,.slice A1 n1 c1,.int .i64 E1] 124));have X5:=Bo.new w1 #[.bool s1,.slice A1 n1 c1,.int .i64 E1] 124;have HB:=Lib.hid (bt B0 (bt B1 (bel1 _ (.cells #[.bool s1,.slice A1 n1 c1,.int .i64 E1] 124))))
  replace p1:=p1.below (bel1 _ (.cells #[.bool s1,.slice A1 n1 c1,.int .i64 E1] 124));have x50:=X5.c0;have x51:=X5.c1;have x52:=X5.c2;clear B1 B0 X1
  go_wp2_with fail
  refine(q3Make p1.wr (by omega) HN.out HE.out).mono ?_;rintro ee w2 ⟨s2,A2,n2,c2,rfl,p2,k2,B2⟩;clear x50 x51 x52;replace XR:=XR.below B2;replace HB:=Lib.hid (bt HB.out B2);have r0:=XR.c0;have r1:=XR.c1;have r2:=XR.c2;have q0:=XR.frozen 0;have q1:=XR.frozen 1;have q2:=XR.frozen 2;clear B2;go_wp2;exact bodyPost_ret (v:= .agg #[.bool s2,.slice A2 n2 c2,.int .i64 E]) (by simp[results,Tryz.results202,go_sem,r0,r1,r2]) rfl ⟨s2,A2,n2,c2,rfl,p2.st3 XR _ _ _ _ _ (by simp[no32]),by omega,st3 HB.out (by omega) _ _ _⟩
theorem box5 (w:World)(s t:Bool)(A B:Option Addr)(n c m d:Nat){W:World}(hW:W=((((w.alloc (.cells #[.bool s,.slice A n c] 27)).alloc (.cells #[.bool t,.slice B m d] 27)).alloc (.cells #[.bool false,.slice none 0 0] 27)).alloc (.cells #[.bool false,.slice none 0 0] 27)).alloc (.cells #[.bool false,.slice none 0 0] 27)):
  Bx W w.heap.size s A n c/\Bx W (w.heap.size+1) t B m d/\Bx W (w.heap.size+1+1) false none 0 0/\Bx W (w.heap.size+1+1+1) false none 0 0/\Bx W (w.heap.size+1+1+1+1) false none 0 0/\Below w.heap.size w W:=by
 subst hW;obtain⟨h1,h2,h3,h4⟩:=box3 w s t A B n c m d rfl;exact⟨(h1.below (bel1 _ _)).below (bel1 _ _),(h2.below (bel1 _ _)).below (bel1 _ _),(h3.below (bel1 _ _)).below (bel1 _ _),(Bx.newAt _ (by simp) false none 0 0).below (bel1 _ _),Bx.newAt _ (by simp) false none 0 0,bt h4 (bel2 _ _ _)⟩
theorem qDiv_A{w:World}{A B:Option Addr}{n c m d a b:Nat}(s t:Bool)(h:Rd w A n c a)(k:Rd w B m d b)(hn:n<=268435456)(hm:m<=268435456)(h0:b≠0){σ τ:Int}
  (HS:Hid (cmpI (sg t b) 0=σ)) (HT:Hid (cmpI (sg s (a%b)) 0=τ)) (hσ:(σ==0)=false) (hb1: -1<=σ) (hb2:σ<=1) (hne:(τ== -σ)=false):
  Calls Tryz.prog 132 #[.agg #[.bool s,.slice A n c],.agg #[.bool t,.slice B m d]] w (W3 w (n+m+4) (sg (!(s==t)) (a/b)) (sg s (a%b))):=by
 go_enter Tryz.func132,Tryz.ntmps132
 go_wp2_with fail
 obtain⟨X1,X2,X3,X4,X5,B0⟩:=box5 w s t A B n c m d rfl;replace h:=h.below B0;replace k:=k.below B0;have HB:=Lib.hid B0;clear B0;refine(qSign (k.wr t) HS.out).mono ?_;rintro e w1 ⟨rfl,B1⟩;replace h:=h.below B1;replace k:=k.below B1;replace X1:=X1.below B1;replace X2:=X2.below B1;replace X3:=X3.below B1;replace X4:=X4.below B1;replace HB:=Lib.hid (bt HB.out B1)
 clear B1;clear X5;have x10:=X1.cell0;have x11:=X1.cell1;have x20:=X2.cell0;have x21:=X2.cell1
 go_wp2_with fail
 refine(rDiv h k hn hm h0).mono ?_;rintro e w2 ⟨A1,n1,c1,A2,n2,c2,rfl,h1,h2,k1,k2,B2⟩;clear x10 x11 x20 x21;replace X1:=X1.below B2;replace X2:=X2.below B2;replace X3:=X3.below B2;replace X4:=X4.below B2;replace HB:=Lib.hid (bt HB.out B2);clear B2 h;have x10:=X1.cell0;have x20:=X2.cell0
 go_wp2_with fail
 refine(qMake (!(s==t)) h1.rd).mono ?_;rintro e w3 ⟨s3,A3,n3,c3,rfl,h3,k3,B3⟩;clear x10 x20
 have g6:w.heap.size+1+1+1 < w3.heap.size:=(X4.below B3).lt
 replace B3:=bt B3 (bel1 _ (.cells #[.bool s3,.slice A3 n3 c3] 27));replace h2:=h2.below B3;replace X1:=X1.below B3;replace X3:=X3.below B3;replace X4:=X4.below B3;replace HB:=Lib.hid (bt HB.out B3);replace h3:=h3.below (bel1 _ (.cells #[.bool s3,.slice A3 n3 c3] 27));have X6:=Bx.new w3 s3 A3 n3 c3;clear B3 h1;have x10:=X1.cell0
 go_wp2_with fail
 refine(qMake s h2.rd).mono ?_;rintro e w4 ⟨s4,A4,n4,c4,rfl,h4,k4,B4⟩;clear x10
 have g7:w3.heap.size < w4.heap.size:=(X6.below B4).lt
 replace B4:=bt B4 (bel1 _ (.cells #[.bool s4,.slice A4 n4 c4] 27));replace h3:=h3.below B4;replace X3:=X3.below B4;replace X4:=X4.below B4;replace X6:=X6.below B4;replace HB:=Lib.hid (bt HB.out B4);replace h4:=h4.below (bel1 _ (.cells #[.bool s4,.slice A4 n4 c4] 27));have X7:=Bx.new w4 s4 A4 n4 c4;clear B4 h2;have x70:=X7.cell0;have x71:=X7.cell1
 go_wp2_with fail
 refine(qSign h4.wr HT.out).mono ?_;rintro e w5 ⟨rfl,B5⟩;clear x70 x71;replace h3:=h3.below B5;replace h4:=h4.below B5;replace X3:=X3.below B5;replace X4:=X4.below B5;replace X6:=X6.below B5;replace X7:=X7.below B5;replace HB:=Lib.hid (bt HB.out B5);clear B5 X1;clear X2;have x30:=X3.cell0;have x31:=X3.cell1;have f30:=X3.frozen 0;have f31:=X3.frozen 1;have x40:=X4.cell0
 have x41:=X4.cell1;have f40:=X4.frozen 0;have f41:=X4.frozen 1;have x60:=X6.cell0;have x61:=X6.cell1;have f60:=X6.frozen 0;have f61:=X6.frozen 1;have x70:=X7.cell0;have x71:=X7.cell1;have f70:=X7.frozen 0;have f71:=X7.frozen 1
 have d63:w3.heap.size≠w.heap.size+1+1:=by omega
 have d64:w3.heap.size≠w.heap.size+1+1+1:=by omega
 have d73:w4.heap.size≠w.heap.size+1+1:=by omega
 have d74:w4.heap.size≠w.heap.size+1+1+1:=by omega
 go_wp2
 go_region_held3 (fun w'=>w'.cell? ⟨w3.heap.size,0,none⟩=some (.bool s3)/\w'.cell? ⟨w3.heap.size,1,none⟩=some (.slice A3 n3 c3)/\w'.cell? ⟨w4.heap.size,0,none⟩=some (.bool s4)/\w'.cell? ⟨w4.heap.size,1,none⟩=some (.slice A4 n4 c4)) (first | with_reducible exact⟨X6.cell0,X6.cell1,X7.cell0,X7.cell1⟩ | with_reducible exact⟨X6.drew.cell0,X6.drew.cell1,X7.drew.cell0,X7.drew.cell1⟩ | with_reducible exact⟨(X6.far d63 _ _).cell0,(X6.far d63 _ _).cell1,(X7.far d73 _ _).cell0,(X7.far d73 _ _).cell1⟩ | with_reducible exact⟨(X6.far d63 _ _).drew.cell0,(X6.far d63 _ _).drew.cell1,(X7.far d73 _ _).drew.cell0,(X7.far d73 _ _).drew.cell1⟩ | with_reducible exact⟨((X6.far d63 _ _).far d64 _ _).cell0,((X6.far d63 _ _).far d64 _ _).cell1,((X7.far d73 _ _).far d74 _ _).cell0,((X7.far d73 _ _).far d74 _ _).cell1⟩ | with_reducible exact⟨((X6.far d63 _ _).far d64 _ _).drew.cell0,((X6.far d63 _ _).far d64 _ _).drew.cell1,((X7.far d73 _ _).far d74 _ _).drew.cell0,((X7.far d73 _ _).far d74 _ _).drew.cell1⟩) (fail)
 go_wp2
 exact bodyPost_ret (v:= .tuple #[.agg #[.bool s3,.slice A3 n3 c3],.agg #[.bool s4,.slice A4 n4 c4],.bool true]) (by simp[results,Tryz.results132,go_sem,X3.cell0,X3.cell1,X4.cell0,X4.cell1]) rfl
  ⟨s3,A3,n3,c3,s4,A4,n4,c4,rfl,((h3.st X3 _ _).st (X4.far (by omega) _ _) _ _).drew,((h4.st X3 _ _).st (X4.far (by omega) _ _) _ _).drew,by omega,by omega,(st2 (st2 HB.out (by omega) _ _) (by omega) _ _).drew⟩
theorem qDiv_B{w:World}{A B:Option Addr}{n c m d a b:Nat}(s t:Bool)(h:Rd w A n c a)(k:Rd w B m d b)(hn:n<=268435456)(hm:m<=268435456)(h0:b≠0){σ τ:Int}
  (HS:Hid (cmpI (sg t b) 0=σ)) (HT:Hid (cmpI (sg s (a%b)) 0=τ)) (hσ:(σ==0)=false) (hb1: -1<=σ) (hb2:σ<=1) (hne:(τ== -σ)=true):
  Calls Tryz.prog 132 #[.agg #[.bool s,.slice A n c],.agg #[.bool t,.slice B m d]] w (W3 w (n+m+4) (sg (!(s==t)) (a/b)+ -1) (sg s (a%b)+sg t b)):=by
 go_enter Tryz.func132,Tryz.ntmps132
 go_wp2_with fail
 obtain⟨X1,X2,X3,X4,X5,B0⟩:=box5 w s t A B n c m d rfl;replace h:=h.below B0;replace k:=k.below B0;have HB:=Lib.hid B0;clear B0;refine(qSign (k.wr t) HS.out).mono ?_;rintro e w1 ⟨rfl,B1⟩;replace h:=h.below B1;replace k:=k.below B1;replace X1:=X1.below B1;replace X2:=X2.below B1;replace X3:=X3.below B1;replace X4:=X4.below B1;replace HB:=Lib.hid (bt HB.out B1)
 clear B1;clear X5;have x10:=X1.cell0;have x11:=X1.cell1;have x20:=X2.cell0;have x21:=X2.cell1
 go_wp2_with fail
 refine(rDiv h k hn hm h0).mono ?_;rintro e w2 ⟨A1,n1,c1,A2,n2,c2,rfl,h1,h2,k1,k2,B2⟩;clear x10 x11 x20 x21;replace k:=k.below B2;replace X1:=X1.below B2;replace X2:=X2.below B2;replace X3:=X3.below B2;replace X4:=X4.below B2;replace HB:=Lib.hid (bt HB.out B2);clear B2 h;have x10:=X1.cell0;have x20:=X2.cell0
 go_wp2_with fail
 refine(qMake (!(s==t)) h1.rd).mono ?_;rintro e w3 ⟨s3,A3,n3,c3,rfl,h3,k3,B3⟩;clear x10 x20
 have g6:w.heap.size+1+1+1 < w3.heap.size:=(X4.below B3).lt
 replace B3:=bt B3 (bel1 _ (.cells #[.bool s3,.slice A3 n3 c3] 27));replace k:=k.below B3;replace h2:=h2.below B3;replace X1:=X1.below B3;replace X2:=X2.below B3;replace X3:=X3.below B3;replace X4:=X4.below B3;replace HB:=Lib.hid (bt HB.out B3);replace h3:=h3.below (bel1 _ (.cells #[.bool s3,.slice A3 n3 c3] 27));have X6:=Bx.new w3 s3 A3 n3 c3;clear B3 h1;have x10:=X1.cell0
 go_wp2_with fail
 refine(qMake s h2.rd).mono ?_;rintro e w4 ⟨s4,A4,n4,c4,rfl,h4,k4,B4⟩;clear x10
 have g7:w3.heap.size < w4.heap.size:=(X6.below B4).lt
 replace B4:=bt B4 (bel1 _ (.cells #[.bool s4,.slice A4 n4 c4] 27));replace k:=k.below B4;replace h3:=h3.below B4;replace X2:=X2.below B4;replace X3:=X3.below B4;replace X4:=X4.below B4;replace X6:=X6.below B4;replace HB:=Lib.hid (bt HB.out B4);replace h4:=h4.below (bel1 _ (.cells #[.bool s4,.slice A4 n4 c4] 27));have X7:=Bx.new w4 s4 A4 n4 c4;clear B4 h2;have x70:=X7.cell0
 have x71:=X7.cell1
 go_wp2_with fail
 refine(qSign h4.wr HT.out).mono ?_;rintro e w5 ⟨rfl,B5⟩;clear x70 x71;replace k:=k.below B5;replace h3:=h3.below B5;replace h4:=h4.below B5;replace X2:=X2.below B5;replace X3:=X3.below B5;replace X4:=X4.below B5;replace X6:=X6.below B5;replace X7:=X7.below B5;replace HB:=Lib.hid (bt HB.out B5);clear B5 X1;have x60:=X6.cell0;have x61:=X6.cell1;have f60:=X6.frozen 0
 have f61:=X6.frozen 1;go_wp2
 go_region_with (first
  | (go_at_call 68;((with_reducible refine(qFrom (-1) _ (by omega) (by omega)).mono ?_);rintro e w6 ⟨s6,A6,n6,c6,rfl,h6,k6,B6⟩;clear x60 x61 f60 f61;replace k:=k.drew.below B6;replace h3:=h3.drew.below B6;replace h4:=h4.drew.below B6;replace X2:=X2.drew.below B6;replace X3:=X3.drew.below B6;replace X4:=X4.drew.below B6;replace X6:=X6.drew.below B6;replace X7:=X7.drew.below B6;replace HB:=Lib.hid (bt HB.out.drew B6);have x60:=X6.cell0;have x61:=X6.cell1;have f60:=X6.frozen 0;have f61:=X6.frozen 1))
  | (go_at_call 69;((with_reducible refine(qAdd h3.wr h6.wr (by omega) (by omega) rfl).mono ?_);rintro e w7 ⟨s8,A8,n8,c8,rfl,h8,k8,B7⟩;clear x60 x61 f60 f61;replace k:=k.below B7;replace h4:=h4.below B7;replace X2:=X2.below B7;replace X3:=X3.below B7;replace X4:=X4.below B7;replace X6:=X6.below B7;replace X7:=X7.below B7;replace HB:=Lib.hid (bt HB.out B7);have x60:=X6.cell0;have x61:=X6.cell1;have f60:=X6.frozen 0;have f61:=X6.frozen 1)))
 all_goals
  have X8:Bx ((w7.setCell ⟨w3.heap.size,0,none⟩ (.bool s8)).setCell ⟨w3.heap.size,1,none⟩ (.slice A8 n8 c8)) w3.heap.size s8 A8 n8 c8:=X6.set _ _ _ _
  have e1:w.heap.size+1≠w3.heap.size:=by omega
  have e2:w.heap.size+1+1≠w3.heap.size:=by omega
  have e3:w.heap.size+1+1+1≠w3.heap.size:=by omega
  have e4:w4.heap.size≠w3.heap.size:=by omega
  replace X2:=X2.far e1 (.bool s8) (.slice A8 n8 c8);replace X3:=X3.far e2 (.bool s8) (.slice A8 n8 c8);replace X4:=X4.far e3 (.bool s8) (.slice A8 n8 c8);replace X7:=X7.far e4 (.bool s8) (.slice A8 n8 c8);replace h8:=h8.st X6 (.bool s8) (.slice A8 n8 c8);replace h4:=h4.st X6 (.bool s8) (.slice A8 n8 c8);replace k:=k.st X6 (.bool s8) (.slice A8 n8 c8)
  replace HB:=Lib.hid (st2 (o1:=0) (o2:=1) HB.out (show w.heap.size<=w3.heap.size by omega) (.bool s8) (.slice A8 n8 c8))
  clear x60 x61 f60 f61 X6 h3 h6
  revert X2 X3 X4 X7 X8 h8 h4 k HB
  generalize (w7.setCell ⟨w3.heap.size,0,none⟩ (.bool s8)).setCell ⟨w3.heap.size,1,none⟩ (.slice A8 n8 c8)=w8
  intro X6 X2 X3 X4 X7 h3 h4 k HB
  have x20:=X2.cell0;have x21:=X2.cell1;have f20:=X2.frozen 0;have f21:=X2.frozen 1;have x70:=X7.cell0;have x71:=X7.cell1;have f70:=X7.frozen 0;have f71:=X7.frozen 1
  go_wp2_with (first
   | (go_at_call 69;((with_reducible refine(qAdd h4.wr (k.wr t) (by omega) (by omega) rfl).mono ?_);rintro e w9 ⟨s9,A9,n9,c9,rfl,h9,k9,B9⟩;clear x20 x21 f20 f21 x70 x71 f70 f71;replace h3:=h3.below B9;replace X3:=X3.below B9;replace X4:=X4.below B9;replace X6:=X6.below B9;replace X7:=X7.below B9;replace HB:=Lib.hid (bt HB.out B9);have x70:=X7.cell0;have x71:=X7.cell1;have f70:=X7.frozen 0;have f71:=X7.frozen 1;clear B9)))
  clear x70 x71 f70 f71 h4 k X2
  have X8:Bx ((w9.setCell ⟨w4.heap.size,0,none⟩ (.bool s9)).setCell ⟨w4.heap.size,1,none⟩ (.slice A9 n9 c9)) w4.heap.size s9 A9 n9 c9:=X7.set _ _ _ _
  have e5:w.heap.size+1+1≠w4.heap.size:=by omega
  have e6:w.heap.size+1+1+1≠w4.heap.size:=by omega
  have e7:w3.heap.size≠w4.heap.size:=by omega
  replace X3:=X3.far e5 (.bool s9) (.slice A9 n9 c9);replace X4:=X4.far e6 (.bool s9) (.slice A9 n9 c9);replace X6:=X6.far e7 (.bool s9) (.slice A9 n9 c9);replace h3:=h3.st X7 (.bool s9) (.slice A9 n9 c9);replace h9:=h9.st X7 (.bool s9) (.slice A9 n9 c9)
  replace HB:=Lib.hid (st2 (o1:=0) (o2:=1) HB.out (show w.heap.size<=w4.heap.size by omega) (.bool s9) (.slice A9 n9 c9))
  clear X7
  revert X8 X3 X4 X6 h3 h9 HB
  generalize (w9.setCell ⟨w4.heap.size,0,none⟩ (.bool s9)).setCell ⟨w4.heap.size,1,none⟩ (.slice A9 n9 c9)=w10
  intro X7 X3 X4 X6 h3 h4 HB
  have x30:=X3.cell0;have x31:=X3.cell1;have f30:=X3.frozen 0;have f31:=X3.frozen 1;have x40:=X4.cell0;have x41:=X4.cell1;have f40:=X4.frozen 0;have f41:=X4.frozen 1;have x60:=X6.cell0;have x61:=X6.cell1;have f60:=X6.frozen 0;have f61:=X6.frozen 1;have x70:=X7.cell0;have x71:=X7.cell1;have f70:=X7.frozen 0;have f71:=X7.frozen 1
  have d63:w3.heap.size≠w.heap.size+1+1:=by omega
  have d64:w3.heap.size≠w.heap.size+1+1+1:=by omega
  have d73:w4.heap.size≠w.heap.size+1+1:=by omega
  have d74:w4.heap.size≠w.heap.size+1+1+1:=by omega
  go_region_held3 (fun w'=>w'.cell? ⟨w3.heap.size,0,none⟩=some (.bool s8)/\w'.cell? ⟨w3.heap.size,1,none⟩=some (.slice A8 n8 c8)/\w'.cell? ⟨w4.heap.size,0,none⟩=some (.bool s9)/\w'.cell? ⟨w4.heap.size,1,none⟩=some (.slice A9 n9 c9)) (first | with_reducible exact⟨X6.cell0,X6.cell1,X7.cell0,X7.cell1⟩ | with_reducible exact⟨X6.drew.cell0,X6.drew.cell1,X7.drew.cell0,X7.drew.cell1⟩ | with_reducible exact⟨(X6.far d63 _ _).cell0,(X6.far d63 _ _).cell1,(X7.far d73 _ _).cell0,(X7.far d73 _ _).cell1⟩ | with_reducible exact⟨(X6.far d63 _ _).drew.cell0,(X6.far d63 _ _).drew.cell1,(X7.far d73 _ _).drew.cell0,(X7.far d73 _ _).drew.cell1⟩ | with_reducible exact⟨((X6.far d63 _ _).far d64 _ _).cell0,((X6.far d63 _ _).far d64 _ _).cell1,((X7.far d73 _ _).far d74 _ _).cell0,((X7.far d73 _ _).far d74 _ _).cell1⟩ | with_reducible exact⟨((X6.far d63 _ _).far d64 _ _).drew.cell0,((X6.far d63 _ _).far d64 _ _).drew.cell1,((X7.far d73 _ _).far d74 _ _).drew.cell0,((X7.far d73 _ _).far d74 _ _).drew.cell1⟩) (fail)
  go_wp2
  exact bodyPost_ret (v:= .tuple #[.agg #[.bool s8,.slice A8 n8 c8],.agg #[.bool s9,.slice A9 n9 c9],.bool true]) (by simp[results,Tryz.results132,go_sem,X3.cell0,X3.cell1,X4.cell0,X4.cell1]) rfl
   ⟨s8,A8,n8,c8,s9,A9,n9,c9,rfl,((h3.st X3 _ _).st (X4.far (by omega) _ _) _ _).drew,((h4.st X3 _ _).st (X4.far (by omega) _ _) _ _).drew,by omega,by omega,(st2 (st2 HB.out (by omega) _ _) (by omega) _ _).drew⟩
theorem qDiv{w:World}{A B:Option Addr}{n c m d:Nat}{s t:Bool}{x y q r:Int}(h:Wr w s A n c x)(k:Wr w t B m d y)(hn:n<=268435456)(hm:m<=268435456)(h0:y≠0)(hq:x.fdiv y=q)(hr:x.fmod y=r):
  Calls Tryz.prog 132 #[.agg #[.bool s,.slice A n c],.agg #[.bool t,.slice B m d]] w (W3 w (n+m+4) q r):=by
 obtain⟨a,h,rfl⟩:=h;obtain⟨b,k,rfl⟩:=k
 have hb:b≠0:=by rintro rfl;exact h0 (sg_zero _)
 have bσ:=cmpI_bd (sg t b) 0
 have hσ:(cmpI (sg t b) 0==0)=false:=by
  have:cmpI (sg t b) 0≠0:=fun e=>h0 (cmpI_zero.1 e)
  simpa using this
 subst hq;subst hr
 by_cases hs:s=t
 ·subst hs;rw[<-(div_same s hb).1,<-(div_same s hb).2]
  have:=qDiv_A s s h k hn hm hb (Lib.hid rfl) (Lib.hid rfl) hσ bσ.1 bσ.2 (by
   rcases sg_cases s b with⟨e,_⟩ | ⟨_,rfl,e⟩ | ⟨_,rfl,e⟩
   ·exact absurd e hb
   ·rw[e];rcases sg_cases true (a%b)with ⟨_,e'⟩ | ⟨_,_,e'⟩ | ⟨_,e2,_⟩
    ·rw[e'];rfl
    ·rw[e'];rfl
    ·cases e2
   ·rw[e];rcases sg_cases false (a%b)with ⟨_,e'⟩ | ⟨_,e2,_⟩ | ⟨_,_,e'⟩
    ·rw[e'];rfl
    ·cases e2
    ·rw[e'];rfl)
  simpa using this
 ·have hst:(s==t)=false:=by simpa using hs
  by_cases h2:a%b=0
  ·rw[<-(div_zero' s t hst hb h2).1,<-(div_zero' s t hst hb h2).2]
   have:=qDiv_A s t h k hn hm hb (Lib.hid rfl) (Lib.hid rfl) hσ bσ.1 bσ.2 (by
    rw[h2,sg_zero,cmpI_eq rfl]
    have:cmpI (sg t b) 0≠0:=fun e=>h0 (cmpI_zero.1 e)
    simp;omega)
   rw[hst,h2,sg_zero]at this;rw[sg_zero];exact this
  ·rw[<-(div_left s t hst hb h2).1,<-(div_left s t hst hb h2).2]
   have:=qDiv_B s t h k hn hm hb (Lib.hid rfl) (Lib.hid rfl) hσ bσ.1 bσ.2 (by
    rcases sg_cases t b with⟨e,_⟩ | ⟨_,rfl,e⟩ | ⟨_,rfl,e⟩
    ·exact absurd e hb
    ·obtain rfl:s=false:=by cases s <;> simp_all
     rcases sg_cases false (a%b)with ⟨e2,_⟩ | ⟨_,e2,_⟩ | ⟨_,_,e'⟩
     ·exact absurd e2 h2
     ·cases e2
     ·rw[e,e'];rfl
    ·obtain rfl:s=true:=by cases s <;> simp_all
     rcases sg_cases true (a%b)with ⟨e2,_⟩ | ⟨_,_,e'⟩ | ⟨_,e2,_⟩
     ·exact absurd e2 h2
     ·rw[e,e'];rfl
     ·cases e2)
   rw[hst]at this
   have e1:sg (!false) (a/b)+ -1=sg true (a/b+1):=by simp[sg];omega
   have e2:sg s (a%b)+sg t b=sg t (b-a%b):=by
    have:=Nat.mod_lt a (Nat.pos_of_ne_zero hb)
    revert hst
    cases s <;> cases t <;> simp[sg] <;> omega
   rw[e1,e2]at this;exact this
def flr (N E:Int):Int:=if 0<=E then N*((2^E.toNat:Nat):Int)else N.fdiv ((2^(-E).toNat:Nat):Int)
theorem rShlN{w:World}{A1:Option Addr}{n c1 a r:Nat}{z:Int}(h1:Rd w A1 n c1 a)(hn:n<=134217728)(hz0:0<=z)(hz:z<=16777216)(hr:a*2^z.toNat=r):Calls Tryz.prog 131 #[.slice A1 n c1,.int .i64 z] w (P1 w (n+z.toNat/32+1) r):=by
 subst hr;obtain⟨k,rfl⟩:=Int.eq_ofNat_of_zero_le hz0
 rcases Nat.eq_zero_or_pos k with e | e
 ·subst e;refine(rShl_low _ h1 (by omega)).mono ?_;rintro ee w' ⟨A,m,c,rfl,hm,hk,hb⟩;exact⟨A,m,c,rfl,by simpa using hm,by omega,hb⟩
 ·have:=rShl k h1 hn (by omega) (by omega)
  simpa using this
theorem sg_scale (s:Bool)(N:Int)(p:Nat)(h:sg s N.natAbs=N):sg s (N.natAbs*p)=N*(p:Int):=by
 have:sg s (N.natAbs*p)=sg s N.natAbs*(p:Int):=by cases s <;> simp[sg,Int.neg_mul]
 rw[this,h]
theorem q3Floor{w:World}{A:Option Addr}{n c:Nat}{s:Bool}{z e r:Int}(h:Wr w s A n c z)(hn:n<=100000)(hr:flr (mk z e).1 (mk z e).2=r):Calls Tryz.prog 201 #[.agg #[.bool s,.slice A n c,.int .i64 e]] w (W1 w (n+131100) r):=by
 have hb:=mk_bd z e
 revert hr hb
 generalize hN1:(mk z e).1=N1;generalize hE1:(mk z e).2=E1
 intro hr hb
 have HN1:=Lib.hid hN1;have HE1:=Lib.hid hE1;clear hN1 hE1;obtain⟨hb1,hb2⟩:=hb
 by_cases hE:0<=E1
 ·have HR:Hid (N1*((2^E1.toNat:Nat):Int)=r):=Lib.hid (by rw[<-hr];unfold flr;rw[if_pos hE])
  clear hr
  have hk:E1.toNat/32<=131072:=by omega
  go_enter Tryz.func201,Tryz.ntmps201
  go_wp2_with fail
  refine(q3Make (h.below (bel2 _ _ _)) hn HN1.out HE1.out).mono ?_;rintro ee w1 ⟨s1,A1,n1,c1,rfl,p1,k1,B1⟩
  have XR:Bx w1 (w.heap.size+1) false none 0 0:=(Bx.newAt _ (by simp) false none 0 0).below B1
  have g5:=XR.lt;have X5:=Bo.new w1 #[.bool s1,.slice A1 n1 c1,.int .i64 E1] 124;replace p1:=p1.below (bel1 _ (.cells #[.bool s1,.slice A1 n1 c1,.int .i64 E1] 124));replace B1:=bt B1 (bel1 _ (.cells #[.bool s1,.slice A1 n1 c1,.int .i64 E1] 124));replace XR:=XR.below (bel1 _ (.cells #[.bool s1,.slice A1 n1 c1,.int .i64 E1] 124));have HB:=Lib.hid (bt (bel2 _ _ _) B1)
  have d5:w1.heap.size≠w.heap.size+1:=by omega
  have HS:=Lib.hid (sg_scale s1 N1 (2^E1.toNat) p1.wr.eq);have hrd:=p1.wr.rd;have x50:=X5.c0;have x51:=X5.c1;have x52:=X5.c2;clear B1;go_wp2
  go_region_held3 (fun w'=>w'.cell? ⟨w1.heap.size,0,none⟩=some (.bool s1)/\w'.cell? ⟨w1.heap.size,1,none⟩=some (.slice A1 n1 c1)/\w'.cell? ⟨w1.heap.size,2,none⟩=some (.int .i64 E1)) (first | with_reducible exact⟨X5.c0,X5.c1,X5.c2⟩ | with_reducible exact⟨X5.drew.c0,X5.drew.c1,X5.drew.c2⟩ | with_reducible exact⟨((X5.far d5 0 _).far d5 1 _).c0,((X5.far d5 0 _).far d5 1 _).c1,((X5.far d5 0 _).far d5 1 _).c2⟩)
   (first
    | (go_at_call 131;((with_reducible refine(rShlN hrd.drew (by omega) hE (by omega) rfl).mono ?_);rintro ee w3 ⟨A3,n3,c3,rfl,p3,k3,B3⟩;clear x50 x51 x52;replace X5:=X5.drew.below B3;replace XR:=XR.drew.below B3;replace HB:=Lib.hid (bt HB.out.drew B3);clear B3))
    | (go_at_call 61;((with_reducible refine(qMake _ p3.rd).mono ?_);rintro ee w4 ⟨s4,A4,n4,c4,rfl,p4,k4,B4⟩;replace X5:=X5.below B4;replace XR:=XR.below B4;replace HB:=Lib.hid (bt HB.out B4);clear B4;have r0:=XR.cell0;have r1:=XR.cell1;have q0:=XR.frozen 0;have q1:=XR.frozen 1)))
  go_wp2
  exact bodyPost_ret (v:= .agg #[.bool s4,.slice A4 n4 c4]) (by simp[results,Tryz.results201,go_sem,r0,r1]) rfl ⟨s4,A4,n4,c4,rfl,by
   have e6:=HS.out.trans HR.out;rw[<-e6];exact p4.st XR _ _,by omega,st2 HB.out (by omega) _ _⟩
 ·have HR:Hid (N1.fdiv ((2^(-E1).toNat:Nat):Int)=r):=Lib.hid (by rw[<-hr];unfold flr;rw[if_neg hE])
  clear hr
  have hk:(-E1).toNat/32<=131072:=by omega
  have hE2:E1 < 0:=by omega
  have hE3:0<= -E1:=by omega
  have hE4: -E1<=4194304:=by omega
  have hp:((2^(-E1).toNat:Nat):Int)≠0:=by
   have:0 < 2^(-E1).toNat:=Nat.pow_pos (by decide)
   omega
  have HP:=Lib.hid hp;clear hp
  go_enter Tryz.func201,Tryz.ntmps201
  go_wp2_with fail
  refine(q3Make (h.below (bel2 _ _ _)) hn HN1.out HE1.out).mono ?_;rintro ee w1 ⟨s1,A1,n1,c1,rfl,p1,k1,B1⟩
  have XR:Bx w1 (w.heap.size+1) false none 0 0:=(Bx.newAt _ (by simp) false none 0 0).below B1
  have g5:=XR.lt;have X5:=(Bo.new w1 #[.bool s1,.slice A1 n1 c1,.int .i64 E1] 124).below (bel1 _ (.cells #[.int .u32 1] 92));replace B1:=bt B1 (bel2 _ (.cells #[.bool s1,.slice A1 n1 c1,.int .i64 E1] 124) (.cells #[.int .u32 1] 92));replace p1:=p1.below (bel2 _ (.cells #[.bool s1,.slice A1 n1 c1,.int .i64 E1] 124) (.cells #[.int .u32 1] 92));replace XR:=XR.below (bel2 _ (.cells #[.bool s1,.slice A1 n1 c1,.int .i64 E1] 124) (.cells #[.int .u32 1] 92))
  have HB:=Lib.hid (bt (bel2 _ _ _) B1);have x50:=X5.c0;have x51:=X5.c1;have x52:=X5.c2;clear B1
  go_wp2_with fail
  have h1:Rd ((w1.alloc (.cells #[.bool s1,.slice A1 n1 c1,.int .i64 E1] 124)).alloc (.cells #[.int .u32 1] 92)) (some ⟨w1.heap.size+1,0,none⟩) 1 1 1:=by
   have:=one_rd (w1.alloc (.cells #[.bool s1,.slice A1 n1 c1,.int .i64 E1] 124))
   simpa using this
  refine(rShlN h1 (by omega) hE3 (by omega) rfl).mono ?_;rintro ee w2 ⟨A3,n3,c3,rfl,p3,k3,B3⟩;clear x50 x51 x52 h1;replace X5:=X5.below B3;replace XR:=XR.below B3;replace p1:=p1.below B3;replace HB:=Lib.hid (bt HB.out B3);clear B3
  go_wp2_with fail
  refine(qMake false p3.rd).mono ?_;rintro ee w3 ⟨s4,A4,n4,c4,rfl,p4,k4,B4⟩
  have e4:sg false (1*2^(-E1).toNat)=((2^(-E1).toNat:Nat):Int):=by rw[Nat.one_mul];rfl
  rw[e4]at p4;clear e4;have X4:=Bx.new w3 s4 A4 n4 c4;replace p4:=p4.below (bel1 _ (.cells #[.bool s4,.slice A4 n4 c4] 27));replace B4:=bt B4 (bel1 _ (.cells #[.bool s4,.slice A4 n4 c4] 27));replace X5:=X5.below B4;replace XR:=XR.below B4;replace p1:=p1.below B4;replace HB:=Lib.hid (bt HB.out B4);have x50:=X5.c0;have x51:=X5.c1;have x40:=X4.cell0;have x41:=X4.cell1
  clear B4 p3
  go_wp2_with fail
  refine(qDiv p1.wr p4.wr (by omega) (by omega) HP.out HR.out rfl).mono ?_;rintro ee w5 ⟨s5,A5,n5,c5,s6,A6,n6,c6,rfl,p5,p6,k5,k6,B5⟩;clear x50 x51 x40 x41
  have g6:w.heap.size+1 < w5.heap.size:=(XR.below B5).lt
  replace p5:=p5.below (bel2 _ (.cells #[.bool s5,.slice A5 n5 c5] 27) (.cells #[.bool s6,.slice A6 n6 c6] 27));replace B5:=bt B5 (bel2 _ (.cells #[.bool s5,.slice A5 n5 c5] 27) (.cells #[.bool s6,.slice A6 n6 c6] 27));replace XR:=XR.below B5;replace HB:=Lib.hid (bt HB.out B5);have X7:=(Bx.new w5 s5 A5 n5 c5).below (bel1 _ (.cells #[.bool s6,.slice A6 n6 c6] 27));have x70:=X7.cell0
  have x71:=X7.cell1;have r0:=XR.cell0;have r1:=XR.cell1;have q0:=XR.frozen 0;have q1:=XR.frozen 1;clear B5 p6;go_wp2;exact bodyPost_ret (v:= .agg #[.bool s5,.slice A5 n5 c5]) (by simp[results,Tryz.results201,go_sem,r0,r1]) rfl ⟨s5,A5,n5,c5,rfl,p5.st XR _ _,by omega,st2 HB.out (by omega) _ _⟩
def tzs:List Int:=[0,1,28,2,29,14,24,3,30,22,20,15,25,17,4,8,31,27,13,23,21,19,16,7,26,12,18,6,11,5,10,9]
def Tab (w:World):Prop:=∀i,i < 32->w.cell? ⟨2,i,none⟩=some (.int .u8 (tzs.getD i 0))
section
variable {w w':World}
theorem Tab.lt (h:Tab w):2 < w.heap.size:=World.block_lt_of_cell? w _ (h 0 (by decide))
theorem Tab.keep (h:Tab w)(hk:w'.heap[2]?=w.heap[2]?):Tab w':=fun i hi=>by
 rw[<-h i hi];simp only[World.cell?,hk]
theorem Tab.below (h:Tab w)(hb:Below w.heap.size w w'):Tab w':=h.keep (hb.block _ h.lt)
abbrev Tab.b:= @Tab.below
end
theorem land_odd (a b:Nat):(2*a+1) &&& (2*b+1)=2*(a &&& b)+1:=by
 apply Nat.eq_of_testBit_eq
 intro i
 cases i with
 | zero=>simp [Nat.testBit_zero]
 | succ i=>
  rw[Nat.testBit_and,Nat.testBit_add_one,Nat.testBit_add_one,Nat.testBit_add_one,show (2*a+1) /2=a by omega,show (2*b+1) /2=b by omega,show (2*(a &&& b)+1) /2=a &&& b by omega,Nat.testBit_and]
theorem land_not (q j:Nat)(h:q < 2^j):q &&& (2^j-(q+1))=0:=by
 apply Nat.eq_of_testBit_eq
 intro i
 rw[Nat.testBit_and,Nat.testBit_two_pow_sub_succ h]
 cases q.testBit i <;> simp
theorem land_low{x:Nat}(h0:x≠0)(hx:x < 4294967296):x &&& (4294967296-x)=2^v2 x/\v2 x < 32:=by
 obtain⟨e,ho⟩:=v2_spec x h0
 have hk:v2 x < 32:=by
  have h1:=v2_pow_le h0
  have h2:2^v2 x < 2^32:=by omega
  exact(Nat.pow_lt_pow_iff_right (by decide)).1 h2
 refine⟨?_,hk⟩
 revert e ho hk
 generalize x/2^v2 x=m;generalize v2 x=k
 intro e ho hk
 have hp:(4294967296:Nat)=2^(32-k)*2^k:=by rw[<-Nat.pow_add,show 32-k+k=32 by omega]
 have hm:m < 2^(32-k):=by
  have:m*2^k < 2^(32-k)*2^k:=by rw[<-hp,<-e];exact hx
  exact Nat.lt_of_mul_lt_mul_right this
 have e2:4294967296-x=(2^(32-k)-m)*2^k:=by rw[Nat.sub_mul,<-hp,<-e]
 have hand:(m*2^k) &&& ((2^(32-k)-m)*2^k)=(m &&& (2^(32-k)-m))*2^k:=by
  rw[<-Nat.shiftLeft_eq,<-Nat.shiftLeft_eq,<-Nat.shiftLeft_eq,Nat.shiftLeft_and_distrib]
 rw[e2]
 have e3:x &&& (2^(32-k)-m)*2^k=(m*2^k) &&& ((2^(32-k)-m)*2^k):=by rw[<-e]
 rw[e3,hand];obtain⟨j,hj⟩:∃j,32-k=j+1:=⟨31-k,by omega⟩
 rw[hj]at hm|-;obtain⟨q,rfl⟩:∃q,m=2*q+1:=⟨m/2,by omega⟩
 have hq:q < 2^j:=by rw[Nat.pow_succ]at hm;omega
 rw[show 2^(j+1)-(2*q+1)=2*(2^j-(q+1))+1 by rw[Nat.pow_succ];omega,land_odd,land_not q j hq]
 simp
theorem tz_index:∀k:Nat,k < 32->(((2^k:Nat):Int)*125613361%4294967296/134217728).toNat < 32/\0<=((2^k:Nat):Int)*125613361%4294967296/134217728/\tzs.getD (((2^k:Nat):Int)*125613361%4294967296/134217728).toNat 0=(k:Int):=by decide +kernel
theorem tz32{w:World}{x:Nat}(hT:Tab w)(h0:x≠0)(hx:x < 4294967296):Calls Tryz.prog 271 #[.int .u32 (x:Int)] w fun e w'=>e= .returned (.int .i64 (v2 x:Nat))/\w'=w:=by
 have hq:((x:Int)==0)=false:=by
  have:(x:Int)≠0:=by omega
  simpa using this
 obtain⟨e1,hk⟩:=land_low h0 hx
 have hb:bits BinOp.and IntKind.u32 (x:Int) (-(x:Int)%4294967296)=((2^v2 x:Nat):Int):=by
  have e2: -(x:Int)%4294967296=((4294967296-x:Nat):Int):=by omega
  rw[e2,u32_and_nat _ _ hx (by omega),e1]
 obtain⟨t1,t2,t3⟩:=tz_index (v2 x) hk;have hc:=hT _ t1;rw[t3]at hc
 revert hb t1 t2 hc
 generalize ((2^v2 x:Nat):Int)=p
 intro hb t1 t2 hc
 obtain⟨i,hi⟩:∃i:Int,p*125613361%4294967296/134217728=i:=⟨_,rfl⟩;rw[hi]at t1 t2 hc;obtain⟨i,rfl⟩:=Int.eq_ofNat_of_zero_le t2
 have hi2:i < 32:=by simpa using t1
 have hc2:w.cell? ⟨2,i,none⟩=some (.int .u8 ((v2 x:Nat):Int)):=by simpa using hc
 clear hc t1 t2 t3 hT e1
 revert hc2 hk
 generalize v2 x=k
 intro hk hc
 go_enter Tryz.func271,Tryz.ntmps271
 go_wp2
 go_ret
 exact⟨rfl,rfl⟩
theorem ret_i64{a b:Int}(h:a=b):Ending.returned (.int .i64 a)= .returned (.int .i64 b):=by rw[h]
theorem v2_low{x y:Nat}(h0:x≠0)(hx:x < 4294967296):v2 (x+4294967296*y)=v2 x:=by
 obtain⟨e,ho⟩:=v2_spec x h0;have hk:=(land_low h0 hx).2
 revert e ho hk
 generalize x/2^v2 x=m;generalize v2 x=k
 intro e ho hk
 obtain⟨j,hj⟩:∃j,32-k=j+1:=⟨31-k,by omega⟩
 have hp:(4294967296:Nat)=2*2^j*2^k:=by
  rw[show 2*2^j=2^(j+1) by rw[Nat.pow_succ,Nat.mul_comm],<-hj,<-Nat.pow_add,show 32-k+k=32 by omega]
 refine(v2_uniq (m:=m+2*(2^j*y)) (k:=k) (by omega) ?_).1;rw[Nat.add_mul,<-e,hp]
 congr 1
 rw[Nat.mul_right_comm,Nat.mul_assoc 2,Nat.mul_assoc 2]
theorem v2_high{y:Nat}(h:y≠0):v2 (4294967296*y)=v2 y+32:=by
 obtain⟨e,ho⟩:=v2_spec y h;refine(v2_uniq (m:=y/2^v2 y) (k:=v2 y+32) ho ?_).1;rw[Nat.pow_add,<-Nat.mul_assoc,<-e,Nat.mul_comm]
theorem v2_val:∀{xs:List Nat},Lim xs->val xs≠0->∃j,j < xs.length/\(∀i,i < j->xs.getD i 0=0)/\xs.getD j 0≠0/\v2 (val xs)=j*32+v2 (xs.getD j 0)
 | [],_,h=>absurd rfl h
 | x::xs,hl,h=>by
  rw[val_cons]at h|-
  by_cases hx:x=0
  ·subst hx
   have h1:val xs≠0:=by omega
   obtain⟨j,h2,h3,h4,h5⟩:=v2_val hl.tail h1
   refine⟨j+1,by simp;omega,fun i hi=>?_,by simpa using h4,?_⟩
   ·cases i with
    | zero=>rfl
    | succ i=>simpa using h3 i (by omega)
   ·rw[Nat.zero_add,v2_high h1,h5,show (0::xs).getD (j+1) 0=xs.getD j 0 by simp]
    omega
  ·exact⟨0,by simp,fun i hi=>by omega,by simpa using hx,by rw[v2_low hx hl.head];simp⟩
theorem dTrailing{w:World}{A:Option Addr}{n c a:Nat}{r:Int}(hT:Tab w)(h:Rd w A n c a)(h0:a≠0)(hr:((v2 a:Nat):Int)=r):Calls Tryz.prog 266 #[.slice A n c] w (PI w r):=by
 obtain⟨b,xs,hs,rfl⟩:=h;obtain⟨j,hj,hz,hn,hv⟩:=v2_val hs.lim h0;have hlen:=hs.len;have hcap:=hs.cap;have hbig:=hs.big;obtain⟨o,rfl,hcell⟩:=hs.at (by omega);have hxl:=hs.lim.getD j;have hcj:=hcell j (by omega);obtain⟨x,hx⟩:∃x,xs.getD j 0=x:=⟨_,rfl⟩;rw[hx]at hn hv hcj hxl
 have HR:Hid ((j:Int)*32+((v2 x:Nat):Int)=r):=Lib.hid (by rw[<-hr,hv];omega)
 have hk:=(land_low hn hxl).2
 have hne:((x:Int)==0)=false:=by
  have:(x:Int)≠0:=by omega
  simpa using this
 have HZ:=Lib.hid hz;clear hz hv hr h0
 go_enter Tryz.func266,Tryz.ntmps266
 go_wp2
 go_loop [3] (fun i=>∃k:Nat,k<=j/\i= .int .i64 k) (fun i=>j-(intOf i).toNat)
 case atStart=>exact ⟨0,Nat.zero_le _,rfl⟩
 case round=>
  obtain⟨k,hk1,rfl⟩:=hrel
  by_cases hlt:k < j
  ·have hck:=hcell k (by omega);rw[HZ.out k hlt]at hck;clear hcell hcj;go_wp2
   go_round
   case rel=>exact ⟨k+1,by omega,by go_num⟩
   case measure=>simp [intOf];omega
  ·obtain rfl:k=j:=by omega
   clear hcell
   go_wp2_with (first
    | (go_at_call 271;((with_reducible refine(tz32 hT hn hxl).mono ?_);rintro ee w1 ⟨rfl,rfl⟩)))
   go_ret
   exact⟨ret_i64 HR.out,Below.refl _ _⟩
def inE (e:Int):Bool:=decide (-4194304<=e) && decide (e<=4194304)
theorem dWithin{w:World}{e:Int}{r:Bool}(hr:inE e=r):Calls Tryz.prog 265 #[.int .i64 e] w (PB w r):=by
 subst hr
 unfold inE
 by_cases h: -4194304<=e
 ·have t1:decide (-4194304<=e)=true:=decide_eq_true h
  rw[t1]
  go_enter Tryz.func265,Tryz.ntmps265
  go_wp2
  go_ret
  exact⟨rfl,Below.refl _ _⟩
 ·have t1:decide (-4194304<=e)=false:=decide_eq_false h
  rw[t1]
  go_enter Tryz.func265,Tryz.ntmps265
  go_wp2
  go_ret
  exact⟨rfl,Below.refl _ _⟩
def mayD (s:Bool)(n a:Nat)(e:Int):Bool:=mayB s n a && (if n=0 then e==0 else ((((a%4294967296:Nat):Int)%2==1) && (decide (-4194304<=e) && decide (e<=4194304))))
end Go.Proofs.YtomikokonmikgaaGreatDoor
namespace Go.Proofs.YtomikokonmikgaaGreatDoor
set_option linter.unusedVariables false
theorem p2pos (k:Nat):(0:Int) < 2^k:=Int.pow_pos (by decide)
theorem natAbs_mul_pow (z:Int)(k:Nat):(z*2^k).natAbs=z.natAbs*2^k:=by
 rw[Int.natAbs_mul,Int.natAbs_pow]
 rfl
def Nf (p:Int × Int):Prop:=mk p.1 p.2=p
theorem mk_odd{z e:Int}(hz:z.natAbs%2=1)(h1: -4194304<=e)(h2:e<=4194304):mk z e=(z,e):=by
 have h0:z≠0:=by omega
 have hv:=v2_odd hz;obtain⟨e1,e2,e3,e4,e5⟩:=mk_in (z:=z) (e:=e) h0 h1 (by rw[hv];simpa using h2);rw[hv]at e1 e5
 apply Prod.ext
 ·simpa using e5.symm
 ·simpa using e1
theorem mk_cases (z e:Int):mk z e=(0,0)\/(z≠0/\ -4194304<=e/\e<=4194304/\e+(v2 z.natAbs:Nat)<=4194304/\(mk z e).1.natAbs%2=1/\(mk z e).2=e+(v2 z.natAbs:Nat)/\z=(mk z e).1*2^v2 z.natAbs):=by
 by_cases hc:z=0\/e < -4194304\/4194304 < e\/4194304 < e+(v2 z.natAbs:Nat)
 ·left
  unfold mk
  rw[if_pos hc]
 ·right
  have h0:z≠0:=by omega
  obtain⟨e1,e2,e3,e4,e5⟩:=mk_in (z:=z) (e:=e) h0 (by omega) (by omega);refine⟨h0,by omega,by omega,by omega,?_,e1,e5⟩
  rw[e2];exact(v2_spec z.natAbs (by omega)).2
theorem mk_nf (z e:Int):Nf (mk z e):=by
 rcases mk_cases z e with h | ⟨h0,h1,h2,h3,h4,h5,h6⟩
 ·unfold Nf
  rw[h];exact mk_zero 0
 ·exact mk_odd h4 (by omega) (by omega)
theorem Nf.cases{p:Int × Int}(h:Nf p):p=(0,0)\/(p.1≠0/\p.1.natAbs%2=1/\ -4194304<=p.2/\p.2<=4194304):=by
 have hb:=mk_bd p.1 p.2
 rcases mk_cases p.1 p.2 with e | ⟨h0,h1,h2,h3,h4,h5,h6⟩
 ·left
  rw[<-e];exact h.symm
 ·right
  rw[show mk p.1 p.2=p from h]at h4
  exact⟨h0,h4,h1,h2⟩
theorem Nf.zero{p:Int × Int}(h:Nf p)(h0:p.1=0):p=(0,0):=by
 rcases h.cases with e | ⟨e,_⟩
 ·exact e
 ·exact absurd h0 e
theorem Nf.bd{p:Int × Int}(h:Nf p): -4194304<=p.2/\p.2<=4194304:=by
 rcases h.cases with e | ⟨_,_,e⟩
 ·rw[e];simp
 ·exact e
theorem mk_neg (z e:Int):mk (-z) e=(-(mk z e).1,(mk z e).2):=by
 by_cases hz:z=0
 ·subst hz;rw[Int.neg_zero,mk_zero];rfl
 ·unfold mk
  rw[Int.natAbs_neg]
  by_cases hc:z=0\/e < -4194304\/4194304 < e\/4194304 < e+(v2 z.natAbs:Nat)
  ·have hc': -z=0\/e < -4194304\/4194304 < e\/4194304 < e+(v2 z.natAbs:Nat):=by omega
   rw[if_pos hc,if_pos hc'];rfl
  ·have hc':¬(-z=0\/e < -4194304\/4194304 < e\/4194304 < e+(v2 z.natAbs:Nat)):=by omega
   rw[if_neg hc,if_neg hc']
   apply Prod.ext
   ·rcases Int.lt_or_gt_of_ne hz with h | h
    ·have h':¬ -z < 0:=by omega
     rw[if_neg h',if_pos h]
     simp
    ·have h': -z < 0:=by omega
     have h2:¬z < 0:=by omega
     rw[if_pos h',if_neg h2]
     simp
   ·rfl
def KK:Nat:=4194304
theorem KK_eq:KK=4194304:=rfl
def vl (p:Int × Int):Int:=p.1*2^(p.2+KK).toNat
theorem vl_zero:vl (0,0)=0:=by unfold vl;exact Int.zero_mul _
theorem cmpI_scale{a b p:Int}(hp:0 < p):cmpI (a*p) (b*p)=cmpI a b:=by
 unfold cmpI
 by_cases h1:a < b
 ·rw[if_pos h1,if_pos (Int.mul_lt_mul_of_pos_right h1 hp)]
 ·have h1':¬a*p < b*p:=Int.not_lt.2 (Int.mul_le_mul_of_nonneg_right (Int.not_lt.1 h1) (Int.le_of_lt hp))
  rw[if_neg h1,if_neg h1']
  by_cases h2:b < a
  ·rw[if_pos h2,if_pos (Int.mul_lt_mul_of_pos_right h2 hp)]
  ·have h2':¬b*p < a*p:=Int.not_lt.2 (Int.mul_le_mul_of_nonneg_right (Int.not_lt.1 h2) (Int.le_of_lt hp))
   rw[if_neg h2,if_neg h2']
def Fit (h:Nat)(p:Int × Int):Prop:=Nf p/\ -(h:Int)<=p.2/\p.1.natAbs*2^(p.2+h).toNat < 2^(2*h)
theorem Fit.nf{h:Nat}{p:Int × Int}(f:Fit h p):Nf p:=f.1
theorem Fit.lo{h:Nat}{p:Int × Int}(f:Fit h p): -(h:Int)<=p.2:=f.2.1
theorem Fit.zero (h:Nat):Fit h (0,0):=⟨mk_zero 0,by simp,by simp;exact Nat.pow_pos (by decide)⟩
theorem Fit.mono{h k:Nat}{p:Int × Int}(f:Fit h p)(hk:h<=k):Fit k p:=by
 have h1:=f.lo;refine⟨f.1,by omega,?_⟩
 have e1:(2:Nat)^(p.2+k).toNat=2^(p.2+h).toNat*2^(k-h):=by rw[<-Nat.pow_add];congr 1;omega
 have e2:(2:Nat)^(2*k)=2^(2*h)*2^(k-h)*2^(k-h):=by rw[<-Nat.pow_add,<-Nat.pow_add];congr 1;omega
 rw[e1,e2,<-Nat.mul_assoc];refine Nat.lt_of_lt_of_le (Nat.mul_lt_mul_of_pos_right f.2.2 (Nat.pow_pos (by decide))) (Nat.le_mul_of_pos_right _ (Nat.pow_pos (by decide)))
theorem mk_fit{z e:Int}{h:Nat}(hh:h<=4194304)(h1: -(h:Int)<=e)(h2:z.natAbs*2^(e+h).toNat < 2^(2*h)):Fit h (mk z e)/\vl (mk z e)=z*2^(e+KK).toNat:=by
 by_cases h0:z=0
 ·subst h0;rw[mk_zero];exact⟨Fit.zero h,by rw[vl_zero,Int.zero_mul]⟩
 ·have hn:z.natAbs≠0:=by omega
  have h3:=Nat.lt_of_le_of_lt (Nat.mul_le_mul_right (2^(e+h).toNat) (v2_pow_le hn)) h2;rw[<-Nat.pow_add]at h3;have h4:=(Nat.pow_lt_pow_iff_right (a:=2) (by decide)).1 h3;obtain⟨e1,e2,e3,e4,e5⟩:=mk_in (z:=z) (e:=e) h0 (by omega) (by omega);have hnf:=mk_nf z e
  revert e1 e5 hnf
  generalize hv:v2 z.natAbs=v at *;generalize mk z e=p;obtain⟨N,E⟩:=p
  intro e1 e5 hnf
  simp only at e1 e5;subst e5;subst e1;refine⟨⟨hnf,by simp only;omega,?_⟩,?_⟩
  ·simp only
   rw[natAbs_mul_pow,Nat.mul_assoc,<-Nat.pow_add,show v+(e+h).toNat=(e+v+h).toNat by omega]at h2
   exact h2
  ·unfold vl
   simp only
   rw[Int.mul_assoc,<-Int.pow_add]
   congr 2
   rw[KK_eq]
   omega
def pl (p q:Int × Int):Int × Int:=if p.1=0 then q else if q.1=0 then p else mk (p.1*2^(p.2-min p.2 q.2).toNat+q.1*2^(q.2-min p.2 q.2).toNat) (min p.2 q.2)
theorem pl_comm{p q:Int × Int}(hp:Nf p)(hq:Nf q):pl p q=pl q p:=by
 unfold pl
 by_cases h1:p.1=0
 ·rw[if_pos h1]
  by_cases h2:q.1=0
  ·rw[if_pos h2,hp.zero h1,hq.zero h2]
  ·rw[if_neg h2,if_pos h1]
 ·rw[if_neg h1]
  by_cases h2:q.1=0
  ·rw[if_pos h2,if_pos h2]
  ·rw[if_neg h2,if_neg h2,if_neg h1,Int.min_comm q.2 p.2,Int.add_comm]
theorem pl_fit{h:Nat}{p q:Int × Int}(hh:h+1<=4194304)(fp:Fit h p)(fq:Fit h q):Fit (h+1) (pl p q)/\vl (pl p q)=vl p+vl q:=by
 unfold pl
 by_cases h1:p.1=0
 ·rw[if_pos h1,fp.1.zero h1,vl_zero,Int.zero_add];exact⟨fq.mono (by omega),rfl⟩
 ·rw[if_neg h1]
  by_cases h2:q.1=0
  ·rw[if_pos h2,fq.1.zero h2,vl_zero,Int.add_zero];exact⟨fp.mono (by omega),rfl⟩
  ·rw[if_neg h2];have lp:=fp.lo;have lq:=fq.lo;obtain⟨l,hl⟩:∃l,min p.2 q.2=l:=⟨_,rfl⟩;rw[hl]
   have l1:l<=p.2:=by omega
   have l2:l<=q.2:=by omega
   have l3: -(h:Int)<=l:=by omega
   obtain⟨a1,a2⟩:=mk_fit (z:=p.1*2^(p.2-l).toNat+q.1*2^(q.2-l).toNat) (e:=l) (h:=h+1) hh (by omega) (by
    have t:=Int.natAbs_add_le (p.1*2^(p.2-l).toNat) (q.1*2^(q.2-l).toNat);rw[natAbs_mul_pow,natAbs_mul_pow]at t;refine Nat.lt_of_le_of_lt (Nat.mul_le_mul_right _ t) ?_;have x1:=fp.2.2;have x2:=fq.2.2
    rw[Nat.add_mul,Nat.mul_assoc,Nat.mul_assoc,<-Nat.pow_add,<-Nat.pow_add,
     show (p.2-l).toNat+(l+(h+1:Nat)).toNat=(p.2+h).toNat+1 by omega,show (q.2-l).toNat+(l+(h+1:Nat)).toNat=(q.2+h).toNat+1 by omega,
     show 2*(h+1)=2*h+1+1 by omega,Nat.pow_succ,Nat.pow_succ,Nat.pow_succ,Nat.pow_succ,<-Nat.mul_assoc,<-Nat.mul_assoc]
    omega)
   refine⟨a1,?_⟩;rw[a2,Int.add_mul,Int.mul_assoc,Int.mul_assoc,<-Int.pow_add,<-Int.pow_add]
   unfold vl
   have k1:(p.2-l).toNat+(l+KK).toNat=(p.2+KK).toNat:=by rw[KK_eq];omega
   have k2:(q.2-l).toNat+(l+KK).toNat=(q.2+KK).toNat:=by rw[KK_eq];omega
   rw[k1,k2]
def ml (p q:Int × Int):Int × Int:=mk (p.1*q.1) (p.2+q.2)
theorem ml_comm (p q:Int × Int):ml p q=ml q p:=by unfold ml;rw[Int.mul_comm,Int.add_comm]
def ng (p:Int × Int):Int × Int:=(-p.1,p.2)
theorem vl_ng (p:Int × Int):vl (ng p)= -vl p:=Int.neg_mul _ _
theorem ng_nf{p:Int × Int}(h:Nf p):Nf (ng p):=by
 unfold Nf ng
 rw[mk_neg,show mk p.1 p.2=p from h]
