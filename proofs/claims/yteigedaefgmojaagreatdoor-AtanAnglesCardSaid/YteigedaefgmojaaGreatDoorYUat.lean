/-
 Contracts that the proof rests on.
-/
import Derived.Test.YteigedaefgmojaaGreatDoorYUas
namespace Go.Proofs.YteigedaefgmojaaGreatDoor
open Go.Proofs.Tryz
set_option maxHeartbeats 8000000
open Go.RowKit
set_option linter.unusedVariables false
set_option linter.unusedSimpArgs false
set_option maxRecDepth 100000
theorem kI{s:Bool}{H L e V:Int}{f:Bool->Int}(hH:0<=H)(hH2:LQ H)(hL:0<=L)(hL2:LQ L)(hV:H*18446744073709551616+L=V)(e1: -2900000<=e)(e2:e<=2900000)(h:∀up,eI up (mk (aj s V) (e-64)).1 (mk (aj s V) (e-64)).2=f up):Wd s H L e f:=by
 obtain⟨a,rfl⟩:=Int.eq_ofNat_of_zero_le hH;obtain⟨b,rfl⟩:=Int.eq_ofNat_of_zero_le hL
 refine⟨a,b,by omega,by omega,rfl,rfl,e1,e2,fun up=>?_⟩
 have e:((a*18446744073709551616+b:Nat):Int)=V:=by omega
 rw[e];exact h up
theorem jp{H1 L1 H2 L2 V1 V2:Int}(h1:0<=H1/\H1 < 18446744073709551616/\0<=L1/\L1 < 18446744073709551616/\H1*18446744073709551616+L1=V1)(h2:0<=H2/\H2 < 18446744073709551616/\0<=L2/\L2 < 18446744073709551616/\H2*18446744073709551616+L2=V2)(h:V1+V2 < 340282366920938463463374607431768211456):
  ∃S c T d,(L1+L2+0)%18446744073709551616=S/\(L1+L2+0) /18446744073709551616=c/\(H1+H2+c)%18446744073709551616=T/\(H1+H2+c) /18446744073709551616=d/\0<=c/\c<=1/\0<=S/\S < 18446744073709551616/\0<=T/\T < 18446744073709551616/\T*18446744073709551616+S=V1+V2:=by
 refine⟨_,_,_,_,rfl,rfl,rfl,rfl,?_⟩
 omega
theorem jD{H1 L1 H2 L2 V1 V2:Int}(h1:0<=H1/\H1 < 18446744073709551616/\0<=L1/\L1 < 18446744073709551616/\H1*18446744073709551616+L1=V1)(h2:0<=H2/\H2 < 18446744073709551616/\0<=L2/\L2 < 18446744073709551616/\H2*18446744073709551616+L2=V2)(h:0<=V1-V2):
  ∃S c T d,(L1-L2-0)%18446744073709551616=S/\(if L1 < L2+0 then (1:Int)else 0)=c/\(H1-H2-c)%18446744073709551616=T/\(if H1 < H2+c then (1:Int)else 0)=d/\0<=c/\c<=1/\0<=S/\S < 18446744073709551616/\0<=T/\T < 18446744073709551616/\T*18446744073709551616+S=V1-V2:=by
 by_cases q:L1 < L2+0
 ·exact⟨_,1,_,_,rfl,if_pos q,rfl,rfl,by omega,by omega,by omega,by omega,by omega,by omega,by omega⟩
 ·exact⟨_,0,_,_,rfl,if_neg q,rfl,rfl,by omega,by omega,by omega,by omega,by omega,by omega,by omega⟩
theorem IK{w:World}{s1 s2:Bool}{M1 M2 E1 E2 x y:Int}(hT:Tb w)(q1:Fq 1 s1 M1 E1 x)(q2:Fq 1 s2 M2 E2 y)(h:E1 < E2):Calls prog 173 #[VQ 1 s1 M1 E1,VQ 1 s2 M2 E2] w (I7 w fun up=>ay up x y):=by
 delta VQ
 obtain⟨a1,a2,a3,a4,_⟩:=eV q1;obtain⟨b1,b2,b3,b4,_⟩:=eV q2;have HO:=ie (h);obtain⟨n,hn⟩:∃n:Nat,(n:Int)=E2-E1+1:=⟨(E2-E1+1).toNat,by omega⟩
 have bA:∀(S:Int) up,S=M2*9223372036854775808+aj (s2 !=s1) (gx M1 n)->0<=S/\S < 340282366920938463463374607431768211456/\eI up (mk (aj s2 S) (E2+1-64)).1 (mk (aj s2 S) (E2+1-64)).2=ay up x y:=fun S up hS=>by
  obtain⟨u1,u2,u3⟩:=kE up q2 q1 (by omega) hn hS;refine⟨u1,u2,?_⟩
  rw[show E2+1-64=E2-63 by omega,u3]
  exact dM up
 have O:=ie bA;obtain⟨N,hN⟩:∃N,(n:Int)=N:=⟨_,rfl⟩;obtain⟨D,hD⟩:∃D,E2-E1=D:=⟨_,rfl⟩
 have n1:1<=n:=by omega
 have n3:n<=4000000:=by omega
 have HN:=ie hN
 have HD:=ie (show IntKind.i64.wrap (E2-E1)=D by rw[hD];exact IntWalk.i64_in _ (by omega))
 have bC:=ie (show IntKind.i64.wrap (D+1)=N by rw[show D+1=N by omega];exact IntWalk.i64_in _ (by omega))
 obtain⟨Y,hY⟩:∃Y,E1+N=Y:=⟨_,rfl⟩;have HY:=ie hY;obtain⟨Z,hZ⟩:∃Z,E2+1=Z:=⟨_,rfl⟩;have HZ:=ie hZ
 have z1: -2900000<=Z:=by omega
 have z2:Z<=2900000:=by omega
 have v1:gx M2 1=M2*9223372036854775808:=by
  unfold gx
  rw[if_pos (by decide)]
  rfl
 have bD:=ie v1
 have g1:9223372036854775808<=M2:=by omega
 have g2:M2 < 18446744073709551616:=by omega
 have g3: -2000000<=E2:=by omega
 have g4:E2<=2000000:=by omega
 have k1:9223372036854775808<=M1:=by omega
 have k2:M1 < 18446744073709551616:=by omega
 have k3: -2000000<=E1:=by omega
 have k4:E1<=2000000:=by omega
 clear hn hN hD hY hZ v1 bA h q1 q2 a1 a2 a3 a4 b1 b2 b3 b4
 go_enter func173,ntmps173
 go_upto_region 1 with fail
 generalize X:((w.alloc _).alloc _).alloc _=w1 at *;obtain⟨X2,X3,a,f⟩:=Bo.en3 X;replace hT:=hT.below f.out;clear X;have hB:=X2.cell;have hC:=X3.cell
 go_wp2_with fail
 refine(Cx HO.out).mono ?_;rintro ee w2 ⟨rfl,B⟩;clear hB hC;refine aF ?_ a hT f B;clear a hT f B;intro a hT f
 go_upto_region 2 with fail
 clear X2 X3
 have bB:(World.alloc w2 (.cells #[.int .i64 1,.bool s2,.int .u64 M2,.int .i64 E2] 24)).heap.size=w2.heap.size+1:=by simp
 have bN:=a.lt;have BX:=af w2 (.cells #[.int .i64 1,.bool s2,.int .u64 M2,.int .i64 E2] 24);replace a:=a.b BX;replace hT:=hT.b BX;replace f:=ie (bt f.out BX);have i:=Bo.new w2 #[.int .i64 1,.bool s2,.int .u64 M2,.int .i64 E2] 24
 generalize o:World.alloc w2 (.cells #[.int .i64 1,.bool s2,.int .u64 M2,.int .i64 E2] 24)=w3 at *;clear o;have I:=a.lt;have H:=i.lt;generalize o:w3.alloc _=w4 at *;obtain⟨m,E⟩:=Bo.nw o;clear o;refine aR ?_ a i hT f E;clear a i hT f E;intro a i hT f;rw[bB]at m H I;clear bB
 have p:=i.cell
 go_wp2_with fail
 refine(iW (n:=1) (s:=s2) hT g1 g2 (by rfl) HZ.out g3 g4 (by decide) (by decide)).mono ?_;rintro ee C ⟨H1,L1,rfl,t,B⟩;clear p;refine dW ?_ a i m hT f B;clear a i m hT f B;intro a i m hT f;rw[bD.out]at t
 go_upto_region 3 with fail
 have gB:=a.lt;have fH:=i.lt;have fP:=m.lt;generalize o:C.alloc _=w6 at *;obtain⟨j,E⟩:=Bo.nw o;clear o;refine dW ?_ a i m hT f E;clear a i m hT f E;intro a i m hT f;have p:=i.cell;have u:=m.cell;have hd:=HD.out
 have bH:=bC.out
 go_wp2_with fail
 refine(iW (s:=s1) hT k1 k2 HN.out HY.out k3 k4 n1 n3).mono ?_;rintro ee w7 ⟨H2,L2,rfl,p2,B⟩;clear p u;refine dW ?_ a i m j f B;clear a i m j f B;intro a i m j f;clear hd bH
 go_upto_region 5 with fail
 have hA:=a.lt;have gO:=i.lt;have gP:=m.lt;have gS:=j.lt;generalize o:w7.alloc _=M at *;obtain⟨A,E⟩:=Bo.nw o;clear o;refine dW ?_ a i m j f E;clear a i m j f E;intro a i m j f
 by_cases hs:s2=s1
 ·subst hs
  have r:(s2 !=s2)=false:=by cases s2 <;> rfl
  have g:=O.out (M2*9223372036854775808+gx M1 n);rw[r,aK]at g;have hb:=(g true rfl).2.1;obtain⟨S,c,T,d,Q,R,U,V,c0,c1,o1,o2,o3,o4,o5⟩:=jp t p2 hb
  have F:=fun W:World=>iT W t.2.2.1 p2.2.2.1 (by decide) (by decide) Q R
  have G:=fun W:World=>iT W t.1 p2.1 c0 c1 U V
  have P:=ie (And.intro o5 g)
  clear Q R U V t p2 hb g o5;have p:=i.cell;have u:=m.cell;have k:=j.cell;have l:=j.frozen;have q:=A.cell
  go_upto_region 7 with (simp only[F])
  clear p u k l q
  have e:ac M (World.setCell M ⟨C.heap.size,2,none⟩ (.int .u64 S)) _ _ #[.bool s2,.int .u64 H1,.int .u64 S,.int .i64 Z] _:=ac.at4 j 2 (.int .u64 S)
  replace a:=a.s e;replace i:=i.s e;replace m:=m.s e;replace A:=A.s e;replace f:=bi f e (by omega);replace j:=e.box;clear e;generalize World.setCell M ⟨C.heap.size,2,none⟩ (.int .u64 S)=J at *;have k:=j.cell;have l:=j.frozen;have q:=A.cell
  go_upto_region 10 with (simp only[G])
  clear k l q
  have e:ac J (World.setCell J ⟨C.heap.size,1,none⟩ (.int .u64 T)) _ _ #[.bool s2,.int .u64 T,.int .u64 S,.int .i64 Z] _:=ac.at4 j 1 (.int .u64 T)
  replace a:=a.s e;replace i:=i.s e;replace m:=m.s e;replace A:=A.s e;replace f:=bi f e (by omega);replace j:=e.box;clear e;generalize World.setCell J ⟨C.heap.size,1,none⟩ (.int .u64 T)=wA at *;have L:=a.cell;have z:=a.frozen;have k:=j.cell
  go_wp2;clear L z k;have e:=ac.mk4 a (.bool s2) (.int .u64 T) (.int .u64 S) (.int .i64 Z)
  exact bq (v:= .agg #[.bool s2,.int .u64 T,.int .u64 S,.int .i64 Z]) (by simp[results,results173,go_sem,e.box.cell]) rfl ⟨_,_,_,_,rfl,kI o3 o4 o1 o2 P.out.1 z1 z2 fun up=>by rw[<-HZ.out];exact(P.out.2 up (by first | rfl | trivial)).2.2,(e.below f.out (by omega))⟩
 ·have r:(s2 !=s1)=true:=by cases s2 <;> cases s1 <;> first | rfl | exact absurd rfl hs
  have hE:(s2==s1)=false:=by cases s2 <;> cases s1 <;> first | rfl | exact absurd rfl hs
  have g:=O.out (M2*9223372036854775808-gx M1 n);rw[r,aN]at g;have hb:=(g true (by omega)).1;obtain⟨S,c,T,d,Q,R,U,V,c0,c1,o1,o2,o3,o4,o5⟩:=jD t p2 hb
  have F:=fun W:World=>iX W t.2.2.1 t.2.2.2.1 p2.2.2.1 p2.2.2.2.1 (by decide) (by decide) Q R
  have G:=fun W:World=>iX W t.1 t.2.1 p2.1 p2.2.1 c0 c1 U V
  have P:=ie (And.intro o5 g)
  clear Q R U V t p2 hb g o5;have p:=i.cell;have u:=m.cell;have k:=j.cell;have l:=j.frozen;have q:=A.cell
  go_upto_region 9 with (simp only[F])
  clear p u k l q
  have e:ac M (World.setCell M ⟨C.heap.size,2,none⟩ (.int .u64 S)) _ _ #[.bool s2,.int .u64 H1,.int .u64 S,.int .i64 Z] _:=ac.at4 j 2 (.int .u64 S)
  replace a:=a.s e;replace A:=A.s e;replace f:=bi f e (by omega);replace j:=e.box;clear e;generalize World.setCell M ⟨C.heap.size,2,none⟩ (.int .u64 S)=J at *;have k:=j.cell;have l:=j.frozen;have q:=A.cell
  go_upto_region 10 with (simp only[G])
  clear k l q
  have e:ac J (World.setCell J ⟨C.heap.size,1,none⟩ (.int .u64 T)) _ _ #[.bool s2,.int .u64 T,.int .u64 S,.int .i64 Z] _:=ac.at4 j 1 (.int .u64 T)
  replace a:=a.s e;replace f:=bi f e (by omega);replace j:=e.box;clear e;generalize World.setCell J ⟨C.heap.size,1,none⟩ (.int .u64 T)=wA at *;have L:=a.cell;have z:=a.frozen;have k:=j.cell;go_wp2;clear L z k;have e:=ac.mk4 a (.bool s2) (.int .u64 T) (.int .u64 S) (.int .i64 Z)
  exact bq (v:= .agg #[.bool s2,.int .u64 T,.int .u64 S,.int .i64 Z]) (by simp[results,results173,go_sem,e.box.cell]) rfl ⟨_,_,_,_,rfl,kI o3 o4 o1 o2 P.out.1 z1 z2 fun up=>by rw[<-HZ.out];exact(P.out.2 up (by omega)).2.2,(e.below f.out (by omega))⟩
theorem DA{w:World}{s1 s2:Bool}{M1 M2 E1 E2 x y:Int}(hT:Tb w)(q1:Fq 1 s1 M1 E1 x)(q2:Fq 1 s2 M2 E2 y)(h:E1=E2)(hm:M1 < M2):Calls prog 173 #[VQ 1 s1 M1 E1,VQ 1 s2 M2 E2] w (I7 w fun up=>ay up x y):=by
 delta VQ
 obtain⟨a1,a2,a3,a4,_⟩:=eV q1;obtain⟨b1,b2,b3,b4,_⟩:=eV q2
 have HO:=ie (And.intro h hm)
 obtain⟨n,hn⟩:∃n:Nat,(n:Int)=E2-E1+1:=⟨(E2-E1+1).toNat,by omega⟩
 have bA:∀(S:Int) up,S=M2*9223372036854775808+aj (s2 !=s1) (gx M1 n)->0<=S/\S < 340282366920938463463374607431768211456/\eI up (mk (aj s2 S) (E2+1-64)).1 (mk (aj s2 S) (E2+1-64)).2=ay up x y:=fun S up hS=>by
  obtain⟨u1,u2,u3⟩:=kE up q2 q1 (by omega) hn hS;refine⟨u1,u2,?_⟩
  rw[show E2+1-64=E2-63 by omega,u3]
  exact dM up
 have O:=ie bA;obtain⟨N,hN⟩:∃N,(n:Int)=N:=⟨_,rfl⟩;obtain⟨D,hD⟩:∃D,E2-E1=D:=⟨_,rfl⟩
 have n1:1<=n:=by omega
 have n3:n<=4000000:=by omega
 have HN:=ie hN
 have HD:=ie (show IntKind.i64.wrap (E2-E1)=D by rw[hD];exact IntWalk.i64_in _ (by omega))
 have bC:=ie (show IntKind.i64.wrap (D+1)=N by rw[show D+1=N by omega];exact IntWalk.i64_in _ (by omega))
 obtain⟨Y,hY⟩:∃Y,E1+N=Y:=⟨_,rfl⟩;have HY:=ie hY;obtain⟨Z,hZ⟩:∃Z,E2+1=Z:=⟨_,rfl⟩;have HZ:=ie hZ
 have z1: -2900000<=Z:=by omega
 have z2:Z<=2900000:=by omega
 have v1:gx M2 1=M2*9223372036854775808:=by
  unfold gx
  rw[if_pos (by decide)]
  rfl
 have bD:=ie v1
 have g1:9223372036854775808<=M2:=by omega
 have g2:M2 < 18446744073709551616:=by omega
 have g3: -2000000<=E2:=by omega
 have g4:E2<=2000000:=by omega
 have k1:9223372036854775808<=M1:=by omega
 have k2:M1 < 18446744073709551616:=by omega
 have k3: -2000000<=E1:=by omega
 have k4:E1<=2000000:=by omega
 clear hn hN hD hY hZ v1 bA h hm q1 q2 a1 a2 a3 a4 b1 b2 b3 b4
 go_enter func173,ntmps173
 go_upto_region 1 with fail
 generalize X:((w.alloc _).alloc _).alloc _=w1 at *;obtain⟨X2,X3,a,f⟩:=Bo.en3 X;replace hT:=hT.below f.out;clear X;have hB:=X2.cell;have hC:=X3.cell
 go_wp2_with fail
 refine(tg HO.out.1 (by have:=HO.out.2;omega)).mono ?_;rintro ee w2 ⟨rfl,B⟩;clear hB hC;refine aF ?_ a hT f B;clear a hT f B;intro a hT f
 go_upto_region 2 with fail
 clear X2 X3
 have bB:(World.alloc w2 (.cells #[.int .i64 1,.bool s2,.int .u64 M2,.int .i64 E2] 24)).heap.size=w2.heap.size+1:=by simp
 have bN:=a.lt;have BX:=af w2 (.cells #[.int .i64 1,.bool s2,.int .u64 M2,.int .i64 E2] 24);replace a:=a.b BX;replace hT:=hT.b BX;replace f:=ie (bt f.out BX);have i:=Bo.new w2 #[.int .i64 1,.bool s2,.int .u64 M2,.int .i64 E2] 24
 generalize o:World.alloc w2 (.cells #[.int .i64 1,.bool s2,.int .u64 M2,.int .i64 E2] 24)=w3 at *;clear o;have I:=a.lt;have H:=i.lt;generalize o:w3.alloc _=w4 at *;obtain⟨m,E⟩:=Bo.nw o;clear o;refine aR ?_ a i hT f E;clear a i hT f E;intro a i hT f;rw[bB]at m H I;clear bB
 have p:=i.cell
 go_wp2_with fail
 refine(iW (n:=1) (s:=s2) hT g1 g2 (by rfl) HZ.out g3 g4 (by decide) (by decide)).mono ?_;rintro ee C ⟨H1,L1,rfl,t,B⟩;clear p;refine dW ?_ a i m hT f B;clear a i m hT f B;intro a i m hT f;rw[bD.out]at t
 go_upto_region 3 with fail
 have gB:=a.lt;have fH:=i.lt;have fP:=m.lt;generalize o:C.alloc _=w6 at *;obtain⟨j,E⟩:=Bo.nw o;clear o;refine dW ?_ a i m hT f E;clear a i m hT f E;intro a i m hT f;have p:=i.cell;have u:=m.cell;have hd:=HD.out
 have bH:=bC.out
 go_wp2_with fail
 refine(iW (s:=s1) hT k1 k2 HN.out HY.out k3 k4 n1 n3).mono ?_;rintro ee w7 ⟨H2,L2,rfl,p2,B⟩;clear p u;refine dW ?_ a i m j f B;clear a i m j f B;intro a i m j f;clear hd bH
 go_upto_region 5 with fail
 have hA:=a.lt;have gO:=i.lt;have gP:=m.lt;have gS:=j.lt;generalize o:w7.alloc _=M at *;obtain⟨A,E⟩:=Bo.nw o;clear o;refine dW ?_ a i m j f E;clear a i m j f E;intro a i m j f
 by_cases hs:s2=s1
 ·subst hs
  have r:(s2 !=s2)=false:=by cases s2 <;> rfl
  have g:=O.out (M2*9223372036854775808+gx M1 n);rw[r,aK]at g;have hb:=(g true rfl).2.1;obtain⟨S,c,T,d,Q,R,U,V,c0,c1,o1,o2,o3,o4,o5⟩:=jp t p2 hb
  have F:=fun W:World=>iT W t.2.2.1 p2.2.2.1 (by decide) (by decide) Q R
  have G:=fun W:World=>iT W t.1 p2.1 c0 c1 U V
  have P:=ie (And.intro o5 g)
  clear Q R U V t p2 hb g o5;have p:=i.cell;have u:=m.cell;have k:=j.cell;have l:=j.frozen;have q:=A.cell
  go_upto_region 7 with (simp only[F])
  clear p u k l q
  have e:ac M (World.setCell M ⟨C.heap.size,2,none⟩ (.int .u64 S)) _ _ #[.bool s2,.int .u64 H1,.int .u64 S,.int .i64 Z] _:=ac.at4 j 2 (.int .u64 S)
  replace a:=a.s e;replace i:=i.s e;replace m:=m.s e;replace A:=A.s e;replace f:=bi f e (by omega);replace j:=e.box;clear e;generalize World.setCell M ⟨C.heap.size,2,none⟩ (.int .u64 S)=J at *;have k:=j.cell;have l:=j.frozen;have q:=A.cell
  go_upto_region 10 with (simp only[G])
  clear k l q
  have e:ac J (World.setCell J ⟨C.heap.size,1,none⟩ (.int .u64 T)) _ _ #[.bool s2,.int .u64 T,.int .u64 S,.int .i64 Z] _:=ac.at4 j 1 (.int .u64 T)
  replace a:=a.s e;replace i:=i.s e;replace m:=m.s e;replace A:=A.s e;replace f:=bi f e (by omega);replace j:=e.box;clear e;generalize World.setCell J ⟨C.heap.size,1,none⟩ (.int .u64 T)=wA at *;have L:=a.cell;have z:=a.frozen;have k:=j.cell
  go_wp2;clear L z k;have e:=ac.mk4 a (.bool s2) (.int .u64 T) (.int .u64 S) (.int .i64 Z)
  exact bq (v:= .agg #[.bool s2,.int .u64 T,.int .u64 S,.int .i64 Z]) (by simp[results,results173,go_sem,e.box.cell]) rfl ⟨_,_,_,_,rfl,kI o3 o4 o1 o2 P.out.1 z1 z2 fun up=>by rw[<-HZ.out];exact(P.out.2 up (by first | rfl | trivial)).2.2,(e.below f.out (by omega))⟩
 ·have r:(s2 !=s1)=true:=by cases s2 <;> cases s1 <;> first | rfl | exact absurd rfl hs
  have hE:(s2==s1)=false:=by cases s2 <;> cases s1 <;> first | rfl | exact absurd rfl hs
  have g:=O.out (M2*9223372036854775808-gx M1 n);rw[r,aN]at g;have hb:=(g true (by omega)).1;obtain⟨S,c,T,d,Q,R,U,V,c0,c1,o1,o2,o3,o4,o5⟩:=jD t p2 hb
  have F:=fun W:World=>iX W t.2.2.1 t.2.2.2.1 p2.2.2.1 p2.2.2.2.1 (by decide) (by decide) Q R
  have G:=fun W:World=>iX W t.1 t.2.1 p2.1 p2.2.1 c0 c1 U V
  have P:=ie (And.intro o5 g)
  clear Q R U V t p2 hb g o5;have p:=i.cell;have u:=m.cell;have k:=j.cell;have l:=j.frozen;have q:=A.cell
  go_upto_region 9 with (simp only[F])
  clear p u k l q
  have e:ac M (World.setCell M ⟨C.heap.size,2,none⟩ (.int .u64 S)) _ _ #[.bool s2,.int .u64 H1,.int .u64 S,.int .i64 Z] _:=ac.at4 j 2 (.int .u64 S)
  replace a:=a.s e;replace A:=A.s e;replace f:=bi f e (by omega);replace j:=e.box;clear e;generalize World.setCell M ⟨C.heap.size,2,none⟩ (.int .u64 S)=J at *;have k:=j.cell;have l:=j.frozen;have q:=A.cell
  go_upto_region 10 with (simp only[G])
  clear k l q
  have e:ac J (World.setCell J ⟨C.heap.size,1,none⟩ (.int .u64 T)) _ _ #[.bool s2,.int .u64 T,.int .u64 S,.int .i64 Z] _:=ac.at4 j 1 (.int .u64 T)
  replace a:=a.s e;replace f:=bi f e (by omega);replace j:=e.box;clear e;generalize World.setCell J ⟨C.heap.size,1,none⟩ (.int .u64 T)=wA at *;have L:=a.cell;have z:=a.frozen;have k:=j.cell;go_wp2;clear L z k;have e:=ac.mk4 a (.bool s2) (.int .u64 T) (.int .u64 S) (.int .i64 Z)
  exact bq (v:= .agg #[.bool s2,.int .u64 T,.int .u64 S,.int .i64 Z]) (by simp[results,results173,go_sem,e.box.cell]) rfl ⟨_,_,_,_,rfl,kI o3 o4 o1 o2 P.out.1 z1 z2 fun up=>by rw[<-HZ.out];exact(P.out.2 up (by omega)).2.2,(e.below f.out (by omega))⟩
theorem Dz{w:World}{s1 s2:Bool}{M1 M2 E1 E2 x y:Int}(hT:Tb w)(q1:Fq 1 s1 M1 E1 x)(q2:Fq 1 s2 M2 E2 y)(h:E1=E2)(hm:¬M1 < M2):Calls prog 173 #[VQ 1 s1 M1 E1,VQ 1 s2 M2 E2] w (I7 w fun up=>ay up x y):=by
 delta VQ
 obtain⟨a1,a2,a3,a4,_⟩:=eV q1;obtain⟨b1,b2,b3,b4,_⟩:=eV q2
 have HO:=ie (And.intro h hm)
 obtain⟨n,hn⟩:∃n:Nat,(n:Int)=E1-E2+1:=⟨(E1-E2+1).toNat,by omega⟩
 have bA:∀(S:Int) up,S=M1*9223372036854775808+aj (s1 !=s2) (gx M2 n)->0<=S/\S < 340282366920938463463374607431768211456/\eI up (mk (aj s1 S) (E1+1-64)).1 (mk (aj s1 S) (E1+1-64)).2=ay up x y:=fun S up hS=>by
  obtain⟨u1,u2,u3⟩:=kE up q1 q2 (by omega) hn hS;refine⟨u1,u2,?_⟩
  rw[show E1+1-64=E1-63 by omega,u3]
 have O:=ie bA;obtain⟨N,hN⟩:∃N,(n:Int)=N:=⟨_,rfl⟩;obtain⟨D,hD⟩:∃D,E1-E2=D:=⟨_,rfl⟩
 have n1:1<=n:=by omega
 have n3:n<=4000000:=by omega
 have HN:=ie hN
 have HD:=ie (show IntKind.i64.wrap (E1-E2)=D by rw[hD];exact IntWalk.i64_in _ (by omega))
 have bC:=ie (show IntKind.i64.wrap (D+1)=N by rw[show D+1=N by omega];exact IntWalk.i64_in _ (by omega))
 obtain⟨Y,hY⟩:∃Y,E2+N=Y:=⟨_,rfl⟩;have HY:=ie hY;obtain⟨Z,hZ⟩:∃Z,E1+1=Z:=⟨_,rfl⟩;have HZ:=ie hZ
 have z1: -2900000<=Z:=by omega
 have z2:Z<=2900000:=by omega
 have v1:gx M1 1=M1*9223372036854775808:=by
  unfold gx
  rw[if_pos (by decide)]
  rfl
 have bD:=ie v1
 have g1:9223372036854775808<=M1:=by omega
 have g2:M1 < 18446744073709551616:=by omega
 have g3: -2000000<=E1:=by omega
 have g4:E1<=2000000:=by omega
 have k1:9223372036854775808<=M2:=by omega
 have k2:M2 < 18446744073709551616:=by omega
 have k3: -2000000<=E2:=by omega
 have k4:E2<=2000000:=by omega
 clear hn hN hD hY hZ v1 bA h hm q1 q2 a1 a2 a3 a4 b1 b2 b3 b4
 go_enter func173,ntmps173
 go_upto_region 1 with fail
 generalize X:((w.alloc _).alloc _).alloc _=w1 at *;obtain⟨X2,X3,a,f⟩:=Bo.en3 X;replace hT:=hT.below f.out;clear X;have hB:=X2.cell;have hC:=X3.cell
 go_wp2_with fail
 refine(te HO.out.1 (by have:=HO.out.2;omega)).mono ?_;rintro ee w2 ⟨rfl,B⟩;clear hB hC;refine aF ?_ a hT f B;clear a hT f B;intro a hT f
 go_upto_region 2 with fail
 clear X2 X3
 have bB:(World.alloc w2 (.cells #[.int .i64 1,.bool s1,.int .u64 M1,.int .i64 E1] 24)).heap.size=w2.heap.size+1:=by simp
 have bN:=a.lt;have BX:=af w2 (.cells #[.int .i64 1,.bool s1,.int .u64 M1,.int .i64 E1] 24);replace a:=a.b BX;replace hT:=hT.b BX;replace f:=ie (bt f.out BX);have i:=Bo.new w2 #[.int .i64 1,.bool s1,.int .u64 M1,.int .i64 E1] 24
 generalize o:World.alloc w2 (.cells #[.int .i64 1,.bool s1,.int .u64 M1,.int .i64 E1] 24)=w3 at *;clear o;have I:=a.lt;have H:=i.lt;generalize o:w3.alloc _=w4 at *;obtain⟨m,E⟩:=Bo.nw o;clear o;refine aR ?_ a i hT f E;clear a i hT f E;intro a i hT f;rw[bB]at m H I;clear bB
 have p:=i.cell
 go_wp2_with fail
 refine(iW (n:=1) (s:=s1) hT g1 g2 (by rfl) HZ.out g3 g4 (by decide) (by decide)).mono ?_;rintro ee C ⟨H1,L1,rfl,t,B⟩;clear p;refine dW ?_ a i m hT f B;clear a i m hT f B;intro a i m hT f;rw[bD.out]at t
 go_upto_region 3 with fail
 have gB:=a.lt;have fH:=i.lt;have fP:=m.lt;generalize o:C.alloc _=w6 at *;obtain⟨j,E⟩:=Bo.nw o;clear o;refine dW ?_ a i m hT f E;clear a i m hT f E;intro a i m hT f;have p:=i.cell;have u:=m.cell;have hd:=HD.out
 have bH:=bC.out
 go_wp2_with fail
 refine(iW (s:=s2) hT k1 k2 HN.out HY.out k3 k4 n1 n3).mono ?_;rintro ee w7 ⟨H2,L2,rfl,p2,B⟩;clear p u;refine dW ?_ a i m j f B;clear a i m j f B;intro a i m j f;clear hd bH
 go_upto_region 5 with fail
 have hA:=a.lt;have gO:=i.lt;have gP:=m.lt;have gS:=j.lt;generalize o:w7.alloc _=M at *;obtain⟨A,E⟩:=Bo.nw o;clear o;refine dW ?_ a i m j f E;clear a i m j f E;intro a i m j f
 by_cases hs:s1=s2
 ·subst hs
  have r:(s1 !=s1)=false:=by cases s1 <;> rfl
  have g:=O.out (M1*9223372036854775808+gx M2 n);rw[r,aK]at g;have hb:=(g true rfl).2.1;obtain⟨S,c,T,d,Q,R,U,V,c0,c1,o1,o2,o3,o4,o5⟩:=jp t p2 hb
  have F:=fun W:World=>iT W t.2.2.1 p2.2.2.1 (by decide) (by decide) Q R
  have G:=fun W:World=>iT W t.1 p2.1 c0 c1 U V
  have P:=ie (And.intro o5 g)
  clear Q R U V t p2 hb g o5;have p:=i.cell;have u:=m.cell;have k:=j.cell;have l:=j.frozen;have q:=A.cell
  go_upto_region 7 with (simp only[F])
  clear p u k l q
  have e:ac M (World.setCell M ⟨C.heap.size,2,none⟩ (.int .u64 S)) _ _ #[.bool s1,.int .u64 H1,.int .u64 S,.int .i64 Z] _:=ac.at4 j 2 (.int .u64 S)
  replace a:=a.s e;replace i:=i.s e;replace m:=m.s e;replace A:=A.s e;replace f:=bi f e (by omega);replace j:=e.box;clear e;generalize World.setCell M ⟨C.heap.size,2,none⟩ (.int .u64 S)=J at *;have k:=j.cell;have l:=j.frozen;have q:=A.cell
  go_upto_region 10 with (simp only[G])
  clear k l q
  have e:ac J (World.setCell J ⟨C.heap.size,1,none⟩ (.int .u64 T)) _ _ #[.bool s1,.int .u64 T,.int .u64 S,.int .i64 Z] _:=ac.at4 j 1 (.int .u64 T)
  replace a:=a.s e;replace i:=i.s e;replace m:=m.s e;replace A:=A.s e;replace f:=bi f e (by omega);replace j:=e.box;clear e;generalize World.setCell J ⟨C.heap.size,1,none⟩ (.int .u64 T)=wA at *;have L:=a.cell;have z:=a.frozen;have k:=j.cell
  go_wp2;clear L z k;have e:=ac.mk4 a (.bool s1) (.int .u64 T) (.int .u64 S) (.int .i64 Z)
  exact bq (v:= .agg #[.bool s1,.int .u64 T,.int .u64 S,.int .i64 Z]) (by simp[results,results173,go_sem,e.box.cell]) rfl ⟨_,_,_,_,rfl,kI o3 o4 o1 o2 P.out.1 z1 z2 fun up=>by rw[<-HZ.out];exact(P.out.2 up (by first | rfl | trivial)).2.2,(e.below f.out (by omega))⟩
 ·have r:(s1 !=s2)=true:=by cases s1 <;> cases s2 <;> first | rfl | exact absurd rfl hs
  have hE:(s1==s2)=false:=by cases s1 <;> cases s2 <;> first | rfl | exact absurd rfl hs
  have g:=O.out (M1*9223372036854775808-gx M2 n);rw[r,aN]at g;have hb:=(g true (by omega)).1;obtain⟨S,c,T,d,Q,R,U,V,c0,c1,o1,o2,o3,o4,o5⟩:=jD t p2 hb
  have F:=fun W:World=>iX W t.2.2.1 t.2.2.2.1 p2.2.2.1 p2.2.2.2.1 (by decide) (by decide) Q R
  have G:=fun W:World=>iX W t.1 t.2.1 p2.1 p2.2.1 c0 c1 U V
  have P:=ie (And.intro o5 g)
  clear Q R U V t p2 hb g o5;have p:=i.cell;have u:=m.cell;have k:=j.cell;have l:=j.frozen;have q:=A.cell
  go_upto_region 9 with (simp only[F])
  clear p u k l q
  have e:ac M (World.setCell M ⟨C.heap.size,2,none⟩ (.int .u64 S)) _ _ #[.bool s1,.int .u64 H1,.int .u64 S,.int .i64 Z] _:=ac.at4 j 2 (.int .u64 S)
  replace a:=a.s e;replace A:=A.s e;replace f:=bi f e (by omega);replace j:=e.box;clear e;generalize World.setCell M ⟨C.heap.size,2,none⟩ (.int .u64 S)=J at *;have k:=j.cell;have l:=j.frozen;have q:=A.cell
  go_upto_region 10 with (simp only[G])
  clear k l q
  have e:ac J (World.setCell J ⟨C.heap.size,1,none⟩ (.int .u64 T)) _ _ #[.bool s1,.int .u64 T,.int .u64 S,.int .i64 Z] _:=ac.at4 j 1 (.int .u64 T)
  replace a:=a.s e;replace f:=bi f e (by omega);replace j:=e.box;clear e;generalize World.setCell J ⟨C.heap.size,1,none⟩ (.int .u64 T)=wA at *;have L:=a.cell;have z:=a.frozen;have k:=j.cell;go_wp2;clear L z k;have e:=ac.mk4 a (.bool s1) (.int .u64 T) (.int .u64 S) (.int .i64 Z)
  exact bq (v:= .agg #[.bool s1,.int .u64 T,.int .u64 S,.int .i64 Z]) (by simp[results,results173,go_sem,e.box.cell]) rfl ⟨_,_,_,_,rfl,kI o3 o4 o1 o2 P.out.1 z1 z2 fun up=>by rw[<-HZ.out];exact(P.out.2 up (by omega)).2.2,(e.below f.out (by omega))⟩
theorem IJ{w:World}{s1 s2:Bool}{M1 M2 E1 E2 x y:Int}(hT:Tb w)(q1:Fq 1 s1 M1 E1 x)(q2:Fq 1 s2 M2 E2 y)(h:E2 < E1):Calls prog 173 #[VQ 1 s1 M1 E1,VQ 1 s2 M2 E2] w (I7 w fun up=>ay up x y):=by
 delta VQ
 obtain⟨a1,a2,a3,a4,_⟩:=eV q1;obtain⟨b1,b2,b3,b4,_⟩:=eV q2;have HO:=ie (h);obtain⟨n,hn⟩:∃n:Nat,(n:Int)=E1-E2+1:=⟨(E1-E2+1).toNat,by omega⟩
 have bA:∀(S:Int) up,S=M1*9223372036854775808+aj (s1 !=s2) (gx M2 n)->0<=S/\S < 340282366920938463463374607431768211456/\eI up (mk (aj s1 S) (E1+1-64)).1 (mk (aj s1 S) (E1+1-64)).2=ay up x y:=fun S up hS=>by
  obtain⟨u1,u2,u3⟩:=kE up q1 q2 (by omega) hn hS;refine⟨u1,u2,?_⟩
  rw[show E1+1-64=E1-63 by omega,u3]
 have O:=ie bA;obtain⟨N,hN⟩:∃N,(n:Int)=N:=⟨_,rfl⟩;obtain⟨D,hD⟩:∃D,E1-E2=D:=⟨_,rfl⟩
 have n1:1<=n:=by omega
 have n3:n<=4000000:=by omega
 have HN:=ie hN
 have HD:=ie (show IntKind.i64.wrap (E1-E2)=D by rw[hD];exact IntWalk.i64_in _ (by omega))
 have bC:=ie (show IntKind.i64.wrap (D+1)=N by rw[show D+1=N by omega];exact IntWalk.i64_in _ (by omega))
 obtain⟨Y,hY⟩:∃Y,E2+N=Y:=⟨_,rfl⟩;have HY:=ie hY;obtain⟨Z,hZ⟩:∃Z,E1+1=Z:=⟨_,rfl⟩;have HZ:=ie hZ
 have z1: -2900000<=Z:=by omega
 have z2:Z<=2900000:=by omega
 have v1:gx M1 1=M1*9223372036854775808:=by
  unfold gx
  rw[if_pos (by decide)]
  rfl
 have bD:=ie v1
 have g1:9223372036854775808<=M1:=by omega
 have g2:M1 < 18446744073709551616:=by omega
 have g3: -2000000<=E1:=by omega
 have g4:E1<=2000000:=by omega
 have k1:9223372036854775808<=M2:=by omega
 have k2:M2 < 18446744073709551616:=by omega
 have k3: -2000000<=E2:=by omega
 have k4:E2<=2000000:=by omega
 clear hn hN hD hY hZ v1 bA h q1 q2 a1 a2 a3 a4 b1 b2 b3 b4
 go_enter func173,ntmps173
 go_upto_region 1 with fail
 generalize X:((w.alloc _).alloc _).alloc _=w1 at *;obtain⟨X2,X3,a,f⟩:=Bo.en3 X;replace hT:=hT.below f.out;clear X;have hB:=X2.cell;have hC:=X3.cell
 go_wp2_with fail
 refine(Cw HO.out).mono ?_;rintro ee w2 ⟨rfl,B⟩;clear hB hC;refine aF ?_ a hT f B;clear a hT f B;intro a hT f
 go_upto_region 2 with fail
 clear X2 X3
 have bB:(World.alloc w2 (.cells #[.int .i64 1,.bool s1,.int .u64 M1,.int .i64 E1] 24)).heap.size=w2.heap.size+1:=by simp
 have bN:=a.lt;have BX:=af w2 (.cells #[.int .i64 1,.bool s1,.int .u64 M1,.int .i64 E1] 24);replace a:=a.b BX;replace hT:=hT.b BX;replace f:=ie (bt f.out BX);have i:=Bo.new w2 #[.int .i64 1,.bool s1,.int .u64 M1,.int .i64 E1] 24
 generalize o:World.alloc w2 (.cells #[.int .i64 1,.bool s1,.int .u64 M1,.int .i64 E1] 24)=w3 at *;clear o;have I:=a.lt;have H:=i.lt;generalize o:w3.alloc _=w4 at *;obtain⟨m,E⟩:=Bo.nw o;clear o;refine aR ?_ a i hT f E;clear a i hT f E;intro a i hT f;rw[bB]at m H I;clear bB
 have p:=i.cell
 go_wp2_with fail
 refine(iW (n:=1) (s:=s1) hT g1 g2 (by rfl) HZ.out g3 g4 (by decide) (by decide)).mono ?_;rintro ee C ⟨H1,L1,rfl,t,B⟩;clear p;refine dW ?_ a i m hT f B;clear a i m hT f B;intro a i m hT f;rw[bD.out]at t
 go_upto_region 3 with fail
 have gB:=a.lt;have fH:=i.lt;have fP:=m.lt;generalize o:C.alloc _=w6 at *;obtain⟨j,E⟩:=Bo.nw o;clear o;refine dW ?_ a i m hT f E;clear a i m hT f E;intro a i m hT f;have p:=i.cell;have u:=m.cell;have hd:=HD.out
 have bH:=bC.out
 go_wp2_with fail
 refine(iW (s:=s2) hT k1 k2 HN.out HY.out k3 k4 n1 n3).mono ?_;rintro ee w7 ⟨H2,L2,rfl,p2,B⟩;clear p u;refine dW ?_ a i m j f B;clear a i m j f B;intro a i m j f;clear hd bH
 go_upto_region 5 with fail
 have hA:=a.lt;have gO:=i.lt;have gP:=m.lt;have gS:=j.lt;generalize o:w7.alloc _=M at *;obtain⟨A,E⟩:=Bo.nw o;clear o;refine dW ?_ a i m j f E;clear a i m j f E;intro a i m j f
 by_cases hs:s1=s2
 ·subst hs
  have r:(s1 !=s1)=false:=by cases s1 <;> rfl
  have g:=O.out (M1*9223372036854775808+gx M2 n);rw[r,aK]at g;have hb:=(g true rfl).2.1;obtain⟨S,c,T,d,Q,R,U,V,c0,c1,o1,o2,o3,o4,o5⟩:=jp t p2 hb
  have F:=fun W:World=>iT W t.2.2.1 p2.2.2.1 (by decide) (by decide) Q R
  have G:=fun W:World=>iT W t.1 p2.1 c0 c1 U V
  have P:=ie (And.intro o5 g)
  clear Q R U V t p2 hb g o5;have p:=i.cell;have u:=m.cell;have k:=j.cell;have l:=j.frozen;have q:=A.cell
  go_upto_region 7 with (simp only[F])
  clear p u k l q
  have e:ac M (World.setCell M ⟨C.heap.size,2,none⟩ (.int .u64 S)) _ _ #[.bool s1,.int .u64 H1,.int .u64 S,.int .i64 Z] _:=ac.at4 j 2 (.int .u64 S)
  replace a:=a.s e;replace i:=i.s e;replace m:=m.s e;replace A:=A.s e;replace f:=bi f e (by omega);replace j:=e.box;clear e;generalize World.setCell M ⟨C.heap.size,2,none⟩ (.int .u64 S)=J at *;have k:=j.cell;have l:=j.frozen;have q:=A.cell
  go_upto_region 10 with (simp only[G])
  clear k l q
  have e:ac J (World.setCell J ⟨C.heap.size,1,none⟩ (.int .u64 T)) _ _ #[.bool s1,.int .u64 T,.int .u64 S,.int .i64 Z] _:=ac.at4 j 1 (.int .u64 T)
  replace a:=a.s e;replace i:=i.s e;replace m:=m.s e;replace A:=A.s e;replace f:=bi f e (by omega);replace j:=e.box;clear e;generalize World.setCell J ⟨C.heap.size,1,none⟩ (.int .u64 T)=wA at *;have L:=a.cell;have z:=a.frozen;have k:=j.cell
  go_wp2;clear L z k;have e:=ac.mk4 a (.bool s1) (.int .u64 T) (.int .u64 S) (.int .i64 Z)
  exact bq (v:= .agg #[.bool s1,.int .u64 T,.int .u64 S,.int .i64 Z]) (by simp[results,results173,go_sem,e.box.cell]) rfl ⟨_,_,_,_,rfl,kI o3 o4 o1 o2 P.out.1 z1 z2 fun up=>by rw[<-HZ.out];exact(P.out.2 up (by first | rfl | trivial)).2.2,(e.below f.out (by omega))⟩
 ·have r:(s1 !=s2)=true:=by cases s1 <;> cases s2 <;> first | rfl | exact absurd rfl hs
  have hE:(s1==s2)=false:=by cases s1 <;> cases s2 <;> first | rfl | exact absurd rfl hs
  have g:=O.out (M1*9223372036854775808-gx M2 n);rw[r,aN]at g;have hb:=(g true (by omega)).1;obtain⟨S,c,T,d,Q,R,U,V,c0,c1,o1,o2,o3,o4,o5⟩:=jD t p2 hb
  have F:=fun W:World=>iX W t.2.2.1 t.2.2.2.1 p2.2.2.1 p2.2.2.2.1 (by decide) (by decide) Q R
  have G:=fun W:World=>iX W t.1 t.2.1 p2.1 p2.2.1 c0 c1 U V
  have P:=ie (And.intro o5 g)
  clear Q R U V t p2 hb g o5;have p:=i.cell;have u:=m.cell;have k:=j.cell;have l:=j.frozen;have q:=A.cell
  go_upto_region 9 with (simp only[F])
  clear p u k l q
  have e:ac M (World.setCell M ⟨C.heap.size,2,none⟩ (.int .u64 S)) _ _ #[.bool s1,.int .u64 H1,.int .u64 S,.int .i64 Z] _:=ac.at4 j 2 (.int .u64 S)
  replace a:=a.s e;replace A:=A.s e;replace f:=bi f e (by omega);replace j:=e.box;clear e;generalize World.setCell M ⟨C.heap.size,2,none⟩ (.int .u64 S)=J at *;have k:=j.cell;have l:=j.frozen;have q:=A.cell
  go_upto_region 10 with (simp only[G])
  clear k l q
  have e:ac J (World.setCell J ⟨C.heap.size,1,none⟩ (.int .u64 T)) _ _ #[.bool s1,.int .u64 T,.int .u64 S,.int .i64 Z] _:=ac.at4 j 1 (.int .u64 T)
  replace a:=a.s e;replace f:=bi f e (by omega);replace j:=e.box;clear e;generalize World.setCell J ⟨C.heap.size,1,none⟩ (.int .u64 T)=wA at *;have L:=a.cell;have z:=a.frozen;have k:=j.cell;go_wp2;clear L z k;have e:=ac.mk4 a (.bool s1) (.int .u64 T) (.int .u64 S) (.int .i64 Z)
  exact bq (v:= .agg #[.bool s1,.int .u64 T,.int .u64 S,.int .i64 Z]) (by simp[results,results173,go_sem,e.box.cell]) rfl ⟨_,_,_,_,rfl,kI o3 o4 o1 o2 P.out.1 z1 z2 fun up=>by rw[<-HZ.out];exact(P.out.2 up (by omega)).2.2,(e.below f.out (by omega))⟩
theorem Jn{w:World}{s1 s2:Bool}{M1 M2 E1 E2 x y:Int}(hT:Tb w)(q1:Fq 1 s1 M1 E1 x)(q2:Fq 1 s2 M2 E2 y):Calls prog 173 #[VQ 1 s1 M1 E1,VQ 1 s2 M2 E2] w (I7 w fun up=>ay up x y):=by
 delta VQ
 rcases Int.lt_trichotomy E1 E2 with h | h | h
 ·exact IK hT q1 q2 h
 ·by_cases hm:M1 < M2
  ·exact DA hT q1 q2 h hm
  ·exact Dz hT q1 q2 h hm
 ·exact IJ hT q1 q2 h
theorem zz{w:World}{s1 s2:Bool}{M1 M2 E1 E2 x y:Int}(q1:Fq 1 s1 M1 E1 x)(q2:Fq 1 s2 M2 E2 y):Calls prog 145 #[VQ 1 s1 M1 E1,VQ 1 s2 M2 E2] w (I7 w fun up=>eN up x y):=by
 delta VQ
 obtain⟨a1,a2,a3,C,_⟩:=eV q1;obtain⟨D,E,F,I,_⟩:=eV q2;obtain⟨o,p,_⟩:=ro true q1 q2
 have z:=ie (fun up=>(ro up q1 q2).2.2)
 obtain⟨G,m⟩:∃G,E1+E2=G:=⟨_,rfl⟩;obtain⟨Z,n⟩:∃Z,G+64=Z:=⟨_,rfl⟩
 have s:=ie (show IntKind.i64.wrap (E1+E2)=G by rw[m];exact IntWalk.i64_in _ (by omega))
 have A:=ie (show IntKind.i64.wrap (G+64)=Z by rw[n];exact IntWalk.i64_in _ (by omega))
 have l:=ie (And.intro m n)
 obtain⟨H,j⟩:∃H,M1*M2/18446744073709551616=H:=⟨_,rfl⟩;obtain⟨L,k⟩:∃L,M1*M2%18446744073709551616=L:=⟨_,rfl⟩
 have N: -2900000<=Z:=by omega
 have O:Z<=2900000:=by omega
 have d:Hid (0<=H/\H < 18446744073709551616/\0<=L/\L < 18446744073709551616/\H*18446744073709551616+L=M1*M2):=ie (by
  revert o p j k
  generalize M1*M2=P
  intro o p j k
  omega)
 have t:=ie j;have u:=ie k
 have J:0<=M1:=by omega
 have M:0<=M2:=by omega
 clear o p j k m n q1 q2 a1 a3 C D F I
 go_enter func145,ntmps145
 go_upto_region 1 with fail
 generalize g:((w.alloc _).alloc _).alloc _=w1 at *;obtain⟨e,f,c,i⟩:=Bo.en3 g;clear g;have a:=e.cell;have b:=f.cell
 go_wp2_with fail
 refine(GX _ J a2 M E t.out u.out).mono ?_;rintro Q R ⟨rfl,B⟩;clear a b;refine aR ?_ e f c i B;clear e f c i B;intro e f c i;have hg:=s.out;have hz:=A.out;have q:=c.cell;have h:=c.frozen;have a:=e.cell;have b:=f.cell
 go_wp2;clear q h a b;have r:=ac.mk4 c (.bool (!(s1==s2))) (.int .u64 H) (.int .u64 L) (.int .i64 Z)
 exact bq (v:= .agg #[.bool (!(s1==s2)),.int .u64 H,.int .u64 L,.int .i64 Z]) (by simp[results,results145,go_sem,r.box.cell]) rfl ⟨_,_,_,_,rfl,kI d.out.1 d.out.2.1 d.out.2.2.1 d.out.2.2.2.1 d.out.2.2.2.2 N O fun up=>by rw[<-z.out up,show (!(s1==s2))=(s1 !=s2)from rfl,show Z-64=E1+E2 by have:=l.out;omega],(r.below i.out (by omega))⟩
theorem vH{D:Int}{s:Bool}{M E:Int}(hM:LQ M):∃K1 s1 M1 E1,Fq K1 s1 M1 E1 (rk D s M E):=by
 by_cases hm:au D s M E
 ·exact⟨_,_,_,_,eD hM hm⟩
 ·rw[fI hm];exact⟨_,_,_,_,Fq.nought⟩
theorem oN{w:World}{D M E:Int}{s:Bool}{K1 M1 E1 x:Int}{s1:Bool}(hM:LQ M)(q:Fq K1 s1 M1 E1 x)(hx:rk D s M E=x):Calls prog 144 #[VQ D s M E] w (fun e w'=>e= .returned (.agg #[.int .i64 K1,.bool s1,.int .u64 M1,.int .i64 E1])/\Below w.heap.size w w'):=by
 delta VQ
 by_cases hm:au D s M E
 ·obtain⟨rfl,rfl,rfl,rfl⟩:=q.uniq (hx▸eD hM hm)
  have j:=ie (show decide (au K1 s1 M1 E1)=true from dt hm)
  clear hm hx hM q
  go_enter func144,ntmps144
  go_upto_region 1 with fail
  generalize d:(w.alloc _).alloc _=w1 at *;obtain⟨c,b,g⟩:=Bo.en2 d;clear d;have a:=c.cell
  go_wp2_with fail
  refine(kY j.out).mono ?_;rintro k l ⟨rfl,B⟩;clear a;refine aF ?_ c b g B;clear c b g B;intro c b g;have h:=b.cell;have f:=b.frozen;have a:=c.cell;go_wp2;clear h f a;have i:=ac.t4 b K1 s1 M1 E1
  exact bq (v:= .agg #[.int .i64 K1,.bool s1,.int .u64 M1,.int .i64 E1]) (by simp[results,results144,go_sem,i.box.cell]) rfl ⟨rfl,(i.below g.out (by omega))⟩
 ·rw[fI hm]at hx;subst hx;obtain⟨rfl,rfl,rfl,rfl⟩:=q.uniq Fq.nought
  have j:=ie (show decide (au D s M E)=false from df hm)
  clear hm hM q
  go_enter func144,ntmps144
  go_upto_region 1 with fail
  generalize d:(w.alloc _).alloc _=w1 at *;obtain⟨c,b,g⟩:=Bo.en2 d;clear d;have a:=c.cell
  go_wp2_with fail
  refine(kY j.out).mono ?_;rintro k l ⟨rfl,B⟩;clear a;refine aF ?_ c b g B;clear c b g B;intro c b g;have h:=b.cell;have f:=b.frozen;have a:=c.cell;go_wp2;clear h f a;have i:=ac.t4 b 0 false 0 0
  exact bq (v:= .agg #[.int .i64 0,.bool false,.int .u64 0,.int .i64 0]) (by simp[results,results144,go_sem,i.box.cell]) rfl ⟨rfl,(i.below g.out (by omega))⟩
theorem Jk{w:World}{D D' M M' E E':Int}{s s':Bool}{up:Bool}{x y r:Int}(hT:Tb w)(hM:LQ M)(hM':LQ M')(hx:rk D s M E=x)(hy:rk D' s' M' E'=y)(hr:ay up x y=r):Calls prog 118 #[VQ D s M E,VQ D' s' M' E',.bool up] w (PN w r):=by
 delta VQ
 obtain⟨O,s1,G,F,m⟩:=vH (D:=D) (s:=s) (M:=M) (E:=E) hM;obtain⟨K2,s2,M2,E2,n⟩:=vH (D:=D') (s:=s') (M:=M') (E:=E') hM';rw[hx]at m;rw[hy]at n;have R:=ie hx;have S:=ie hy;clear hx hy
 go_enter func118,ntmps118
 go_upto_region 1 with fail
 generalize I:((w.alloc _).alloc _).alloc _=w1 at *;obtain⟨k,l,g,j⟩:=Bo.en3 I;replace hT:=hT.below j.out;clear I;refine bF [0,1,2,3] [8,9,10,11,0,0] [[],[0],[],[2],[],[]] 6 2 [Jo.q4 D s M E,Jo.q4 O s1 G F,Jo.q4 D' s' M' E',Jo.q4 K2 s2 M2 E2,Jo.Fact.any,Jo.Fact.any] ?_ ?_
 ·refine jm ?_ ?_;rotate_left
  refine jm ?_ ?_
  ·rintro T v _ rfl K t;go_simp;refine(oN hM m R.out).mono ?_;rintro P wk ⟨rfl,B⟩;exact t.out _ _ rfl B
  refine jm ?_ ?_;rotate_left
  refine jm ?_ ?_
  ·rintro T v _ rfl K t;go_simp;refine(oN hM' n S.out).mono ?_;rintro P wk ⟨rfl,B⟩;exact t.out _ _ rfl B
  exact jo
  all_goals (rintro T v;(repeat rintro _ rfl);intro K t;have c:=(k.b v).cell;have d:=(l.b v).cell;go_simp;exact t.out _ _ rfl (br _ _))
 rintro w2 v _ rfl _ rfl _ rfl _ rfl -;simp only[Jo.z];replace k:=k.b v;replace l:=l.b v;replace g:=g.b v;replace hT:=hT.b v;replace j:=ak j v;have c:=k.cell;have L:=k.frozen
 refine jn 4 fun K t=>?_
 go_simp;refine t.out _ _ ?_;clear t K c L;generalize H:(((w2.setCell _ _).setCell _ _).setCell _ _).setCell _ _=w3 at *;have f:=ac.of4 k H;replace l:=l.s f;replace g:=g.s f;replace hT:=hT.s f;replace j:=bi j f (by omega);replace k:=f.box;clear f H;have d:=l.cell
 have N:=l.frozen
 refine jn 5 fun K t=>?_
 go_simp;refine t.out _ _ ?_;clear t K d N;generalize H:(((w3.setCell _ _).setCell _ _).setCell _ _).setCell _ _=w4 at *;have f:=ac.of4 l H;replace k:=k.s f;replace g:=g.s f;replace hT:=hT.s f;replace j:=bi j f (by omega);replace l:=f.box;clear f H;refine jd ?_
 clear R S hM hM';have i1:=gH m;have i2:=gH n;have u:=m.zero_iff;have q:=n.zero_iff;have o:=m.bd;have p:=n.bd
 have Q:O=2\/O=0\/O=1:=by rcases m.cases with⟨h,_⟩ | ⟨h,_⟩ | ⟨h,_⟩ <;> omega
 have C:K2=2\/K2=0\/K2=1:=by rcases n.cases with⟨h,_⟩ | ⟨h,_⟩ | ⟨h,_⟩ <;> omega
 rcases Q with rfl | rfl | rfl
 ·rcases C with rfl | rfl | rfl
  ·by_cases J:s1=s2
   ·rw[dY up i1 ((lM m n).2 J)]at hr;subst hr;subst J;clear i1 i2 u q o p n;have i:=g.cell;have a:=g.frozen;have c:=k.cell;have d:=l.cell;go_wp2;clear i a c d;have f:=ac.t4 g 2 s1 G F
    exact bq (by simp[results,results118,go_sem,f.box.cell]) rfl ⟨_,_,_,_,rfl,m,(f.below j.out (by omega))⟩
   ·rw[dN up i1 i2 (fun e=>J ((lM m n).1 e))]at hr
    obtain rfl:(!s1)=s2:=by cases s1 <;> cases s2 <;> first | rfl | exact absurd rfl J
    have e2:(s1==!s1)=false:=by cases s1 <;> rfl
    have A:=ie hr;clear i1 i2 u q o p m n hr J;have c:=k.cell;have d:=l.cell
    go_wp2_with fail
    refine(jb (s:=!up) A.out).mono ?_;rintro P w5 ⟨U,s3,W,E3,rfl,Z,B⟩;clear c d;refine aR ?_ k l g j B;clear k l g j B;intro k l g j;have i:=g.cell;have a:=g.frozen;go_wp2;clear i a;have f:=ac.t4 g U s3 W E3
    exact bq (by simp[results,results118,go_sem,f.box.cell]) rfl ⟨_,_,_,_,rfl,Z,(f.below j.out (by omega))⟩
  ·rw[dU up i1 i2]at hr;subst hr;clear i1 i2 u q o p n;have i:=g.cell;have a:=g.frozen;have c:=k.cell;have d:=l.cell;go_wp2;clear i a c d;have f:=ac.t4 g 2 s1 G F;exact bq (by simp[results,results118,go_sem,f.box.cell]) rfl ⟨_,_,_,_,rfl,m,(f.below j.out (by omega))⟩
  ·rw[dU up i1 i2]at hr;subst hr;clear i1 i2 u q o p n;have i:=g.cell;have a:=g.frozen;have c:=k.cell;have d:=l.cell;go_wp2;clear i a c d;have f:=ac.t4 g 2 s1 G F;exact bq (by simp[results,results118,go_sem,f.box.cell]) rfl ⟨_,_,_,_,rfl,m,(f.below j.out (by omega))⟩
 ·rcases C with rfl | rfl | rfl
  ·rw[eG up i1 i2]at hr;subst hr;clear i1 i2 u q o p m;have i:=g.cell;have a:=g.frozen;have c:=k.cell;have d:=l.cell;go_wp2;clear i a c d;have f:=ac.t4 g 2 s2 M2 E2;exact bq (by simp[results,results118,go_sem,f.box.cell]) rfl ⟨_,_,_,_,rfl,n,(f.below j.out (by omega))⟩
  ·rw[q.1 rfl,fR up o.1 o.2]at hr;subst hr;clear i1 i2 u q o p n;have i:=g.cell;have a:=g.frozen;have c:=k.cell;have d:=l.cell;go_wp2;clear i a c d;have f:=ac.t4 g 0 s1 G F;exact bq (by simp[results,results118,go_sem,f.box.cell]) rfl ⟨_,_,_,_,rfl,m,(f.below j.out (by omega))⟩
  ·rw[u.1 rfl,dM,fR up p.1 p.2]at hr;subst hr;clear i1 i2 u q o p m;have i:=g.cell;have a:=g.frozen;have c:=k.cell;have d:=l.cell;go_wp2;clear i a c d;have f:=ac.t4 g 1 s2 M2 E2
   exact bq (by simp[results,results118,go_sem,f.box.cell]) rfl ⟨_,_,_,_,rfl,n,(f.below j.out (by omega))⟩
 ·rcases C with rfl | rfl | rfl
  ·rw[eG up i1 i2]at hr;subst hr;clear i1 i2 u q o p m;have i:=g.cell;have a:=g.frozen;have c:=k.cell;have d:=l.cell;go_wp2;clear i a c d;have f:=ac.t4 g 2 s2 M2 E2;exact bq (by simp[results,results118,go_sem,f.box.cell]) rfl ⟨_,_,_,_,rfl,n,(f.below j.out (by omega))⟩
  ·rw[q.1 rfl,fR up o.1 o.2]at hr;subst hr;clear i1 i2 u q o p n;have i:=g.cell;have a:=g.frozen;have c:=k.cell;have d:=l.cell;go_wp2;clear i a c d;have f:=ac.t4 g 1 s1 G F;exact bq (by simp[results,results118,go_sem,f.box.cell]) rfl ⟨_,_,_,_,rfl,m,(f.below j.out (by omega))⟩
  ·have A:=ie hr;clear i1 i2 u q o p hr;have c:=k.cell;have d:=l.cell
   go_wp2_with fail
   refine(Jn hT m n).mono ?_;rintro P w5 ⟨s3,H3,L3,x3,rfl,Y,B⟩;clear c d;replace g:=g.b B;replace j:=ak j B;clear B
   go_wp2_with fail
   refine(zA Y A.out).mono ?_;rintro P w6 ⟨V,s4,X,E4,rfl,q4,B⟩;replace g:=g.b B;replace j:=ak j B;clear B;have i:=g.cell;have a:=g.frozen;go_wp2;clear i a;have f:=ac.t4 g V s4 X E4;exact bq (by simp[results,results118,go_sem,f.box.cell]) rfl ⟨_,_,_,_,rfl,q4,(f.below j.out (by omega))⟩
theorem KA{w:World}{D D' M M' E E':Int}{s s':Bool}{up:Bool}{x y r:Int}(hM:LQ M)(hM':LQ M')(hx:rk D s M E=x)(hy:rk D' s' M' E'=y)(hr:eN up x y=r):Calls prog 84 #[VQ D s M E,VQ D' s' M' E',.bool up] w (PN w r):=by
 delta VQ
 obtain⟨T,s1,M1,Z,n⟩:=vH (D:=D) (s:=s) (M:=M) (E:=E) hM;obtain⟨K2,s2,M2,E2,o⟩:=vH (D:=D') (s:=s') (M:=M') (E:=E') hM';rw[hx]at n;rw[hy]at o;have W:=ie hx;have X:=ie hy;clear hx hy
 go_enter func84,ntmps84
 go_upto_region 1 with fail
 generalize P:((w.alloc _).alloc _).alloc _=w1 at *;obtain⟨l,m,e,k⟩:=Bo.en3 P;clear P;refine bF [0,1,2,3] [8,9,10,11,0,0] [[],[0],[],[2],[],[]] 6 2 [Jo.q4 D s M E,Jo.q4 T s1 M1 Z,Jo.q4 D' s' M' E',Jo.q4 K2 s2 M2 E2,Jo.Fact.any,Jo.Fact.any] ?_ ?_
 ·refine jm ?_ ?_;rotate_left
  refine jm ?_ ?_
  ·rintro Y F _ rfl K v;go_simp;refine(oN hM n W.out).mono ?_;rintro J wk ⟨rfl,B⟩;exact v.out _ _ rfl B
  refine jm ?_ ?_;rotate_left
  refine jm ?_ ?_
  ·rintro Y F _ rfl K v;go_simp;refine(oN hM' o X.out).mono ?_;rintro J wk ⟨rfl,B⟩;exact v.out _ _ rfl B
  exact jo
  all_goals (rintro Y F;(repeat rintro _ rfl);intro K v;have f:=(l.b F).cell;have g:=(m.b F).cell;go_simp;exact v.out _ _ rfl (br _ _))
 rintro w2 F _ rfl _ rfl _ rfl _ rfl -;simp only[Jo.z];replace l:=l.b F;replace m:=m.b F;replace e:=e.b F;replace k:=ak k F;have f:=l.cell;have R:=l.frozen
 refine jn 4 fun K v=>?_
 go_simp;refine v.out _ _ ?_;clear v K f R;generalize O:(((w2.setCell _ _).setCell _ _).setCell _ _).setCell _ _=w3 at *;have i:=ac.of4 l O;replace m:=m.s i;replace e:=e.s i;replace k:=bi k i (by omega);replace l:=i.box;clear i O;have g:=m.cell;have S:=m.frozen
 refine jn 5 fun K v=>?_
 go_simp;refine v.out _ _ ?_;clear v K g S;generalize O:(((w3.setCell _ _).setCell _ _).setCell _ _).setCell _ _=w4 at *;have i:=ac.of4 m O;replace l:=l.s i;replace e:=e.s i;replace k:=bi k i (by omega);replace m:=i.box;clear i O;refine jd ?_;clear W X hM hM';have i1:=gH n
 have i2:=gH o;have t:=n.zero_iff;have u:=o.zero_iff;have A:=n.bd;have C:=o.bd
 have U:T=2\/T=0\/T=1:=by rcases n.cases with⟨h,_⟩ | ⟨h,_⟩ | ⟨h,_⟩ <;> omega
 have I:K2=2\/K2=0\/K2=1:=by rcases o.cases with⟨h,_⟩ | ⟨h,_⟩ | ⟨h,_⟩ <;> omega
 rcases U with rfl | rfl | rfl
 ·rcases I with rfl | rfl | rfl
  ·have p:¬(x=0\/y=0):=fun c=>c.elim (fun c=>absurd (t.2 c) (by decide)) (fun c=>absurd (u.2 c) (by decide))
   have G:decide (x < 0)=s1:=by
    rcases n.three with⟨a,_⟩ | ⟨_,rfl,b⟩ | ⟨_,rfl,b⟩
    ·exact absurd a (by decide)
    ·exact df (by omega)
    ·exact dt b
   have H:decide (y < 0)=s2:=by
    rcases o.three with⟨a,_⟩ | ⟨_,rfl,b⟩ | ⟨_,rfl,b⟩
    ·exact absurd a (by decide)
    ·exact df (by omega)
    ·exact dt b
   rw[gW up p (.inl i1),G,H]at hr;have q:=ie hr;clear i1 i2 t u A C n o hr G H p;have f:=l.cell;have g:=m.cell
   go_wp2_with fail
   refine(jb (s:=s1 !=s2) q.out).mono ?_;rintro J V ⟨L,s3,N,E3,rfl,Q,B⟩;clear f g;refine aR ?_ l m e k B;clear l m e k B;intro l m e k;have j:=e.cell;have d:=e.frozen;go_wp2;clear j d;have i:=ac.t4 e L s3 N E3
   exact bq (by simp[results,results84,go_sem,i.box.cell]) rfl ⟨_,_,_,_,rfl,Q,(i.below k.out (by omega))⟩
  ·rw[dQ up (.inr (u.1 rfl))]at hr;subst hr;clear i1 i2 t u A C n o;have j:=e.cell;have d:=e.frozen;have f:=l.cell;have g:=m.cell;go_wp2;clear j d f g;have i:=ac.t4 e 0 false 0 0;exact bq (by simp[results,results84,go_sem,i.box.cell]) rfl ⟨_,_,_,_,rfl,Fq.nought,(i.below k.out (by omega))⟩
  ·have p:¬(x=0\/y=0):=fun c=>c.elim (fun c=>absurd (t.2 c) (by decide)) (fun c=>absurd (u.2 c) (by decide))
   have G:decide (x < 0)=s1:=by
    rcases n.three with⟨a,_⟩ | ⟨_,rfl,b⟩ | ⟨_,rfl,b⟩
    ·exact absurd a (by decide)
    ·exact df (by omega)
    ·exact dt b
   have H:decide (y < 0)=s2:=by
    rcases o.three with⟨a,_⟩ | ⟨_,rfl,b⟩ | ⟨_,rfl,b⟩
    ·exact absurd a (by decide)
    ·exact df (by omega)
    ·exact dt b
   rw[gW up p (.inl i1),G,H]at hr;have q:=ie hr;clear i1 i2 t u A C n o hr G H p;have f:=l.cell;have g:=m.cell
   go_wp2_with fail
   refine(jb (s:=s1 !=s2) q.out).mono ?_;rintro J V ⟨L,s3,N,E3,rfl,Q,B⟩;clear f g;refine aR ?_ l m e k B;clear l m e k B;intro l m e k;have j:=e.cell;have d:=e.frozen;go_wp2;clear j d;have i:=ac.t4 e L s3 N E3
   exact bq (by simp[results,results84,go_sem,i.box.cell]) rfl ⟨_,_,_,_,rfl,Q,(i.below k.out (by omega))⟩
 ·rcases I with rfl | rfl | rfl
  ·rw[dQ up (.inl (t.1 rfl))]at hr;subst hr;clear i1 i2 t u A C n o;have j:=e.cell;have d:=e.frozen;have f:=l.cell;have g:=m.cell;go_wp2;clear j d f g;have i:=ac.t4 e 0 false 0 0;exact bq (by simp[results,results84,go_sem,i.box.cell]) rfl ⟨_,_,_,_,rfl,Fq.nought,(i.below k.out (by omega))⟩
  ·rw[dQ up (.inl (t.1 rfl))]at hr;subst hr;clear i1 i2 t u A C n o;have j:=e.cell;have d:=e.frozen;have f:=l.cell;have g:=m.cell;go_wp2;clear j d f g;have i:=ac.t4 e 0 false 0 0;exact bq (by simp[results,results84,go_sem,i.box.cell]) rfl ⟨_,_,_,_,rfl,Fq.nought,(i.below k.out (by omega))⟩
  ·rw[dQ up (.inl (t.1 rfl))]at hr;subst hr;clear i1 i2 t u A C n o;have j:=e.cell;have d:=e.frozen;have f:=l.cell;have g:=m.cell;go_wp2;clear j d f g;have i:=ac.t4 e 0 false 0 0;exact bq (by simp[results,results84,go_sem,i.box.cell]) rfl ⟨_,_,_,_,rfl,Fq.nought,(i.below k.out (by omega))⟩
 ·rcases I with rfl | rfl | rfl
  ·have p:¬(x=0\/y=0):=fun c=>c.elim (fun c=>absurd (t.2 c) (by decide)) (fun c=>absurd (u.2 c) (by decide))
   have G:decide (x < 0)=s1:=by
    rcases n.three with⟨a,_⟩ | ⟨_,rfl,b⟩ | ⟨_,rfl,b⟩
    ·exact absurd a (by decide)
    ·exact df (by omega)
    ·exact dt b
   have H:decide (y < 0)=s2:=by
    rcases o.three with⟨a,_⟩ | ⟨_,rfl,b⟩ | ⟨_,rfl,b⟩
    ·exact absurd a (by decide)
    ·exact df (by omega)
    ·exact dt b
   rw[gW up p (.inr i2),G,H]at hr;have q:=ie hr;clear i1 i2 t u A C n o hr G H p;have f:=l.cell;have g:=m.cell
   go_wp2_with fail
   refine(jb (s:=s1 !=s2) q.out).mono ?_;rintro J V ⟨L,s3,N,E3,rfl,Q,B⟩;clear f g;refine aR ?_ l m e k B;clear l m e k B;intro l m e k;have j:=e.cell;have d:=e.frozen;go_wp2;clear j d;have i:=ac.t4 e L s3 N E3
   exact bq (by simp[results,results84,go_sem,i.box.cell]) rfl ⟨_,_,_,_,rfl,Q,(i.below k.out (by omega))⟩
  ·rw[dQ up (.inr (u.1 rfl))]at hr;subst hr;clear i1 i2 t u A C n o;have j:=e.cell;have d:=e.frozen;have f:=l.cell;have g:=m.cell;go_wp2;clear j d f g;have i:=ac.t4 e 0 false 0 0;exact bq (by simp[results,results84,go_sem,i.box.cell]) rfl ⟨_,_,_,_,rfl,Fq.nought,(i.below k.out (by omega))⟩
  ·have q:=ie hr;clear i1 i2 t u A C hr;have f:=l.cell;have g:=m.cell
   go_wp2_with fail
   refine(zz n o).mono ?_;rintro J V ⟨s3,H3,L3,x3,rfl,p3,B⟩;clear f g;replace e:=e.b B;replace k:=ak k B;clear B
   go_wp2_with fail
   refine(zA p3 q.out).mono ?_;rintro J w6 ⟨K4,s4,M4,E4,rfl,q4,B⟩;replace e:=e.b B;replace k:=ak k B;clear B;have j:=e.cell;have d:=e.frozen;go_wp2;clear j d;have i:=ac.t4 e K4 s4 M4 E4;exact bq (by simp[results,results84,go_sem,i.box.cell]) rfl ⟨_,_,_,_,rfl,q4,(i.below k.out (by omega))⟩
theorem Jl{w:World}{D D' M M' E E':Int}{s s':Bool}{up:Bool}{x y r:Int}(hT:Tb w)(hM:LQ M)(hM':LQ M')(hx:rk D s M E=x)(hy: -rk D' s' M' E'=y)(hr:ay up x y=r):Calls prog 54 #[VQ D s M E,VQ D' s' M' E',.bool up] w (PN w r):=by
 delta VQ
 have m:=ie hx;have n:=ie hy;have l:=ie hr;clear hx hy hr
 go_enter func54,ntmps54
 go_upto_region 1 with fail
 generalize e:((w.alloc _).alloc _).alloc _=w1 at *;obtain⟨u,v,d,g⟩:=Bo.en3 e;replace hT:=hT.below g.out;clear e;refine bF [0,1,2,3,4] [8,9,10,11,12,0] [[],[],[1],[],[0,2,3],[]] 6 1 [Jo.q4 D s M E,Jo.q4 D' s' M' E',Jo.Fact.num y,Jo.qb up,Jo.Fact.num r,Jo.Fact.any] ?_ ?_
 ·iterate 2 (refine jm ?_ ?_;rotate_left)
  refine jm ?_ ?_
  ·rintro k a _ rfl K c;go_simp;exact Jo.n1 (yA hM' n.out) c.out
  refine jm ?_ ?_;rotate_left
  refine jm ?_ ?_
  ·rintro k a _ rfl _ ⟨o,s4,q,E4,rfl,h⟩ _ rfl K c;go_simp;exact Jo.n1 (Jk (hT.b a) hM h.top m.out h.rk l.out) c.out
  exact jo
  all_goals (rintro k a;(repeat rintro _ rfl);intro K c;have B:=(u.b a).cell;have C:=(v.b a).cell;go_simp;exact c.out _ _ rfl (br _ _))
 rintro F a _ rfl _ rfl _ ⟨o,s4,q,E4,rfl,h⟩ _ rfl _ ⟨p,s5,t,E5,rfl,A⟩ -;simp only[Jo.z];replace d:=d.b a;replace g:=ak g a;have i:=d.cell;have f:=d.frozen
 refine jn 5 fun K c=>?_
 go_simp;refine c.out _ _ ?_;clear c K i f;have j:=ac.t4 d p s5 t E5;refine jd ?_;go_wp2;exact bq (by simp[results,results54,go_sem,j.box.cell]) rfl ⟨_,_,_,_,rfl,A,(j.below g.out (by omega))⟩
def GO (up:Bool)(l:List Int):Int:=l.foldl (ay up) 0
theorem Dt (up:Bool){l:List Int}{k:Nat}(h:k < l.length):GO up (l.take (k+1))=ay up (GO up (l.take k)) (l.getD k 0):=by
 unfold GO
 rw[List.take_succ_eq_append_getElem h,List.foldl_append]
 simp[List.getD_eq_getElem?_getD,h]
theorem Jm{w:World}{A:Option Addr}{n c:Nat}{l:List Int}{up:Bool}{r:Int}(hT:Tb w)(h:Nl w A n c l)(hr:GO up l=r):Calls prog 156 #[.bool up,.slice A n c] w (PN w r):=by
 have X:=ie hr;have t:=ie h.1;have U:=h.2.1;have T:=h.2.2.1;have u:=h;have I:=hT;clear hr
 go_enter func156,ntmps156
 go_upto_region 1 with fail
 generalize v:w.alloc _=w1 at *;obtain⟨a,d⟩:=Bo.en1 v;replace h:=h.below d.out;replace hT:=hT.below d.out;clear v
 go_upto_region 2 with fail
 have bA:=a.lt;have L:=a.lt;generalize f:w1.alloc _=w3 at *;obtain⟨e,q⟩:=Bo.nw f;clear f;refine aR ?_ a h hT d q;clear a h hT d q;intro a h hT d
 go_wp2_with fail
 generalize w1.heap.size=g3 at *;clear h hT w1
 go_loopw [11] (fun i wr=>∃k:Nat,k<=n/\i= .int .i64 k/\zt w g3 (GO up (l.take k)) wr) (fun i _=>n-(intOf i).toNat)
 case atStart=>exact ⟨0,Nat.zero_le _,rfl,_,_,_,_,a,e,Fq.nought,d.out⟩
 clear d a e
 case round=>
  obtain⟨k,hk,rfl,hI⟩:=hrel;obtain⟨Z,s1,M1,W,a,e,F,C⟩:=hI;have d:=ie C;have h:=u.below C;have hT:=I.below C;clear C
  by_cases hlt:k < n
  ·obtain⟨b,o,rfl,hcell⟩:=h.2.2.2 (by omega);obtain⟨D,s,M,E,c0,c1,c2,c3,hM,hx⟩:=hcell k hlt;clear hcell h u
   have i1:(k:Int) < n:=by omega
   have i2:(0:Int)<=k:=by omega
   have g:=Dt up (l:=l) (k:=k) (by rw[t.out];exact hlt);rw[<-hx]at g;generalize GO up (l.take k)=R at *;obtain⟨x,J⟩:∃x,rk D s M E=x:=⟨_,rfl⟩;rw[J]at g;obtain⟨V,p⟩:∃V,ay up R x=V:=⟨_,rfl⟩;rw[p]at g;have Y:=ie J;have H:=ie g;have G:=ie p;clear g J hx p
   go_upto_region 5 with fail
   have bB:=e.lt;have O:=a.lt;have N:=e.lt;generalize f:wr.alloc _=w3 at *;obtain⟨X5,q⟩:=Bo.nw f;clear f;refine aR ?_ a e hT d q;clear a e hT d q;intro a e hT d;clear c0 c1 c2 c3;have j:=e.cell;have P:=X5.cell
   go_wp2_with fail
   refine(Jk hT F.top hM F.rk Y.out G.out).mono ?_;rintro ee w4 ⟨K2,s2,M2,E2,rfl,q2,B⟩;clear j P;refine aF ?_ a e d B;clear a e d B;intro a e d;have j:=e.cell;have y:=e.frozen
   go_upto_region 6 with fail
   clear j y;generalize S:(((w4.setCell _ _).setCell _ _).setCell _ _).setCell _ _=w5 at *;have m:=ac.of4 e S;replace a:=a.s m;replace d:=bi d m (by omega);replace e:=m.box;clear m S;go_wp2
   go_roundw
   case rel=>
    refine⟨k+1,by omega,by go_num,K2,s2,M2,E2,a,e,?_,d.out⟩
    rw[H.out];exact q2
   case measure=>simp [intOf];omega
  ·obtain rfl:k=n:=by omega
   rw[List.take_of_length_le (by rw[t.out];omega),X.out]at F;have Q:=a.cell;have z:=a.frozen;have j:=e.cell;go_wp2;clear Q z j;have m:=ac.t4 a Z s1 M1 W;exact bq (by simp[results,results156,go_sem,m.box.cell]) rfl ⟨_,_,_,_,rfl,F,(m.below d.out (by omega))⟩
def Fz (x:Int)(h:Nat):Prop:=ax x=true\/lj h (ep x)
theorem Fz.mono{x:Int}{h k:Nat}(f:Fz x h)(hk:h<=k):Fz x k:=f.imp id fun g=>g.mono hk
theorem Fz.zero (h:Nat):Fz 0 h:= .inr (by rw[vz];exact lj.zero h)
theorem gR{X r t:Int}(h:Dn X r)(k:Up X t):r<=t:=by
 obtain⟨h1,h2,c,h4⟩:=h;obtain⟨e,f,d,g⟩:=k
 rcases Int.lt_or_le t r with q | q
 ·exfalso
  have a:=c (by omega);have b:=d (by omega);rw[aJ]at b
  have:=jl q
  omega
 ·exact q
theorem Ed{x y:Int}(x1: -19342822337206103650074625<=x)(x2:x<=19342822337206103650074625)(y1: -19342822337206103650074625<=y)(y2:y<=19342822337206103650074625):ay false x y<=ay true x y:=by
 have c:=dq
 cases hx:ax x <;> cases hy:ax y
 ·obtain⟨a1,a2⟩:=bn x1 x2 hx;obtain⟨a,b⟩:=bn y1 y2 hy;obtain⟨u,v⟩:=bW (x:=x) (y:=y) true a1 a2 a b;exact gR u v
 ·rw[eG _ hx hy,eG _ hx hy];exact Int.le_refl _
 ·rw[dU _ hx hy,dU _ hx hy];exact Int.le_refl _
 ·by_cases e:x=y
  ·rw[dY _ hx e,dY _ hx e];exact Int.le_refl _
  ·rw[dN _ hx hy e,dN _ hx hy e,show (!false)=true from rfl,show (!true)=false from rfl,aK,aN]
   omega
def nB (A B r:Int):Prop:= -19342822337206103650074625<=r/\r<=19342822337206103650074624/\(-19342822337206103650074625 < r->vr r*B<=A)/\(r < 19342822337206103650074624->A < vr (r+1)*B)
def Kq (A B r:Int):Prop:=nB (-A) B (-r)
def fQ (up:Bool)(A B r:Int):Prop:=if up=true then Kq A B r else nB A B r
theorem ia{A B r:Int}:fQ false A B r=nB A B r:=if_neg (by decide)
theorem iK{A B r:Int}:fQ true A B r=Kq A B r:=if_pos rfl
theorem nB.mono{A B C D r t:Int}(hB:0 < B)(hD:0 < D)(h:nB A B r)(k:nB C D t)(hAC:A*D<=C*B):r<=t:=by
 obtain⟨h1,h2,e,h4⟩:=h;obtain⟨g,i,j,f⟩:=k
 rcases Int.lt_or_le t r with q | q
 ·exfalso
  have a:=e (by omega);have b:=f (by omega)
  have c:vr (t+1)<=vr r:=bM (by omega)
  have a2:vr r*B*D<=A*D:=Int.mul_le_mul_of_nonneg_right a (Int.le_of_lt hD)
  have d:C*B < vr (t+1)*D*B:=Int.mul_lt_mul_of_pos_right b hB
  have c2:vr (t+1)*(D*B)<=vr r*(D*B):=Int.mul_le_mul_of_nonneg_right c (Int.le_of_lt (Int.mul_pos hD hB))
  rw[Int.mul_assoc,Int.mul_comm B D]at a2;rw[Int.mul_assoc]at d
  omega
 ·exact q
theorem nB.uniq{A B r t:Int}(hB:0 < B)(h:nB A B r)(k:nB A B t):r=t:=by
 have a:=h.mono hB hB k (Int.le_refl _);have b:=k.mono hB hB h (Int.le_refl _)
 omega
theorem fQ.uniq{up:Bool}{A B r t:Int}(hB:0 < B)(h:fQ up A B r)(k:fQ up A B t):r=t:=by
 cases up
 ·rw[ia]at h k;exact h.uniq hB k
 ·rw[iK]at h k
  have:=nB.uniq hB h k
  omega
theorem fQ.mono{up:Bool}{A B C D r t:Int}(hB:0 < B)(hD:0 < D)(h:fQ up A B r)(k:fQ up C D t)(hAC:A*D<=C*B):r<=t:=by
 cases up
 ·rw[ia]at h k;exact h.mono hB hD k hAC
 ·rw[iK]at h k
  have:=nB.mono hD hB k h (by rw[Int.neg_mul,Int.neg_mul];omega)
  omega
theorem fQ.neg{up:Bool}{A B r:Int}(h:fQ up A B r):fQ (!up) (-A) B (-r):=by
 cases up
 ·rw[ia]at h
  rw[show (!false)=true from rfl,iK]
  unfold Kq
  rw[Int.neg_neg,Int.neg_neg];exact h
 ·rw[iK]at h
  rw[show (!true)=false from rfl,ia]
  exact h
theorem pQ{s up:Bool}{A B r:Int}(h:fQ (up !=s) A B r):fQ up (aj s A) B (aj s r):=by
 cases s
 ·rw[aK,aK]
  cases up <;> exact h
 ·rw[aN,aN]
  have h2:fQ (!up) A B r:=by cases up <;> exact h
  have:=h2.neg
  rwa [Bool.not_not]at this
theorem fQ.bd{up:Bool}{A B r:Int}(h:fQ up A B r): -19342822337206103650074625<=r/\r<=19342822337206103650074625:=by
 cases up
 ·rw[ia]at h
  have:=h.1;have:=h.2.1
  omega
 ·rw[iK]at h
  have:=h.1;have:=h.2.1
  omega
theorem qS (p:Nat->Prop)(h0:p 0):∀n,¬p n->∃k,k < n/\p k/\¬p (k+1)
 | 0,h=>absurd h0 h
 | n+1,h=>by
  by_cases q:p n
  ·exact⟨n,Nat.lt_succ_self _,q,h⟩
  ·obtain⟨k,a,b,c⟩:=qS p h0 n q;exact⟨k,Nat.lt_succ_of_lt a,b,c⟩
theorem Ap (A:Int){B:Int}(hB:0 < B):∃r,nB A B r:=by
 obtain⟨n,e⟩:∃n:Nat,(n:Int)=38685644674412207300149250:=⟨38685644674412207300149250,rfl⟩
 obtain⟨k,d,a,b⟩:=qS (fun k=>k=0\/((k:Int)<=38685644674412207300149249/\vr ((k:Int)-19342822337206103650074625)*B<=A)) (.inl rfl) n (by omega)
 refine⟨(k:Int)-19342822337206103650074625,by omega,by omega,fun h=>?_,fun h=>?_⟩
 ·rcases a with a | a
  ·omega
  ·exact a.2
 ·have c:¬vr (((k+1:Nat):Int)-19342822337206103650074625)*B<=A:=fun c=>b (.inr ⟨by omega,c⟩)
  rw[show ((k+1:Nat):Int)-19342822337206103650074625=(k:Int)-19342822337206103650074625+1 by omega]at c
  omega
theorem nd (up:Bool)(A:Int){B:Int}(hB:0 < B):∃r,fQ up A B r:=by
 cases up
 ·obtain⟨r,h⟩:=Ap A hB;exact⟨r,by rw[ia];exact h⟩
 ·obtain⟨r,h⟩:=Ap (-A) hB;refine⟨-r,?_⟩;rw[iK]
  unfold Kq
  rw[Int.neg_neg];exact h
theorem nB.of_dn{X A B a b r:Int}(hB:0 < B)(h:Dn X r)(h1:a < X)(h2:X < b)(h3:a*B < A)(h4:A < b*B)(hs:∀s,¬(a < vr s/\vr s < b)):nB A B r:=by
 obtain⟨c,d,f,g⟩:=h
 refine⟨c,d,fun k=>?_,fun k=>?_⟩
 ·have e:=f k;have n:=hs r
  have l:vr r<=a:=by omega
  have:=Int.mul_le_mul_of_nonneg_right l (Int.le_of_lt hB)
  omega
 ·have e:=g k;have n:=hs (r+1)
  have l:b<=vr (r+1):=by omega
  have:=Int.mul_le_mul_of_nonneg_right l (Int.le_of_lt hB)
  omega
theorem nB.of_eq{X A B r:Int}(hB:0 < B)(h:Dn X r)(e:X*B=A):nB A B r:=by
 obtain⟨a,b,c,d⟩:=h;subst e
 exact⟨a,b,fun k=>Int.mul_le_mul_of_nonneg_right (c k) (Int.le_of_lt hB),fun k=>Int.mul_lt_mul_of_pos_right (d k) hB⟩
theorem IE{P:Int × Int}{A B a b:Int}(up:Bool)(hP:Nf P)(hB:0 < B)(h1:a < vl P)(h2:vl P < b)(h3:a*B < A)(h4:A < b*B)(hs:∀s,¬(a < vr s/\vr s < b)):fQ up A B (eI up P.1 P.2):=by
 obtain⟨c,p2⟩:=dl hP
 cases up
 ·rw[ia];exact nB.of_dn hB c h1 h2 h3 h4 hs
 ·rw[iK]
  refine nB.of_dn (a:= -b) (b:= -a) hB p2 (by omega) (by omega) (by rw[Int.neg_mul];omega) (by rw[Int.neg_mul];omega) (fun s=>?_)
  have:=hs (-s)
  rw[aJ]at this
  omega
theorem Do{P:Int × Int}{A B:Int}(up:Bool)(hP:Nf P)(hB:0 < B)(e:vl P*B=A):fQ up A B (eI up P.1 P.2):=by
 obtain⟨a,p2⟩:=dl hP
 cases up
 ·rw[ia];exact nB.of_eq hB a e
 ·rw[iK];exact nB.of_eq hB p2 (by rw[Int.neg_mul];omega)
theorem yE{i:Int}{u:Nat}(hi:9223372036854775808<=i)(s:Int):¬(2*i*2^u < vr s/\vr s < (2*i+2)*2^u):=by
 rintro ⟨h1,h2⟩;have b:=aE u
 have a:0 < vr s:=Int.lt_of_le_of_lt (Int.mul_nonneg (by omega) (Int.le_of_lt b)) h1
 have hs:0 < s:=by
  rcases Int.lt_or_le 0 s with q | q
  ·exact q
  ·exfalso
   have:=bM q
   rw[show vr 0=0 from rfl]at this
   omega
 have e0:vr s=((s-1)%9223372036854775808+9223372036854775808)*2^((s-1) /9223372036854775808-1048576+KK).toNat:=by
  unfold vr vp
  rw[if_neg (by omega),if_neg (by omega)]
 obtain⟨M,c⟩:∃M,(s-1)%9223372036854775808+9223372036854775808=M:=⟨_,rfl⟩;obtain⟨t,ht⟩:∃t,((s-1) /9223372036854775808-1048576+(KK:Int)).toNat=t:=⟨_,rfl⟩;rw[c,ht]at e0
 have f:M < 18446744073709551616:=by omega
 rw[e0]at h1 h2;clear e0 c ht hs a
 rcases Nat.lt_or_ge u t with q | q
 ·obtain⟨d,rfl⟩:∃d,t=u+1+d:=⟨t-(u+1),by omega⟩
  have e1:M*2^(u+1+d)=M*2^d*2*2^u:=by
   rw[Int.pow_add,Int.pow_succ];generalize (2:Int)^u=U;generalize (2:Int)^d=D;rw[Int.mul_assoc M D 2,Int.mul_assoc M,Int.mul_comm U 2,Int.mul_comm (2*U) D,Int.mul_assoc D 2 U]
  rw[e1]at h1 h2;have a1:=Int.lt_of_mul_lt_mul_right h1 (Int.le_of_lt b);have a2:=Int.lt_of_mul_lt_mul_right h2 (Int.le_of_lt b)
  omega
 ·obtain⟨d,rfl⟩:∃d,u=t+d:=⟨u-t,by omega⟩
  have ht:=aE t;have hd:=aE d;rw[Int.pow_add]at h1
  have e:(2:Int)^t*1<=2^t*2^d:=Int.mul_le_mul_of_nonneg_left hd (Int.le_of_lt ht)
  rw[Int.mul_one]at e
  have l2:2*i*(2:Int)^t<=2*i*(2^t*2^d):=Int.mul_le_mul_of_nonneg_left e (by omega)
  have a1:=Int.lt_of_mul_lt_mul_right (Int.lt_of_le_of_lt l2 h1) (Int.le_of_lt ht)
  omega
theorem Ib{z e:Int}(h:z.natAbs < 2^500000)(h1: -3000000<=e)(h2:e<=3000000):vl (mk z e)=z*2^(e+KK).toNat:=by
 obtain⟨η,b⟩:∃η:Nat,η=4000000:=⟨_,rfl⟩;refine(kW (h:=η) (by omega) (by omega) ?_).2;obtain⟨κ,a⟩:∃κ:Nat,κ=500000:=⟨_,rfl⟩;rw[<-a]at h
 have:=Nat.mul_lt_mul_of_pos_right h (Nat.pow_pos (n:=(e+(η:Int)).toNat) (show 0 < 2 by decide))
 rw[<-Nat.pow_add]at this;exact Nat.lt_of_lt_of_le this (Nat.pow_le_pow_right (by decide) (by omega))
def gD (q r:Nat):Nat:=2*q+if r=0 then 0 else 1
theorem FG{α β n:Nat}(hβ:0 < β)(hn:70+ae β<=n)(ha:α≠0):9223372036854775808<=α*2^n/β:=by
 rw[Nat.le_div_iff_mul_le hβ];have a:=dZ β
 have l2:2^69*β<=2^69*2^ae β:=Nat.mul_le_mul_left _ (Nat.le_of_lt a)
 rw[<-Nat.pow_add]at l2
 have b:2^(69+ae β)<=2^n:=Nat.pow_le_pow_right (by decide) (by omega)
 have c:1*2^n<=α*2^n:=Nat.mul_le_mul_right _ (by omega)
 omega
theorem mU{α β:Nat}{e:Int}{n κ:Nat}(up:Bool)(hβ:0 < β)(hq0:α≠0->9223372036854775808<=α*2^n/β)(hκ:κ=500000)(hs:gD (α*2^n/β) (α*2^n%β) < 2^κ)(h1: -2900000<=e-n)(h2:e<=2900000):
  fQ up ((α:Int)*2^(e+KK).toNat) (β:Int) (eI up (mk ((gD (α*2^n/β) (α*2^n%β):Nat):Int) (e-n-1)).1 (mk ((gD (α*2^n/β) (α*2^n%β):Nat):Int) (e-n-1)).2):=by
 have o:=dT
 have g:(0:Int) < (β:Int):=by omega
 have f:=fJ ((gD (α*2^n/β) (α*2^n%β):Nat):Int) (e-n-1);have c:=Ib (z:=((gD (α*2^n/β) (α*2^n%β):Nat):Int)) (e:=e-n-1) (by rw[Int.natAbs_natCast,<-hκ];exact hs) (by omega) (by omega);obtain⟨u,m⟩:∃u:Nat,(e-n-1+(KK:Int)).toNat=u:=⟨_,rfl⟩
 have e1:(e+(KK:Int)).toNat=n+(1+u):=by omega
 rw[m]at c
 rw[e1,Int.pow_add,Int.pow_add,show (2:Int)^1=2 from rfl,<-Int.mul_assoc]
 have hd:=Nat.div_add_mod (α*2^n) β;have hm:=Nat.mod_lt (α*2^n) hβ;have i:=aE u
 have d:((α*2^n:Nat):Int)=(α:Int)*2^n:=by push_cast;rfl
 by_cases l:α=0
 ·subst l
  have e2:gD (0*2^n/β) (0*2^n%β)=0:=by
   rw[Nat.zero_mul,Nat.zero_div,Nat.zero_mod]
   rfl
  rw[e2]at c f|-;refine Do up f g ?_;rw[c]
  show (((0:Nat):Int))*2^u*(β:Int)=((0:Nat):Int)*2^n*(2*2^u)
  rw[show (((0:Nat):Int))=0 from rfl,Int.zero_mul,Int.zero_mul,Int.zero_mul,Int.zero_mul]
 ·have hq:=hq0 l;clear hq0;clear hs;rw[<-d];clear d;generalize α*2^n=X at c f hd hm hq|-;generalize X/β=q at c f hd hq|-;generalize X%β=r at c f hd hm|-
  have j:(β:Int)*(q:Int)+(r:Int)=(X:Int):=by exact_mod_cast hd
  by_cases k:r=0
  ·have e3:gD q r=2*q:=by
    unfold gD
    rw[if_pos k]
    omega
   rw[e3]at c f|-;refine Do up f g ?_;rw[c,<-j,k]
   show (((2*q:Nat)):Int)*2^u*(β:Int)=((β:Int)*(q:Int)+((0:Nat):Int))*(2*2^u)
   push_cast
   generalize (2:Int)^u=U;rw[Int.add_zero,Int.mul_assoc,Int.mul_comm U,Int.mul_assoc 2,<-Int.mul_assoc (q:Int),Int.mul_comm (q:Int),Int.mul_left_comm]
  ·have e3:gD q r=2*q+1:=by
    unfold gD
    rw[if_neg k]
   rw[e3]at c f|-
   have c1:(((2*q+1:Nat)):Int)=2*(q:Int)+1:=by omega
   have c2:(2*(q:Int)*2^u)*(β:Int)=(β:Int)*(q:Int)*(2*2^u):=by
    generalize (2:Int)^u=U;rw[Int.mul_right_comm,Int.mul_comm 2 (q:Int),Int.mul_assoc (q:Int) 2,Int.mul_comm 2 (β:Int),<-Int.mul_assoc (q:Int),Int.mul_comm (q:Int),Int.mul_assoc]
   have c3:((2*(q:Int)+2)*2^u)*(β:Int)=((β:Int)*(q:Int)+(β:Int))*(2*2^u):=by
    rw[show 2*(q:Int)+2=2*((q:Int)+1) by omega,show (β:Int)*(q:Int)+(β:Int)=(β:Int)*((q:Int)+1) by rw[Int.mul_add,Int.mul_one]]
    generalize (2:Int)^u=U;generalize (q:Int)+1=p;rw[Int.mul_right_comm,Int.mul_comm 2 p,Int.mul_assoc p 2,Int.mul_comm 2 (β:Int),<-Int.mul_assoc p,Int.mul_comm p,Int.mul_assoc]
   have h:(0:Int) < 2*2^u:=by omega
   refine IE up f g (a:=2*(q:Int)*2^u) (b:=(2*(q:Int)+2)*2^u) ?_ ?_ ?_ ?_ (yE (by omega))
   ·rw[c,c1];exact Int.mul_lt_mul_of_pos_right (by omega) i
   ·rw[c,c1];exact Int.mul_lt_mul_of_pos_right (by omega) i
   ·rw[c2];exact Int.mul_lt_mul_of_pos_right (by omega) h
   ·rw[c3];exact Int.mul_lt_mul_of_pos_right (by omega) h
theorem hO{up:Bool}{A B r:Int}(hB:0 < B)(h1: -19342822337206103650074625 < r)(h2:r < 19342822337206103650074625)(e:vr r*B=A):fQ up A B r:=by
 cases up
 ·rw[ia];exact nB.of_eq hB (gn h1 h2) e
 ·rw[iK];refine nB.of_eq hB (gn (r:= -r) (by omega) (by omega)) ?_;rw[aJ,Int.neg_mul,e]
theorem pR{A B r t:Int}(hB:0 < B)(h:fQ false A B r)(k:fQ true A B t):(t=r/\vr r*B=A/\ -19342822337206103650074625 < r/\r < 19342822337206103650074625)\/(t=r+1/\(-19342822337206103650074625 < r->vr r*B < A)/\(t < 19342822337206103650074625->A < vr t*B)):=by
 rw[ia]at h;rw[iK]at k;obtain⟨h1,h2,i,h4⟩:=h;obtain⟨o,p,m,n⟩:=k
 have f:t < 19342822337206103650074625->A<=vr t*B:=fun c=>by
  have:=m (by omega)
  rw[aJ,Int.neg_mul]at this
  omega
 have g: -19342822337206103650074624 < t->vr (t-1)*B < A:=fun c=>by
  have:=n (by omega)
  rw[show -t+1= -(t-1) by omega,aJ,Int.neg_mul]at this
  omega
 have d:∀a b:Int,a<=b->vr a*B<=vr b*B:=fun a b c=>Int.mul_le_mul_of_nonneg_right (bM c) (Int.le_of_lt hB)
 have j:r<=t:=by
  rcases Int.lt_or_le t r with q | q
  ·exfalso
   have a:=i (by omega);have b:=f (by omega)
   have c:vr t*B < vr r*B:=Int.mul_lt_mul_of_pos_right (jl q) hB
   omega
  ·exact q
 have l:t<=r+1:=by
  rcases Int.lt_or_le (r+1) t with q | q
  ·exfalso
   have a:=h4 (by omega);have b:=g (by omega);have c:=d (r+1) (t-1) (by omega)
   omega
  ·exact q
 by_cases e:t=r
 ·subst e
  left
  have a:=i (by omega);have b:=f (by omega);exact⟨rfl,by omega,by omega,by omega⟩
 ·right
  have e2:t=r+1:=by omega
  refine⟨e2,fun c=>?_,fun c=>?_⟩
  ·have:=g (by omega)
   rw[e2,show r+1-1=r by omega]at this
   exact this
  ·have:=h4 (by omega)
   rw[<-e2]at this;exact this
def Qt (up:Bool)(x y r:Int):Prop:=
 if y=0 then r=aj (!up) TP else if x=0\/ax y=true then r=0 else if ax x=true then r=aj (decide (x < 0) !=decide (y < 0)) TP else fQ up (aj (decide (y < 0)) (vr x)*2^KK) (aj (decide (y < 0)) (vr y)) r
theorem FE{up:Bool}{x r:Int}(h:r=aj (!up) TP):Qt up x 0 r:=by
 unfold Qt
 rw[if_pos rfl];exact h
theorem bR{up:Bool}{x y r:Int}(hy:y≠0)(h:x=0\/ax y=true):Qt up x y r↔r=0:=by
 unfold Qt
 rw[if_neg hy,if_pos h]
theorem fg{up:Bool}{x r:Int}:Qt up x 0 r↔r=aj (!up) TP:=by
 unfold Qt
 rw[if_pos rfl]
theorem iD{up:Bool}{x y r:Int}(hy:y≠0)(h:¬(x=0\/ax y=true))(hx:ax x=true):Qt up x y r↔r=aj (decide (x < 0) !=decide (y < 0)) TP:=by
 unfold Qt
 rw[if_neg hy,if_neg h,if_pos hx]
theorem iC{up:Bool}{x y r:Int}(hy:y≠0)(h:¬(x=0\/ax y=true))(hx:ax x=false):Qt up x y r↔fQ up (aj (decide (y < 0)) (vr x)*2^KK) (aj (decide (y < 0)) (vr y)) r:=by
 unfold Qt
 rw[if_neg hy,if_neg h,if_neg (by rw[hx];exact ff)]
theorem jC{y:Int}(hy:y≠0):0 < aj (decide (y < 0)) (vr y):=by
 by_cases c:y < 0
 ·rw[dt c,aN]
  have:=iF (x:= -y) (by omega)
  rw[aJ]at this;exact this
 ·rw[df c,aK];exact iF (by omega)
theorem JV (up:Bool)(x y:Int):∃r,Qt up x y r:=by
 by_cases hy:y=0
 ·subst hy;exact⟨_,FE rfl⟩
 ·by_cases h:x=0\/ax y=true
  ·exact⟨0,(bR hy h).2 rfl⟩
  ·cases hx:ax x
   ·obtain⟨r,a⟩:=nd up (aj (decide (y < 0)) (vr x)*2^KK) (jC hy);exact⟨r,(iC hy h hx).2 a⟩
   ·exact⟨_,(iD hy h hx).2 rfl⟩
theorem Qt.uniq{up:Bool}{x y r t:Int}(h:Qt up x y r)(k:Qt up x y t):r=t:=by
 by_cases hy:y=0
 ·subst hy;rw[fg.1 h,fg.1 k]
 ·by_cases h0:x=0\/ax y=true
  ·rw[(bR hy h0).1 h,(bR hy h0).1 k]
  ·cases hx:ax x
   ·exact((iC hy h0 hx).1 h).uniq (jC hy) ((iC hy h0 hx).1 k)
   ·rw[(iD hy h0 hx).1 h,(iD hy h0 hx).1 k]
theorem Qt.bd{up:Bool}{x y r:Int}(h:Qt up x y r): -19342822337206103650074625<=r/\r<=19342822337206103650074625:=by
 have b:=dq
 have sg:∀s,-19342822337206103650074625<=aj s TP/\aj s TP<=19342822337206103650074625:=fun s=>by
  rcases K8 s with e | e <;> rw[e] <;> omega
 by_cases hy:y=0
 ·subst hy;rw[fg.1 h];exact sg _
 ·by_cases a:x=0\/ax y=true
  ·rw[(bR hy a).1 h]
   decide
  ·cases hx:ax x
   ·exact((iC hy a hx).1 h).bd
   ·rw[(iD hy a hx).1 h];exact sg _
theorem wL (s:Bool)(x:Int):aj s (aj s x)=x:=by
 cases s
 ·rw[aK,aK]
 ·rw[aN,aN,Int.neg_neg]
theorem FF{up:Bool}{x:Int}(h0:x≠0)(h1: -19342822337206103650074625 < x)(h2:x < 19342822337206103650074625):Qt up x x (al 1):=by
 have o:=ku (n:=1) (by decide) (by decide);have ov:=fd (n:=1) (by decide) (by decide);have hi:=bz h1 h2
 have a:¬(x=0\/ax x=true):=by
  rw[hi];rintro (c | c)
  ·exact h0 c
  ·cases c
 refine(iC h0 a hi).2 (hO (jC h0) (by omega) o.2 ?_);rw[ov,Int.one_mul,Int.mul_comm]
def Rt (up:Bool)(X r:Int):Prop:=
 if up=true then 0 < r/\r<=19342822337206103650074625/\(r < 19342822337206103650074625->X<=vr r*vr r)/\vr (r-1)*vr (r-1) < X
 else 0<=r/\r<=19342822337206103650074624/\vr r*vr r<=X/\(r < 19342822337206103650074624->X < vr (r+1)*vr (r+1))
theorem Dd{X r:Int}:Rt false X r↔(0<=r/\r<=19342822337206103650074624/\vr r*vr r<=X/\(r < 19342822337206103650074624->X < vr (r+1)*vr (r+1))):=by
 unfold Rt
 rw[if_neg ff]
theorem De{X r:Int}:Rt true X r↔(0 < r/\r<=19342822337206103650074625/\(r < 19342822337206103650074625->X<=vr r*vr r)/\vr (r-1)*vr (r-1) < X):=by
 unfold Rt
 rw[if_pos rfl]
theorem J4{a b:Int}(h0:0<=a)(h:a<=b):a*a<=b*b:=Int.mul_le_mul h h h0 (by omega)
theorem wY{r t:Int}(h0:0<=r)(h:r<=t):vr r*vr r<=vr t*vr t:=J4 (DU h0) (bM h)
theorem Rt.uniq{up:Bool}{X r t:Int}(h:Rt up X r)(k:Rt up X t):r=t:=by
 have d:∀{r t},Rt up X r->Rt up X t->¬r < t:=by
  intro r t h k c
  cases up
  ·obtain⟨h1,h2,e,h4⟩:=Dd.1 h;obtain⟨f,g,i,j⟩:=Dd.1 k;have a:=h4 (by omega);have b:=wY (r:=r+1) (t:=t) (by omega) (by omega)
   omega
  ·obtain⟨h1,h2,e,h4⟩:=De.1 h;obtain⟨f,g,i,j⟩:=De.1 k;have a:=e (by omega);have b:=wY (r:=r) (t:=t-1) (by omega) (by omega)
   omega
 have a:=d h k;have b:=d k h
 omega
theorem pI{σ up:Bool}{z e:Int}:eI up (mk (aj σ z) e).1 (mk (aj σ z) e).2=aj σ (eI (up !=σ) (mk z e).1 (mk z e).2):=by
 cases σ
 ·rw[aK,aK]
  cases up <;> rfl
 ·rw[aN,aN,kX];have h:=rz (fJ z e) (!up);rw[Bool.not_not]at h;rw[h]
  cases up <;> rfl
theorem fQ.cross{up:Bool}{A B C D r:Int}(hB:0 < B)(hD:0 < D)(h:fQ up A B r)(e:A*D=C*B):fQ up C D r:=by
 obtain⟨t,ht⟩:=nd up C hD;have a:=h.mono hB hD ht (Int.le_of_eq e);have b:=ht.mono hD hB h (Int.le_of_eq e.symm)
 have c:r=t:=by omega
 rw[c];exact ht
theorem mW{σ up:Bool}{α β:Nat}{e:Int}{n κ:Nat}(hβ:0 < β)(hn:n=70+ae β)(hκ:κ=500000)(hs:gD (α*2^n/β) (α*2^n%β) < 2^κ)(h1: -2900000<=e-n)(h2:e<=2900000):
  fQ up (aj σ ((α:Int)*2^(e+KK).toNat)) (β:Int) (eI up (mk (aj σ ((gD (α*2^n/β) (α*2^n%β):Nat):Int)) (e-n-1)).1 (mk (aj σ ((gD (α*2^n/β) (α*2^n%β):Nat):Int)) (e-n-1)).2):=by
 rw[pI]
 exact pQ (mU (up !=σ) hβ (fun ha=>FG hβ (by omega) ha) hκ hs h1 h2)
def Rq (up:Bool)(z y r:Int):Prop:=if y=0 then r=aj (!up) TP else fQ up (aj (decide (y < 0)) z*2^KK) (aj (decide (y < 0)) y) r
theorem ky{up:Bool}{z r:Int}:Rq up z 0 r↔r=aj (!up) TP:=by
 unfold Rq
 rw[if_pos rfl]
theorem fj{up:Bool}{z y r:Int}(hy:y≠0):Rq up z y r↔fQ up (aj (decide (y < 0)) z*2^KK) (aj (decide (y < 0)) y) r:=by
 unfold Rq
 rw[if_neg hy]
theorem pO{y:Int}(hy:y≠0):0 < aj (decide (y < 0)) y:=by
 by_cases c:y < 0
 ·rw[dt c,aN];omega
 ·rw[df c,aK];omega
theorem rB (up:Bool)(z y:Int):∃r,Rq up z y r:=by
 by_cases hy:y=0
 ·subst hy;exact⟨_,ky.2 rfl⟩
 ·obtain⟨r,a⟩:=nd up (aj (decide (y < 0)) z*2^KK) (pO hy);exact⟨r,(fj hy).2 a⟩
theorem Rq.uniq{up:Bool}{z y r t:Int}(h:Rq up z y r)(k:Rq up z y t):r=t:=by
 by_cases hy:y=0
 ·subst hy;rw[ky.1 h,ky.1 k]
 ·exact((fj hy).1 h).uniq (pO hy) ((fj hy).1 k)
theorem Rq.mono{up:Bool}{z y z' y' r t:Int}(hy:0 < y)(hy':0 < y')(h:Rq up z y r)(k:Rq up z' y' t)(hle:z*y'<=z'*y):r<=t:=by
 have a:=(fj (by omega)).1 h;have b:=(fj (by omega)).1 k;rw[df (by omega),aK,aK]at a b;refine a.mono hy hy' b ?_
 have:=Int.mul_le_mul_of_nonneg_right hle (Int.le_of_lt (aE KK))
 rw[Int.mul_right_comm z,Int.mul_right_comm z'];exact this
theorem GK{up s t:Bool}{α β:Nat}{r:Int}(hβ:0 < β)(h:fQ up (aj (s !=t) ((α:Int)*2^(0+(KK:Int)).toNat)) (β:Int) r):Rq up (aj s (α:Int)) (aj t (β:Int)) r:=by
 have hy:aj t (β:Int)≠0:=by
  cases t
  ·rw[aK];omega
  ·rw[aN];omega
 refine(fj hy).2 ?_
 have ht:decide (aj t (β:Int) < 0)=t:=by
  cases t
  ·rw[aK];exact df (by omega)
  ·rw[aN];exact dt (by omega)
 rw[ht,wL]
 have e:aj t (aj s (α:Int))*2^KK=aj (s !=t) ((α:Int)*2^(0+(KK:Int)).toNat):=by
  rw[show (0+(KK:Int)).toNat=KK by omega,<-gC]
  congr 1
  cases s <;> cases t
  ·rfl
  ·rfl
  ·rfl
  ·rw[show (true !=true)=false from rfl,aK,aN,aN,Int.neg_neg]
 rw[e];exact h
theorem Cr{M:Int}(h1:9223372036854775808<=M)(h2:LQ M):∃(α:Nat) (v:Nat),(mk M 0).1=(α:Int)/\(mk M 0).2=(v:Int)/\M=(α:Int)*2^v/\0 < α/\α%2=1/\α < 18446744073709551616/\v < 64:=by
 obtain⟨m,rfl⟩:=Int.eq_ofNat_of_zero_le (show 0<=M by omega)
 have a:m≠0:=by omega
 have d:v2 m < 64:=by
  have h:=eX a
  have h4:2^v2 m < 2^64:=by omega
  exact(Nat.pow_lt_pow_iff_right (by decide)).1 h4
 obtain⟨b,f,g,i,c⟩:=iH (z:=(m:Int)) (e:=0) (by omega) (by decide) (by rw[Int.natAbs_natCast];omega);rw[Int.natAbs_natCast]at b f c;obtain⟨s1,s2⟩:=fB m a
 have hp:0<=(mk (m:Int) 0).1:=by
  rcases Int.lt_or_le (mk (m:Int) 0).1 0 with q | q
  ·have:=g.1 q;omega
  ·exact q
 have e1:(mk (m:Int) 0).1=((m/2^v2 m:Nat):Int):=by omega
 refine⟨m/2^v2 m,v2 m,e1,by rw[b];omega,?_,by omega,s2,?_,d⟩
 ·rw[<-e1];exact c
 ·have:=Nat.div_le_self m (2^v2 m)
  omega
theorem qC{up s t:Bool}{M1 E1 M2 E2 x y:Int}{α β v w:Nat}{r:Int}(q1:Fq 1 s M1 E1 x)(q2:Fq 1 t M2 E2 y)(hM1:M1=(α:Int)*2^v)(hM2:M2=(β:Int)*2^w)(hβ:0 < β)(hv:v < 64)(hw:w < 64)
  (h:fQ up (aj (s !=t) ((α:Int)*2^(E1-E2+v-w+(KK:Int)).toNat)) (β:Int) r):Qt up x y r:=by
 obtain⟨a1,a2,a3,B,g,i,j,k,C⟩:=eV q1;obtain⟨D,E,F,G,l,m,n,o,p⟩:=eV q2;have H:=dT;have u:=bz g i;have z:=bz l m
 refine(iC n (by rw[z];rintro (c | c);exact j c;cases c) u).2 ?_
 rw[p,k,o,wL]
 have q:(0:Int) < M2*2^(E2+KK).toNat:=Int.mul_pos (by omega) (aE _)
 refine h.cross (by omega) q ?_
 have e1:aj t (aj s (M1*2^(E1+(KK:Int)).toNat))=aj (s !=t) (M1*2^(E1+(KK:Int)).toNat):=by
  cases s <;> cases t
  ·rfl
  ·rfl
  ·rfl
  ·rw[show (true !=true)=false from rfl,aK,aN,aN,Int.neg_neg]
 rw[e1,gC,gC,gC]
 congr 1
 rw[hM1,hM2]
 have A:(2:Int)^(E1-E2+v-w+(KK:Int)).toNat*(2^w*2^(E2+(KK:Int)).toNat)=2^v*2^(E1+(KK:Int)).toNat*2^KK:=by
  rw[<-Int.pow_add,<-Int.pow_add,<-Int.pow_add,<-Int.pow_add]
  congr 1
  omega
 have nK:∀α β a b c d e f:Int,a*(b*c)=d*e*f->α*a*(β*b*c)=α*d*e*f*β:=fun α β a b c d e f h=>by
  have h1:α*a*(β*b*c)=α*β*(a*(b*c)):=by
   rw[Int.mul_assoc β b c,Int.mul_assoc α a,<-Int.mul_assoc a β,Int.mul_comm a β,Int.mul_assoc β a,<-Int.mul_assoc α β]
  have h2:α*d*e*f*β=α*β*(d*e*f):=by
   rw[Int.mul_assoc α d e,Int.mul_assoc α (d*e) f,Int.mul_right_comm α]
  rw[h1,h2,h]
 exact nK _ _ _ _ _ _ _ _ A
end Go.Proofs.YteigedaefgmojaaGreatDoor
namespace Go.Proofs.YteigedaefgmojaaGreatDoor
open Go.Proofs.Tryz
open Go Go.RowKit
set_option linter.unusedVariables false
abbrev SC:Int:=6277101735386680763835789423207666416102355444464034512896
def io (n:Int):Nat->Nat->Int->Int->Int × Nat
 | 0,k,s,_=>(s,k)
 | f+1,k,s,p=>if SC/ (p*(2*(k:Int)+1))=0 then (s,k)else io n f (k+1) (if k%2=1 then s+ -(SC/ (p*(2*(k:Int)+1)))else s+SC/ (p*(2*(k:Int)+1))) (p*(n*n))
def lE (n:Nat):Nat->Nat->Nat->Nat->Nat->Nat × Nat × Nat
 | 0,k,a,b,_=>(a,b,k)
 | f+1,k,a,b,p=>if 6277101735386680763835789423207666416102355444464034512896/ (p*(2*k+1))=0 then (a,b,k)else
   if k%2=1 then lE n f (k+1) a (b+6277101735386680763835789423207666416102355444464034512896/ (p*(2*k+1))) (p*(n*n))else lE n f (k+1) (a+6277101735386680763835789423207666416102355444464034512896/ (p*(2*k+1))) b (p*(n*n))
theorem Al (c p k:Nat):(c:Int) / ((p:Int)*(2*(k:Int)+1))=((c/ (p*(2*k+1)):Nat):Int):=by push_cast;rfl
theorem sK (n:Nat):∀(f k a b p:Nat),io (n:Int) f k ((a:Int)-b) p=(((lE n f k a b p).1:Int)-(lE n f k a b p).2.1,(lE n f k a b p).2.2)
 | 0,k,a,b,p=>rfl
 | f+1,k,a,b,p=>by
  have e1:(SC/ ((p:Int)*(2*(k:Int)+1)))=((6277101735386680763835789423207666416102355444464034512896/ (p*(2*k+1)):Nat):Int):=Al 6277101735386680763835789423207666416102355444464034512896 p k
  have e2:(p:Int)*((n:Int)*n)=((p*(n*n):Nat):Int):=by push_cast;rfl
  unfold io lE
  rw[e1,e2];generalize 6277101735386680763835789423207666416102355444464034512896/ (p*(2*k+1))=t
  by_cases h:t=0
  ·rw[if_pos h,if_pos (by omega)]
  ·rw[if_neg h,if_neg (by omega)]
   by_cases c:k%2=1
   ·rw[if_pos c,if_pos c,show (a:Int)-b+ -(t:Int)=(a:Int)-((b+t:Nat):Int) by push_cast;omega]
    exact sK n f _ _ _ _
   ·rw[if_neg c,if_neg c,show (a:Int)-b+(t:Int)=((a+t:Nat):Int)-(b:Int) by push_cast;omega]
    exact sK n f _ _ _ _
def gU (n:Int):Int × Int:=if n < 2\/1000 < n then (0,0)else ((io n 200 0 0 n).1+(-((io n 200 0 0 n).2:Int)-1),(io n 200 0 0 n).1+(((io n 200 0 0 n).2:Int)+1))
def EH (n:Nat):Int × Int:=(((lE n 200 0 0 0 n).1:Int)-(lE n 200 0 0 0 n).2.1+(-((lE n 200 0 0 0 n).2.2:Int)-1),((lE n 200 0 0 0 n).1:Int)-(lE n 200 0 0 0 n).2.1+(((lE n 200 0 0 0 n).2.2:Int)+1))
theorem Bb{n:Nat}(h1:2<=n)(h2:n<=1000):gU (n:Int)=EH n:=by
 have e:=sK n 200 0 0 0 n
 rw[show (((0:Nat):Int)-((0:Nat):Int))=0 from rfl]at e
 unfold gU EH
 rw[if_neg (by omega),e]
theorem KF:EH 5=(1239072011291311913768300331356796477639936999957358576040,1239072011291311913768300331356796477639936999957358576122):=by kernel_rfl
theorem Hu:EH 239=(26263870733613014474167984370118687693885283531911871163,26263870733613014474167984370118687693885283531911871189):=by kernel_rfl
abbrev iP:Int:=19720096697726538562396133364228268891463450865190089731884
abbrev iO:Int:=19720096697726538562396133364228268891463450865190089733300
theorem mj:(gU 5).1*16-(gU 239).2*4=iP/\(gU 5).2*16-(gU 239).1*4=iO:=by
 have a:=Bb (n:=5) (by decide) (by decide);have b:=Bb (n:=239) (by decide) (by decide)
 rw[show (5:Int)=((5:Nat):Int)from rfl,show (239:Int)=((239:Nat):Int)from rfl,a,b,KF,Hu]
 decide
abbrev eM:Int:=14488038916154245684-9223372036854775808+1+(-62+1048576)*9223372036854775808
theorem CH:vr eM=14488038916154245684*2^(KK-62)/\vr (eM+1)=14488038916154245685*2^(KK-62):=by
 have a:=dS (M:=14488038916154245684) (E:= -62) (by decide) (by decide) (by decide);have b:=dS (M:=14488038916154245685) (E:= -62) (by decide) (by decide) (by decide)
 rw[show (-62+(KK:Int)).toNat=KK-62 by rw[dT];rfl]at a b
 constructor
 ·unfold vr
  rw[if_neg (by decide)];exact a
 ·unfold vr
  rw[if_neg (by decide),show eM+1=14488038916154245685-9223372036854775808+1+(-62+1048576)*9223372036854775808 by decide]
  exact b
theorem km:(2:Int)^KK=4611686018427387904*2^(KK-62):=by
 rw[show (2:Int)^KK=2^(62+(KK-62)) by rw[dT],Int.pow_add]
 rfl
theorem CE:Rq false iP SC eM:=by
 rw[fj (by decide),ia];obtain⟨a,b⟩:=CH;have hp:=aE (KK-62)
 refine⟨by decide,by decide,fun _=>?_,fun _=>?_⟩
 ·rw[a,show aj (decide (SC < 0)) SC=SC from rfl,show aj (decide (SC < 0)) iP=iP from rfl,km]
  generalize (2:Int)^(KK-62)=u at *
  unfold SC iP
  omega
 ·rw[b,show aj (decide (SC < 0)) SC=SC from rfl,show aj (decide (SC < 0)) iP=iP from rfl,km]
  generalize (2:Int)^(KK-62)=u at *
  unfold SC iP
  omega
theorem CC:Rq true iO SC (eM+1):=by
 rw[fj (by decide),iK];obtain⟨a,b⟩:=CH;have hp:=aE (KK-62)
 refine⟨by decide,by decide,fun _=>?_,fun _=>?_⟩
 ·rw[aJ,b,show aj (decide (SC < 0)) SC=SC from rfl,show aj (decide (SC < 0)) iO=iO from rfl,km]
  generalize (2:Int)^(KK-62)=u at *
  unfold SC iO
  omega
 ·rw[show -(eM+1)+1= -eM by decide,aJ,a,show aj (decide (SC < 0)) SC=SC from rfl,show aj (decide (SC < 0)) iO=iO from rfl,km]
  generalize (2:Int)^(KK-62)=u at *
  unfold SC iO
  omega
end Go.Proofs.YteigedaefgmojaaGreatDoor
namespace Go.Proofs.YteigedaefgmojaaGreatDoor
open Go.Proofs.Tryz
set_option maxHeartbeats 2000000
open Go.RowKit
set_option linter.unusedVariables false
set_option linter.unusedSimpArgs false
set_option maxRecDepth 100000
def W2 (w:World)(K:Nat)(q r:Int)(e:Ending)(w':World):Prop:=∃s1 A1 n1 c1 s2 A2 n2 c2,e= .returned (.tuple #[.agg #[.bool s1,.slice A1 n1 c1],.agg #[.bool s2,.slice A2 n2 c2]])/\Wn w' s1 A1 n1 c1 q/\Wn w' s2 A2 n2 c2 r/\n1<=K/\n2<=K/\Below w.heap.size w w'
theorem Wn.fits{w:World}{A:Option Addr}{n c K:Nat}{s:Bool}{z:Int}(h:Wn w s A n c z)(hz:z.natAbs < 4294967296^K):n<=K:=by
 have h1:=h.1.len;have h2:=aH hz
 omega
theorem i9{w:World}:Calls prog 158 #[] w (W1 w 8 SC):=by
 go_enter func158,ntmps158
 go_upto_region 1 with fail
 generalize e:w.alloc _=w1 at *;obtain⟨c,d⟩:=Bo.en1 e;clear e
 go_wp2_with fail
 refine(J2 (a:=1) 192 ⟨_,[1],kt w1,rfl⟩ (by decide) (by decide) (by decide)).mono ?_;rintro j n ⟨A2,n2,c2,rfl,p2,l,B⟩;replace B:=bt (af _ (.cells #[.int .u32 1] 103)) B;replace c:=c.b B;replace d:=ak d B;clear B
 go_wp2_with fail
 refine(dk false p2.rd).mono ?_;rintro j k ⟨s3,A3,n3,c3,rfl,f,m,B⟩;replace c:=c.b B;replace d:=ak d B;clear B;clear p2
 replace f:Wn k s3 A3 n3 c3 SC:=by rw[show SC=sg false (1*2^192) by decide];exact f
 have i:=c.cell;have g:=c.frozen;go_wp2;clear i g;have h:=ac.t2 c s3 A3 n3 c3;replace f:=f.s h;exact bq (v:= .agg #[.bool s3,.slice A3 n3 c3]) (by simp[results,results158,go_sem,h.box.cell]) rfl ⟨s3,A3,n3,c3,rfl,f,by omega,(h.below d.out (by omega))⟩
theorem vM{w:World}{A:Option Addr}{n c:Nat}{s:Bool}{x:Int}{B:Option Addr}{m d:Nat}{t:Bool}{y:Int}{q:Int}(h:Wr w s A n c x)(k:Wr w t B m d y)(hn:n<=268435456)(hm:m<=268435456)(h0:y≠0)(hq:x.fdiv y=q):Calls prog 75 #[.agg #[.bool s,.slice A n c],.agg #[.bool t,.slice B m d]] w (W1 w (n+m+4) q):=by
 go_enter func75,ntmps75
 go_upto_region 1 with fail
 generalize u:((w.alloc _).alloc _).alloc _=w1 at *;obtain⟨O,P,a,e⟩:=Bo.en3 u;replace h:=h.below e.out;replace k:=k.below e.out;clear u;have I:=O.cell;have J:=P.cell
 go_wp2_with fail
 refine(JS h k hn hm h0 hq rfl).mono ?_;rintro U z ⟨p,j,o,l,s9,A9,n9,c9,rfl,i,S,R,V,B⟩;clear I J;replace a:=a.b B;replace e:=ak e B;clear B;clear h k;clear O P
 go_upto_region 2 with fail
 have g:(World.alloc z (.cells #[.bool p,.slice j o l] 43)).heap.size=z.heap.size+1:=by simp
 have F:=a.lt;have D:=af z (.cells #[.bool p,.slice j o l] 43);replace a:=a.b D;replace i:=i.b D;replace e:=ie (bt e.out D);have r:=Bo.new z #[.bool p,.slice j o l] 43;generalize f:World.alloc z (.cells #[.bool p,.slice j o l] 43)=T at *;clear f
 have H:=a.lt;have G:=r.lt;generalize f:T.alloc _=W at *;obtain⟨Q,N⟩:=Bo.nw f;clear f;refine aR ?_ a r i e N;clear a r i e N;intro a r i e;rw[g]at Q;clear g;clear S;have M:=a.cell;have C:=a.frozen;have L:=r.cell;go_wp2;clear M C L
 have E:=ac.t2 a p j o l;replace i:=i.s E;exact bq (v:= .agg #[.bool p,.slice j o l]) (by simp[results,results75,go_sem,E.box.cell]) rfl ⟨p,j,o,l,rfl,i,R,(E.below e.out (by omega))⟩
theorem ip{w:World}{A:Option Addr}{n c:Nat}{s:Bool}{x:Int}{z r:Int}(h:Wr w s A n c x)(hn:n<=268435456)(h1: -9223372036854775808<=z)(h2:z<=9223372036854775807)(hr:x*z=r):Calls prog 70 #[.agg #[.bool s,.slice A n c],.int .i64 z] w (W1 w (n+2) r):=by
 go_enter func70,ntmps70
 go_upto_region 1 with fail
 generalize f:(w.alloc _).alloc _=w1 at *;obtain⟨p,e,i⟩:=Bo.en2 f;replace h:=h.below i.out;clear f;refine bF [0,1,2,3] [6,7,8,9,0] [[],[],[1],[0,2],[]] 5 1 [Jo.Fact.eq (.agg #[.bool s,.slice A n c]),Jo.qi z,Jo.Fact.wn (z) (2),Jo.Fact.wn (r) (n+2),Jo.Fact.any] ?_ ?_
 ·iterate 2 (refine jm ?_ ?_;rotate_left)
  refine jm ?_ ?_
  ·rintro o d _ rfl K a;go_simp;exact Jo.w1 (gy z _ h1 h2) a.out
  refine jm ?_ ?_
  ·rintro o d _ rfl _ ⟨s3,A3,n3,c3,rfl,m,q⟩ K a;go_simp;exact Jo.w1 (Iw (h.b d) m.wr hn (by omega) hr) a.out
  exact jo
  all_goals (rintro o d;(repeat rintro _ rfl);intro K a;have u:=(p.b d).cell;go_simp;exact a.out _ _ rfl (br _ _))
 rintro y d _ rfl _ rfl _ ⟨s3,A3,n3,c3,rfl,m,q⟩ _ ⟨s4,A4,n4,c4,rfl,k,t⟩ -;simp only[Jo.z];replace e:=e.b d;replace i:=ak i d;clear h;have l:=e.cell;have g:=e.frozen
 refine jn 4 fun K a=>?_
 go_simp;refine a.out _ _ ?_;clear a K l g;have j:=ac.t2 e s4 A4 n4 c4;replace k:=k.s j;refine jd ?_;go_wp2;exact bq (v:= .agg #[.bool s4,.slice A4 n4 c4]) (by simp[results,results70,go_sem,j.box.cell]) rfl ⟨s4,A4,n4,c4,rfl,k,t,(j.below i.out (by omega))⟩
theorem mI:∀l:List Sp,l.foldl eC none=none
 | []=>rfl
 | _::l=>mI l
