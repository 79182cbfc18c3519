/-
 Contracts that the proof rests on.
-/
import Derived.Test.YtomikokonmikgaaGreatDoorYTat
namespace Go.Proofs.YtomikokonmikgaaGreatDoor
open Go.Proofs.Tryz
set_option maxHeartbeats 8000000
open Go.RowKit
set_option linter.unusedVariables false
set_option linter.unusedSimpArgs false
set_option maxRecDepth 100000
theorem kt{s:Bool}{H L e V:Int}{f:Bool->Int}(hH:0<=H)(hH2:LQ H)(hL:0<=L)(hL2:LQ L)(hV:H*18446744073709551616+L=V)(e1: -2900000<=e)(e2:e<=2900000)(h:∀up,ed up (mk (aj s V) (e-64)).1 (mk (aj s V) (e-64)).2=f up):Wd s H L e f:=by
 obtain⟨a,rfl⟩:=Int.eq_ofNat_of_zero_le hH;obtain⟨b,rfl⟩:=Int.eq_ofNat_of_zero_le hL
 refine⟨a,b,by omega,by omega,rfl,rfl,e1,e2,fun up=>?_⟩
 have e:((a*18446744073709551616+b:Nat):Int)=V:=by omega
 rw[e];exact h up
theorem i5{H1 L1 H2 L2 V1 V2:Int}(h1:0<=H1/\H1 < 18446744073709551616/\0<=L1/\L1 < 18446744073709551616/\H1*18446744073709551616+L1=V1)(h2:0<=H2/\H2 < 18446744073709551616/\0<=L2/\L2 < 18446744073709551616/\H2*18446744073709551616+L2=V2)(h:V1+V2 < 340282366920938463463374607431768211456):
  ∃S c T d,(L1+L2+0)%18446744073709551616=S/\(L1+L2+0) /18446744073709551616=c/\(H1+H2+c)%18446744073709551616=T/\(H1+H2+c) /18446744073709551616=d/\0<=c/\c<=1/\0<=S/\S < 18446744073709551616/\0<=T/\T < 18446744073709551616/\T*18446744073709551616+S=V1+V2:=by
 refine⟨_,_,_,_,rfl,rfl,rfl,rfl,?_⟩
 omega
theorem jj{H1 L1 H2 L2 V1 V2:Int}(h1:0<=H1/\H1 < 18446744073709551616/\0<=L1/\L1 < 18446744073709551616/\H1*18446744073709551616+L1=V1)(h2:0<=H2/\H2 < 18446744073709551616/\0<=L2/\L2 < 18446744073709551616/\H2*18446744073709551616+L2=V2)(h:0<=V1-V2):
  ∃S c T d,(L1-L2-0)%18446744073709551616=S/\(if L1 < L2+0 then (1:Int)else 0)=c/\(H1-H2-c)%18446744073709551616=T/\(if H1 < H2+c then (1:Int)else 0)=d/\0<=c/\c<=1/\0<=S/\S < 18446744073709551616/\0<=T/\T < 18446744073709551616/\T*18446744073709551616+S=V1-V2:=by
 by_cases q:L1 < L2+0
 ·exact⟨_,1,_,_,rfl,if_pos q,rfl,rfl,by omega,by omega,by omega,by omega,by omega,by omega,by omega⟩
 ·exact⟨_,0,_,_,rfl,if_neg q,rfl,rfl,by omega,by omega,by omega,by omega,by omega,by omega,by omega⟩
theorem Hx{w:World}{s1 s2:Bool}{M1 M2 E1 E2 x y:Int}(hT:Tb w)(q1:Fq 1 s1 M1 E1 x)(q2:Fq 1 s2 M2 E2 y)(h:E1 < E2):Calls prog 178 #[VQ 1 s1 M1 E1,VQ 1 s2 M2 E2] w (Is w fun up=>av up x y):=by
 delta VQ
 obtain⟨a1,a2,a3,a4,_⟩:=eH q1;obtain⟨b1,b2,b3,b4,_⟩:=eH q2;have HO:=ie (h);obtain⟨n,hn⟩:∃n:Nat,(n:Int)=E2-E1+1:=⟨(E2-E1+1).toNat,by omega⟩
 have bA:∀(S:Int) up,S=M2*9223372036854775808+aj (s2 !=s1) (gh M1 n)->0<=S/\S < 340282366920938463463374607431768211456/\ed up (mk (aj s2 S) (E2+1-64)).1 (mk (aj s2 S) (E2+1-64)).2=av up x y:=fun S up hS=>by
  obtain⟨u1,u2,u3⟩:=km up q2 q1 (by omega) hn hS;refine⟨u1,u2,?_⟩
  rw[show E2+1-64=E2-63 by omega,u3]
  exact dE up
 have O:=ie bA;obtain⟨N,hN⟩:∃N,(n:Int)=N:=⟨_,rfl⟩;obtain⟨D,hD⟩:∃D,E2-E1=D:=⟨_,rfl⟩
 have n1:1<=n:=by omega
 have n3:n<=4000000:=by omega
 have HN:=ie hN
 have HD:=ie (show IntKind.i64.wrap (E2-E1)=D by rw[hD];exact IntWalk.i64_in _ (by omega))
 have bC:=ie (show IntKind.i64.wrap (D+1)=N by rw[show D+1=N by omega];exact IntWalk.i64_in _ (by omega))
 obtain⟨Y,hY⟩:∃Y,E1+N=Y:=⟨_,rfl⟩;have HY:=ie hY;obtain⟨Z,hZ⟩:∃Z,E2+1=Z:=⟨_,rfl⟩;have HZ:=ie hZ
 have z1: -2900000<=Z:=by omega
 have z2:Z<=2900000:=by omega
 have v1:gh M2 1=M2*9223372036854775808:=by
  unfold gh
  rw[if_pos (by decide)]
  rfl
 have bD:=ie v1
 have g1:9223372036854775808<=M2:=by omega
 have g2:M2 < 18446744073709551616:=by omega
 have g3: -2000000<=E2:=by omega
 have g4:E2<=2000000:=by omega
 have k1:9223372036854775808<=M1:=by omega
 have k2:M1 < 18446744073709551616:=by omega
 have k3: -2000000<=E1:=by omega
 have k4:E1<=2000000:=by omega
 clear hn hN hD hY hZ v1 bA h q1 q2 a1 a2 a3 a4 b1 b2 b3 b4
 go_enter func178,ntmps178
 go_upto_region 1 with (fail)
 generalize X:((w.alloc _).alloc _).alloc _=w1 at *;obtain⟨X2,X3,e,g⟩:=Bo.en3 X;replace hT:=hT.below g.out;clear X;have hB:=X2.cell;have hC:=X3.cell
 go_wp2_with fail
 refine(Bt HO.out).mono ?_;rintro ee w2 ⟨rfl,B⟩;clear hB hC;replace e:=e.b B;replace hT:=hT.b B;replace g:=aa g B;clear B
 go_upto_region 2 with (fail)
 clear X2 X3
 have bB:(World.alloc w2 (.cells #[.int .i64 1,.bool s2,.int .u64 M2,.int .i64 E2] 24)).heap.size=w2.heap.size+1:=by simp
 have bN:=e.lt;have BX:=af w2 (.cells #[.int .i64 1,.bool s2,.int .u64 M2,.int .i64 E2] 24);replace e:=e.b BX;replace hT:=hT.b BX;replace g:=ie (bt g.out BX);have l:=Bo.new w2 #[.int .i64 1,.bool s2,.int .u64 M2,.int .i64 E2] 24
 generalize m:World.alloc w2 (.cells #[.int .i64 1,.bool s2,.int .u64 M2,.int .i64 E2] 24)=w3 at *;clear m;have I:=e.lt;have H:=l.lt;generalize m:w3.alloc _=w4 at *;obtain⟨p,o⟩:=Bo.nw m;clear m;replace e:=e.b o;replace l:=l.b o;replace hT:=hT.b o;replace g:=aa g o;clear o;rw[bB]at p H I;clear bB
 have q:=l.cell
 go_wp2_with fail
 refine(iJ (n:=1) (s:=s2) hT g1 g2 (by rfl) HZ.out g3 g4 (by decide) (by decide)).mono ?_;rintro ee E ⟨H1,L1,rfl,u,B⟩;clear q;replace e:=e.b B;replace l:=l.b B;replace p:=p.b B;replace hT:=hT.b B;replace g:=aa g B;clear B;rw[bD.out]at u
 go_upto_region 3 with (fail)
 have gB:=e.lt;have fH:=l.lt;have fP:=p.lt;generalize m:E.alloc _=w6 at *;obtain⟨i,o⟩:=Bo.nw m;clear m;replace e:=e.b o;replace l:=l.b o;replace p:=p.b o;replace hT:=hT.b o;replace g:=aa g o;clear o;have q:=l.cell;have z:=p.cell;have hd:=HD.out
 have bH:=bC.out
 go_wp2_with fail
 refine(iJ (s:=s1) hT k1 k2 HN.out HY.out k3 k4 n1 n3).mono ?_;rintro ee w7 ⟨H2,L2,rfl,p2,B⟩;clear q z;replace e:=e.b B;replace l:=l.b B;replace p:=p.b B;replace i:=i.b B;replace g:=aa g B;clear B;clear hd bH
 go_upto_region 5 with (fail)
 have hA:=e.lt;have gO:=l.lt;have gP:=p.lt;have gS:=i.lt;generalize m:w7.alloc _=M at *;obtain⟨C,o⟩:=Bo.nw m;clear m;replace e:=e.b o;replace l:=l.b o;replace p:=p.b o;replace i:=i.b o;replace g:=aa g o;clear o
 by_cases hs:s2=s1
 ·subst hs
  have t:(s2 !=s2)=false:=by cases s2 <;> rfl
  have f:=O.out (M2*9223372036854775808+gh M1 n);rw[t,aG]at f;have hb:=(f true rfl).2.1;obtain⟨S,c,T,d,Q,R,U,V,c0,c1,o1,o2,o3,o4,o5⟩:=i5 u p2 hb
  have F:=fun W:World=>iI W u.2.2.1 p2.2.2.1 (by decide) (by decide) Q R
  have G:=fun W:World=>iI W u.1 p2.1 c0 c1 U V
  have P:=ie (And.intro o5 f)
  clear Q R U V u p2 hb f o5;have q:=l.cell;have z:=p.cell;have j:=i.cell;have k:=i.frozen;have r:=C.cell
  go_upto_region 7 with (simp only[F])
  clear q z j k r
  have a:ae M (World.setCell M ⟨E.heap.size,2,none⟩ (.int .u64 S)) _ _ #[.bool s2,.int .u64 H1,.int .u64 S,.int .i64 Z] _:=ae.at4 i 2 (.int .u64 S)
  replace e:=e.s a;replace l:=l.s a;replace p:=p.s a;replace C:=C.s a;replace g:=bn g a (by omega);replace i:=a.box;clear a;generalize World.setCell M ⟨E.heap.size,2,none⟩ (.int .u64 S)=J at *;have j:=i.cell;have k:=i.frozen;have r:=C.cell
  go_upto_region 10 with (simp only[G])
  clear j k r
  have a:ae J (World.setCell J ⟨E.heap.size,1,none⟩ (.int .u64 T)) _ _ #[.bool s2,.int .u64 T,.int .u64 S,.int .i64 Z] _:=ae.at4 i 1 (.int .u64 T)
  replace e:=e.s a;replace l:=l.s a;replace p:=p.s a;replace C:=C.s a;replace g:=bn g a (by omega);replace i:=a.box;clear a;generalize World.setCell J ⟨E.heap.size,1,none⟩ (.int .u64 T)=wA at *;have L:=e.cell;have A:=e.frozen;have j:=i.cell
  go_wp2;clear L A j;have a:=ae.mk4 e (.bool s2) (.int .u64 T) (.int .u64 S) (.int .i64 Z)
  exact bq (v:= .agg #[.bool s2,.int .u64 T,.int .u64 S,.int .i64 Z]) (by simp[results,results178,go_sem,a.box.cell]) rfl ⟨_,_,_,_,rfl,kt o3 o4 o1 o2 P.out.1 z1 z2 fun up=>by rw[<-HZ.out];exact(P.out.2 up (by first | rfl | trivial)).2.2,(a.below g.out (by omega))⟩
 ·have t:(s2 !=s1)=true:=by cases s2 <;> cases s1 <;> first | rfl | exact absurd rfl hs
  have hE:(s2==s1)=false:=by cases s2 <;> cases s1 <;> first | rfl | exact absurd rfl hs
  have f:=O.out (M2*9223372036854775808-gh M1 n);rw[t,aL]at f;have hb:=(f true (by omega)).1;obtain⟨S,c,T,d,Q,R,U,V,c0,c1,o1,o2,o3,o4,o5⟩:=jj u p2 hb
  have F:=fun W:World=>iK W u.2.2.1 u.2.2.2.1 p2.2.2.1 p2.2.2.2.1 (by decide) (by decide) Q R
  have G:=fun W:World=>iK W u.1 u.2.1 p2.1 p2.2.1 c0 c1 U V
  have P:=ie (And.intro o5 f)
  clear Q R U V u p2 hb f o5;have q:=l.cell;have z:=p.cell;have j:=i.cell;have k:=i.frozen;have r:=C.cell
  go_upto_region 9 with (simp only[F])
  clear q z j k r
  have a:ae M (World.setCell M ⟨E.heap.size,2,none⟩ (.int .u64 S)) _ _ #[.bool s2,.int .u64 H1,.int .u64 S,.int .i64 Z] _:=ae.at4 i 2 (.int .u64 S)
  replace e:=e.s a;replace C:=C.s a;replace g:=bn g a (by omega);replace i:=a.box;clear a;generalize World.setCell M ⟨E.heap.size,2,none⟩ (.int .u64 S)=J at *;have j:=i.cell;have k:=i.frozen;have r:=C.cell
  go_upto_region 10 with (simp only[G])
  clear j k r
  have a:ae J (World.setCell J ⟨E.heap.size,1,none⟩ (.int .u64 T)) _ _ #[.bool s2,.int .u64 T,.int .u64 S,.int .i64 Z] _:=ae.at4 i 1 (.int .u64 T)
  replace e:=e.s a;replace g:=bn g a (by omega);replace i:=a.box;clear a;generalize World.setCell J ⟨E.heap.size,1,none⟩ (.int .u64 T)=wA at *;have L:=e.cell;have A:=e.frozen;have j:=i.cell;go_wp2;clear L A j;have a:=ae.mk4 e (.bool s2) (.int .u64 T) (.int .u64 S) (.int .i64 Z)
  exact bq (v:= .agg #[.bool s2,.int .u64 T,.int .u64 S,.int .i64 Z]) (by simp[results,results178,go_sem,a.box.cell]) rfl ⟨_,_,_,_,rfl,kt o3 o4 o1 o2 P.out.1 z1 z2 fun up=>by rw[<-HZ.out];exact(P.out.2 up (by omega)).2.2,(a.below g.out (by omega))⟩
theorem CA{w:World}{s1 s2:Bool}{M1 M2 E1 E2 x y:Int}(hT:Tb w)(q1:Fq 1 s1 M1 E1 x)(q2:Fq 1 s2 M2 E2 y)(h:E1=E2)(hm:M1 < M2):Calls prog 178 #[VQ 1 s1 M1 E1,VQ 1 s2 M2 E2] w (Is w fun up=>av up x y):=by
 delta VQ
 obtain⟨a1,a2,a3,a4,_⟩:=eH q1;obtain⟨b1,b2,b3,b4,_⟩:=eH q2
 have HO:=ie (And.intro h hm)
 obtain⟨n,hn⟩:∃n:Nat,(n:Int)=E2-E1+1:=⟨(E2-E1+1).toNat,by omega⟩
 have bA:∀(S:Int) up,S=M2*9223372036854775808+aj (s2 !=s1) (gh M1 n)->0<=S/\S < 340282366920938463463374607431768211456/\ed up (mk (aj s2 S) (E2+1-64)).1 (mk (aj s2 S) (E2+1-64)).2=av up x y:=fun S up hS=>by
  obtain⟨u1,u2,u3⟩:=km up q2 q1 (by omega) hn hS;refine⟨u1,u2,?_⟩
  rw[show E2+1-64=E2-63 by omega,u3]
  exact dE up
 have O:=ie bA;obtain⟨N,hN⟩:∃N,(n:Int)=N:=⟨_,rfl⟩;obtain⟨D,hD⟩:∃D,E2-E1=D:=⟨_,rfl⟩
 have n1:1<=n:=by omega
 have n3:n<=4000000:=by omega
 have HN:=ie hN
 have HD:=ie (show IntKind.i64.wrap (E2-E1)=D by rw[hD];exact IntWalk.i64_in _ (by omega))
 have bC:=ie (show IntKind.i64.wrap (D+1)=N by rw[show D+1=N by omega];exact IntWalk.i64_in _ (by omega))
 obtain⟨Y,hY⟩:∃Y,E1+N=Y:=⟨_,rfl⟩;have HY:=ie hY;obtain⟨Z,hZ⟩:∃Z,E2+1=Z:=⟨_,rfl⟩;have HZ:=ie hZ
 have z1: -2900000<=Z:=by omega
 have z2:Z<=2900000:=by omega
 have v1:gh M2 1=M2*9223372036854775808:=by
  unfold gh
  rw[if_pos (by decide)]
  rfl
 have bD:=ie v1
 have g1:9223372036854775808<=M2:=by omega
 have g2:M2 < 18446744073709551616:=by omega
 have g3: -2000000<=E2:=by omega
 have g4:E2<=2000000:=by omega
 have k1:9223372036854775808<=M1:=by omega
 have k2:M1 < 18446744073709551616:=by omega
 have k3: -2000000<=E1:=by omega
 have k4:E1<=2000000:=by omega
 clear hn hN hD hY hZ v1 bA h hm q1 q2 a1 a2 a3 a4 b1 b2 b3 b4
 go_enter func178,ntmps178
 go_upto_region 1 with (fail)
 generalize X:((w.alloc _).alloc _).alloc _=w1 at *;obtain⟨X2,X3,e,g⟩:=Bo.en3 X;replace hT:=hT.below g.out;clear X;have hB:=X2.cell;have hC:=X3.cell
 go_wp2_with fail
 refine(sv HO.out.1 (by have:=HO.out.2;omega)).mono ?_;rintro ee w2 ⟨rfl,B⟩;clear hB hC;replace e:=e.b B;replace hT:=hT.b B;replace g:=aa g B;clear B
 go_upto_region 2 with (fail)
 clear X2 X3
 have bB:(World.alloc w2 (.cells #[.int .i64 1,.bool s2,.int .u64 M2,.int .i64 E2] 24)).heap.size=w2.heap.size+1:=by simp
 have bN:=e.lt;have BX:=af w2 (.cells #[.int .i64 1,.bool s2,.int .u64 M2,.int .i64 E2] 24);replace e:=e.b BX;replace hT:=hT.b BX;replace g:=ie (bt g.out BX);have l:=Bo.new w2 #[.int .i64 1,.bool s2,.int .u64 M2,.int .i64 E2] 24
 generalize m:World.alloc w2 (.cells #[.int .i64 1,.bool s2,.int .u64 M2,.int .i64 E2] 24)=w3 at *;clear m;have I:=e.lt;have H:=l.lt;generalize m:w3.alloc _=w4 at *;obtain⟨p,o⟩:=Bo.nw m;clear m;replace e:=e.b o;replace l:=l.b o;replace hT:=hT.b o;replace g:=aa g o;clear o;rw[bB]at p H I;clear bB
 have q:=l.cell
 go_wp2_with fail
 refine(iJ (n:=1) (s:=s2) hT g1 g2 (by rfl) HZ.out g3 g4 (by decide) (by decide)).mono ?_;rintro ee E ⟨H1,L1,rfl,u,B⟩;clear q;replace e:=e.b B;replace l:=l.b B;replace p:=p.b B;replace hT:=hT.b B;replace g:=aa g B;clear B;rw[bD.out]at u
 go_upto_region 3 with (fail)
 have gB:=e.lt;have fH:=l.lt;have fP:=p.lt;generalize m:E.alloc _=w6 at *;obtain⟨i,o⟩:=Bo.nw m;clear m;replace e:=e.b o;replace l:=l.b o;replace p:=p.b o;replace hT:=hT.b o;replace g:=aa g o;clear o;have q:=l.cell;have z:=p.cell;have hd:=HD.out
 have bH:=bC.out
 go_wp2_with fail
 refine(iJ (s:=s1) hT k1 k2 HN.out HY.out k3 k4 n1 n3).mono ?_;rintro ee w7 ⟨H2,L2,rfl,p2,B⟩;clear q z;replace e:=e.b B;replace l:=l.b B;replace p:=p.b B;replace i:=i.b B;replace g:=aa g B;clear B;clear hd bH
 go_upto_region 5 with (fail)
 have hA:=e.lt;have gO:=l.lt;have gP:=p.lt;have gS:=i.lt;generalize m:w7.alloc _=M at *;obtain⟨C,o⟩:=Bo.nw m;clear m;replace e:=e.b o;replace l:=l.b o;replace p:=p.b o;replace i:=i.b o;replace g:=aa g o;clear o
 by_cases hs:s2=s1
 ·subst hs
  have t:(s2 !=s2)=false:=by cases s2 <;> rfl
  have f:=O.out (M2*9223372036854775808+gh M1 n);rw[t,aG]at f;have hb:=(f true rfl).2.1;obtain⟨S,c,T,d,Q,R,U,V,c0,c1,o1,o2,o3,o4,o5⟩:=i5 u p2 hb
  have F:=fun W:World=>iI W u.2.2.1 p2.2.2.1 (by decide) (by decide) Q R
  have G:=fun W:World=>iI W u.1 p2.1 c0 c1 U V
  have P:=ie (And.intro o5 f)
  clear Q R U V u p2 hb f o5;have q:=l.cell;have z:=p.cell;have j:=i.cell;have k:=i.frozen;have r:=C.cell
  go_upto_region 7 with (simp only[F])
  clear q z j k r
  have a:ae M (World.setCell M ⟨E.heap.size,2,none⟩ (.int .u64 S)) _ _ #[.bool s2,.int .u64 H1,.int .u64 S,.int .i64 Z] _:=ae.at4 i 2 (.int .u64 S)
  replace e:=e.s a;replace l:=l.s a;replace p:=p.s a;replace C:=C.s a;replace g:=bn g a (by omega);replace i:=a.box;clear a;generalize World.setCell M ⟨E.heap.size,2,none⟩ (.int .u64 S)=J at *;have j:=i.cell;have k:=i.frozen;have r:=C.cell
  go_upto_region 10 with (simp only[G])
  clear j k r
  have a:ae J (World.setCell J ⟨E.heap.size,1,none⟩ (.int .u64 T)) _ _ #[.bool s2,.int .u64 T,.int .u64 S,.int .i64 Z] _:=ae.at4 i 1 (.int .u64 T)
  replace e:=e.s a;replace l:=l.s a;replace p:=p.s a;replace C:=C.s a;replace g:=bn g a (by omega);replace i:=a.box;clear a;generalize World.setCell J ⟨E.heap.size,1,none⟩ (.int .u64 T)=wA at *;have L:=e.cell;have A:=e.frozen;have j:=i.cell
  go_wp2;clear L A j;have a:=ae.mk4 e (.bool s2) (.int .u64 T) (.int .u64 S) (.int .i64 Z)
  exact bq (v:= .agg #[.bool s2,.int .u64 T,.int .u64 S,.int .i64 Z]) (by simp[results,results178,go_sem,a.box.cell]) rfl ⟨_,_,_,_,rfl,kt o3 o4 o1 o2 P.out.1 z1 z2 fun up=>by rw[<-HZ.out];exact(P.out.2 up (by first | rfl | trivial)).2.2,(a.below g.out (by omega))⟩
 ·have t:(s2 !=s1)=true:=by cases s2 <;> cases s1 <;> first | rfl | exact absurd rfl hs
  have hE:(s2==s1)=false:=by cases s2 <;> cases s1 <;> first | rfl | exact absurd rfl hs
  have f:=O.out (M2*9223372036854775808-gh M1 n);rw[t,aL]at f;have hb:=(f true (by omega)).1;obtain⟨S,c,T,d,Q,R,U,V,c0,c1,o1,o2,o3,o4,o5⟩:=jj u p2 hb
  have F:=fun W:World=>iK W u.2.2.1 u.2.2.2.1 p2.2.2.1 p2.2.2.2.1 (by decide) (by decide) Q R
  have G:=fun W:World=>iK W u.1 u.2.1 p2.1 p2.2.1 c0 c1 U V
  have P:=ie (And.intro o5 f)
  clear Q R U V u p2 hb f o5;have q:=l.cell;have z:=p.cell;have j:=i.cell;have k:=i.frozen;have r:=C.cell
  go_upto_region 9 with (simp only[F])
  clear q z j k r
  have a:ae M (World.setCell M ⟨E.heap.size,2,none⟩ (.int .u64 S)) _ _ #[.bool s2,.int .u64 H1,.int .u64 S,.int .i64 Z] _:=ae.at4 i 2 (.int .u64 S)
  replace e:=e.s a;replace C:=C.s a;replace g:=bn g a (by omega);replace i:=a.box;clear a;generalize World.setCell M ⟨E.heap.size,2,none⟩ (.int .u64 S)=J at *;have j:=i.cell;have k:=i.frozen;have r:=C.cell
  go_upto_region 10 with (simp only[G])
  clear j k r
  have a:ae J (World.setCell J ⟨E.heap.size,1,none⟩ (.int .u64 T)) _ _ #[.bool s2,.int .u64 T,.int .u64 S,.int .i64 Z] _:=ae.at4 i 1 (.int .u64 T)
  replace e:=e.s a;replace g:=bn g a (by omega);replace i:=a.box;clear a;generalize World.setCell J ⟨E.heap.size,1,none⟩ (.int .u64 T)=wA at *;have L:=e.cell;have A:=e.frozen;have j:=i.cell;go_wp2;clear L A j;have a:=ae.mk4 e (.bool s2) (.int .u64 T) (.int .u64 S) (.int .i64 Z)
  exact bq (v:= .agg #[.bool s2,.int .u64 T,.int .u64 S,.int .i64 Z]) (by simp[results,results178,go_sem,a.box.cell]) rfl ⟨_,_,_,_,rfl,kt o3 o4 o1 o2 P.out.1 z1 z2 fun up=>by rw[<-HZ.out];exact(P.out.2 up (by omega)).2.2,(a.below g.out (by omega))⟩
theorem Cz{w:World}{s1 s2:Bool}{M1 M2 E1 E2 x y:Int}(hT:Tb w)(q1:Fq 1 s1 M1 E1 x)(q2:Fq 1 s2 M2 E2 y)(h:E1=E2)(hm:¬M1 < M2):Calls prog 178 #[VQ 1 s1 M1 E1,VQ 1 s2 M2 E2] w (Is w fun up=>av up x y):=by
 delta VQ
 obtain⟨a1,a2,a3,a4,_⟩:=eH q1;obtain⟨b1,b2,b3,b4,_⟩:=eH q2
 have HO:=ie (And.intro h hm)
 obtain⟨n,hn⟩:∃n:Nat,(n:Int)=E1-E2+1:=⟨(E1-E2+1).toNat,by omega⟩
 have bA:∀(S:Int) up,S=M1*9223372036854775808+aj (s1 !=s2) (gh M2 n)->0<=S/\S < 340282366920938463463374607431768211456/\ed up (mk (aj s1 S) (E1+1-64)).1 (mk (aj s1 S) (E1+1-64)).2=av up x y:=fun S up hS=>by
  obtain⟨u1,u2,u3⟩:=km up q1 q2 (by omega) hn hS;refine⟨u1,u2,?_⟩
  rw[show E1+1-64=E1-63 by omega,u3]
 have O:=ie bA;obtain⟨N,hN⟩:∃N,(n:Int)=N:=⟨_,rfl⟩;obtain⟨D,hD⟩:∃D,E1-E2=D:=⟨_,rfl⟩
 have n1:1<=n:=by omega
 have n3:n<=4000000:=by omega
 have HN:=ie hN
 have HD:=ie (show IntKind.i64.wrap (E1-E2)=D by rw[hD];exact IntWalk.i64_in _ (by omega))
 have bC:=ie (show IntKind.i64.wrap (D+1)=N by rw[show D+1=N by omega];exact IntWalk.i64_in _ (by omega))
 obtain⟨Y,hY⟩:∃Y,E2+N=Y:=⟨_,rfl⟩;have HY:=ie hY;obtain⟨Z,hZ⟩:∃Z,E1+1=Z:=⟨_,rfl⟩;have HZ:=ie hZ
 have z1: -2900000<=Z:=by omega
 have z2:Z<=2900000:=by omega
 have v1:gh M1 1=M1*9223372036854775808:=by
  unfold gh
  rw[if_pos (by decide)]
  rfl
 have bD:=ie v1
 have g1:9223372036854775808<=M1:=by omega
 have g2:M1 < 18446744073709551616:=by omega
 have g3: -2000000<=E1:=by omega
 have g4:E1<=2000000:=by omega
 have k1:9223372036854775808<=M2:=by omega
 have k2:M2 < 18446744073709551616:=by omega
 have k3: -2000000<=E2:=by omega
 have k4:E2<=2000000:=by omega
 clear hn hN hD hY hZ v1 bA h hm q1 q2 a1 a2 a3 a4 b1 b2 b3 b4
 go_enter func178,ntmps178
 go_upto_region 1 with (fail)
 generalize X:((w.alloc _).alloc _).alloc _=w1 at *;obtain⟨X2,X3,e,g⟩:=Bo.en3 X;replace hT:=hT.below g.out;clear X;have hB:=X2.cell;have hC:=X3.cell
 go_wp2_with fail
 refine(sn HO.out.1 (by have:=HO.out.2;omega)).mono ?_;rintro ee w2 ⟨rfl,B⟩;clear hB hC;replace e:=e.b B;replace hT:=hT.b B;replace g:=aa g B;clear B
 go_upto_region 2 with (fail)
 clear X2 X3
 have bB:(World.alloc w2 (.cells #[.int .i64 1,.bool s1,.int .u64 M1,.int .i64 E1] 24)).heap.size=w2.heap.size+1:=by simp
 have bN:=e.lt;have BX:=af w2 (.cells #[.int .i64 1,.bool s1,.int .u64 M1,.int .i64 E1] 24);replace e:=e.b BX;replace hT:=hT.b BX;replace g:=ie (bt g.out BX);have l:=Bo.new w2 #[.int .i64 1,.bool s1,.int .u64 M1,.int .i64 E1] 24
 generalize m:World.alloc w2 (.cells #[.int .i64 1,.bool s1,.int .u64 M1,.int .i64 E1] 24)=w3 at *;clear m;have I:=e.lt;have H:=l.lt;generalize m:w3.alloc _=w4 at *;obtain⟨p,o⟩:=Bo.nw m;clear m;replace e:=e.b o;replace l:=l.b o;replace hT:=hT.b o;replace g:=aa g o;clear o;rw[bB]at p H I;clear bB
 have q:=l.cell
 go_wp2_with fail
 refine(iJ (n:=1) (s:=s1) hT g1 g2 (by rfl) HZ.out g3 g4 (by decide) (by decide)).mono ?_;rintro ee E ⟨H1,L1,rfl,u,B⟩;clear q;replace e:=e.b B;replace l:=l.b B;replace p:=p.b B;replace hT:=hT.b B;replace g:=aa g B;clear B;rw[bD.out]at u
 go_upto_region 3 with (fail)
 have gB:=e.lt;have fH:=l.lt;have fP:=p.lt;generalize m:E.alloc _=w6 at *;obtain⟨i,o⟩:=Bo.nw m;clear m;replace e:=e.b o;replace l:=l.b o;replace p:=p.b o;replace hT:=hT.b o;replace g:=aa g o;clear o;have q:=l.cell;have z:=p.cell;have hd:=HD.out
 have bH:=bC.out
 go_wp2_with fail
 refine(iJ (s:=s2) hT k1 k2 HN.out HY.out k3 k4 n1 n3).mono ?_;rintro ee w7 ⟨H2,L2,rfl,p2,B⟩;clear q z;replace e:=e.b B;replace l:=l.b B;replace p:=p.b B;replace i:=i.b B;replace g:=aa g B;clear B;clear hd bH
 go_upto_region 5 with (fail)
 have hA:=e.lt;have gO:=l.lt;have gP:=p.lt;have gS:=i.lt;generalize m:w7.alloc _=M at *;obtain⟨C,o⟩:=Bo.nw m;clear m;replace e:=e.b o;replace l:=l.b o;replace p:=p.b o;replace i:=i.b o;replace g:=aa g o;clear o
 by_cases hs:s1=s2
 ·subst hs
  have t:(s1 !=s1)=false:=by cases s1 <;> rfl
  have f:=O.out (M1*9223372036854775808+gh M2 n);rw[t,aG]at f;have hb:=(f true rfl).2.1;obtain⟨S,c,T,d,Q,R,U,V,c0,c1,o1,o2,o3,o4,o5⟩:=i5 u p2 hb
  have F:=fun W:World=>iI W u.2.2.1 p2.2.2.1 (by decide) (by decide) Q R
  have G:=fun W:World=>iI W u.1 p2.1 c0 c1 U V
  have P:=ie (And.intro o5 f)
  clear Q R U V u p2 hb f o5;have q:=l.cell;have z:=p.cell;have j:=i.cell;have k:=i.frozen;have r:=C.cell
  go_upto_region 7 with (simp only[F])
  clear q z j k r
  have a:ae M (World.setCell M ⟨E.heap.size,2,none⟩ (.int .u64 S)) _ _ #[.bool s1,.int .u64 H1,.int .u64 S,.int .i64 Z] _:=ae.at4 i 2 (.int .u64 S)
  replace e:=e.s a;replace l:=l.s a;replace p:=p.s a;replace C:=C.s a;replace g:=bn g a (by omega);replace i:=a.box;clear a;generalize World.setCell M ⟨E.heap.size,2,none⟩ (.int .u64 S)=J at *;have j:=i.cell;have k:=i.frozen;have r:=C.cell
  go_upto_region 10 with (simp only[G])
  clear j k r
  have a:ae J (World.setCell J ⟨E.heap.size,1,none⟩ (.int .u64 T)) _ _ #[.bool s1,.int .u64 T,.int .u64 S,.int .i64 Z] _:=ae.at4 i 1 (.int .u64 T)
  replace e:=e.s a;replace l:=l.s a;replace p:=p.s a;replace C:=C.s a;replace g:=bn g a (by omega);replace i:=a.box;clear a;generalize World.setCell J ⟨E.heap.size,1,none⟩ (.int .u64 T)=wA at *;have L:=e.cell;have A:=e.frozen;have j:=i.cell
  go_wp2;clear L A j;have a:=ae.mk4 e (.bool s1) (.int .u64 T) (.int .u64 S) (.int .i64 Z)
  exact bq (v:= .agg #[.bool s1,.int .u64 T,.int .u64 S,.int .i64 Z]) (by simp[results,results178,go_sem,a.box.cell]) rfl ⟨_,_,_,_,rfl,kt o3 o4 o1 o2 P.out.1 z1 z2 fun up=>by rw[<-HZ.out];exact(P.out.2 up (by first | rfl | trivial)).2.2,(a.below g.out (by omega))⟩
 ·have t:(s1 !=s2)=true:=by cases s1 <;> cases s2 <;> first | rfl | exact absurd rfl hs
  have hE:(s1==s2)=false:=by cases s1 <;> cases s2 <;> first | rfl | exact absurd rfl hs
  have f:=O.out (M1*9223372036854775808-gh M2 n);rw[t,aL]at f;have hb:=(f true (by omega)).1;obtain⟨S,c,T,d,Q,R,U,V,c0,c1,o1,o2,o3,o4,o5⟩:=jj u p2 hb
  have F:=fun W:World=>iK W u.2.2.1 u.2.2.2.1 p2.2.2.1 p2.2.2.2.1 (by decide) (by decide) Q R
  have G:=fun W:World=>iK W u.1 u.2.1 p2.1 p2.2.1 c0 c1 U V
  have P:=ie (And.intro o5 f)
  clear Q R U V u p2 hb f o5;have q:=l.cell;have z:=p.cell;have j:=i.cell;have k:=i.frozen;have r:=C.cell
  go_upto_region 9 with (simp only[F])
  clear q z j k r
  have a:ae M (World.setCell M ⟨E.heap.size,2,none⟩ (.int .u64 S)) _ _ #[.bool s1,.int .u64 H1,.int .u64 S,.int .i64 Z] _:=ae.at4 i 2 (.int .u64 S)
  replace e:=e.s a;replace C:=C.s a;replace g:=bn g a (by omega);replace i:=a.box;clear a;generalize World.setCell M ⟨E.heap.size,2,none⟩ (.int .u64 S)=J at *;have j:=i.cell;have k:=i.frozen;have r:=C.cell
  go_upto_region 10 with (simp only[G])
  clear j k r
  have a:ae J (World.setCell J ⟨E.heap.size,1,none⟩ (.int .u64 T)) _ _ #[.bool s1,.int .u64 T,.int .u64 S,.int .i64 Z] _:=ae.at4 i 1 (.int .u64 T)
  replace e:=e.s a;replace g:=bn g a (by omega);replace i:=a.box;clear a;generalize World.setCell J ⟨E.heap.size,1,none⟩ (.int .u64 T)=wA at *;have L:=e.cell;have A:=e.frozen;have j:=i.cell;go_wp2;clear L A j;have a:=ae.mk4 e (.bool s1) (.int .u64 T) (.int .u64 S) (.int .i64 Z)
  exact bq (v:= .agg #[.bool s1,.int .u64 T,.int .u64 S,.int .i64 Z]) (by simp[results,results178,go_sem,a.box.cell]) rfl ⟨_,_,_,_,rfl,kt o3 o4 o1 o2 P.out.1 z1 z2 fun up=>by rw[<-HZ.out];exact(P.out.2 up (by omega)).2.2,(a.below g.out (by omega))⟩
theorem Hw{w:World}{s1 s2:Bool}{M1 M2 E1 E2 x y:Int}(hT:Tb w)(q1:Fq 1 s1 M1 E1 x)(q2:Fq 1 s2 M2 E2 y)(h:E2 < E1):Calls prog 178 #[VQ 1 s1 M1 E1,VQ 1 s2 M2 E2] w (Is w fun up=>av up x y):=by
 delta VQ
 obtain⟨a1,a2,a3,a4,_⟩:=eH q1;obtain⟨b1,b2,b3,b4,_⟩:=eH q2;have HO:=ie (h);obtain⟨n,hn⟩:∃n:Nat,(n:Int)=E1-E2+1:=⟨(E1-E2+1).toNat,by omega⟩
 have bA:∀(S:Int) up,S=M1*9223372036854775808+aj (s1 !=s2) (gh M2 n)->0<=S/\S < 340282366920938463463374607431768211456/\ed up (mk (aj s1 S) (E1+1-64)).1 (mk (aj s1 S) (E1+1-64)).2=av up x y:=fun S up hS=>by
  obtain⟨u1,u2,u3⟩:=km up q1 q2 (by omega) hn hS;refine⟨u1,u2,?_⟩
  rw[show E1+1-64=E1-63 by omega,u3]
 have O:=ie bA;obtain⟨N,hN⟩:∃N,(n:Int)=N:=⟨_,rfl⟩;obtain⟨D,hD⟩:∃D,E1-E2=D:=⟨_,rfl⟩
 have n1:1<=n:=by omega
 have n3:n<=4000000:=by omega
 have HN:=ie hN
 have HD:=ie (show IntKind.i64.wrap (E1-E2)=D by rw[hD];exact IntWalk.i64_in _ (by omega))
 have bC:=ie (show IntKind.i64.wrap (D+1)=N by rw[show D+1=N by omega];exact IntWalk.i64_in _ (by omega))
 obtain⟨Y,hY⟩:∃Y,E2+N=Y:=⟨_,rfl⟩;have HY:=ie hY;obtain⟨Z,hZ⟩:∃Z,E1+1=Z:=⟨_,rfl⟩;have HZ:=ie hZ
 have z1: -2900000<=Z:=by omega
 have z2:Z<=2900000:=by omega
 have v1:gh M1 1=M1*9223372036854775808:=by
  unfold gh
  rw[if_pos (by decide)]
  rfl
 have bD:=ie v1
 have g1:9223372036854775808<=M1:=by omega
 have g2:M1 < 18446744073709551616:=by omega
 have g3: -2000000<=E1:=by omega
 have g4:E1<=2000000:=by omega
 have k1:9223372036854775808<=M2:=by omega
 have k2:M2 < 18446744073709551616:=by omega
 have k3: -2000000<=E2:=by omega
 have k4:E2<=2000000:=by omega
 clear hn hN hD hY hZ v1 bA h q1 q2 a1 a2 a3 a4 b1 b2 b3 b4
 go_enter func178,ntmps178
 go_upto_region 1 with (fail)
 generalize X:((w.alloc _).alloc _).alloc _=w1 at *;obtain⟨X2,X3,e,g⟩:=Bo.en3 X;replace hT:=hT.below g.out;clear X;have hB:=X2.cell;have hC:=X3.cell
 go_wp2_with fail
 refine(Bs HO.out).mono ?_;rintro ee w2 ⟨rfl,B⟩;clear hB hC;replace e:=e.b B;replace hT:=hT.b B;replace g:=aa g B;clear B
 go_upto_region 2 with (fail)
 clear X2 X3
 have bB:(World.alloc w2 (.cells #[.int .i64 1,.bool s1,.int .u64 M1,.int .i64 E1] 24)).heap.size=w2.heap.size+1:=by simp
 have bN:=e.lt;have BX:=af w2 (.cells #[.int .i64 1,.bool s1,.int .u64 M1,.int .i64 E1] 24);replace e:=e.b BX;replace hT:=hT.b BX;replace g:=ie (bt g.out BX);have l:=Bo.new w2 #[.int .i64 1,.bool s1,.int .u64 M1,.int .i64 E1] 24
 generalize m:World.alloc w2 (.cells #[.int .i64 1,.bool s1,.int .u64 M1,.int .i64 E1] 24)=w3 at *;clear m;have I:=e.lt;have H:=l.lt;generalize m:w3.alloc _=w4 at *;obtain⟨p,o⟩:=Bo.nw m;clear m;replace e:=e.b o;replace l:=l.b o;replace hT:=hT.b o;replace g:=aa g o;clear o;rw[bB]at p H I;clear bB
 have q:=l.cell
 go_wp2_with fail
 refine(iJ (n:=1) (s:=s1) hT g1 g2 (by rfl) HZ.out g3 g4 (by decide) (by decide)).mono ?_;rintro ee E ⟨H1,L1,rfl,u,B⟩;clear q;replace e:=e.b B;replace l:=l.b B;replace p:=p.b B;replace hT:=hT.b B;replace g:=aa g B;clear B;rw[bD.out]at u
 go_upto_region 3 with (fail)
 have gB:=e.lt;have fH:=l.lt;have fP:=p.lt;generalize m:E.alloc _=w6 at *;obtain⟨i,o⟩:=Bo.nw m;clear m;replace e:=e.b o;replace l:=l.b o;replace p:=p.b o;replace hT:=hT.b o;replace g:=aa g o;clear o;have q:=l.cell;have z:=p.cell;have hd:=HD.out
 have bH:=bC.out
 go_wp2_with fail
 refine(iJ (s:=s2) hT k1 k2 HN.out HY.out k3 k4 n1 n3).mono ?_;rintro ee w7 ⟨H2,L2,rfl,p2,B⟩;clear q z;replace e:=e.b B;replace l:=l.b B;replace p:=p.b B;replace i:=i.b B;replace g:=aa g B;clear B;clear hd bH
 go_upto_region 5 with (fail)
 have hA:=e.lt;have gO:=l.lt;have gP:=p.lt;have gS:=i.lt;generalize m:w7.alloc _=M at *;obtain⟨C,o⟩:=Bo.nw m;clear m;replace e:=e.b o;replace l:=l.b o;replace p:=p.b o;replace i:=i.b o;replace g:=aa g o;clear o
 by_cases hs:s1=s2
 ·subst hs
  have t:(s1 !=s1)=false:=by cases s1 <;> rfl
  have f:=O.out (M1*9223372036854775808+gh M2 n);rw[t,aG]at f;have hb:=(f true rfl).2.1;obtain⟨S,c,T,d,Q,R,U,V,c0,c1,o1,o2,o3,o4,o5⟩:=i5 u p2 hb
  have F:=fun W:World=>iI W u.2.2.1 p2.2.2.1 (by decide) (by decide) Q R
  have G:=fun W:World=>iI W u.1 p2.1 c0 c1 U V
  have P:=ie (And.intro o5 f)
  clear Q R U V u p2 hb f o5;have q:=l.cell;have z:=p.cell;have j:=i.cell;have k:=i.frozen;have r:=C.cell
  go_upto_region 7 with (simp only[F])
  clear q z j k r
  have a:ae M (World.setCell M ⟨E.heap.size,2,none⟩ (.int .u64 S)) _ _ #[.bool s1,.int .u64 H1,.int .u64 S,.int .i64 Z] _:=ae.at4 i 2 (.int .u64 S)
  replace e:=e.s a;replace l:=l.s a;replace p:=p.s a;replace C:=C.s a;replace g:=bn g a (by omega);replace i:=a.box;clear a;generalize World.setCell M ⟨E.heap.size,2,none⟩ (.int .u64 S)=J at *;have j:=i.cell;have k:=i.frozen;have r:=C.cell
  go_upto_region 10 with (simp only[G])
  clear j k r
  have a:ae J (World.setCell J ⟨E.heap.size,1,none⟩ (.int .u64 T)) _ _ #[.bool s1,.int .u64 T,.int .u64 S,.int .i64 Z] _:=ae.at4 i 1 (.int .u64 T)
  replace e:=e.s a;replace l:=l.s a;replace p:=p.s a;replace C:=C.s a;replace g:=bn g a (by omega);replace i:=a.box;clear a;generalize World.setCell J ⟨E.heap.size,1,none⟩ (.int .u64 T)=wA at *;have L:=e.cell;have A:=e.frozen;have j:=i.cell
  go_wp2;clear L A j;have a:=ae.mk4 e (.bool s1) (.int .u64 T) (.int .u64 S) (.int .i64 Z)
  exact bq (v:= .agg #[.bool s1,.int .u64 T,.int .u64 S,.int .i64 Z]) (by simp[results,results178,go_sem,a.box.cell]) rfl ⟨_,_,_,_,rfl,kt o3 o4 o1 o2 P.out.1 z1 z2 fun up=>by rw[<-HZ.out];exact(P.out.2 up (by first | rfl | trivial)).2.2,(a.below g.out (by omega))⟩
 ·have t:(s1 !=s2)=true:=by cases s1 <;> cases s2 <;> first | rfl | exact absurd rfl hs
  have hE:(s1==s2)=false:=by cases s1 <;> cases s2 <;> first | rfl | exact absurd rfl hs
  have f:=O.out (M1*9223372036854775808-gh M2 n);rw[t,aL]at f;have hb:=(f true (by omega)).1;obtain⟨S,c,T,d,Q,R,U,V,c0,c1,o1,o2,o3,o4,o5⟩:=jj u p2 hb
  have F:=fun W:World=>iK W u.2.2.1 u.2.2.2.1 p2.2.2.1 p2.2.2.2.1 (by decide) (by decide) Q R
  have G:=fun W:World=>iK W u.1 u.2.1 p2.1 p2.2.1 c0 c1 U V
  have P:=ie (And.intro o5 f)
  clear Q R U V u p2 hb f o5;have q:=l.cell;have z:=p.cell;have j:=i.cell;have k:=i.frozen;have r:=C.cell
  go_upto_region 9 with (simp only[F])
  clear q z j k r
  have a:ae M (World.setCell M ⟨E.heap.size,2,none⟩ (.int .u64 S)) _ _ #[.bool s1,.int .u64 H1,.int .u64 S,.int .i64 Z] _:=ae.at4 i 2 (.int .u64 S)
  replace e:=e.s a;replace C:=C.s a;replace g:=bn g a (by omega);replace i:=a.box;clear a;generalize World.setCell M ⟨E.heap.size,2,none⟩ (.int .u64 S)=J at *;have j:=i.cell;have k:=i.frozen;have r:=C.cell
  go_upto_region 10 with (simp only[G])
  clear j k r
  have a:ae J (World.setCell J ⟨E.heap.size,1,none⟩ (.int .u64 T)) _ _ #[.bool s1,.int .u64 T,.int .u64 S,.int .i64 Z] _:=ae.at4 i 1 (.int .u64 T)
  replace e:=e.s a;replace g:=bn g a (by omega);replace i:=a.box;clear a;generalize World.setCell J ⟨E.heap.size,1,none⟩ (.int .u64 T)=wA at *;have L:=e.cell;have A:=e.frozen;have j:=i.cell;go_wp2;clear L A j;have a:=ae.mk4 e (.bool s1) (.int .u64 T) (.int .u64 S) (.int .i64 Z)
  exact bq (v:= .agg #[.bool s1,.int .u64 T,.int .u64 S,.int .i64 Z]) (by simp[results,results178,go_sem,a.box.cell]) rfl ⟨_,_,_,_,rfl,kt o3 o4 o1 o2 P.out.1 z1 z2 fun up=>by rw[<-HZ.out];exact(P.out.2 up (by omega)).2.2,(a.below g.out (by omega))⟩
theorem II{w:World}{s1 s2:Bool}{M1 M2 E1 E2 x y:Int}(hT:Tb w)(q1:Fq 1 s1 M1 E1 x)(q2:Fq 1 s2 M2 E2 y):Calls prog 178 #[VQ 1 s1 M1 E1,VQ 1 s2 M2 E2] w (Is w fun up=>av up x y):=by
 delta VQ
 rcases Int.lt_trichotomy E1 E2 with h | h | h
 ·exact Hx hT q1 q2 h
 ·by_cases hm:M1 < M2
  ·exact CA hT q1 q2 h hm
  ·exact Cz hT q1 q2 h hm
 ·exact Hw hT q1 q2 h
theorem yu{w:World}{s1 s2:Bool}{M1 M2 E1 E2 x y:Int}(q1:Fq 1 s1 M1 E1 x)(q2:Fq 1 s2 M2 E2 y):Calls prog 183 #[VQ 1 s1 M1 E1,VQ 1 s2 M2 E2] w (Is w fun up=>eC up x y):=by
 delta VQ
 obtain⟨a1,a2,a3,D,_⟩:=eH q1;obtain⟨E,F,I,J,_⟩:=eH q2;obtain⟨p,q,_⟩:=qH true q1 q2
 have A:=ie (fun up=>(qH up q1 q2).2.2)
 obtain⟨G,n⟩:∃G,E1+E2=G:=⟨_,rfl⟩;obtain⟨Z,o⟩:∃Z,G+64=Z:=⟨_,rfl⟩
 have t:=ie (show IntKind.i64.wrap (E1+E2)=G by rw[n];exact IntWalk.i64_in _ (by omega))
 have C:=ie (show IntKind.i64.wrap (G+64)=Z by rw[o];exact IntWalk.i64_in _ (by omega))
 have m:=ie (And.intro n o)
 obtain⟨H,j⟩:∃H,M1*M2/18446744073709551616=H:=⟨_,rfl⟩;obtain⟨L,k⟩:∃L,M1*M2%18446744073709551616=L:=⟨_,rfl⟩
 have O: -2900000<=Z:=by omega
 have Q:Z<=2900000:=by omega
 have d:Hid (0<=H/\H < 18446744073709551616/\0<=L/\L < 18446744073709551616/\H*18446744073709551616+L=M1*M2):=ie (by
  revert p q j k
  generalize M1*M2=P
  intro p q j k
  omega)
 have u:=ie j;have z:=ie k
 have M:0<=M1:=by omega
 have N:0<=M2:=by omega
 clear p q j k n o q1 q2 a1 a3 D E I J
 go_enter func183,ntmps183
 go_upto_region 1 with (fail)
 generalize f:((w.alloc _).alloc _).alloc _=w1 at *;obtain⟨h,i,e,l⟩:=Bo.en3 f;clear f;have a:=h.cell;have c:=i.cell
 go_wp2_with fail
 refine(Ga _ M a2 N F u.out z.out).mono ?_;rintro R S ⟨rfl,B⟩;clear a c;replace h:=h.b B;replace i:=i.b B;replace e:=e.b B;replace l:=aa l B;clear B;have hg:=t.out;have hz:=C.out;have r:=e.cell;have g:=e.frozen;have a:=h.cell;have c:=i.cell
 go_wp2;clear r g a c;have s:=ae.mk4 e (.bool (!(s1==s2))) (.int .u64 H) (.int .u64 L) (.int .i64 Z)
 exact bq (v:= .agg #[.bool (!(s1==s2)),.int .u64 H,.int .u64 L,.int .i64 Z]) (by simp[results,results183,go_sem,s.box.cell]) rfl ⟨_,_,_,_,rfl,kt d.out.1 d.out.2.1 d.out.2.2.1 d.out.2.2.2.1 d.out.2.2.2.2 O Q fun up=>by rw[<-A.out up,show (!(s1==s2))=(s1 !=s2)from rfl,show Z-64=E1+E2 by have:=m.out;omega],(s.below l.out (by omega))⟩
theorem tN{D:Int}{s:Bool}{M E:Int}(hM:LQ M):∃K1 s1 M1 E1,Fq K1 s1 M1 E1 (rk D s M E):=by
 by_cases hm:aC D s M E
 ·exact⟨_,_,_,_,eU hM hm⟩
 ·rw[fs hm];exact⟨_,_,_,_,Fq.nought⟩
theorem oo{w:World}{D M E:Int}{s:Bool}{K1 M1 E1 x:Int}{s1:Bool}(hM:LQ M)(q:Fq K1 s1 M1 E1 x)(hx:rk D s M E=x):Calls prog 177 #[VQ D s M E] w (fun e w'=>e= .returned (.agg #[.int .i64 K1,.bool s1,.int .u64 M1,.int .i64 E1])/\Below w.heap.size w w'):=by
 delta VQ
 by_cases hm:aC D s M E
 ·obtain⟨rfl,rfl,rfl,rfl⟩:=q.uniq (hx▸eU hM hm)
  have k:=ie (show decide (aC K1 s1 M1 E1)=true from dt hm)
  clear hm hx hM q
  go_enter func177,ntmps177
  go_upto_region 1 with (fail)
  generalize d:(w.alloc _).alloc _=w1 at *;obtain⟨g,c,h⟩:=Bo.en2 d;clear d;have a:=g.cell
  go_wp2_with fail
  refine(kI k.out).mono ?_;rintro l m ⟨rfl,B⟩;clear a;replace g:=g.b B;replace c:=c.b B;replace h:=aa h B;clear B;have i:=c.cell;have f:=c.frozen;have a:=g.cell;go_wp2;clear i f a;have j:=ae.t4 c K1 s1 M1 E1
  exact bq (v:= .agg #[.int .i64 K1,.bool s1,.int .u64 M1,.int .i64 E1]) (by simp[results,results177,go_sem,j.box.cell]) rfl ⟨rfl,(j.below h.out (by omega))⟩
 ·rw[fs hm]at hx;subst hx;obtain⟨rfl,rfl,rfl,rfl⟩:=q.uniq Fq.nought
  have k:=ie (show decide (aC D s M E)=false from df hm)
  clear hm hM q
  go_enter func177,ntmps177
  go_upto_region 1 with (fail)
  generalize d:(w.alloc _).alloc _=w1 at *;obtain⟨g,c,h⟩:=Bo.en2 d;clear d;have a:=g.cell
  go_wp2_with fail
  refine(kI k.out).mono ?_;rintro l m ⟨rfl,B⟩;clear a;replace g:=g.b B;replace c:=c.b B;replace h:=aa h B;clear B;have i:=c.cell;have f:=c.frozen;have a:=g.cell;go_wp2;clear i f a;have j:=ae.t4 c 0 false 0 0
  exact bq (v:= .agg #[.int .i64 0,.bool false,.int .u64 0,.int .i64 0]) (by simp[results,results177,go_sem,j.box.cell]) rfl ⟨rfl,(j.below h.out (by omega))⟩
theorem IF{w:World}{D D' M M' E E':Int}{s s':Bool}{up:Bool}{x y r:Int}(hT:Tb w)(hM:LQ M)(hM':LQ M')(hx:rk D s M E=x)(hy:rk D' s' M' E'=y)(hr:av up x y=r):Calls prog 106 #[VQ D s M E,VQ D' s' M' E',.bool up] w (PN w r):=by
 delta VQ
 obtain⟨O,s1,G,F,m⟩:=tN (D:=D) (s:=s) (M:=M) (E:=E) hM;obtain⟨K2,s2,M2,E2,n⟩:=tN (D:=D') (s:=s') (M:=M') (E:=E') hM';rw[hx]at m;rw[hy]at n;have R:=ie hx;have S:=ie hy;clear hx hy
 go_enter func106,ntmps106
 go_upto_region 1 with (fail)
 generalize I:((w.alloc _).alloc _).alloc _=w1 at *;obtain⟨k,l,g,j⟩:=Bo.en3 I;replace hT:=hT.below j.out;clear I;refine jk [0,1,2,3] [some 7,some 8,some 9,some 10,none,none] [[],[0],[],[2],[],[]] 6 2 [Jo.q4 D s M E,Jo.q4 O s1 G F,Jo.q4 D' s' M' E',Jo.q4 K2 s2 M2 E2,Jo.Fact.any,Jo.Fact.any] ?_ ?_
 ·refine jm ?_ ?_;rotate_left
  refine jm ?_ ?_
  ·rintro T v _ rfl K p;simp only[Jo.z]at p|-;go_simp;refine(oo hM m R.out).mono ?_;rintro P wk ⟨rfl,B⟩;exact p.out _ _ rfl B
  refine jm ?_ ?_;rotate_left
  refine jm ?_ ?_
  ·rintro T v _ rfl K p;simp only[Jo.z]at p|-;go_simp;refine(oo hM' n S.out).mono ?_;rintro P wk ⟨rfl,B⟩;exact p.out _ _ rfl B
  exact jo
  all_goals (rintro T v;(repeat rintro _ rfl);intro K p;simp only[Jo.z]at p|-;have c:=(k.b v).cell;have d:=(l.b v).cell;go_simp;exact p.out _ _ rfl (br _ _))
 rintro w2 v _ rfl _ rfl _ rfl _ rfl -;simp only[Jo.z];replace k:=k.b v;replace l:=l.b v;replace g:=g.b v;replace hT:=hT.b v;replace j:=aa j v;have c:=k.cell;have L:=k.frozen
 refine jn 4 fun K p=>?_
 go_simp;refine p.out _ _ ?_;clear p K c L;generalize H:(((w2.setCell _ _).setCell _ _).setCell _ _).setCell _ _=w3 at *;have f:=ae.of4 k H;replace l:=l.s f;replace g:=g.s f;replace hT:=hT.s f;replace j:=bn j f (by omega);replace k:=f.box;clear f H;have d:=l.cell
 have N:=l.frozen
 refine jn 5 fun K p=>?_
 go_simp;refine p.out _ _ ?_;clear p K d N;generalize H:(((w3.setCell _ _).setCell _ _).setCell _ _).setCell _ _=w4 at *;have f:=ae.of4 l H;replace k:=k.s f;replace g:=g.s f;replace hT:=hT.s f;replace j:=bn j f (by omega);replace l:=f.box;clear f H;refine jd ?_
 clear R S hM hM';have i1:=gv m;have i2:=gv n;have u:=m.zero_iff;have t:=n.zero_iff;have o:=m.bd;have q:=n.bd
 have Q:O=2\/O=0\/O=1:=by rcases m.cases with⟨h,_⟩ | ⟨h,_⟩ | ⟨h,_⟩ <;> omega
 have C:K2=2\/K2=0\/K2=1:=by rcases n.cases with⟨h,_⟩ | ⟨h,_⟩ | ⟨h,_⟩ <;> omega
 rcases Q with rfl | rfl | rfl
 ·rcases C with rfl | rfl | rfl
  ·by_cases J:s1=s2
   ·rw[dR up i1 ((lu m n).2 J)]at hr;subst hr;subst J;clear i1 i2 u t o q n;have i:=g.cell;have a:=g.frozen;have c:=k.cell;have d:=l.cell;go_wp2;clear i a c d;have f:=ae.t4 g 2 s1 G F
    exact bq (by simp[results,results106,go_sem,f.box.cell]) rfl ⟨_,_,_,_,rfl,m,(f.below j.out (by omega))⟩
   ·rw[dF up i1 i2 (fun e=>J ((lu m n).1 e))]at hr
    obtain rfl:(!s1)=s2:=by cases s1 <;> cases s2 <;> first | rfl | exact absurd rfl J
    have e2:(s1==!s1)=false:=by cases s1 <;> rfl
    have A:=ie hr;clear i1 i2 u t o q m n hr J;have c:=k.cell;have d:=l.cell
    go_wp2_with fail
    refine(iQ (s:=!up) A.out).mono ?_;rintro P w5 ⟨U,s3,W,E3,rfl,Z,B⟩;clear c d;replace k:=k.b B;replace l:=l.b B;replace g:=g.b B;replace j:=aa j B;clear B;have i:=g.cell;have a:=g.frozen;go_wp2;clear i a;have f:=ae.t4 g U s3 W E3
    exact bq (by simp[results,results106,go_sem,f.box.cell]) rfl ⟨_,_,_,_,rfl,Z,(f.below j.out (by omega))⟩
  ·rw[dM up i1 i2]at hr;subst hr;clear i1 i2 u t o q n;have i:=g.cell;have a:=g.frozen;have c:=k.cell;have d:=l.cell;go_wp2;clear i a c d;have f:=ae.t4 g 2 s1 G F;exact bq (by simp[results,results106,go_sem,f.box.cell]) rfl ⟨_,_,_,_,rfl,m,(f.below j.out (by omega))⟩
  ·rw[dM up i1 i2]at hr;subst hr;clear i1 i2 u t o q n;have i:=g.cell;have a:=g.frozen;have c:=k.cell;have d:=l.cell;go_wp2;clear i a c d;have f:=ae.t4 g 2 s1 G F;exact bq (by simp[results,results106,go_sem,f.box.cell]) rfl ⟨_,_,_,_,rfl,m,(f.below j.out (by omega))⟩
 ·rcases C with rfl | rfl | rfl
  ·rw[ec up i1 i2]at hr;subst hr;clear i1 i2 u t o q m;have i:=g.cell;have a:=g.frozen;have c:=k.cell;have d:=l.cell;go_wp2;clear i a c d;have f:=ae.t4 g 2 s2 M2 E2;exact bq (by simp[results,results106,go_sem,f.box.cell]) rfl ⟨_,_,_,_,rfl,n,(f.below j.out (by omega))⟩
  ·rw[t.1 rfl,fG up o.1 o.2]at hr;subst hr;clear i1 i2 u t o q n;have i:=g.cell;have a:=g.frozen;have c:=k.cell;have d:=l.cell;go_wp2;clear i a c d;have f:=ae.t4 g 0 s1 G F;exact bq (by simp[results,results106,go_sem,f.box.cell]) rfl ⟨_,_,_,_,rfl,m,(f.below j.out (by omega))⟩
  ·rw[u.1 rfl,dE,fG up q.1 q.2]at hr;subst hr;clear i1 i2 u t o q m;have i:=g.cell;have a:=g.frozen;have c:=k.cell;have d:=l.cell;go_wp2;clear i a c d;have f:=ae.t4 g 1 s2 M2 E2
   exact bq (by simp[results,results106,go_sem,f.box.cell]) rfl ⟨_,_,_,_,rfl,n,(f.below j.out (by omega))⟩
 ·rcases C with rfl | rfl | rfl
  ·rw[ec up i1 i2]at hr;subst hr;clear i1 i2 u t o q m;have i:=g.cell;have a:=g.frozen;have c:=k.cell;have d:=l.cell;go_wp2;clear i a c d;have f:=ae.t4 g 2 s2 M2 E2;exact bq (by simp[results,results106,go_sem,f.box.cell]) rfl ⟨_,_,_,_,rfl,n,(f.below j.out (by omega))⟩
  ·rw[t.1 rfl,fG up o.1 o.2]at hr;subst hr;clear i1 i2 u t o q n;have i:=g.cell;have a:=g.frozen;have c:=k.cell;have d:=l.cell;go_wp2;clear i a c d;have f:=ae.t4 g 1 s1 G F;exact bq (by simp[results,results106,go_sem,f.box.cell]) rfl ⟨_,_,_,_,rfl,m,(f.below j.out (by omega))⟩
  ·have A:=ie hr;clear i1 i2 u t o q hr;have c:=k.cell;have d:=l.cell
   go_wp2_with fail
   refine(II hT m n).mono ?_;rintro P w5 ⟨s3,H3,L3,x3,rfl,Y,B⟩;clear c d;replace g:=g.b B;replace j:=aa j B;clear B
   go_wp2_with fail
   refine(yv Y A.out).mono ?_;rintro P w6 ⟨V,s4,X,E4,rfl,q4,B⟩;replace g:=g.b B;replace j:=aa j B;clear B;have i:=g.cell;have a:=g.frozen;go_wp2;clear i a;have f:=ae.t4 g V s4 X E4;exact bq (by simp[results,results106,go_sem,f.box.cell]) rfl ⟨_,_,_,_,rfl,q4,(f.below j.out (by omega))⟩
theorem JX{w:World}{D D' M M' E E':Int}{s s':Bool}{up:Bool}{x y r:Int}(hM:LQ M)(hM':LQ M')(hx:rk D s M E=x)(hy:rk D' s' M' E'=y)(hr:eC up x y=r):Calls prog 117 #[VQ D s M E,VQ D' s' M' E',.bool up] w (PN w r):=by
 delta VQ
 obtain⟨T,s1,M1,Z,n⟩:=tN (D:=D) (s:=s) (M:=M) (E:=E) hM;obtain⟨K2,s2,M2,E2,o⟩:=tN (D:=D') (s:=s') (M:=M') (E:=E') hM';rw[hx]at n;rw[hy]at o;have W:=ie hx;have X:=ie hy;clear hx hy
 go_enter func117,ntmps117
 go_upto_region 1 with (fail)
 generalize P:((w.alloc _).alloc _).alloc _=w1 at *;obtain⟨l,m,e,k⟩:=Bo.en3 P;clear P;refine jk [0,1,2,3] [some 7,some 8,some 9,some 10,none,none] [[],[0],[],[2],[],[]] 6 2 [Jo.q4 D s M E,Jo.q4 T s1 M1 Z,Jo.q4 D' s' M' E',Jo.q4 K2 s2 M2 E2,Jo.Fact.any,Jo.Fact.any] ?_ ?_
 ·refine jm ?_ ?_;rotate_left
  refine jm ?_ ?_
  ·rintro Y F _ rfl K u;simp only[Jo.z]at u|-;go_simp;refine(oo hM n W.out).mono ?_;rintro J wk ⟨rfl,B⟩;exact u.out _ _ rfl B
  refine jm ?_ ?_;rotate_left
  refine jm ?_ ?_
  ·rintro Y F _ rfl K u;simp only[Jo.z]at u|-;go_simp;refine(oo hM' o X.out).mono ?_;rintro J wk ⟨rfl,B⟩;exact u.out _ _ rfl B
  exact jo
  all_goals (rintro Y F;(repeat rintro _ rfl);intro K u;simp only[Jo.z]at u|-;have f:=(l.b F).cell;have g:=(m.b F).cell;go_simp;exact u.out _ _ rfl (br _ _))
 rintro w2 F _ rfl _ rfl _ rfl _ rfl -;simp only[Jo.z];replace l:=l.b F;replace m:=m.b F;replace e:=e.b F;replace k:=aa k F;have f:=l.cell;have R:=l.frozen
 refine jn 4 fun K u=>?_
 go_simp;refine u.out _ _ ?_;clear u K f R;generalize O:(((w2.setCell _ _).setCell _ _).setCell _ _).setCell _ _=w3 at *;have i:=ae.of4 l O;replace m:=m.s i;replace e:=e.s i;replace k:=bn k i (by omega);replace l:=i.box;clear i O;have g:=m.cell;have S:=m.frozen
 refine jn 5 fun K u=>?_
 go_simp;refine u.out _ _ ?_;clear u K g S;generalize O:(((w3.setCell _ _).setCell _ _).setCell _ _).setCell _ _=w4 at *;have i:=ae.of4 m O;replace l:=l.s i;replace e:=e.s i;replace k:=bn k i (by omega);replace m:=i.box;clear i O;refine jd ?_;clear W X hM hM';have i1:=gv n
 have i2:=gv o;have t:=n.zero_iff;have v:=o.zero_iff;have A:=n.bd;have C:=o.bd
 have U:T=2\/T=0\/T=1:=by rcases n.cases with⟨h,_⟩ | ⟨h,_⟩ | ⟨h,_⟩ <;> omega
 have I:K2=2\/K2=0\/K2=1:=by rcases o.cases with⟨h,_⟩ | ⟨h,_⟩ | ⟨h,_⟩ <;> omega
 rcases U with rfl | rfl | rfl
 ·rcases I with rfl | rfl | rfl
  ·have p:¬(x=0\/y=0):=fun c=>c.elim (fun c=>absurd (t.2 c) (by decide)) (fun c=>absurd (v.2 c) (by decide))
   have G:decide (x < 0)=s1:=by
    rcases n.three with⟨a,_⟩ | ⟨_,rfl,b⟩ | ⟨_,rfl,b⟩
    ·exact absurd a (by decide)
    ·exact df (by omega)
    ·exact dt b
   have H:decide (y < 0)=s2:=by
    rcases o.three with⟨a,_⟩ | ⟨_,rfl,b⟩ | ⟨_,rfl,b⟩
    ·exact absurd a (by decide)
    ·exact df (by omega)
    ·exact dt b
   rw[gJ up p (.inl i1),G,H]at hr;have q:=ie hr;clear i1 i2 t v A C n o hr G H p;have f:=l.cell;have g:=m.cell
   go_wp2_with fail
   refine(iQ (s:=s1 !=s2) q.out).mono ?_;rintro J V ⟨L,s3,N,E3,rfl,Q,B⟩;clear f g;replace l:=l.b B;replace m:=m.b B;replace e:=e.b B;replace k:=aa k B;clear B;have j:=e.cell;have d:=e.frozen;go_wp2;clear j d;have i:=ae.t4 e L s3 N E3
   exact bq (by simp[results,results117,go_sem,i.box.cell]) rfl ⟨_,_,_,_,rfl,Q,(i.below k.out (by omega))⟩
  ·rw[dI up (.inr (v.1 rfl))]at hr;subst hr;clear i1 i2 t v A C n o;have j:=e.cell;have d:=e.frozen;have f:=l.cell;have g:=m.cell;go_wp2;clear j d f g;have i:=ae.t4 e 0 false 0 0;exact bq (by simp[results,results117,go_sem,i.box.cell]) rfl ⟨_,_,_,_,rfl,Fq.nought,(i.below k.out (by omega))⟩
  ·have p:¬(x=0\/y=0):=fun c=>c.elim (fun c=>absurd (t.2 c) (by decide)) (fun c=>absurd (v.2 c) (by decide))
   have G:decide (x < 0)=s1:=by
    rcases n.three with⟨a,_⟩ | ⟨_,rfl,b⟩ | ⟨_,rfl,b⟩
    ·exact absurd a (by decide)
    ·exact df (by omega)
    ·exact dt b
   have H:decide (y < 0)=s2:=by
    rcases o.three with⟨a,_⟩ | ⟨_,rfl,b⟩ | ⟨_,rfl,b⟩
    ·exact absurd a (by decide)
    ·exact df (by omega)
    ·exact dt b
   rw[gJ up p (.inl i1),G,H]at hr;have q:=ie hr;clear i1 i2 t v A C n o hr G H p;have f:=l.cell;have g:=m.cell
   go_wp2_with fail
   refine(iQ (s:=s1 !=s2) q.out).mono ?_;rintro J V ⟨L,s3,N,E3,rfl,Q,B⟩;clear f g;replace l:=l.b B;replace m:=m.b B;replace e:=e.b B;replace k:=aa k B;clear B;have j:=e.cell;have d:=e.frozen;go_wp2;clear j d;have i:=ae.t4 e L s3 N E3
   exact bq (by simp[results,results117,go_sem,i.box.cell]) rfl ⟨_,_,_,_,rfl,Q,(i.below k.out (by omega))⟩
 ·rcases I with rfl | rfl | rfl
  ·rw[dI up (.inl (t.1 rfl))]at hr;subst hr;clear i1 i2 t v A C n o;have j:=e.cell;have d:=e.frozen;have f:=l.cell;have g:=m.cell;go_wp2;clear j d f g;have i:=ae.t4 e 0 false 0 0;exact bq (by simp[results,results117,go_sem,i.box.cell]) rfl ⟨_,_,_,_,rfl,Fq.nought,(i.below k.out (by omega))⟩
  ·rw[dI up (.inl (t.1 rfl))]at hr;subst hr;clear i1 i2 t v A C n o;have j:=e.cell;have d:=e.frozen;have f:=l.cell;have g:=m.cell;go_wp2;clear j d f g;have i:=ae.t4 e 0 false 0 0;exact bq (by simp[results,results117,go_sem,i.box.cell]) rfl ⟨_,_,_,_,rfl,Fq.nought,(i.below k.out (by omega))⟩
  ·rw[dI up (.inl (t.1 rfl))]at hr;subst hr;clear i1 i2 t v A C n o;have j:=e.cell;have d:=e.frozen;have f:=l.cell;have g:=m.cell;go_wp2;clear j d f g;have i:=ae.t4 e 0 false 0 0;exact bq (by simp[results,results117,go_sem,i.box.cell]) rfl ⟨_,_,_,_,rfl,Fq.nought,(i.below k.out (by omega))⟩
 ·rcases I with rfl | rfl | rfl
  ·have p:¬(x=0\/y=0):=fun c=>c.elim (fun c=>absurd (t.2 c) (by decide)) (fun c=>absurd (v.2 c) (by decide))
   have G:decide (x < 0)=s1:=by
    rcases n.three with⟨a,_⟩ | ⟨_,rfl,b⟩ | ⟨_,rfl,b⟩
    ·exact absurd a (by decide)
    ·exact df (by omega)
    ·exact dt b
   have H:decide (y < 0)=s2:=by
    rcases o.three with⟨a,_⟩ | ⟨_,rfl,b⟩ | ⟨_,rfl,b⟩
    ·exact absurd a (by decide)
    ·exact df (by omega)
    ·exact dt b
   rw[gJ up p (.inr i2),G,H]at hr;have q:=ie hr;clear i1 i2 t v A C n o hr G H p;have f:=l.cell;have g:=m.cell
   go_wp2_with fail
   refine(iQ (s:=s1 !=s2) q.out).mono ?_;rintro J V ⟨L,s3,N,E3,rfl,Q,B⟩;clear f g;replace l:=l.b B;replace m:=m.b B;replace e:=e.b B;replace k:=aa k B;clear B;have j:=e.cell;have d:=e.frozen;go_wp2;clear j d;have i:=ae.t4 e L s3 N E3
   exact bq (by simp[results,results117,go_sem,i.box.cell]) rfl ⟨_,_,_,_,rfl,Q,(i.below k.out (by omega))⟩
  ·rw[dI up (.inr (v.1 rfl))]at hr;subst hr;clear i1 i2 t v A C n o;have j:=e.cell;have d:=e.frozen;have f:=l.cell;have g:=m.cell;go_wp2;clear j d f g;have i:=ae.t4 e 0 false 0 0;exact bq (by simp[results,results117,go_sem,i.box.cell]) rfl ⟨_,_,_,_,rfl,Fq.nought,(i.below k.out (by omega))⟩
  ·have q:=ie hr;clear i1 i2 t v A C hr;have f:=l.cell;have g:=m.cell
   go_wp2_with fail
   refine(yu n o).mono ?_;rintro J V ⟨s3,H3,L3,x3,rfl,p3,B⟩;clear f g;replace e:=e.b B;replace k:=aa k B;clear B
   go_wp2_with fail
   refine(yv p3 q.out).mono ?_;rintro J w6 ⟨K4,s4,M4,E4,rfl,q4,B⟩;replace e:=e.b B;replace k:=aa k B;clear B;have j:=e.cell;have d:=e.frozen;go_wp2;clear j d;have i:=ae.t4 e K4 s4 M4 E4;exact bq (by simp[results,results117,go_sem,i.box.cell]) rfl ⟨_,_,_,_,rfl,q4,(i.below k.out (by omega))⟩
theorem IG{w:World}{D D' M M' E E':Int}{s s':Bool}{up:Bool}{x y r:Int}(hT:Tb w)(hM:LQ M)(hM':LQ M')(hx:rk D s M E=x)(hy: -rk D' s' M' E'=y)(hr:av up x y=r):Calls prog 105 #[VQ D s M E,VQ D' s' M' E',.bool up] w (PN w r):=by
 delta VQ
 have m:=ie hx;have n:=ie hy;have l:=ie hr;clear hx hy hr
 go_enter func105,ntmps105
 go_upto_region 1 with (fail)
 generalize e:((w.alloc _).alloc _).alloc _=w1 at *;obtain⟨u,v,d,g⟩:=Bo.en3 e;replace hT:=hT.below g.out;clear e;refine jk [0,1,2,3,4] [some 7,some 8,some 9,some 10,some 11,none] [[],[],[1],[],[0,2,3],[]] 6 1 [Jo.q4 D s M E,Jo.q4 D' s' M' E',Jo.Fact.num y,Jo.qb up,Jo.Fact.num r,Jo.Fact.any] ?_ ?_
 ·iterate 2 (refine jm ?_ ?_;rotate_left)
  refine jm ?_ ?_
  ·rintro k c _ rfl K a;simp only[Jo.z]at a|-;go_simp;exact Jo.n1 (xv hM' n.out) a.out
  refine jm ?_ ?_;rotate_left
  refine jm ?_ ?_
  ·rintro k c _ rfl _ ⟨o,s4,q,E4,rfl,h⟩ _ rfl K a;simp only[Jo.z]at a|-;go_simp;exact Jo.n1 (IF (hT.b c) hM h.top m.out h.rk l.out) a.out
  exact jo
  all_goals (rintro k c;(repeat rintro _ rfl);intro K a;simp only[Jo.z]at a|-;have B:=(u.b c).cell;have C:=(v.b c).cell;go_simp;exact a.out _ _ rfl (br _ _))
 rintro F c _ rfl _ rfl _ ⟨o,s4,q,E4,rfl,h⟩ _ rfl _ ⟨p,s5,t,E5,rfl,A⟩ -;simp only[Jo.z];replace d:=d.b c;replace g:=aa g c;have i:=d.cell;have f:=d.frozen
 refine jn 5 fun K a=>?_
 go_simp;refine a.out _ _ ?_;clear a K i f;have j:=ae.t4 d p s5 t E5;refine jd ?_;go_wp2;exact bq (by simp[results,results105,go_sem,j.box.cell]) rfl ⟨_,_,_,_,rfl,A,(j.below g.out (by omega))⟩
def FY (up:Bool)(l:List Int):Int:=l.foldl (av up) 0
theorem Ct (up:Bool){l:List Int}{k:Nat}(h:k < l.length):FY up (l.take (k+1))=av up (FY up (l.take k)) (l.getD k 0):=by
 unfold FY
 rw[List.take_succ_eq_append_getElem h,List.foldl_append]
 simp[List.getD_eq_getElem?_getD,h]
theorem IH{w:World}{A:Option Addr}{n c:Nat}{l:List Int}{up:Bool}{r:Int}(hT:Tb w)(h:Nl w A n c l)(hr:FY up l=r):Calls prog 112 #[.bool up,.slice A n c] w (PN w r):=by
 have X:=ie hr;have t:=ie h.1;have U:=h.2.1;have T:=h.2.2.1;have u:=h;have I:=hT;clear hr
 go_enter func112,ntmps112
 go_upto_region 1 with (fail)
 generalize v:w.alloc _=w1 at *;obtain⟨a,e⟩:=Bo.en1 v;replace h:=h.below e.out;replace hT:=hT.below e.out;clear v
 go_upto_region 2 with (fail)
 have bA:=a.lt;have L:=a.lt;generalize g:w1.alloc _=w3 at *;obtain⟨d,f⟩:=Bo.nw g;clear g;replace a:=a.b f;replace h:=h.b f;replace hT:=hT.b f;replace e:=aa e f;clear f
 go_wp2_with fail
 generalize w1.heap.size=g3 at *;clear h hT w1
 go_loopw [11] (fun i wr=>∃k:Nat,k<=n/\i= .int .i64 k/\yo w g3 (FY up (l.take k)) wr) (fun i _=>n-(intOf i).toNat)
 case atStart=>exact ⟨0,Nat.zero_le _,rfl,_,_,_,_,a,d,Fq.nought,e.out⟩
 clear e a d
 case round=>
  obtain⟨k,hk,rfl,hI⟩:=hrel;obtain⟨Z,s1,M1,W,a,d,F,C⟩:=hI;have e:=ie C;have h:=u.below C;have hT:=I.below C;clear C
  by_cases hlt:k < n
  ·obtain⟨b,o,rfl,hcell⟩:=h.2.2.2 (by omega);obtain⟨D,s,M,E,c0,c1,c2,c3,hM,hx⟩:=hcell k hlt;clear hcell h u
   have i1:(k:Int) < n:=by omega
   have i2:(0:Int)<=k:=by omega
   have j:=Ct up (l:=l) (k:=k) (by rw[t.out];exact hlt);rw[<-hx]at j;generalize FY up (l.take k)=R at *;obtain⟨x,J⟩:∃x,rk D s M E=x:=⟨_,rfl⟩;rw[J]at j;obtain⟨V,q⟩:∃V,av up R x=V:=⟨_,rfl⟩;rw[q]at j;have Y:=ie J;have H:=ie j;have G:=ie q;clear j J hx q
   go_upto_region 5 with (fail)
   have bB:=d.lt;have O:=a.lt;have N:=d.lt;generalize g:wr.alloc _=w3 at *;obtain⟨X5,f⟩:=Bo.nw g;clear g;replace a:=a.b f;replace d:=d.b f;replace hT:=hT.b f;replace e:=aa e f;clear f;clear c0 c1 c2 c3;have m:=d.cell;have P:=X5.cell
   go_wp2_with fail
   refine(IF hT F.top hM F.rk Y.out G.out).mono ?_;rintro ee w4 ⟨K2,s2,M2,E2,rfl,q2,B⟩;clear m P;replace a:=a.b B;replace d:=d.b B;replace e:=aa e B;clear B;have m:=d.cell;have y:=d.frozen
   go_upto_region 6 with (fail)
   clear m y;generalize S:(((w4.setCell _ _).setCell _ _).setCell _ _).setCell _ _=w5 at *;have p:=ae.of4 d S;replace a:=a.s p;replace e:=bn e p (by omega);replace d:=p.box;clear p S;go_wp2
   go_roundw
   case rel=>
    refine⟨k+1,by omega,by go_num,K2,s2,M2,E2,a,d,?_,e.out⟩
    rw[H.out];exact q2
   case measure=>simp [intOf];omega
  ·obtain rfl:k=n:=by omega
   rw[List.take_of_length_le (by rw[t.out];omega),X.out]at F;have Q:=a.cell;have z:=a.frozen;have m:=d.cell;go_wp2;clear Q z m;have p:=ae.t4 a Z s1 M1 W;exact bq (by simp[results,results112,go_sem,p.box.cell]) rfl ⟨_,_,_,_,rfl,F,(p.below e.out (by omega))⟩
def Fz (x:Int)(h:Nat):Prop:=au x=true\/kP h (ep x)
theorem Fz.mono{x:Int}{h k:Nat}(f:Fz x h)(hk:h<=k):Fz x k:=f.imp id fun g=>g.mono hk
theorem Fz.zero (h:Nat):Fz 0 h:= .inr (by rw[tE];exact kP.zero h)
theorem gF{X r t:Int}(h:Dn X r)(k:Up X t):r<=t:=by
 obtain⟨h1,h2,c,h4⟩:=h;obtain⟨e,f,d,g⟩:=k
 rcases Int.lt_or_le t r with q | q
 ·exfalso
  have a:=c (by omega);have b:=d (by omega);rw[aF]at b
  have:=iZ q
  omega
 ·exact q
theorem Dh{x y:Int}(x1: -19342822337206103650074625<=x)(x2:x<=19342822337206103650074625)(y1: -19342822337206103650074625<=y)(y2:y<=19342822337206103650074625):av false x y<=av true x y:=by
 have c:=dj
 cases hx:au x <;> cases hy:au y
 ·obtain⟨a1,a2⟩:=bj x1 x2 hx;obtain⟨a,b⟩:=bj y1 y2 hy;obtain⟨u,v⟩:=bS (x:=x) (y:=y) true a1 a2 a b;exact gF u v
 ·rw[ec _ hx hy,ec _ hx hy];exact Int.le_refl _
 ·rw[dM _ hx hy,dM _ hx hy];exact Int.le_refl _
 ·by_cases e:x=y
  ·rw[dR _ hx e,dR _ hx e];exact Int.le_refl _
  ·rw[dF _ hx hy e,dF _ hx hy e,show (!false)=true from rfl,show (!true)=false from rfl,aG,aL]
   omega
def mU (A B r:Int):Prop:= -19342822337206103650074625<=r/\r<=19342822337206103650074624/\(-19342822337206103650074625 < r->vr r*B<=A)/\(r < 19342822337206103650074624->A < vr (r+1)*B)
def JM (A B r:Int):Prop:=mU (-A) B (-r)
def fF (up:Bool)(A B r:Int):Prop:=if up=true then JM A B r else mU A B r
theorem gQ{A B r:Int}:fF false A B r=mU A B r:=if_neg (by decide)
theorem iA{A B r:Int}:fF true A B r=JM A B r:=if_pos rfl
theorem mU.mono{A B C D r t:Int}(hB:0 < B)(hD:0 < D)(h:mU A B r)(k:mU C D t)(hAC:A*D<=C*B):r<=t:=by
 obtain⟨h1,h2,e,h4⟩:=h;obtain⟨g,i,j,f⟩:=k
 rcases Int.lt_or_le t r with q | q
 ·exfalso
  have a:=e (by omega);have b:=f (by omega)
  have c:vr (t+1)<=vr r:=bI (by omega)
  have a2:vr r*B*D<=A*D:=Int.mul_le_mul_of_nonneg_right a (Int.le_of_lt hD)
  have d:C*B < vr (t+1)*D*B:=Int.mul_lt_mul_of_pos_right b hB
  have c2:vr (t+1)*(D*B)<=vr r*(D*B):=Int.mul_le_mul_of_nonneg_right c (Int.le_of_lt (Int.mul_pos hD hB))
  rw[Int.mul_assoc,Int.mul_comm B D]at a2;rw[Int.mul_assoc]at d
  omega
 ·exact q
theorem mU.uniq{A B r t:Int}(hB:0 < B)(h:mU A B r)(k:mU A B t):r=t:=by
 have a:=h.mono hB hB k (Int.le_refl _);have b:=k.mono hB hB h (Int.le_refl _)
 omega
theorem fF.uniq{up:Bool}{A B r t:Int}(hB:0 < B)(h:fF up A B r)(k:fF up A B t):r=t:=by
 cases up
 ·rw[gQ]at h k;exact h.uniq hB k
 ·rw[iA]at h k
  have:=mU.uniq hB h k
  omega
theorem fF.mono{up:Bool}{A B C D r t:Int}(hB:0 < B)(hD:0 < D)(h:fF up A B r)(k:fF up C D t)(hAC:A*D<=C*B):r<=t:=by
 cases up
 ·rw[gQ]at h k;exact h.mono hB hD k hAC
 ·rw[iA]at h k
  have:=mU.mono hD hB k h (by rw[Int.neg_mul,Int.neg_mul];omega)
  omega
theorem fF.neg{up:Bool}{A B r:Int}(h:fF up A B r):fF (!up) (-A) B (-r):=by
 cases up
 ·rw[gQ]at h
  rw[show (!false)=true from rfl,iA]
  unfold JM
  rw[Int.neg_neg,Int.neg_neg];exact h
 ·rw[iA]at h
  rw[show (!true)=false from rfl,gQ]
  exact h
theorem o7{s up:Bool}{A B r:Int}(h:fF (up !=s) A B r):fF up (aj s A) B (aj s r):=by
 cases s
 ·rw[aG,aG]
  cases up <;> exact h
 ·rw[aL,aL]
  have h2:fF (!up) A B r:=by cases up <;> exact h
  have:=h2.neg
  rwa [Bool.not_not]at this
theorem fF.bd{up:Bool}{A B r:Int}(h:fF up A B r): -19342822337206103650074625<=r/\r<=19342822337206103650074625:=by
 cases up
 ·rw[gQ]at h
  have:=h.1;have:=h.2.1
  omega
 ·rw[iA]at h
  have:=h.1;have:=h.2.1
  omega
theorem qn (p:Nat->Prop)(h0:p 0):∀n,¬p n->∃k,k < n/\p k/\¬p (k+1)
 | 0,h=>absurd h0 h
 | n+1,h=>by
  by_cases q:p n
  ·exact⟨n,Nat.lt_succ_self _,q,h⟩
  ·obtain⟨k,a,b,c⟩:=qn p h0 n q;exact⟨k,Nat.lt_succ_of_lt a,b,c⟩
theorem zl (A:Int){B:Int}(hB:0 < B):∃r,mU A B r:=by
 obtain⟨n,e⟩:∃n:Nat,(n:Int)=38685644674412207300149250:=⟨38685644674412207300149250,rfl⟩
 obtain⟨k,d,a,b⟩:=qn (fun k=>k=0\/((k:Int)<=38685644674412207300149249/\vr ((k:Int)-19342822337206103650074625)*B<=A)) (.inl rfl) n (by omega)
 refine⟨(k:Int)-19342822337206103650074625,by omega,by omega,fun h=>?_,fun h=>?_⟩
 ·rcases a with a | a
  ·omega
  ·exact a.2
 ·have c:¬vr (((k+1:Nat):Int)-19342822337206103650074625)*B<=A:=fun c=>b (.inr ⟨by omega,c⟩)
  rw[show ((k+1:Nat):Int)-19342822337206103650074625=(k:Int)-19342822337206103650074625+1 by omega]at c
  omega
theorem mL (up:Bool)(A:Int){B:Int}(hB:0 < B):∃r,fF up A B r:=by
 cases up
 ·obtain⟨r,h⟩:=zl A hB;exact⟨r,by rw[gQ];exact h⟩
 ·obtain⟨r,h⟩:=zl (-A) hB;refine⟨-r,?_⟩;rw[iA]
  unfold JM
  rw[Int.neg_neg];exact h
theorem mU.of_dn{X A B a b r:Int}(hB:0 < B)(h:Dn X r)(h1:a < X)(h2:X < b)(h3:a*B < A)(h4:A < b*B)(hs:∀s,¬(a < vr s/\vr s < b)):mU A B r:=by
 obtain⟨c,d,f,g⟩:=h
 refine⟨c,d,fun k=>?_,fun k=>?_⟩
 ·have e:=f k;have n:=hs r
  have l:vr r<=a:=by omega
  have:=Int.mul_le_mul_of_nonneg_right l (Int.le_of_lt hB)
  omega
 ·have e:=g k;have n:=hs (r+1)
  have l:b<=vr (r+1):=by omega
  have:=Int.mul_le_mul_of_nonneg_right l (Int.le_of_lt hB)
  omega
theorem mU.of_eq{X A B r:Int}(hB:0 < B)(h:Dn X r)(e:X*B=A):mU A B r:=by
 obtain⟨a,b,c,d⟩:=h;subst e
 exact⟨a,b,fun k=>Int.mul_le_mul_of_nonneg_right (c k) (Int.le_of_lt hB),fun k=>Int.mul_lt_mul_of_pos_right (d k) hB⟩
theorem Hr{P:Int × Int}{A B a b:Int}(up:Bool)(hP:Nf P)(hB:0 < B)(h1:a < vl P)(h2:vl P < b)(h3:a*B < A)(h4:A < b*B)(hs:∀s,¬(a < vr s/\vr s < b)):fF up A B (ed up P.1 P.2):=by
 obtain⟨c,p2⟩:=dc hP
 cases up
 ·rw[gQ];exact mU.of_dn hB c h1 h2 h3 h4 hs
 ·rw[iA]
  refine mU.of_dn (a:= -b) (b:= -a) hB p2 (by omega) (by omega) (by rw[Int.neg_mul];omega) (by rw[Int.neg_mul];omega) (fun s=>?_)
  have:=hs (-s)
  rw[aF]at this
  omega
theorem Co{P:Int × Int}{A B:Int}(up:Bool)(hP:Nf P)(hB:0 < B)(e:vl P*B=A):fF up A B (ed up P.1 P.2):=by
 obtain⟨a,p2⟩:=dc hP
 cases up
 ·rw[gQ];exact mU.of_eq hB a e
 ·rw[iA];exact mU.of_eq hB p2 (by rw[Int.neg_mul];omega)
theorem xz{i:Int}{u:Nat}(hi:9223372036854775808<=i)(s:Int):¬(2*i*2^u < vr s/\vr s < (2*i+2)*2^u):=by
 rintro ⟨h1,h2⟩;have b:=aB u
 have a:0 < vr s:=Int.lt_of_le_of_lt (Int.mul_nonneg (by omega) (Int.le_of_lt b)) h1
 have hs:0 < s:=by
  rcases Int.lt_or_le 0 s with q | q
  ·exact q
  ·exfalso
   have:=bI q
   rw[show vr 0=0 from rfl]at this
   omega
 have e0:vr s=((s-1)%9223372036854775808+9223372036854775808)*2^((s-1) /9223372036854775808-1048576+KK).toNat:=by
  unfold vr vp
  rw[if_neg (by omega),if_neg (by omega)]
 obtain⟨M,c⟩:∃M,(s-1)%9223372036854775808+9223372036854775808=M:=⟨_,rfl⟩;obtain⟨t,ht⟩:∃t,((s-1) /9223372036854775808-1048576+(KK:Int)).toNat=t:=⟨_,rfl⟩;rw[c,ht]at e0
 have f:M < 18446744073709551616:=by omega
 rw[e0]at h1 h2;clear e0 c ht hs a
 rcases Nat.lt_or_ge u t with q | q
 ·obtain⟨d,rfl⟩:∃d,t=u+1+d:=⟨t-(u+1),by omega⟩
  have e1:M*2^(u+1+d)=M*2^d*2*2^u:=by
   rw[Int.pow_add,Int.pow_succ];generalize (2:Int)^u=U;generalize (2:Int)^d=D;rw[Int.mul_assoc M D 2,Int.mul_assoc M,Int.mul_comm U 2,Int.mul_comm (2*U) D,Int.mul_assoc D 2 U]
  rw[e1]at h1 h2;have a1:=Int.lt_of_mul_lt_mul_right h1 (Int.le_of_lt b);have a2:=Int.lt_of_mul_lt_mul_right h2 (Int.le_of_lt b)
  omega
 ·obtain⟨d,rfl⟩:∃d,u=t+d:=⟨u-t,by omega⟩
  have ht:=aB t;have hd:=aB d;rw[Int.pow_add]at h1
  have e:(2:Int)^t*1<=2^t*2^d:=Int.mul_le_mul_of_nonneg_left hd (Int.le_of_lt ht)
  rw[Int.mul_one]at e
  have l2:2*i*(2:Int)^t<=2*i*(2^t*2^d):=Int.mul_le_mul_of_nonneg_left e (by omega)
  have a1:=Int.lt_of_mul_lt_mul_right (Int.lt_of_le_of_lt l2 h1) (Int.le_of_lt ht)
  omega
theorem GS{z e:Int}(h:z.natAbs < 2^500000)(h1: -3000000<=e)(h2:e<=3000000):vl (mk z e)=z*2^(e+KK).toNat:=by
 obtain⟨η,b⟩:∃η:Nat,η=4000000:=⟨_,rfl⟩;refine(kG (h:=η) (by omega) (by omega) ?_).2;obtain⟨κ,a⟩:∃κ:Nat,κ=500000:=⟨_,rfl⟩;rw[<-a]at h
 have:=Nat.mul_lt_mul_of_pos_right h (Nat.pow_pos (n:=(e+(η:Int)).toNat) (show 0 < 2 by decide))
 rw[<-Nat.pow_add]at this;exact Nat.lt_of_lt_of_le this (Nat.pow_le_pow_right (by decide) (by omega))
def gl (q r:Nat):Nat:=2*q+if r=0 then 0 else 1
theorem EB{α β n:Nat}(hβ:0 < β)(hn:70+ac β<=n)(ha:α≠0):9223372036854775808<=α*2^n/β:=by
 rw[Nat.le_div_iff_mul_le hβ];have a:=dS β
 have l2:2^69*β<=2^69*2^ac β:=Nat.mul_le_mul_left _ (Nat.le_of_lt a)
 rw[<-Nat.pow_add]at l2
 have b:2^(69+ac β)<=2^n:=Nat.pow_le_pow_right (by decide) (by omega)
 have c:1*2^n<=α*2^n:=Nat.mul_le_mul_right _ (by omega)
 omega
theorem mD{α β:Nat}{e:Int}{n κ:Nat}(up:Bool)(hβ:0 < β)(hq0:α≠0->9223372036854775808<=α*2^n/β)(hκ:κ=500000)(hs:gl (α*2^n/β) (α*2^n%β) < 2^κ)(h1: -2900000<=e-n)(h2:e<=2900000):
  fF up ((α:Int)*2^(e+KK).toNat) (β:Int) (ed up (mk ((gl (α*2^n/β) (α*2^n%β):Nat):Int) (e-n-1)).1 (mk ((gl (α*2^n/β) (α*2^n%β):Nat):Int) (e-n-1)).2):=by
 have o:=dL
 have g:(0:Int) < (β:Int):=by omega
 have f:=ft ((gl (α*2^n/β) (α*2^n%β):Nat):Int) (e-n-1);have c:=GS (z:=((gl (α*2^n/β) (α*2^n%β):Nat):Int)) (e:=e-n-1) (by rw[Int.natAbs_natCast,<-hκ];exact hs) (by omega) (by omega);obtain⟨u,m⟩:∃u:Nat,(e-n-1+(KK:Int)).toNat=u:=⟨_,rfl⟩
 have e1:(e+(KK:Int)).toNat=n+(1+u):=by omega
 rw[m]at c
 rw[e1,Int.pow_add,Int.pow_add,show (2:Int)^1=2 from rfl,<-Int.mul_assoc]
 have hd:=Nat.div_add_mod (α*2^n) β;have hm:=Nat.mod_lt (α*2^n) hβ;have i:=aB u
 have d:((α*2^n:Nat):Int)=(α:Int)*2^n:=by push_cast;rfl
 by_cases l:α=0
 ·subst l
  have e2:gl (0*2^n/β) (0*2^n%β)=0:=by
   rw[Nat.zero_mul,Nat.zero_div,Nat.zero_mod]
   rfl
  rw[e2]at c f|-;refine Co up f g ?_;rw[c]
  show (((0:Nat):Int))*2^u*(β:Int)=((0:Nat):Int)*2^n*(2*2^u)
  rw[show (((0:Nat):Int))=0 from rfl,Int.zero_mul,Int.zero_mul,Int.zero_mul,Int.zero_mul]
 ·have hq:=hq0 l;clear hq0;clear hs;rw[<-d];clear d;generalize α*2^n=X at c f hd hm hq|-;generalize X/β=q at c f hd hq|-;generalize X%β=r at c f hd hm|-
  have j:(β:Int)*(q:Int)+(r:Int)=(X:Int):=by exact_mod_cast hd
  by_cases k:r=0
  ·have e3:gl q r=2*q:=by
    unfold gl
    rw[if_pos k]
    omega
   rw[e3]at c f|-;refine Co up f g ?_;rw[c,<-j,k]
   show (((2*q:Nat)):Int)*2^u*(β:Int)=((β:Int)*(q:Int)+((0:Nat):Int))*(2*2^u)
   push_cast
   generalize (2:Int)^u=U;rw[Int.add_zero,Int.mul_assoc,Int.mul_comm U,Int.mul_assoc 2,<-Int.mul_assoc (q:Int),Int.mul_comm (q:Int),Int.mul_left_comm]
  ·have e3:gl q r=2*q+1:=by
    unfold gl
    rw[if_neg k]
   rw[e3]at c f|-
   have c1:(((2*q+1:Nat)):Int)=2*(q:Int)+1:=by omega
   have c2:(2*(q:Int)*2^u)*(β:Int)=(β:Int)*(q:Int)*(2*2^u):=by
    generalize (2:Int)^u=U;rw[Int.mul_right_comm,Int.mul_comm 2 (q:Int),Int.mul_assoc (q:Int) 2,Int.mul_comm 2 (β:Int),<-Int.mul_assoc (q:Int),Int.mul_comm (q:Int),Int.mul_assoc]
   have c3:((2*(q:Int)+2)*2^u)*(β:Int)=((β:Int)*(q:Int)+(β:Int))*(2*2^u):=by
    rw[show 2*(q:Int)+2=2*((q:Int)+1) by omega,show (β:Int)*(q:Int)+(β:Int)=(β:Int)*((q:Int)+1) by rw[Int.mul_add,Int.mul_one]]
    generalize (2:Int)^u=U;generalize (q:Int)+1=p;rw[Int.mul_right_comm,Int.mul_comm 2 p,Int.mul_assoc p 2,Int.mul_comm 2 (β:Int),<-Int.mul_assoc p,Int.mul_comm p,Int.mul_assoc]
   have h:(0:Int) < 2*2^u:=by omega
   refine Hr up f g (a:=2*(q:Int)*2^u) (b:=(2*(q:Int)+2)*2^u) ?_ ?_ ?_ ?_ (xz (by omega))
   ·rw[c,c1];exact Int.mul_lt_mul_of_pos_right (by omega) i
   ·rw[c,c1];exact Int.mul_lt_mul_of_pos_right (by omega) i
   ·rw[c2];exact Int.mul_lt_mul_of_pos_right (by omega) h
   ·rw[c3];exact Int.mul_lt_mul_of_pos_right (by omega) h
theorem gN{up:Bool}{A B r:Int}(hB:0 < B)(h1: -19342822337206103650074625 < r)(h2:r < 19342822337206103650074625)(e:vr r*B=A):fF up A B r:=by
 cases up
 ·rw[gQ];exact mU.of_eq hB (gc h1 h2) e
 ·rw[iA];refine mU.of_eq hB (gc (r:= -r) (by omega) (by omega)) ?_;rw[aF,Int.neg_mul,e]
theorem o8{A B r t:Int}(hB:0 < B)(h:fF false A B r)(k:fF true A B t):(t=r/\vr r*B=A/\ -19342822337206103650074625 < r/\r < 19342822337206103650074625)\/(t=r+1/\(-19342822337206103650074625 < r->vr r*B < A)/\(t < 19342822337206103650074625->A < vr t*B)):=by
 rw[gQ]at h;rw[iA]at k;obtain⟨h1,h2,i,h4⟩:=h;obtain⟨o,p,m,n⟩:=k
 have f:t < 19342822337206103650074625->A<=vr t*B:=fun c=>by
  have:=m (by omega)
  rw[aF,Int.neg_mul]at this
  omega
 have g: -19342822337206103650074624 < t->vr (t-1)*B < A:=fun c=>by
  have:=n (by omega)
  rw[show -t+1= -(t-1) by omega,aF,Int.neg_mul]at this
  omega
 have d:∀a b:Int,a<=b->vr a*B<=vr b*B:=fun a b c=>Int.mul_le_mul_of_nonneg_right (bI c) (Int.le_of_lt hB)
 have j:r<=t:=by
  rcases Int.lt_or_le t r with q | q
  ·exfalso
   have a:=i (by omega);have b:=f (by omega)
   have c:vr t*B < vr r*B:=Int.mul_lt_mul_of_pos_right (iZ q) hB
   omega
  ·exact q
 have l:t<=r+1:=by
  rcases Int.lt_or_le (r+1) t with q | q
  ·exfalso
   have a:=h4 (by omega);have b:=g (by omega);have c:=d (r+1) (t-1) (by omega)
   omega
  ·exact q
 by_cases e:t=r
 ·subst e
  left
  have a:=i (by omega);have b:=f (by omega);exact⟨rfl,by omega,by omega,by omega⟩
 ·right
  have e2:t=r+1:=by omega
  refine⟨e2,fun c=>?_,fun c=>?_⟩
  ·have:=g (by omega)
   rw[e2,show r+1-1=r by omega]at this
   exact this
  ·have:=h4 (by omega)
   rw[<-e2]at this;exact this
def Qt (up:Bool)(x y r:Int):Prop:=
 if y=0 then r=aj (!up) TP else if x=0\/au y=true then r=0 else if au x=true then r=aj (decide (x < 0) !=decide (y < 0)) TP else fF up (aj (decide (y < 0)) (vr x)*2^KK) (aj (decide (y < 0)) (vr y)) r
theorem Ez{up:Bool}{x r:Int}(h:r=aj (!up) TP):Qt up x 0 r:=by
 unfold Qt
 rw[if_pos rfl];exact h
theorem bO{up:Bool}{x y r:Int}(hy:y≠0)(h:x=0\/au y=true):Qt up x y r↔r=0:=by
 unfold Qt
 rw[if_neg hy,if_pos h]
theorem eR{up:Bool}{x r:Int}:Qt up x 0 r↔r=aj (!up) TP:=by
 unfold Qt
 rw[if_pos rfl]
theorem im{up:Bool}{x y r:Int}(hy:y≠0)(h:¬(x=0\/au y=true))(hx:au x=true):Qt up x y r↔r=aj (decide (x < 0) !=decide (y < 0)) TP:=by
 unfold Qt
 rw[if_neg hy,if_neg h,if_pos hx]
theorem ik{up:Bool}{x y r:Int}(hy:y≠0)(h:¬(x=0\/au y=true))(hx:au x=false):Qt up x y r↔fF up (aj (decide (y < 0)) (vr x)*2^KK) (aj (decide (y < 0)) (vr y)) r:=by
 unfold Qt
 rw[if_neg hy,if_neg h,if_neg (by rw[hx];exact ff)]
theorem ji{y:Int}(hy:y≠0):0 < aj (decide (y < 0)) (vr y):=by
 by_cases c:y < 0
 ·rw[dt c,aL]
  have:=ip (x:= -y) (by omega)
  rw[aF]at this;exact this
 ·rw[df c,aG];exact ip (by omega)
theorem Jf (up:Bool)(x y:Int):∃r,Qt up x y r:=by
 by_cases hy:y=0
 ·subst hy;exact⟨_,Ez rfl⟩
 ·by_cases h:x=0\/au y=true
  ·exact⟨0,(bO hy h).2 rfl⟩
  ·cases hx:au x
   ·obtain⟨r,a⟩:=mL up (aj (decide (y < 0)) (vr x)*2^KK) (ji hy);exact⟨r,(ik hy h hx).2 a⟩
   ·exact⟨_,(im hy h hx).2 rfl⟩
theorem Qt.uniq{up:Bool}{x y r t:Int}(h:Qt up x y r)(k:Qt up x y t):r=t:=by
 by_cases hy:y=0
 ·subst hy;rw[eR.1 h,eR.1 k]
 ·by_cases h0:x=0\/au y=true
  ·rw[(bO hy h0).1 h,(bO hy h0).1 k]
  ·cases hx:au x
   ·exact((ik hy h0 hx).1 h).uniq (ji hy) ((ik hy h0 hx).1 k)
   ·rw[(im hy h0 hx).1 h,(im hy h0 hx).1 k]
theorem Qt.bd{up:Bool}{x y r:Int}(h:Qt up x y r): -19342822337206103650074625<=r/\r<=19342822337206103650074625:=by
 have b:=dj
 have sg:∀s,-19342822337206103650074625<=aj s TP/\aj s TP<=19342822337206103650074625:=fun s=>by
  rcases Kl s with e | e <;> rw[e] <;> omega
 by_cases hy:y=0
 ·subst hy;rw[eR.1 h];exact sg _
 ·by_cases a:x=0\/au y=true
  ·rw[(bO hy a).1 h]
   decide
  ·cases hx:au x
   ·exact((ik hy a hx).1 h).bd
   ·rw[(im hy a hx).1 h];exact sg _
theorem vF (s:Bool)(x:Int):aj s (aj s x)=x:=by
 cases s
 ·rw[aG,aG]
 ·rw[aL,aL,Int.neg_neg]
theorem EA{up:Bool}{x:Int}(h0:x≠0)(h1: -19342822337206103650074625 < x)(h2:x < 19342822337206103650074625):Qt up x x (ak 1):=by
 have o:=j8 (n:=1) (by decide) (by decide);have ov:=eN (n:=1) (by decide) (by decide);have hi:=bl h1 h2
 have a:¬(x=0\/au x=true):=by
  rw[hi];rintro (c | c)
  ·exact h0 c
  ·cases c
 refine(ik h0 a hi).2 (gN (ji h0) (by omega) o.2 ?_);rw[ov,Int.one_mul,Int.mul_comm]
def Rt (up:Bool)(X r:Int):Prop:=
 if up=true then 0 < r/\r<=19342822337206103650074625/\(r < 19342822337206103650074625->X<=vr r*vr r)/\vr (r-1)*vr (r-1) < X
 else 0<=r/\r<=19342822337206103650074624/\vr r*vr r<=X/\(r < 19342822337206103650074624->X < vr (r+1)*vr (r+1))
theorem Ce{X r:Int}:Rt false X r↔(0<=r/\r<=19342822337206103650074624/\vr r*vr r<=X/\(r < 19342822337206103650074624->X < vr (r+1)*vr (r+1))):=by
 unfold Rt
 rw[if_neg ff]
theorem Cf{X r:Int}:Rt true X r↔(0 < r/\r<=19342822337206103650074625/\(r < 19342822337206103650074625->X<=vr r*vr r)/\vr (r-1)*vr (r-1) < X):=by
 unfold Rt
 rw[if_pos rfl]
theorem Jq{a b:Int}(h0:0<=a)(h:a<=b):a*a<=b*b:=Int.mul_le_mul h h h0 (by omega)
theorem vS{r t:Int}(h0:0<=r)(h:r<=t):vr r*vr r<=vr t*vr t:=Jq (CT h0) (bI h)
theorem Rt.uniq{up:Bool}{X r t:Int}(h:Rt up X r)(k:Rt up X t):r=t:=by
 have d:∀{r t},Rt up X r->Rt up X t->¬r < t:=by
  intro r t h k c
  cases up
  ·obtain⟨h1,h2,e,h4⟩:=Ce.1 h;obtain⟨f,g,i,j⟩:=Ce.1 k;have a:=h4 (by omega);have b:=vS (r:=r+1) (t:=t) (by omega) (by omega)
   omega
  ·obtain⟨h1,h2,e,h4⟩:=Cf.1 h;obtain⟨f,g,i,j⟩:=Cf.1 k;have a:=e (by omega);have b:=vS (r:=r) (t:=t-1) (by omega) (by omega)
   omega
 have a:=d h k;have b:=d k h
 omega
theorem oW{σ up:Bool}{z e:Int}:ed up (mk (aj σ z) e).1 (mk (aj σ z) e).2=aj σ (ed (up !=σ) (mk z e).1 (mk z e).2):=by
 cases σ
 ·rw[aG,aG]
  cases up <;> rfl
 ·rw[aL,aL,kH];have h:=qO (ft z e) (!up);rw[Bool.not_not]at h;rw[h]
  cases up <;> rfl
theorem fF.cross{up:Bool}{A B C D r:Int}(hB:0 < B)(hD:0 < D)(h:fF up A B r)(e:A*D=C*B):fF up C D r:=by
 obtain⟨t,ht⟩:=mL up C hD;have a:=h.mono hB hD ht (Int.le_of_eq e);have b:=ht.mono hD hB h (Int.le_of_eq e.symm)
 have c:r=t:=by omega
 rw[c];exact ht
theorem mF{σ up:Bool}{α β:Nat}{e:Int}{n κ:Nat}(hβ:0 < β)(hn:n=70+ac β)(hκ:κ=500000)(hs:gl (α*2^n/β) (α*2^n%β) < 2^κ)(h1: -2900000<=e-n)(h2:e<=2900000):
  fF up (aj σ ((α:Int)*2^(e+KK).toNat)) (β:Int) (ed up (mk (aj σ ((gl (α*2^n/β) (α*2^n%β):Nat):Int)) (e-n-1)).1 (mk (aj σ ((gl (α*2^n/β) (α*2^n%β):Nat):Int)) (e-n-1)).2):=by
 rw[oW]
 exact o7 (mD (up !=σ) hβ (fun ha=>EB hβ (by omega) ha) hκ hs h1 h2)
def Rq (up:Bool)(z y r:Int):Prop:=if y=0 then r=aj (!up) TP else fF up (aj (decide (y < 0)) z*2^KK) (aj (decide (y < 0)) y) r
theorem kg{up:Bool}{z r:Int}:Rq up z 0 r↔r=aj (!up) TP:=by
 unfold Rq
 rw[if_pos rfl]
theorem eV{up:Bool}{z y r:Int}(hy:y≠0):Rq up z y r↔fF up (aj (decide (y < 0)) z*2^KK) (aj (decide (y < 0)) y) r:=by
 unfold Rq
 rw[if_neg hy]
theorem o0{y:Int}(hy:y≠0):0 < aj (decide (y < 0)) y:=by
 by_cases c:y < 0
 ·rw[dt c,aL];omega
 ·rw[df c,aG];omega
theorem qQ (up:Bool)(z y:Int):∃r,Rq up z y r:=by
 by_cases hy:y=0
 ·subst hy;exact⟨_,kg.2 rfl⟩
 ·obtain⟨r,a⟩:=mL up (aj (decide (y < 0)) z*2^KK) (o0 hy);exact⟨r,(eV hy).2 a⟩
theorem Rq.uniq{up:Bool}{z y r t:Int}(h:Rq up z y r)(k:Rq up z y t):r=t:=by
 by_cases hy:y=0
 ·subst hy;rw[kg.1 h,kg.1 k]
 ·exact((eV hy).1 h).uniq (o0 hy) ((eV hy).1 k)
theorem Rq.mono{up:Bool}{z y z' y' r t:Int}(hy:0 < y)(hy':0 < y')(h:Rq up z y r)(k:Rq up z' y' t)(hle:z*y'<=z'*y):r<=t:=by
 have a:=(eV (by omega)).1 h;have b:=(eV (by omega)).1 k;rw[df (by omega),aG,aG]at a b;refine a.mono hy hy' b ?_
 have:=Int.mul_le_mul_of_nonneg_right hle (Int.le_of_lt (aB KK))
 rw[Int.mul_right_comm z,Int.mul_right_comm z'];exact this
theorem FU{up s t:Bool}{α β:Nat}{r:Int}(hβ:0 < β)(h:fF up (aj (s !=t) ((α:Int)*2^(0+(KK:Int)).toNat)) (β:Int) r):Rq up (aj s (α:Int)) (aj t (β:Int)) r:=by
 have hy:aj t (β:Int)≠0:=by
  cases t
  ·rw[aG];omega
  ·rw[aL];omega
 refine(eV hy).2 ?_
 have ht:decide (aj t (β:Int) < 0)=t:=by
  cases t
  ·rw[aG];exact df (by omega)
  ·rw[aL];exact dt (by omega)
 rw[ht,vF]
 have e:aj t (aj s (α:Int))*2^KK=aj (s !=t) ((α:Int)*2^(0+(KK:Int)).toNat):=by
  rw[show (0+(KK:Int)).toNat=KK by omega,<-gk]
  congr 1
  cases s <;> cases t
  ·rfl
  ·rfl
  ·rfl
  ·rw[show (true !=true)=false from rfl,aG,aL,aL,Int.neg_neg]
 rw[e];exact h
theorem Bl{M:Int}(h1:9223372036854775808<=M)(h2:LQ M):∃(α:Nat) (v:Nat),(mk M 0).1=(α:Int)/\(mk M 0).2=(v:Int)/\M=(α:Int)*2^v/\0 < α/\α%2=1/\α < 18446744073709551616/\v < 64:=by
 obtain⟨m,rfl⟩:=Int.eq_ofNat_of_zero_le (show 0<=M by omega)
 have a:m≠0:=by omega
 have d:v2 m < 64:=by
  have h:=eJ a
  have h4:2^v2 m < 2^64:=by omega
  exact(Nat.pow_lt_pow_iff_right (by decide)).1 h4
 obtain⟨b,f,g,j,c⟩:=iu (z:=(m:Int)) (e:=0) (by omega) (by decide) (by rw[Int.natAbs_natCast];omega);rw[Int.natAbs_natCast]at b f c;obtain⟨s1,s2⟩:=fg m a
 have i:0<=(mk (m:Int) 0).1:=by
  rcases Int.lt_or_le (mk (m:Int) 0).1 0 with q | q
  ·have:=g.1 q;omega
  ·exact q
 have e1:(mk (m:Int) 0).1=((m/2^v2 m:Nat):Int):=by omega
 refine⟨m/2^v2 m,v2 m,e1,by rw[b];omega,?_,by omega,s2,?_,d⟩
 ·rw[<-e1];exact c
 ·have:=Nat.div_le_self m (2^v2 m)
  omega
theorem pV{up s t:Bool}{M1 E1 M2 E2 x y:Int}{α β v w:Nat}{r:Int}(q1:Fq 1 s M1 E1 x)(q2:Fq 1 t M2 E2 y)(hM1:M1=(α:Int)*2^v)(hM2:M2=(β:Int)*2^w)(hβ:0 < β)(hv:v < 64)(hw:w < 64)
  (h:fF up (aj (s !=t) ((α:Int)*2^(E1-E2+v-w+(KK:Int)).toNat)) (β:Int) r):Qt up x y r:=by
 obtain⟨a1,a2,a3,B,g,i,j,k,C⟩:=eH q1;obtain⟨D,E,F,G,l,m,n,o,p⟩:=eH q2;have H:=dL;have u:=bl g i;have z:=bl l m
 refine(ik n (by rw[z];rintro (c | c);exact j c;cases c) u).2 ?_
 rw[p,k,o,vF]
 have q:(0:Int) < M2*2^(E2+KK).toNat:=Int.mul_pos (by omega) (aB _)
 refine h.cross (by omega) q ?_
 have e1:aj t (aj s (M1*2^(E1+(KK:Int)).toNat))=aj (s !=t) (M1*2^(E1+(KK:Int)).toNat):=by
  cases s <;> cases t
  ·rfl
  ·rfl
  ·rfl
  ·rw[show (true !=true)=false from rfl,aG,aL,aL,Int.neg_neg]
 rw[e1,gk,gk,gk]
 congr 1
 rw[hM1,hM2]
 have A:(2:Int)^(E1-E2+v-w+(KK:Int)).toNat*(2^w*2^(E2+(KK:Int)).toNat)=2^v*2^(E1+(KK:Int)).toNat*2^KK:=by
  rw[<-Int.pow_add,<-Int.pow_add,<-Int.pow_add,<-Int.pow_add]
  congr 1
  omega
 have m9:∀α β a b c d e f:Int,a*(b*c)=d*e*f->α*a*(β*b*c)=α*d*e*f*β:=fun α β a b c d e f h=>by
  have h1:α*a*(β*b*c)=α*β*(a*(b*c)):=by
   rw[Int.mul_assoc β b c,Int.mul_assoc α a,<-Int.mul_assoc a β,Int.mul_comm a β,Int.mul_assoc β a,<-Int.mul_assoc α β]
  have h2:α*d*e*f*β=α*β*(d*e*f):=by
   rw[Int.mul_assoc α d e,Int.mul_assoc α (d*e) f,Int.mul_right_comm α]
  rw[h1,h2,h]
 exact m9 _ _ _ _ _ _ _ _ A
end Go.Proofs.YtomikokonmikgaaGreatDoor
namespace Go.Proofs.YtomikokonmikgaaGreatDoor
open Go.Proofs.Tryz
open Go Go.RowKit
set_option linter.unusedVariables false
abbrev SC:Int:=6277101735386680763835789423207666416102355444464034512896
def gZ (n:Int):Nat->Nat->Int->Int->Int × Nat
 | 0,k,s,_=>(s,k)
 | f+1,k,s,p=>if SC/ (p*(2*(k:Int)+1))=0 then (s,k)else gZ n f (k+1) (if k%2=1 then s+ -(SC/ (p*(2*(k:Int)+1)))else s+SC/ (p*(2*(k:Int)+1))) (p*(n*n))
def kZ (n:Nat):Nat->Nat->Nat->Nat->Nat->Nat × Nat × Nat
 | 0,k,a,b,_=>(a,b,k)
 | f+1,k,a,b,p=>if 6277101735386680763835789423207666416102355444464034512896/ (p*(2*k+1))=0 then (a,b,k)else
   if k%2=1 then kZ n f (k+1) a (b+6277101735386680763835789423207666416102355444464034512896/ (p*(2*k+1))) (p*(n*n))else kZ n f (k+1) (a+6277101735386680763835789423207666416102355444464034512896/ (p*(2*k+1))) b (p*(n*n))
theorem zg (c p k:Nat):(c:Int) / ((p:Int)*(2*(k:Int)+1))=((c/ (p*(2*k+1)):Nat):Int):=by push_cast;rfl
theorem rS (n:Nat):∀(f k a b p:Nat),gZ (n:Int) f k ((a:Int)-b) p=(((kZ n f k a b p).1:Int)-(kZ n f k a b p).2.1,(kZ n f k a b p).2.2)
 | 0,k,a,b,p=>rfl
 | f+1,k,a,b,p=>by
  have e1:(SC/ ((p:Int)*(2*(k:Int)+1)))=((6277101735386680763835789423207666416102355444464034512896/ (p*(2*k+1)):Nat):Int):=zg 6277101735386680763835789423207666416102355444464034512896 p k
  have e2:(p:Int)*((n:Int)*n)=((p*(n*n):Nat):Int):=by push_cast;rfl
  unfold gZ kZ
  rw[e1,e2];generalize 6277101735386680763835789423207666416102355444464034512896/ (p*(2*k+1))=t
  by_cases h:t=0
  ·rw[if_pos h,if_pos (by omega)]
  ·rw[if_neg h,if_neg (by omega)]
   by_cases c:k%2=1
   ·rw[if_pos c,if_pos c,show (a:Int)-b+ -(t:Int)=(a:Int)-((b+t:Nat):Int) by push_cast;omega]
    exact rS n f _ _ _ _
   ·rw[if_neg c,if_neg c,show (a:Int)-b+(t:Int)=((a+t:Nat):Int)-(b:Int) by push_cast;omega]
    exact rS n f _ _ _ _
def gH (n:Int):Int × Int:=if n < 2\/1000 < n then (0,0)else ((gZ n 200 0 0 n).1+(-((gZ n 200 0 0 n).2:Int)-1),(gZ n 200 0 0 n).1+(((gZ n 200 0 0 n).2:Int)+1))
def DO (n:Nat):Int × Int:=(((kZ n 200 0 0 0 n).1:Int)-(kZ n 200 0 0 0 n).2.1+(-((kZ n 200 0 0 0 n).2.2:Int)-1),((kZ n 200 0 0 0 n).1:Int)-(kZ n 200 0 0 0 n).2.1+(((kZ n 200 0 0 0 n).2.2:Int)+1))
theorem zW{n:Nat}(h1:2<=n)(h2:n<=1000):gH (n:Int)=DO n:=by
 have e:=rS n 200 0 0 0 n
 rw[show (((0:Nat):Int)-((0:Nat):Int))=0 from rfl]at e
 unfold gH DO
 rw[if_neg (by omega),e]
theorem J1:DO 5=(1239072011291311913768300331356796477639936999957358576040,1239072011291311913768300331356796477639936999957358576122):=by kernel_rfl
theorem GH:DO 239=(26263870733613014474167984370118687693885283531911871163,26263870733613014474167984370118687693885283531911871189):=by kernel_rfl
abbrev iE:Int:=19720096697726538562396133364228268891463450865190089731884
abbrev iD:Int:=19720096697726538562396133364228268891463450865190089733300
theorem lT:(gH 5).1*16-(gH 239).2*4=iE/\(gH 5).2*16-(gH 239).1*4=iD:=by
 have a:=zW (n:=5) (by decide) (by decide);have b:=zW (n:=239) (by decide) (by decide)
 rw[show (5:Int)=((5:Nat):Int)from rfl,show (239:Int)=((239:Nat):Int)from rfl,a,b,J1,GH]
 decide
abbrev fw:Int:=14488038916154245684-9223372036854775808+1+(-62+1048576)*9223372036854775808
theorem BB:vr fw=14488038916154245684*2^(KK-62)/\vr (fw+1)=14488038916154245685*2^(KK-62):=by
 have a:=dK (M:=14488038916154245684) (E:= -62) (by decide) (by decide) (by decide);have b:=dK (M:=14488038916154245685) (E:= -62) (by decide) (by decide) (by decide)
 rw[show (-62+(KK:Int)).toNat=KK-62 by rw[dL];rfl]at a b
 constructor
 ·unfold vr
  rw[if_neg (by decide)];exact a
 ·unfold vr
  rw[if_neg (by decide),show fw+1=14488038916154245685-9223372036854775808+1+(-62+1048576)*9223372036854775808 by decide]
  exact b
theorem jY:(2:Int)^KK=4611686018427387904*2^(KK-62):=by
 rw[show (2:Int)^KK=2^(62+(KK-62)) by rw[dL],Int.pow_add]
 rfl
theorem FQ:Rq false iE SC fw:=by
 rw[eV (by decide),gQ];obtain⟨a,b⟩:=BB;have c:=aB (KK-62)
 refine⟨by decide,by decide,fun _=>?_,fun _=>?_⟩
 ·rw[a,show aj (decide (SC < 0)) SC=SC from rfl,show aj (decide (SC < 0)) iE=iE from rfl,jY]
  generalize (2:Int)^(KK-62)=u at *
  unfold SC iE
  omega
 ·rw[b,show aj (decide (SC < 0)) SC=SC from rfl,show aj (decide (SC < 0)) iE=iE from rfl,jY]
  generalize (2:Int)^(KK-62)=u at *
  unfold SC iE
  omega
theorem FP:Rq true iD SC (fw+1):=by
 rw[eV (by decide),iA];obtain⟨a,b⟩:=BB;have c:=aB (KK-62)
 refine⟨by decide,by decide,fun _=>?_,fun _=>?_⟩
 ·rw[aF,b,show aj (decide (SC < 0)) SC=SC from rfl,show aj (decide (SC < 0)) iD=iD from rfl,jY]
  generalize (2:Int)^(KK-62)=u at *
  unfold SC iD
  omega
 ·rw[show -(fw+1)+1= -fw by decide,aF,a,show aj (decide (SC < 0)) SC=SC from rfl,show aj (decide (SC < 0)) iD=iD from rfl,jY]
  generalize (2:Int)^(KK-62)=u at *
  unfold SC iD
  omega
end Go.Proofs.YtomikokonmikgaaGreatDoor
namespace Go.Proofs.YtomikokonmikgaaGreatDoor
open Go.Proofs.Tryz
set_option maxHeartbeats 2000000
open Go.RowKit
set_option linter.unusedVariables false
set_option linter.unusedSimpArgs false
set_option maxRecDepth 100000
def W2 (w:World)(K:Nat)(q r:Int)(e:Ending)(w':World):Prop:=∃s1 A1 n1 c1 s2 A2 n2 c2,e= .returned (.tuple #[.agg #[.bool s1,.slice A1 n1 c1],.agg #[.bool s2,.slice A2 n2 c2]])/\Wn w' s1 A1 n1 c1 q/\Wn w' s2 A2 n2 c2 r/\n1<=K/\n2<=K/\Below w.heap.size w w'
theorem Wn.fits{w:World}{A:Option Addr}{n c K:Nat}{s:Bool}{z:Int}(h:Wn w s A n c z)(hz:z.natAbs < 4294967296^K):n<=K:=by
 have h1:=h.1.len;have h2:=aE hz
 omega
theorem iP{w:World}:Calls prog 64 #[] w (W1 w 8 SC):=by
 go_enter func64,ntmps64
 go_upto_region 1 with (fail)
 generalize e:w.alloc _=w1 at *;obtain⟨c,d⟩:=Bo.en1 e;clear e
 go_wp2_with fail
 refine(Jn (a:=1) 192 ⟨_,[1],j7 w1,rfl⟩ (by decide) (by decide) (by decide)).mono ?_;rintro j n ⟨A2,n2,c2,rfl,p2,l,B⟩;replace B:=bt (af _ (.cells #[.int .u32 1] 92)) B;replace c:=c.b B;replace d:=aa d B;clear B
 go_wp2_with fail
 refine(db false p2.rd).mono ?_;rintro j k ⟨s3,A3,n3,c3,rfl,f,m,B⟩;replace c:=c.b B;replace d:=aa d B;clear B;clear p2
 replace f:Wn k s3 A3 n3 c3 SC:=by rw[show SC=sg false (1*2^192) by decide];exact f
 have i:=c.cell;have g:=c.frozen;go_wp2;clear i g;have h:=ae.t2 c s3 A3 n3 c3;replace f:=f.s h;exact bq (v:= .agg #[.bool s3,.slice A3 n3 c3]) (by simp[results,results64,go_sem,h.box.cell]) rfl ⟨s3,A3,n3,c3,rfl,f,by omega,(h.below d.out (by omega))⟩
theorem tS{w:World}{A:Option Addr}{n c:Nat}{s:Bool}{x:Int}{B:Option Addr}{m d:Nat}{t:Bool}{y:Int}{q:Int}(h:Wr w s A n c x)(k:Wr w t B m d y)(hn:n<=268435456)(hm:m<=268435456)(h0:y≠0)(hq:x.fdiv y=q):Calls prog 67 #[.agg #[.bool s,.slice A n c],.agg #[.bool t,.slice B m d]] w (W1 w (n+m+4) q):=by
 go_enter func67,ntmps67
 go_upto_region 1 with (fail)
 generalize u:((w.alloc _).alloc _).alloc _=w1 at *;obtain⟨O,P,a,e⟩:=Bo.en3 u;replace h:=h.below e.out;replace k:=k.below e.out;clear u;have J:=O.cell;have L:=P.cell
 go_wp2_with fail
 refine(Jc h k hn hm h0 hq rfl).mono ?_;rintro U z ⟨p,i,l,j,s9,A9,n9,c9,rfl,o,S,R,V,B⟩;clear J L;replace a:=a.b B;replace e:=aa e B;clear B;clear h k;clear O P
 go_upto_region 2 with (fail)
 have g:(World.alloc z (.cells #[.bool p,.slice i l j] 27)).heap.size=z.heap.size+1:=by simp
 have G:=a.lt;have E:=af z (.cells #[.bool p,.slice i l j] 27);replace a:=a.b E;replace o:=o.b E;replace e:=ie (bt e.out E);have D:=Bo.new z #[.bool p,.slice i l j] 27;generalize f:World.alloc z (.cells #[.bool p,.slice i l j] 27)=T at *;clear f
 have I:=a.lt;have H:=D.lt;generalize f:T.alloc _=W at *;obtain⟨Q,r⟩:=Bo.nw f;clear f;replace a:=a.b r;replace D:=D.b r;replace o:=o.b r;replace e:=aa e r;clear r;rw[g]at Q;clear g;clear S;have N:=a.cell;have C:=a.frozen;have M:=D.cell;go_wp2;clear N C M
 have F:=ae.t2 a p i l j;replace o:=o.s F;exact bq (v:= .agg #[.bool p,.slice i l j]) (by simp[results,results67,go_sem,F.box.cell]) rfl ⟨p,i,l,j,rfl,o,R,(F.below e.out (by omega))⟩
theorem hO{w:World}{A:Option Addr}{n c:Nat}{s:Bool}{x:Int}{z r:Int}(h:Wr w s A n c x)(hn:n<=268435456)(h1: -9223372036854775808<=z)(h2:z<=9223372036854775807)(hr:x*z=r):Calls prog 63 #[.agg #[.bool s,.slice A n c],.int .i64 z] w (W1 w (n+2) r):=by
 go_enter func63,ntmps63
 go_upto_region 1 with (fail)
 generalize f:(w.alloc _).alloc _=w1 at *;obtain⟨p,e,i⟩:=Bo.en2 f;replace h:=h.below i.out;clear f;refine jk [0,1,2,3] [some 5,some 6,some 7,some 8,none] [[],[],[1],[0,2],[]] 5 1 [Jo.Fact.eq (.agg #[.bool s,.slice A n c]),Jo.qi z,Jo.Fact.wn (z) (2),Jo.Fact.wn (r) (n+2),Jo.Fact.any] ?_ ?_
 ·iterate 2 (refine jm ?_ ?_;rotate_left)
  refine jm ?_ ?_
  ·rintro o d _ rfl K a;simp only[Jo.z]at a|-;go_simp;exact Jo.w1 (gi z _ h1 h2) a.out
  refine jm ?_ ?_
  ·rintro o d _ rfl _ ⟨s3,A3,n3,c3,rfl,m,q⟩ K a;simp only[Jo.z]at a|-;go_simp;exact Jo.w1 (Hh (h.b d) m.wr hn (by omega) hr) a.out
  exact jo
  all_goals (rintro o d;(repeat rintro _ rfl);intro K a;simp only[Jo.z]at a|-;have u:=(p.b d).cell;go_simp;exact a.out _ _ rfl (br _ _))
 rintro y d _ rfl _ rfl _ ⟨s3,A3,n3,c3,rfl,m,q⟩ _ ⟨s4,A4,n4,c4,rfl,k,t⟩ -;simp only[Jo.z];replace e:=e.b d;replace i:=aa i d;clear h;have l:=e.cell;have g:=e.frozen
 refine jn 4 fun K a=>?_
 go_simp;refine a.out _ _ ?_;clear a K l g;have j:=ae.t2 e s4 A4 n4 c4;replace k:=k.s j;refine jd ?_;go_wp2;exact bq (v:= .agg #[.bool s4,.slice A4 n4 c4]) (by simp[results,results63,go_sem,j.box.cell]) rfl ⟨s4,A4,n4,c4,rfl,k,t,(j.below i.out (by omega))⟩
theorem mm:∀l:List Sp,l.foldl dX none=none
 | []=>rfl
 | _::l=>mm l
