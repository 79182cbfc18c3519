/-
 Contracts that the proof rests on.
-/
import Derived.Test.YtaadmpiphnfllaaGreatDoorYAaw
namespace Go.Proofs.YtaadmpiphnfllaaGreatDoor
set_option maxHeartbeats 8000000
open Go.RowKit
set_option linter.unusedVariables false
set_option linter.unusedSimpArgs false
set_option maxRecDepth 100000
theorem wd_of{s:Bool}{H L e V:Int}{f:Bool→Int}(hH:0≤H)(hH2:LQ H)(hL:0≤L)(hL2:LQ L)(hV:H*18446744073709551616+L=V)(e1: -2900000≤e)(e2:e≤2900000)(h:∀up,rnd up (mk (sgi s V) (e-64)).1 (mk (sgi s V) (e-64)).2=f up):Wd s H L e f:=by
 obtain⟨a,rfl⟩:=Int.eq_ofNat_of_zero_le hH;obtain⟨b,rfl⟩:=Int.eq_ofNat_of_zero_le hL
 refine⟨a,b,by omega,by omega,rfl,rfl,e1,e2,fun up=>?_⟩
 have e:((a*18446744073709551616+b:Nat):Int)=V:=by omega
 rw [e];exact h up
theorem add_words{H1 L1 H2 L2 V1 V2:Int}(h1:0≤H1∧H1 < 18446744073709551616∧0≤L1∧L1 < 18446744073709551616∧H1*18446744073709551616+L1=V1)(h2:0≤H2∧H2 < 18446744073709551616∧0≤L2∧L2 < 18446744073709551616∧H2*18446744073709551616+L2=V2)(h:V1+V2 < 340282366920938463463374607431768211456):
  ∃S c T d,(L1+L2+0)%18446744073709551616=S∧(L1+L2+0) /18446744073709551616=c∧(H1+H2+c)%18446744073709551616=T∧(H1+H2+c) /18446744073709551616=d∧0≤c∧c≤1∧0≤S∧S < 18446744073709551616∧0≤T∧T < 18446744073709551616∧T*18446744073709551616+S=V1+V2:=by
 refine⟨_,_,_,_,rfl,rfl,rfl,rfl,?_⟩
 omega
theorem sub_words{H1 L1 H2 L2 V1 V2:Int}(h1:0≤H1∧H1 < 18446744073709551616∧0≤L1∧L1 < 18446744073709551616∧H1*18446744073709551616+L1=V1)(h2:0≤H2∧H2 < 18446744073709551616∧0≤L2∧L2 < 18446744073709551616∧H2*18446744073709551616+L2=V2)(h:0≤V1-V2):
  ∃S c T d,(L1-L2-0)%18446744073709551616=S∧(if L1 < L2+0 then (1:Int)else 0)=c∧(H1-H2-c)%18446744073709551616=T∧(if H1 < H2+c then (1:Int)else 0)=d∧0≤c∧c≤1∧0≤S∧S < 18446744073709551616∧0≤T∧T < 18446744073709551616∧T*18446744073709551616+S=V1-V2:=by
 by_cases q:L1 < L2+0
 ·exact⟨_,1,_,_,rfl,if_pos q,rfl,rfl,by omega,by omega,by omega,by omega,by omega,by omega,by omega⟩
 ·exact⟨_,0,_,_,rfl,if_neg q,rfl,rfl,by omega,by omega,by omega,by omega,by omega,by omega,by omega⟩
theorem sum_lt{w:World}{s1 s2:Bool}{M1 M2 E1 E2 x y:Int}(hT:Tb w)(q1:Fq 1 s1 M1 E1 x)(q2:Fq 1 s2 M2 E2 y)(h:E1 < E2):Calls Tryz.prog 172 #[VQ 1 s1 M1 E1,VQ 1 s2 M2 E2] w (PW6 w fun up=>addp up x y):=by
 delta VQ
 obtain⟨a1,a2,a3,a4,_⟩:=fq_vr q1;obtain⟨b1,b2,b3,b4,_⟩:=fq_vr q2;have HO:=Lib.hid (h);obtain⟨n,hn⟩:∃n:Nat,(n:Int)=E2-E1+1:=⟨(E2-E1+1).toNat,by omega⟩
 have hsw:∀(S:Int) up,S=M2*9223372036854775808+sgi (s2 !=s1) (mvd M1 n)→0≤S∧S < 340282366920938463463374607431768211456∧rnd up (mk (sgi s2 S) (E2+1-64)).1 (mk (sgi s2 S) (E2+1-64)).2=addp up x y:=fun S up hS=>by
  obtain⟨u1,u2,u3⟩:=sum_wide up q2 q1 (by omega) hn hS;refine⟨u1,u2,?_⟩
  rw [show E2+1-64=E2-63 by omega,u3]
  exact addp_comm up
 have HSW:=Lib.hid hsw;obtain⟨N,hN⟩:∃N,(n:Int)=N:=⟨_,rfl⟩;obtain⟨D,hD⟩:∃D,E2-E1=D:=⟨_,rfl⟩
 have n1:1≤n:=by omega
 have n3:n≤4000000:=by omega
 have HN:=Lib.hid hN
 have HD:=Lib.hid (show IntKind.i64.wrap (E2-E1)=D by rw [hD];exact IntWalk.i64_in _ (by omega))
 have HD2:=Lib.hid (show IntKind.i64.wrap (D+1)=N by rw [show D+1=N by omega];exact IntWalk.i64_in _ (by omega))
 obtain⟨Y,hY⟩:∃Y,E1+N=Y:=⟨_,rfl⟩;have HY:=Lib.hid hY;obtain⟨Z,hZ⟩:∃Z,E2+1=Z:=⟨_,rfl⟩;have HZ:=Lib.hid hZ
 have z1: -2900000≤Z:=by omega
 have z2:Z≤2900000:=by omega
 have v1:mvd M2 1=M2*9223372036854775808:=by
  unfold mvd
  rw [if_pos (by decide)]
  rfl
 have HV1:=Lib.hid v1
 have g1:9223372036854775808≤M2:=by omega
 have g2:M2 < 18446744073709551616:=by omega
 have g3: -2000000≤E2:=by omega
 have g4:E2≤2000000:=by omega
 have k1:9223372036854775808≤M1:=by omega
 have k2:M1 < 18446744073709551616:=by omega
 have k3: -2000000≤E1:=by omega
 have k4:E1≤2000000:=by omega
 clear hn hN hD hY hZ v1 hsw h q1 q2 a1 a2 a3 a4 b1 b2 b3 b4
 go_enter Tryz.func172,Tryz.ntmps172
 go_upto_region 1 with (fail)
 generalize hW1:((w.alloc _).alloc _).alloc _=w1 at *;obtain⟨X2,X3,XR,HB⟩:=Bo.en3 hW1;replace hT:=hT.below HB.out;clear hW1;have xX2:=X2.cell;have xX3:=X3.cell
 go_wp2_with fail
 refine (order_lt HO.out).mono ?_;rintro ee w2 ⟨rfl,B⟩;clear xX2 xX3;replace X2:=X2.below B;replace X3:=X3.below B;replace XR:=XR.below B;replace hT:=hT.below B;replace HB:=Hqb HB B;clear B
 go_upto_region 2 with (fail)
 clear X2 X3
 have hsz:(World.alloc w2 (.cells #[.int .i64 1,.bool s2,.int .u64 M2,.int .i64 E2] 24)).heap.size=w2.heap.size+1:=by simp
 have lX5:=Nat.le_refl (World.heap w2).size;have nX5XR:=XR.lt;have BX:=bel1 w2 (.cells #[.int .i64 1,.bool s2,.int .u64 M2,.int .i64 E2] 24);replace XR:=XR.below BX;replace hT:=hT.below BX;replace HB:=Lib.hid (bt HB.out BX);have X5:=Bo.new w2 #[.int .i64 1,.bool s2,.int .u64 M2,.int .i64 E2] 24
 generalize hWn:World.alloc w2 (.cells #[.int .i64 1,.bool s2,.int .u64 M2,.int .i64 E2] 24)=w3 at *;clear hWn;have lX6:=Nat.le_refl (World.heap w3).size;have nX6XR:=XR.lt;have nX6X5:=X5.lt;generalize hWn:w3.alloc _=w4 at *;obtain⟨X6,BW⟩:=Bo.nw hWn;clear hWn;replace XR:=XR.below BW;replace X5:=X5.below BW;replace hT:=hT.below BW;replace HB:=Hqb HB BW
 clear BW;rw [hsz]at X6 nX6X5 nX6XR;clear lX5 lX6 hsz;have xX5:=X5.cell
 go_wp2_with fail
 refine (aMoved (n:=1) (s:=s2) hT g1 g2 (by rfl) HZ.out g3 g4 (by decide) (by decide)).mono ?_;rintro ee w5 ⟨H1,L1,rfl,p1,B⟩;clear xX5;replace XR:=XR.below B;replace X5:=X5.below B;replace X6:=X6.below B;replace hT:=hT.below B;replace HB:=Hqb HB B;clear B;rw [HV1.out]at p1
 go_upto_region 3 with (fail)
 have lX7:=Nat.le_refl (World.heap w5).size;have nX7XR:=XR.lt;have nX7X5:=X5.lt;have nX7X6:=X6.lt;generalize hWn:w5.alloc _=w6 at *;obtain⟨X7,BW⟩:=Bo.nw hWn;clear hWn;replace XR:=XR.below BW;replace X5:=X5.below BW;replace X6:=X6.below BW;replace hT:=hT.below BW;replace HB:=Hqb HB BW;clear BW;clear lX7;have xX5:=X5.cell;have xX6:=X6.cell
 have hd:=HD.out;have hd2:=HD2.out
 go_wp2_with fail
 refine (aMoved (s:=s1) hT k1 k2 HN.out HY.out k3 k4 n1 n3).mono ?_;rintro ee w7 ⟨H2,L2,rfl,p2,B⟩;clear xX5 xX6;replace XR:=XR.below B;replace X5:=X5.below B;replace X6:=X6.below B;replace X7:=X7.below B;replace hT:=hT.below B;replace HB:=Hqb HB B;clear B;clear hd hd2
 go_upto_region 5 with (fail)
 have lX8:=Nat.le_refl (World.heap w7).size;have nX8XR:=XR.lt;have nX8X5:=X5.lt;have nX8X6:=X6.lt;have nX8X7:=X7.lt;generalize hWn:w7.alloc _=w8 at *;obtain⟨X8,BW⟩:=Bo.nw hWn;clear hWn;replace XR:=XR.below BW;replace X5:=X5.below BW;replace X6:=X6.below BW;replace X7:=X7.below BW;replace hT:=hT.below BW;replace HB:=Hqb HB BW;clear BW;clear lX8
 by_cases hs:s2=s1
 ·subst hs
  have hxor:(s2 !=s2)=false:=by cases s2 <;> rfl
  have hswv:=HSW.out (M2*9223372036854775808+mvd M1 n);rw [hxor,wsg_f]at hswv;have hb:=(hswv true rfl).2.1;obtain⟨S,c,T,d,f1,f2,f3,f4,c0,c1,o1,o2,o3,o4,o5⟩:=add_words p1 p2 hb
  have ha1:=fun W:World=>aAdd64 W p1.2.2.1 p2.2.2.1 (by decide) (by decide) f1 f2
  have ha2:=fun W:World=>aAdd64 W p1.1 p2.1 c0 c1 f3 f4
  have OO:=Lib.hid (And.intro o5 hswv)
  clear f1 f2 f3 f4 p1 p2 hb hswv o5;have xX5:=X5.cell;have xX6:=X6.cell;have xX7:=X7.cell;have zX70:=X7.frozen;have xX8:=X8.cell
  go_upto_region 7 with (simp only [ha1])
  clear xX5 xX6 xX7 zX70 xX8
  have SX:StN w8 (World.setCell w8 ⟨w5.heap.size,2,none⟩ (.int .u64 S)) _ _ #[.bool s2,.int .u64 H1,.int .u64 S,.int .i64 Z] _:=StN.at4 X7 2 (.int .u64 S)
  replace XR:=XR.stn SX (by omega);replace X5:=X5.stn SX (by omega);replace X6:=X6.stn SX (by omega);replace X8:=X8.stn SX (by omega);replace HB:=Hqs HB SX (by omega);replace X7:=SX.box;clear SX;generalize World.setCell w8 ⟨w5.heap.size,2,none⟩ (.int .u64 S)=w9 at *;have xX7:=X7.cell;have zX70:=X7.frozen;have xX8:=X8.cell
  go_upto_region 10 with (simp only [ha2])
  clear xX7 zX70 xX8
  have SX:StN w9 (World.setCell w9 ⟨w5.heap.size,1,none⟩ (.int .u64 T)) _ _ #[.bool s2,.int .u64 T,.int .u64 S,.int .i64 Z] _:=StN.at4 X7 1 (.int .u64 T)
  replace XR:=XR.stn SX (by omega);replace X5:=X5.stn SX (by omega);replace X6:=X6.stn SX (by omega);replace X8:=X8.stn SX (by omega);replace HB:=Hqs HB SX (by omega);replace X7:=SX.box;clear SX;generalize World.setCell w9 ⟨w5.heap.size,1,none⟩ (.int .u64 T)=wA at *;have xXR:=XR.cell;have zXR0:=XR.frozen;have xX7:=X7.cell
  go_wp2;clear xXR zXR0 xX7;have SX:=StN.mk4 XR (.bool s2) (.int .u64 T) (.int .u64 S) (.int .i64 Z)
  exact bodyPost_ret (v:= .agg #[.bool s2,.int .u64 T,.int .u64 S,.int .i64 Z]) (by simp [results,Tryz.results172,go_sem,SX.box.cell]) rfl ⟨_,_,_,_,rfl,wd_of o3 o4 o1 o2 OO.out.1 z1 z2 fun up=>by rw [←HZ.out];exact (OO.out.2 up (by first | rfl | trivial)).2.2,(SX.below HB.out (by omega))⟩
 ·have hxor:(s2 !=s1)=true:=by cases s2 <;> cases s1 <;> first | rfl | exact absurd rfl hs
  have hne:(s2==s1)=false:=by cases s2 <;> cases s1 <;> first | rfl | exact absurd rfl hs
  have hswv:=HSW.out (M2*9223372036854775808-mvd M1 n);rw [hxor,wsg_t]at hswv;have hb:=(hswv true (by omega)).1;obtain⟨S,c,T,d,f1,f2,f3,f4,c0,c1,o1,o2,o3,o4,o5⟩:=sub_words p1 p2 hb
  have ha1:=fun W:World=>aSub64 W p1.2.2.1 p1.2.2.2.1 p2.2.2.1 p2.2.2.2.1 (by decide) (by decide) f1 f2
  have ha2:=fun W:World=>aSub64 W p1.1 p1.2.1 p2.1 p2.2.1 c0 c1 f3 f4
  have OO:=Lib.hid (And.intro o5 hswv)
  clear f1 f2 f3 f4 p1 p2 hb hswv o5;have xX5:=X5.cell;have xX6:=X6.cell;have xX7:=X7.cell;have zX70:=X7.frozen;have xX8:=X8.cell
  go_upto_region 9 with (simp only [ha1])
  clear xX5 xX6 xX7 zX70 xX8
  have SX:StN w8 (World.setCell w8 ⟨w5.heap.size,2,none⟩ (.int .u64 S)) _ _ #[.bool s2,.int .u64 H1,.int .u64 S,.int .i64 Z] _:=StN.at4 X7 2 (.int .u64 S)
  replace XR:=XR.stn SX (by omega);replace X5:=X5.stn SX (by omega);replace X6:=X6.stn SX (by omega);replace X8:=X8.stn SX (by omega);replace HB:=Hqs HB SX (by omega);replace X7:=SX.box;clear SX;generalize World.setCell w8 ⟨w5.heap.size,2,none⟩ (.int .u64 S)=w9 at *;have xX7:=X7.cell;have zX70:=X7.frozen;have xX8:=X8.cell
  go_upto_region 10 with (simp only [ha2])
  clear xX7 zX70 xX8
  have SX:StN w9 (World.setCell w9 ⟨w5.heap.size,1,none⟩ (.int .u64 T)) _ _ #[.bool s2,.int .u64 T,.int .u64 S,.int .i64 Z] _:=StN.at4 X7 1 (.int .u64 T)
  replace XR:=XR.stn SX (by omega);replace X5:=X5.stn SX (by omega);replace X6:=X6.stn SX (by omega);replace X8:=X8.stn SX (by omega);replace HB:=Hqs HB SX (by omega);replace X7:=SX.box;clear SX;generalize World.setCell w9 ⟨w5.heap.size,1,none⟩ (.int .u64 T)=wA at *;have xXR:=XR.cell;have zXR0:=XR.frozen;have xX7:=X7.cell
  go_wp2;clear xXR zXR0 xX7;have SX:=StN.mk4 XR (.bool s2) (.int .u64 T) (.int .u64 S) (.int .i64 Z)
  exact bodyPost_ret (v:= .agg #[.bool s2,.int .u64 T,.int .u64 S,.int .i64 Z]) (by simp [results,Tryz.results172,go_sem,SX.box.cell]) rfl ⟨_,_,_,_,rfl,wd_of o3 o4 o1 o2 OO.out.1 z1 z2 fun up=>by rw [←HZ.out];exact (OO.out.2 up (by omega)).2.2,(SX.below HB.out (by omega))⟩
theorem sum_eqlt{w:World}{s1 s2:Bool}{M1 M2 E1 E2 x y:Int}(hT:Tb w)(q1:Fq 1 s1 M1 E1 x)(q2:Fq 1 s2 M2 E2 y)(h:E1=E2)(hm:M1 < M2):Calls Tryz.prog 172 #[VQ 1 s1 M1 E1,VQ 1 s2 M2 E2] w (PW6 w fun up=>addp up x y):=by
 delta VQ
 obtain⟨a1,a2,a3,a4,_⟩:=fq_vr q1;obtain⟨b1,b2,b3,b4,_⟩:=fq_vr q2
 have HO:=Lib.hid (And.intro h hm)
 obtain⟨n,hn⟩:∃n:Nat,(n:Int)=E2-E1+1:=⟨(E2-E1+1).toNat,by omega⟩
 have hsw:∀(S:Int) up,S=M2*9223372036854775808+sgi (s2 !=s1) (mvd M1 n)→0≤S∧S < 340282366920938463463374607431768211456∧rnd up (mk (sgi s2 S) (E2+1-64)).1 (mk (sgi s2 S) (E2+1-64)).2=addp up x y:=fun S up hS=>by
  obtain⟨u1,u2,u3⟩:=sum_wide up q2 q1 (by omega) hn hS;refine⟨u1,u2,?_⟩
  rw [show E2+1-64=E2-63 by omega,u3]
  exact addp_comm up
 have HSW:=Lib.hid hsw;obtain⟨N,hN⟩:∃N,(n:Int)=N:=⟨_,rfl⟩;obtain⟨D,hD⟩:∃D,E2-E1=D:=⟨_,rfl⟩
 have n1:1≤n:=by omega
 have n3:n≤4000000:=by omega
 have HN:=Lib.hid hN
 have HD:=Lib.hid (show IntKind.i64.wrap (E2-E1)=D by rw [hD];exact IntWalk.i64_in _ (by omega))
 have HD2:=Lib.hid (show IntKind.i64.wrap (D+1)=N by rw [show D+1=N by omega];exact IntWalk.i64_in _ (by omega))
 obtain⟨Y,hY⟩:∃Y,E1+N=Y:=⟨_,rfl⟩;have HY:=Lib.hid hY;obtain⟨Z,hZ⟩:∃Z,E2+1=Z:=⟨_,rfl⟩;have HZ:=Lib.hid hZ
 have z1: -2900000≤Z:=by omega
 have z2:Z≤2900000:=by omega
 have v1:mvd M2 1=M2*9223372036854775808:=by
  unfold mvd
  rw [if_pos (by decide)]
  rfl
 have HV1:=Lib.hid v1
 have g1:9223372036854775808≤M2:=by omega
 have g2:M2 < 18446744073709551616:=by omega
 have g3: -2000000≤E2:=by omega
 have g4:E2≤2000000:=by omega
 have k1:9223372036854775808≤M1:=by omega
 have k2:M1 < 18446744073709551616:=by omega
 have k3: -2000000≤E1:=by omega
 have k4:E1≤2000000:=by omega
 clear hn hN hD hY hZ v1 hsw h hm q1 q2 a1 a2 a3 a4 b1 b2 b3 b4
 go_enter Tryz.func172,Tryz.ntmps172
 go_upto_region 1 with (fail)
 generalize hW1:((w.alloc _).alloc _).alloc _=w1 at *;obtain⟨X2,X3,XR,HB⟩:=Bo.en3 hW1;replace hT:=hT.below HB.out;clear hW1;have xX2:=X2.cell;have xX3:=X3.cell
 go_wp2_with fail
 refine (order_eqlt HO.out.1 (by have:=HO.out.2;omega)).mono ?_;rintro ee w2 ⟨rfl,B⟩;clear xX2 xX3;replace X2:=X2.below B;replace X3:=X3.below B;replace XR:=XR.below B;replace hT:=hT.below B;replace HB:=Hqb HB B;clear B
 go_upto_region 2 with (fail)
 clear X2 X3
 have hsz:(World.alloc w2 (.cells #[.int .i64 1,.bool s2,.int .u64 M2,.int .i64 E2] 24)).heap.size=w2.heap.size+1:=by simp
 have lX5:=Nat.le_refl (World.heap w2).size;have nX5XR:=XR.lt;have BX:=bel1 w2 (.cells #[.int .i64 1,.bool s2,.int .u64 M2,.int .i64 E2] 24);replace XR:=XR.below BX;replace hT:=hT.below BX;replace HB:=Lib.hid (bt HB.out BX);have X5:=Bo.new w2 #[.int .i64 1,.bool s2,.int .u64 M2,.int .i64 E2] 24
 generalize hWn:World.alloc w2 (.cells #[.int .i64 1,.bool s2,.int .u64 M2,.int .i64 E2] 24)=w3 at *;clear hWn;have lX6:=Nat.le_refl (World.heap w3).size;have nX6XR:=XR.lt;have nX6X5:=X5.lt;generalize hWn:w3.alloc _=w4 at *;obtain⟨X6,BW⟩:=Bo.nw hWn;clear hWn;replace XR:=XR.below BW;replace X5:=X5.below BW;replace hT:=hT.below BW;replace HB:=Hqb HB BW
 clear BW;rw [hsz]at X6 nX6X5 nX6XR;clear lX5 lX6 hsz;have xX5:=X5.cell
 go_wp2_with fail
 refine (aMoved (n:=1) (s:=s2) hT g1 g2 (by rfl) HZ.out g3 g4 (by decide) (by decide)).mono ?_;rintro ee w5 ⟨H1,L1,rfl,p1,B⟩;clear xX5;replace XR:=XR.below B;replace X5:=X5.below B;replace X6:=X6.below B;replace hT:=hT.below B;replace HB:=Hqb HB B;clear B;rw [HV1.out]at p1
 go_upto_region 3 with (fail)
 have lX7:=Nat.le_refl (World.heap w5).size;have nX7XR:=XR.lt;have nX7X5:=X5.lt;have nX7X6:=X6.lt;generalize hWn:w5.alloc _=w6 at *;obtain⟨X7,BW⟩:=Bo.nw hWn;clear hWn;replace XR:=XR.below BW;replace X5:=X5.below BW;replace X6:=X6.below BW;replace hT:=hT.below BW;replace HB:=Hqb HB BW;clear BW;clear lX7;have xX5:=X5.cell;have xX6:=X6.cell
 have hd:=HD.out;have hd2:=HD2.out
 go_wp2_with fail
 refine (aMoved (s:=s1) hT k1 k2 HN.out HY.out k3 k4 n1 n3).mono ?_;rintro ee w7 ⟨H2,L2,rfl,p2,B⟩;clear xX5 xX6;replace XR:=XR.below B;replace X5:=X5.below B;replace X6:=X6.below B;replace X7:=X7.below B;replace hT:=hT.below B;replace HB:=Hqb HB B;clear B;clear hd hd2
 go_upto_region 5 with (fail)
 have lX8:=Nat.le_refl (World.heap w7).size;have nX8XR:=XR.lt;have nX8X5:=X5.lt;have nX8X6:=X6.lt;have nX8X7:=X7.lt;generalize hWn:w7.alloc _=w8 at *;obtain⟨X8,BW⟩:=Bo.nw hWn;clear hWn;replace XR:=XR.below BW;replace X5:=X5.below BW;replace X6:=X6.below BW;replace X7:=X7.below BW;replace hT:=hT.below BW;replace HB:=Hqb HB BW;clear BW;clear lX8
 by_cases hs:s2=s1
 ·subst hs
  have hxor:(s2 !=s2)=false:=by cases s2 <;> rfl
  have hswv:=HSW.out (M2*9223372036854775808+mvd M1 n);rw [hxor,wsg_f]at hswv;have hb:=(hswv true rfl).2.1;obtain⟨S,c,T,d,f1,f2,f3,f4,c0,c1,o1,o2,o3,o4,o5⟩:=add_words p1 p2 hb
  have ha1:=fun W:World=>aAdd64 W p1.2.2.1 p2.2.2.1 (by decide) (by decide) f1 f2
  have ha2:=fun W:World=>aAdd64 W p1.1 p2.1 c0 c1 f3 f4
  have OO:=Lib.hid (And.intro o5 hswv)
  clear f1 f2 f3 f4 p1 p2 hb hswv o5;have xX5:=X5.cell;have xX6:=X6.cell;have xX7:=X7.cell;have zX70:=X7.frozen;have xX8:=X8.cell
  go_upto_region 7 with (simp only [ha1])
  clear xX5 xX6 xX7 zX70 xX8
  have SX:StN w8 (World.setCell w8 ⟨w5.heap.size,2,none⟩ (.int .u64 S)) _ _ #[.bool s2,.int .u64 H1,.int .u64 S,.int .i64 Z] _:=StN.at4 X7 2 (.int .u64 S)
  replace XR:=XR.stn SX (by omega);replace X5:=X5.stn SX (by omega);replace X6:=X6.stn SX (by omega);replace X8:=X8.stn SX (by omega);replace HB:=Hqs HB SX (by omega);replace X7:=SX.box;clear SX;generalize World.setCell w8 ⟨w5.heap.size,2,none⟩ (.int .u64 S)=w9 at *;have xX7:=X7.cell;have zX70:=X7.frozen;have xX8:=X8.cell
  go_upto_region 10 with (simp only [ha2])
  clear xX7 zX70 xX8
  have SX:StN w9 (World.setCell w9 ⟨w5.heap.size,1,none⟩ (.int .u64 T)) _ _ #[.bool s2,.int .u64 T,.int .u64 S,.int .i64 Z] _:=StN.at4 X7 1 (.int .u64 T)
  replace XR:=XR.stn SX (by omega);replace X5:=X5.stn SX (by omega);replace X6:=X6.stn SX (by omega);replace X8:=X8.stn SX (by omega);replace HB:=Hqs HB SX (by omega);replace X7:=SX.box;clear SX;generalize World.setCell w9 ⟨w5.heap.size,1,none⟩ (.int .u64 T)=wA at *;have xXR:=XR.cell;have zXR0:=XR.frozen;have xX7:=X7.cell
  go_wp2;clear xXR zXR0 xX7;have SX:=StN.mk4 XR (.bool s2) (.int .u64 T) (.int .u64 S) (.int .i64 Z)
  exact bodyPost_ret (v:= .agg #[.bool s2,.int .u64 T,.int .u64 S,.int .i64 Z]) (by simp [results,Tryz.results172,go_sem,SX.box.cell]) rfl ⟨_,_,_,_,rfl,wd_of o3 o4 o1 o2 OO.out.1 z1 z2 fun up=>by rw [←HZ.out];exact (OO.out.2 up (by first | rfl | trivial)).2.2,(SX.below HB.out (by omega))⟩
 ·have hxor:(s2 !=s1)=true:=by cases s2 <;> cases s1 <;> first | rfl | exact absurd rfl hs
  have hne:(s2==s1)=false:=by cases s2 <;> cases s1 <;> first | rfl | exact absurd rfl hs
  have hswv:=HSW.out (M2*9223372036854775808-mvd M1 n);rw [hxor,wsg_t]at hswv;have hb:=(hswv true (by omega)).1;obtain⟨S,c,T,d,f1,f2,f3,f4,c0,c1,o1,o2,o3,o4,o5⟩:=sub_words p1 p2 hb
  have ha1:=fun W:World=>aSub64 W p1.2.2.1 p1.2.2.2.1 p2.2.2.1 p2.2.2.2.1 (by decide) (by decide) f1 f2
  have ha2:=fun W:World=>aSub64 W p1.1 p1.2.1 p2.1 p2.2.1 c0 c1 f3 f4
  have OO:=Lib.hid (And.intro o5 hswv)
  clear f1 f2 f3 f4 p1 p2 hb hswv o5;have xX5:=X5.cell;have xX6:=X6.cell;have xX7:=X7.cell;have zX70:=X7.frozen;have xX8:=X8.cell
  go_upto_region 9 with (simp only [ha1])
  clear xX5 xX6 xX7 zX70 xX8
  have SX:StN w8 (World.setCell w8 ⟨w5.heap.size,2,none⟩ (.int .u64 S)) _ _ #[.bool s2,.int .u64 H1,.int .u64 S,.int .i64 Z] _:=StN.at4 X7 2 (.int .u64 S)
  replace XR:=XR.stn SX (by omega);replace X5:=X5.stn SX (by omega);replace X6:=X6.stn SX (by omega);replace X8:=X8.stn SX (by omega);replace HB:=Hqs HB SX (by omega);replace X7:=SX.box;clear SX;generalize World.setCell w8 ⟨w5.heap.size,2,none⟩ (.int .u64 S)=w9 at *;have xX7:=X7.cell;have zX70:=X7.frozen;have xX8:=X8.cell
  go_upto_region 10 with (simp only [ha2])
  clear xX7 zX70 xX8
  have SX:StN w9 (World.setCell w9 ⟨w5.heap.size,1,none⟩ (.int .u64 T)) _ _ #[.bool s2,.int .u64 T,.int .u64 S,.int .i64 Z] _:=StN.at4 X7 1 (.int .u64 T)
  replace XR:=XR.stn SX (by omega);replace X5:=X5.stn SX (by omega);replace X6:=X6.stn SX (by omega);replace X8:=X8.stn SX (by omega);replace HB:=Hqs HB SX (by omega);replace X7:=SX.box;clear SX;generalize World.setCell w9 ⟨w5.heap.size,1,none⟩ (.int .u64 T)=wA at *;have xXR:=XR.cell;have zXR0:=XR.frozen;have xX7:=X7.cell
  go_wp2;clear xXR zXR0 xX7;have SX:=StN.mk4 XR (.bool s2) (.int .u64 T) (.int .u64 S) (.int .i64 Z)
  exact bodyPost_ret (v:= .agg #[.bool s2,.int .u64 T,.int .u64 S,.int .i64 Z]) (by simp [results,Tryz.results172,go_sem,SX.box.cell]) rfl ⟨_,_,_,_,rfl,wd_of o3 o4 o1 o2 OO.out.1 z1 z2 fun up=>by rw [←HZ.out];exact (OO.out.2 up (by omega)).2.2,(SX.below HB.out (by omega))⟩
theorem sum_eqge{w:World}{s1 s2:Bool}{M1 M2 E1 E2 x y:Int}(hT:Tb w)(q1:Fq 1 s1 M1 E1 x)(q2:Fq 1 s2 M2 E2 y)(h:E1=E2)(hm:¬M1 < M2):Calls Tryz.prog 172 #[VQ 1 s1 M1 E1,VQ 1 s2 M2 E2] w (PW6 w fun up=>addp up x y):=by
 delta VQ
 obtain⟨a1,a2,a3,a4,_⟩:=fq_vr q1;obtain⟨b1,b2,b3,b4,_⟩:=fq_vr q2
 have HO:=Lib.hid (And.intro h hm)
 obtain⟨n,hn⟩:∃n:Nat,(n:Int)=E1-E2+1:=⟨(E1-E2+1).toNat,by omega⟩
 have hsw:∀(S:Int) up,S=M1*9223372036854775808+sgi (s1 !=s2) (mvd M2 n)→0≤S∧S < 340282366920938463463374607431768211456∧rnd up (mk (sgi s1 S) (E1+1-64)).1 (mk (sgi s1 S) (E1+1-64)).2=addp up x y:=fun S up hS=>by
  obtain⟨u1,u2,u3⟩:=sum_wide up q1 q2 (by omega) hn hS;refine⟨u1,u2,?_⟩
  rw [show E1+1-64=E1-63 by omega,u3]
 have HSW:=Lib.hid hsw;obtain⟨N,hN⟩:∃N,(n:Int)=N:=⟨_,rfl⟩;obtain⟨D,hD⟩:∃D,E1-E2=D:=⟨_,rfl⟩
 have n1:1≤n:=by omega
 have n3:n≤4000000:=by omega
 have HN:=Lib.hid hN
 have HD:=Lib.hid (show IntKind.i64.wrap (E1-E2)=D by rw [hD];exact IntWalk.i64_in _ (by omega))
 have HD2:=Lib.hid (show IntKind.i64.wrap (D+1)=N by rw [show D+1=N by omega];exact IntWalk.i64_in _ (by omega))
 obtain⟨Y,hY⟩:∃Y,E2+N=Y:=⟨_,rfl⟩;have HY:=Lib.hid hY;obtain⟨Z,hZ⟩:∃Z,E1+1=Z:=⟨_,rfl⟩;have HZ:=Lib.hid hZ
 have z1: -2900000≤Z:=by omega
 have z2:Z≤2900000:=by omega
 have v1:mvd M1 1=M1*9223372036854775808:=by
  unfold mvd
  rw [if_pos (by decide)]
  rfl
 have HV1:=Lib.hid v1
 have g1:9223372036854775808≤M1:=by omega
 have g2:M1 < 18446744073709551616:=by omega
 have g3: -2000000≤E1:=by omega
 have g4:E1≤2000000:=by omega
 have k1:9223372036854775808≤M2:=by omega
 have k2:M2 < 18446744073709551616:=by omega
 have k3: -2000000≤E2:=by omega
 have k4:E2≤2000000:=by omega
 clear hn hN hD hY hZ v1 hsw h hm q1 q2 a1 a2 a3 a4 b1 b2 b3 b4
 go_enter Tryz.func172,Tryz.ntmps172
 go_upto_region 1 with (fail)
 generalize hW1:((w.alloc _).alloc _).alloc _=w1 at *;obtain⟨X2,X3,XR,HB⟩:=Bo.en3 hW1;replace hT:=hT.below HB.out;clear hW1;have xX2:=X2.cell;have xX3:=X3.cell
 go_wp2_with fail
 refine (order_eqge HO.out.1 (by have:=HO.out.2;omega)).mono ?_;rintro ee w2 ⟨rfl,B⟩;clear xX2 xX3;replace X2:=X2.below B;replace X3:=X3.below B;replace XR:=XR.below B;replace hT:=hT.below B;replace HB:=Hqb HB B;clear B
 go_upto_region 2 with (fail)
 clear X2 X3
 have hsz:(World.alloc w2 (.cells #[.int .i64 1,.bool s1,.int .u64 M1,.int .i64 E1] 24)).heap.size=w2.heap.size+1:=by simp
 have lX5:=Nat.le_refl (World.heap w2).size;have nX5XR:=XR.lt;have BX:=bel1 w2 (.cells #[.int .i64 1,.bool s1,.int .u64 M1,.int .i64 E1] 24);replace XR:=XR.below BX;replace hT:=hT.below BX;replace HB:=Lib.hid (bt HB.out BX);have X5:=Bo.new w2 #[.int .i64 1,.bool s1,.int .u64 M1,.int .i64 E1] 24
 generalize hWn:World.alloc w2 (.cells #[.int .i64 1,.bool s1,.int .u64 M1,.int .i64 E1] 24)=w3 at *;clear hWn;have lX6:=Nat.le_refl (World.heap w3).size;have nX6XR:=XR.lt;have nX6X5:=X5.lt;generalize hWn:w3.alloc _=w4 at *;obtain⟨X6,BW⟩:=Bo.nw hWn;clear hWn;replace XR:=XR.below BW;replace X5:=X5.below BW;replace hT:=hT.below BW;replace HB:=Hqb HB BW
 clear BW;rw [hsz]at X6 nX6X5 nX6XR;clear lX5 lX6 hsz;have xX5:=X5.cell
 go_wp2_with fail
 refine (aMoved (n:=1) (s:=s1) hT g1 g2 (by rfl) HZ.out g3 g4 (by decide) (by decide)).mono ?_;rintro ee w5 ⟨H1,L1,rfl,p1,B⟩;clear xX5;replace XR:=XR.below B;replace X5:=X5.below B;replace X6:=X6.below B;replace hT:=hT.below B;replace HB:=Hqb HB B;clear B;rw [HV1.out]at p1
 go_upto_region 3 with (fail)
 have lX7:=Nat.le_refl (World.heap w5).size;have nX7XR:=XR.lt;have nX7X5:=X5.lt;have nX7X6:=X6.lt;generalize hWn:w5.alloc _=w6 at *;obtain⟨X7,BW⟩:=Bo.nw hWn;clear hWn;replace XR:=XR.below BW;replace X5:=X5.below BW;replace X6:=X6.below BW;replace hT:=hT.below BW;replace HB:=Hqb HB BW;clear BW;clear lX7;have xX5:=X5.cell;have xX6:=X6.cell
 have hd:=HD.out;have hd2:=HD2.out
 go_wp2_with fail
 refine (aMoved (s:=s2) hT k1 k2 HN.out HY.out k3 k4 n1 n3).mono ?_;rintro ee w7 ⟨H2,L2,rfl,p2,B⟩;clear xX5 xX6;replace XR:=XR.below B;replace X5:=X5.below B;replace X6:=X6.below B;replace X7:=X7.below B;replace hT:=hT.below B;replace HB:=Hqb HB B;clear B;clear hd hd2
 go_upto_region 5 with (fail)
 have lX8:=Nat.le_refl (World.heap w7).size;have nX8XR:=XR.lt;have nX8X5:=X5.lt;have nX8X6:=X6.lt;have nX8X7:=X7.lt;generalize hWn:w7.alloc _=w8 at *;obtain⟨X8,BW⟩:=Bo.nw hWn;clear hWn;replace XR:=XR.below BW;replace X5:=X5.below BW;replace X6:=X6.below BW;replace X7:=X7.below BW;replace hT:=hT.below BW;replace HB:=Hqb HB BW;clear BW;clear lX8
 by_cases hs:s1=s2
 ·subst hs
  have hxor:(s1 !=s1)=false:=by cases s1 <;> rfl
  have hswv:=HSW.out (M1*9223372036854775808+mvd M2 n);rw [hxor,wsg_f]at hswv;have hb:=(hswv true rfl).2.1;obtain⟨S,c,T,d,f1,f2,f3,f4,c0,c1,o1,o2,o3,o4,o5⟩:=add_words p1 p2 hb
  have ha1:=fun W:World=>aAdd64 W p1.2.2.1 p2.2.2.1 (by decide) (by decide) f1 f2
  have ha2:=fun W:World=>aAdd64 W p1.1 p2.1 c0 c1 f3 f4
  have OO:=Lib.hid (And.intro o5 hswv)
  clear f1 f2 f3 f4 p1 p2 hb hswv o5;have xX5:=X5.cell;have xX6:=X6.cell;have xX7:=X7.cell;have zX70:=X7.frozen;have xX8:=X8.cell
  go_upto_region 7 with (simp only [ha1])
  clear xX5 xX6 xX7 zX70 xX8
  have SX:StN w8 (World.setCell w8 ⟨w5.heap.size,2,none⟩ (.int .u64 S)) _ _ #[.bool s1,.int .u64 H1,.int .u64 S,.int .i64 Z] _:=StN.at4 X7 2 (.int .u64 S)
  replace XR:=XR.stn SX (by omega);replace X5:=X5.stn SX (by omega);replace X6:=X6.stn SX (by omega);replace X8:=X8.stn SX (by omega);replace HB:=Hqs HB SX (by omega);replace X7:=SX.box;clear SX;generalize World.setCell w8 ⟨w5.heap.size,2,none⟩ (.int .u64 S)=w9 at *;have xX7:=X7.cell;have zX70:=X7.frozen;have xX8:=X8.cell
  go_upto_region 10 with (simp only [ha2])
  clear xX7 zX70 xX8
  have SX:StN w9 (World.setCell w9 ⟨w5.heap.size,1,none⟩ (.int .u64 T)) _ _ #[.bool s1,.int .u64 T,.int .u64 S,.int .i64 Z] _:=StN.at4 X7 1 (.int .u64 T)
  replace XR:=XR.stn SX (by omega);replace X5:=X5.stn SX (by omega);replace X6:=X6.stn SX (by omega);replace X8:=X8.stn SX (by omega);replace HB:=Hqs HB SX (by omega);replace X7:=SX.box;clear SX;generalize World.setCell w9 ⟨w5.heap.size,1,none⟩ (.int .u64 T)=wA at *;have xXR:=XR.cell;have zXR0:=XR.frozen;have xX7:=X7.cell
  go_wp2;clear xXR zXR0 xX7;have SX:=StN.mk4 XR (.bool s1) (.int .u64 T) (.int .u64 S) (.int .i64 Z)
  exact bodyPost_ret (v:= .agg #[.bool s1,.int .u64 T,.int .u64 S,.int .i64 Z]) (by simp [results,Tryz.results172,go_sem,SX.box.cell]) rfl ⟨_,_,_,_,rfl,wd_of o3 o4 o1 o2 OO.out.1 z1 z2 fun up=>by rw [←HZ.out];exact (OO.out.2 up (by first | rfl | trivial)).2.2,(SX.below HB.out (by omega))⟩
 ·have hxor:(s1 !=s2)=true:=by cases s1 <;> cases s2 <;> first | rfl | exact absurd rfl hs
  have hne:(s1==s2)=false:=by cases s1 <;> cases s2 <;> first | rfl | exact absurd rfl hs
  have hswv:=HSW.out (M1*9223372036854775808-mvd M2 n);rw [hxor,wsg_t]at hswv;have hb:=(hswv true (by omega)).1;obtain⟨S,c,T,d,f1,f2,f3,f4,c0,c1,o1,o2,o3,o4,o5⟩:=sub_words p1 p2 hb
  have ha1:=fun W:World=>aSub64 W p1.2.2.1 p1.2.2.2.1 p2.2.2.1 p2.2.2.2.1 (by decide) (by decide) f1 f2
  have ha2:=fun W:World=>aSub64 W p1.1 p1.2.1 p2.1 p2.2.1 c0 c1 f3 f4
  have OO:=Lib.hid (And.intro o5 hswv)
  clear f1 f2 f3 f4 p1 p2 hb hswv o5;have xX5:=X5.cell;have xX6:=X6.cell;have xX7:=X7.cell;have zX70:=X7.frozen;have xX8:=X8.cell
  go_upto_region 9 with (simp only [ha1])
  clear xX5 xX6 xX7 zX70 xX8
  have SX:StN w8 (World.setCell w8 ⟨w5.heap.size,2,none⟩ (.int .u64 S)) _ _ #[.bool s1,.int .u64 H1,.int .u64 S,.int .i64 Z] _:=StN.at4 X7 2 (.int .u64 S)
  replace XR:=XR.stn SX (by omega);replace X5:=X5.stn SX (by omega);replace X6:=X6.stn SX (by omega);replace X8:=X8.stn SX (by omega);replace HB:=Hqs HB SX (by omega);replace X7:=SX.box;clear SX;generalize World.setCell w8 ⟨w5.heap.size,2,none⟩ (.int .u64 S)=w9 at *;have xX7:=X7.cell;have zX70:=X7.frozen;have xX8:=X8.cell
  go_upto_region 10 with (simp only [ha2])
  clear xX7 zX70 xX8
  have SX:StN w9 (World.setCell w9 ⟨w5.heap.size,1,none⟩ (.int .u64 T)) _ _ #[.bool s1,.int .u64 T,.int .u64 S,.int .i64 Z] _:=StN.at4 X7 1 (.int .u64 T)
  replace XR:=XR.stn SX (by omega);replace X5:=X5.stn SX (by omega);replace X6:=X6.stn SX (by omega);replace X8:=X8.stn SX (by omega);replace HB:=Hqs HB SX (by omega);replace X7:=SX.box;clear SX;generalize World.setCell w9 ⟨w5.heap.size,1,none⟩ (.int .u64 T)=wA at *;have xXR:=XR.cell;have zXR0:=XR.frozen;have xX7:=X7.cell
  go_wp2;clear xXR zXR0 xX7;have SX:=StN.mk4 XR (.bool s1) (.int .u64 T) (.int .u64 S) (.int .i64 Z)
  exact bodyPost_ret (v:= .agg #[.bool s1,.int .u64 T,.int .u64 S,.int .i64 Z]) (by simp [results,Tryz.results172,go_sem,SX.box.cell]) rfl ⟨_,_,_,_,rfl,wd_of o3 o4 o1 o2 OO.out.1 z1 z2 fun up=>by rw [←HZ.out];exact (OO.out.2 up (by omega)).2.2,(SX.below HB.out (by omega))⟩
theorem sum_gt{w:World}{s1 s2:Bool}{M1 M2 E1 E2 x y:Int}(hT:Tb w)(q1:Fq 1 s1 M1 E1 x)(q2:Fq 1 s2 M2 E2 y)(h:E2 < E1):Calls Tryz.prog 172 #[VQ 1 s1 M1 E1,VQ 1 s2 M2 E2] w (PW6 w fun up=>addp up x y):=by
 delta VQ
 obtain⟨a1,a2,a3,a4,_⟩:=fq_vr q1;obtain⟨b1,b2,b3,b4,_⟩:=fq_vr q2;have HO:=Lib.hid (h);obtain⟨n,hn⟩:∃n:Nat,(n:Int)=E1-E2+1:=⟨(E1-E2+1).toNat,by omega⟩
 have hsw:∀(S:Int) up,S=M1*9223372036854775808+sgi (s1 !=s2) (mvd M2 n)→0≤S∧S < 340282366920938463463374607431768211456∧rnd up (mk (sgi s1 S) (E1+1-64)).1 (mk (sgi s1 S) (E1+1-64)).2=addp up x y:=fun S up hS=>by
  obtain⟨u1,u2,u3⟩:=sum_wide up q1 q2 (by omega) hn hS;refine⟨u1,u2,?_⟩
  rw [show E1+1-64=E1-63 by omega,u3]
 have HSW:=Lib.hid hsw;obtain⟨N,hN⟩:∃N,(n:Int)=N:=⟨_,rfl⟩;obtain⟨D,hD⟩:∃D,E1-E2=D:=⟨_,rfl⟩
 have n1:1≤n:=by omega
 have n3:n≤4000000:=by omega
 have HN:=Lib.hid hN
 have HD:=Lib.hid (show IntKind.i64.wrap (E1-E2)=D by rw [hD];exact IntWalk.i64_in _ (by omega))
 have HD2:=Lib.hid (show IntKind.i64.wrap (D+1)=N by rw [show D+1=N by omega];exact IntWalk.i64_in _ (by omega))
 obtain⟨Y,hY⟩:∃Y,E2+N=Y:=⟨_,rfl⟩;have HY:=Lib.hid hY;obtain⟨Z,hZ⟩:∃Z,E1+1=Z:=⟨_,rfl⟩;have HZ:=Lib.hid hZ
 have z1: -2900000≤Z:=by omega
 have z2:Z≤2900000:=by omega
 have v1:mvd M1 1=M1*9223372036854775808:=by
  unfold mvd
  rw [if_pos (by decide)]
  rfl
 have HV1:=Lib.hid v1
 have g1:9223372036854775808≤M1:=by omega
 have g2:M1 < 18446744073709551616:=by omega
 have g3: -2000000≤E1:=by omega
 have g4:E1≤2000000:=by omega
 have k1:9223372036854775808≤M2:=by omega
 have k2:M2 < 18446744073709551616:=by omega
 have k3: -2000000≤E2:=by omega
 have k4:E2≤2000000:=by omega
 clear hn hN hD hY hZ v1 hsw h q1 q2 a1 a2 a3 a4 b1 b2 b3 b4
 go_enter Tryz.func172,Tryz.ntmps172
 go_upto_region 1 with (fail)
 generalize hW1:((w.alloc _).alloc _).alloc _=w1 at *;obtain⟨X2,X3,XR,HB⟩:=Bo.en3 hW1;replace hT:=hT.below HB.out;clear hW1;have xX2:=X2.cell;have xX3:=X3.cell
 go_wp2_with fail
 refine (order_gt HO.out).mono ?_;rintro ee w2 ⟨rfl,B⟩;clear xX2 xX3;replace X2:=X2.below B;replace X3:=X3.below B;replace XR:=XR.below B;replace hT:=hT.below B;replace HB:=Hqb HB B;clear B
 go_upto_region 2 with (fail)
 clear X2 X3
 have hsz:(World.alloc w2 (.cells #[.int .i64 1,.bool s1,.int .u64 M1,.int .i64 E1] 24)).heap.size=w2.heap.size+1:=by simp
 have lX5:=Nat.le_refl (World.heap w2).size;have nX5XR:=XR.lt;have BX:=bel1 w2 (.cells #[.int .i64 1,.bool s1,.int .u64 M1,.int .i64 E1] 24);replace XR:=XR.below BX;replace hT:=hT.below BX;replace HB:=Lib.hid (bt HB.out BX);have X5:=Bo.new w2 #[.int .i64 1,.bool s1,.int .u64 M1,.int .i64 E1] 24
 generalize hWn:World.alloc w2 (.cells #[.int .i64 1,.bool s1,.int .u64 M1,.int .i64 E1] 24)=w3 at *;clear hWn;have lX6:=Nat.le_refl (World.heap w3).size;have nX6XR:=XR.lt;have nX6X5:=X5.lt;generalize hWn:w3.alloc _=w4 at *;obtain⟨X6,BW⟩:=Bo.nw hWn;clear hWn;replace XR:=XR.below BW;replace X5:=X5.below BW;replace hT:=hT.below BW;replace HB:=Hqb HB BW
 clear BW;rw [hsz]at X6 nX6X5 nX6XR;clear lX5 lX6 hsz;have xX5:=X5.cell
 go_wp2_with fail
 refine (aMoved (n:=1) (s:=s1) hT g1 g2 (by rfl) HZ.out g3 g4 (by decide) (by decide)).mono ?_;rintro ee w5 ⟨H1,L1,rfl,p1,B⟩;clear xX5;replace XR:=XR.below B;replace X5:=X5.below B;replace X6:=X6.below B;replace hT:=hT.below B;replace HB:=Hqb HB B;clear B;rw [HV1.out]at p1
 go_upto_region 3 with (fail)
 have lX7:=Nat.le_refl (World.heap w5).size;have nX7XR:=XR.lt;have nX7X5:=X5.lt;have nX7X6:=X6.lt;generalize hWn:w5.alloc _=w6 at *;obtain⟨X7,BW⟩:=Bo.nw hWn;clear hWn;replace XR:=XR.below BW;replace X5:=X5.below BW;replace X6:=X6.below BW;replace hT:=hT.below BW;replace HB:=Hqb HB BW;clear BW;clear lX7;have xX5:=X5.cell;have xX6:=X6.cell
 have hd:=HD.out;have hd2:=HD2.out
 go_wp2_with fail
 refine (aMoved (s:=s2) hT k1 k2 HN.out HY.out k3 k4 n1 n3).mono ?_;rintro ee w7 ⟨H2,L2,rfl,p2,B⟩;clear xX5 xX6;replace XR:=XR.below B;replace X5:=X5.below B;replace X6:=X6.below B;replace X7:=X7.below B;replace hT:=hT.below B;replace HB:=Hqb HB B;clear B;clear hd hd2
 go_upto_region 5 with (fail)
 have lX8:=Nat.le_refl (World.heap w7).size;have nX8XR:=XR.lt;have nX8X5:=X5.lt;have nX8X6:=X6.lt;have nX8X7:=X7.lt;generalize hWn:w7.alloc _=w8 at *;obtain⟨X8,BW⟩:=Bo.nw hWn;clear hWn;replace XR:=XR.below BW;replace X5:=X5.below BW;replace X6:=X6.below BW;replace X7:=X7.below BW;replace hT:=hT.below BW;replace HB:=Hqb HB BW;clear BW;clear lX8
 by_cases hs:s1=s2
 ·subst hs
  have hxor:(s1 !=s1)=false:=by cases s1 <;> rfl
  have hswv:=HSW.out (M1*9223372036854775808+mvd M2 n);rw [hxor,wsg_f]at hswv;have hb:=(hswv true rfl).2.1;obtain⟨S,c,T,d,f1,f2,f3,f4,c0,c1,o1,o2,o3,o4,o5⟩:=add_words p1 p2 hb
  have ha1:=fun W:World=>aAdd64 W p1.2.2.1 p2.2.2.1 (by decide) (by decide) f1 f2
  have ha2:=fun W:World=>aAdd64 W p1.1 p2.1 c0 c1 f3 f4
  have OO:=Lib.hid (And.intro o5 hswv)
  clear f1 f2 f3 f4 p1 p2 hb hswv o5;have xX5:=X5.cell;have xX6:=X6.cell;have xX7:=X7.cell;have zX70:=X7.frozen;have xX8:=X8.cell
  go_upto_region 7 with (simp only [ha1])
  clear xX5 xX6 xX7 zX70 xX8
  have SX:StN w8 (World.setCell w8 ⟨w5.heap.size,2,none⟩ (.int .u64 S)) _ _ #[.bool s1,.int .u64 H1,.int .u64 S,.int .i64 Z] _:=StN.at4 X7 2 (.int .u64 S)
  replace XR:=XR.stn SX (by omega);replace X5:=X5.stn SX (by omega);replace X6:=X6.stn SX (by omega);replace X8:=X8.stn SX (by omega);replace HB:=Hqs HB SX (by omega);replace X7:=SX.box;clear SX;generalize World.setCell w8 ⟨w5.heap.size,2,none⟩ (.int .u64 S)=w9 at *;have xX7:=X7.cell;have zX70:=X7.frozen;have xX8:=X8.cell
  go_upto_region 10 with (simp only [ha2])
  clear xX7 zX70 xX8
  have SX:StN w9 (World.setCell w9 ⟨w5.heap.size,1,none⟩ (.int .u64 T)) _ _ #[.bool s1,.int .u64 T,.int .u64 S,.int .i64 Z] _:=StN.at4 X7 1 (.int .u64 T)
  replace XR:=XR.stn SX (by omega);replace X5:=X5.stn SX (by omega);replace X6:=X6.stn SX (by omega);replace X8:=X8.stn SX (by omega);replace HB:=Hqs HB SX (by omega);replace X7:=SX.box;clear SX;generalize World.setCell w9 ⟨w5.heap.size,1,none⟩ (.int .u64 T)=wA at *;have xXR:=XR.cell;have zXR0:=XR.frozen;have xX7:=X7.cell
  go_wp2;clear xXR zXR0 xX7;have SX:=StN.mk4 XR (.bool s1) (.int .u64 T) (.int .u64 S) (.int .i64 Z)
  exact bodyPost_ret (v:= .agg #[.bool s1,.int .u64 T,.int .u64 S,.int .i64 Z]) (by simp [results,Tryz.results172,go_sem,SX.box.cell]) rfl ⟨_,_,_,_,rfl,wd_of o3 o4 o1 o2 OO.out.1 z1 z2 fun up=>by rw [←HZ.out];exact (OO.out.2 up (by first | rfl | trivial)).2.2,(SX.below HB.out (by omega))⟩
 ·have hxor:(s1 !=s2)=true:=by cases s1 <;> cases s2 <;> first | rfl | exact absurd rfl hs
  have hne:(s1==s2)=false:=by cases s1 <;> cases s2 <;> first | rfl | exact absurd rfl hs
  have hswv:=HSW.out (M1*9223372036854775808-mvd M2 n);rw [hxor,wsg_t]at hswv;have hb:=(hswv true (by omega)).1;obtain⟨S,c,T,d,f1,f2,f3,f4,c0,c1,o1,o2,o3,o4,o5⟩:=sub_words p1 p2 hb
  have ha1:=fun W:World=>aSub64 W p1.2.2.1 p1.2.2.2.1 p2.2.2.1 p2.2.2.2.1 (by decide) (by decide) f1 f2
  have ha2:=fun W:World=>aSub64 W p1.1 p1.2.1 p2.1 p2.2.1 c0 c1 f3 f4
  have OO:=Lib.hid (And.intro o5 hswv)
  clear f1 f2 f3 f4 p1 p2 hb hswv o5;have xX5:=X5.cell;have xX6:=X6.cell;have xX7:=X7.cell;have zX70:=X7.frozen;have xX8:=X8.cell
  go_upto_region 9 with (simp only [ha1])
  clear xX5 xX6 xX7 zX70 xX8
  have SX:StN w8 (World.setCell w8 ⟨w5.heap.size,2,none⟩ (.int .u64 S)) _ _ #[.bool s1,.int .u64 H1,.int .u64 S,.int .i64 Z] _:=StN.at4 X7 2 (.int .u64 S)
  replace XR:=XR.stn SX (by omega);replace X5:=X5.stn SX (by omega);replace X6:=X6.stn SX (by omega);replace X8:=X8.stn SX (by omega);replace HB:=Hqs HB SX (by omega);replace X7:=SX.box;clear SX;generalize World.setCell w8 ⟨w5.heap.size,2,none⟩ (.int .u64 S)=w9 at *;have xX7:=X7.cell;have zX70:=X7.frozen;have xX8:=X8.cell
  go_upto_region 10 with (simp only [ha2])
  clear xX7 zX70 xX8
  have SX:StN w9 (World.setCell w9 ⟨w5.heap.size,1,none⟩ (.int .u64 T)) _ _ #[.bool s1,.int .u64 T,.int .u64 S,.int .i64 Z] _:=StN.at4 X7 1 (.int .u64 T)
  replace XR:=XR.stn SX (by omega);replace X5:=X5.stn SX (by omega);replace X6:=X6.stn SX (by omega);replace X8:=X8.stn SX (by omega);replace HB:=Hqs HB SX (by omega);replace X7:=SX.box;clear SX;generalize World.setCell w9 ⟨w5.heap.size,1,none⟩ (.int .u64 T)=wA at *;have xXR:=XR.cell;have zXR0:=XR.frozen;have xX7:=X7.cell
  go_wp2;clear xXR zXR0 xX7;have SX:=StN.mk4 XR (.bool s1) (.int .u64 T) (.int .u64 S) (.int .i64 Z)
  exact bodyPost_ret (v:= .agg #[.bool s1,.int .u64 T,.int .u64 S,.int .i64 Z]) (by simp [results,Tryz.results172,go_sem,SX.box.cell]) rfl ⟨_,_,_,_,rfl,wd_of o3 o4 o1 o2 OO.out.1 z1 z2 fun up=>by rw [←HZ.out];exact (OO.out.2 up (by omega)).2.2,(SX.below HB.out (by omega))⟩
theorem aSum2{w:World}{s1 s2:Bool}{M1 M2 E1 E2 x y:Int}(hT:Tb w)(q1:Fq 1 s1 M1 E1 x)(q2:Fq 1 s2 M2 E2 y):Calls Tryz.prog 172 #[VQ 1 s1 M1 E1,VQ 1 s2 M2 E2] w (PW6 w fun up=>addp up x y):=by
 delta VQ
 rcases Int.lt_trichotomy E1 E2 with h | h | h
 ·exact sum_lt hT q1 q2 h
 ·by_cases hm:M1 < M2
  ·exact sum_eqlt hT q1 q2 h hm
  ·exact sum_eqge hT q1 q2 h hm
 ·exact sum_gt hT q1 q2 h
theorem aProduct{w:World}{s1 s2:Bool}{M1 M2 E1 E2 x y:Int}(q1:Fq 1 s1 M1 E1 x)(q2:Fq 1 s2 M2 E2 y):Calls Tryz.prog 128 #[VQ 1 s1 M1 E1,VQ 1 s2 M2 E2] w (PW6 w fun up=>mulp up x y):=by
 delta VQ
 obtain⟨a1,a2,a3,a4,_⟩:=fq_vr q1;obtain⟨b1,b2,b3,b4,_⟩:=fq_vr q2;obtain⟨u1,u2,_⟩:=pro_wide true q1 q2
 have HU:=Lib.hid (fun up=>(pro_wide up q1 q2).2.2)
 obtain⟨G,hG⟩:∃G,E1+E2=G:=⟨_,rfl⟩;obtain⟨Z,hZ⟩:∃Z,G+64=Z:=⟨_,rfl⟩
 have HG:=Lib.hid (show IntKind.i64.wrap (E1+E2)=G by rw [hG];exact IntWalk.i64_in _ (by omega))
 have HZ:=Lib.hid (show IntKind.i64.wrap (G+64)=Z by rw [hZ];exact IntWalk.i64_in _ (by omega))
 have HGZ:=Lib.hid (And.intro hG hZ)
 obtain⟨H,hH⟩:∃H,M1*M2/18446744073709551616=H:=⟨_,rfl⟩;obtain⟨L,hL⟩:∃L,M1*M2%18446744073709551616=L:=⟨_,rfl⟩
 have z1: -2900000≤Z:=by omega
 have z2:Z≤2900000:=by omega
 have HV:Hid (0≤H∧H < 18446744073709551616∧0≤L∧L < 18446744073709551616∧H*18446744073709551616+L=M1*M2):=Lib.hid (by
  revert u1 u2 hH hL
  generalize M1*M2=P
  intro u1 u2 hH hL
  omega)
 have HH:=Lib.hid hH;have HL:=Lib.hid hL
 have k1:0≤M1:=by omega
 have k2:0≤M2:=by omega
 clear u1 u2 hH hL hG hZ q1 q2 a1 a3 a4 b1 b3 b4
 go_enter Tryz.func128,Tryz.ntmps128
 go_upto_region 1 with (fail)
 generalize hW1:((w.alloc _).alloc _).alloc _=w1 at *;obtain⟨X2,X3,XR,HB⟩:=Bo.en3 hW1;clear hW1;have xX2:=X2.cell;have xX3:=X3.cell
 go_wp2_with fail
 refine (aMul64 _ k1 a2 k2 b2 HH.out HL.out).mono ?_;rintro ee w2 ⟨rfl,B⟩;clear xX2 xX3;replace X2:=X2.below B;replace X3:=X3.below B;replace XR:=XR.below B;replace HB:=Hqb HB B;clear B;have hg:=HG.out;have hz:=HZ.out;have xXR:=XR.cell;have zXR0:=XR.frozen;have xX2:=X2.cell;have xX3:=X3.cell
 go_wp2;clear xXR zXR0 xX2 xX3;have SX:=StN.mk4 XR (.bool (!(s1==s2))) (.int .u64 H) (.int .u64 L) (.int .i64 Z)
 exact bodyPost_ret (v:= .agg #[.bool (!(s1==s2)),.int .u64 H,.int .u64 L,.int .i64 Z]) (by simp [results,Tryz.results128,go_sem,SX.box.cell]) rfl ⟨_,_,_,_,rfl,wd_of HV.out.1 HV.out.2.1 HV.out.2.2.1 HV.out.2.2.2.1 HV.out.2.2.2.2 z1 z2 fun up=>by rw [←HU.out up,show (!(s1==s2))=(s1 !=s2)from rfl,show Z-64=E1+E2 by have:=HGZ.out;omega],(SX.below HB.out (by omega))⟩
end Go.Proofs.YtaadmpiphnfllaaGreatDoor
