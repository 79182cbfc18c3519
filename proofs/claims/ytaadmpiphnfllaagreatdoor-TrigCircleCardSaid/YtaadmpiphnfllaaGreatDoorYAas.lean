/-
 Contracts that the proof rests on.
-/
import Derived.Test.YtaadmpiphnfllaaGreatDoorYAar
namespace Go.Proofs.YtaadmpiphnfllaaGreatDoor
set_option maxHeartbeats 4000000
open Go.RowKit
set_option linter.unusedVariables false
set_option linter.unusedSimpArgs false
set_option maxRecDepth 100000
theorem vShlA{w:World}{A1:Option Addr}{n c1 a r:Nat}{z:Int}(h1:Rd w A1 n c1 a)(hn:n≤1000000)(hz:z≤16777216)(hr:a*2^z.toNat=r):Calls Tryz.prog 79 #[.slice A1 n c1,.int .i64 z] w (P1 w (n+z.toNat/32+1) r):=by
 subst hr
 by_cases h0:z < 1
 ·rw [show z.toNat=0 by omega,Nat.pow_zero,Nat.mul_one]
  refine (vShl_low z h1 h0).mono ?_;rintro e w' ⟨A,m,c,e,h,k,B⟩;exact⟨A,m,c,e,h,by omega,B⟩
 ·have:=vShl z.toNat h1 (by omega) (by omega)
  rwa [show ((z.toNat:Nat):Int)=z by omega]at this
def PU (w:World)(z:Int)(e:Ending)(w':World):Prop:=e= .returned (.int .u64 z)∧Below w.heap.size w w'
theorem tp_word{a:Nat}{v:Int}(hv:v=(blen a:Int)-64):a/2^v.toNat*2^(-v).toNat=tp a:=by
 subst hv
 rcases Nat.lt_or_ge (blen a) 64 with h | h
 ·rw [show ((blen a:Int)-64).toNat=0 by omega,Nat.pow_zero,Nat.div_one,tp_small (by omega),show (-((blen a:Int)-64)).toNat=64-blen a by omega]
 ·rw [show (-((blen a:Int)-64)).toNat=0 by omega,Nat.pow_zero,Nat.mul_one,tp_big h,show ((blen a:Int)-64).toNat=blen a-64 by omega]
theorem limbs_two{v:Nat}(h1:4294967296≤v)(h2:v < 18446744073709551616):limbs v=[v%4294967296,v/4294967296]:=by
 rw [limbs_pos (by omega),limbs_pos (by omega),show v/4294967296/4294967296=0 by omega,limbs_zero,Nat.mod_eq_of_lt (show v/4294967296 < 4294967296 by omega)]
theorem nWord{w:World}{A:Option Addr}{n c a:Nat}{L T:Int}(h:Rd w A n c a)(hn:n≤100000)(h0:a≠0)(hL:((blen a:Nat):Int)=L)(hT:((tp a:Nat):Int)=T):Calls Tryz.prog 240 #[.slice A n c,.int .i64 L] w (PU w T):=by
 have hb:=h.blen_le;obtain⟨v,hv⟩:∃v:Int,L-64=v:=⟨_,rfl⟩;have hw:=tp_word (a:=a) (v:=v) (by omega)
 have HW1:Hid (IntKind.i64.wrap (L-64)=v):=Lib.hid (by rw [hv];exact IntWalk.i64_in _ (by omega))
 have HW2:Hid (IntKind.i64.wrap (-v)= -v):=Lib.hid (IntWalk.i64_in _ (by omega))
 obtain⟨q,hq⟩:∃q,a/2^v.toNat=q:=⟨_,rfl⟩;rw [hq]at hw;have HQ:=Lib.hid hq;have HT:=Lib.hid hw;have g1:=tp_ge h0;have g2:=tp_lt a
 revert hT g1 g2 HT
 generalize tp a=W
 intro hT HT g1 g2
 have hlm:=limbs_two (v:=W) (by omega) (by omega);obtain⟨X,hX0⟩:∃X,W/4294967296=X:=⟨_,rfl⟩;obtain⟨Y,hY0⟩:∃Y,W%4294967296=Y:=⟨_,rfl⟩;rw [hX0,hY0]at hlm
 have hX:X < 4294967296:=by omega
 have hY:Y < 4294967296:=by omega
 have hTT:(X:Int)*4294967296+(Y:Int)=T:=by omega
 have hor:=or_join X Y hX hY;rw [hTT]at hor
 have HS1:=Lib.hid (show IntKind.u64.wrap (X:Int)=X from IntWalk.u64_in _ (by omega))
 have HS2:=Lib.hid (show IntKind.u64.wrap ((X:Int)*4294967296)=(X:Int)*4294967296 from IntWalk.u64_in _ (by omega))
 have HS3:=Lib.hid (show IntKind.u64.wrap (Y:Int)=Y from IntWalk.u64_in _ (by omega))
 have hv1: -64≤v:=by omega
 have hv2:v≤3200000:=by omega
 have HO:=Lib.hid hor;have HL:=Lib.hid hlm;clear hor hlm hTT hT g1 g2 hw hq hv hL hX0 hY0
 go_enter Tryz.func240,Tryz.ntmps240
 have HB:=Lib.hid (Below.refl w.heap.size w);have hw1:=HW1.out
 go_wp2_with fail
 refine (vShrE h (by omega) HQ.out).mono ?_;rintro ee w2 ⟨A2,n2,c2,rfl,p2,k2,B⟩;replace h:=h.below B;replace HB:=Hqb HB B;clear B;clear hw1;have hw2:=HW2.out
 go_wp2_with fail
 refine (vShlA p2.rd (by omega) (by omega) HT.out).mono ?_;rintro ee w3 ⟨A3,n3,c3,rfl,p3,k3,B⟩;replace p2:=p2.below B;replace HB:=Hqb HB B;clear B;clear hw2 HW1 HW2 HQ HT;obtain⟨b,hs⟩:=p3;have hl:=hs.len;rw [HL.out]at hs hl
 obtain rfl:2=n3:=hl
 obtain⟨o,rfl,hc⟩:=hs.at (by decide);have c0:=hc 0 (by decide);have c1:=hc 1 (by decide);rw [List.getD_cons_zero,Nat.add_zero]at c0;rw [List.getD_cons_succ,List.getD_cons_zero]at c1;clear hc hs HL
 go_upto_region 3 with (fail)
 refine Jo.rk [0,1,2,3,4,5,6,7,8,9,10] [some 15,some 16,some 17,some 18,some 19,some 20,some 21,some 22,some 23,some 24,some 4] [[],[0],[1],[2],[3],[],[5],[6],[7],[4,8],[9]] 11 0 [Jo.Fact.eq (.slice (some ⟨b,o,none⟩) 2 c3),Jo.Fact.eq (.pointer (some ⟨b,o+1,none⟩)),Jo.Fact.eq (.int .u32 (X:Int)),Jo.Fact.eq (.int .u64 (X:Int)),Jo.Fact.eq (.int .u64 ((X:Int)*4294967296)),Jo.Fact.eq (.slice (some ⟨b,o,none⟩) 2 c3),Jo.Fact.eq (.pointer (some ⟨b,o,none⟩)),Jo.Fact.eq (.int .u32 (Y:Int)),Jo.Fact.eq (.int .u64 (Y:Int)),Jo.Fact.eq (.int .u64 T),Jo.Fact.eq (.int .u64 T)] (by kernel_rfl) (by kernel_rfl) (by decide) rfl ?_ ?_
 ·iterate 2 (refine Jo.jm rfl ?_ ?_;rotate_left)
  refine Jo.jm rfl ?_ ?_
  ·rintro wj hJ _ rfl K hK;simp only [Jo.z]at hK⊢
   have c0':=(hJ.cell (p:=⟨b,_,none⟩) (block_lt_of_cell c0)).trans c0
   have c1':=(hJ.cell (p:=⟨b,_,none⟩) (block_lt_of_cell c1)).trans c1
   go_simp;exact hK.out _ _ rfl (br _ _)
  refine Jo.jm rfl ?_ ?_
  ·rintro wj hJ _ rfl K hK;simp only [Jo.z]at hK⊢;have hs1:=HS1.out;go_simp;exact hK.out _ _ rfl (br _ _)
  refine Jo.jm rfl ?_ ?_
  ·rintro wj hJ _ rfl K hK;simp only [Jo.z]at hK⊢;have hs2:=HS2.out;go_simp;exact hK.out _ _ rfl (br _ _)
  iterate 2 (refine Jo.jm rfl ?_ ?_;rotate_left)
  refine Jo.jm rfl ?_ ?_
  ·rintro wj hJ _ rfl K hK;simp only [Jo.z]at hK⊢
   have c0':=(hJ.cell (p:=⟨b,_,none⟩) (block_lt_of_cell c0)).trans c0
   have c1':=(hJ.cell (p:=⟨b,_,none⟩) (block_lt_of_cell c1)).trans c1
   go_simp;exact hK.out _ _ rfl (br _ _)
  refine Jo.jm rfl ?_ ?_
  ·rintro wj hJ _ rfl K hK;simp only [Jo.z]at hK⊢;have hs3:=HS3.out;go_simp;exact hK.out _ _ rfl (br _ _)
  refine Jo.jm rfl ?_ ?_
  ·rintro wj hJ _ rfl _ rfl K hK;simp only [Jo.z]at hK⊢;have hor:=HO.out;go_simp;exact hK.out _ _ rfl (br _ _)
  refine Jo.jm rfl ?_ ?_;rotate_left
  exact Jo.Steps.nil
  all_goals (rintro wj hJ;(repeat rintro _ rfl);intro K hK;simp only [Jo.z]at hK⊢;go_simp;exact hK.out _ _ rfl (br _ _))
 rintro w4 hJ _ rfl _ _ _ rfl _ rfl _ rfl _ rfl _ _ _ rfl _ rfl _ rfl _ rfl -;simp only [Jo.z];replace HB:=Hqb HB hJ;refine Jo.jdone (by kernel_rfl) ?_;go_wp2
 go_ret
 exact⟨rfl,HB.out⟩
def PNB (w:World)(r:Int)(t:Bool)(e:Ending)(w':World):Prop:=∃K s M E,e= .returned (.tuple #[.agg #[.int .i64 K,.bool s,.int .u64 M,.int .i64 E],.bool t])∧Fq K s M E r∧Below w.heap.size w w'
theorem ncut_zero{w:World}{A:Option Addr}{n c a:Nat}{s:Bool}{E L x r:Int}{t:Bool}(h:Rd w A n c a)(hn:n≤100000)(b1: -4194304≤E)(b2:E≤4194304)(h0:a=0)(hr:0=r)(ht:true=t):
  Calls Tryz.prog 237 #[.agg #[.bool s,.slice A n c,.int .i64 E]] w (PNB w r t):=by
 have hb:=h.blen_le;subst h0;subst hr;subst ht
 go_enter Tryz.func237,Tryz.ntmps237
 go_upto_region 1 with (fail)
 generalize hW1:(w.alloc _).alloc _=w1 at *;obtain⟨X1,XR,HB⟩:=Bo.en2 hW1;replace h:=h.below HB.out;clear hW1;have xX1:=X1.cell
 go_wp2_with fail
 refine (vLenE (z:=0) h rfl).mono ?_;rintro ee w2 ⟨rfl,B⟩;clear xX1;replace X1:=X1.below B;replace XR:=XR.below B;replace h:=h.below B;replace HB:=Hqb HB B;clear B;have xXR:=XR.cell;have zXR0:=XR.frozen;have xX1:=X1.cell;go_wp2;clear xXR zXR0 xX1;have SX:=StN.mk4 XR (.int .i64 0) (.bool false) (.int .u64 0) (.int .i64 0)
 exact bodyPost_ret (v:= .tuple #[.agg #[.int .i64 0,.bool false,.int .u64 0,.int .i64 0],.bool true]) (by simp [results,Tryz.results237,go_sem,SX.box.cell]) rfl ⟨_,_,_,_,rfl,Fq.nought,(SX.below HB.out (by omega))⟩
theorem ncut_big{w:World}{A:Option Addr}{n c a:Nat}{s:Bool}{E L x r:Int}(h:Rd w A n c a)(hn:n≤100000)(b1: -4194304≤E)(b2:E≤4194304)(h0:a≠0)(hL:((blen a:Nat):Int)=L)(hx:E+L-64=x)(hx3:1048576 < x)(hr:sgi s 19342822337206103650074624=r):
  Calls Tryz.prog 237 #[.agg #[.bool s,.slice A n c,.int .i64 E]] w (PNB w r false):=by
 have hb:=h.blen_le
 have h1:blen a≠0:=fun e=>h0 (blen_eq_zero.1 e)
 have HL:=Lib.hid hL
 have HX1:Hid (IntKind.i64.wrap (E+L)=E+L):=Lib.hid (IntWalk.i64_in _ (by omega))
 have HX2:Hid (IntKind.i64.wrap (E+L-64)=x):=Lib.hid (by rw [hx];exact IntWalk.i64_in _ (by omega))
 have e0:(L==0)=false:=by
  have:L≠0:=by omega
  simpa using this
 have hF:Fq 1 s 18446744073709551615 1048576 r:=Fq.fin (by decide) (by decide) (by decide) (by decide) hr
 clear hL hx hr h1
 go_enter Tryz.func237,Tryz.ntmps237
 go_upto_region 1 with (fail)
 generalize hW1:(w.alloc _).alloc _=w1 at *;obtain⟨X1,XR,HB⟩:=Bo.en2 hW1;replace h:=h.below HB.out;clear hW1;have xX1:=X1.cell
 go_wp2_with fail
 refine (vLenE h HL.out).mono ?_;rintro ee w2 ⟨rfl,B⟩;clear xX1;replace X1:=X1.below B;replace XR:=XR.below B;replace h:=h.below B;replace HB:=Hqb HB B;clear B;have hx1:=HX1.out;have hx2:=HX2.out;have xX1:=X1.cell
 go_wp2_with fail
 refine (nH).mono ?_;rintro ee w3 ⟨rfl,B⟩;clear xX1;replace X1:=X1.below B;replace XR:=XR.below B;replace h:=h.below B;replace HB:=Hqb HB B;clear B;have xXR:=XR.cell;have zXR0:=XR.frozen;have xX1:=X1.cell;go_wp2;clear xXR zXR0 xX1;have SX:=StN.mk4 XR (.int .i64 1) (.bool s) (.int .u64 18446744073709551615) (.int .i64 1048576)
 exact bodyPost_ret (v:= .tuple #[.agg #[.int .i64 1,.bool s,.int .u64 18446744073709551615,.int .i64 1048576],.bool false]) (by simp [results,Tryz.results237,go_sem,SX.box.cell]) rfl ⟨_,_,_,_,rfl,hF,(SX.below HB.out (by omega))⟩
theorem ncut_low{w:World}{A:Option Addr}{n c a:Nat}{s:Bool}{E L x:Int}(h:Rd w A n c a)(hn:n≤100000)(b1: -4194304≤E)(b2:E≤4194304)(h0:a≠0)(hL:((blen a:Nat):Int)=L)(hx:E+L-64=x)(hx3:x < -1048576):
  Calls Tryz.prog 237 #[.agg #[.bool s,.slice A n c,.int .i64 E]] w (PNB w 0 false):=by
 have hb:=h.blen_le
 have h1:blen a≠0:=fun e=>h0 (blen_eq_zero.1 e)
 have HL:=Lib.hid hL
 have HX1:Hid (IntKind.i64.wrap (E+L)=E+L):=Lib.hid (IntWalk.i64_in _ (by omega))
 have HX2:Hid (IntKind.i64.wrap (E+L-64)=x):=Lib.hid (by rw [hx];exact IntWalk.i64_in _ (by omega))
 have e0:(L==0)=false:=by
  have:L≠0:=by omega
  simpa using this
 clear hL hx h1
 go_enter Tryz.func237,Tryz.ntmps237
 go_upto_region 1 with (fail)
 generalize hW1:(w.alloc _).alloc _=w1 at *;obtain⟨X1,XR,HB⟩:=Bo.en2 hW1;replace h:=h.below HB.out;clear hW1;have xX1:=X1.cell
 go_wp2_with fail
 refine (vLenE h HL.out).mono ?_;rintro ee w2 ⟨rfl,B⟩;clear xX1;replace X1:=X1.below B;replace XR:=XR.below B;replace h:=h.below B;replace HB:=Hqb HB B;clear B;have hx1:=HX1.out;have hx2:=HX2.out;have xXR:=XR.cell;have zXR0:=XR.frozen;have xX1:=X1.cell;go_wp2;clear xXR zXR0 xX1;have SX:=StN.mk4 XR (.int .i64 0) (.bool false) (.int .u64 0) (.int .i64 0)
 exact bodyPost_ret (v:= .tuple #[.agg #[.int .i64 0,.bool false,.int .u64 0,.int .i64 0],.bool false]) (by simp [results,Tryz.results237,go_sem,SX.box.cell]) rfl ⟨_,_,_,_,rfl,Fq.nought,(SX.below HB.out (by omega))⟩
theorem ncut_mid{w:World}{A:Option Addr}{n c a:Nat}{s:Bool}{E L x r:Int}{t:Bool}(h:Rd w A n c a)(hn:n≤100000)(b1: -4194304≤E)(b2:E≤4194304)(h0:a≠0)(hL:((blen a:Nat):Int)=L)(hx:E+L-64=x)(hx3: -1048576≤x)(hx4:x≤1048576)(hr:sgi s ((tp a:Int)-9223372036854775808+1+(x+1048576)*9223372036854775808)=r)(ht:decide (L≤64)=t):
  Calls Tryz.prog 237 #[.agg #[.bool s,.slice A n c,.int .i64 E]] w (PNB w r t):=by
 have hb:=h.blen_le
 have h1:blen a≠0:=fun e=>h0 (blen_eq_zero.1 e)
 have HL:=Lib.hid hL
 have HX1:Hid (IntKind.i64.wrap (E+L)=E+L):=Lib.hid (IntWalk.i64_in _ (by omega))
 have HX2:Hid (IntKind.i64.wrap (E+L-64)=x):=Lib.hid (by rw [hx];exact IntWalk.i64_in _ (by omega))
 have e0:(L==0)=false:=by
  have:L≠0:=by omega
  simpa using this
 obtain⟨T,hT⟩:∃T,((tp a:Nat):Int)=T:=⟨_,rfl⟩;rw [hT]at hr
 have hF:Fq 1 s T x r:=by
  have g1:=tp_ge h0;have g2:=tp_lt a;exact Fq.fin (by omega) (by omega) hx3 hx4 hr
 have HT:=Lib.hid hT;have HTT:=Lib.hid ht;clear hL hx hr h1 hT ht
 go_enter Tryz.func237,Tryz.ntmps237
 go_upto_region 1 with (fail)
 generalize hW1:(w.alloc _).alloc _=w1 at *;obtain⟨X1,XR,HB⟩:=Bo.en2 hW1;replace h:=h.below HB.out;clear hW1;have xX1:=X1.cell
 go_wp2_with fail
 refine (vLenE h HL.out).mono ?_;rintro ee w2 ⟨rfl,B⟩;clear xX1;replace X1:=X1.below B;replace XR:=XR.below B;replace h:=h.below B;replace HB:=Hqb HB B;clear B;have hx1:=HX1.out;have hx2:=HX2.out;have xX1:=X1.cell
 go_upto_region 9 with (fail)
 clear hx1 hx2;clear xX1;refine Jo.rl (w.heap.size+1) #[.int .i64 1,.bool s,.int .u64 T,.int .i64 x] 24 [0,1,2,3,4,5,6,7,8,9,10,11,12] [some 27,some 28,some 29,some 30,some 31,some 32,some 33,some 34,some 35,some 36,some 37,some 38,none,some 3] [[],[0],[1],[],[3],[4],[],[5,6],[],[2,7,8],[],[10],[9],[]] 14 1 [Jo.kp w.heap.size 0,Jo.kp w.heap.size 0,Jo.LFact.eq (.bool s),Jo.kp w.heap.size 0,Jo.kp w.heap.size 1,Jo.LFact.eq (.slice A n c),Jo.LFact.eq (.int .i64 L),Jo.LFact.eq (.int .u64 T),Jo.LFact.eq (.int .i64 x),Jo.LFact.eq (.agg #[.int .i64 1,.bool s,.int .u64 T,.int .i64 x]),Jo.LFact.eq (.int .i64 L),Jo.LFact.eq (.bool t),Jo.LFact.done,Jo.LFact.any] (by kernel_rfl) (by kernel_rfl) (by decide) rfl ?_ ?_
 ·refine Jo.lm rfl ?_ ?_
  ·rintro wj hJ K hK;simp only [Jo.z]at hK⊢;go_simp;exact hK.out _ _ rfl (Jo.Off.refl _ _ _ _)
  refine Jo.lm rfl ?_ ?_
  ·rintro wj hJ _ rfl K hK;simp only [Jo.z]at hK⊢;go_simp;exact hK.out _ _ rfl (Jo.Off.refl _ _ _ _)
  refine Jo.lm rfl ?_ ?_
  ·rintro wj hJ _ rfl K hK;simp only [Jo.z]at hK⊢;replace X1:=X1.off (by omega) hJ;have xX1:=X1.cell;go_simp;exact hK.out _ _ rfl (Jo.Off.refl _ _ _ _)
  refine Jo.lm rfl ?_ ?_
  ·rintro wj hJ K hK;simp only [Jo.z]at hK⊢;go_simp;exact hK.out _ _ rfl (Jo.Off.refl _ _ _ _)
  refine Jo.lm rfl ?_ ?_
  ·rintro wj hJ _ rfl K hK;simp only [Jo.z]at hK⊢;go_simp;exact hK.out _ _ rfl (Jo.Off.refl _ _ _ _)
  refine Jo.lm rfl ?_ ?_
  ·rintro wj hJ _ rfl K hK;simp only [Jo.z]at hK⊢;replace X1:=X1.off (by omega) hJ;have xX1:=X1.cell;go_simp;exact hK.out _ _ rfl (Jo.Off.refl _ _ _ _)
  refine Jo.lm rfl ?_ ?_
  ·rintro wj hJ K hK;simp only [Jo.z]at hK⊢;go_simp;exact hK.out _ _ rfl (Jo.Off.refl _ _ _ _)
  refine Jo.lm rfl ?_ ?_
  ·rintro wj hJ _ rfl _ rfl K hK;simp only [Jo.z]at hK⊢;go_simp;refine (nWord (h.off XR (by simp [no32]) hJ) hn h0 HL.out HT.out).mono ?_;rintro ee wk ⟨rfl,B⟩;exact hK.out _ _ rfl (Jo.Off.of_below B (Nat.lt_of_lt_of_le XR.lt hJ.size))
  refine Jo.lm rfl ?_ ?_
  ·rintro wj hJ K hK;simp only [Jo.z]at hK⊢;go_simp;exact hK.out _ _ rfl (Jo.Off.refl _ _ _ _)
  refine Jo.lm rfl ?_ ?_
  ·rintro wj hJ _ rfl _ rfl _ rfl K hK;simp only [Jo.z]at hK⊢;go_simp;exact hK.out _ _ rfl (Jo.Off.refl _ _ _ _)
  refine Jo.lm rfl ?_ ?_
  ·rintro wj hJ K hK;simp only [Jo.z]at hK⊢;go_simp;exact hK.out _ _ rfl (Jo.Off.refl _ _ _ _)
  refine Jo.lm rfl ?_ ?_
  ·rintro wj hJ _ rfl K hK;simp only [Jo.z]at hK⊢;have htt:=HTT.out;go_simp
   exact hK.out _ _ (by first | rfl | (show Value.bool _=Value.bool _;rw [htt])) (Jo.Off.refl _ _ _ _)
  refine Jo.lm rfl ?_ ?_
  ·rintro wj hJ _ rfl K hK;simp only [Jo.z]at hK⊢
   obtain⟨v0,v1,v2,v3,XO⟩:∃v0 v1 v2 v3,Bo wj (w.heap.size+1) #[v0,v1,v2,v3] 24:=by
    rcases hJ.own with e | e
    ·exact⟨_,_,_,_,XR.keep e⟩
    ·exact⟨_,_,_,_,e⟩
   have y0:=XO.a 0 (v0) rfl;have u0:=XO.frozen 0;have y1:=XO.a 1 (v1) rfl;have u1:=XO.frozen 1;have y2:=XO.a 2 (v2) rfl;have u2:=XO.frozen 2;have y3:=XO.a 3 (v3) rfl;have u3:=XO.frozen 3;go_simp;have SX:=StN.mk4 XO (.int .i64 1) (.bool s) (.int .u64 T) (.int .i64 x);exact hK.out undef _ SX.box (Jo.Off.of_stn SX)
  exact Jo.Steps.nil
 rintro w3 hJ _ _ _ _ _ rfl _ _ _ _ _ rfl _ rfl _ rfl _ rfl _ rfl _ rfl _ rfl u12 d12 -;simp only [Jo.z];replace h:=h.off XR (by simp [no32]) hJ;replace HB:=Lib.hid (hJ.below HB.out (by omega) XR.lt);replace X1:=X1.off (by omega) hJ
 replace XR:Bo w3 (w.heap.size+1) #[.int .i64 1,.bool s,.int .u64 T,.int .i64 x] 24:=d12
 refine Jo.jnext (i:=13) (o:=⟨some 3,_,_,_,_,_⟩) (by kernel_rfl) rfl (fun K hK=>?_)
 go_simp;refine hK.out _ _ ?_;clear hK K;refine Jo.jdone (by kernel_rfl) ?_;go_wp2;exact bodyPost_ret (v:= .tuple #[.agg #[.int .i64 1,.bool s,.int .u64 T,.int .i64 x],.bool t]) (by simp [results,Tryz.results237,go_sem,XR.cell]) rfl ⟨_,_,_,_,rfl,hF,HB.out⟩
theorem nCut{w:World}{A:Option Addr}{n c a:Nat}{s:Bool}{E r:Int}{t:Bool}(h:Rd w A n c a)(hn:n≤100000)(b1: -4194304≤E)(b2:E≤4194304)(hr:sgi s (lo a E)=r)(ht:ext a E=t):
  Calls Tryz.prog 237 #[.agg #[.bool s,.slice A n c,.int .i64 E]] w (PNB w r t):=by
 unfold lo at hr
 unfold ext at ht
 by_cases h0:a=0
 ·rw [if_pos h0]at hr
  have e0:(a==0)=true:=by simpa using h0
  rw [e0]at ht
  exact ncut_zero (L:=0) (x:=0) h hn b1 b2 h0 (by rw [←hr];cases s <;> rfl) ht
 ·rw [if_neg h0]at hr
  have e0:(a==0)=false:=by simpa using h0
  rw [e0,Bool.false_or]at ht
  have hx:E+((blen a:Nat):Int)-64=xp a E:=rfl
  by_cases c1:1048576 < xp a E
  ·rw [if_pos c1]at hr
   rw [show decide (xp a E≤1048576)=false from decide_eq_false (by omega),Bool.false_and]at ht
   subst ht;exact ncut_big h hn b1 b2 h0 rfl hx c1 hr
  ·rw [if_neg c1]at hr
   rw [show decide (xp a E≤1048576)=true from decide_eq_true (by omega),Bool.true_and]at ht
   by_cases c2:xp a E < -1048576
   ·rw [if_pos c2]at hr
    rw [show decide (-1048576≤xp a E)=false from decide_eq_false (by omega),Bool.false_and]at ht
    subst ht
    obtain rfl:0=r:=by rw [←hr];cases s <;> rfl
    exact ncut_low h hn b1 b2 h0 rfl hx c2
   ·rw [if_neg c2]at hr
    rw [show decide (-1048576≤xp a E)=true from decide_eq_true (by omega),Bool.true_and]at ht
    refine ncut_mid h hn b1 b2 h0 rfl hx (by omega) (by omega) hr ?_;rw [←ht,Bool.eq_iff_iff]
    simp
    omega
theorem nx_sgi (s:Bool){x:Int}(h0:0≤x)(h1:x≤19342822337206103650074624):nx (!s) (sgi s x)=sgi s (x+1):=by
 have:=TP_eq
 unfold nx
 cases s
 ·show min TP (x+1)=x+1
  omega
 ·show max (-TP) (-x-1)= -(x+1)
  omega
theorem nx_lo{a:Nat}{E:Int}(s:Bool)(h:ext a E=false):nx (!s) (sgi s (lo a E))=sgi s (hi a E):=by
 obtain⟨h1,h2⟩:=lo_bd a E
 have hh:hi a E=lo a E+1:=by
  unfold hi
  rw [h,if_neg (by decide)]
 rw [hh,nx_sgi s h1 h2]
theorem pick_t (s:Bool)(x y:Int)(b:Bool)(h:b=true):sgi s (if b=true then x else y)=sgi s x:=by rw [if_pos h]
theorem pick_f (s:Bool)(x y:Int)(b:Bool)(h:b=false):sgi s (if b=true then x else y)=sgi s y:=by rw [h,if_neg (by decide)]
theorem rnd_ext{up:Bool}{N E:Int}(h:ext N.natAbs E=true):rnd up N E=sgi (decide (N < 0)) (lo N.natAbs E):=by
 unfold rnd hi
 rw [if_pos h]
 cases hb:(up !=decide (N < 0))
 ·exact pick_f _ _ _ _ rfl
 ·exact pick_t _ _ _ _ rfl
theorem rnd_same{up s:Bool}{N E:Int}(hs:s=decide (N < 0))(h:s=up):rnd up N E=sgi s (lo N.natAbs E):=by
 unfold rnd
 rw [←hs,h]
 exact pick_f _ _ _ _ (by cases up <;> rfl)
theorem rnd_diff{s:Bool}{N E:Int}(hs:s=decide (N < 0)):rnd (!s) N E=sgi s (hi N.natAbs E):=by
 unfold rnd
 rw [←hs]
 exact pick_t _ _ _ _ (by cases s <;> rfl)
theorem nround_y{w:World}{A:Option Addr}{n c:Nat}{s up:Bool}{z e N E r:Int}(hT:Tab w)(h:Wr w s A n c z)(hn:n≤100000)(hN:(mk z e).1=N)(hE:(mk z e).2=E)(hr:rnd up N E=r)(hm:mayD s n z.natAbs e=true):
  Calls Tryz.prog 225 #[.agg #[.bool s,.slice A n c,.int .i64 e],.bool up] w (PN w r):=by
 obtain⟨b1,b2⟩:=mk_bd z e;rw [hE]at b1 b2;have HM:=Lib.hid hm;have HR:=Lib.hid hr;obtain⟨hwn,hmk⟩:=mayD_true h hm
 obtain rfl:z=N:=by rw [←hN,hmk]
 obtain rfl:e=E:=by rw [←hE,hmk]
 have HSG:=Lib.hid hwn.2;have hd:=hwn.1.rd;clear hm hr hN hE hmk hwn
 go_enter Tryz.func225,Tryz.ntmps225
 go_upto_region 1 with (fail)
 generalize hW1:(w.alloc _).alloc _=w1 at *;obtain⟨X1,XR,HB⟩:=Bo.en2 hW1;replace hT:=hT.below HB.out;replace h:=h.below HB.out;replace hd:=hd.below HB.out;clear hW1;have xX1:=X1.cell
 go_wp2_with fail
 refine (dMay h.rd HM.out).mono ?_;rintro ee w2 ⟨rfl,B⟩;clear xX1;replace X1:=X1.below B;replace XR:=XR.below B;replace hT:=hT.below B;replace h:=h.below B;replace hd:=hd.below B;replace HB:=Hqb HB B;clear B;obtain⟨x,hx⟩:∃x,sgi s (lo z.natAbs e)=x:=⟨_,rfl⟩;obtain⟨t,ht⟩:∃t,ext z.natAbs e=t:=⟨_,rfl⟩;have HX:=Lib.hid hx;have HT:=Lib.hid ht
 clear hx ht;have xX1:=X1.cell
 go_wp2_with fail
 refine (nCut hd hn b1 b2 HX.out HT.out).mono ?_;rintro ee w5 ⟨K2,s2,M2,E2,rfl,q2,B⟩;clear xX1;replace X1:=X1.below B;replace XR:=XR.below B;replace hd:=hd.below B;replace HB:=Hqb HB B;clear B;clear hd
 go_upto_region 4 with (fail)
 have lX5:=Nat.le_refl (World.heap w5).size;have nX5X1:=X1.lt;have nX5XR:=XR.lt;generalize hWn:w5.alloc _=w6 at *;obtain⟨X5,BW⟩:=Bo.nw hWn;clear hWn;replace X1:=X1.below BW;replace XR:=XR.below BW;replace HB:=Hqb HB BW;clear BW;clear lX5
 by_cases ht:t=true
 ·subst ht
  obtain rfl:x=r:=by rw [←HX.out,←HR.out,rnd_ext HT.out,HSG.out]
  have xXR:=XR.cell;have zXR0:=XR.frozen;have xX1:=X1.cell;have xX5:=X5.cell;go_wp2;clear xXR zXR0 xX1 xX5;have SX:=StN.mk4 XR (.int .i64 K2) (.bool s2) (.int .u64 M2) (.int .i64 E2);exact bodyPost_ret (by simp [results,Tryz.results225,go_sem,SX.box.cell]) rfl ⟨_,_,_,_,rfl,q2,(SX.below HB.out (by omega))⟩
 ·have ht:t=false:=by simpa using ht
  subst ht
  by_cases hs:s=up
  ·obtain rfl:x=r:=by rw [←HX.out,←HR.out,rnd_same HSG.out hs]
   subst hs;have xXR:=XR.cell;have zXR0:=XR.frozen;have xX1:=X1.cell;have xX5:=X5.cell;go_wp2;clear xXR zXR0 xX1 xX5;have SX:=StN.mk4 XR (.int .i64 K2) (.bool s2) (.int .u64 M2) (.int .i64 E2);exact bodyPost_ret (by simp [results,Tryz.results225,go_sem,SX.box.cell]) rfl ⟨_,_,_,_,rfl,q2,(SX.below HB.out (by omega))⟩
  ·obtain rfl:(!s)=up:=by cases s <;> cases up <;> first | rfl | exact absurd rfl hs
   clear hs
   have e2:(s==!s)=false:=by cases s <;> rfl
   have HRR:Hid (nx (!s) (rk K2 s2 M2 E2)=r):=Lib.hid (by rw [q2.rk,←HX.out,nx_lo s HT.out,←HR.out,rnd_diff HSG.out])
   have xX1:=X1.cell;have xX5:=X5.cell
   go_wp2_with fail
   refine (nNext q2.top HRR.out).mono ?_;rintro ee w7 ⟨K3,s3,M3,E3,rfl,q3,B⟩;clear xX1 xX5;replace X1:=X1.below B;replace XR:=XR.below B;replace X5:=X5.below B;replace HB:=Hqb HB B;clear B;have xXR:=XR.cell;have zXR0:=XR.frozen;have xX1:=X1.cell;have xX5:=X5.cell;go_wp2
   clear xXR zXR0 xX1 xX5;have SX:=StN.mk4 XR (.int .i64 K3) (.bool s3) (.int .u64 M3) (.int .i64 E3);exact bodyPost_ret (by simp [results,Tryz.results225,go_sem,SX.box.cell]) rfl ⟨_,_,_,_,rfl,q3,(SX.below HB.out (by omega))⟩
theorem nround_n{w:World}{A:Option Addr}{n c:Nat}{s up:Bool}{z e N E r:Int}(hT:Tab w)(h:Wr w s A n c z)(hn:n≤100000)(hN:(mk z e).1=N)(hE:(mk z e).2=E)(hr:rnd up N E=r)(hm:mayD s n z.natAbs e=false):
  Calls Tryz.prog 225 #[.agg #[.bool s,.slice A n c,.int .i64 e],.bool up] w (PN w r):=by
 obtain⟨b1,b2⟩:=mk_bd z e;rw [hE]at b1 b2;have HM:=Lib.hid hm;have HR:=Lib.hid hr;have HN:=Lib.hid hN;have HE:=Lib.hid hE;clear hm hr hN hE
 go_enter Tryz.func225,Tryz.ntmps225
 go_upto_region 1 with (fail)
 generalize hW1:(w.alloc _).alloc _=w1 at *;obtain⟨X1,XR,HB⟩:=Bo.en2 hW1;replace hT:=hT.below HB.out;replace h:=h.below HB.out;clear hW1;have xX1:=X1.cell
 go_wp2_with fail
 refine (dMay h.rd HM.out).mono ?_;rintro ee w2 ⟨rfl,B⟩;clear xX1;replace X1:=X1.below B;replace XR:=XR.below B;replace hT:=hT.below B;replace h:=h.below B;replace HB:=Hqb HB B;clear B;have xX1:=X1.cell
 go_wp2_with fail
 refine (dMake hT h hn HN.out HE.out).mono ?_;rintro ee w3 ⟨s1,A1,n1,c1,rfl,p1,k1,B⟩;clear xX1;replace X1:=X1.below B;replace XR:=XR.below B;replace hT:=hT.below B;replace h:=h.below B;replace HB:=Hqb HB B;clear B;have xX1:=X1.cell;have zX10:=X1.frozen
 go_upto_region 3 with (fail)
 clear xX1 zX10;generalize hS:((w3.setCell _ _).setCell _ _).setCell _ _=w4 at *;have SX:=StN.of3 X1 hS;replace XR:=XR.stn SX (by omega);replace p1:=p1.stn SX (by simp [no32]);replace HB:=Hqs HB SX (by omega);replace X1:=SX.box;clear SX hS;have HSG:=Lib.hid p1.2;have hd:=p1.1.rd
 have hn1:n1≤100000:=by omega
 clear p1;obtain⟨x,hx⟩:∃x,sgi s1 (lo N.natAbs E)=x:=⟨_,rfl⟩;obtain⟨t,ht⟩:∃t,ext N.natAbs E=t:=⟨_,rfl⟩;have HX:=Lib.hid hx;have HT:=Lib.hid ht;clear hx ht;have xX1:=X1.cell
 go_wp2_with fail
 refine (nCut hd hn1 b1 b2 HX.out HT.out).mono ?_;rintro ee w5 ⟨K2,s2,M2,E2,rfl,q2,B⟩;clear xX1;replace X1:=X1.below B;replace XR:=XR.below B;replace hd:=hd.below B;replace HB:=Hqb HB B;clear B;clear hd
 go_upto_region 4 with (fail)
 have lX5:=Nat.le_refl (World.heap w5).size;have nX5X1:=X1.lt;have nX5XR:=XR.lt;generalize hWn:w5.alloc _=w6 at *;obtain⟨X5,BW⟩:=Bo.nw hWn;clear hWn;replace X1:=X1.below BW;replace XR:=XR.below BW;replace HB:=Hqb HB BW;clear BW;clear lX5
 by_cases ht:t=true
 ·subst ht
  obtain rfl:x=r:=by rw [←HX.out,←HR.out,rnd_ext HT.out,HSG.out]
  have xXR:=XR.cell;have zXR0:=XR.frozen;have xX1:=X1.cell;have xX5:=X5.cell;go_wp2;clear xXR zXR0 xX1 xX5;have SX:=StN.mk4 XR (.int .i64 K2) (.bool s2) (.int .u64 M2) (.int .i64 E2);exact bodyPost_ret (by simp [results,Tryz.results225,go_sem,SX.box.cell]) rfl ⟨_,_,_,_,rfl,q2,(SX.below HB.out (by omega))⟩
 ·have ht:t=false:=by simpa using ht
  subst ht
  by_cases hs:s1=up
  ·obtain rfl:x=r:=by rw [←HX.out,←HR.out,rnd_same HSG.out hs]
   subst hs;have xXR:=XR.cell;have zXR0:=XR.frozen;have xX1:=X1.cell;have xX5:=X5.cell;go_wp2;clear xXR zXR0 xX1 xX5;have SX:=StN.mk4 XR (.int .i64 K2) (.bool s2) (.int .u64 M2) (.int .i64 E2);exact bodyPost_ret (by simp [results,Tryz.results225,go_sem,SX.box.cell]) rfl ⟨_,_,_,_,rfl,q2,(SX.below HB.out (by omega))⟩
  ·obtain rfl:(!s1)=up:=by cases s1 <;> cases up <;> first | rfl | exact absurd rfl hs
   clear hs
   have e2:(s1==!s1)=false:=by cases s1 <;> rfl
   have HRR:Hid (nx (!s1) (rk K2 s2 M2 E2)=r):=Lib.hid (by rw [q2.rk,←HX.out,nx_lo s1 HT.out,←HR.out,rnd_diff HSG.out])
   have xX1:=X1.cell;have xX5:=X5.cell
   go_wp2_with fail
   refine (nNext q2.top HRR.out).mono ?_;rintro ee w7 ⟨K3,s3,M3,E3,rfl,q3,B⟩;clear xX1 xX5;replace X1:=X1.below B;replace XR:=XR.below B;replace X5:=X5.below B;replace HB:=Hqb HB B;clear B;have xXR:=XR.cell;have zXR0:=XR.frozen;have xX1:=X1.cell;have xX5:=X5.cell;go_wp2
   clear xXR zXR0 xX1 xX5;have SX:=StN.mk4 XR (.int .i64 K3) (.bool s3) (.int .u64 M3) (.int .i64 E3);exact bodyPost_ret (by simp [results,Tryz.results225,go_sem,SX.box.cell]) rfl ⟨_,_,_,_,rfl,q3,(SX.below HB.out (by omega))⟩
theorem nRound{w:World}{A:Option Addr}{n c:Nat}{s up:Bool}{z e N E r:Int}(hT:Tab w)(h:Wr w s A n c z)(hn:n≤100000)(hN:(mk z e).1=N)(hE:(mk z e).2=E)(hr:rnd up N E=r):
  Calls Tryz.prog 225 #[.agg #[.bool s,.slice A n c,.int .i64 e],.bool up] w (PN w r):=by
 cases hm:mayD s n z.natAbs e
 ·exact nround_n hT h hn hN hE hr hm
 ·exact nround_y hT h hn hN hE hr hm
def PDB (w:World)(N E:Int)(t:Bool)(e:Ending)(w':World):Prop:=∃s A n c,e= .returned (.tuple #[.agg #[.bool s,.slice A n c,.int .i64 E],.bool t])∧Wn w' s A n c N∧n≤2∧Below w.heap.size w w'
def exb (D:Int)(s:Bool)(M E:Int):Bool:=decide (MayQ D s M E) && !(D==2)
def exq (D:Int)(s:Bool)(M E:Int):Int × Int:=if exb D s M E=true then mk (sgi s M) E else (0,0)
def Jo.Fact.rd (a K:Nat):Jo.Fact:=⟨fun v w=>∃A n c,v= .slice A n c∧Rd w A n c a∧n≤K,fun v w w' h b=>by
 obtain⟨A,n,c,e,h,k⟩:=h;exact⟨A,n,c,e,h.below b,k⟩⟩
theorem lit_rdk (W:World){X Y a:Nat}(hX:X < 4294967296)(hY:Y < 4294967296)(ha:Y+4294967296*X=a):Rd (W.alloc (.cells #[.int .u32 (Y:Int),.int .u32 (X:Int)] 81)) (some ⟨W.heap.size,0,none⟩) 2 2 a:=
 ⟨_,_,lit2 W Y X hY hX,by simp [val];omega⟩
theorem sg_toNat{s:Bool}{M:Int}(h:0≤M):sg s M.toNat=sgi s M:=by
 have:((M.toNat:Nat):Int)=M:=by omega
 unfold sg sgi
 rw [this]
theorem nexact_a{w:World}{D M E:Int}{s:Bool}(hm:decide (MayQ D s M E)=false):Calls Tryz.prog 187 #[VQ D s M E] w (PDB w 0 0 false):=by
 delta VQ
 have HM:=Lib.hid hm;clear hm
 go_enter Tryz.func187,Tryz.ntmps187
 go_upto_region 1 with (fail)
 generalize hW1:(w.alloc _).alloc _=w1 at *;obtain⟨X1,XR,HB⟩:=Bo.en2 hW1;clear hW1;have xX1:=X1.cell
 go_wp2_with fail
 refine (nMay HM.out).mono ?_;rintro ee w2 ⟨rfl,B⟩;clear xX1;replace X1:=X1.below B;replace XR:=XR.below B;replace HB:=Hqb HB B;clear B;have xXR:=XR.cell;have zXR0:=XR.frozen;have xX1:=X1.cell;go_wp2;clear xXR zXR0 xX1;have SX:=StN.mk3 XR (.bool false) (.slice none 0 0) (.int .i64 0)
 exact bodyPost_ret (v:= .tuple #[.agg #[.bool false,.slice none 0 0,.int .i64 0],.bool false]) (by simp [results,Tryz.results187,go_sem,SX.box.cell]) rfl ⟨_,_,_,_,rfl,Wn.zero,by decide,(SX.below HB.out (by omega))⟩
theorem nexact_b{w:World}{D M E:Int}{s:Bool}(hm:decide (MayQ D s M E)=true)(hd:D=2):Calls Tryz.prog 187 #[VQ D s M E] w (PDB w 0 0 false):=by
 delta VQ
 have HM:=Lib.hid hm;clear hm;subst hd
 go_enter Tryz.func187,Tryz.ntmps187
 go_upto_region 1 with (fail)
 generalize hW1:(w.alloc _).alloc _=w1 at *;obtain⟨X1,XR,HB⟩:=Bo.en2 hW1;clear hW1;have xX1:=X1.cell
 go_wp2_with fail
 refine (nMay HM.out).mono ?_;rintro ee w2 ⟨rfl,B⟩;clear xX1;replace X1:=X1.below B;replace XR:=XR.below B;replace HB:=Hqb HB B;clear B;have xXR:=XR.cell;have zXR0:=XR.frozen;have xX1:=X1.cell;go_wp2;clear xXR zXR0 xX1;have SX:=StN.mk3 XR (.bool false) (.slice none 0 0) (.int .i64 0)
 exact bodyPost_ret (v:= .tuple #[.agg #[.bool false,.slice none 0 0,.int .i64 0],.bool false]) (by simp [results,Tryz.results187,go_sem,SX.box.cell]) rfl ⟨_,_,_,_,rfl,Wn.zero,by decide,(SX.below HB.out (by omega))⟩
theorem nexact_m{w:World}{D M E:Int}{s:Bool}{N F:Int}(hT:Tab w)(h0:0≤M)(hM:LQ M)(hm:decide (MayQ D s M E)=true)(hd:D≠2)(hN:(mk (sgi s M) E).1=N)(hE:(mk (sgi s M) E).2=F):Calls Tryz.prog 187 #[VQ D s M E] w (PDB w N F true):=by
 delta VQ
 have HM:=Lib.hid hm;have HN:=Lib.hid hN;have HE:=Lib.hid hE
 have e2:(D==2)=false:=by simpa using hd
 obtain⟨X,hX⟩:∃X:Nat,M/4294967296=X:=⟨(M/4294967296).toNat,by omega⟩
 obtain⟨Y,hY⟩:∃Y:Nat,M%4294967296=Y:=⟨(M%4294967296).toNat,by omega⟩
 have hx:X < 4294967296:=by omega
 have hy:Y < 4294967296:=by omega
 have ha:Y+4294967296*X=M.toNat:=by omega
 have HX:=Lib.hid hX
 have HY:Hid (IntKind.u32.wrap M=(Y:Int)):=Lib.hid (by
  show M%4294967296=(Y:Int)
  exact hY)
 have HX2:Hid (IntKind.u32.wrap (X:Int)=(X:Int)):=Lib.hid (IntWalk.u32_in _ (by omega))
 have HS:Hid (sg s M.toNat=sgi s M):=Lib.hid (sg_toNat h0)
 clear hm hN hE hX hY
 go_enter Tryz.func187,Tryz.ntmps187
 go_upto_region 1 with (fail)
 generalize hW1:(w.alloc _).alloc _=w1 at *;obtain⟨X1,XR,HB⟩:=Bo.en2 hW1;replace hT:=hT.below HB.out;clear hW1;have xX1:=X1.cell
 go_wp2_with fail
 refine (nMay HM.out).mono ?_;rintro ee w2 ⟨rfl,B⟩;clear xX1;replace X1:=X1.below B;replace XR:=XR.below B;replace hT:=hT.below B;replace HB:=Hqb HB B;clear B;have xX1:=X1.cell
 go_upto_region 3 with (fail)
 clear xX1;refine Jo.rk [0,1,2,3,4,5,6,7,8,9,10,11,12,13] [some 13,some 14,some 15,some 16,some 17,some 18,some 19,some 20,some 21,some 22,some 23,some 24,some 25,some 26,none,some 3] [[],[0],[],[2],[3],[],[5],[6],[7],[4,8],[1,9],[],[11],[10,12],[],[]] 16 2 [Jo.qp w.heap.size 1,Jo.qb s,Jo.qp w.heap.size 2,Jo.Fact.eq (.int .u64 M),Jo.Fact.eq (.int .u32 (Y:Int)),Jo.qp w.heap.size 2,Jo.Fact.eq (.int .u64 M),Jo.Fact.eq (.int .u64 (X:Int)),Jo.Fact.eq (.int .u32 (X:Int)),Jo.Fact.rd M.toNat 2,Jo.Fact.wn (sgi s M) 2,Jo.qp w.heap.size 3,Jo.qi E,Jo.Fact.dy N F 2,Jo.Fact.any,Jo.Fact.any] (by kernel_rfl) (by kernel_rfl) (by decide) rfl ?_ ?_
 ·refine Jo.jm rfl ?_ ?_;rotate_left
  refine Jo.jm rfl ?_ ?_
  ·rintro wj hJ _ rfl K hK;simp only [Jo.z]at hK⊢;have xX11:=(X1.below hJ).a 1 (.bool s) rfl;go_simp;exact hK.out _ _ rfl (br _ _)
  refine Jo.jm rfl ?_ ?_;rotate_left
  refine Jo.jm rfl ?_ ?_
  ·rintro wj hJ _ rfl K hK;simp only [Jo.z]at hK⊢;have xX12:=(X1.below hJ).a 2 (.int .u64 M) rfl;go_simp;exact hK.out _ _ rfl (br _ _)
  refine Jo.jm rfl ?_ ?_
  ·rintro wj hJ _ rfl K hK;simp only [Jo.z]at hK⊢;have hy2:=HY.out;go_simp;exact hK.out _ _ rfl (br _ _)
  refine Jo.jm rfl ?_ ?_;rotate_left
  refine Jo.jm rfl ?_ ?_
  ·rintro wj hJ _ rfl K hK;simp only [Jo.z]at hK⊢;have xX12:=(X1.below hJ).a 2 (.int .u64 M) rfl;go_simp;exact hK.out _ _ rfl (br _ _)
  refine Jo.jm rfl ?_ ?_
  ·rintro wj hJ _ rfl K hK;simp only [Jo.z]at hK⊢;have hx2:=HX.out;go_simp;exact hK.out _ _ rfl (br _ _)
  refine Jo.jm rfl ?_ ?_
  ·rintro wj hJ _ rfl K hK;simp only [Jo.z]at hK⊢;have hx2:=HX2.out;go_simp;exact hK.out _ _ rfl (br _ _)
  refine Jo.jm rfl ?_ ?_
  ·rintro wj hJ _ rfl _ rfl K hK;simp only [Jo.z]at hK⊢;go_simp;exact hK.out _ _ ⟨_,2,2,rfl,lit_rdk _ hx hy ha,by decide⟩ (bel1 _ _)
  refine Jo.jm rfl ?_ ?_
  ·rintro wj hJ _ rfl _ ⟨A3,n3,c3,rfl,p3,k3⟩ K hK;simp only [Jo.z]at hK⊢;go_simp;refine (wMake s p3).mono ?_;rintro ee wk ⟨s4,A4,n4,c4,rfl,p4,k4,B⟩;exact hK.out _ _ ⟨s4,A4,n4,c4,rfl,HS.out▸p4,by omega⟩ B
  refine Jo.jm rfl ?_ ?_;rotate_left
  refine Jo.jm rfl ?_ ?_
  ·rintro wj hJ _ rfl K hK;simp only [Jo.z]at hK⊢;have xX13:=(X1.below hJ).a 3 (.int .i64 E) rfl;go_simp;exact hK.out _ _ rfl (br _ _)
  refine Jo.jm rfl ?_ ?_
  ·rintro wj hJ _ ⟨s4,A4,n4,c4,rfl,p4,k4⟩ _ rfl K hK;simp only [Jo.z]at hK⊢;go_simp;refine (dMake (hT.below hJ) p4.wr (by omega) HN.out HE.out).mono ?_;rintro ee wk ⟨s5,A5,n5,c5,rfl,p5,k5,B⟩;exact hK.out _ _ ⟨s5,A5,n5,c5,rfl,p5,by omega⟩ B
  exact Jo.Steps.nil
  all_goals (rintro wj hJ;(repeat rintro _ rfl);intro K hK;simp only [Jo.z]at hK⊢;go_simp;exact hK.out _ _ rfl (br _ _))
 rintro w3 hJ _ _ _ rfl _ _ _ rfl _ rfl _ _ _ rfl _ rfl _ rfl _ ⟨A3,n3,c3,rfl,_,_⟩ _ ⟨s4,A4,n4,c4,rfl,_,_⟩ _ _ _ rfl _ ⟨s5,A5,n5,c5,rfl,p5,k5⟩ -;simp only [Jo.z];replace X1:=X1.below hJ;replace XR:=XR.below hJ;replace hT:=hT.below hJ;replace HB:=Hqb HB hJ;have xXR:=XR.cell;have zXR0:=XR.frozen
 refine Jo.jnext (i:=14) (o:=⟨none,_,_,_,_,_⟩) (by kernel_rfl) rfl (fun K hK=>?_)
 go_simp;refine hK.out _ _ ?_;clear hK K xXR zXR0;generalize hS:((w3.setCell _ _).setCell _ _).setCell _ _=w4 at *;have SX:=StN.of3 XR hS;replace X1:=X1.stn SX (by omega);replace p5:=p5.stn SX (by simp [no32]);replace HB:=Hqs HB SX (by omega);replace XR:=SX.box;clear SX hS
 refine Jo.jnext (i:=15) (o:=⟨some 3,_,_,_,_,_⟩) (by kernel_rfl) rfl (fun K hK=>?_)
 go_simp;refine hK.out _ _ ?_;clear hK K;refine Jo.jdone (by kernel_rfl) ?_;go_wp2;exact bodyPost_ret (v:= .tuple #[.agg #[.bool s5,.slice A5 n5 c5,.int .i64 F],.bool true]) (by simp [results,Tryz.results187,go_sem,XR.cell]) rfl ⟨_,_,_,_,rfl,p5,k5,HB.out⟩
theorem nExact{w:World}{t:Bool}{D M E:Int}{s:Bool}{N F:Int}(hT:Tab w)(h0:0≤M)(hM:LQ M)(hq:exb D s M E=t)(hN:(exq D s M E).1=N)(hE:(exq D s M E).2=F):Calls Tryz.prog 187 #[VQ D s M E] w (PDB w N F t):=by
 delta VQ
 unfold exq at hN hE
 rw [hq]at hN hE
 unfold exb at hq
 cases hm:decide (MayQ D s M E)
 ·rw [hm,Bool.false_and]at hq;subst hq;subst hN;subst hE;exact nexact_a hm
 ·rw [hm,Bool.true_and]at hq
  by_cases hd:D=2
  ·have e:(D==2)=true:=by simpa using hd
   rw [e]at hq;subst hq;subst hN;subst hE;exact nexact_b hm hd
  ·have e:(D==2)=false:=by simpa using hd
   rw [e]at hq
   obtain rfl:true=t:=hq
   rw [if_pos rfl]at hN hE;exact nexact_m hT h0 hM hm hd hN hE
theorem fdiv_bd (N:Int){P:Int}(hP:0 < P):N.fdiv P*P≤N∧N < (N.fdiv P+1)*P:=by
 have h1:=Int.mul_fdiv_add_fmod N P;have h2:=Int.fmod_nonneg_of_pos N hP;have h3:=Int.fmod_lt_of_pos N hP;rw [Int.mul_comm]at h1;rw [Int.add_mul,Int.one_mul]
 omega
theorem nat_p2 (k:Nat):((2^k:Nat):Int)=2^k:=by simp
theorem flr_vl{p:Int × Int}(hp:Nf p):flr p.1 p.2*2^KK≤vl p∧vl p < (flr p.1 p.2+1)*2^KK:=by
 have b:=hp.bd
 unfold flr vl
 by_cases hE:0≤p.2
 ·rw [if_pos hE,nat_p2,Int.mul_assoc,←Int.pow_add,show p.2.toNat+KK=(p.2+KK).toNat by omega,Int.add_mul,Int.mul_assoc,←Int.pow_add,show p.2.toNat+KK=(p.2+KK).toNat by omega]
  have:=p2pos KK
  omega
 ·rw [if_neg hE,nat_p2];obtain⟨h1,h2⟩:=fdiv_bd p.1 (p2pos (-p.2).toNat)
  have hk:KK=(-p.2).toNat+(p.2+KK).toNat:=by rw [KK_eq];omega
  have hq:=p2pos (p.2+KK).toNat
  have e:(2:Int)^KK=2^(-p.2).toNat*2^(p.2+KK).toNat:=by rw [←Int.pow_add,←hk]
  rw [e,←Int.mul_assoc,←Int.mul_assoc];exact⟨Int.mul_le_mul_of_nonneg_right h1 (by omega),Int.mul_lt_mul_of_pos_right h2 hq⟩
theorem sgi_mul (s:Bool)(x y:Int):sgi s x*y=sgi s (x*y):=by
 cases s
 ·rfl
 ·exact Int.neg_mul _ _
theorem vp_vr{x:Int}(s:Bool)(h:0 < x):vr (sgi s x)=sgi s (vp x):=by
 rw [vr_sgi]
 congr 1
 unfold vr
 rw [if_neg (by omega)]
theorem exq_vl{D:Int}{s:Bool}{M E r:Int}(q:Fq D s M E r)(h1: -19342822337206103650074625 < r)(h2:r < 19342822337206103650074625):exb D s M E=true∧vl (exq D s M E)=vr r:=by
 have hb:exb D s M E=true:=by
  unfold exb
  rw [decide_eq_true q.1,Bool.true_and]
  rcases q.cases with⟨rfl,rfl,rfl,rfl,h0⟩ | ⟨rfl,_⟩ | ⟨rfl,rfl,rfl,⟨rfl,h5⟩ | ⟨rfl,h5⟩⟩
  ·rfl
  ·rfl
  ·omega
  ·omega
 refine⟨hb,?_⟩
 unfold exq
 rw [if_pos hb];have hr:=q.2.2
 rcases q.1 with⟨rfl,rfl,rfl,rfl⟩ | ⟨rfl,g1,g2,g3⟩ | ⟨rfl,rfl,rfl⟩
 ·obtain rfl:0=r:=hr
  have e0:sgi false 0=0:=if_neg (by decide)
  rw [e0,mk_zero,vl_zero]
  rfl
 ·have hM:=q.2.1
  have hpl:plc 1 M E=M-9223372036854775808+1+(E+1048576)*9223372036854775808:=rfl
  rw [hpl]at hr
  have ha:(sgi s M).natAbs=M.toNat:=by
   cases s
   ·show M.natAbs=M.toNat;omega
   ·show (-M).natAbs=M.toNat;omega
  obtain⟨η,hη⟩:∃η:Nat,4194304=η:=⟨_,rfl⟩
  have hf:=mk_fit (z:=sgi s M) (e:=E) (h:=η) (by omega) (by omega) (by
   rw [ha]
   have:M.toNat < 2^64:=by omega
   have:=Nat.mul_lt_mul_of_pos_right this (Nat.pow_pos (n:=(E+(η:Int)).toNat) (show 0 < 2 by decide))
   rw [←Nat.pow_add]at this;exact Nat.lt_of_lt_of_le this (Nat.pow_le_pow_right (by decide) (by omega)))
  rw [hf.2,←hr,vp_vr s (by omega),vp_fin g1 hM (by omega),sgi_mul]
 ·exfalso
  have:r=sgi s TP:=hr.symm
  have:=TP_eq
  cases s
  ·have e:sgi false TP=TP:=if_neg (by decide)
   omega
  ·have e:sgi true TP= -TP:=if_pos rfl
   omega
theorem lo_full{m:Nat}{E:Int}(h1:9223372036854775808≤m)(h2:m < 18446744073709551616)(h3: -1048576≤E)(h4:E≤1048576):lo m E=(m:Int)-9223372036854775808+1+(E+1048576)*9223372036854775808:=by
 have hb:blen m=64:=blen_uniq (k:=63) (by omega) (by omega) (by omega)
 have hx:xp m E=E:=by unfold xp;rw [hb];omega
 have ht:tp m=m:=by
  rw [tp_small (by omega),hb,Nat.sub_self,Nat.pow_zero,Nat.mul_one]
 unfold lo
 rw [if_neg (by omega),hx,if_neg (by omega),if_neg (by omega),ht]
theorem back_odd{m k t:Nat}{E F:Int}(hm:m=k*2^t)(h1:9223372036854775808≤m)(h2:m < 18446744073709551616)(h3: -1048576≤E)(h4:E≤1048576)(hF:F=E+(t:Nat)):ext k F=true∧lo k F=lo m E:=by
 have hb:blen m=64:=blen_uniq (k:=63) (by omega) (by omega) (by omega)
 have hk:k≠0:=fun e=>by rw [e,Nat.zero_mul]at hm;omega
 have b1:=blen_mul hk t;rw [←hm,hb]at b1;refine⟨?_,?_⟩
 ·have e0:(k==0)=false:=by simpa using hk
  unfold ext xp
  rw [e0,Bool.false_or,decide_eq_true (by omega),decide_eq_true (by omega),decide_eq_true (by omega)]
  rfl
 ·rw [hm,lo_mul hk,hF]
theorem back_fin{s:Bool}{M E:Int}(up:Bool)(g1:9223372036854775808≤M)(hM:LQ M)(g2: -1048576≤E)(g3:E≤1048576){z:Int}(hz:z.natAbs=M.toNat)(hs:decide (z < 0)=s):rnd up (mk z E).1 (mk z E).2=sgi s (M-9223372036854775808+1+(E+1048576)*9223372036854775808):=by
 have h0:z≠0:=by omega
 have hv:=v2_pow_le (n:=z.natAbs) (by omega)
 have hv2:v2 z.natAbs < 64:=(Nat.pow_lt_pow_iff_right (a:=2) (by decide)).1 (show 2^v2 z.natAbs < 2^64 by omega)
 obtain⟨e1,e2,e3,e4,e5⟩:=mk_in (z:=z) (e:=E) h0 (by omega) (by omega)
 revert e1 e3 e4 e5
 generalize mk z E=p;obtain⟨N,F⟩:=p
 intro e1 e3 e4 e5
 simp only at e1 e3 e4 e5⊢
 have ea:z.natAbs=N.natAbs*2^v2 z.natAbs:=by
  have:=congrArg Int.natAbs e5
  rwa [natAbs_mul_pow]at this
 obtain⟨x1,x2⟩:=back_odd ea (by omega) (by omega) g2 g3 e1
 rw [rnd_ext x1,x2,lo_full (by omega) (by omega) g2 g3,show decide (N < 0)=s by rw [←hs];simp only [e3],show ((z.natAbs:Nat):Int)=M by omega]
theorem rnd_nought (up:Bool):rnd up 0 0=0:=by
 rw [rnd_ext rfl]
 rfl
theorem rnd_back{D:Int}{s:Bool}{M E r:Int}(up:Bool)(q:Fq D s M E r)(hx:exb D s M E=true):rnd up (exq D s M E).1 (exq D s M E).2=r:=by
 unfold exq
 rw [if_pos hx];have hr:=q.2.2
 rcases q.1 with⟨rfl,rfl,rfl,rfl⟩ | ⟨rfl,g1,g2,g3⟩ | ⟨rfl,rfl,rfl⟩
 ·obtain rfl:0=r:=hr
  have e0:sgi false 0=0:=if_neg (by decide)
  rw [e0,mk_zero];exact rnd_nought up
 ·have hM:=q.2.1
  have hpl:plc 1 M E=M-9223372036854775808+1+(E+1048576)*9223372036854775808:=rfl
  rw [hpl]at hr;rw [←hr];refine back_fin up g1 hM g2 g3 ?_ ?_
  ·cases s
   ·rw [show sgi false M=M from if_neg (by decide)];omega
   ·rw [show sgi true M= -M from if_pos rfl];omega
  ·cases s
   ·rw [show sgi false M=M from if_neg (by decide)];exact decide_eq_false (by omega)
   ·rw [show sgi true M= -M from if_pos rfl];exact decide_eq_true (by omega)
 ·exact absurd hx (by unfold exb;simp)
def opl (n:Int):Int:=sgi (decide (n < 0)) (lo n.natAbs 0)
theorem opl_zero:opl 0=0:=rfl
theorem opl_vr{n:Int}(h1: -9223372036854775808≤n)(h2:n≤9223372036854775807):vr (opl n)=n*2^KK:=by
 by_cases h0:n=0
 ·subst h0;rw [opl_zero,Int.zero_mul]
  rfl
 ·have q:=of_fq h0 h1 h2;have hs:=of_shl h0 h1 h2;have a3:=blen_mono_le (n:=n.natAbs) (k:=64) (by omega)
  have hr:_=opl n:=q.2.2
  have g:=q.plc (by decide)
  rcases g with⟨_,g1,g2,g3,g4,g5⟩ | ⟨g,_⟩
  ·rw [←hr,vp_vr _ (by rw [g5];omega),g5,vp_fin g1 g2 (by omega),←hs,Int.mul_assoc,←Int.pow_add,show (64-(blen n.natAbs:Int)).toNat+(-(64-(blen n.natAbs:Int))+(KK:Int)).toNat=KK by rw [KK_eq];omega,←sgi_mul]
   congr 1
   by_cases hn:n < 0
   ·rw [decide_eq_true hn];show -(n.natAbs:Int)=n;omega
   ·rw [decide_eq_false hn];show (n.natAbs:Int)=n;omega
  ·exact absurd g (by decide)
theorem opl_cmp{a b:Int}(h1: -9223372036854775808≤a)(h2:a≤9223372036854775807)(k1: -9223372036854775808≤b)(k2:b≤9223372036854775807):cmpI (opl a) (opl b)=cmpI a b:=by
 rw [←vr_cmp,opl_vr h1 h2,opl_vr k1 k2,cmpI_scale (p2pos KK)]
theorem sgi_not{n:Int}(h0:n≠0)(l:Int):sgi (decide (-n < 0)) l= -sgi (decide (n < 0)) l:=by
 by_cases hn:n < 0
 ·rw [decide_eq_true hn,decide_eq_false (show ¬ -n < 0 by omega),show sgi false l=l from if_neg (by decide),show sgi true l= -l from if_pos rfl,Int.neg_neg]
 ·rw [decide_eq_false hn,decide_eq_true (show -n < 0 by omega),show sgi false l=l from if_neg (by decide),show sgi true l= -l from if_pos rfl]
theorem opl_neg (n:Int):opl (-n)= -opl n:=by
 by_cases h0:n=0
 ·rw [h0,Int.neg_zero,opl_zero,Int.neg_zero]
 ·unfold opl
  rw [Int.natAbs_neg];exact sgi_not h0 _
def Dn (X r:Int):Prop:= -19342822337206103650074625≤r∧r≤19342822337206103650074624∧(-19342822337206103650074625 < r→vr r≤X)∧(r < 19342822337206103650074624→X < vr (r+1))
def Up (X r:Int):Prop:=Dn (-X) (-r)
theorem Dn.mono{X Y r t:Int}(h:Dn X r)(k:Dn Y t)(hXY:X≤Y):r≤t:=by
 obtain⟨h1,h2,h3,h4⟩:=h;obtain⟨k1,k2,k3,k4⟩:=k
 rcases Int.lt_or_le t r with q | q
 ·exfalso
  have a:=h3 (by omega);have b:=k4 (by omega)
  rcases Int.lt_or_eq_of_le (show t+1≤r by omega)with q | q
  ·have:=vr_lt q
   omega
  ·rw [q]at b
   omega
 ·exact q
theorem Dn.uniq{X r t:Int}(h:Dn X r)(k:Dn X t):r=t:=by
 have a:=h.mono k (Int.le_refl _);have b:=k.mono h (Int.le_refl _)
 omega
theorem Up.mono{X Y r t:Int}(h:Up X r)(k:Up Y t)(hXY:X≤Y):r≤t:=by
 have:=Dn.mono k h (by omega)
 omega
theorem Up.uniq{X r t:Int}(h:Up X r)(k:Up X t):r=t:=by
 have:=Dn.uniq h k
 omega
theorem dn_self{r:Int}(h1: -19342822337206103650074625 < r)(h2:r < 19342822337206103650074625):Dn (vr r) r:=⟨by omega,by omega,fun _=>Int.le_refl _,fun _=>vr_succ r⟩
theorem up_self{r:Int}(h1: -19342822337206103650074625 < r)(h2:r < 19342822337206103650074625):Up (vr r) r:=by
 unfold Up
 rw [←vr_neg];exact dn_self (by omega) (by omega)
theorem m_lt (m:Nat){a b:Int}(ha:0≤a)(hb:0≤b)(h:(blen m:Int)+a≤b):(m:Int)*2^a.toNat < 2^b.toNat:=by
 have h1:=Nat.mul_lt_mul_of_pos_right (blen_lt m) (Nat.pow_pos (n:=a.toNat) (show 0 < 2 by decide))
 rw [←Nat.pow_add]at h1
 have h2:=Nat.lt_of_lt_of_le h1 (Nat.pow_le_pow_right (show 0 < 2 by decide) (show blen m+a.toNat≤b.toNat by omega))
 exact_mod_cast h2
theorem m_ge{m:Nat}(h0:m≠0){a b:Int}(ha:0≤a)(hb:0≤b)(h:b≤(blen m:Int)-1+a):(2:Int)^b.toNat≤(m:Int)*2^a.toNat:=by
 have hl:blen m≠0:=fun e=>h0 (blen_eq_zero.1 e)
 have h1:=Nat.mul_le_mul_right (2^a.toNat) (blen_le h0);rw [←Nat.pow_add]at h1
 have h2:=Nat.le_trans (Nat.pow_le_pow_right (show 0 < 2 by decide) (show b.toNat≤blen m-1+a.toNat by omega)) h1
 exact_mod_cast h2
theorem vp_one:vp 1=2^(63-1048576+(KK:Int)).toNat:=by
 have:=vp_fin (M:=9223372036854775808) (E:= -1048576) (by decide) (by decide) (by decide)
 rw [show (9223372036854775808:Int)-9223372036854775808+1+(-1048576+1048576)*9223372036854775808=1 by decide]at this
 rw [this,show (63-1048576+(KK:Int)).toNat=63+(-1048576+(KK:Int)).toNat by rw [KK_eq];omega,Int.pow_add]
 rfl
theorem vp_top:vp 19342822337206103650074624 < 2^(64+1048576+(KK:Int)).toNat:=by
 have:=vp_fin (M:=18446744073709551615) (E:=1048576) (by decide) (by decide) (by decide)
 rw [show (18446744073709551615:Int)-9223372036854775808+1+(1048576+1048576)*9223372036854775808=19342822337206103650074624 by decide]at this
 rw [this,show (64+1048576+(KK:Int)).toNat=64+(1048576+(KK:Int)).toNat by rw [KK_eq];omega,Int.pow_add]
 exact Int.mul_lt_mul_of_pos_right (by decide) (p2pos _)
theorem lo_dn{m:Nat}{E:Int}(h0:m≠0)(hE1: -4194304≤E)(hE2:E≤4194304)(ho:m%2=1):Dn ((m:Int)*2^(E+KK).toNat) (lo m E)∧Up ((m:Int)*2^(E+KK).toNat) (hi m E)∧0≤lo m E∧0≤hi m E:=by
 have hk:=KK_eq;obtain⟨b1,b2⟩:=lo_bd m E
 have hl:blen m≠0:=fun e=>h0 (blen_eq_zero.1 e)
 have hx:xp m E=E+(blen m:Nat)-64:=rfl
 have e0:(m==0)=false:=by simpa using h0
 have hpos:0 < (m:Int)*2^(E+KK).toNat:=Int.mul_pos (by omega) (p2pos _)
 by_cases c1:1048576 < xp m E
 ·have el:lo m E=19342822337206103650074624:=by
   unfold lo
   rw [if_neg h0,if_pos c1]
  have ex:ext m E=false:=by
   unfold ext
   rw [e0,decide_eq_false (show ¬xp m E≤1048576 by omega)]
   rfl
  have eh:hi m E=lo m E+1:=by
   unfold hi
   rw [ex,if_neg (by decide)]
  have g:=m_ge h0 (a:=E+KK) (b:=64+1048576+KK) (by omega) (by omega) (by omega);have ht:=vp_top
  have ev:vr 19342822337206103650074624=vp 19342822337206103650074624:=by
   unfold vr
   rw [if_neg (by decide)]
  rw [eh,el]
  refine⟨⟨by decide,by decide,fun _=>by omega,fun h=>absurd h (by decide)⟩,⟨by decide,by decide,fun h=>absurd h (by decide),fun _=>?_⟩,by decide,by decide⟩
  have en:vr (-(19342822337206103650074624+1)+1)= -vr 19342822337206103650074624:=vr_neg 19342822337206103650074624
  omega
 ·by_cases c2:xp m E < -1048576
  ·have el:lo m E=0:=by
    unfold lo
    rw [if_neg h0,if_neg c1,if_pos c2]
   have ex:ext m E=false:=by
    unfold ext
    rw [e0,decide_eq_false (show ¬ -1048576≤xp m E by omega)]
    simp
   have eh:hi m E=lo m E+1:=by
    unfold hi
    rw [ex,if_neg (by decide)]
   have g:=m_lt m (a:=E+KK) (b:=63-1048576+KK) (by omega) (by omega) (by omega);have h1:=vp_one
   have ev:vr 1=vp 1:=by
    unfold vr
    rw [if_neg (by decide)]
   have ez:vr 0=0:=rfl
   rw [eh,el]
   have en:vr (-(0+1))= -vr 1:=vr_neg 1
   refine⟨⟨by decide,by decide,fun _=>by omega,fun _=>?_⟩,⟨by decide,by decide,fun _=>by omega,fun _=>?_⟩,by decide,by decide⟩
   ·rw [show (0:Int)+1=1 from rfl]
    omega
   ·rw [show (-(0+1)+1:Int)=0 from rfl]
    omega
  ·obtain⟨v1,v2,v3,v4⟩:=lo_vr (m:=m) (E:=E) h0 (by omega) (by omega) (by omega) ho
   revert v1 v2 v3 v4
   have hh:hi m E=if ext m E=true then lo m E else lo m E+1:=rfl
   cases hx:ext m E
   ·rw [hx,if_neg (by decide)]at hh;rw [hh]
    revert b1 b2
    generalize lo m E=l
    intro b1 b2 v1 v2 v3 v4
    have v5:=v4 rfl;have n1:=vr_neg (l+1);have n2:=vr_neg l
    refine⟨⟨by omega,by omega,fun _=>v1,fun _=>v2⟩,⟨by omega,by omega,fun _=>by omega,fun _=>?_⟩,b1,by omega⟩
    rw [show -(l+1)+1= -l by omega]
    omega
   ·rw [hx,if_pos rfl]at hh;rw [hh]
    revert b1 b2
    generalize lo m E=l
    intro b1 b2 v1 v2 v3 v4
    have v5:=v3 rfl;have n1:=vr_neg l;have n2:=vr_succ (-l)
    refine⟨⟨by omega,by omega,fun _=>v1,fun _=>v2⟩,⟨by omega,by omega,fun _=>by omega,fun _=>by omega⟩,b1,b1⟩
theorem up_of_dn{X r:Int}(h:Dn X r):Up (-X) (-r):=by
 unfold Up
 rw [Int.neg_neg,Int.neg_neg];exact h
theorem dn_of_up{X r:Int}(h:Up X r):Dn (-X) (-r):=h
theorem rnd_spec{P:Int × Int}(hP:Nf P):Dn (vl P) (rnd false P.1 P.2)∧Up (vl P) (rnd true P.1 P.2):=by
 rcases hP.cases with e | ⟨h0,ho,e1,e2⟩
 ·subst e;rw [rnd_nought,rnd_nought,vl_zero];have h:=dn_self (r:=0) (by decide) (by decide);have k:=up_self (r:=0) (by decide) (by decide)
  rw [show vr 0=0 from rfl]at h k
  exact⟨h,k⟩
 ·obtain⟨d,u,_,_⟩:=lo_dn (m:=P.1.natAbs) (E:=P.2) (by omega) e1 e2 ho
  have hvl:vl P=P.1*2^(P.2+KK).toNat:=rfl
  rcases Int.lt_or_lt_of_ne h0 with hn | hp
  ·have hs:true=decide (P.1 < 0):=(decide_eq_true hn).symm
   have r1:=rnd_diff (E:=P.2) hs;have r2:=rnd_same (up:=true) (E:=P.2) hs rfl
   rw [show (!true)=false from rfl]at r1
   have ev:vl P= -((P.1.natAbs:Int)*2^(P.2+KK).toNat):=by
    rw [hvl,←Int.neg_mul]
    congr 1
    omega
   have s1:∀x,sgi true x= -x:=fun x=>if_pos rfl
   rw [r1,r2,ev,s1,s1];exact⟨dn_of_up u,up_of_dn d⟩
  ·have hs:false=decide (P.1 < 0):=(decide_eq_false (by omega)).symm
   have r1:=rnd_same (up:=false) (E:=P.2) hs rfl;have r2:=rnd_diff (E:=P.2) hs
   rw [show (!false)=true from rfl]at r2
   have ev:vl P=(P.1.natAbs:Int)*2^(P.2+KK).toNat:=by
    rw [hvl]
    congr 1
    omega
   have s1:∀x,sgi false x=x:=fun x=>if_neg (by decide)
   rw [r1,r2,ev,s1,s1];exact⟨d,u⟩
theorem rnd_monoA{P Q:Int × Int}(hP:Nf P)(hQ:Nf Q)(h:vl P≤vl Q)(up:Bool):rnd up P.1 P.2≤rnd up Q.1 Q.2:=by
 cases up
 ·exact (rnd_spec hP).1.mono (rnd_spec hQ).1 h
 ·exact (rnd_spec hP).2.mono (rnd_spec hQ).2 h
theorem rnd_turn{P:Int × Int}(hP:Nf P)(up:Bool):rnd (!up) (-P.1) P.2= -rnd up P.1 P.2:=by
 have hn:Nf (ng P):=ng_nf hP
 have hv:=vl_ng P;obtain⟨a,b⟩:=rnd_spec hP;obtain⟨c,d⟩:=rnd_spec hn;rw [hv]at c d
 cases up
 ·have:=d.uniq (up_of_dn a)
  exact this
 ·have:=c.uniq (dn_of_up b)
  exact this
end Go.Proofs.YtaadmpiphnfllaaGreatDoor
