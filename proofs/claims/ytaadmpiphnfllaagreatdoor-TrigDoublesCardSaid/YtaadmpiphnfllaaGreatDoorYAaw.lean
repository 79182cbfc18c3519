/-
 Contracts that the proof rests on.
-/
import Derived.Test.YtaadmpiphnfllaaGreatDoorYAav
namespace Go.Proofs.YtaadmpiphnfllaaGreatDoor
set_option maxHeartbeats 4000000
open Go.RowKit
set_option linter.unusedVariables false
set_option linter.unusedSimpArgs false
set_option maxRecDepth 100000
def PMv (w:World)(s:Bool)(V x:Int)(e:Ending)(w':World):Prop:=∃H L,e= .returned (.agg #[.bool s,.int .u64 H,.int .u64 L,.int .i64 x])∧(0≤H∧H < 18446744073709551616∧0≤L∧L < 18446744073709551616∧H*18446744073709551616+L=V)∧Below w.heap.size w w'
theorem shr64_any{M k Q:Int}(h0:0≤M)(hM:LQ M)(hk:0≤k)(hQ:M/2^k.toNat=Q):Op.shift .shr .u64 M .i64 k=pure (.int .u64 Q):=by
 subst hQ
 rcases Int.lt_or_le k 65 with c | c
 ·exact shift_shr .u64 .i64 M k hk (by show k≤64;omega)
 ·have e1:min k.toNat IntKind.u64.bits=64:=by show min k.toNat 64=64;omega
  have e2:M/2^k.toNat=0:=Int.ediv_eq_zero_of_lt h0 (Int.lt_of_lt_of_le (show M < 2^64 from hM) (p2_le (by omega)))
  have e3:M.fdiv (2^64)=0:=by
   rw [Int.fdiv_eq_ediv_of_nonneg _ (by decide)];exact Int.ediv_eq_zero_of_lt h0 hM
  unfold Op.shift
  rw [if_neg (by omega),e1,e2]
  show pure (Value.int .u64 (M.fdiv (2^64)))=_
  rw [e3]
theorem or_one{Q:Int}(h0:0≤Q)(h1:LQ Q):bits BinOp.or IntKind.u64 Q 1=Q/2*2+1:=by
 obtain⟨q,rfl⟩:=Int.eq_ofNat_of_zero_le h0;have h:=u64_or_nat q 1 (by omega) (by decide)
 have e:q ||| 1=q/2*2+1:=by
  apply Nat.eq_of_testBit_eq
  intro i
  cases i with
  | zero=>simp [Nat.testBit_zero]
  | succ i=>
   rw [Nat.testBit_or,Nat.testBit_add_one,Nat.testBit_add_one,Nat.testBit_add_one,show (1:Nat) /2=0 by decide,show (q/2*2+1) /2=q/2 by omega,Nat.zero_testBit,Bool.or_false]
 rw [e]at h;exact h
theorem mv_low{M:Int}{n:Nat}(h0:0≤M)(hM:LQ M)(h1:1≤n)(h2:n≤64):0≤M/2^n∧M/2^n < 18446744073709551616∧M/2^n*18446744073709551616+M*2^(64-n)%18446744073709551616=mvd M n:=by
 obtain⟨a,b⟩:=div_le_self h0 (p2pos n);refine⟨a,by omega,?_⟩
 have e1:M*2^(64-n) /18446744073709551616=M/2^n:=by
  rw [show (18446744073709551616:Int)=2^n*2^(64-n) by rw [←Int.pow_add,show n+(64-n)=64 by omega];rfl]
  exact Int.mul_ediv_mul_of_pos_left _ _ (p2pos _)
 unfold mvd
 rw [if_pos h2,←e1]
 omega
theorem moved_low{w:World}{s:Bool}{M E N X:Int}{n:Nat}(hT:Tb w)(h0:9223372036854775808≤M)(hM:LQ M)(hN:(n:Int)=N)(hX:E+N=X)(b1: -2000000≤E)(b2:E≤2000000)(n1:1≤n)(n2:n≤64):Calls Tryz.prog 206 #[VQ 1 s M E,.int .i64 N] w (PMv w s (mvd M n) X):=by
 delta VQ
 obtain⟨v1,v2,v3⟩:=mv_low (show 0≤M by omega) hM n1 n2
 obtain⟨H,hH⟩:∃H,M/2^n=H:=⟨_,rfl⟩;obtain⟨P,hP⟩:∃P,M*2^(64-n)=P:=⟨_,rfl⟩;obtain⟨L,hL⟩:∃L,P%18446744073709551616=L:=⟨_,rfl⟩;rw [hP,hL]at v3;rw [hH]at v1 v2 v3
 have l1:0≤L∧L < 18446744073709551616:=by omega
 have HH:Hid (M/2^N.toNat=H):=Lib.hid (by rw [←hN];exact hH)
 have HP:Hid (M*2^(64-N).toNat=P):=Lib.hid (by rw [←hN,show (64-(n:Int)).toNat=64-n by omega];exact hP)
 have HL:Hid (IntKind.u64.wrap P=L):=Lib.hid (by rw [IntKind.wrap_u64];exact hL)
 have HV:=Lib.hid v3
 have HX:=Lib.hid (show IntKind.i64.wrap (E+N)=X by rw [hX];exact IntWalk.i64_in _ (by omega))
 have HSB:=Lib.hid (show IntKind.i64.wrap (64-N)=64-N from IntWalk.i64_in _ (by omega))
 have m1:1≤N:=by omega
 have m2:N≤64:=by omega
 clear hH hP hL v3 hX hN
 go_enter Tryz.func206,Tryz.ntmps206
 go_upto_region 1 with (fail)
 generalize hW1:(w.alloc _).alloc _=w1 at *;obtain⟨X2,XR,HB⟩:=Bo.en2 hW1;clear hW1;have xX2:=X2.cell;have hx:=HX.out
 go_upto_region 2 with (fail)
 clear hx;clear xX2;have lX5:=Nat.le_refl (World.heap w1).size;have nX5X2:=X2.lt;have nX5XR:=XR.lt;generalize hWn:w1.alloc _=w2 at *;obtain⟨X5,BW⟩:=Bo.nw hWn;clear hWn;replace X2:=X2.below BW;replace XR:=XR.below BW;replace HB:=Hqb HB BW;clear BW;clear lX5;have xX2:=X2.cell;have xX5:=X5.cell
 go_upto_region 3 with (fail)
 clear xX2 xX5;refine Jo.rl (w1.heap.size) #[.bool s,.int .u64 H,.int .u64 0,.int .i64 X] 115 [0,1,2,3,4,5,6,7,8,9,10,11] [some 15,some 16,some 17,some 18,some 19,some 20,some 21,some 22,some 23,some 24,none,some 25,none] [[],[0],[],[1,2],[],[4],[],[6],[5,7],[],[3,9],[],[]] 13 1 [Jo.kp w.heap.size 2,Jo.LFact.eq (.int .u64 M),Jo.LFact.eq (.int .i64 N),Jo.LFact.eq (.int .u64 H),Jo.kp w.heap.size 2,Jo.LFact.eq (.int .u64 M),Jo.LFact.eq (.int .i64 N),Jo.LFact.eq (.int .i64 (64-N)),Jo.LFact.eq (.int .u64 L),Jo.kp w1.heap.size 1,Jo.LFact.done,Jo.kp w1.heap.size 2,Jo.LFact.any] (by kernel_rfl) (by kernel_rfl) (by decide) rfl ?_ ?_
 ·refine Jo.lm rfl ?_ ?_
  ·rintro wj hJ K hK;simp only [Jo.z]at hK⊢;go_simp;exact hK.out _ _ rfl (Jo.Off.refl _ _ _ _)
  refine Jo.lm rfl ?_ ?_
  ·rintro wj hJ _ rfl K hK;simp only [Jo.z]at hK⊢;replace X2:=X2.off (by omega) hJ;have xX2:=X2.cell;go_simp;exact hK.out _ _ rfl (Jo.Off.refl _ _ _ _)
  refine Jo.lm rfl ?_ ?_
  ·rintro wj hJ K hK;simp only [Jo.z]at hK⊢;go_simp;exact hK.out _ _ rfl (Jo.Off.refl _ _ _ _)
  refine Jo.lm rfl ?_ ?_
  ·rintro wj hJ _ rfl _ rfl K hK;simp only [Jo.z]at hK⊢;have hh:=HH.out;go_simp;exact hK.out _ _ rfl (Jo.Off.refl _ _ _ _)
  refine Jo.lm rfl ?_ ?_
  ·rintro wj hJ K hK;simp only [Jo.z]at hK⊢;go_simp;exact hK.out _ _ rfl (Jo.Off.refl _ _ _ _)
  refine Jo.lm rfl ?_ ?_
  ·rintro wj hJ _ rfl K hK;simp only [Jo.z]at hK⊢;replace X2:=X2.off (by omega) hJ;have xX2:=X2.cell;go_simp;exact hK.out _ _ rfl (Jo.Off.refl _ _ _ _)
  refine Jo.lm rfl ?_ ?_
  ·rintro wj hJ K hK;simp only [Jo.z]at hK⊢;go_simp;exact hK.out _ _ rfl (Jo.Off.refl _ _ _ _)
  refine Jo.lm rfl ?_ ?_
  ·rintro wj hJ _ rfl K hK;simp only [Jo.z]at hK⊢;have hsb:=HSB.out;go_simp;exact hK.out _ _ rfl (Jo.Off.refl _ _ _ _)
  refine Jo.lm rfl ?_ ?_
  ·rintro wj hJ _ rfl _ rfl K hK;simp only [Jo.z]at hK⊢;have hp:=HP.out;have hl:=HL.out;go_simp;exact hK.out _ _ rfl (Jo.Off.refl _ _ _ _)
  refine Jo.lm rfl ?_ ?_
  ·rintro wj hJ K hK;simp only [Jo.z]at hK⊢;go_simp;exact hK.out _ _ rfl (Jo.Off.refl _ _ _ _)
  refine Jo.lm rfl ?_ ?_
  ·rintro wj hJ _ rfl _ rfl K hK;simp only [Jo.z]at hK⊢
   rcases hJ.own with e | e
   ·have XO:Bo wj (w1.heap.size) #[.bool s,.int .u64 0,.int .u64 0,.int .i64 X] 115:=X5.keep e
    have y0:=XO.a 0 (.bool s) rfl;have u0:=XO.frozen 0;have y1:=XO.a 1 (.int .u64 0) rfl;have u1:=XO.frozen 1;have y2:=XO.a 2 (.int .u64 0) rfl;have u2:=XO.frozen 2;have y3:=XO.a 3 (.int .i64 X) rfl;have u3:=XO.frozen 3;go_simp
    have SX:StN wj (World.setCell wj ⟨w1.heap.size,1,none⟩ (.int .u64 H)) _ _ #[.bool s,.int .u64 H,.int .u64 0,.int .i64 X] _:=StN.at4 XO 1 (.int .u64 H)
    exact hK.out undef _ SX.box (Jo.Off.of_stn SX)
   ·have XO:Bo wj (w1.heap.size) #[.bool s,.int .u64 H,.int .u64 0,.int .i64 X] 115:=e
    have y0:=XO.a 0 (.bool s) rfl;have u0:=XO.frozen 0;have y1:=XO.a 1 (.int .u64 H) rfl;have u1:=XO.frozen 1;have y2:=XO.a 2 (.int .u64 0) rfl;have u2:=XO.frozen 2;have y3:=XO.a 3 (.int .i64 X) rfl;have u3:=XO.frozen 3;go_simp
    have SX:StN wj (World.setCell wj ⟨w1.heap.size,1,none⟩ (.int .u64 H)) _ _ #[.bool s,.int .u64 H,.int .u64 0,.int .i64 X] _:=StN.at4 XO 1 (.int .u64 H)
    exact hK.out undef _ SX.box (Jo.Off.of_stn SX)
  refine Jo.lm rfl ?_ ?_
  ·rintro wj hJ K hK;simp only [Jo.z]at hK⊢;go_simp;exact hK.out _ _ rfl (Jo.Off.refl _ _ _ _)
  exact Jo.Steps.nil
 rintro w3 hJ _ _ _ rfl _ rfl _ rfl _ _ _ rfl _ rfl _ rfl _ rfl _ _ u10 d10 _ rfl -;simp only [Jo.z];replace HB:=Lib.hid (hJ.below HB.out (by omega) X5.lt);replace X2:=X2.off (by omega) hJ;replace XR:=XR.off (by omega) hJ
 replace X5:Bo w3 (w1.heap.size) #[.bool s,.int .u64 H,.int .u64 0,.int .i64 X] 115:=d10
 have xX5:=X5.cell;have zX50:=X5.frozen
 refine Jo.jnext (i:=12) (o:=⟨none,_,_,_,_,_⟩) (by kernel_rfl) rfl (fun K hK=>?_)
 go_simp;refine hK.out _ _ ?_;clear hK K xX5 zX50
 have SX:StN w3 (World.setCell w3 ⟨w1.heap.size,2,none⟩ (.int .u64 L)) _ _ #[.bool s,.int .u64 H,.int .u64 L,.int .i64 X] _:=StN.at4 X5 2 (.int .u64 L)
 replace X2:=X2.stn SX (by omega);replace XR:=XR.stn SX (by omega);replace HB:=Hqs HB SX (by omega);replace X5:=SX.box;clear SX;generalize World.setCell w3 ⟨w1.heap.size,2,none⟩ (.int .u64 L)=w4 at *;refine Jo.jdone (by kernel_rfl) ?_;have xXR:=XR.cell;have zXR0:=XR.frozen;have xX5:=X5.cell;go_wp2;clear xXR zXR0 xX5
 have SX:=StN.mk4 XR (.bool s) (.int .u64 H) (.int .u64 L) (.int .i64 X);exact bodyPost_ret (v:= .agg #[.bool s,.int .u64 H,.int .u64 L,.int .i64 X]) (by simp [results,Tryz.results206,go_sem,SX.box.cell]) rfl ⟨H,L,rfl,⟨v1,v2,l1.1,l1.2,HV.out⟩,(SX.below HB.out (by omega))⟩
theorem moved_even{w:World}{s:Bool}{M E N X:Int}{n:Nat}(hT:Tb w)(h0:9223372036854775808≤M)(hM:LQ M)(hN:(n:Int)=N)(hX:E+N=X)(b1: -2000000≤E)(b2:E≤2000000)(n1:1≤n)(n2:64 < n)(n3:n≤4000000)(hr:M%2^(n-64)=0):Calls Tryz.prog 206 #[VQ 1 s M E,.int .i64 N] w (PMv w s (mvd M n) X):=by
 delta VQ
 obtain⟨v1,v2⟩:=div_le_self (show 0≤M by omega) (p2pos (n-64))
 obtain⟨Q,hQ⟩:∃Q,M/2^(n-64)=Q:=⟨_,rfl⟩;obtain⟨k,hk⟩:∃k,N-64=k:=⟨_,rfl⟩
 have hkn:k.toNat=n-64:=by omega
 have k1:1≤k:=by omega
 rw [hQ]at v1 v2
 have hV:mvd M n=Q:=by
  unfold mvd
  rw [if_neg (by omega),if_pos hr,hQ]
 obtain⟨m,hm⟩:∃m:Nat,(m:Int)=M:=⟨M.toNat,by omega⟩
 obtain⟨z,hz⟩:∃z,((Lib.ctz 64 m:Nat):Int)=z:=⟨_,rfl⟩
 have m0:m≠0:=by omega
 have m1:m < 18446744073709551616:=by omega
 have hc:¬z < k:=by
  have h1:=ctz_dvd (n:=n-64) m0 m1
  have h2:m%2^(n-64)=0↔M%2^(n-64)=0:=by
   rw [←hm]
   constructor
   ·intro c
    have:((m%2^(n-64):Nat):Int)=0:=by rw [c];rfl
    rw [←this]
    push_cast
    rfl
   ·intro c
    have:((m%2^(n-64):Nat):Int)=0:=by
     rw [←c]
     push_cast
     rfl
    omega
  have h3:n-64≤Lib.ctz 64 m↔M%2^(n-64)=0:=h1.trans h2
  have h4:=h3.2 hr
  omega
 have HSH:Hid (Op.shift .shr .u64 M .i64 k=pure (.int .u64 Q)):=Lib.hid (shr64_any (by omega) hM (by omega) (by rw [hkn];exact hQ))
 have HQ:Hid (M/2^k.toNat=Q):=Lib.hid (by rw [hkn];exact hQ)
 have HX:=Lib.hid (show IntKind.i64.wrap (E+N)=X by rw [hX];exact IntWalk.i64_in _ (by omega))
 have HK:=Lib.hid (show IntKind.i64.wrap (N-64)=k by rw [hk];exact IntWalk.i64_in _ (by omega))
 have HM:=Lib.hid hm;have HZ:=Lib.hid hz;have HV:=Lib.hid hV;have HO:=Lib.hid (or_one (Q:=Q) v1 (by omega))
 have m2:¬N≤64:=by omega
 obtain⟨o,ho⟩:∃o,Q/2*2+1=o:=⟨_,rfl⟩;rw [ho]at HO
 have ob:0≤o∧o < 18446744073709551616:=by omega
 have HOO:=Lib.hid ho;clear hQ hX hN hm hz hV hr ho hkn hk
 go_enter Tryz.func206,Tryz.ntmps206
 go_upto_region 1 with (fail)
 generalize hW1:(w.alloc _).alloc _=w1 at *;obtain⟨X2,XR,HB⟩:=Bo.en2 hW1;replace hT:=hT.below HB.out;clear hW1;have xX2:=X2.cell;have hx:=HX.out
 go_upto_region 2 with (fail)
 clear hx;clear xX2;have lX5:=Nat.le_refl (World.heap w1).size;have nX5X2:=X2.lt;have nX5XR:=XR.lt;generalize hWn:w1.alloc _=w2 at *;obtain⟨X5,BW⟩:=Bo.nw hWn;clear hWn;replace X2:=X2.below BW;replace XR:=XR.below BW;replace hT:=hT.below BW;replace HB:=Hqb HB BW;clear BW;clear lX5;have xX2:=X2.cell;have xX5:=X5.cell
 have zX50:=X5.frozen;have hkk:=HK.out;have hsh:=HSH.out;have hq:=HQ.out
 go_upto_region 7 with (fail)
 clear hkk hsh hq;clear xX2 xX5 zX50
 have SX:StN w2 (World.setCell w2 ⟨w1.heap.size,2,none⟩ (.int .u64 Q)) _ _ #[.bool s,.int .u64 0,.int .u64 Q,.int .i64 X] _:=StN.at4 X5 2 (.int .u64 Q)
 replace X2:=X2.stn SX (by omega);replace XR:=XR.stn SX (by omega);replace hT:=hT.stn SX (by simp [no8]);replace HB:=Hqs HB SX (by omega);replace X5:=SX.box;clear SX;generalize World.setCell w2 ⟨w1.heap.size,2,none⟩ (.int .u64 Q)=w3 at *;have xX2:=X2.cell
 go_wp2_with fail
 refine (aTz hT m0 m1 HM.out HZ.out).mono ?_;rintro ee w4 ⟨rfl,B⟩;clear xX2;replace X2:=X2.below B;replace XR:=XR.below B;replace X5:=X5.below B;replace hT:=hT.below B;replace HB:=Hqb HB B;clear B;have xXR:=XR.cell;have zXR0:=XR.frozen;have xX5:=X5.cell;go_wp2;clear xXR zXR0 xX5
 have SX:=StN.mk4 XR (.bool s) (.int .u64 0) (.int .u64 Q) (.int .i64 X);exact bodyPost_ret (v:= .agg #[.bool s,.int .u64 0,.int .u64 Q,.int .i64 X]) (by simp [results,Tryz.results206,go_sem,SX.box.cell]) rfl ⟨0,Q,rfl,⟨by decide,by decide,v1,by omega,by rw [HV.out];omega⟩,(SX.below HB.out (by omega))⟩
theorem moved_odd{w:World}{s:Bool}{M E N X:Int}{n:Nat}(hT:Tb w)(h0:9223372036854775808≤M)(hM:LQ M)(hN:(n:Int)=N)(hX:E+N=X)(b1: -2000000≤E)(b2:E≤2000000)(n1:1≤n)(n2:64 < n)(n3:n≤4000000)(hr:M%2^(n-64)≠0):Calls Tryz.prog 206 #[VQ 1 s M E,.int .i64 N] w (PMv w s (mvd M n) X):=by
 delta VQ
 obtain⟨v1,v2⟩:=div_le_self (show 0≤M by omega) (p2pos (n-64))
 obtain⟨Q,hQ⟩:∃Q,M/2^(n-64)=Q:=⟨_,rfl⟩;obtain⟨k,hk⟩:∃k,N-64=k:=⟨_,rfl⟩
 have hkn:k.toNat=n-64:=by omega
 have k1:1≤k:=by omega
 rw [hQ]at v1 v2
 have hV:mvd M n=Q/2*2+1:=by
  unfold mvd
  rw [if_neg (by omega),if_neg hr,hQ]
 obtain⟨m,hm⟩:∃m:Nat,(m:Int)=M:=⟨M.toNat,by omega⟩
 obtain⟨z,hz⟩:∃z,((Lib.ctz 64 m:Nat):Int)=z:=⟨_,rfl⟩
 have m0:m≠0:=by omega
 have m1:m < 18446744073709551616:=by omega
 have hc:z < k:=by
  have h1:=ctz_dvd (n:=n-64) m0 m1
  have h2:m%2^(n-64)=0↔M%2^(n-64)=0:=by
   rw [←hm]
   constructor
   ·intro c
    have:((m%2^(n-64):Nat):Int)=0:=by rw [c];rfl
    rw [←this]
    push_cast
    rfl
   ·intro c
    have:((m%2^(n-64):Nat):Int)=0:=by
     rw [←c]
     push_cast
     rfl
    omega
  have h3:n-64≤Lib.ctz 64 m↔M%2^(n-64)=0:=h1.trans h2
  have h4:¬(n-64≤Lib.ctz 64 m):=fun c=>hr (h3.1 c)
  omega
 have HSH:Hid (Op.shift .shr .u64 M .i64 k=pure (.int .u64 Q)):=Lib.hid (shr64_any (by omega) hM (by omega) (by rw [hkn];exact hQ))
 have HQ:Hid (M/2^k.toNat=Q):=Lib.hid (by rw [hkn];exact hQ)
 have HX:=Lib.hid (show IntKind.i64.wrap (E+N)=X by rw [hX];exact IntWalk.i64_in _ (by omega))
 have HK:=Lib.hid (show IntKind.i64.wrap (N-64)=k by rw [hk];exact IntWalk.i64_in _ (by omega))
 have HM:=Lib.hid hm;have HZ:=Lib.hid hz;have HV:=Lib.hid hV;have HO:=Lib.hid (or_one (Q:=Q) v1 (by omega))
 have m2:¬N≤64:=by omega
 obtain⟨o,ho⟩:∃o,Q/2*2+1=o:=⟨_,rfl⟩;rw [ho]at HO
 have ob:0≤o∧o < 18446744073709551616:=by omega
 have HOO:=Lib.hid ho;clear hQ hX hN hm hz hV hr ho hkn hk
 go_enter Tryz.func206,Tryz.ntmps206
 go_upto_region 1 with (fail)
 generalize hW1:(w.alloc _).alloc _=w1 at *;obtain⟨X2,XR,HB⟩:=Bo.en2 hW1;replace hT:=hT.below HB.out;clear hW1;have xX2:=X2.cell;have hx:=HX.out
 go_upto_region 2 with (fail)
 clear hx;clear xX2;have lX5:=Nat.le_refl (World.heap w1).size;have nX5X2:=X2.lt;have nX5XR:=XR.lt;generalize hWn:w1.alloc _=w2 at *;obtain⟨X5,BW⟩:=Bo.nw hWn;clear hWn;replace X2:=X2.below BW;replace XR:=XR.below BW;replace hT:=hT.below BW;replace HB:=Hqb HB BW;clear BW;clear lX5;have xX2:=X2.cell;have xX5:=X5.cell
 have zX50:=X5.frozen;have hkk:=HK.out;have hsh:=HSH.out;have hq:=HQ.out
 go_upto_region 7 with (fail)
 clear hkk hsh hq;clear xX2 xX5 zX50
 have SX:StN w2 (World.setCell w2 ⟨w1.heap.size,2,none⟩ (.int .u64 Q)) _ _ #[.bool s,.int .u64 0,.int .u64 Q,.int .i64 X] _:=StN.at4 X5 2 (.int .u64 Q)
 replace X2:=X2.stn SX (by omega);replace XR:=XR.stn SX (by omega);replace hT:=hT.stn SX (by simp [no8]);replace HB:=Hqs HB SX (by omega);replace X5:=SX.box;clear SX;generalize World.setCell w2 ⟨w1.heap.size,2,none⟩ (.int .u64 Q)=w3 at *;have xX2:=X2.cell
 go_wp2_with fail
 refine (aTz hT m0 m1 HM.out HZ.out).mono ?_;rintro ee w4 ⟨rfl,B⟩;clear xX2;replace X2:=X2.below B;replace XR:=XR.below B;replace X5:=X5.below B;replace hT:=hT.below B;replace HB:=Hqb HB B;clear B;have xX5:=X5.cell;have zX50:=X5.frozen;have ho:=HO.out
 go_upto_region 9 with (fail)
 clear ho;clear xX5 zX50
 have SX:StN w4 (World.setCell w4 ⟨w1.heap.size,2,none⟩ (.int .u64 o)) _ _ #[.bool s,.int .u64 0,.int .u64 o,.int .i64 X] _:=StN.at4 X5 2 (.int .u64 o)
 replace X2:=X2.stn SX (by omega);replace XR:=XR.stn SX (by omega);replace hT:=hT.stn SX (by simp [no8]);replace HB:=Hqs HB SX (by omega);replace X5:=SX.box;clear SX;generalize World.setCell w4 ⟨w1.heap.size,2,none⟩ (.int .u64 o)=w5 at *;have xXR:=XR.cell;have zXR0:=XR.frozen;have xX5:=X5.cell;go_wp2;clear xXR zXR0 xX5
 have SX:=StN.mk4 XR (.bool s) (.int .u64 0) (.int .u64 o) (.int .i64 X);exact bodyPost_ret (v:= .agg #[.bool s,.int .u64 0,.int .u64 o,.int .i64 X]) (by simp [results,Tryz.results206,go_sem,SX.box.cell]) rfl ⟨0,o,rfl,⟨by decide,by decide,ob.1,ob.2,by rw [HV.out,HOO.out];omega⟩,(SX.below HB.out (by omega))⟩
theorem aMoved{w:World}{s:Bool}{M E N X:Int}{n:Nat}(hT:Tb w)(h0:9223372036854775808≤M)(hM:LQ M)(hN:(n:Int)=N)(hX:E+N=X)(b1: -2000000≤E)(b2:E≤2000000)(n1:1≤n)(n3:n≤4000000):Calls Tryz.prog 206 #[VQ 1 s M E,.int .i64 N] w (PMv w s (mvd M n) X):=by
 delta VQ
 by_cases n2:n≤64
 ·exact moved_low hT h0 hM hN hX b1 b2 n1 n2
 ·by_cases hr:M%2^(n-64)=0
  ·exact moved_even hT h0 hM hN hX b1 b2 n1 (by omega) n3 hr
  ·exact moved_odd hT h0 hM hN hX b1 b2 n1 (by omega) n3 hr
theorem order_lt{w:World}{s1 s2:Bool}{M1 M2 E1 E2:Int}(h:E1 < E2):Calls Tryz.prog 205 #[VQ 1 s1 M1 E1,VQ 1 s2 M2 E2] w fun e w'=>e= .returned (.tuple #[.agg #[.int .i64 1,.bool s2,.int .u64 M2,.int .i64 E2],.agg #[.int .i64 1,.bool s1,.int .u64 M1,.int .i64 E1]])∧Below w.heap.size w w':=by
 delta VQ
 go_enter Tryz.func205,Tryz.ntmps205
 go_upto_region 1 with (fail)
 generalize hW1:(((w.alloc _).alloc _).alloc _).alloc _=w1 at *;obtain⟨X2,X3,X4,X5,HB⟩:=Bo.en4 hW1;clear hW1;have xX2:=X2.cell;have xX3:=X3.cell
 go_upto_region 2 with (fail)
 clear xX2 xX3;refine Jo.rl (w.heap.size+1+1) #[.int .i64 1,.bool s2,.int .u64 M2,.int .i64 E2] 24 [0,1,2] [some 25,some 26,none,none] [[],[],[0],[]] 4 1 [Jo.LFact.eq (.agg #[.int .i64 1,.bool s2,.int .u64 M2,.int .i64 E2]),Jo.LFact.eq (.agg #[.int .i64 1,.bool s1,.int .u64 M1,.int .i64 E1]),Jo.LFact.done,Jo.LFact.any] (by kernel_rfl) (by kernel_rfl) (by decide) rfl ?_ ?_
 ·refine Jo.lm rfl ?_ ?_
  ·rintro wj hJ K hK;simp only [Jo.z]at hK⊢;replace X3:=X3.off (by omega) hJ;have xX3:=X3.cell;go_simp;exact hK.out _ _ rfl (Jo.Off.refl _ _ _ _)
  refine Jo.lm rfl ?_ ?_
  ·rintro wj hJ K hK;simp only [Jo.z]at hK⊢;replace X2:=X2.off (by omega) hJ;have xX2:=X2.cell;go_simp;exact hK.out _ _ rfl (Jo.Off.refl _ _ _ _)
  refine Jo.lm rfl ?_ ?_
  ·rintro wj hJ _ rfl K hK;simp only [Jo.z]at hK⊢
   obtain⟨v0,v1,v2,v3,XO⟩:∃v0 v1 v2 v3,Bo wj (w.heap.size+1+1) #[v0,v1,v2,v3] 24:=by
    rcases hJ.own with e | e
    ·exact⟨_,_,_,_,X4.keep e⟩
    ·exact⟨_,_,_,_,e⟩
   have y0:=XO.a 0 (v0) rfl;have u0:=XO.frozen 0;have y1:=XO.a 1 (v1) rfl;have u1:=XO.frozen 1;have y2:=XO.a 2 (v2) rfl;have u2:=XO.frozen 2;have y3:=XO.a 3 (v3) rfl;have u3:=XO.frozen 3;go_simp;have SX:=StN.mk4 XO (.int .i64 1) (.bool s2) (.int .u64 M2) (.int .i64 E2);exact hK.out undef _ SX.box (Jo.Off.of_stn SX)
  exact Jo.Steps.nil
 rintro w2 hJ _ rfl _ rfl u2 d2 -;simp only [Jo.z];replace HB:=Lib.hid (hJ.below HB.out (by omega) X4.lt);replace X2:=X2.off (by omega) hJ;replace X3:=X3.off (by omega) hJ;replace X5:=X5.off (by omega) hJ
 replace X4:Bo w2 (w.heap.size+1+1) #[.int .i64 1,.bool s2,.int .u64 M2,.int .i64 E2] 24:=d2
 have xX5:=X5.cell;have zX50:=X5.frozen
 refine Jo.jnext (i:=3) (o:=⟨none,_,_,_,_,_⟩) (by kernel_rfl) rfl (fun K hK=>?_)
 go_simp;refine hK.out _ _ ?_;clear hK K xX5 zX50;generalize hS:(((w2.setCell _ _).setCell _ _).setCell _ _).setCell _ _=w3 at *;have SX:=StN.of4 X5 hS;replace X2:=X2.stn SX (by omega);replace X3:=X3.stn SX (by omega);replace X4:=X4.stn SX (by omega);replace HB:=Hqs HB SX (by omega);replace X5:=SX.box;clear SX hS;refine Jo.jdone (by kernel_rfl) ?_
 go_wp2;exact bodyPost_ret (v:= .tuple #[.agg #[.int .i64 1,.bool s2,.int .u64 M2,.int .i64 E2],.agg #[.int .i64 1,.bool s1,.int .u64 M1,.int .i64 E1]]) (by simp [results,Tryz.results205,go_sem,X4.cell,X5.cell]) rfl ⟨rfl,HB.out⟩
theorem order_eqlt{w:World}{s1 s2:Bool}{M1 M2 E1 E2:Int}(h:E1=E2)(hm:M1 < M2):Calls Tryz.prog 205 #[VQ 1 s1 M1 E1,VQ 1 s2 M2 E2] w fun e w'=>e= .returned (.tuple #[.agg #[.int .i64 1,.bool s2,.int .u64 M2,.int .i64 E2],.agg #[.int .i64 1,.bool s1,.int .u64 M1,.int .i64 E1]])∧Below w.heap.size w w':=by
 delta VQ
 subst h
 have h1:¬E1 < E1:=by omega
 go_enter Tryz.func205,Tryz.ntmps205
 go_upto_region 1 with (fail)
 generalize hW1:(((w.alloc _).alloc _).alloc _).alloc _=w1 at *;obtain⟨X2,X3,X4,X5,HB⟩:=Bo.en4 hW1;clear hW1;have xX2:=X2.cell;have xX3:=X3.cell
 go_upto_region 2 with (fail)
 clear xX2 xX3;refine Jo.rl (w.heap.size+1+1) #[.int .i64 1,.bool s2,.int .u64 M2,.int .i64 E1] 24 [0,1,2] [some 25,some 26,none,none] [[],[],[0],[]] 4 1 [Jo.LFact.eq (.agg #[.int .i64 1,.bool s2,.int .u64 M2,.int .i64 E1]),Jo.LFact.eq (.agg #[.int .i64 1,.bool s1,.int .u64 M1,.int .i64 E1]),Jo.LFact.done,Jo.LFact.any] (by kernel_rfl) (by kernel_rfl) (by decide) rfl ?_ ?_
 ·refine Jo.lm rfl ?_ ?_
  ·rintro wj hJ K hK;simp only [Jo.z]at hK⊢;replace X3:=X3.off (by omega) hJ;have xX3:=X3.cell;go_simp;exact hK.out _ _ rfl (Jo.Off.refl _ _ _ _)
  refine Jo.lm rfl ?_ ?_
  ·rintro wj hJ K hK;simp only [Jo.z]at hK⊢;replace X2:=X2.off (by omega) hJ;have xX2:=X2.cell;go_simp;exact hK.out _ _ rfl (Jo.Off.refl _ _ _ _)
  refine Jo.lm rfl ?_ ?_
  ·rintro wj hJ _ rfl K hK;simp only [Jo.z]at hK⊢
   obtain⟨v0,v1,v2,v3,XO⟩:∃v0 v1 v2 v3,Bo wj (w.heap.size+1+1) #[v0,v1,v2,v3] 24:=by
    rcases hJ.own with e | e
    ·exact⟨_,_,_,_,X4.keep e⟩
    ·exact⟨_,_,_,_,e⟩
   have y0:=XO.a 0 (v0) rfl;have u0:=XO.frozen 0;have y1:=XO.a 1 (v1) rfl;have u1:=XO.frozen 1;have y2:=XO.a 2 (v2) rfl;have u2:=XO.frozen 2;have y3:=XO.a 3 (v3) rfl;have u3:=XO.frozen 3;go_simp;have SX:=StN.mk4 XO (.int .i64 1) (.bool s2) (.int .u64 M2) (.int .i64 E1);exact hK.out undef _ SX.box (Jo.Off.of_stn SX)
  exact Jo.Steps.nil
 rintro w2 hJ _ rfl _ rfl u2 d2 -;simp only [Jo.z];replace HB:=Lib.hid (hJ.below HB.out (by omega) X4.lt);replace X2:=X2.off (by omega) hJ;replace X3:=X3.off (by omega) hJ;replace X5:=X5.off (by omega) hJ
 replace X4:Bo w2 (w.heap.size+1+1) #[.int .i64 1,.bool s2,.int .u64 M2,.int .i64 E1] 24:=d2
 have xX5:=X5.cell;have zX50:=X5.frozen
 refine Jo.jnext (i:=3) (o:=⟨none,_,_,_,_,_⟩) (by kernel_rfl) rfl (fun K hK=>?_)
 go_simp;refine hK.out _ _ ?_;clear hK K xX5 zX50;generalize hS:(((w2.setCell _ _).setCell _ _).setCell _ _).setCell _ _=w3 at *;have SX:=StN.of4 X5 hS;replace X2:=X2.stn SX (by omega);replace X3:=X3.stn SX (by omega);replace X4:=X4.stn SX (by omega);replace HB:=Hqs HB SX (by omega);replace X5:=SX.box;clear SX hS;refine Jo.jdone (by kernel_rfl) ?_
 go_wp2;exact bodyPost_ret (v:= .tuple #[.agg #[.int .i64 1,.bool s2,.int .u64 M2,.int .i64 E1],.agg #[.int .i64 1,.bool s1,.int .u64 M1,.int .i64 E1]]) (by simp [results,Tryz.results205,go_sem,X4.cell,X5.cell]) rfl ⟨rfl,HB.out⟩
theorem order_eqge{w:World}{s1 s2:Bool}{M1 M2 E1 E2:Int}(h:E1=E2)(hm:¬M1 < M2):Calls Tryz.prog 205 #[VQ 1 s1 M1 E1,VQ 1 s2 M2 E2] w fun e w'=>e= .returned (.tuple #[.agg #[.int .i64 1,.bool s1,.int .u64 M1,.int .i64 E1],.agg #[.int .i64 1,.bool s2,.int .u64 M2,.int .i64 E2]])∧Below w.heap.size w w':=by
 delta VQ
 subst h
 have h1:¬E1 < E1:=by omega
 go_enter Tryz.func205,Tryz.ntmps205
 go_upto_region 1 with (fail)
 generalize hW1:(((w.alloc _).alloc _).alloc _).alloc _=w1 at *;obtain⟨X2,X3,X4,X5,HB⟩:=Bo.en4 hW1;clear hW1;have xX2:=X2.cell;have xX3:=X3.cell
 go_upto_region 3 with (fail)
 clear xX2 xX3;refine Jo.rl (w.heap.size+1+1) #[.int .i64 1,.bool s1,.int .u64 M1,.int .i64 E1] 24 [0,1,2] [some 27,some 28,none,none] [[],[],[0],[]] 4 1 [Jo.LFact.eq (.agg #[.int .i64 1,.bool s1,.int .u64 M1,.int .i64 E1]),Jo.LFact.eq (.agg #[.int .i64 1,.bool s2,.int .u64 M2,.int .i64 E1]),Jo.LFact.done,Jo.LFact.any] (by kernel_rfl) (by kernel_rfl) (by decide) rfl ?_ ?_
 ·refine Jo.lm rfl ?_ ?_
  ·rintro wj hJ K hK;simp only [Jo.z]at hK⊢;replace X2:=X2.off (by omega) hJ;have xX2:=X2.cell;go_simp;exact hK.out _ _ rfl (Jo.Off.refl _ _ _ _)
  refine Jo.lm rfl ?_ ?_
  ·rintro wj hJ K hK;simp only [Jo.z]at hK⊢;replace X3:=X3.off (by omega) hJ;have xX3:=X3.cell;go_simp;exact hK.out _ _ rfl (Jo.Off.refl _ _ _ _)
  refine Jo.lm rfl ?_ ?_
  ·rintro wj hJ _ rfl K hK;simp only [Jo.z]at hK⊢
   obtain⟨v0,v1,v2,v3,XO⟩:∃v0 v1 v2 v3,Bo wj (w.heap.size+1+1) #[v0,v1,v2,v3] 24:=by
    rcases hJ.own with e | e
    ·exact⟨_,_,_,_,X4.keep e⟩
    ·exact⟨_,_,_,_,e⟩
   have y0:=XO.a 0 (v0) rfl;have u0:=XO.frozen 0;have y1:=XO.a 1 (v1) rfl;have u1:=XO.frozen 1;have y2:=XO.a 2 (v2) rfl;have u2:=XO.frozen 2;have y3:=XO.a 3 (v3) rfl;have u3:=XO.frozen 3;go_simp;have SX:=StN.mk4 XO (.int .i64 1) (.bool s1) (.int .u64 M1) (.int .i64 E1);exact hK.out undef _ SX.box (Jo.Off.of_stn SX)
  exact Jo.Steps.nil
 rintro w2 hJ _ rfl _ rfl u2 d2 -;simp only [Jo.z];replace HB:=Lib.hid (hJ.below HB.out (by omega) X4.lt);replace X2:=X2.off (by omega) hJ;replace X3:=X3.off (by omega) hJ;replace X5:=X5.off (by omega) hJ
 replace X4:Bo w2 (w.heap.size+1+1) #[.int .i64 1,.bool s1,.int .u64 M1,.int .i64 E1] 24:=d2
 have xX5:=X5.cell;have zX50:=X5.frozen
 refine Jo.jnext (i:=3) (o:=⟨none,_,_,_,_,_⟩) (by kernel_rfl) rfl (fun K hK=>?_)
 go_simp;refine hK.out _ _ ?_;clear hK K xX5 zX50;generalize hS:(((w2.setCell _ _).setCell _ _).setCell _ _).setCell _ _=w3 at *;have SX:=StN.of4 X5 hS;replace X2:=X2.stn SX (by omega);replace X3:=X3.stn SX (by omega);replace X4:=X4.stn SX (by omega);replace HB:=Hqs HB SX (by omega);replace X5:=SX.box;clear SX hS;refine Jo.jdone (by kernel_rfl) ?_
 go_wp2;exact bodyPost_ret (v:= .tuple #[.agg #[.int .i64 1,.bool s1,.int .u64 M1,.int .i64 E1],.agg #[.int .i64 1,.bool s2,.int .u64 M2,.int .i64 E1]]) (by simp [results,Tryz.results205,go_sem,X4.cell,X5.cell]) rfl ⟨rfl,HB.out⟩
theorem order_gt{w:World}{s1 s2:Bool}{M1 M2 E1 E2:Int}(h:E2 < E1):Calls Tryz.prog 205 #[VQ 1 s1 M1 E1,VQ 1 s2 M2 E2] w fun e w'=>e= .returned (.tuple #[.agg #[.int .i64 1,.bool s1,.int .u64 M1,.int .i64 E1],.agg #[.int .i64 1,.bool s2,.int .u64 M2,.int .i64 E2]])∧Below w.heap.size w w':=by
 delta VQ
 have h1:¬E1 < E2:=by omega
 have h2:(E1==E2)=false:=by
  have:E1≠E2:=by omega
  simpa using this
 go_enter Tryz.func205,Tryz.ntmps205
 go_upto_region 1 with (fail)
 generalize hW1:(((w.alloc _).alloc _).alloc _).alloc _=w1 at *;obtain⟨X2,X3,X4,X5,HB⟩:=Bo.en4 hW1;clear hW1;have xX2:=X2.cell;have xX3:=X3.cell
 go_upto_region 3 with (fail)
 clear xX2 xX3;refine Jo.rl (w.heap.size+1+1) #[.int .i64 1,.bool s1,.int .u64 M1,.int .i64 E1] 24 [0,1,2] [some 27,some 28,none,none] [[],[],[0],[]] 4 1 [Jo.LFact.eq (.agg #[.int .i64 1,.bool s1,.int .u64 M1,.int .i64 E1]),Jo.LFact.eq (.agg #[.int .i64 1,.bool s2,.int .u64 M2,.int .i64 E2]),Jo.LFact.done,Jo.LFact.any] (by kernel_rfl) (by kernel_rfl) (by decide) rfl ?_ ?_
 ·refine Jo.lm rfl ?_ ?_
  ·rintro wj hJ K hK;simp only [Jo.z]at hK⊢;replace X2:=X2.off (by omega) hJ;have xX2:=X2.cell;go_simp;exact hK.out _ _ rfl (Jo.Off.refl _ _ _ _)
  refine Jo.lm rfl ?_ ?_
  ·rintro wj hJ K hK;simp only [Jo.z]at hK⊢;replace X3:=X3.off (by omega) hJ;have xX3:=X3.cell;go_simp;exact hK.out _ _ rfl (Jo.Off.refl _ _ _ _)
  refine Jo.lm rfl ?_ ?_
  ·rintro wj hJ _ rfl K hK;simp only [Jo.z]at hK⊢
   obtain⟨v0,v1,v2,v3,XO⟩:∃v0 v1 v2 v3,Bo wj (w.heap.size+1+1) #[v0,v1,v2,v3] 24:=by
    rcases hJ.own with e | e
    ·exact⟨_,_,_,_,X4.keep e⟩
    ·exact⟨_,_,_,_,e⟩
   have y0:=XO.a 0 (v0) rfl;have u0:=XO.frozen 0;have y1:=XO.a 1 (v1) rfl;have u1:=XO.frozen 1;have y2:=XO.a 2 (v2) rfl;have u2:=XO.frozen 2;have y3:=XO.a 3 (v3) rfl;have u3:=XO.frozen 3;go_simp;have SX:=StN.mk4 XO (.int .i64 1) (.bool s1) (.int .u64 M1) (.int .i64 E1);exact hK.out undef _ SX.box (Jo.Off.of_stn SX)
  exact Jo.Steps.nil
 rintro w2 hJ _ rfl _ rfl u2 d2 -;simp only [Jo.z];replace HB:=Lib.hid (hJ.below HB.out (by omega) X4.lt);replace X2:=X2.off (by omega) hJ;replace X3:=X3.off (by omega) hJ;replace X5:=X5.off (by omega) hJ
 replace X4:Bo w2 (w.heap.size+1+1) #[.int .i64 1,.bool s1,.int .u64 M1,.int .i64 E1] 24:=d2
 have xX5:=X5.cell;have zX50:=X5.frozen
 refine Jo.jnext (i:=3) (o:=⟨none,_,_,_,_,_⟩) (by kernel_rfl) rfl (fun K hK=>?_)
 go_simp;refine hK.out _ _ ?_;clear hK K xX5 zX50;generalize hS:(((w2.setCell _ _).setCell _ _).setCell _ _).setCell _ _=w3 at *;have SX:=StN.of4 X5 hS;replace X2:=X2.stn SX (by omega);replace X3:=X3.stn SX (by omega);replace X4:=X4.stn SX (by omega);replace HB:=Hqs HB SX (by omega);replace X5:=SX.box;clear SX hS;refine Jo.jdone (by kernel_rfl) ?_
 go_wp2;exact bodyPost_ret (v:= .tuple #[.agg #[.int .i64 1,.bool s1,.int .u64 M1,.int .i64 E1],.agg #[.int .i64 1,.bool s2,.int .u64 M2,.int .i64 E2]]) (by simp [results,Tryz.results205,go_sem,X4.cell,X5.cell]) rfl ⟨rfl,HB.out⟩
end Go.Proofs.YtaadmpiphnfllaaGreatDoor
