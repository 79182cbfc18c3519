/-
 Contracts that the proof rests on.
-/
import Derived.Test.YtaadmpiphnfllaaGreatDoorYAap
namespace Go.Proofs.YtaadmpiphnfllaaGreatDoor
set_option maxHeartbeats 4000000
open Go.RowKit
set_option linter.unusedVariables false
set_option linter.unusedSimpArgs false
set_option maxRecDepth 100000
def PN (w:World)(r:Int)(e:Ending)(w':World):Prop:=∃D s M E,e= .returned (.agg #[.int .i64 D,.bool s,.int .u64 M,.int .i64 E])∧Fq D s M E r∧Below w.heap.size w w'
theorem Fq.three{D:Int}{s:Bool}{M E r:Int}(h:Fq D s M E r):(D=0∧r=0)∨(D≠0∧s=false∧0 < r)∨(D≠0∧s=true∧r < 0):=by
 rcases h.cases with⟨rfl,rfl,rfl,rfl,h0⟩ | ⟨rfl,h1,h2,h3,h4,⟨rfl,h5⟩ | ⟨rfl,h5⟩⟩ | ⟨rfl,rfl,rfl,⟨rfl,h5⟩ | ⟨rfl,h5⟩⟩
 ·exact Or.inl ⟨rfl,h0⟩
 ·exact Or.inr (Or.inl ⟨by decide,rfl,by omega⟩)
 ·exact Or.inr (Or.inr ⟨by decide,rfl,by omega⟩)
 ·exact Or.inr (Or.inl ⟨by decide,rfl,by omega⟩)
 ·exact Or.inr (Or.inr ⟨by decide,rfl,by omega⟩)
theorem nTaken{w:World}{D M E:Int}{s:Bool}{r:Int}(hM:LQ M)(hr:rk D s M E=r):Calls Tryz.prog 76 #[VQ D s M E] w (PN w r):=by
 delta VQ
 by_cases hm:MayQ D s M E
 ·have HQ:=rk_fq hM hm;rw [hr]at HQ
  have HC:=Lib.hid (show decide (MayQ D s M E)=true from decide_eq_true hm)
  clear hm hr hM
  go_enter Tryz.func76,Tryz.ntmps76
  go_upto_region 1 with (fail)
  generalize hW1:(w.alloc _).alloc _=w1 at *;obtain⟨X1,XR,HB⟩:=Bo.en2 hW1;clear hW1;have xX1:=X1.cell
  go_wp2_with fail
  refine (nMay HC.out).mono ?_;rintro ee w2 ⟨rfl,B⟩;clear xX1;replace X1:=X1.below B;replace XR:=XR.below B;replace HB:=Hqb HB B;clear B;have xXR:=XR.cell;have zXR0:=XR.frozen;have xX1:=X1.cell;go_wp2;clear xXR zXR0 xX1;have SX:=StN.mk4 XR (.int .i64 D) (.bool s) (.int .u64 M) (.int .i64 E)
  exact bodyPost_ret (by simp [results,Tryz.results76,go_sem,SX.box.cell]) rfl ⟨D,s,M,E,rfl,HQ,(SX.below HB.out (by omega))⟩
 ·rw [rk_not hm]at hr;subst hr
  have HC:=Lib.hid (show decide (MayQ D s M E)=false from decide_eq_false hm)
  clear hm hM
  go_enter Tryz.func76,Tryz.ntmps76
  go_upto_region 1 with (fail)
  generalize hW1:(w.alloc _).alloc _=w1 at *;obtain⟨X1,XR,HB⟩:=Bo.en2 hW1;clear hW1;have xX1:=X1.cell
  go_wp2_with fail
  refine (nMay HC.out).mono ?_;rintro ee w2 ⟨rfl,B⟩;clear xX1;replace X1:=X1.below B;replace XR:=XR.below B;replace HB:=Hqb HB B;clear B;have xXR:=XR.cell;have zXR0:=XR.frozen;have xX1:=X1.cell;go_wp2;clear xXR zXR0 xX1;have SX:=StN.mk4 XR (.int .i64 0) (.bool false) (.int .u64 0) (.int .i64 0)
  exact bodyPost_ret (by simp [results,Tryz.results76,go_sem,SX.box.cell]) rfl ⟨_,_,_,_,rfl,Fq.nought,(SX.below HB.out (by omega))⟩
theorem nInf{w:World}{s:Bool}{r:Int}(hr:sgi s TP=r):Calls Tryz.prog 121 #[.bool s] w (PN w r):=by
 go_enter Tryz.func121,Tryz.ntmps121
 go_upto_region 1 with (fail)
 generalize hW1:w.alloc _=w1 at *;obtain⟨XR,HB⟩:=Bo.en1 hW1;clear hW1;have xXR:=XR.cell;have zXR0:=XR.frozen;go_wp2;clear xXR zXR0;have SX:=StN.mk4 XR (.int .i64 2) (.bool s) (.int .u64 0) (.int .i64 0);exact bodyPost_ret (v:= .agg #[.int .i64 2,.bool s,.int .u64 0,.int .i64 0]) (by simp [results,Tryz.results121,go_sem,SX.box.cell]) rfl ⟨_,_,_,_,rfl,hr▸Fq.inf s,(SX.below HB.out (by omega))⟩
theorem nT{w:World}{s:Bool}:Calls Tryz.prog 210 #[.bool s] w (fun e w'=>e= .returned (.agg #[.int .i64 1,.bool s,.int .u64 9223372036854775808,.int .i64 (-1048576)])∧Below w.heap.size w w'):=by
 go_enter Tryz.func210,Tryz.ntmps210
 go_upto_region 1 with (fail)
 generalize hW1:w.alloc _=w1 at *;obtain⟨XR,HB⟩:=Bo.en1 hW1;clear hW1;have xXR:=XR.cell;have zXR0:=XR.frozen;go_wp2;clear xXR zXR0;have SX:=StN.mk4 XR (.int .i64 1) (.bool s) (.int .u64 9223372036854775808) (.int .i64 (-1048576));exact bodyPost_ret (v:= .agg #[.int .i64 1,.bool s,.int .u64 9223372036854775808,.int .i64 (-1048576)]) (by simp [results,Tryz.results210,go_sem,SX.box.cell]) rfl ⟨rfl,(SX.below HB.out (by omega))⟩
theorem nH{w:World}{s:Bool}:Calls Tryz.prog 230 #[.bool s] w (fun e w'=>e= .returned (.agg #[.int .i64 1,.bool s,.int .u64 18446744073709551615,.int .i64 1048576])∧Below w.heap.size w w'):=by
 go_enter Tryz.func230,Tryz.ntmps230
 go_upto_region 1 with (fail)
 generalize hW1:w.alloc _=w1 at *;obtain⟨XR,HB⟩:=Bo.en1 hW1;clear hW1;have xXR:=XR.cell;have zXR0:=XR.frozen;go_wp2;clear xXR zXR0;have SX:=StN.mk4 XR (.int .i64 1) (.bool s) (.int .u64 18446744073709551615) (.int .i64 1048576);exact bodyPost_ret (v:= .agg #[.int .i64 1,.bool s,.int .u64 18446744073709551615,.int .i64 1048576]) (by simp [results,Tryz.results230,go_sem,SX.box.cell]) rfl ⟨rfl,(SX.below HB.out (by omega))⟩
theorem nSign{w:World}{D M E:Int}{s:Bool}{σ:Int}(hM:LQ M)(hs:cmpI (rk D s M E) 0=σ):Calls Tryz.prog 64 #[VQ D s M E] w (PI w σ):=by
 delta VQ
 obtain⟨r,hr⟩:∃r,rk D s M E=r:=⟨_,rfl⟩;rw [hr]at hs;have HR:=Lib.hid hr;have HS:=Lib.hid hs;clear hr hs
 go_enter Tryz.func64,Tryz.ntmps64
 go_upto_region 1 with (fail)
 generalize hW1:w.alloc _=w1 at *;obtain⟨X1,HB⟩:=Bo.en1 hW1;clear hW1;have xX1:=X1.cell
 go_wp2_with fail
 refine (nTaken hM HR.out).mono ?_;rintro ee w2 ⟨K1,s1,M1,E1,rfl,q1,B⟩;clear xX1;replace X1:=X1.below B;replace HB:=Hqb HB B;clear B;have xX1:=X1.cell;have zX10:=X1.frozen
 go_upto_region 2 with (fail)
 clear xX1 zX10;generalize hS:(((w2.setCell _ _).setCell _ _).setCell _ _).setCell _ _=w3 at *;have SX:=StN.of4 X1 hS;replace HB:=Hqs HB SX (by omega);replace X1:=SX.box;clear SX hS
 rcases q1.three with⟨h0,hr⟩ | ⟨h0,h1,hr⟩ | ⟨h0,h1,hr⟩
 ·subst h0;have hs:=HS.out;rw [cmpI_eq hr]at hs;subst hs;clear q1;have xX1:=X1.cell;go_wp2
  go_ret
  exact⟨by first | rfl | simp_all,HB.out⟩
 ·have e0:(K1==0)=false:=by simpa using h0
  have hs:=HS.out;rw [cmpI_gt hr]at hs;subst hs;subst h1;clear q1;have xX1:=X1.cell;go_wp2
  go_ret
  exact⟨by first | rfl | simp_all,HB.out⟩
 ·have e0:(K1==0)=false:=by simpa using h0
  have hs:=HS.out;rw [cmpI_lt hr]at hs;subst hs;subst h1;clear q1;have xX1:=X1.cell;go_wp2
  go_ret
  exact⟨by first | rfl | simp_all,HB.out⟩
theorem nNeg{w:World}{D M E:Int}{s:Bool}{r:Int}(hM:LQ M)(hr: -rk D s M E=r):Calls Tryz.prog 30 #[VQ D s M E] w (PN w r):=by
 delta VQ
 obtain⟨x,hx⟩:∃x,rk D s M E=x:=⟨_,rfl⟩;rw [hx]at hr;have HX:=Lib.hid hx;subst hr;clear hx
 go_enter Tryz.func30,Tryz.ntmps30
 go_upto_region 1 with (fail)
 generalize hW1:(w.alloc _).alloc _=w1 at *;obtain⟨X1,XR,HB⟩:=Bo.en2 hW1;clear hW1;have xX1:=X1.cell
 go_wp2_with fail
 refine (nTaken hM HX.out).mono ?_;rintro ee w2 ⟨K1,s1,M1,E1,rfl,q1,B⟩;clear xX1;replace X1:=X1.below B;replace XR:=XR.below B;replace HB:=Hqb HB B;clear B;have xX1:=X1.cell;have zX10:=X1.frozen
 go_upto_region 2 with (fail)
 clear xX1 zX10;generalize hS:(((w2.setCell _ _).setCell _ _).setCell _ _).setCell _ _=w3 at *;have SX:=StN.of4 X1 hS;replace XR:=XR.stn SX (by omega);replace HB:=Hqs HB SX (by omega);replace X1:=SX.box;clear SX hS
 by_cases h0:K1=0
 ·subst h0;have hz:=q1.zero_iff.1 rfl;subst hz;have xXR:=XR.cell;have zXR0:=XR.frozen;have xX1:=X1.cell;go_wp2;clear xXR zXR0 xX1;have SX:=StN.mk4 XR (.int .i64 0) (.bool s1) (.int .u64 M1) (.int .i64 E1);exact bodyPost_ret (by simp [results,Tryz.results30,go_sem,SX.box.cell]) rfl ⟨_,_,_,_,rfl,q1,(SX.below HB.out (by omega))⟩
 ·have e0:(K1==0)=false:=by simpa using h0
  have q2:=rk_neg q1 h0;have xX1:=X1.cell;have zX10:=X1.frozen
  go_upto_region 4 with (fail)
  clear xX1 zX10
  have SX:StN w3 (World.setCell w3 ⟨w.heap.size,1,none⟩ (.bool (!s1))) _ _ #[.int .i64 K1,.bool (!s1),.int .u64 M1,.int .i64 E1] _:=StN.at4 X1 1 (.bool (!s1))
  replace XR:=XR.stn SX (by omega);replace HB:=Hqs HB SX (by omega);replace X1:=SX.box;clear SX;generalize World.setCell w3 ⟨w.heap.size,1,none⟩ (.bool (!s1))=w4 at *;have xXR:=XR.cell;have zXR0:=XR.frozen;have xX1:=X1.cell;go_wp2;clear xXR zXR0 xX1;have SX:=StN.mk4 XR (.int .i64 K1) (.bool (!s1)) (.int .u64 M1) (.int .i64 E1)
  exact bodyPost_ret (by simp [results,Tryz.results30,go_sem,SX.box.cell]) rfl ⟨_,_,_,_,rfl,q2,(SX.below HB.out (by omega))⟩
theorem compare64_any (x y:Int)(w:World):Calls Tryz.prog 124 #[.int .u64 x,.int .u64 y] w fun e w'=>e= .returned (.int .i64 (cmpI x y))∧w=w':=by
 go_enter Tryz.func124,Tryz.ntmps124
 go_wp2
 all_goals go_ret
 ·exact⟨ret_int (cmpI_lt (by assumption)).symm,rfl⟩
 ·exact⟨ret_int (cmpI_gt (by assumption)).symm,rfl⟩
 ·exact⟨ret_int (cmpI_eq (by omega)).symm,rfl⟩
theorem vCmpI{x y z:Int}(w:World)(h:cmpI x y=z):Calls Tryz.prog 65 #[.int .i64 x,.int .i64 y] w (PI w z):=by
 subst h;refine (compareInt_any x y w).mono ?_;rintro e w' ⟨rfl,rfl⟩;exact⟨rfl,Below.refl _ _⟩
theorem vCmpU{x y z:Int}(w:World)(h:cmpI x y=z):Calls Tryz.prog 124 #[.int .u64 x,.int .u64 y] w (PI w z):=by
 subst h;refine (compare64_any x y w).mono ?_;rintro e w' ⟨rfl,rfl⟩;exact⟨rfl,Below.refl _ _⟩
theorem nFar{w:World}{D D' M M' E E':Int}{s s':Bool}{r:Int}(hr:fa D M E D' M' E'=r):Calls Tryz.prog 66 #[VQ D s M E,VQ D' s' M' E'] w (PI w r):=by
 delta VQ
 unfold fa at hr
 by_cases hk:D≠D'
 ·rw [if_pos hk]at hr
  have e0:(D==D')=false:=by simpa using hk
  have HR:=Lib.hid hr;clear hr hk
  go_enter Tryz.func66,Tryz.ntmps66
  go_upto_region 1 with (fail)
  generalize hW1:(w.alloc _).alloc _=w1 at *;obtain⟨X1,X2,HB⟩:=Bo.en2 hW1;clear hW1;have xX1:=X1.cell;have xX2:=X2.cell
  go_wp2_with fail
  refine (vCmpI _ HR.out).mono ?_;rintro ee w2 ⟨rfl,B⟩;clear xX1 xX2;replace X1:=X1.below B;replace X2:=X2.below B;replace HB:=Hqb HB B;clear B;go_wp2
  go_ret
  exact⟨rfl,HB.out⟩
 ·rw [if_neg hk]at hr
  obtain rfl:D=D':=Decidable.not_not.1 hk
  clear hk
  by_cases he:E≠E'
  ·rw [if_pos he]at hr
   have e0:(E==E')=false:=by simpa using he
   have HR:=Lib.hid hr;clear hr he
   go_enter Tryz.func66,Tryz.ntmps66
   go_upto_region 1 with (fail)
   generalize hW1:(w.alloc _).alloc _=w1 at *;obtain⟨X1,X2,HB⟩:=Bo.en2 hW1;clear hW1;have xX1:=X1.cell;have xX2:=X2.cell
   go_wp2_with fail
   refine (vCmpI _ HR.out).mono ?_;rintro ee w2 ⟨rfl,B⟩;clear xX1 xX2;replace X1:=X1.below B;replace X2:=X2.below B;replace HB:=Hqb HB B;clear B;go_wp2
   go_ret
   exact⟨rfl,HB.out⟩
  ·rw [if_neg he]at hr
   obtain rfl:E=E':=Decidable.not_not.1 he
   have HR:=Lib.hid hr;clear hr he
   go_enter Tryz.func66,Tryz.ntmps66
   go_upto_region 1 with (fail)
   generalize hW1:(w.alloc _).alloc _=w1 at *;obtain⟨X1,X2,HB⟩:=Bo.en2 hW1;clear hW1;have xX1:=X1.cell;have xX2:=X2.cell
   go_wp2_with fail
   refine (vCmpU _ HR.out).mono ?_;rintro ee w2 ⟨rfl,B⟩;clear xX1 xX2;replace X1:=X1.below B;replace X2:=X2.below B;replace HB:=Hqb HB B;clear B;go_wp2
   go_ret
   exact⟨rfl,HB.out⟩
theorem nCmp{w:World}{D D' M M' E E':Int}{s s':Bool}{z:Int}(hM:LQ M)(hM':LQ M')(hz:cmpI (rk D s M E) (rk D' s' M' E')=z):Calls Tryz.prog 23 #[VQ D s M E,VQ D' s' M' E'] w (PI w z):=by
 delta VQ
 have hs:=cmp_sign (x:=rk D s M E) (y:=rk D' s' M' E');have hf:=cmp_far (K:=D) (s:=s) (E:=E) (K':=D') (s':=s') (E':=E') hM hM';have b1:=fa_bd D M E D' M' E';have b2:=cmpI_bd (rk D s M E) 0
 revert hs hf b1 b2
 generalize hσ:cmpI (rk D s M E) 0=σ;generalize hτ:cmpI (rk D' s' M' E') 0=τ;generalize hφ:fa D M E D' M' E'=φ;rw [hz]
 intro hs hf b1 b2
 have HS:=Lib.hid hσ;have HT:=Lib.hid hτ;have HF:=Lib.hid hφ;clear hσ hτ hφ hz
 by_cases he:σ≠τ
 ·have e0:(σ==τ)=false:=by simpa using he
  have HZ:=Lib.hid (hs he);clear hs hf he b1 b2
  go_enter Tryz.func23,Tryz.ntmps23
  go_upto_region 1 with (fail)
  generalize hW1:(w.alloc _).alloc _=w1 at *;obtain⟨X1,X2,HB⟩:=Bo.en2 hW1;clear hW1;refine Jo.rk [0,1,2,3,4,5] [some 7,some 8,some 9,some 10,some 5,some 6] [[],[0],[],[2],[1],[3]] 6 0 [Jo.q4 D s M E,Jo.qi σ,Jo.q4 D' s' M' E',Jo.qi τ,Jo.qi σ,Jo.qi τ] (by kernel_rfl) (by kernel_rfl) (by decide) rfl ?_ ?_
  ·refine Jo.jm rfl ?_ ?_;rotate_left
   refine Jo.jm rfl ?_ ?_
   ·rintro wj hJ _ rfl K hK;simp only [Jo.z]at hK⊢;go_simp;refine (nSign hM HS.out).mono ?_;rintro ee wk ⟨rfl,B⟩;exact hK.out _ _ rfl B
   refine Jo.jm rfl ?_ ?_;rotate_left
   refine Jo.jm rfl ?_ ?_
   ·rintro wj hJ _ rfl K hK;simp only [Jo.z]at hK⊢;go_simp;refine (nSign hM' HT.out).mono ?_;rintro ee wk ⟨rfl,B⟩;exact hK.out _ _ rfl B
   iterate 2 (refine Jo.jm rfl ?_ ?_;rotate_left)
   exact Jo.Steps.nil
   all_goals (rintro wj hJ;(repeat rintro _ rfl);intro K hK;simp only [Jo.z]at hK⊢;have xX1:=(X1.below hJ).cell;have xX2:=(X2.below hJ).cell;go_simp;exact hK.out _ _ rfl (br _ _))
  rintro w2 hJ _ rfl _ rfl _ rfl _ rfl _ rfl _ rfl -;simp only [Jo.z];replace X1:=X1.below hJ;replace X2:=X2.below hJ;replace HB:=Hqb HB hJ;refine Jo.jdone (by kernel_rfl) ?_
  go_wp2_with fail
  refine (vCmpI _ HZ.out).mono ?_;rintro ee w3 ⟨rfl,B⟩;replace X1:=X1.below B;replace X2:=X2.below B;replace HB:=Hqb HB B;clear B;go_wp2
  go_ret
  exact⟨rfl,HB.out⟩
 ·obtain rfl:σ=τ:=Decidable.not_not.1 he
  have HZ:=Lib.hid (hf rfl)
  have HW:Hid (IntKind.i64.wrap (σ*φ)=z):=Lib.hid (by
   rw [hf rfl];refine IntWalk.i64_in _ ?_;rw [←hf rfl]
   rcases (show σ= -1∨σ=0∨σ=1 by omega)with h | h | h <;> rw [h] <;> omega)
  clear hs hf he b1 b2
  go_enter Tryz.func23,Tryz.ntmps23
  go_upto_region 1 with (fail)
  generalize hW1:(w.alloc _).alloc _=w1 at *;obtain⟨X1,X2,HB⟩:=Bo.en2 hW1;clear hW1;refine Jo.rk [0,1,2,3,4,5] [some 7,some 8,some 9,some 10,some 5,some 6] [[],[0],[],[2],[1],[3]] 6 0 [Jo.q4 D s M E,Jo.qi σ,Jo.q4 D' s' M' E',Jo.qi σ,Jo.qi σ,Jo.qi σ] (by kernel_rfl) (by kernel_rfl) (by decide) rfl ?_ ?_
  ·refine Jo.jm rfl ?_ ?_;rotate_left
   refine Jo.jm rfl ?_ ?_
   ·rintro wj hJ _ rfl K hK;simp only [Jo.z]at hK⊢;go_simp;refine (nSign hM HS.out).mono ?_;rintro ee wk ⟨rfl,B⟩;exact hK.out _ _ rfl B
   refine Jo.jm rfl ?_ ?_;rotate_left
   refine Jo.jm rfl ?_ ?_
   ·rintro wj hJ _ rfl K hK;simp only [Jo.z]at hK⊢;go_simp;refine (nSign hM' HT.out).mono ?_;rintro ee wk ⟨rfl,B⟩;exact hK.out _ _ rfl B
   iterate 2 (refine Jo.jm rfl ?_ ?_;rotate_left)
   exact Jo.Steps.nil
   all_goals (rintro wj hJ;(repeat rintro _ rfl);intro K hK;simp only [Jo.z]at hK⊢;have xX1:=(X1.below hJ).cell;have xX2:=(X2.below hJ).cell;go_simp;exact hK.out _ _ rfl (br _ _))
  rintro w2 hJ _ rfl _ rfl _ rfl _ rfl _ rfl _ rfl -;simp only [Jo.z];replace X1:=X1.below hJ;replace X2:=X2.below hJ;replace HB:=Hqb HB hJ;refine Jo.jdone (by kernel_rfl) ?_;have xX1:=X1.cell;have xX2:=X2.cell
  go_wp2_with fail
  refine (nFar HF.out).mono ?_;rintro ee w3 ⟨rfl,B⟩;clear xX1 xX2;replace X1:=X1.below B;replace X2:=X2.below B;replace HB:=Hqb HB B;clear B;have hw:=HW.out;go_wp2
  go_ret
  exact⟨rfl,HB.out⟩
theorem nx_out{D:Int}{s:Bool}{M E r:Int}(q:Fq D s M E r)(h0:D≠0):nx (!s) r=sgi s (min TP (plc D M E+1)):=by
 rw [←q.2.2]
 have:=TP_eq
 have h1:=plc_pos q h0
 unfold nx
 cases s
 ·rfl
 ·show max (-TP) (-plc D M E-1)= -min TP (plc D M E+1)
  omega
theorem nx_in{D:Int}{s:Bool}{M E r:Int}(q:Fq D s M E r)(h0:D≠0):nx s r=sgi s (plc D M E-1):=by
 have hb:=q.bd
 have:=TP_eq
 have h1:=plc_pos q h0;rw [←q.2.2]at hb⊢
 unfold nx
 cases s
 ·show max (-TP) (plc D M E-1)=plc D M E-1
  omega
 ·show min TP (-plc D M E+1)= -(plc D M E-1)
  omega
theorem nOut_inf{w:World}{s:Bool}{r:Int}(hr:sgi s TP=r):Calls Tryz.prog 212 #[VQ 2 s 0 0] w (PN w r):=by
 delta VQ
 go_enter Tryz.func212,Tryz.ntmps212
 go_upto_region 1 with (fail)
 generalize hW1:(w.alloc _).alloc _=w1 at *;obtain⟨X1,XR,HB⟩:=Bo.en2 hW1;clear hW1;refine Jo.rk [0,1,2,3,4,5,6,7,8,9] [some 3,some 4,some 5,some 6,some 7,some 8,some 9,some 10,some 11,some 12] [[],[0],[1],[2],[3],[3],[3,5],[3,6],[3,4,7],[3,8]] 10 0 [Jo.qp w.heap.size 0,Jo.qi 2,Jo.qb true,Jo.qb true,Jo.qu,Jo.qu,Jo.qu,Jo.qu,Jo.qu,Jo.qb true] (by kernel_rfl) (by kernel_rfl) (by decide) rfl ?_ ?_
 ·refine Jo.jm rfl ?_ ?_;rotate_left
  refine Jo.jm rfl ?_ ?_
  ·rintro wj hJ _ rfl K hK;simp only [Jo.z]at hK⊢;have xX10:=(X1.below hJ).a 0 (.int .i64 2) rfl;go_simp;exact hK.out _ _ rfl (br _ _)
  iterate 8 (refine Jo.jm rfl ?_ ?_;rotate_left)
  exact Jo.Steps.nil
  all_goals (rintro wj hJ;(repeat rintro _ rfl);intro K hK;simp only [Jo.z]at hK⊢;go_simp;exact hK.out _ _ rfl (br _ _))
 rintro w2 hJ _ _ _ rfl _ rfl _ rfl _ rfl _ rfl _ rfl _ rfl _ rfl _ rfl -;simp only [Jo.z];replace X1:=X1.below hJ;replace XR:=XR.below hJ;replace HB:=Hqb HB hJ;refine Jo.jdone (by kernel_rfl) ?_;have xX1:=X1.cell
 go_wp2_with fail
 refine (nInf hr).mono ?_;rintro ee w3 ⟨D2,s2,M2,E2,rfl,q2,B⟩;clear xX1;replace X1:=X1.below B;replace XR:=XR.below B;replace HB:=Hqb HB B;clear B;have xXR:=XR.cell;have zXR0:=XR.frozen;have xX1:=X1.cell;go_wp2;clear xXR zXR0 xX1;have SX:=StN.mk4 XR (.int .i64 D2) (.bool s2) (.int .u64 M2) (.int .i64 E2)
 exact bodyPost_ret (by simp [results,Tryz.results212,go_sem,SX.box.cell]) rfl ⟨_,_,_,_,rfl,q2,(SX.below HB.out (by omega))⟩
theorem nOut_huge{w:World}{s:Bool}{r:Int}(hr:sgi s TP=r):Calls Tryz.prog 212 #[VQ 1 s 18446744073709551615 1048576] w (PN w r):=by
 delta VQ
 go_enter Tryz.func212,Tryz.ntmps212
 go_upto_region 1 with (fail)
 generalize hW1:(w.alloc _).alloc _=w1 at *;obtain⟨X1,XR,HB⟩:=Bo.en2 hW1;clear hW1;refine Jo.rk [0,1,2,3,4,5,6,7,8,9] [some 3,some 4,some 5,some 6,some 7,some 8,some 9,some 10,some 11,some 12] [[],[0],[1],[2],[3],[3],[3,5],[3,6],[3,4,7],[3,8]] 10 0 [Jo.qp w.heap.size 0,Jo.qi 1,Jo.qb false,Jo.qb false,Jo.q4 1 s 18446744073709551615 1048576,Jo.qp w.heap.size 1,Jo.qb s,Jo.q4 1 s 18446744073709551615 1048576,Jo.qb true,Jo.qb true] (by kernel_rfl) (by kernel_rfl) (by decide) rfl ?_ ?_
 ·refine Jo.jm rfl ?_ ?_;rotate_left
  refine Jo.jm rfl ?_ ?_
  ·rintro wj hJ _ rfl K hK;simp only [Jo.z]at hK⊢;have xX10:=(X1.below hJ).a 0 (.int .i64 1) rfl;go_simp;exact hK.out _ _ rfl (br _ _)
  iterate 4 (refine Jo.jm rfl ?_ ?_;rotate_left)
  refine Jo.jm rfl ?_ ?_
  ·rintro wj hJ _ rfl _ rfl K hK;simp only [Jo.z]at hK⊢;have xX11:=(X1.below hJ).a 1 (.bool s) rfl;go_simp;exact hK.out _ _ rfl (br _ _)
  refine Jo.jm rfl ?_ ?_
  ·rintro wj hJ _ rfl _ rfl K hK;simp only [Jo.z]at hK⊢;go_simp;refine (nH).mono ?_;rintro ee wk ⟨rfl,B⟩;exact hK.out _ _ rfl B
  refine Jo.jm rfl ?_ ?_
  ·rintro wj hJ _ rfl _ rfl _ rfl K hK;simp only [Jo.z]at hK⊢;go_simp
   exact hK.out _ _ (by first | rfl | (show Value.bool _=Value.bool _;simp)) (br _ _)
  refine Jo.jm rfl ?_ ?_;rotate_left
  exact Jo.Steps.nil
  all_goals (rintro wj hJ;(repeat rintro _ rfl);intro K hK;simp only [Jo.z]at hK⊢;have xX1:=(X1.below hJ).cell;go_simp;exact hK.out _ _ rfl (br _ _))
 rintro w2 hJ _ _ _ rfl _ rfl _ rfl _ rfl _ _ _ rfl _ rfl _ rfl _ rfl -;simp only [Jo.z];replace X1:=X1.below hJ;replace XR:=XR.below hJ;replace HB:=Hqb HB hJ;refine Jo.jdone (by kernel_rfl) ?_;have xX1:=X1.cell
 go_wp2_with fail
 refine (nInf hr).mono ?_;rintro ee w3 ⟨D2,s2,M2,E2,rfl,q2,B⟩;clear xX1;replace X1:=X1.below B;replace XR:=XR.below B;replace HB:=Hqb HB B;clear B;have xXR:=XR.cell;have zXR0:=XR.frozen;have xX1:=X1.cell;go_wp2;clear xXR zXR0 xX1;have SX:=StN.mk4 XR (.int .i64 D2) (.bool s2) (.int .u64 M2) (.int .i64 E2)
 exact bodyPost_ret (by simp [results,Tryz.results212,go_sem,SX.box.cell]) rfl ⟨_,_,_,_,rfl,q2,(SX.below HB.out (by omega))⟩
theorem nOut_carry{w:World}{s:Bool}{E r:Int}(hF:Fq 1 s 9223372036854775808 (E+1) r)(h1: -1048576≤E)(h2:E < 1048576):Calls Tryz.prog 212 #[VQ 1 s 18446744073709551615 E] w (PN w r):=by
 delta VQ
 have hq:E≠1048576:=by omega
 have HW:Hid (IntKind.i64.wrap (E+1)=E+1):=Lib.hid (IntWalk.i64_in _ (by omega))
 go_enter Tryz.func212,Tryz.ntmps212
 go_upto_region 1 with (fail)
 generalize hW1:(w.alloc _).alloc _=w1 at *;obtain⟨X1,XR,HB⟩:=Bo.en2 hW1;clear hW1;refine Jo.rk [0,1,2,3,4,5,6,7,8,9] [some 3,some 4,some 5,some 6,some 7,some 8,some 9,some 10,some 11,some 12] [[],[0],[1],[2],[3],[3],[3,5],[3,6],[3,4,7],[3,8]] 10 0 [Jo.qp w.heap.size 0,Jo.qi 1,Jo.qb false,Jo.qb false,Jo.q4 1 s 18446744073709551615 E,Jo.qp w.heap.size 1,Jo.qb s,Jo.q4 1 s 18446744073709551615 1048576,Jo.qb false,Jo.qb false] (by kernel_rfl) (by kernel_rfl) (by decide) rfl ?_ ?_
 ·refine Jo.jm rfl ?_ ?_;rotate_left
  refine Jo.jm rfl ?_ ?_
  ·rintro wj hJ _ rfl K hK;simp only [Jo.z]at hK⊢;have xX10:=(X1.below hJ).a 0 (.int .i64 1) rfl;go_simp;exact hK.out _ _ rfl (br _ _)
  iterate 4 (refine Jo.jm rfl ?_ ?_;rotate_left)
  refine Jo.jm rfl ?_ ?_
  ·rintro wj hJ _ rfl _ rfl K hK;simp only [Jo.z]at hK⊢;have xX11:=(X1.below hJ).a 1 (.bool s) rfl;go_simp;exact hK.out _ _ rfl (br _ _)
  refine Jo.jm rfl ?_ ?_
  ·rintro wj hJ _ rfl _ rfl K hK;simp only [Jo.z]at hK⊢;go_simp;refine (nH).mono ?_;rintro ee wk ⟨rfl,B⟩;exact hK.out _ _ rfl B
  refine Jo.jm rfl ?_ ?_
  ·rintro wj hJ _ rfl _ rfl _ rfl K hK;simp only [Jo.z]at hK⊢;go_simp
   exact hK.out _ _ (by first | rfl | (show Value.bool _=Value.bool _;simp [hq])) (br _ _)
  refine Jo.jm rfl ?_ ?_;rotate_left
  exact Jo.Steps.nil
  all_goals (rintro wj hJ;(repeat rintro _ rfl);intro K hK;simp only [Jo.z]at hK⊢;have xX1:=(X1.below hJ).cell;go_simp;exact hK.out _ _ rfl (br _ _))
 rintro w2 hJ _ _ _ rfl _ rfl _ rfl _ rfl _ _ _ rfl _ rfl _ rfl _ rfl -;simp only [Jo.z];replace X1:=X1.below hJ;replace XR:=XR.below hJ;replace HB:=Hqb HB hJ;refine Jo.jdone (by kernel_rfl) ?_;have xX1:=X1.cell;have zX10:=X1.frozen
 go_upto_region 5 with (fail)
 clear xX1 zX10
 have SX:StN w2 (World.setCell w2 ⟨w.heap.size,2,none⟩ (.int .u64 9223372036854775808)) _ _ #[.int .i64 1,.bool s,.int .u64 9223372036854775808,.int .i64 E] _:=StN.at4 X1 2 (.int .u64 9223372036854775808)
 replace XR:=XR.stn SX (by omega);replace HB:=Hqs HB SX (by omega);replace X1:=SX.box;clear SX;generalize World.setCell w2 ⟨w.heap.size,2,none⟩ (.int .u64 9223372036854775808)=w3 at *;have xX1:=X1.cell;have zX10:=X1.frozen;have hw:=HW.out
 go_upto_region 6 with (fail)
 clear hw;clear xX1 zX10
 have SX:StN w3 (World.setCell w3 ⟨w.heap.size,3,none⟩ (.int .i64 (E+1))) _ _ #[.int .i64 1,.bool s,.int .u64 9223372036854775808,.int .i64 (E+1)] _:=StN.at4 X1 3 (.int .i64 (E+1))
 replace XR:=XR.stn SX (by omega);replace HB:=Hqs HB SX (by omega);replace X1:=SX.box;clear SX;generalize World.setCell w3 ⟨w.heap.size,3,none⟩ (.int .i64 (E+1))=w4 at *;have xXR:=XR.cell;have zXR0:=XR.frozen;have xX1:=X1.cell;go_wp2;clear xXR zXR0 xX1;have SX:=StN.mk4 XR (.int .i64 1) (.bool s) (.int .u64 9223372036854775808) (.int .i64 (E+1))
 exact bodyPost_ret (by simp [results,Tryz.results212,go_sem,SX.box.cell]) rfl ⟨_,_,_,_,rfl,hF,(SX.below HB.out (by omega))⟩
theorem nOut_plus{w:World}{s:Bool}{M E r:Int}(hF:Fq 1 s (M+1) E r)(h1:0≤M)(h2:M < 18446744073709551615):Calls Tryz.prog 212 #[VQ 1 s M E] w (PN w r):=by
 delta VQ
 have hq:M≠18446744073709551615:=by omega
 have e1:(M==18446744073709551615)=false:=by simpa using hq
 have HW:Hid (IntKind.u64.wrap (M+1)=M+1):=Lib.hid (IntWalk.u64_in _ (by omega))
 go_enter Tryz.func212,Tryz.ntmps212
 go_upto_region 1 with (fail)
 generalize hW1:(w.alloc _).alloc _=w1 at *;obtain⟨X1,XR,HB⟩:=Bo.en2 hW1;clear hW1;refine Jo.rk [0,1,2,3,4,5,6,7,8,9] [some 3,some 4,some 5,some 6,some 7,some 8,some 9,some 10,some 11,some 12] [[],[0],[1],[2],[3],[3],[3,5],[3,6],[3,4,7],[3,8]] 10 0 [Jo.qp w.heap.size 0,Jo.qi 1,Jo.qb false,Jo.qb false,Jo.q4 1 s M E,Jo.qp w.heap.size 1,Jo.qb s,Jo.q4 1 s 18446744073709551615 1048576,Jo.qb false,Jo.qb false] (by kernel_rfl) (by kernel_rfl) (by decide) rfl ?_ ?_
 ·refine Jo.jm rfl ?_ ?_;rotate_left
  refine Jo.jm rfl ?_ ?_
  ·rintro wj hJ _ rfl K hK;simp only [Jo.z]at hK⊢;have xX10:=(X1.below hJ).a 0 (.int .i64 1) rfl;go_simp;exact hK.out _ _ rfl (br _ _)
  iterate 4 (refine Jo.jm rfl ?_ ?_;rotate_left)
  refine Jo.jm rfl ?_ ?_
  ·rintro wj hJ _ rfl _ rfl K hK;simp only [Jo.z]at hK⊢;have xX11:=(X1.below hJ).a 1 (.bool s) rfl;go_simp;exact hK.out _ _ rfl (br _ _)
  refine Jo.jm rfl ?_ ?_
  ·rintro wj hJ _ rfl _ rfl K hK;simp only [Jo.z]at hK⊢;go_simp;refine (nH).mono ?_;rintro ee wk ⟨rfl,B⟩;exact hK.out _ _ rfl B
  refine Jo.jm rfl ?_ ?_
  ·rintro wj hJ _ rfl _ rfl _ rfl K hK;simp only [Jo.z]at hK⊢;go_simp
   exact hK.out _ _ (by first | rfl | (show Value.bool _=Value.bool _;simp [hq])) (br _ _)
  refine Jo.jm rfl ?_ ?_;rotate_left
  exact Jo.Steps.nil
  all_goals (rintro wj hJ;(repeat rintro _ rfl);intro K hK;simp only [Jo.z]at hK⊢;have xX1:=(X1.below hJ).cell;go_simp;exact hK.out _ _ rfl (br _ _))
 rintro w2 hJ _ _ _ rfl _ rfl _ rfl _ rfl _ _ _ rfl _ rfl _ rfl _ rfl -;simp only [Jo.z];replace X1:=X1.below hJ;replace XR:=XR.below hJ;replace HB:=Hqb HB hJ;refine Jo.jdone (by kernel_rfl) ?_;have xX1:=X1.cell;have zX10:=X1.frozen;have hw:=HW.out
 go_upto_region 8 with (fail)
 clear hw;clear xX1 zX10
 have SX:StN w2 (World.setCell w2 ⟨w.heap.size,2,none⟩ (.int .u64 (M+1))) _ _ #[.int .i64 1,.bool s,.int .u64 (M+1),.int .i64 E] _:=StN.at4 X1 2 (.int .u64 (M+1))
 replace XR:=XR.stn SX (by omega);replace HB:=Hqs HB SX (by omega);replace X1:=SX.box;clear SX;generalize World.setCell w2 ⟨w.heap.size,2,none⟩ (.int .u64 (M+1))=w3 at *;have xXR:=XR.cell;have zXR0:=XR.frozen;have xX1:=X1.cell;go_wp2;clear xXR zXR0 xX1;have SX:=StN.mk4 XR (.int .i64 1) (.bool s) (.int .u64 (M+1)) (.int .i64 E)
 exact bodyPost_ret (by simp [results,Tryz.results212,go_sem,SX.box.cell]) rfl ⟨_,_,_,_,rfl,hF,(SX.below HB.out (by omega))⟩
theorem nOut{w:World}{D:Int}{s:Bool}{M E x r:Int}(q:Fq D s M E x)(h0:D≠0)(hr:nx (!s) x=r):Calls Tryz.prog 212 #[VQ D s M E] w (PN w r):=by
 delta VQ
 rw [nx_out q h0]at hr
 have:=TP_eq
 rcases q.plc h0 with⟨rfl,h1,h2,h3,h4,h5⟩ | ⟨rfl,rfl,rfl,h5⟩ <;> rw [h5]at hr
 ·by_cases hm:M=18446744073709551615
  ·subst hm
   by_cases he:E=1048576
   ·subst he;exact nOut_huge hr
   ·refine nOut_carry (Fq.fin (by decide) (by decide) (by omega) (by omega) ?_) h3 (by omega);rw [←hr]
    congr 1
    omega
  ·refine nOut_plus (Fq.fin (by omega) (by omega) h3 h4 ?_) (by omega) (by omega);rw [←hr]
   congr 1
   omega
 ·exact nOut_inf hr
theorem nIn_inf{w:World}{s:Bool}{r:Int}(hF:Fq 1 s 18446744073709551615 1048576 r):Calls Tryz.prog 211 #[VQ 2 s 0 0] w (PN w r):=by
 delta VQ
 go_enter Tryz.func211,Tryz.ntmps211
 go_upto_region 1 with (fail)
 generalize hW1:(w.alloc _).alloc _=w1 at *;obtain⟨X1,XR,HB⟩:=Bo.en2 hW1;clear hW1;have xX1:=X1.cell
 go_wp2_with fail
 refine (nH (s:=s)).mono ?_;rintro ee w3 ⟨rfl,B⟩;clear xX1;replace X1:=X1.below B;replace XR:=XR.below B;replace HB:=Hqb HB B;clear B;have xXR:=XR.cell;have zXR0:=XR.frozen;have xX1:=X1.cell;go_wp2;clear xXR zXR0 xX1;have SX:=StN.mk4 XR (.int .i64 1) (.bool s) (.int .u64 18446744073709551615) (.int .i64 1048576)
 exact bodyPost_ret (by simp [results,Tryz.results211,go_sem,SX.box.cell]) rfl ⟨_,_,_,_,rfl,hF,(SX.below HB.out (by omega))⟩
theorem nIn_tiny{w:World}{s:Bool}{r:Int}(hr:0=r):Calls Tryz.prog 211 #[.agg #[.int .i64 1,.bool s,.int .u64 9223372036854775808,.int .i64 (-1048576)]] w (PN w r):=by
 subst hr
 go_enter Tryz.func211,Tryz.ntmps211
 go_upto_region 1 with (fail)
 generalize hW1:(w.alloc _).alloc _=w1 at *;obtain⟨X1,XR,HB⟩:=Bo.en2 hW1;clear hW1;have xX1:=X1.cell
 go_upto_region 3 with (fail)
 clear xX1;refine Jo.rk [0,1,2,3,4] [some 9,some 10,some 11,some 12,some 13] [[],[],[1],[2],[0,3]] 5 0 [Jo.Fact.eq (.agg #[.int .i64 1,.bool s,.int .u64 9223372036854775808,.int .i64 (-1048576)]),Jo.qp w.heap.size 1,Jo.qb s,Jo.Fact.eq (.agg #[.int .i64 1,.bool s,.int .u64 9223372036854775808,.int .i64 (-1048576)]),Jo.qb true] (by kernel_rfl) (by kernel_rfl) (by decide) rfl ?_ ?_
 ·iterate 2 (refine Jo.jm rfl ?_ ?_;rotate_left)
  refine Jo.jm rfl ?_ ?_
  ·rintro wj hJ _ rfl K hK;simp only [Jo.z]at hK⊢;have xX11:=(X1.below hJ).a 1 (.bool s) rfl;go_simp;exact hK.out _ _ rfl (br _ _)
  refine Jo.jm rfl ?_ ?_
  ·rintro wj hJ _ rfl K hK;simp only [Jo.z]at hK⊢;go_simp;refine (nT).mono ?_;rintro ee wk ⟨rfl,B⟩;exact hK.out _ _ rfl B
  refine Jo.jm rfl ?_ ?_
  ·rintro wj hJ _ rfl _ rfl K hK;simp only [Jo.z]at hK⊢;go_simp
   exact hK.out _ _ (by first | rfl | (show Value.bool _=Value.bool _;simp)) (br _ _)
  exact Jo.Steps.nil
  all_goals (rintro wj hJ;(repeat rintro _ rfl);intro K hK;simp only [Jo.z]at hK⊢;have xX1:=(X1.below hJ).cell;go_simp;exact hK.out _ _ rfl (br _ _))
 rintro w2 hJ _ rfl _ _ _ rfl _ rfl _ rfl -;simp only [Jo.z];replace X1:=X1.below hJ;replace XR:=XR.below hJ;replace HB:=Hqb HB hJ;refine Jo.jdone (by kernel_rfl) ?_;have xXR:=XR.cell;have zXR0:=XR.frozen;have xX1:=X1.cell;go_wp2;clear xXR zXR0 xX1;have SX:=StN.mk4 XR (.int .i64 0) (.bool false) (.int .u64 0) (.int .i64 0)
 exact bodyPost_ret (by simp [results,Tryz.results211,go_sem,SX.box.cell]) rfl ⟨_,_,_,_,rfl,Fq.nought,(SX.below HB.out (by omega))⟩
theorem nIn_carry{w:World}{s:Bool}{E r:Int}(hF:Fq 1 s 18446744073709551615 (E-1) r)(h1: -1048576 < E)(h2:E≤1048576):Calls Tryz.prog 211 #[VQ 1 s 9223372036854775808 E] w (PN w r):=by
 delta VQ
 have hq:E≠ -1048576:=by omega
 have HW:Hid (IntKind.i64.wrap (E-1)=E-1):=Lib.hid (IntWalk.i64_in _ (by omega))
 go_enter Tryz.func211,Tryz.ntmps211
 go_upto_region 1 with (fail)
 generalize hW1:(w.alloc _).alloc _=w1 at *;obtain⟨X1,XR,HB⟩:=Bo.en2 hW1;clear hW1;have xX1:=X1.cell
 go_upto_region 3 with (fail)
 clear xX1;refine Jo.rk [0,1,2,3,4] [some 9,some 10,some 11,some 12,some 13] [[],[],[1],[2],[0,3]] 5 0 [Jo.q4 1 s 9223372036854775808 E,Jo.qp w.heap.size 1,Jo.qb s,Jo.Fact.eq (.agg #[.int .i64 1,.bool s,.int .u64 9223372036854775808,.int .i64 (-1048576)]),Jo.qb false] (by kernel_rfl) (by kernel_rfl) (by decide) rfl ?_ ?_
 ·iterate 2 (refine Jo.jm rfl ?_ ?_;rotate_left)
  refine Jo.jm rfl ?_ ?_
  ·rintro wj hJ _ rfl K hK;simp only [Jo.z]at hK⊢;have xX11:=(X1.below hJ).a 1 (.bool s) rfl;go_simp;exact hK.out _ _ rfl (br _ _)
  refine Jo.jm rfl ?_ ?_
  ·rintro wj hJ _ rfl K hK;simp only [Jo.z]at hK⊢;go_simp;refine (nT).mono ?_;rintro ee wk ⟨rfl,B⟩;exact hK.out _ _ rfl B
  refine Jo.jm rfl ?_ ?_
  ·rintro wj hJ _ rfl _ rfl K hK;simp only [Jo.z]at hK⊢;go_simp
   exact hK.out _ _ (by first | rfl | (show Value.bool _=Value.bool _;simp [hq])) (br _ _)
  exact Jo.Steps.nil
  all_goals (rintro wj hJ;(repeat rintro _ rfl);intro K hK;simp only [Jo.z]at hK⊢;have xX1:=(X1.below hJ).cell;go_simp;exact hK.out _ _ rfl (br _ _))
 rintro w2 hJ _ rfl _ _ _ rfl _ rfl _ rfl -;simp only [Jo.z];replace X1:=X1.below hJ;replace XR:=XR.below hJ;replace HB:=Hqb HB hJ;refine Jo.jdone (by kernel_rfl) ?_;have xX1:=X1.cell;have zX10:=X1.frozen
 go_upto_region 7 with (fail)
 clear xX1 zX10
 have SX:StN w2 (World.setCell w2 ⟨w.heap.size,2,none⟩ (.int .u64 18446744073709551615)) _ _ #[.int .i64 1,.bool s,.int .u64 18446744073709551615,.int .i64 E] _:=StN.at4 X1 2 (.int .u64 18446744073709551615)
 replace XR:=XR.stn SX (by omega);replace HB:=Hqs HB SX (by omega);replace X1:=SX.box;clear SX;generalize World.setCell w2 ⟨w.heap.size,2,none⟩ (.int .u64 18446744073709551615)=w3 at *;have xX1:=X1.cell;have zX10:=X1.frozen;have hw:=HW.out
 go_upto_region 8 with (fail)
 clear hw;clear xX1 zX10
 have SX:StN w3 (World.setCell w3 ⟨w.heap.size,3,none⟩ (.int .i64 (E-1))) _ _ #[.int .i64 1,.bool s,.int .u64 18446744073709551615,.int .i64 (E-1)] _:=StN.at4 X1 3 (.int .i64 (E-1))
 replace XR:=XR.stn SX (by omega);replace HB:=Hqs HB SX (by omega);replace X1:=SX.box;clear SX;generalize World.setCell w3 ⟨w.heap.size,3,none⟩ (.int .i64 (E-1))=w4 at *;have xXR:=XR.cell;have zXR0:=XR.frozen;have xX1:=X1.cell;go_wp2;clear xXR zXR0 xX1;have SX:=StN.mk4 XR (.int .i64 1) (.bool s) (.int .u64 18446744073709551615) (.int .i64 (E-1))
 exact bodyPost_ret (by simp [results,Tryz.results211,go_sem,SX.box.cell]) rfl ⟨_,_,_,_,rfl,hF,(SX.below HB.out (by omega))⟩
theorem nIn_less{w:World}{s:Bool}{M E r:Int}(hF:Fq 1 s (M-1) E r)(h1:9223372036854775808 < M)(h2:M≤18446744073709551615):Calls Tryz.prog 211 #[VQ 1 s M E] w (PN w r):=by
 delta VQ
 have hq:M≠9223372036854775808:=by omega
 have e1:(M==9223372036854775808)=false:=by simpa using hq
 have HW:Hid (IntKind.u64.wrap (M-1)=M-1):=Lib.hid (IntWalk.u64_in _ (by omega))
 go_enter Tryz.func211,Tryz.ntmps211
 go_upto_region 1 with (fail)
 generalize hW1:(w.alloc _).alloc _=w1 at *;obtain⟨X1,XR,HB⟩:=Bo.en2 hW1;clear hW1;have xX1:=X1.cell
 go_upto_region 3 with (fail)
 clear xX1;refine Jo.rk [0,1,2,3,4] [some 9,some 10,some 11,some 12,some 13] [[],[],[1],[2],[0,3]] 5 0 [Jo.q4 1 s M E,Jo.qp w.heap.size 1,Jo.qb s,Jo.Fact.eq (.agg #[.int .i64 1,.bool s,.int .u64 9223372036854775808,.int .i64 (-1048576)]),Jo.qb false] (by kernel_rfl) (by kernel_rfl) (by decide) rfl ?_ ?_
 ·iterate 2 (refine Jo.jm rfl ?_ ?_;rotate_left)
  refine Jo.jm rfl ?_ ?_
  ·rintro wj hJ _ rfl K hK;simp only [Jo.z]at hK⊢;have xX11:=(X1.below hJ).a 1 (.bool s) rfl;go_simp;exact hK.out _ _ rfl (br _ _)
  refine Jo.jm rfl ?_ ?_
  ·rintro wj hJ _ rfl K hK;simp only [Jo.z]at hK⊢;go_simp;refine (nT).mono ?_;rintro ee wk ⟨rfl,B⟩;exact hK.out _ _ rfl B
  refine Jo.jm rfl ?_ ?_
  ·rintro wj hJ _ rfl _ rfl K hK;simp only [Jo.z]at hK⊢;go_simp
   exact hK.out _ _ (by first | rfl | (show Value.bool _=Value.bool _;simp [hq])) (br _ _)
  exact Jo.Steps.nil
  all_goals (rintro wj hJ;(repeat rintro _ rfl);intro K hK;simp only [Jo.z]at hK⊢;have xX1:=(X1.below hJ).cell;go_simp;exact hK.out _ _ rfl (br _ _))
 rintro w2 hJ _ rfl _ _ _ rfl _ rfl _ rfl -;simp only [Jo.z];replace X1:=X1.below hJ;replace XR:=XR.below hJ;replace HB:=Hqb HB hJ;refine Jo.jdone (by kernel_rfl) ?_;have xX1:=X1.cell;have zX10:=X1.frozen;have hw:=HW.out
 go_upto_region 10 with (fail)
 clear hw;clear xX1 zX10
 have SX:StN w2 (World.setCell w2 ⟨w.heap.size,2,none⟩ (.int .u64 (M-1))) _ _ #[.int .i64 1,.bool s,.int .u64 (M-1),.int .i64 E] _:=StN.at4 X1 2 (.int .u64 (M-1))
 replace XR:=XR.stn SX (by omega);replace HB:=Hqs HB SX (by omega);replace X1:=SX.box;clear SX;generalize World.setCell w2 ⟨w.heap.size,2,none⟩ (.int .u64 (M-1))=w3 at *;have xXR:=XR.cell;have zXR0:=XR.frozen;have xX1:=X1.cell;go_wp2;clear xXR zXR0 xX1;have SX:=StN.mk4 XR (.int .i64 1) (.bool s) (.int .u64 (M-1)) (.int .i64 E)
 exact bodyPost_ret (by simp [results,Tryz.results211,go_sem,SX.box.cell]) rfl ⟨_,_,_,_,rfl,hF,(SX.below HB.out (by omega))⟩
theorem nIn{w:World}{D:Int}{s:Bool}{M E x r:Int}(q:Fq D s M E x)(h0:D≠0)(hr:nx s x=r):Calls Tryz.prog 211 #[VQ D s M E] w (PN w r):=by
 delta VQ
 rw [nx_in q h0]at hr
 have:=TP_eq
 rcases q.plc h0 with⟨rfl,h1,h2,h3,h4,h5⟩ | ⟨rfl,rfl,rfl,h5⟩ <;> rw [h5]at hr
 ·by_cases hm:M=9223372036854775808
  ·subst hm
   by_cases he:E= -1048576
   ·subst he;refine nIn_tiny (hr▸?_)
    cases s <;> rfl
   ·refine nIn_carry (Fq.fin (by decide) (by decide) (by omega) (by omega) ?_) (by omega) h4;rw [←hr]
    congr 1
    omega
  ·refine nIn_less (Fq.fin (by omega) (by omega) h3 h4 ?_) (by omega) (by omega);rw [←hr]
   congr 1
   omega
 ·refine nIn_inf (Fq.fin (by decide) (by decide) (by decide) (by decide) ?_);rw [←hr]
  rfl
theorem nNext{w:World}{D M E:Int}{s:Bool}{up:Bool}{r:Int}(hM:LQ M)(hr:nx up (rk D s M E)=r):Calls Tryz.prog 175 #[VQ D s M E,.bool up] w (PN w r):=by
 delta VQ
 obtain⟨x,hx⟩:∃x,rk D s M E=x:=⟨_,rfl⟩;rw [hx]at hr;have HX:=Lib.hid hx;have HR:=Lib.hid hr;clear hx hr
 go_enter Tryz.func175,Tryz.ntmps175
 go_upto_region 1 with (fail)
 generalize hW1:(w.alloc _).alloc _=w1 at *;obtain⟨X1,XR,HB⟩:=Bo.en2 hW1;clear hW1;have xX1:=X1.cell
 go_wp2_with fail
 refine (nTaken hM HX.out).mono ?_;rintro ee w2 ⟨K1,s1,M1,E1,rfl,q1,B⟩;clear xX1;replace X1:=X1.below B;replace XR:=XR.below B;replace HB:=Hqb HB B;clear B;have xX1:=X1.cell;have zX10:=X1.frozen
 go_upto_region 2 with (fail)
 clear xX1 zX10;generalize hS:(((w2.setCell _ _).setCell _ _).setCell _ _).setCell _ _=w3 at *;have SX:=StN.of4 X1 hS;replace XR:=XR.stn SX (by omega);replace HB:=Hqs HB SX (by omega);replace X1:=SX.box;clear SX hS
 by_cases h0:K1=0
 ·subst h0;have hz:=q1.zero_iff.1 rfl;subst hz
  have hF:Fq 1 (!up) 9223372036854775808 (-1048576) r:=Fq.fin (by decide) (by decide) (by decide) (by decide) (by rw [←HR.out];cases up <;> rfl)
  clear q1;have xX1:=X1.cell
  go_wp2_with fail
  refine (nT).mono ?_;rintro ee w4 ⟨rfl,B⟩;clear xX1;replace X1:=X1.below B;replace XR:=XR.below B;replace HB:=Hqb HB B;clear B;have xXR:=XR.cell;have zXR0:=XR.frozen;have xX1:=X1.cell;go_wp2;clear xXR zXR0 xX1;have SX:=StN.mk4 XR (.int .i64 1) (.bool (!up)) (.int .u64 9223372036854775808) (.int .i64 (-1048576))
  exact bodyPost_ret (by simp [results,Tryz.results175,go_sem,SX.box.cell]) rfl ⟨_,_,_,_,rfl,hF,(SX.below HB.out (by omega))⟩
 ·have e0:(K1==0)=false:=by simpa using h0
  by_cases hs:s1=up
  ·subst hs;have xX1:=X1.cell
   go_wp2_with fail
   refine (nIn q1 h0 HR.out).mono ?_;rintro ee w4 ⟨K2,s2,M2,E2,rfl,q2,B⟩;clear xX1;replace X1:=X1.below B;replace XR:=XR.below B;replace HB:=Hqb HB B;clear B;have xXR:=XR.cell;have zXR0:=XR.frozen;have xX1:=X1.cell;go_wp2;clear xXR zXR0 xX1;have SX:=StN.mk4 XR (.int .i64 K2) (.bool s2) (.int .u64 M2) (.int .i64 E2)
   exact bodyPost_ret (by simp [results,Tryz.results175,go_sem,SX.box.cell]) rfl ⟨_,_,_,_,rfl,q2,(SX.below HB.out (by omega))⟩
  ·obtain rfl:(!s1)=up:=by cases s1 <;> cases up <;> first | rfl | exact absurd rfl hs
   clear hs
   have e2:(s1==!s1)=false:=by cases s1 <;> rfl
   have xX1:=X1.cell
   go_wp2_with fail
   refine (nOut q1 h0 HR.out).mono ?_;rintro ee w4 ⟨K2,s2,M2,E2,rfl,q2,B⟩;clear xX1;replace X1:=X1.below B;replace XR:=XR.below B;replace HB:=Hqb HB B;clear B;have xXR:=XR.cell;have zXR0:=XR.frozen;have xX1:=X1.cell;go_wp2;clear xXR zXR0 xX1;have SX:=StN.mk4 XR (.int .i64 K2) (.bool s2) (.int .u64 M2) (.int .i64 E2)
   exact bodyPost_ret (by simp [results,Tryz.results175,go_sem,SX.box.cell]) rfl ⟨_,_,_,_,rfl,q2,(SX.below HB.out (by omega))⟩
def fin (s:Bool)(M E:Int)(aw:Bool):Int:=sgi s (if 1048576 < E then (if aw=true then TP else TP-1)else if E < -1048576 then (if aw=true then 1 else 0)else M-9223372036854775808+1+(E+1048576)*9223372036854775808)
def tp (m:Nat):Nat:=m*2^64/2^blen m
theorem tp_ge{m:Nat}(h:m≠0):2^63≤tp m:=by
 unfold tp
 have h1:=blen_le h
 have h2:blen m≠0:=fun e=>h (blen_eq_zero.1 e)
 obtain⟨k,hk⟩:∃k,blen m=k+1:=⟨blen m-1,by omega⟩
 rw [hk]at h1⊢;rw [Nat.le_div_iff_mul_le (Nat.pow_pos (by decide)),Nat.pow_succ,Nat.add_sub_cancel]at *
 have:=Nat.mul_le_mul_right (2^64) h1
 calc 2^63*(2^k*2)=2^k*2^64:=by rw [show (2:Nat)^64=2^63*2 by decide,Nat.mul_comm (2^63) (2^k*2),Nat.mul_assoc,Nat.mul_comm 2 (2^63)]
  _≤m*2^64:=this
theorem tp_lt (m:Nat):tp m < 2^64:=by
 unfold tp
 rw [Nat.div_lt_iff_lt_mul (Nat.pow_pos (by decide)),Nat.mul_comm (2^64)];exact Nat.mul_lt_mul_of_pos_right (blen_lt m) (Nat.pow_pos (by decide))
theorem blen_mul{m:Nat}(h:m≠0)(t:Nat):blen (m*2^t)=blen m+t:=by
 have:=blen_shift (m*2^t) t (Nat.le_mul_of_pos_left _ (by omega))
 rw [Nat.mul_div_cancel _ (Nat.pow_pos (by decide))]at this
 omega
theorem tp_mul{m:Nat}(h:m≠0)(t:Nat):tp (m*2^t)=tp m:=by
 unfold tp
 rw [blen_mul h,Nat.pow_add,Nat.mul_right_comm m,Nat.mul_div_mul_right _ _ (Nat.pow_pos (by decide))]
theorem tp_big{m:Nat}(h:64≤blen m):tp m=m/2^(blen m-64):=by
 unfold tp
 rw [show 2^blen m=2^(blen m-64)*2^64 by rw [←Nat.pow_add];congr 1;omega,Nat.mul_div_mul_right _ _ (Nat.pow_pos (by decide))]
theorem tp_small{m:Nat}(h:blen m≤64):tp m=m*2^(64-blen m):=by
 unfold tp
 rw [show 2^64=2^(64-blen m)*2^blen m by rw [←Nat.pow_add];congr 1;omega,←Nat.mul_assoc,Nat.mul_div_cancel _ (Nat.pow_pos (by decide))]
def xp (m:Nat)(E:Int):Int:=E+(blen m:Nat)-64
def lo (m:Nat)(E:Int):Int:=
 if m=0 then 0 else if 1048576 < xp m E then 19342822337206103650074624 else if xp m E < -1048576 then 0 else (tp m:Int)-9223372036854775808+1+(xp m E+1048576)*9223372036854775808
def ext (m:Nat)(E:Int):Bool:=m==0 || (decide (xp m E≤1048576) && (decide (-1048576≤xp m E) && decide (blen m≤64)))
def hi (m:Nat)(E:Int):Int:=if ext m E=true then lo m E else lo m E+1
def rnd (up:Bool)(N E:Int):Int:=sgi (decide (N < 0)) (if (up !=decide (N < 0))=true then hi N.natAbs E else lo N.natAbs E)
theorem lo_mul{m:Nat}(h:m≠0)(t:Nat)(E:Int):lo (m*2^t) E=lo m (E+t):=by
 have h2:m*2^t≠0:=Nat.mul_ne_zero h (Nat.ne_of_gt (Nat.pow_pos (by decide)))
 unfold lo
 rw [if_neg h,if_neg h2,tp_mul h]
 unfold xp
 rw [blen_mul h,show E+((blen m+t:Nat):Int)-64=E+(t:Int)+(blen m:Nat)-64 by omega]
theorem lo_bd (m:Nat)(E:Int):0≤lo m E∧lo m E≤19342822337206103650074624:=by
 unfold lo
 have h1:=tp_lt m
 by_cases h:m=0
 ·rw [if_pos h];omega
 ·rw [if_neg h];have h0:=tp_ge h
  by_cases h3:1048576 < xp m E
  ·rw [if_pos h3];omega
  ·rw [if_neg h3]
   by_cases h4:xp m E < -1048576
   ·rw [if_pos h4];omega
   ·rw [if_neg h4]
    omega
theorem hi_bd (m:Nat)(E:Int):lo m E≤hi m E∧hi m E≤lo m E+1:=by
 unfold hi
 split <;> omega
def vp (r:Int):Int:=if r≤0 then 0 else ((r-1)%9223372036854775808+9223372036854775808)*2^((r-1) /9223372036854775808-1048576+KK).toNat
def vr (r:Int):Int:=if r < 0 then -vp (-r)else vp r
theorem vp_fin{M E:Int}(h1:9223372036854775808≤M)(h2:LQ M)(h3: -1048576≤E):vp (M-9223372036854775808+1+(E+1048576)*9223372036854775808)=M*2^(E+KK).toNat:=by
 unfold vp
 rw [if_neg (by omega)]
 have e1:(M-9223372036854775808+1+(E+1048576)*9223372036854775808-1)%9223372036854775808+9223372036854775808=M:=by omega
 have e2:(M-9223372036854775808+1+(E+1048576)*9223372036854775808-1) /9223372036854775808-1048576=E:=by omega
 rw [e1,e2]
theorem vp_succ{r:Int}(h:0≤r):vp r < vp (r+1):=by
 by_cases h0:r=0
 ·subst h0
  have:vp 0=0:=rfl
  rw [this]
  unfold vp
  rw [if_neg (by omega)];exact Int.mul_pos (by omega) (p2pos _)
 ·obtain⟨q,m,hm,hm2,e⟩:∃q m:Int,9223372036854775808≤m∧m < 18446744073709551616∧r=m-9223372036854775808+1+(q+1048576)*9223372036854775808:=⟨(r-1) /9223372036854775808-1048576,(r-1)%9223372036854775808+9223372036854775808,by omega,by omega,by omega⟩
  have hq: -1048576≤q:=by omega
  have e0:=vp_fin hm hm2 hq;rw [←e]at e0;rw [e0]
  by_cases hc:m=18446744073709551615
  ·have e1:=vp_fin (M:=9223372036854775808) (E:=q+1) (by omega) (by omega) (by omega)
   rw [show (9223372036854775808:Int)-9223372036854775808+1+(q+1+1048576)*9223372036854775808=r+1 by omega]at e1
   rw [e1,show (q+1+(KK:Int)).toNat=(q+KK).toNat+1 by rw [KK_eq];omega,Int.pow_succ,hc,←Int.mul_assoc,Int.mul_right_comm]
   exact Int.mul_lt_mul_of_pos_right (by omega) (p2pos _)
  ·have e1:=vp_fin (M:=m+1) (E:=q) (by omega) (by omega) hq
   rw [show m+1-9223372036854775808+1+(q+1048576)*9223372036854775808=r+1 by omega]at e1
   rw [e1];exact Int.mul_lt_mul_of_pos_right (by omega) (p2pos _)
theorem vr_succ (r:Int):vr r < vr (r+1):=by
 unfold vr
 by_cases h:0≤r
 ·rw [if_neg (by omega),if_neg (by omega)];exact vp_succ h
 ·rw [if_pos (by omega)]
  have:=vp_succ (r:= -(r+1)) (by omega)
  rw [show -(r+1)+1= -r by omega]at this
  by_cases h2:r+1 < 0
  ·rw [if_pos h2]
   omega
  ·rw [if_neg h2]
   have e:r+1=0:=by omega
   rw [e]at this⊢
   rw [show vp (-0)=0 from rfl]at this
   rw [show vp 0=0 from rfl]
   omega
theorem vr_add (r:Int):∀n:Nat,vr r < vr (r+(n+1:Nat))
 | 0=>vr_succ r
 | n+1=>by
  have h1:=vr_add r n;have h2:=vr_succ (r+(n+1:Nat))
  rw [show r+((n+1+1:Nat):Int)=r+((n+1:Nat):Int)+1 by omega]
  omega
theorem vr_lt{r t:Int}(h:r < t):vr r < vr t:=by
 have:=vr_add r (t-r-1).toNat
 rwa [show r+(((t-r-1).toNat+1:Nat):Int)=t by omega]at this
theorem vr_cmp (r t:Int):cmpI (vr r) (vr t)=cmpI r t:=by
 rcases cmpI_tri r t with⟨a1,a2⟩ | ⟨a1,a2⟩ | ⟨a1,a2⟩ <;> rw [a2]
 ·exact cmpI_lt (vr_lt a1)
 ·exact cmpI_eq (by rw [a1])
 ·exact cmpI_gt (vr_lt a1)
theorem vr_neg (r:Int):vr (-r)= -vr r:=by
 unfold vr
 by_cases h:r < 0
 ·rw [if_neg (by omega),if_pos h,Int.neg_neg]
 ·by_cases h2:r=0
  ·subst h2;rfl
  ·rw [if_pos (by omega),if_neg h,Int.neg_neg]
theorem vr_sgi (s:Bool)(r:Int):vr (sgi s r)=sgi s (vr r):=by
 cases s
 ·rfl
 ·exact vr_neg r
theorem lo_vr{m:Nat}{E:Int}(h:m≠0)(h1:xp m E≤1048576)(h2: -1048576≤xp m E)(hE: -(KK:Int)≤E)(ho:m%2=1):
  vr (lo m E)≤(m:Int)*2^(E+KK).toNat∧(m:Int)*2^(E+KK).toNat < vr (lo m E+1)∧(ext m E=true→vr (lo m E)=(m:Int)*2^(E+KK).toNat)∧(ext m E=false→vr (lo m E) < (m:Int)*2^(E+KK).toNat):=by
 have t1:=tp_ge h;have t2:=tp_lt m;have hk:=KK_eq
 have hb:0≤lo m E:=(lo_bd m E).1
 have el:lo m E=(tp m:Int)-9223372036854775808+1+(xp m E+1048576)*9223372036854775808:=by
  unfold lo
  rw [if_neg h,if_neg (by omega),if_neg (by omega)]
 have ev:vr (lo m E)=(tp m:Int)*2^(xp m E+KK).toNat:=by
  unfold vr
  rw [if_neg (by omega),el];exact vp_fin (by omega) (by omega) h2
 have ex:ext m E=decide (blen m≤64):=by
  unfold ext
  rw [show (m==0)=false by simpa using h,decide_eq_true h1,decide_eq_true h2]
  rfl
 have en:vr (lo m E+1)=((tp m:Int)+1)*2^(xp m E+KK).toNat:=by
  unfold vr
  rw [if_neg (by omega),el]
  by_cases hc:(tp m:Int)=18446744073709551615
  ·have e1:=vp_fin (M:=9223372036854775808) (E:=xp m E+1) (by omega) (by omega) (by omega)
   rw [show (tp m:Int)-9223372036854775808+1+(xp m E+1048576)*9223372036854775808+1=(9223372036854775808:Int)-9223372036854775808+1+(xp m E+1+1048576)*9223372036854775808 by omega,e1,show (xp m E+1+(KK:Int)).toNat=(xp m E+KK).toNat+1 by omega,Int.pow_succ,hc,←Int.mul_assoc,Int.mul_right_comm]
   rfl
  ·have e1:=vp_fin (M:=(tp m:Int)+1) (E:=xp m E) (by omega) (by omega) h2
   rw [show (tp m:Int)-9223372036854775808+1+(xp m E+1048576)*9223372036854775808+1=(tp m:Int)+1-9223372036854775808+1+(xp m E+1048576)*9223372036854775808 by omega,e1]
 rw [ev,en,ex]
 by_cases hl:blen m≤64
 ·have e1:(m:Int)*2^(E+KK).toNat=(tp m:Int)*2^(xp m E+KK).toNat:=by
   have hx:(xp m E+KK).toNat+(64-blen m)=(E+KK).toNat:=by unfold xp at h2⊢;omega
   rw [tp_small hl,←hx,Int.pow_add]
   push_cast
   rw [Int.mul_assoc,Int.mul_comm (2^(64-blen m))]
  have hp:=p2pos (xp m E+KK).toNat;rw [e1,decide_eq_true hl]
  refine⟨Int.le_refl _,Int.mul_lt_mul_of_pos_right (by omega) hp,fun _=>rfl,fun h=>by cases h⟩
 ·have hd:=Nat.div_add_mod m (2^(blen m-64))
  have hm:=Nat.mod_lt m (Nat.pow_pos (n:=blen m-64) (show 0 < 2 by decide))
  have hne:m%2^(blen m-64)≠0:=by
   intro e
   have:2 ∣ m:=Nat.dvd_trans (show 2 ∣ 2^(blen m-64)from ⟨2^(blen m-64-1),by rw [←Nat.pow_succ'];congr 1;omega⟩) (Nat.dvd_of_mod_eq_zero e)
   omega
  rw [←tp_big (by omega)]at hd
  have e1:(2:Int)^(xp m E+KK).toNat=2^(blen m-64)*2^(E+KK).toNat:=by
   rw [←Int.pow_add]
   congr 1
   unfold xp
   omega
  have hp:=p2pos (E+KK).toNat
  have c1:(tp m:Int)*2^(blen m-64) < (m:Int):=by
   have:tp m*2^(blen m-64) < m:=by rw [Nat.mul_comm];omega
   exact_mod_cast this
  have c2:(m:Int) < ((tp m:Int)+1)*2^(blen m-64):=by
   have:m < (tp m+1)*2^(blen m-64):=by rw [Nat.mul_comm,Nat.mul_add,Nat.mul_one];omega
   exact_mod_cast this
  have l1:=Int.mul_lt_mul_of_pos_right c1 hp;have l2:=Int.mul_lt_mul_of_pos_right c2 hp;rw [Int.mul_assoc]at l1 l2;rw [e1,decide_eq_false hl]
  exact⟨Int.le_of_lt l1,l2,fun h=>(by cases h),fun _=>l1⟩
end Go.Proofs.YtaadmpiphnfllaaGreatDoor
