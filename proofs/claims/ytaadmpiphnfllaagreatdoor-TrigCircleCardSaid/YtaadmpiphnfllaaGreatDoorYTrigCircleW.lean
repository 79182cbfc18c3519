/-
  The walk of TrigCircle: for all arguments the call answers true, and nothing that was there has turned.
-/
import Derived.Test.YtaadmpiphnfllaaGreatDoorYAbk
import Derived.Test.YtaadmpiphnfllaaGreatDoorYAbo
namespace Go.Proofs.YtaadmpiphnfllaaGreatDoor
open Go.RowKit
set_option linter.unusedVariables false
set_option linter.unusedSimpArgs false
set_option maxRecDepth 100000
set_option maxRecDepth 100000 in
set_option maxHeartbeats 16000000 in
theorem trigCircle_main (D0:Int)(s0:Bool)(M0 E0:Int)(w:World)(hT:Tab w)(hT2:Tb w)(w0:0≤M0)(u0:LQ M0)(x a b a' b':Int)(Zs Zc Ns Nc:Sp)(hx:rk D0 s0 M0 E0=x)(hs:Sv false x Zs)(hc:Sv true x Zc)(hn:Sv false (-x) Ns)(hm:Sv true (-x) Nc)(okn:SpOk Ns)(okm:SpOk Nc)(h1:hasI (addI (sqrI Zs) (sqrI Zc)) (opl 1)=true)(h2:meetI Ns (negI Zs)=some (a,b))(h3:meetI Nc Zc=some (a',b')):
  Calls Tryz.prog 6 #[VQ D0 s0 M0 E0] w (PB w true):=by
 delta VQ
 have k2:meetL [Ns,negI Zs]=some (a,b):=by rw [meetL2 okn];exact h2
 have k3:meetL [Nc,Zc]=some (a',b'):=by rw [meetL2 okm];exact h3
 have k1:addL [sqrI Zs,sqrI Zc]=addI (sqrI Zs) (sqrI Zc):=rfl
 clear h2 h3;have HX:=Lib.hid hx;have HS:=Lib.hid hs;have HC:=Lib.hid hc;have HN:=Lib.hid hn;have HM:=Lib.hid hm;have H1:=Lib.hid h1;have H2:=Lib.hid k2;have H3:=Lib.hid k3;have H4:=Lib.hid k1;clear hx hs hc hn hm h1 k2 k3 k1
 go_enter Tryz.func6,Tryz.ntmps6
 go_upto_region 1 with (fail)
 generalize hW1:w.alloc _=w1 at *;obtain⟨X0,HB⟩:=Bo.en1 hW1;replace hT:=hT.below HB.out;replace hT2:=hT2.below HB.out;clear hW1
 go_wp2_with fail
 refine (awake12 hT hT2).mono ?_;rintro ee w2 ⟨rfl,B⟩;replace X0:=X0.below B;replace hT:=hT.below B;replace hT2:=hT2.below B;replace HB:=Hqb HB B;clear B;have xX0:=X0.cell
 go_wp2_with fail
 refine (tSin hT w0 u0 HX.out HS.out).mono ?_;rintro ee w3 ⟨e11,K11,s11,M11,E11,K11b,s11b,M11b,E11b,rfl,v11,B⟩;clear xX0;replace X0:=X0.below B;replace hT:=hT.below B;replace hT2:=hT2.below B;replace HB:=Hqb HB B;clear B;have hsz11:=HB.out.size
 go_upto_region 3 with (fail)
 have lX4:=Nat.le_refl (World.heap w3).size;have nX4X0:=X0.lt;generalize hWn:w3.alloc _=w4 at *;obtain⟨X4,BW⟩:=Bo.nw hWn;clear hWn;replace X0:=X0.below BW;replace hT:=hT.below BW;replace hT2:=hT2.below BW;replace HB:=Hqb HB BW;clear BW;clear lX4;have xX0:=X0.cell
 go_wp2_with fail
 refine (tCos hT w0 u0 HX.out HC.out).mono ?_;rintro ee w5 ⟨e12,K12,s12,M12,E12,K12b,s12b,M12b,E12b,rfl,v12,B⟩;clear xX0;replace X0:=X0.below B;replace X4:=X4.below B;replace hT:=hT.below B;replace hT2:=hT2.below B;replace HB:=Hqb HB B;clear B;have hsz12:=HB.out.size
 go_upto_region 4 with (fail)
 have lX5:=Nat.le_refl (World.heap w5).size;have nX5X0:=X0.lt;have nX5X4:=X4.lt;generalize hWn:w5.alloc _=w6 at *;obtain⟨X5,BW⟩:=Bo.nw hWn;clear hWn;replace X0:=X0.below BW;replace X4:=X4.below BW;replace hT:=hT.below BW;replace hT2:=hT2.below BW;replace HB:=Hqb HB BW;clear BW;clear lX5;have ltX0:=X0.lt;have ltX4:=X4.lt;have ltX5:=X5.lt;refine Jo.rk [0,1,2,3,4,5,6] [some 14,some 15,some 16,some 17,some 18,some 19,some 6,none] [[],[0],[],[2],[1,3],[4],[],[]] 8 1 [Jo.q9 e11 K11 s11 M11 E11 K11b s11b M11b E11b,Jo.Fact.iv (sqrI Zs),Jo.q9 e12 K12 s12 M12 E12 K12b s12b M12b E12b,Jo.Fact.iv (sqrI Zc),Jo.Fact.il8 2 [(sqrI Zs),(sqrI Zc)],Jo.Fact.iv (addI (sqrI Zs) (sqrI Zc)),Jo.Fact.bo w6.heap.size #[.bool false,.int .i64 0,.bool false,.int .u64 0,.int .i64 0,.int .i64 0,.bool false,.int .u64 0,.int .i64 0] 32,Jo.Fact.any] (by kernel_rfl) (by kernel_rfl) (by decide) rfl ?_ ?_
 ·refine Jo.jm rfl ?_ ?_;rotate_left
  refine Jo.jm rfl ?_ ?_
  ·rintro wj hJ _ rfl K hK;simp only [Jo.z]at hK⊢;go_simp;refine (fkSqr v11.top.1 v11.top.2 v11.rk rfl).mono ?_;rintro ee wk ⟨e20,K20,s20,M20,E20,K20b,s20b,M20b,E20b,rfl,v20,B⟩;exact hK.out _ _ ⟨e20,K20,s20,M20,E20,K20b,s20b,M20b,E20b,rfl,v20⟩ B
  refine Jo.jm rfl ?_ ?_;rotate_left
  refine Jo.jm rfl ?_ ?_
  ·rintro wj hJ _ rfl K hK;simp only [Jo.z]at hK⊢;go_simp;refine (fkSqr v12.top.1 v12.top.2 v12.rk rfl).mono ?_;rintro ee wk ⟨e21,K21,s21,M21,E21,K21b,s21b,M21b,E21b,rfl,v21,B⟩;exact hK.out _ _ ⟨e21,K21,s21,M21,E21,K21b,s21b,M21b,E21b,rfl,v21⟩ B
  refine Jo.jm rfl ?_ ?_
  ·rintro wj hJ _ ⟨e20,K20,s20,M20,E20,K20b,s20b,M20b,E20b,rfl,v20⟩ _ ⟨e21,K21,s21,M21,E21,K21b,s21b,M21b,E21b,rfl,v21⟩ K hK;simp only [Jo.z]at hK⊢;go_simp;exact hK.out _ _ ⟨_,2,rfl,Il8.lit2 rfl v20.rw v21.rw⟩ (bel1 _ _)
  refine Jo.jm rfl ?_ ?_
  ·rintro wj hJ _ ⟨A25,c25,rfl,h25⟩ K hK;simp only [Jo.z]at hK⊢;go_simp;refine (fkAdd (hT2.below hJ) h25 H4.out).mono ?_;rintro ee wk ⟨e22,K22,s22,M22,E22,K22b,s22b,M22b,E22b,rfl,v22,B⟩;exact hK.out _ _ ⟨e22,K22,s22,M22,E22,K22b,s22b,M22b,E22b,rfl,v22⟩ B
  refine Jo.jm rfl ?_ ?_
  ·rintro wj hJ K hK;simp only [Jo.z]at hK⊢;go_simp;exact hK.out _ _ ⟨_,rfl,hJ.size,Bo.new _ _ _⟩ (bel1 _ _)
  exact Jo.Steps.nil
  all_goals (rintro wj hJ;(repeat rintro _ rfl);intro K hK;simp only [Jo.z]at hK⊢;have xX4:=(X4.below hJ).cell;have xX5:=(X5.below hJ).cell;go_simp;exact hK.out _ _ rfl (br _ _))
 rintro w7 hJ _ rfl _ ⟨e20,K20,s20,M20,E20,K20b,s20b,M20b,E20b,rfl,v20⟩ _ rfl _ ⟨e21,K21,s21,M21,E21,K21b,s21b,M21b,E21b,rfl,v21⟩ _ ⟨_,_,rfl,_⟩ _ ⟨e22,K22,s22,M22,E22,K22b,s22b,M22b,E22b,rfl,v22⟩ _ ⟨g10,rfl,hg10,X10⟩ -;simp only [Jo.z];replace X0:=X0.below hJ;replace X4:=X4.below hJ;replace X5:=X5.below hJ;replace hT:=hT.below hJ;replace hT2:=hT2.below hJ
 replace HB:=Hqb HB hJ;have xX10:=X10.cell;have zX100:=X10.frozen
 refine Jo.jnext (i:=7) (o:=⟨none,_,_,_,_,_⟩) (by kernel_rfl) rfl (fun K hK=>?_)
 go_simp;refine hK.out _ _ ?_;clear hK K xX10 zX100;generalize hS:((((((((w7.setCell _ _).setCell _ _).setCell _ _).setCell _ _).setCell _ _).setCell _ _).setCell _ _).setCell _ _).setCell _ _=w8 at *;have SX:=StN.of9 X10 hS;replace X0:=X0.stn SX (by omega);replace X4:=X4.stn SX (by omega);replace X5:=X5.stn SX (by omega);replace hT:=hT.stn SX (by simp [no8])
 replace hT2:=hT2.stn SX (by simp [no8]);replace HB:=Hqs HB SX (by omega);replace X10:=SX.box;clear SX hS;refine Jo.jdone (by kernel_rfl) ?_
 go_upto_region 5 with (fail)
 have ltX0:=X0.lt;have ltX4:=X4.lt;have ltX5:=X5.lt;have ltX10:=X10.lt;refine Jo.rk [0,1,2,3,4,5,6,7] [some 20,some 21,some 22,some 23,some 24,some 25,some 26,some 7,none] [[],[0],[1],[],[3],[2,4],[5],[],[]] 9 1 [Jo.q4 D0 s0 M0 E0,Jo.Fact.num (-x),Jo.Fact.iv Ns,Jo.q9 e11 K11 s11 M11 E11 K11b s11b M11b E11b,Jo.Fact.iv (negI Zs),Jo.Fact.il8 2 [Ns,(negI Zs)],Jo.Fact.iv (some (a,b)),Jo.Fact.bo w8.heap.size #[.bool false,.int .i64 0,.bool false,.int .u64 0,.int .i64 0,.int .i64 0,.bool false,.int .u64 0,.int .i64 0] 32,Jo.Fact.any] (by kernel_rfl) (by kernel_rfl) (by decide) rfl ?_ ?_
 ·refine Jo.jm rfl ?_ ?_;rotate_left
  refine Jo.jm rfl ?_ ?_
  ·rintro wj hJ _ rfl K hK;simp only [Jo.z]at hK⊢;go_simp;refine (nNeg u0 (by rw [HX.out])).mono ?_;rintro ee wk ⟨K30,s30,M30,E30,rfl,q30,B⟩;exact hK.out _ _ ⟨K30,s30,M30,E30,rfl,q30⟩ B
  refine Jo.jm rfl ?_ ?_
  ·rintro wj hJ _ ⟨K30,s30,M30,E30,rfl,q30⟩ K hK;simp only [Jo.z]at hK⊢;go_simp;refine (tSin (hT.below hJ) (fq_mn q30) q30.top q30.rk HN.out).mono ?_;rintro ee wk ⟨e31,K31,s31,M31,E31,K31b,s31b,M31b,E31b,rfl,v31,B⟩;exact hK.out _ _ ⟨e31,K31,s31,M31,E31,K31b,s31b,M31b,E31b,rfl,v31⟩ B
  refine Jo.jm rfl ?_ ?_;rotate_left
  refine Jo.jm rfl ?_ ?_
  ·rintro wj hJ _ rfl K hK;simp only [Jo.z]at hK⊢;go_simp;refine (fkNeg v11.top.1 v11.top.2 v11.rk rfl).mono ?_;rintro ee wk ⟨e32,K32,s32,M32,E32,K32b,s32b,M32b,E32b,rfl,v32,B⟩;exact hK.out _ _ ⟨e32,K32,s32,M32,E32,K32b,s32b,M32b,E32b,rfl,v32⟩ B
  refine Jo.jm rfl ?_ ?_
  ·rintro wj hJ _ ⟨e31,K31,s31,M31,E31,K31b,s31b,M31b,E31b,rfl,v31⟩ _ ⟨e32,K32,s32,M32,E32,K32b,s32b,M32b,E32b,rfl,v32⟩ K hK;simp only [Jo.z]at hK⊢;go_simp;exact hK.out _ _ ⟨_,2,rfl,Il8.lit2 rfl v31.rw v32.rw⟩ (bel1 _ _)
  refine Jo.jm rfl ?_ ?_
  ·rintro wj hJ _ ⟨A35,c35,rfl,h35⟩ K hK;simp only [Jo.z]at hK⊢;go_simp;refine (kvMeet h35 H2.out).mono ?_;rintro ee wk ⟨e33,K33,s33,M33,E33,K33b,s33b,M33b,E33b,rfl,v33,B⟩;exact hK.out _ _ ⟨e33,K33,s33,M33,E33,K33b,s33b,M33b,E33b,rfl,v33⟩ B
  refine Jo.jm rfl ?_ ?_
  ·rintro wj hJ K hK;simp only [Jo.z]at hK⊢;go_simp;exact hK.out _ _ ⟨_,rfl,hJ.size,Bo.new _ _ _⟩ (bel1 _ _)
  exact Jo.Steps.nil
  all_goals (rintro wj hJ;(repeat rintro _ rfl);intro K hK;simp only [Jo.z]at hK⊢;have xX0:=(X0.below hJ).cell;have xX4:=(X4.below hJ).cell;go_simp;exact hK.out _ _ rfl (br _ _))
 rintro w9 hJ _ rfl _ ⟨K30,s30,M30,E30,rfl,_⟩ _ ⟨e31,K31,s31,M31,E31,K31b,s31b,M31b,E31b,rfl,v31⟩ _ rfl _ ⟨e32,K32,s32,M32,E32,K32b,s32b,M32b,E32b,rfl,v32⟩ _ ⟨_,_,rfl,_⟩ _ ⟨e33,K33,s33,M33,E33,K33b,s33b,M33b,E33b,rfl,v33⟩ _ ⟨g20,rfl,hg20,X20⟩ -;simp only [Jo.z];replace X0:=X0.below hJ;replace X4:=X4.below hJ;replace X5:=X5.below hJ;replace X10:=X10.below hJ
 replace hT:=hT.below hJ;replace hT2:=hT2.below hJ;replace HB:=Hqb HB hJ;have xX20:=X20.cell;have zX200:=X20.frozen
 refine Jo.jnext (i:=8) (o:=⟨none,_,_,_,_,_⟩) (by kernel_rfl) rfl (fun K hK=>?_)
 go_simp;refine hK.out _ _ ?_;clear hK K xX20 zX200;generalize hS:((((((((w9.setCell _ _).setCell _ _).setCell _ _).setCell _ _).setCell _ _).setCell _ _).setCell _ _).setCell _ _).setCell _ _=wA at *;have SX:=StN.of9 X20 hS;replace X0:=X0.stn SX (by omega);replace X4:=X4.stn SX (by omega);replace X5:=X5.stn SX (by omega);replace X10:=X10.stn SX (by omega)
 replace hT:=hT.stn SX (by simp [no8]);replace hT2:=hT2.stn SX (by simp [no8]);replace HB:=Hqs HB SX (by omega);replace X20:=SX.box;clear SX hS;refine Jo.jdone (by kernel_rfl) ?_
 obtain rfl:e33=false:=v33.1
 go_upto_region 6 with (fail)
 have ltX0:=X0.lt;have ltX4:=X4.lt;have ltX5:=X5.lt;have ltX10:=X10.lt;have ltX20:=X20.lt;refine Jo.rk [0,1,2,3,4,5,6] [some 27,some 28,some 29,some 30,some 31,some 32,some 8,none] [[],[0],[1],[],[2,3],[4],[],[]] 8 1 [Jo.q4 D0 s0 M0 E0,Jo.Fact.num (-x),Jo.Fact.iv Nc,Jo.q9 e12 K12 s12 M12 E12 K12b s12b M12b E12b,Jo.Fact.il8 2 [Nc,Zc],Jo.Fact.iv (some (a',b')),Jo.Fact.bo wA.heap.size #[.bool false,.int .i64 0,.bool false,.int .u64 0,.int .i64 0,.int .i64 0,.bool false,.int .u64 0,.int .i64 0] 32,Jo.Fact.any] (by kernel_rfl) (by kernel_rfl) (by decide) rfl ?_ ?_
 ·refine Jo.jm rfl ?_ ?_;rotate_left
  refine Jo.jm rfl ?_ ?_
  ·rintro wj hJ _ rfl K hK;simp only [Jo.z]at hK⊢;go_simp;refine (nNeg u0 (by rw [HX.out])).mono ?_;rintro ee wk ⟨K40,s40,M40,E40,rfl,q40,B⟩;exact hK.out _ _ ⟨K40,s40,M40,E40,rfl,q40⟩ B
  refine Jo.jm rfl ?_ ?_
  ·rintro wj hJ _ ⟨K40,s40,M40,E40,rfl,q40⟩ K hK;simp only [Jo.z]at hK⊢;go_simp;refine (tCos (hT.below hJ) (fq_mn q40) q40.top q40.rk HM.out).mono ?_;rintro ee wk ⟨e41,K41,s41,M41,E41,K41b,s41b,M41b,E41b,rfl,v41,B⟩;exact hK.out _ _ ⟨e41,K41,s41,M41,E41,K41b,s41b,M41b,E41b,rfl,v41⟩ B
  refine Jo.jm rfl ?_ ?_;rotate_left
  refine Jo.jm rfl ?_ ?_
  ·rintro wj hJ _ ⟨e41,K41,s41,M41,E41,K41b,s41b,M41b,E41b,rfl,v41⟩ _ rfl K hK;simp only [Jo.z]at hK⊢;go_simp;exact hK.out _ _ ⟨_,2,rfl,Il8.lit2 rfl v41.rw v12.rw⟩ (bel1 _ _)
  refine Jo.jm rfl ?_ ?_
  ·rintro wj hJ _ ⟨A45,c45,rfl,h45⟩ K hK;simp only [Jo.z]at hK⊢;go_simp;refine (kvMeet h45 H3.out).mono ?_;rintro ee wk ⟨e43,K43,s43,M43,E43,K43b,s43b,M43b,E43b,rfl,v43,B⟩;exact hK.out _ _ ⟨e43,K43,s43,M43,E43,K43b,s43b,M43b,E43b,rfl,v43⟩ B
  refine Jo.jm rfl ?_ ?_
  ·rintro wj hJ K hK;simp only [Jo.z]at hK⊢;go_simp;exact hK.out _ _ ⟨_,rfl,hJ.size,Bo.new _ _ _⟩ (bel1 _ _)
  exact Jo.Steps.nil
  all_goals (rintro wj hJ;(repeat rintro _ rfl);intro K hK;simp only [Jo.z]at hK⊢;have xX0:=(X0.below hJ).cell;have xX5:=(X5.below hJ).cell;go_simp;exact hK.out _ _ rfl (br _ _))
 rintro wB hJ _ rfl _ ⟨K40,s40,M40,E40,rfl,_⟩ _ ⟨e41,K41,s41,M41,E41,K41b,s41b,M41b,E41b,rfl,v41⟩ _ rfl _ ⟨_,_,rfl,_⟩ _ ⟨e43,K43,s43,M43,E43,K43b,s43b,M43b,E43b,rfl,v43⟩ _ ⟨g30,rfl,hg30,X30⟩ -;simp only [Jo.z];replace X0:=X0.below hJ;replace X4:=X4.below hJ;replace X5:=X5.below hJ;replace X10:=X10.below hJ;replace X20:=X20.below hJ;replace hT:=hT.below hJ
 replace hT2:=hT2.below hJ;replace HB:=Hqb HB hJ;have xX30:=X30.cell;have zX300:=X30.frozen
 refine Jo.jnext (i:=7) (o:=⟨none,_,_,_,_,_⟩) (by kernel_rfl) rfl (fun K hK=>?_)
 go_simp;refine hK.out _ _ ?_;clear hK K xX30 zX300;generalize hS:((((((((wB.setCell _ _).setCell _ _).setCell _ _).setCell _ _).setCell _ _).setCell _ _).setCell _ _).setCell _ _).setCell _ _=wC at *;have SX:=StN.of9 X30 hS;replace X0:=X0.stn SX (by omega);replace X4:=X4.stn SX (by omega);replace X5:=X5.stn SX (by omega);replace X10:=X10.stn SX (by omega)
 replace X20:=X20.stn SX (by omega);replace hT:=hT.stn SX (by simp [no8]);replace hT2:=hT2.stn SX (by simp [no8]);replace HB:=Hqs HB SX (by omega);replace X30:=SX.box;clear SX hS;refine Jo.jdone (by kernel_rfl) ?_
 obtain rfl:e43=false:=v43.1
 go_upto_region 7 with (fail)
 have ltX0:=X0.lt;have ltX4:=X4.lt;have ltX5:=X5.lt;have ltX10:=X10.lt;have ltX20:=X20.lt;have ltX30:=X30.lt;refine Jo.rk [0,1,2,3,4,5,6,7,8,9,10,11,12,13,14,15,16] [some 33,some 34,some 35,some 36,some 37,some 38,some 39,some 40,some 41,some 42,some 43,some 44,some 45,some 46,some 47,some 48,some 2] [[],[0],[1],[1],[1,2,3],[1,4],[5],[6],[6,7],[6,8],[6,9],[10],[11],[11,12],[11,13],[11,14],[15]] 17 0 [Jo.qb true,Jo.qb true,Jo.q9 e22 K22 s22 M22 E22 K22b s22b M22b E22b,Jo.Fact.num (opl 1),Jo.qb true,Jo.qb true,Jo.qb true,Jo.qp g20 0,Jo.qb false,Jo.qb true,Jo.qb true,Jo.qb true,Jo.qp g30 0,Jo.qb false,Jo.qb true,Jo.qb true,Jo.qb true] (by kernel_rfl) (by kernel_rfl) (by decide) rfl ?_ ?_
 ·iterate 3 (refine Jo.jm rfl ?_ ?_;rotate_left)
  refine Jo.jm rfl ?_ ?_
  ·rintro wj hJ _ rfl K hK;simp only [Jo.z]at hK⊢;go_simp;refine (nOf (n:=1) (r:=opl 1) _ (by decide) (by decide) rfl).mono ?_;rintro ee wk ⟨K50,s50,M50,E50,rfl,q50,B⟩;exact hK.out _ _ ⟨K50,s50,M50,E50,rfl,q50⟩ B
  refine Jo.jm rfl ?_ ?_
  ·rintro wj hJ _ rfl _ rfl _ ⟨K50,s50,M50,E50,rfl,q50⟩ K hK;simp only [Jo.z]at hK⊢;go_simp;refine (kvHas v22.top.1 v22.top.2 q50.top v22.rk q50.rk H1.out).mono ?_;rintro ee wk ⟨rfl,B⟩;exact hK.out _ _ rfl B
  iterate 3 (refine Jo.jm rfl ?_ ?_;rotate_left)
  refine Jo.jm rfl ?_ ?_
  ·rintro wj hJ _ rfl _ rfl K hK;simp only [Jo.z]at hK⊢;have xX200:=(X20.below hJ).a 0 (.bool false) rfl;go_simp;exact hK.out _ _ rfl (br _ _)
  iterate 4 (refine Jo.jm rfl ?_ ?_;rotate_left)
  refine Jo.jm rfl ?_ ?_
  ·rintro wj hJ _ rfl _ rfl K hK;simp only [Jo.z]at hK⊢;have xX300:=(X30.below hJ).a 0 (.bool false) rfl;go_simp;exact hK.out _ _ rfl (br _ _)
  iterate 3 (refine Jo.jm rfl ?_ ?_;rotate_left)
  exact Jo.Steps.nil
  all_goals (rintro wj hJ;(repeat rintro _ rfl);intro K hK;simp only [Jo.z]at hK⊢;have xX10:=(X10.below hJ).cell;go_simp;exact hK.out _ _ rfl (br _ _))
 rintro wD hJ _ rfl _ rfl _ rfl _ ⟨K50,s50,M50,E50,rfl,_⟩ _ rfl _ rfl _ rfl _ _ _ rfl _ rfl _ rfl _ rfl _ _ _ rfl _ rfl _ rfl _ rfl -;simp only [Jo.z];replace X0:=X0.below hJ;replace X4:=X4.below hJ;replace X5:=X5.below hJ;replace X10:=X10.below hJ;replace X20:=X20.below hJ;replace X30:=X30.below hJ;replace hT:=hT.below hJ;replace hT2:=hT2.below hJ;replace HB:=Hqb HB hJ
 refine Jo.jdone (by kernel_rfl) ?_;go_wp2
 go_ret
 exact⟨rfl,HB.out⟩
theorem trigCircle_walk (D0:Int)(s0:Bool)(M0 E0:Int)(w:World)(hT:Tab w)(hT2:Tb w)(w0:0≤M0)(u0:LQ M0):
  Calls Tryz.prog 6 #[VQ D0 s0 M0 E0] w fun e w'=>e= .returned (.bool true)∧Below w.heap.size w w':=by
 delta VQ
 obtain⟨x,hx⟩:∃x,rk D0 s0 M0 E0=x:=⟨_,rfl⟩;obtain⟨Zs,hs⟩:=sv_ex false x;obtain⟨Zc,hc⟩:=sv_ex true x;obtain⟨Ns,hn⟩:=sv_ex false (-x);obtain⟨Nc,hm⟩:=sv_ex true (-x);obtain⟨a,b,h2⟩:=neg_ok hs hn;obtain⟨a',b',h3⟩:=negc_ok hc hm;exact trigCircle_main D0 s0 M0 E0 w hT hT2 w0 u0 x a b a' b' Zs Zc Ns Nc hx hs hc hn hm (sv_us hn).fin.ok (sv_us hm).fin.ok (circle_ok hs hc) h2 h3
end Go.Proofs.YtaadmpiphnfllaaGreatDoor
