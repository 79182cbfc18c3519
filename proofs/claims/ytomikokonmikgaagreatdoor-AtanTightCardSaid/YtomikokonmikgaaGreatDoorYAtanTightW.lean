/-
  The walk of AtanTight: for all arguments the call answers true, and nothing that was there has turned.
-/
import Derived.Test.YtomikokonmikgaaGreatDoorYBas
namespace Go.Proofs.YtomikokonmikgaaGreatDoor
set_option maxHeartbeats 16000000
open Go.RowKit
set_option linter.unusedVariables false
set_option linter.unusedSimpArgs false
set_option maxRecDepth 100000
theorem cmp_leW{x y c:Int}(h:cmpI x y=c):decide (c<=0)=decide (x<=y):=cmp_leA h
set_option maxRecDepth 100000 in
theorem atanTight_no (D0:Int)(s0:Bool)(M0 E0:Int)(w:World){q:Bool->Int->Int->Int}(hq:QF q)(hT:Tab w)(hT2:Tb w)(hm:decide (MayQ D0 s0 M0 E0)=false):
  Calls Tryz.prog 7 #[VQ D0 s0 M0 E0] w (PB w true):=by
 delta VQ
 have HQ:=ie hq;have HM:=ie hm;clear hq hm
 go_enter Tryz.func7,Tryz.ntmps7
 go_upto_region 1 with (fail)
 generalize hW1:w.alloc _=w1 at *;obtain⟨X0,HB⟩:=Bo.en1 hW1;replace hT:=hT.below HB.out;replace hT2:=hT2.below HB.out;clear hW1
 go_wp2_with fail
 refine(awake13 HQ.out hT hT2).mono ?_;rintro ee w2 ⟨rfl,B⟩;replace X0:=X0.b B;replace HB:=Hqb HB B;clear B;have xX0:=X0.cell
 go_wp2_with fail
 refine(nMay HM.out).mono ?_;rintro ee w3 ⟨rfl,B⟩;clear xX0;replace HB:=Hqb HB B;clear B;go_wp2
 go_ret
 exact⟨rfl,HB.out⟩
set_option maxRecDepth 100000 in
theorem atanTight_zero (D0:Int)(s0:Bool)(M0 E0:Int)(w:World){q:Bool->Int->Int->Int}(hq:QF q)(hT:Tab w)(hT2:Tb w)(w0:0<=M0)(u0:LQ M0)(x a b:Int)(hm:decide (MayQ D0 s0 M0 E0)=true)(hx:rk D0 s0 M0 E0=x)(hz:AtV q x (some (a,b)))(hw:widI (some (a,b))<=p60)(hr:witI (addI (some (a,b)) (some (a,b))) (infI (some (-(PIL+1),PIL+1)) p60)=true)(h0:x=0):
  Calls Tryz.prog 7 #[VQ D0 s0 M0 E0] w (PB w true):=by
 delta VQ
 obtain⟨σ,hσ⟩:∃σ,cmpI x 0=σ:=⟨_,rfl⟩
 have e0:(σ !=0)=false:=by
  have e:=cmp_eqA hσ;rw[dt h0]at e
  unfold bne
  rw[e]
  rfl
 obtain⟨ρ,hρ⟩:∃σ,cmpI (widI (some (a,b))) p60=σ:=⟨_,rfl⟩
 have e1:decide (ρ<=0)=true:=by rw[cmp_leW hρ];exact dt hw
 have mk:mkI (-(PIL+1)) (PIL+1)=some (-(PIL+1),PIL+1):=mkI_some (by decide) (by decide) (by decide)
 have ha:addL [some (a,b),some (a,b)]=addI (some (a,b)) (some (a,b)):=rfl
 clear hw h0;have HQ:=ie hq;have HM:=ie hm;have HX:=ie hx;have HZ:=ie hz;have HR:=ie hr;have HS:=ie hσ;have HE0:=ie e0;have HRO:=ie hρ;have HE1:=ie e1;have HMK:=ie mk;have HAD:=ie ha;clear hq hm hx hz hr hσ e0 hρ e1 mk ha
 go_enter Tryz.func7,Tryz.ntmps7
 go_upto_region 1 with (fail)
 generalize hW1:w.alloc _=w1 at *;obtain⟨X0,HB⟩:=Bo.en1 hW1;replace hT:=hT.below HB.out;replace hT2:=hT2.below HB.out;clear hW1
 go_wp2_with fail
 refine(awake13 HQ.out hT hT2).mono ?_;rintro ee w2 ⟨rfl,B⟩;replace X0:=X0.b B;replace hT:=hT.b B;replace hT2:=hT2.b B;replace HB:=Hqb HB B;clear B;have xX0:=X0.cell
 go_wp2_with fail
 refine(nMay HM.out).mono ?_;rintro ee w3 ⟨rfl,B⟩;clear xX0;replace X0:=X0.b B;replace hT:=hT.b B;replace hT2:=hT2.b B;replace HB:=Hqb HB B;clear B;have xX0:=X0.cell
 go_wp2_with fail
 refine(atAtan HQ.out hT hT2 w0 u0 HX.out HZ.out).mono ?_;rintro ee w4 ⟨e11,K11,s11,M11,E11,K11b,s11b,M11b,E11b,rfl,v11,B⟩;clear xX0;replace X0:=X0.b B;replace hT:=hT.b B;replace hT2:=hT2.b B;replace HB:=Hqb HB B;clear B;have hsz11:=HB.out.size
 go_upto_region 5 with (fail)
 have nX4X0:=X0.lt;generalize hWn:w4.alloc _=w5 at *;obtain⟨X4,BW⟩:=Bo.nw hWn;clear hWn;replace X0:=X0.b BW;replace hT:=hT.b BW;replace hT2:=hT2.b BW;replace HB:=Hqb HB BW;clear BW
 obtain rfl:e11=false:=v11.1
 go_wp2_with fail
 refine(cPi hT).mono ?_;rintro ee w6 ⟨e12,K12,s12,M12,E12,K12b,s12b,M12b,E12b,rfl,v12,B⟩;replace X0:=X0.b B;replace X4:=X4.b B;replace hT2:=hT2.b B;replace HB:=Hqb HB B;clear B;have hsz12:=HB.out.size
 go_upto_region 6 with (fail)
 have nX5X0:=X0.lt;have nX5X4:=X4.lt;generalize hWn:w6.alloc _=w7 at *;obtain⟨X5,BW⟩:=Bo.nw hWn;clear hWn;replace X0:=X0.b BW;replace X4:=X4.b BW;replace hT2:=hT2.b BW;replace HB:=Hqb HB BW;clear BW
 obtain rfl:e12=false:=v12.1
 obtain⟨_,qa,qb,oab,oa,ob⟩:=v12;have ltX0:=X0.lt;have ltX4:=X4.lt;have ltX5:=X5.lt;refine jk [0,1,2,3,4,5,6,7,8] [some 15,some 16,some 17,some 18,some 19,some 20,some 21,some 22,some 6,none] [[],[0],[1],[],[3],[2,4],[],[5,6],[],[]] 10 1 [Jo.qp w6.heap.size 5,Jo.q4 K12b s12b M12b E12b,Jo.Fact.num (-(PIL+1)),Jo.qp w6.heap.size 5,Jo.q4 K12b s12b M12b E12b,Jo.Fact.iv (some (-(PIL+1),PIL+1)),Jo.Fact.num p60,Jo.Fact.iv (infI (some (-(PIL+1),PIL+1)) p60),Jo.Fact.bo w7.heap.size #[.bool false,.int .i64 0,.bool false,.int .u64 0,.int .i64 0,.int .i64 0,.bool false,.int .u64 0,.int .i64 0] 32,Jo.Fact.any] ?_ ?_
 ·iterate 2 (refine jm ?_ ?_;rotate_left)
  refine jm ?_ ?_
  ·rintro wj hJ _ rfl K hK;simp only[Jo.z]at hK|-;go_simp;exact Jo.n1 (nNeg qb.top (by rw[qb.rk])) hK.out
  iterate 2 (refine jm ?_ ?_;rotate_left)
  refine jm ?_ ?_
  ·rintro wj hJ _ ⟨K20,s20,M20,E20,rfl,q20⟩ _ rfl K hK;simp only[Jo.z]at hK|-;go_simp;exact Jo.v1 (kvMake q20.top qb.top q20.rk qb.rk HMK.out) hK.out
  refine jm ?_ ?_
  ·rintro wj hJ K hK;simp only[Jo.z]at hK|-;go_simp;exact Jo.n1 (aSmall) hK.out
  refine jm ?_ ?_
  ·rintro wj hJ _ ⟨e21,K21,s21,M21,E21,K21b,s21b,M21b,E21b,rfl,v21⟩ _ ⟨K22,s22,M22,E22,rfl,q22⟩ K hK;simp only[Jo.z]at hK|-;go_simp;exact Jo.v1 (kvInflate (hT2.b hJ) v21.top.1 v21.top.2 q22.top v21.rk q22.rk rfl) hK.out
  refine jm ?_ ?_
  ·rintro wj hJ K hK;simp only[Jo.z]at hK|-;go_simp;exact hK.out _ _ ⟨_,rfl,hJ.size,Bo.new _ _ _⟩ (bel1 _ _)
  exact jo
  all_goals (rintro wj hJ;(repeat rintro _ rfl);intro K hK;simp only[Jo.z]at hK|-;have xX5:=(X5.b hJ).cell;go_simp;exact hK.out _ _ rfl (br _ _))
 rintro w8 hJ _ _ _ rfl _ ⟨K20,s20,M20,E20,rfl,_⟩ _ _ _ rfl _ ⟨e21,K21,s21,M21,E21,K21b,s21b,M21b,E21b,rfl,v21⟩ _ ⟨K22,s22,M22,E22,rfl,_⟩ _ ⟨e23,K23,s23,M23,E23,K23b,s23b,M23b,E23b,rfl,v23⟩ _ ⟨g9,rfl,hg9,X9⟩ -;simp only[Jo.z];replace X0:=X0.b hJ;replace X4:=X4.b hJ;replace hT2:=hT2.b hJ;replace HB:=Hqb HB hJ;have xX9:=X9.cell
 have zX90:=X9.frozen
 refine jn 9 fun K hK=>?_
 go_simp;refine hK.out _ _ ?_;clear hK K xX9 zX90;generalize hS:((((((((w8.setCell _ _).setCell _ _).setCell _ _).setCell _ _).setCell _ _).setCell _ _).setCell _ _).setCell _ _).setCell _ _=w9 at *;have SX:=StN.of9 X9 hS;replace X0:=X0.s SX;replace X4:=X4.s SX;replace hT2:=hT2.s SX;replace HB:=Hqs HB SX (by omega)
 replace X9:=SX.box;clear SX hS;refine jd ?_;clear v21 qa qb X5
 go_upto_region 7 with (fail)
 have ltX0:=X0.lt;have ltX4:=X4.lt;have ltX9:=X9.lt;refine jk [0,1,2,3,4,5,6,7,8,9,10] [some 23,some 24,some 25,some 26,some 27,some 28,some 29,some 30,some 31,some 32,some 33] [[],[0],[1],[2],[3],[3,4],[3,5],[3],[3,7],[3,6,8],[3,9]] 11 0 [Jo.q4 D0 s0 M0 E0,Jo.qi σ,Jo.qb false,Jo.qb false,Jo.qu,Jo.qu,Jo.qu,Jo.qu,Jo.qu,Jo.qu,Jo.qb false] ?_ ?_
 ·refine jm ?_ ?_;rotate_left
  refine jm ?_ ?_
  ·rintro wj hJ _ rfl K hK;simp only[Jo.z]at hK|-;go_simp;refine(nSign (σ:=σ) u0 (by rw[HX.out];exact HS.out)).mono ?_;rintro ee wk ⟨rfl,B⟩;exact hK.out _ _ rfl B
  refine jm ?_ ?_
  ·rintro wj hJ _ rfl K hK;simp only[Jo.z]at hK|-;have ht:=HE0.out;go_simp
   exact hK.out _ _ (by first | rfl | (show Value.bool _=Value.bool _;first | (rw[ht];done) | (simp only[ht];done) | simp_all)) (br _ _)
  iterate 8 (refine jm ?_ ?_;rotate_left)
  exact jo
  all_goals (rintro wj hJ;(repeat rintro _ rfl);intro K hK;simp only[Jo.z]at hK|-;have xX0:=(X0.b hJ).cell;go_simp;exact hK.out _ _ rfl (br _ _))
 rintro wA hJ _ rfl _ rfl _ rfl _ rfl _ rfl _ rfl _ rfl _ rfl _ rfl _ rfl _ rfl -;simp only[Jo.z];replace X4:=X4.b hJ;replace X9:=X9.b hJ;replace hT2:=hT2.b hJ;replace HB:=Hqb HB hJ;refine jd ?_
 go_upto_region 9 with (fail)
 refine jk [0,1,2,3,4,5,6,7,8,9,10,11,12,13,14,15,16,17,18,19,20,21] [some 34,some 35,some 36,some 37,some 38,some 39,some 40,some 41,some 42,some 43,some 44,some 45,some 46,some 47,some 48,some 49,some 50,some 51,some 52,some 53,some 54,some 2] [[],[0],[1],[1,2],[1,3],[1,4],[5],[6],[6,7],[6],[6,8,9],[6,10],[6,11],[12],[13],[13],[13,14,15],[13,16],[13],[13,17,18],[13,19],[20]] 22 0 [Jo.qb true,Jo.qb true,Jo.qp w4.heap.size 0,Jo.qb false,Jo.qb true,Jo.qb true,Jo.qb true,Jo.q9 false K11 s11 M11 E11 K11b s11b M11b E11b,Jo.Fact.num (widI (some (a,b))),Jo.Fact.num p60,Jo.qi ρ,Jo.qb true,Jo.qb true,Jo.qb true,Jo.q9 false K11 s11 M11 E11 K11b s11b M11b E11b,Jo.q9 false K11 s11 M11 E11 K11b s11b M11b E11b,Jo.Fact.il8 2 [(some (a,b)),(some (a,b))],Jo.Fact.iv (addI (some (a,b)) (some (a,b))),Jo.q9 e23 K23 s23 M23 E23 K23b s23b M23b E23b,Jo.qb true,Jo.qb true,Jo.qb true] ?_ ?_
 ·iterate 3 (refine jm ?_ ?_;rotate_left)
  refine jm ?_ ?_
  ·rintro wj hJ _ rfl _ rfl K hK;simp only[Jo.z]at hK|-;have xX40:=(X4.b hJ).a 0 (.bool false) rfl;go_simp;exact hK.out _ _ rfl (br _ _)
  iterate 4 (refine jm ?_ ?_;rotate_left)
  refine jm ?_ ?_
  ·rintro wj hJ _ rfl _ rfl K hK;simp only[Jo.z]at hK|-;go_simp;exact Jo.n1 (kvWidth (hT2.b hJ) v11.top.1 v11.top.2 v11.rk rfl) hK.out
  refine jm ?_ ?_
  ·rintro wj hJ _ rfl K hK;simp only[Jo.z]at hK|-;go_simp;exact Jo.n1 (aSmall) hK.out
  refine jm ?_ ?_
  ·rintro wj hJ _ rfl _ ⟨K40,s40,M40,E40,rfl,q40⟩ _ ⟨K41,s41,M41,E41,rfl,q41⟩ K hK;simp only[Jo.z]at hK|-;go_simp;refine(nCmp (z:=ρ) q40.top q41.top (by rw[q40.rk,q41.rk];exact HRO.out)).mono ?_;rintro ee wk ⟨rfl,B⟩;exact hK.out _ _ rfl B
  refine jm ?_ ?_
  ·rintro wj hJ _ rfl _ rfl K hK;simp only[Jo.z]at hK|-;have ht:=HE1.out;go_simp
   exact hK.out _ _ (by first | rfl | (show Value.bool _=Value.bool _;first | (rw[ht];done) | (simp only[ht];done) | simp_all)) (br _ _)
  iterate 4 (refine jm ?_ ?_;rotate_left)
  refine jm ?_ ?_
  ·rintro wj hJ _ rfl _ rfl _ rfl K hK;simp only[Jo.z]at hK|-;go_simp;exact hK.out _ _ ⟨_,2,rfl,Il8.lit2 rfl v11.rw v11.rw⟩ (bel1 _ _)
  refine jm ?_ ?_
  ·rintro wj hJ _ rfl _ ⟨A45,c45,rfl,h45⟩ K hK;simp only[Jo.z]at hK|-;go_simp;exact Jo.v1 (fkAdd (hT2.b hJ) h45 HAD.out) hK.out
  refine jm ?_ ?_;rotate_left
  refine jm ?_ ?_
  ·rintro wj hJ _ rfl _ ⟨e42,K42,s42,M42,E42,K42b,s42b,M42b,E42b,rfl,v42⟩ _ rfl K hK;simp only[Jo.z]at hK|-;go_simp;refine(kvWithin v42.top.1 v42.top.2 v23.top.1 v23.top.2 v42.rk v23.rk HR.out).mono ?_;rintro ee wk ⟨rfl,B⟩;exact hK.out _ _ rfl B
  iterate 2 (refine jm ?_ ?_;rotate_left)
  exact jo
  all_goals (rintro wj hJ;(repeat rintro _ rfl);intro K hK;simp only[Jo.z]at hK|-;have xX4:=(X4.b hJ).cell;have xX9:=(X9.b hJ).cell;go_simp;exact hK.out _ _ rfl (br _ _))
 rintro wB hJ _ rfl _ rfl _ _ _ rfl _ rfl _ rfl _ rfl _ rfl _ ⟨K40,s40,M40,E40,rfl,_⟩ _ ⟨K41,s41,M41,E41,rfl,_⟩ _ rfl _ rfl _ rfl _ rfl _ rfl _ rfl _ ⟨_,_,rfl,_⟩ _ ⟨e42,K42,s42,M42,E42,K42b,s42b,M42b,E42b,rfl,v42⟩ _ rfl _ rfl _ rfl _ rfl -;simp only[Jo.z];replace HB:=Hqb HB hJ;refine jd ?_;go_wp2
 go_ret
 exact⟨rfl,HB.out⟩
set_option maxRecDepth 100000 in
theorem atanTight_any (D0:Int)(s0:Bool)(M0 E0:Int)(w:World){q:Bool->Int->Int->Int}(hq:QF q)(hT:Tab w)(hT2:Tb w)(w0:0<=M0)(u0:LQ M0)(x a b:Int)(hm:decide (MayQ D0 s0 M0 E0)=true)(hx:rk D0 s0 M0 E0=x)(hz:AtV q x (some (a,b)))(hw:widI (some (a,b))<=p60)(hr:witI (addI (some (a,b)) (some (a,b))) (infI (some (-(PIL+1),PIL+1)) p60)=true)(h0:x≠0)(hn:AtV q (-x) (negI (some (a,b)))):
  Calls Tryz.prog 7 #[VQ D0 s0 M0 E0] w (PB w true):=by
 delta VQ
 obtain⟨σ,hσ⟩:∃σ,cmpI x 0=σ:=⟨_,rfl⟩
 have e0:(σ !=0)=true:=by
  have e:=cmp_eqA hσ;rw[df h0]at e
  unfold bne
  rw[e]
  rfl
 obtain⟨ρ,hρ⟩:∃σ,cmpI (widI (some (a,b))) p60=σ:=⟨_,rfl⟩
 have e1:decide (ρ<=0)=true:=by rw[cmp_leW hρ];exact dt hw
 have mk:mkI (-(PIL+1)) (PIL+1)=some (-(PIL+1),PIL+1):=mkI_some (by decide) (by decide) (by decide)
 have ha:addL [some (a,b),some (a,b)]=addI (some (a,b)) (some (a,b)):=rfl
 clear hw h0;have HQ:=ie hq;have HM:=ie hm;have HX:=ie hx;have HZ:=ie hz;have HR:=ie hr;have HS:=ie hσ;have HE0:=ie e0;have HRO:=ie hρ;have HE1:=ie e1;have HMK:=ie mk;have HAD:=ie ha;have HN:=ie hn;clear hq hm hx hz hr hσ e0 hρ e1 mk ha hn
 go_enter Tryz.func7,Tryz.ntmps7
 go_upto_region 1 with (fail)
 generalize hW1:w.alloc _=w1 at *;obtain⟨X0,HB⟩:=Bo.en1 hW1;replace hT:=hT.below HB.out;replace hT2:=hT2.below HB.out;clear hW1
 go_wp2_with fail
 refine(awake13 HQ.out hT hT2).mono ?_;rintro ee w2 ⟨rfl,B⟩;replace X0:=X0.b B;replace hT:=hT.b B;replace hT2:=hT2.b B;replace HB:=Hqb HB B;clear B;have xX0:=X0.cell
 go_wp2_with fail
 refine(nMay HM.out).mono ?_;rintro ee w3 ⟨rfl,B⟩;clear xX0;replace X0:=X0.b B;replace hT:=hT.b B;replace hT2:=hT2.b B;replace HB:=Hqb HB B;clear B;have xX0:=X0.cell
 go_wp2_with fail
 refine(atAtan HQ.out hT hT2 w0 u0 HX.out HZ.out).mono ?_;rintro ee w4 ⟨e11,K11,s11,M11,E11,K11b,s11b,M11b,E11b,rfl,v11,B⟩;clear xX0;replace X0:=X0.b B;replace hT:=hT.b B;replace hT2:=hT2.b B;replace HB:=Hqb HB B;clear B;have hsz11:=HB.out.size
 go_upto_region 5 with (fail)
 have nX4X0:=X0.lt;generalize hWn:w4.alloc _=w5 at *;obtain⟨X4,BW⟩:=Bo.nw hWn;clear hWn;replace X0:=X0.b BW;replace hT:=hT.b BW;replace hT2:=hT2.b BW;replace HB:=Hqb HB BW;clear BW
 obtain rfl:e11=false:=v11.1
 go_wp2_with fail
 refine(cPi hT).mono ?_;rintro ee w6 ⟨e12,K12,s12,M12,E12,K12b,s12b,M12b,E12b,rfl,v12,B⟩;replace X0:=X0.b B;replace X4:=X4.b B;replace hT:=hT.b B;replace hT2:=hT2.b B;replace HB:=Hqb HB B;clear B;have hsz12:=HB.out.size
 go_upto_region 6 with (fail)
 have nX5X0:=X0.lt;have nX5X4:=X4.lt;generalize hWn:w6.alloc _=w7 at *;obtain⟨X5,BW⟩:=Bo.nw hWn;clear hWn;replace X0:=X0.b BW;replace X4:=X4.b BW;replace hT:=hT.b BW;replace hT2:=hT2.b BW;replace HB:=Hqb HB BW;clear BW
 obtain rfl:e12=false:=v12.1
 obtain⟨_,qa,qb,oab,oa,ob⟩:=v12;have ltX0:=X0.lt;have ltX4:=X4.lt;have ltX5:=X5.lt;refine jk [0,1,2,3,4,5,6,7,8] [some 15,some 16,some 17,some 18,some 19,some 20,some 21,some 22,some 6,none] [[],[0],[1],[],[3],[2,4],[],[5,6],[],[]] 10 1 [Jo.qp w6.heap.size 5,Jo.q4 K12b s12b M12b E12b,Jo.Fact.num (-(PIL+1)),Jo.qp w6.heap.size 5,Jo.q4 K12b s12b M12b E12b,Jo.Fact.iv (some (-(PIL+1),PIL+1)),Jo.Fact.num p60,Jo.Fact.iv (infI (some (-(PIL+1),PIL+1)) p60),Jo.Fact.bo w7.heap.size #[.bool false,.int .i64 0,.bool false,.int .u64 0,.int .i64 0,.int .i64 0,.bool false,.int .u64 0,.int .i64 0] 32,Jo.Fact.any] ?_ ?_
 ·iterate 2 (refine jm ?_ ?_;rotate_left)
  refine jm ?_ ?_
  ·rintro wj hJ _ rfl K hK;simp only[Jo.z]at hK|-;go_simp;exact Jo.n1 (nNeg qb.top (by rw[qb.rk])) hK.out
  iterate 2 (refine jm ?_ ?_;rotate_left)
  refine jm ?_ ?_
  ·rintro wj hJ _ ⟨K20,s20,M20,E20,rfl,q20⟩ _ rfl K hK;simp only[Jo.z]at hK|-;go_simp;exact Jo.v1 (kvMake q20.top qb.top q20.rk qb.rk HMK.out) hK.out
  refine jm ?_ ?_
  ·rintro wj hJ K hK;simp only[Jo.z]at hK|-;go_simp;exact Jo.n1 (aSmall) hK.out
  refine jm ?_ ?_
  ·rintro wj hJ _ ⟨e21,K21,s21,M21,E21,K21b,s21b,M21b,E21b,rfl,v21⟩ _ ⟨K22,s22,M22,E22,rfl,q22⟩ K hK;simp only[Jo.z]at hK|-;go_simp;exact Jo.v1 (kvInflate (hT2.b hJ) v21.top.1 v21.top.2 q22.top v21.rk q22.rk rfl) hK.out
  refine jm ?_ ?_
  ·rintro wj hJ K hK;simp only[Jo.z]at hK|-;go_simp;exact hK.out _ _ ⟨_,rfl,hJ.size,Bo.new _ _ _⟩ (bel1 _ _)
  exact jo
  all_goals (rintro wj hJ;(repeat rintro _ rfl);intro K hK;simp only[Jo.z]at hK|-;have xX5:=(X5.b hJ).cell;go_simp;exact hK.out _ _ rfl (br _ _))
 rintro w8 hJ _ _ _ rfl _ ⟨K20,s20,M20,E20,rfl,_⟩ _ _ _ rfl _ ⟨e21,K21,s21,M21,E21,K21b,s21b,M21b,E21b,rfl,v21⟩ _ ⟨K22,s22,M22,E22,rfl,_⟩ _ ⟨e23,K23,s23,M23,E23,K23b,s23b,M23b,E23b,rfl,v23⟩ _ ⟨g9,rfl,hg9,X9⟩ -;simp only[Jo.z];replace X0:=X0.b hJ;replace X4:=X4.b hJ;replace hT:=hT.b hJ;replace hT2:=hT2.b hJ;replace HB:=Hqb HB hJ
 have xX9:=X9.cell;have zX90:=X9.frozen
 refine jn 9 fun K hK=>?_
 go_simp;refine hK.out _ _ ?_;clear hK K xX9 zX90;generalize hS:((((((((w8.setCell _ _).setCell _ _).setCell _ _).setCell _ _).setCell _ _).setCell _ _).setCell _ _).setCell _ _).setCell _ _=w9 at *;have SX:=StN.of9 X9 hS;replace X0:=X0.s SX;replace X4:=X4.s SX;replace hT:=hT.s SX;replace hT2:=hT2.s SX
 replace HB:=Hqs HB SX (by omega);replace X9:=SX.box;clear SX hS;refine jd ?_;clear v21 qa qb X5
 go_upto_region 7 with (fail)
 have ltX0:=X0.lt;have ltX4:=X4.lt;have ltX9:=X9.lt;refine jk [0,1,2,3,4,5,6,7,8,9,10] [some 23,some 24,some 25,some 26,some 27,some 28,some 29,some 30,some 31,some 32,some 33] [[],[0],[1],[2],[3],[3,4],[3,5],[3],[3,7],[3,6,8],[3,9]] 11 0 [Jo.q4 D0 s0 M0 E0,Jo.qi σ,Jo.qb true,Jo.qb true,Jo.q4 D0 s0 M0 E0,Jo.Fact.num (-x),Jo.Fact.iv (negI (some (a,b))),Jo.q9 false K11 s11 M11 E11 K11b s11b M11b E11b,Jo.Fact.iv (negI (some (a,b))),Jo.qb false,Jo.qb false] ?_ ?_
 ·refine jm ?_ ?_;rotate_left
  refine jm ?_ ?_
  ·rintro wj hJ _ rfl K hK;simp only[Jo.z]at hK|-;go_simp;refine(nSign (σ:=σ) u0 (by rw[HX.out];exact HS.out)).mono ?_;rintro ee wk ⟨rfl,B⟩;exact hK.out _ _ rfl B
  refine jm ?_ ?_
  ·rintro wj hJ _ rfl K hK;simp only[Jo.z]at hK|-;have ht:=HE0.out;go_simp
   exact hK.out _ _ (by first | rfl | (show Value.bool _=Value.bool _;first | (rw[ht];done) | (simp only[ht];done) | simp_all)) (br _ _)
  iterate 2 (refine jm ?_ ?_;rotate_left)
  refine jm ?_ ?_
  ·rintro wj hJ _ rfl _ rfl K hK;simp only[Jo.z]at hK|-;go_simp;exact Jo.n1 (nNeg u0 (by rw[HX.out])) hK.out
  refine jm ?_ ?_
  ·rintro wj hJ _ rfl _ ⟨K30,s30,M30,E30,rfl,q30⟩ K hK;simp only[Jo.z]at hK|-;go_simp;exact Jo.v1 (atAtan HQ.out (hT.b hJ) (hT2.b hJ) q30.nn q30.top q30.rk HN.out) hK.out
  refine jm ?_ ?_;rotate_left
  refine jm ?_ ?_
  ·rintro wj hJ _ rfl _ rfl K hK;simp only[Jo.z]at hK|-;go_simp;exact Jo.v1 (fkNeg v11.top.1 v11.top.2 v11.rk rfl) hK.out
  refine jm ?_ ?_
  ·rintro wj hJ _ rfl _ ⟨e31,K31,s31,M31,E31,K31b,s31b,M31b,E31b,rfl,v31⟩ _ ⟨e32,K32,s32,M32,E32,K32b,s32b,M32b,E32b,rfl,v32⟩ K hK;simp only[Jo.z]at hK|-;obtain⟨rfl,rfl,rfl,rfl,rfl,rfl,rfl,rfl,rfl⟩:=v31.uniq v32;go_simp
   exact hK.out _ _ (by first | rfl | (show Value.bool _=Value.bool _;simp)) (br _ _)
  refine jm ?_ ?_;rotate_left
  exact jo
  all_goals (rintro wj hJ;(repeat rintro _ rfl);intro K hK;simp only[Jo.z]at hK|-;have xX0:=(X0.b hJ).cell;have xX4:=(X4.b hJ).cell;go_simp;exact hK.out _ _ rfl (br _ _))
 rintro wA hJ _ rfl _ rfl _ rfl _ rfl _ rfl _ ⟨K30,s30,M30,E30,rfl,_⟩ _ ⟨e31,K31,s31,M31,E31,K31b,s31b,M31b,E31b,rfl,v31⟩ _ rfl _ ⟨e32,K32,s32,M32,E32,K32b,s32b,M32b,E32b,rfl,v32⟩ _ rfl _ rfl -;simp only[Jo.z];replace X4:=X4.b hJ;replace X9:=X9.b hJ;replace hT2:=hT2.b hJ;replace HB:=Hqb HB hJ;refine jd ?_
 go_upto_region 9 with (fail)
 refine jk [0,1,2,3,4,5,6,7,8,9,10,11,12,13,14,15,16,17,18,19,20,21] [some 34,some 35,some 36,some 37,some 38,some 39,some 40,some 41,some 42,some 43,some 44,some 45,some 46,some 47,some 48,some 49,some 50,some 51,some 52,some 53,some 54,some 2] [[],[0],[1],[1,2],[1,3],[1,4],[5],[6],[6,7],[6],[6,8,9],[6,10],[6,11],[12],[13],[13],[13,14,15],[13,16],[13],[13,17,18],[13,19],[20]] 22 0 [Jo.qb true,Jo.qb true,Jo.qp w4.heap.size 0,Jo.qb false,Jo.qb true,Jo.qb true,Jo.qb true,Jo.q9 false K11 s11 M11 E11 K11b s11b M11b E11b,Jo.Fact.num (widI (some (a,b))),Jo.Fact.num p60,Jo.qi ρ,Jo.qb true,Jo.qb true,Jo.qb true,Jo.q9 false K11 s11 M11 E11 K11b s11b M11b E11b,Jo.q9 false K11 s11 M11 E11 K11b s11b M11b E11b,Jo.Fact.il8 2 [(some (a,b)),(some (a,b))],Jo.Fact.iv (addI (some (a,b)) (some (a,b))),Jo.q9 e23 K23 s23 M23 E23 K23b s23b M23b E23b,Jo.qb true,Jo.qb true,Jo.qb true] ?_ ?_
 ·iterate 3 (refine jm ?_ ?_;rotate_left)
  refine jm ?_ ?_
  ·rintro wj hJ _ rfl _ rfl K hK;simp only[Jo.z]at hK|-;have xX40:=(X4.b hJ).a 0 (.bool false) rfl;go_simp;exact hK.out _ _ rfl (br _ _)
  iterate 4 (refine jm ?_ ?_;rotate_left)
  refine jm ?_ ?_
  ·rintro wj hJ _ rfl _ rfl K hK;simp only[Jo.z]at hK|-;go_simp;exact Jo.n1 (kvWidth (hT2.b hJ) v11.top.1 v11.top.2 v11.rk rfl) hK.out
  refine jm ?_ ?_
  ·rintro wj hJ _ rfl K hK;simp only[Jo.z]at hK|-;go_simp;exact Jo.n1 (aSmall) hK.out
  refine jm ?_ ?_
  ·rintro wj hJ _ rfl _ ⟨K40,s40,M40,E40,rfl,q40⟩ _ ⟨K41,s41,M41,E41,rfl,q41⟩ K hK;simp only[Jo.z]at hK|-;go_simp;refine(nCmp (z:=ρ) q40.top q41.top (by rw[q40.rk,q41.rk];exact HRO.out)).mono ?_;rintro ee wk ⟨rfl,B⟩;exact hK.out _ _ rfl B
  refine jm ?_ ?_
  ·rintro wj hJ _ rfl _ rfl K hK;simp only[Jo.z]at hK|-;have ht:=HE1.out;go_simp
   exact hK.out _ _ (by first | rfl | (show Value.bool _=Value.bool _;first | (rw[ht];done) | (simp only[ht];done) | simp_all)) (br _ _)
  iterate 4 (refine jm ?_ ?_;rotate_left)
  refine jm ?_ ?_
  ·rintro wj hJ _ rfl _ rfl _ rfl K hK;simp only[Jo.z]at hK|-;go_simp;exact hK.out _ _ ⟨_,2,rfl,Il8.lit2 rfl v11.rw v11.rw⟩ (bel1 _ _)
  refine jm ?_ ?_
  ·rintro wj hJ _ rfl _ ⟨A45,c45,rfl,h45⟩ K hK;simp only[Jo.z]at hK|-;go_simp;exact Jo.v1 (fkAdd (hT2.b hJ) h45 HAD.out) hK.out
  refine jm ?_ ?_;rotate_left
  refine jm ?_ ?_
  ·rintro wj hJ _ rfl _ ⟨e42,K42,s42,M42,E42,K42b,s42b,M42b,E42b,rfl,v42⟩ _ rfl K hK;simp only[Jo.z]at hK|-;go_simp;refine(kvWithin v42.top.1 v42.top.2 v23.top.1 v23.top.2 v42.rk v23.rk HR.out).mono ?_;rintro ee wk ⟨rfl,B⟩;exact hK.out _ _ rfl B
  iterate 2 (refine jm ?_ ?_;rotate_left)
  exact jo
  all_goals (rintro wj hJ;(repeat rintro _ rfl);intro K hK;simp only[Jo.z]at hK|-;have xX4:=(X4.b hJ).cell;have xX9:=(X9.b hJ).cell;go_simp;exact hK.out _ _ rfl (br _ _))
 rintro wB hJ _ rfl _ rfl _ _ _ rfl _ rfl _ rfl _ rfl _ rfl _ ⟨K40,s40,M40,E40,rfl,_⟩ _ ⟨K41,s41,M41,E41,rfl,_⟩ _ rfl _ rfl _ rfl _ rfl _ rfl _ rfl _ ⟨_,_,rfl,_⟩ _ ⟨e42,K42,s42,M42,E42,K42b,s42b,M42b,E42b,rfl,v42⟩ _ rfl _ rfl _ rfl _ rfl -;simp only[Jo.z];replace HB:=Hqb HB hJ;refine jd ?_;go_wp2
 go_ret
 exact⟨rfl,HB.out⟩
theorem atanTight_walk (D0:Int)(s0:Bool)(M0 E0:Int)(w:World)(hT:Tab w)(hT2:Tb w)(w0:0<=M0)(u0:LQ M0):
  Calls Tryz.prog 7 #[VQ D0 s0 M0 E0] w fun e w'=>e= .returned (.bool true)/\Below w.heap.size w w':=by
 delta VQ
 obtain⟨q,hq⟩:=qf_ex;obtain⟨x,hx⟩:∃x,rk D0 s0 M0 E0=x:=⟨_,rfl⟩;have bd:=rk_bd (K:=D0) (s:=s0) (E:=E0) u0;rw[hx]at bd
 cases hm:decide (MayQ D0 s0 M0 E0)
 ·exact atanTight_no D0 s0 M0 E0 w hq hT hT2 hm
 ·obtain⟨Z,hZ⟩:=atv_ex q x;have hr:=at_room hq hZ bd.1 bd.2;obtain⟨a,b,rfl,_,_,_,hw⟩:=hZ.tight hq bd.1 bd.2
  by_cases h0:x=0
  ·exact atanTight_zero D0 s0 M0 E0 w hq hT hT2 w0 u0 x a b hm hx hZ hw hr h0
  ·obtain⟨N,hN⟩:=atv_ex q (-x);have e:=atv_neg hq hZ hN h0 bd.1 bd.2;subst e;exact atanTight_any D0 s0 M0 E0 w hq hT hT2 w0 u0 x a b hm hx hZ hw hr h0 hN
