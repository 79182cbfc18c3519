/-
  The walk of TrigPoints: for all arguments the call answers true, and nothing that was there has turned.
-/
import Derived.Test.YtomikokonmikgaaGreatDoorYPau
namespace Go.Proofs.YtomikokonmikgaaGreatDoor
set_option maxHeartbeats 16000000
open Go.RowKit
set_option linter.unusedVariables false
set_option linter.unusedSimpArgs false
set_option maxRecDepth 100000
set_option maxRecDepth 100000 in
theorem trigPoints_far (D0:Int)(s0:Bool)(M0 E0:Int)(s1:Bool)(a1:Option Addr)(len1 cap1:Nat)(w:World)(hT:Tab w)(hT2:Tb w)(hf:20 < len1):
  Calls Tryz.prog 3 #[VQ D0 s0 M0 E0,.agg #[.bool s1,.slice a1 len1 cap1]] w (PB w true):=by
 delta VQ
 go_enter Tryz.func3,Tryz.ntmps3
 go_upto_region 1 with (fail)
 generalize hW1:(w.alloc _).alloc _=w1 at *;obtain⟨X0,X1,HB⟩:=Bo.en2 hW1;replace hT:=hT.below HB.out;replace hT2:=hT2.below HB.out;clear hW1
 go_wp2_with fail
 refine(awake12 hT hT2).mono ?_;rintro ee w2 ⟨rfl,B⟩;replace X1:=X1.b B;replace HB:=Hqb HB B;clear B;clear hT hT2;have xX1:=X1.cell;go_wp2
 go_ret
 exact⟨rfl,HB.out⟩
set_option maxRecDepth 100000 in
theorem trigPoints_main (D0:Int)(s0:Bool)(M0 E0:Int)(s1:Bool)(a1:Option Addr)(len1 cap1:Nat)(w:World)(hT:Tab w)(hT2:Tb w)(w0:0<=M0)(u0:LQ M0)(x y r:Int)(Zs Zc:Sp)(hx:rk D0 s0 M0 E0=x)(hs:Sv false x Zs)(hc:Sv true x Zc)(h1:Wr w s1 a1 len1 cap1 y)(l1:len1<=20)(hr:serI y=r):
  Calls Tryz.prog 3 #[VQ D0 s0 M0 E0,.agg #[.bool s1,.slice a1 len1 cap1]] w (PB w true):=by
 delta VQ
 have t1:¬(20:Int) < len1:=by omega
 have HX:=ie hx;have HS:=ie hs;have HC:=ie hc;have HR:=ie hr;clear hx hs hc hr
 go_enter Tryz.func3,Tryz.ntmps3
 go_upto_region 1 with (fail)
 generalize hW1:(w.alloc _).alloc _=w1 at *;obtain⟨X0,X1,HB⟩:=Bo.en2 hW1;replace hT:=hT.below HB.out;replace hT2:=hT2.below HB.out;replace h1:=h1.below HB.out;clear hW1
 go_wp2_with fail
 refine(awake12 hT hT2).mono ?_;rintro ee w2 ⟨rfl,B⟩;replace X0:=X0.b B;replace X1:=X1.b B;replace hT:=hT.b B;replace h1:=h1.b B;replace HB:=Hqb HB B;clear B;have xX1:=X1.cell
 go_upto_region 4 with (fail)
 clear t1;clear xX1;have ltX0:=X0.lt;have ltX1:=X1.lt;refine jk [0,1,2,3,4,5] [some 17,some 18,some 19,some 20,some 21,some 6] [[],[0],[],[2],[1,3],[4]] 6 0 [Jo.Fact.eq (.agg #[.bool s1,.slice a1 len1 cap1]),Jo.Fact.wn (r) (300000),Jo.Fact.eq (.agg #[.bool s1,.slice a1 len1 cap1]),Jo.Fact.wn (r) (300000),Jo.qb true,Jo.qb true] ?_ ?_
 ·refine jm ?_ ?_;rotate_left
  refine jm ?_ ?_
  ·rintro wj hJ _ rfl K hK;simp only[Jo.z]at hK|-;go_simp;exact Jo.w1 (tSer (h1.b hJ) (by omega) HR.out) hK.out
  refine jm ?_ ?_;rotate_left
  refine jm ?_ ?_
  ·rintro wj hJ _ rfl K hK;simp only[Jo.z]at hK|-;go_simp;exact Jo.w1 (jSeries (h1.b hJ) (by omega) HR.out) hK.out
  refine jm ?_ ?_
  ·rintro wj hJ _ ⟨s20,A20,n20,c20,rfl,p20,k20⟩ _ ⟨s21,A21,n21,c21,rfl,p21,k21⟩ K hK;simp only[Jo.z]at hK|-;go_simp;refine(qAlike p20 p21).mono ?_;rintro ee wk ⟨rfl,B⟩;exact hK.out _ _ rfl B
  refine jm ?_ ?_;rotate_left
  exact jo
  all_goals (rintro wj hJ;(repeat rintro _ rfl);intro K hK;simp only[Jo.z]at hK|-;have xX1:=(X1.b hJ).cell;go_simp;exact hK.out _ _ rfl (br _ _))
 rintro w3 hJ _ rfl _ ⟨s20,A20,n20,c20,rfl,p20,k20⟩ _ rfl _ ⟨s21,A21,n21,c21,rfl,p21,k21⟩ _ rfl _ rfl -;simp only[Jo.z];replace X0:=X0.b hJ;replace hT:=hT.b hJ;replace HB:=Hqb HB hJ;refine jd ?_;clear p20 p21 h1
 go_upto_region 5 with (fail)
 refine jk [0,1,2,3,4,5,6,7,8,9,10,11,12,13,14,15] [some 22,some 23,some 24,some 25,some 26,some 27,some 28,some 29,some 30,some 31,some 32,some 33,some 34,some 35,some 36,some 4] [[],[0],[1],[1,2],[1],[1,4],[1,3,5],[1,6],[7],[8],[8,9],[8],[8,11],[8,10,12],[8,13],[14]] 16 0 [Jo.qb true,Jo.qb true,Jo.q4 D0 s0 M0 E0,Jo.Fact.iv Zs,Jo.q4 D0 s0 M0 E0,Jo.Fact.iv Zs,Jo.qb true,Jo.qb true,Jo.qb true,Jo.q4 D0 s0 M0 E0,Jo.Fact.iv Zc,Jo.q4 D0 s0 M0 E0,Jo.Fact.iv Zc,Jo.qb true,Jo.qb true,Jo.qb true] ?_ ?_
 ·iterate 3 (refine jm ?_ ?_;rotate_left)
  refine jm ?_ ?_
  ·rintro wj hJ _ rfl _ rfl K hK;simp only[Jo.z]at hK|-;go_simp;exact Jo.v1 (tSin (hT.b hJ) w0 u0 HX.out HS.out) hK.out
  refine jm ?_ ?_;rotate_left
  refine jm ?_ ?_
  ·rintro wj hJ _ rfl _ rfl K hK;simp only[Jo.z]at hK|-;go_simp;exact Jo.v1 (jSin u0 HX.out HS.out) hK.out
  refine jm ?_ ?_
  ·rintro wj hJ _ rfl _ ⟨e20,K20,s20,M20,E20,K20b,s20b,M20b,E20b,rfl,v20⟩ _ ⟨e21,K21,s21,M21,E21,K21b,s21b,M21b,E21b,rfl,v21⟩ K hK;simp only[Jo.z]at hK|-;obtain⟨rfl,rfl,rfl,rfl,rfl,rfl,rfl,rfl,rfl⟩:=v20.uniq v21;go_simp
   exact hK.out _ _ (by first | rfl | (show Value.bool _=Value.bool _;simp)) (br _ _)
  iterate 3 (refine jm ?_ ?_;rotate_left)
  refine jm ?_ ?_
  ·rintro wj hJ _ rfl _ rfl K hK;simp only[Jo.z]at hK|-;go_simp;exact Jo.v1 (tCos (hT.b hJ) w0 u0 HX.out HC.out) hK.out
  refine jm ?_ ?_;rotate_left
  refine jm ?_ ?_
  ·rintro wj hJ _ rfl _ rfl K hK;simp only[Jo.z]at hK|-;go_simp;exact Jo.v1 (jCos u0 HX.out HC.out) hK.out
  refine jm ?_ ?_
  ·rintro wj hJ _ rfl _ ⟨e22,K22,s22,M22,E22,K22b,s22b,M22b,E22b,rfl,v22⟩ _ ⟨e23,K23,s23,M23,E23,K23b,s23b,M23b,E23b,rfl,v23⟩ K hK;simp only[Jo.z]at hK|-;obtain⟨rfl,rfl,rfl,rfl,rfl,rfl,rfl,rfl,rfl⟩:=v22.uniq v23;go_simp
   exact hK.out _ _ (by first | rfl | (show Value.bool _=Value.bool _;simp)) (br _ _)
  iterate 2 (refine jm ?_ ?_;rotate_left)
  exact jo
  all_goals (rintro wj hJ;(repeat rintro _ rfl);intro K hK;simp only[Jo.z]at hK|-;have xX0:=(X0.b hJ).cell;go_simp;exact hK.out _ _ rfl (br _ _))
 rintro w4 hJ _ rfl _ rfl _ rfl _ ⟨e20,K20,s20,M20,E20,K20b,s20b,M20b,E20b,rfl,v20⟩ _ rfl _ ⟨e21,K21,s21,M21,E21,K21b,s21b,M21b,E21b,rfl,v21⟩ _ rfl _ rfl _ rfl _ rfl _ ⟨e22,K22,s22,M22,E22,K22b,s22b,M22b,E22b,rfl,v22⟩ _ rfl _ ⟨e23,K23,s23,M23,E23,K23b,s23b,M23b,E23b,rfl,v23⟩ _ rfl _ rfl _ rfl -;simp only[Jo.z];replace HB:=Hqb HB hJ;refine jd ?_
 go_wp2
 go_ret
 exact⟨rfl,HB.out⟩
theorem trigPoints_walk (D0:Int)(s0:Bool)(M0 E0:Int)(s1:Bool)(a1:Option Addr)(len1 cap1:Nat)(y1:List Int)(w:World)(hT:Tab w)(hT2:Tb w)(w0:0<=M0)(u0:LQ M0)(w1:RowIn w a1 len1 cap1 y1):
  Calls Tryz.prog 3 #[VQ D0 s0 M0 E0,.agg #[.bool s1,.slice a1 len1 cap1]] w fun e w'=>e= .returned (.bool true)/\Below w.heap.size w w':=by
 delta VQ
 by_cases l1:len1<=20
 ·obtain⟨y1',r1⟩:=w1.rd (by omega);obtain⟨Zs,hs⟩:=sv_ex false (rk D0 s0 M0 E0);obtain⟨Zc,hc⟩:=sv_ex true (rk D0 s0 M0 E0);exact trigPoints_main D0 s0 M0 E0 s1 a1 len1 cap1 w hT hT2 w0 u0 _ _ _ Zs Zc rfl hs hc (r1.wr s1) l1 rfl
 ·exact trigPoints_far D0 s0 M0 E0 s1 a1 len1 cap1 w hT hT2 (by omega)
