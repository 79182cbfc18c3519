/-
 Contracts that the proof rests on.
-/
import Derived.Test.YtomikokonmikgaaGreatDoorYPas
namespace Go.Proofs.YtomikokonmikgaaGreatDoor
set_option maxHeartbeats 8000000
open Go.RowKit
set_option linter.unusedVariables false
set_option linter.unusedSimpArgs false
set_option maxRecDepth 100000
theorem cScale{w:World}:Calls Tryz.prog 53 #[] w (W1 w 8 SC):=by
 go_enter Tryz.func53,Tryz.ntmps53
 go_upto_region 1 with (fail)
 generalize hW1:w.alloc _=w1 at *;obtain⟨XR,HB⟩:=Bo.en1 hW1;clear hW1
 go_wp2_with fail
 refine(vShl (a:=1) 192 ⟨_,[1],one_limb w1,rfl⟩ (by decide) (by decide)).mono ?_;rintro ee w2 ⟨A2,n2,c2,rfl,p2,k2,B⟩;replace B:=bt (bel1 _ (.cells #[.int .u32 1] 92)) B;replace XR:=XR.b B;replace HB:=Hqb HB B;clear B
 go_wp2_with fail
 refine(wMake false p2.rd).mono ?_;rintro ee w3 ⟨s3,A3,n3,c3,rfl,p3,k3,B⟩;replace XR:=XR.b B;replace HB:=Hqb HB B;clear B;clear p2
 replace p3:Wn w3 s3 A3 n3 c3 SC:=by rw[show SC=sg false (1*2^192) by decide];exact p3
 have xXR:=XR.cell;have zXR0:=XR.frozen;go_wp2;clear xXR zXR0;have SX:=StN.t2 XR s3 A3 n3 c3;replace p3:=p3.s SX;exact bq (v:= .agg #[.bool s3,.slice A3 n3 c3]) (by simp[results,Tryz.results53,go_sem,SX.box.cell]) rfl ⟨s3,A3,n3,c3,rfl,p3,by omega,(SX.below HB.out (by omega))⟩
theorem cPiece{w:World}{A:Option Addr}{n c K:Nat}{zs:List Int}{y q:Int}(h:Wl w A n c K zs)(hK:1+n*K<=1000)(hy:prd zs=y)(h0:y≠0)(hq:SC.fdiv y=q):Calls Tryz.prog 253 #[.slice A n c] w (W1 w 2000 q):=by
 go_enter Tryz.func253,Tryz.ntmps253
 go_upto_region 1 with (fail)
 generalize hW1:w.alloc _=w1 at *;obtain⟨XR,HB⟩:=Bo.en1 hW1;replace h:=h.below HB.out;clear hW1
 go_wp2_with fail
 refine(cScale).mono ?_;rintro ee w2 ⟨s2,A2,n2,c2,rfl,p2,k2,B⟩;replace XR:=XR.b B;replace h:=h.b B;replace HB:=Hqb HB B;clear B
 go_wp2_with fail
 refine(wMul h (by omega) hy).mono ?_;rintro ee w3 ⟨s3,A3,n3,c3,rfl,p3,k3,B⟩;replace XR:=XR.b B;replace p2:=p2.b B;replace HB:=Hqb HB B;clear B;clear h
 go_wp2_with fail
 refine(wDiv p2.wr p3.wr (by omega) (by omega) h0 hq rfl).mono ?_;rintro ee w4 ⟨s8,A8,n8,c8,s9,A9,n9,c9,rfl,p8,p9,k8,k9,B⟩;replace XR:=XR.b B;replace HB:=Hqb HB B;clear B;clear p2 p3
 go_upto_region 2 with (fail)
 have e4X6:(World.alloc w4 (.cells #[.bool s8,.slice A8 n8 c8] 27)).heap.size=w4.heap.size+1:=by simp
 have nX5XR:=XR.lt;have BX:=bel1 w4 (.cells #[.bool s8,.slice A8 n8 c8] 27);replace XR:=XR.b BX;replace p8:=p8.b BX;replace HB:=ie (bt HB.out BX);have X5:=Bo.new w4 #[.bool s8,.slice A8 n8 c8] 27;generalize hWn:World.alloc w4 (.cells #[.bool s8,.slice A8 n8 c8] 27)=w5 at *;clear hWn
 have nX6XR:=XR.lt;have nX6X5:=X5.lt;generalize hWn:w5.alloc _=w6 at *;obtain⟨X6,BW⟩:=Bo.nw hWn;clear hWn;replace XR:=XR.b BW;replace X5:=X5.b BW;replace p8:=p8.b BW;replace HB:=Hqb HB BW;clear BW;rw[e4X6]at X6;clear e4X6;clear p9;have xXR:=XR.cell;have zXR0:=XR.frozen;have xX5:=X5.cell;go_wp2;clear xXR zXR0 xX5
 have SX:=StN.t2 XR s8 A8 n8 c8;replace p8:=p8.s SX;exact bq (v:= .agg #[.bool s8,.slice A8 n8 c8]) (by simp[results,Tryz.results253,go_sem,SX.box.cell]) rfl ⟨s8,A8,n8,c8,rfl,p8,by omega,(SX.below HB.out (by omega))⟩
def PNx (w:World)(gp go:Nat)(T P O:Int)(e:Ending)(w':World):Prop:=∃s A n c s6 A6 n6 c6,e= .returned (.agg #[.bool s,.slice A n c])/\Wn w' s A n c T/\n<=8/\Bo w' gp #[.bool s6,.slice A6 n6 c6] 27/\Wn w' s6 A6 n6 c6 P/\n6<=10/\Bo w' go #[.int .i64 O] 3/\Duo gp go w w'
theorem cNext{w:World}{gp go gb k:Nat}{s6 s7:Bool}{A6 A7:Option Addr}{n6 c6 n7 c7:Nat}{p n T:Int}(XP:Bo w gp #[.bool s6,.slice A6 n6 c6] 27)(XO:Bo w go #[.int .i64 (2*(k:Int)+1)] 3)(XB:Bo w gb #[.bool s7,.slice A7 n7 c7] 27)(p6:Wn w s6 A6 n6 c6 p)(p7:Wn w s7 A7 n7 c7 n)(k6:n6<=10)(k7:n7<=2)(hpo:gp≠go)(hpb:gp≠gb)(hob:go≠gb)
  (hk:k<=1000) (hp:0 < p) (hp2:p<=SC*1000000) (h1:2<=n) (h2:n<=1000) (hT:SC.fdiv (p*(2*(k:Int)+1))=T):
  Calls Tryz.prog 252 #[.pointer (some ⟨gp,0,none⟩),.pointer (some ⟨go,0,none⟩),.pointer (some ⟨gb,0,none⟩)] w (PNx w gp go T (p*(n*n)) (2*(k:Int)+3)):=by
 have HT:=ie hT
 have HY:Hid (prd [p,2*(k:Int)+1]=p*(2*(k:Int)+1)):=ie (by show 1*p*(2*(k:Int)+1)=_;rw[Int.one_mul])
 have H0:Hid (p*(2*(k:Int)+1)≠0):=ie (by have:=Int.mul_pos hp (show (0:Int) < 2*(k:Int)+1 by omega);omega)
 have HM:Hid (prd [p,n,n]=p*(n*n)):=ie (by show 1*p*n*n=_;rw[Int.one_mul,Int.mul_assoc])
 have HTB:=ie (term_bd hp hT);have HPB:=ie (power_bd hp hp2 h1 h2)
 have HW1:Hid (IntKind.i64.wrap (2*(k:Int)+1+2)=2*(k:Int)+3):=ie (by rw[show 2*(k:Int)+1+2=2*(k:Int)+3 by omega];exact IntWalk.i64_in _ (by omega))
 have HW2:Hid (wrap64 (2*(k:Int)+1+2)=2*(k:Int)+3):=ie (by rw[show 2*(k:Int)+1+2=2*(k:Int)+3 by omega];exact IntWalk.wrap64_in _ (by omega))
 have HK:Hid (2*(k:Int)+1<=3000):=ie (by omega)
 have G1:=XP.lt;have G2:=XO.lt;have G3:=XB.lt;clear hT hp hp2 h1 h2
 go_enter Tryz.func252,Tryz.ntmps252
 go_upto_region 1 with (fail)
 have XR:=Bo.newAt w (g:=w.heap.size) rfl #[.bool false,.slice none 0 0] 27
 have HB:Hid (Duo gp go w (World.alloc w (.cells #[.bool false,.slice none 0 0] 27))):=ie (.of (bel1 w (.cells #[.bool false,.slice none 0 0] 27)))
 replace XP:=XP.below (bel1 w (.cells #[.bool false,.slice none 0 0] 27));replace XO:=XO.below (bel1 w (.cells #[.bool false,.slice none 0 0] 27));replace XB:=XB.below (bel1 w (.cells #[.bool false,.slice none 0 0] 27));replace p6:=p6.below (bel1 w (.cells #[.bool false,.slice none 0 0] 27));replace p7:=p7.below (bel1 w (.cells #[.bool false,.slice none 0 0] 27));generalize hW1:World.alloc w (.cells #[.bool false,.slice none 0 0] 27)=w1 at *
 clear hW1;have ltXP:=XP.lt;have ltXO:=XO.lt;have ltXB:=XB.lt;have ltXR:=XR.lt;refine jk [0,1,2,3,4,5] [some 5,some 6,some 7,some 8,some 9,some 4,none] [[],[],[1],[0,2],[3],[],[]] 7 1 [Jo.Fact.eq (.agg #[.bool s6,.slice A6 n6 c6]),Jo.Fact.eq (.int .i64 (2*(k:Int)+1)),Jo.Fact.wn (2*(k:Int)+1) (2),Jo.Fact.wl 10 2 [p,2*(k:Int)+1],Jo.Fact.wn (T) (8),Jo.Fact.bo w1.heap.size #[.bool false,.slice none 0 0] 27,Jo.Fact.any] ?_ ?_
 ·refine jm ?_ ?_
  ·rintro wj hJ K hK;simp only[Jo.z]at hK|-;have xXP:=(XP.b hJ).cell;go_simp;exact hK.out _ _ rfl (br _ _)
  refine jm ?_ ?_
  ·rintro wj hJ K hK;simp only[Jo.z]at hK|-;have xXO0:=(XO.b hJ).a 0 (.int .i64 (2*(k:Int)+1)) rfl;go_simp;exact hK.out _ _ rfl (br _ _)
  refine jm ?_ ?_
  ·rintro wj hJ _ rfl K hK;simp only[Jo.z]at hK|-;go_simp;exact Jo.w1 (wFrom _ _ (by omega) (by omega)) hK.out
  refine jm ?_ ?_
  ·rintro wj hJ _ rfl _ ⟨s20,A20,n20,c20,rfl,p20,k20⟩ K hK;simp only[Jo.z]at hK|-;go_simp;exact hK.out _ _ ⟨_,_,rfl,Wl.lit2 rfl (p6.b hJ).wr p20.wr (by omega) (by omega)⟩ (bel1 _ _)
  refine jm ?_ ?_
  ·rintro wj hJ _ ⟨A25,c25,rfl,h25⟩ K hK;simp only[Jo.z]at hK|-;go_simp;refine(cPiece h25 (by decide) HY.out H0.out HT.out).mono ?_;rintro ee wk ⟨s21,A21,n21,c21,rfl,p21,k21,B⟩;exact hK.out _ _ ⟨s21,A21,n21,c21,rfl,p21,(p21.fits (small8 HTB.out))⟩ B
  refine jm ?_ ?_
  ·rintro wj hJ K hK;simp only[Jo.z]at hK|-;go_simp;exact hK.out _ _ ⟨_,rfl,hJ.size,Bo.new _ _ _⟩ (bel1 _ _)
  exact jo
 rintro w2 hJ _ rfl _ rfl _ ⟨s20,A20,n20,c20,rfl,p20,k20⟩ _ ⟨_,_,rfl,_⟩ _ ⟨s21,A21,n21,c21,rfl,p21,k21⟩ _ ⟨g8,rfl,hg8,X8⟩ -;simp only[Jo.z];replace XP:=XP.b hJ;replace XO:=XO.b hJ;replace XB:=XB.b hJ;replace XR:=XR.b hJ;replace p6:=p6.b hJ;replace p7:=p7.b hJ;replace HB:=ie (HB.out.mv hJ);have xX8:=X8.cell;have zX80:=X8.frozen
 refine jn 6 fun K hK=>?_
 go_simp;refine hK.out _ _ ?_;clear hK K xX8 zX80;generalize hS:(w2.setCell _ _).setCell _ _=w3 at *;have SX:=StN.of2 X8 hS;replace XP:=XP.s SX;replace XO:=XO.s SX;replace XB:=XB.s SX;replace XR:=XR.s SX;replace p6:=p6.s SX;replace p7:=p7.s SX;replace p21:=p21.s SX
 replace HB:=ie (HB.out.stn SX (by omega));replace X8:=SX.box;clear SX hS;refine jd ?_;have xXP:=XP.cell;have xXB:=XB.cell
 go_wp2_with fail
 refine(wMul (Wl.lit3 (K:=10) rfl p6.wr p7.wr p7.wr (by omega) (by omega) (by omega)) (by decide) HM.out).mono ?_;rintro ee w4 ⟨s22,A22,n22,c22,rfl,p22,k22,B⟩;replace B:=bt (bel1 _ _) B;clear xXP xXB;replace XP:=XP.b B;replace XO:=XO.b B;replace XR:=XR.b B;replace X8:=X8.b B;replace p21:=p21.b B;replace HB:=ie (HB.out.mv B);clear B p6 p7
 replace k22:n22<=10:=p22.fits (small10 HPB.out)
 have xXP:=XP.cell;have zXP0:=XP.frozen
 go_upto_region 3 with (fail)
 clear xXP zXP0;generalize hS:(w4.setCell _ _).setCell _ _=w5 at *;have SX:=StN.of2 XP hS;replace XO:=XO.s SX;replace XR:=XR.s SX;replace X8:=X8.s SX;replace p21:=p21.s SX;replace p22:=p22.s SX;replace HB:=ie (HB.out.stn SX (by omega));replace XP:=SX.box;clear SX hS;have hw1:=HW1.out
 have hw2:=HW2.out;have xXO0:=XO.a 0 (.int .i64 (2*(k:Int)+1)) rfl;have zXO0:=XO.frozen 0
 go_upto_region 4 with (fail)
 clear hw1 hw2;clear xXO0 zXO0
 have SX:StN w5 (World.setCell w5 ⟨go,0,none⟩ (.int .i64 (2*(k:Int)+3))) _ _ #[.int .i64 (2*(k:Int)+3)] _:=StN.at4 XO 0 (.int .i64 (2*(k:Int)+3))
 replace XP:=XP.s SX;replace XR:=XR.s SX;replace X8:=X8.s SX;replace p21:=p21.s SX;replace p22:=p22.s SX;replace HB:=ie (HB.out.stn SX (by omega));replace XO:=SX.box;clear SX;generalize World.setCell w5 ⟨go,0,none⟩ (.int .i64 (2*(k:Int)+3))=w6 at *;have xXR:=XR.cell;have zXR0:=XR.frozen
 have xX8:=X8.cell;go_wp2;clear xXR zXR0 xX8;generalize hS:(w6.setCell _ _).setCell _ _=w7 at *;have SX:=StN.of2 XR hS;replace XP:=XP.s SX;replace XO:=XO.s SX;replace p21:=p21.s SX;replace p22:=p22.s SX;replace HB:=ie (HB.out.stn SX (by omega));replace XR:=SX.box;clear SX hS;exact bq (v:= .agg #[.bool s21,.slice A21 n21 c21]) (by simp[results,Tryz.results252,go_sem,XR.cell]) rfl ⟨s21,A21,n21,c21,s22,A22,n22,c22,rfl,p21,k21,XP,p22,k22,XO,HB.out⟩
theorem cTerms{w:World}{n:Int}(h1:2<=n)(h2:n<=1000):Calls Tryz.prog 227 #[.int .i64 n] w (fun e w'=>∃gp go gb s6 A6 n6 c6 s7 A7 n7 c7,e= .returned (.func (.func 252) #[] #[.pointer (some ⟨gp,0,none⟩),.pointer (some ⟨go,0,none⟩),.pointer (some ⟨gb,0,none⟩)])/\Bo w' gp #[.bool s6,.slice A6 n6 c6] 27/\Bo w' go #[.int .i64 1] 3/\Bo w' gb #[.bool s7,.slice A7 n7 c7] 27/\Wn w' s6 A6 n6 c6 n/\Wn w' s7 A7 n7 c7 n/\n6<=2/\n7<=2/\gp≠go/\gp≠gb/\go≠gb/\w.heap.size<=gp/\w.heap.size<=go/\Below w.heap.size w w'):=by
 have hmf:∀(fn:Fn) (first cap:Array Value) (w:World),(Instr.makeFunc fn first cap).run Tryz.prog w= .ok (.func fn first cap) w:=fun _ _ _ _=>rfl
 have HB:=ie (Below.refl w.heap.size w)
 go_enter Tryz.func227,Tryz.ntmps227
 go_wp2_with fail
 refine(wFrom n _ (by omega) (by omega)).mono ?_;rintro ee w2 ⟨s7,A7,n7,c7,rfl,p7,k7,B⟩;replace HB:=Hqb HB B;clear B
 go_wp2_with fail
 refine(wFrom n _ (by omega) (by omega)).mono ?_;rintro ee w3 ⟨s6,A6,n6,c6,rfl,p6,k6,B⟩;replace p7:=p7.b B;replace HB:=Hqb HB B;clear B;have hsz:=HB.out.size
 go_upto_region 2 with (fail)
 have e4XP:(World.alloc w3 (.cells #[.bool s7,.slice A7 n7 c7] 27)).heap.size=w3.heap.size+1:=by simp
 have e4XO:(World.alloc (World.alloc w3 (.cells #[.bool s7,.slice A7 n7 c7] 27)) (.cells #[.bool s6,.slice A6 n6 c6] 27)).heap.size=w3.heap.size+1+1:=by simp
 have BX:=bel1 w3 (.cells #[.bool s7,.slice A7 n7 c7] 27);replace p6:=p6.b BX;replace p7:=p7.b BX;replace HB:=ie (bt HB.out BX);have XB:=Bo.new w3 #[.bool s7,.slice A7 n7 c7] 27;generalize hWn:World.alloc w3 (.cells #[.bool s7,.slice A7 n7 c7] 27)=w4 at *;clear hWn;have nXPXB:=XB.lt
 generalize hWn:w4.alloc _=w5 at *;obtain⟨XP,BW⟩:=Bo.nw hWn;clear hWn;replace XB:=XB.b BW;replace p6:=p6.b BW;replace p7:=p7.b BW;replace HB:=Hqb HB BW;clear BW;have nXOXB:=XB.lt;have nXOXP:=XP.lt;generalize hWn:w5.alloc _=w6 at *;obtain⟨XO,BW⟩:=Bo.nw hWn;clear hWn;replace XB:=XB.b BW;replace XP:=XP.b BW;replace p6:=p6.b BW
 replace p7:=p7.b BW;replace HB:=Hqb HB BW;clear BW;rw[e4XP]at XP;rw[e4XO]at XO;go_wp2;exact bq (v:= .func (.func 252) #[] #[.pointer (some ⟨w3.heap.size+1,0,none⟩),.pointer (some ⟨w3.heap.size+1+1,0,none⟩),.pointer (some ⟨w3.heap.size,0,none⟩)]) (by simp[results,Tryz.results227,go_sem]) rfl ⟨_,_,_,_,_,_,_,_,_,_,_,rfl,XP,XO,XB,p6,p7,k6,k7,by omega,by omega,by omega,by omega,by omega,HB.out⟩
def AInv (w:World)(n:Int)(R:Int × Nat)(gp go gb gs:Nat)(s7:Bool)(A7:Option Addr)(n7 c7 k gt:Nat)(wr:World):Prop:=∃(s p T:Int) (s4:Bool) (A4:Option Addr) (n4 c4:Nat) (s5:Bool) (A5:Option Addr) (n5 c5:Nat) (s6:Bool) (A6:Option Addr) (n6 c6:Nat),
 Bo wr w.heap.size #[.bool false,.slice none 0 0] 27/\Bo wr gs #[.bool s4,.slice A4 n4 c4] 27/\Bo wr gt #[.bool s5,.slice A5 n5 c5] 27/\Bo wr gp #[.bool s6,.slice A6 n6 c6] 27/\Bo wr go #[.int .i64 (2*(k:Int)+3)] 3/\Bo wr gb #[.bool s7,.slice A7 n7 c7] 27/\
 Wn wr s4 A4 n4 c4 s/\Wn wr s5 A5 n5 c5 T/\Wn wr s6 A6 n6 c6 (p*(n*n))/\Wn wr s7 A7 n7 c7 n/\n4<=1000*k/\n5<=8/\n6<=10/\k<=100/\w.heap.size < gt/\gs≠gt/\(2:Int)^(2*k+1)<=p/\p<=SC*1000000/\invG n (200-k) k s p=R/\SC.fdiv (p*(2*(k:Int)+1))=T/\Duo gp go w wr
def PAl (w:World)(gp go:Nat)(R:Int × Nat)(e:Ending)(w':World):Prop:=∃s A m c,e= .returned (.tuple #[.agg #[.bool s,.slice A m c],.int .i64 (R.2:Int)])/\Wn w' s A m c R.1/\m<=200000/\R.2<=100/\Duo gp go w w'
theorem pow_pos2{k:Nat}{p:Int}(h:(2:Int)^(2*k+1)<=p):0 < p:=Int.lt_of_lt_of_le (Int.pow_pos (by decide)) h
theorem next_bd{p n T:Int}{k:Nat}(hp:(2:Int)^(2*k+1)<=p)(hT:SC.fdiv (p*(2*(k:Int)+1))=T)(h1:2<=n)(h2:n<=1000)(hc:T≠0):p*(n*n)<=SC*1000000:=by
 have a:=pow_pos2 hp;have b:=term_le a hT hc
 have d:n*n<=1000*1000:=Int.mul_le_mul h2 h2 (by omega) (by decide)
 exact Int.mul_le_mul b (by omega) (Int.mul_nonneg (by omega) (by omega)) (by decide)
theorem sum_step{R:Int × Nat}{n p s T:Int}{k f:Nat}(h:invG n f (k+1) (if k%2=1 then s+ -T else s+T) p=R):(k%2=1->invG n f (k+1) (s-T) p=R)/\(¬k%2=1->invG n f (k+1) (s+T) p=R):=by
 constructor <;> intro c
 ·rw[if_pos c]at h;exact h
 ·rw[if_neg c]at h;exact h
theorem cAlt{w:World}{gp go gb:Nat}{s6 s7:Bool}{A6 A7:Option Addr}{n6 c6 n7 c7:Nat}{n:Int}{R:Int × Nat}(XP:Bo w gp #[.bool s6,.slice A6 n6 c6] 27)(XO:Bo w go #[.int .i64 1] 3)(XB:Bo w gb #[.bool s7,.slice A7 n7 c7] 27)(p6:Wn w s6 A6 n6 c6 n)(p7:Wn w s7 A7 n7 c7 n)(k6:n6<=2)(k7:n7<=2)(hpo:gp≠go)(hpb:gp≠gb)(hob:go≠gb)(h1:2<=n)(h2:n<=1000)(hR:invG n 200 0 0 n=R):
  Calls Tryz.prog 226 #[.func (.func 252) #[] #[.pointer (some ⟨gp,0,none⟩),.pointer (some ⟨go,0,none⟩),.pointer (some ⟨gb,0,none⟩)]] w (PAl w gp go R):=by
 have HR:=ie hR;have G1:=XP.lt;have G2:=XO.lt;have G3:=XB.lt;obtain⟨T0,hn0⟩:∃T0,SC.fdiv (n*(2*((0:Nat):Int)+1))=T0:=⟨_,rfl⟩;have HN0:=ie hn0;clear hn0;clear hR
 go_enter Tryz.func226,Tryz.ntmps226
 go_upto_region 1 with (fail)
 have XR:=Bo.newAt w (g:=w.heap.size) rfl #[.bool false,.slice none 0 0] 27
 have HB:Hid (Duo gp go w (World.alloc w (.cells #[.bool false,.slice none 0 0] 27))):=ie (.of (bel1 w (.cells #[.bool false,.slice none 0 0] 27)))
 replace XP:=XP.below (bel1 w (.cells #[.bool false,.slice none 0 0] 27));replace XO:=XO.below (bel1 w (.cells #[.bool false,.slice none 0 0] 27));replace XB:=XB.below (bel1 w (.cells #[.bool false,.slice none 0 0] 27));replace p6:=p6.below (bel1 w (.cells #[.bool false,.slice none 0 0] 27));replace p7:=p7.below (bel1 w (.cells #[.bool false,.slice none 0 0] 27));generalize hW1:World.alloc w (.cells #[.bool false,.slice none 0 0] 27)=w1 at *
 clear hW1
 go_upto_region 2 with (fail)
 have nX4XP:=XP.lt;have nX4XO:=XO.lt;have nX4XB:=XB.lt;have nX4XR:=XR.lt;generalize hWn:w1.alloc _=w2 at *;obtain⟨X4,BW⟩:=Bo.nw hWn;clear hWn;replace XP:=XP.b BW;replace XO:=XO.b BW;replace XB:=XB.b BW;replace XR:=XR.b BW;replace p6:=p6.b BW;replace p7:=p7.b BW;replace HB:=ie (HB.out.mv BW);clear BW;have ltXP:=XP.lt;have ltXO:=XO.lt
 have ltXB:=XB.lt;have ltXR:=XR.lt;have ltX4:=X4.lt
 have gS:w.heap.size < w1.heap.size:=nX4XR
 have gO:go < w1.heap.size:=nX4XO
 have gP:gp < w1.heap.size:=nX4XP
 have gB:gb < w1.heap.size:=nX4XB
 clear nX4XR nX4XO nX4XP nX4XB ltXR ltXO ltXP ltXB;generalize w1.heap.size=gs at *
 have XO1:Bo w2 go #[.int .i64 (2*((0:Nat):Int)+1)] 3:=XO
 clear XO;have XO:=XO1;clear XO1;have hsz:=HB.out.size
 go_wp2_with fail
 refine(cNext (k:=0) XP XO XB p6 p7 (by omega) k7 hpo hpb hob (by decide) (by omega) (Int.le_trans h2 (by decide)) h1 h2 HN0.out).mono ?_;rintro ee w3 ⟨s15,A15,n15,c15,s16,A16,n16,c16,rfl,p15,k15,YP,p16,k16,YO,B⟩;replace XB:=XB.duo B (by omega) (by omega);replace XR:=XR.duo B (by omega) (by omega);replace X4:=X4.duo B (by omega) (by omega);replace p6:=p6.duo XP XO (by simp[no32]) (by simp[no32]) B
 replace p7:=p7.duo XP XO (by simp[no32]) (by simp[no32]) B;replace HB:=ie (HB.out.trans B);have hszB:=B.size;clear B p6 XP XO;have XP:=YP;have XO:=YO;clear YP YO
 go_upto_region 3 with (fail)
 have nX5XP:=XP.lt;have nX5XO:=XO.lt;have nX5XB:=XB.lt;have nX5XR:=XR.lt;have nX5X4:=X4.lt;generalize hWn:w3.alloc _=w4 at *;obtain⟨X5,BW⟩:=Bo.nw hWn;clear hWn;replace XP:=XP.b BW;replace XO:=XO.b BW;replace XB:=XB.b BW;replace XR:=XR.b BW;replace X4:=X4.b BW;replace p7:=p7.b BW;replace p15:=p15.b BW;replace p16:=p16.b BW
 replace HB:=ie (HB.out.mv BW);clear BW;clear nX5XR nX5XP nX5XO nX5XB
 have hI0:AInv w n R gp go gb gs s7 A7 n7 c7 0 w3.heap.size w4:=⟨0,n,_,_,_,_,_,_,_,_,_,_,_,_,_,XR,X4,X5,XP,XO,XB,⟨Nm.zero,rfl⟩,p15,p16,p7,Nat.zero_le _,k15,k16,by decide,by omega,by omega,by simpa using h1,Int.le_trans h2 (by decide),HR.out,HN0.out,HB.out⟩
 have HI0:=ie hI0;clear hI0 XR X4 X5 XP XO XB p7 p15 p16 HB HR HN0;go_wp2
 go_loopw [5,6] (fun i pt wr=>∃k gt:Nat,i= .int .i64 k/\pt= .pointer (some ⟨gt,0,none⟩)/\AInv w n R gp go gb gs s7 A7 n7 c7 k gt wr) (fun i _ _=>200-(intOf i).toNat)
 case atStart=>exact ⟨0,_,rfl,rfl,HI0.out⟩
 case round=>
  obtain⟨k,gt,rfl,rfl,s,p,T,s4,A4,n4,c4,s5,A5,n5,c5,s6,A6,n6,c6,XR,X4,X5,XP,XO,XB,p4,p5,p6,p7,k4,k5,k6,hk,hgt,hst,hp,hpS,hG,hT,hB⟩:=hrel;have HB:=ie hB;obtain⟨T',hT',hd0,hT0,hz,hnz⟩:=inv_step h1 hk hp hG
  obtain rfl:T'=T:=hT'.symm.trans hT
  have HT:=ie hT;have HZ:=ie hz;have HNZ:=ie hnz
  have HNB:Hid (T'≠0->p*(n*n)<=SC*1000000):=ie (fun hc=>next_bd hp hT h1 h2 hc)
  clear hB HI0 hG hT hT' hz hnz hd0;have hsz:=HB.out.size;have ltXP:=XP.lt;have ltXO:=XO.lt;have ltXB:=XB.lt;have ltXR:=XR.lt;have ltX4:=X4.lt;have ltX5:=X5.lt
  by_cases hc:T'=0
  ·have HS:Hid (cmpI T' 0=0):=ie (by rw[hc];decide)
   have hsk:=HZ.out hc;subst hsk;clear HZ HNZ HNB hp hpS;have xX5:=X5.cell
   go_wp2_with fail
   refine(wSign p5.wr HS.out).mono ?_;rintro ee w5 ⟨rfl,B⟩;clear xX5;replace XP:=XP.b B;replace XO:=XO.b B;replace XB:=XB.b B;replace XR:=XR.b B;replace X4:=X4.b B;replace X5:=X5.b B;replace p4:=p4.b B;replace p5:=p5.b B;replace p6:=p6.b B;replace p7:=p7.b B;replace HB:=ie (HB.out.mv B);clear B;clear p5 p6 p7
   clear X5 XP XO XB;have xX4:=X4.cell;have xXR:=XR.cell;have zXR0:=XR.frozen;go_wp2;clear xX4 xXR zXR0;generalize hS:(w5.setCell _ _).setCell _ _=w6 at *;have SX:=StN.of2 XR hS;replace X4:=X4.s SX;replace p4:=p4.s SX;replace HB:=ie (HB.out.stn SX (by omega));replace XR:=SX.box;clear SX hS;exact bq (v:= .tuple #[.agg #[.bool s4,.slice A4 n4 c4],.int .i64 (k:Int)]) (by simp[results,Tryz.results226,go_sem,XR.cell]) rfl ⟨s4,A4,n4,c4,rfl,p4,by omega,hk,HB.out⟩
  ·have HS:Hid (cmpI T' 0=1):=ie (cmpI_gt (by omega))
   obtain⟨hk1,hp1,hG1⟩:=HNZ.out hc;have HP1:=ie hp1;have HP2:=ie (HNB.out hc);obtain⟨ho,he⟩:=sum_step hG1;have HO:=ie ho;have HE:=ie he;have HW4:=iw ((k:Int)+1);have HW5:=jw ((k:Int)+1);clear HZ HNZ HNB hp1 hG1 hT0 ho he hp hpS;have xX5:=X5.cell
   go_wp2_with fail
   refine(wSign p5.wr HS.out).mono ?_;rintro ee w5 ⟨rfl,B⟩;clear xX5;replace XP:=XP.b B;replace XO:=XO.b B;replace XB:=XB.b B;replace XR:=XR.b B;replace X4:=X4.b B;replace X5:=X5.b B;replace p4:=p4.b B;replace p5:=p5.b B;replace p6:=p6.b B;replace p7:=p7.b B;replace HB:=ie (HB.out.mv B);clear B
   by_cases hodd:k%2=1
   ·have HF:=ie (HO.out hodd);clear HO HE
    have t9:(Int.tmod (k:Int) 2==0)=false:=by
     rw[show Int.tmod (k:Int) 2=1 by rw[Int.tmod_eq_emod_of_nonneg (by omega)];omega]
     rfl
    have xX4:=X4.cell;have xX5:=X5.cell
    go_wp2_with fail
    refine(wSub p4.wr p5.wr (by omega) (by omega) rfl).mono ?_;rintro ee w6 ⟨s24,A24,n24,c24,rfl,p24,k24,B⟩;clear xX4 xX5;replace XP:=XP.b B;replace XO:=XO.b B;replace XB:=XB.b B;replace XR:=XR.b B;replace X4:=X4.b B;replace X5:=X5.b B;replace p4:=p4.b B;replace p5:=p5.b B;replace p6:=p6.b B;replace p7:=p7.b B
    replace HB:=ie (HB.out.mv B);clear B;clear p4 t9 hodd;have xX4:=X4.cell;have zX40:=X4.frozen
    go_upto_region 9 with (fail)
    clear xX4 zX40;generalize hS:(w6.setCell _ _).setCell _ _=w7 at *;have SX:=StN.of2 X4 hS;replace XP:=XP.s SX;replace XO:=XO.s SX;replace XB:=XB.s SX;replace XR:=XR.s SX;replace X5:=X5.s SX;replace p5:=p5.s SX;replace p6:=p6.s SX;replace p7:=p7.s SX
    replace p24:=p24.s SX;replace HB:=ie (HB.out.stn SX (by omega));replace X4:=SX.box;clear SX hS;have hw4:=HW4.out;have hw5:=HW5.out;have xX5:=X5.cell
    go_upto_region 4 with (fail)
    clear xX5;clear hw4 hw5 X5;have nX7XP:=XP.lt;have nX7XO:=XO.lt;have nX7XB:=XB.lt;have nX7XR:=XR.lt;have nX7X4:=X4.lt;generalize hWn:w7.alloc _=w7a at *;obtain⟨X7,BW⟩:=Bo.nw hWn;clear hWn;replace XP:=XP.b BW;replace XO:=XO.b BW;replace XB:=XB.b BW;replace XR:=XR.b BW;replace X4:=X4.b BW;replace p5:=p5.b BW;replace p6:=p6.b BW
    replace p7:=p7.b BW;replace p24:=p24.b BW;replace HB:=ie (HB.out.mv BW);clear BW;have ltXP:=XP.lt;have ltXO:=XO.lt;have ltXB:=XB.lt;have ltXR:=XR.lt;have ltX4:=X4.lt;have ltX7:=X7.lt;have hsz7:=HB.out.size
    have g7:gs < w7.heap.size:=nX7X4
    have g7p:gp < w7.heap.size:=nX7XP
    have g7o:go < w7.heap.size:=nX7XO
    have g7b:gb < w7.heap.size:=nX7XB
    have g7r:w.heap.size < w7.heap.size:=nX7XR
    clear p5
    have XO1:Bo w7a go #[.int .i64 (2*((k+1:Nat):Int)+1)] 3:=by
     rw[show 2*((k+1:Nat):Int)+1=2*(k:Int)+3 by omega]
     exact XO
    clear XO;have XO:=XO1;clear XO1;obtain⟨T2,hT2⟩:∃T2,SC.fdiv (p*(n*n)*(2*((k+1:Nat):Int)+1))=T2:=⟨_,rfl⟩
    go_wp2_with fail
    refine(cNext (k:=k+1) XP XO XB p6 p7 k6 k7 hpo hpb hob (by omega) (pow_pos2 HP1.out) HP2.out h1 h2 hT2).mono ?_;rintro ee w7b ⟨s15,A15,n15,c15,s16,A16,n16,c16,rfl,p15,k15,YP,p16,k16,YO,B⟩;replace XB:=XB.duo B (by omega) (by omega);replace XR:=XR.duo B (by omega) (by omega);replace X4:=X4.duo B (by omega) (by omega);replace X7:=X7.duo B (by omega) (by omega)
    replace p24:=p24.duo XP XO (by simp[no32]) (by simp[no32]) B;replace p6:=p6.duo XP XO (by simp[no32]) (by simp[no32]) B;replace p7:=p7.duo XP XO (by simp[no32]) (by simp[no32]) B;replace HB:=ie (HB.out.trans B);have hszB:=B.size;clear B p6 XP XO;have XP:=YP;have XO:=YO;clear YP YO;have xX7:=X7.cell;have zX70:=X7.frozen;go_wp2;clear xX7 zX70
    generalize hS:(w7b.setCell _ _).setCell _ _=w7c at *;have SX:=StN.of2 X7 hS;replace XP:=XP.s SX;replace XO:=XO.s SX;replace XB:=XB.s SX;replace XR:=XR.s SX;replace X4:=X4.s SX;replace p24:=p24.s SX;replace p7:=p7.s SX;replace p15:=p15.s SX
    replace p16:=p16.s SX;replace HB:=ie (HB.out.stn SX (by omega));replace X7:=SX.box;clear SX hS
    go_roundw
    case rel=>exact ⟨k+1,w7.heap.size,by go_num,rfl,_,_,_,_,_,_,_,_,_,_,_,_,_,_,_,XR,X4,X7,XP,XO,XB,p24,p15,p16,p7,by omega,k15,k16,hk1,by omega,by omega,HP1.out,HP2.out,HF.out,hT2,HB.out⟩
    case measure=>simp [intOf];omega
   ·have HF:=ie (HE.out hodd);clear HO HE
    have t9:(Int.tmod (k:Int) 2==0)=true:=by
     rw[show Int.tmod (k:Int) 2=0 by rw[Int.tmod_eq_emod_of_nonneg (by omega)];omega]
     rfl
    have xX4:=X4.cell;have xX5:=X5.cell
    go_wp2_with fail
    refine(wAdd p4.wr p5.wr (by omega) (by omega) rfl).mono ?_;rintro ee w6 ⟨s24,A24,n24,c24,rfl,p24,k24,B⟩;clear xX4 xX5;replace XP:=XP.b B;replace XO:=XO.b B;replace XB:=XB.b B;replace XR:=XR.b B;replace X4:=X4.b B;replace X5:=X5.b B;replace p6:=p6.b B;replace p7:=p7.b B;replace HB:=ie (HB.out.mv B);clear B
    clear p4 t9 hodd;have xX4:=X4.cell;have zX40:=X4.frozen
    go_upto_region 9 with (fail)
    clear xX4 zX40;generalize hS:(w6.setCell _ _).setCell _ _=w7 at *;have SX:=StN.of2 X4 hS;replace XP:=XP.s SX;replace XO:=XO.s SX;replace XB:=XB.s SX;replace XR:=XR.s SX;replace X5:=X5.s SX;replace p6:=p6.s SX;replace p7:=p7.s SX;replace p24:=p24.s SX
    replace HB:=ie (HB.out.stn SX (by omega));replace X4:=SX.box;clear SX hS;have hw4:=HW4.out;have hw5:=HW5.out;have xX5:=X5.cell
    go_upto_region 4 with (fail)
    clear xX5;clear hw4 hw5 X5;have nX7XP:=XP.lt;have nX7XO:=XO.lt;have nX7XB:=XB.lt;have nX7XR:=XR.lt;have nX7X4:=X4.lt;generalize hWn:w7.alloc _=w7a at *;obtain⟨X7,BW⟩:=Bo.nw hWn;clear hWn;replace XP:=XP.b BW;replace XO:=XO.b BW;replace XB:=XB.b BW;replace XR:=XR.b BW;replace X4:=X4.b BW;replace p6:=p6.b BW;replace p7:=p7.b BW
    replace p24:=p24.b BW;replace HB:=ie (HB.out.mv BW);clear BW;have ltXP:=XP.lt;have ltXO:=XO.lt;have ltXB:=XB.lt;have ltXR:=XR.lt;have ltX4:=X4.lt;have ltX7:=X7.lt;have hsz7:=HB.out.size
    have g7:gs < w7.heap.size:=nX7X4
    have g7p:gp < w7.heap.size:=nX7XP
    have g7o:go < w7.heap.size:=nX7XO
    have g7b:gb < w7.heap.size:=nX7XB
    have g7r:w.heap.size < w7.heap.size:=nX7XR
    clear p5
    have XO1:Bo w7a go #[.int .i64 (2*((k+1:Nat):Int)+1)] 3:=by
     rw[show 2*((k+1:Nat):Int)+1=2*(k:Int)+3 by omega]
     exact XO
    clear XO;have XO:=XO1;clear XO1;obtain⟨T2,hT2⟩:∃T2,SC.fdiv (p*(n*n)*(2*((k+1:Nat):Int)+1))=T2:=⟨_,rfl⟩
    go_wp2_with fail
    refine(cNext (k:=k+1) XP XO XB p6 p7 k6 k7 hpo hpb hob (by omega) (pow_pos2 HP1.out) HP2.out h1 h2 hT2).mono ?_;rintro ee w7b ⟨s15,A15,n15,c15,s16,A16,n16,c16,rfl,p15,k15,YP,p16,k16,YO,B⟩;replace XB:=XB.duo B (by omega) (by omega);replace XR:=XR.duo B (by omega) (by omega);replace X4:=X4.duo B (by omega) (by omega);replace X7:=X7.duo B (by omega) (by omega)
    replace p24:=p24.duo XP XO (by simp[no32]) (by simp[no32]) B;replace p7:=p7.duo XP XO (by simp[no32]) (by simp[no32]) B;replace HB:=ie (HB.out.trans B);have hszB:=B.size;clear B p6 XP XO;have XP:=YP;have XO:=YO;clear YP YO;have xX7:=X7.cell;have zX70:=X7.frozen;go_wp2;clear xX7 zX70;generalize hS:(w7b.setCell _ _).setCell _ _=w7c at *
    have SX:=StN.of2 X7 hS;replace XP:=XP.s SX;replace XO:=XO.s SX;replace XB:=XB.s SX;replace XR:=XR.s SX;replace X4:=X4.s SX;replace p24:=p24.s SX;replace p7:=p7.s SX;replace p15:=p15.s SX;replace p16:=p16.s SX;replace HB:=ie (HB.out.stn SX (by omega))
    replace X7:=SX.box;clear SX hS
    go_roundw
    case rel=>exact ⟨k+1,w7.heap.size,by go_num,rfl,_,_,_,_,_,_,_,_,_,_,_,_,_,_,_,XR,X4,X7,XP,XO,XB,p24,p15,p16,p7,by omega,k15,k16,hk1,by omega,by omega,HP1.out,HP2.out,HF.out,hT2,HB.out⟩
    case measure=>simp [intOf];omega
end Go.Proofs.YtomikokonmikgaaGreatDoor
namespace Go.Proofs.YtomikokonmikgaaGreatDoor
open Go Go.RowKit
set_option linter.unusedVariables false
theorem fixB_max{x m c:Int}(hm:max x (-x)=m)(h:cmpI m (opl 1073741824)=c):decide (0<=c)=!(fixB x):=by
 subst hm;have t:=t30
 unfold fixB
 rw[<-h]
 by_cases g: -opl 1073741824 < x/\x < opl 1073741824
 ·rw[dt g,cmpI_lt (show max x (-x) < opl 1073741824 by omega)]
  rfl
 ·rw[df g]
  rcases cmpI_tri (max x (-x)) (opl 1073741824)with ⟨a,b⟩ | ⟨a,b⟩ | ⟨a,b⟩
  ·omega
  ·rw[b];rfl
  ·rw[b];rfl
theorem mxp_opp{x:Int}(ha: -19342822337206103650074625<=x):mxp [x,-x]=max x (-x):=mxp_two ha
theorem fix_raw{D M E x:Int}{s:Bool}(hM:LQ M)(hx:rk D s M E=x)(hb:fixB x=true):
  ∃N F,(exq D s M E).1=N/\(exq D s M E).2=F/\mk N F=(N,F)/\vr x=N*2^(F+KK).toNat/\N.natAbs < 2^64/\ -2900000<=F/\F<=2900000:=by
 have zero:∀N:Int,N=0->vr 0=N*2^((0:Int)+KK).toNat:=fun N e=>by rw[e,Int.zero_mul];rfl
 by_cases h:MayQ D s M E
 ·have q:=rk_fq hM h;rw[hx]at q
  rcases fq_kind q with⟨rfl,rfl⟩ | rfl | rfl
  ·obtain⟨_,rfl,rfl,rfl⟩:=q.uniq Fq.nought;exact⟨0,0,by decide,by decide,mk_zero 0,zero 0 rfl,by decide,by decide,by decide⟩
  ·obtain⟨N,F,_,a,b,nf,hv,n64,g1,g2,_⟩:=fix_exq q;exact⟨N,F,a,b,nf,hv,n64,g1,g2⟩
  ·rw[(fix_inf q).1]at hb
   cases hb
 ·have e:exq D s M E=(0,0):=by
   unfold exq exb
   rw[df h]
   rfl
  rw[rk_not h]at hx;subst hx;exact⟨0,0,by rw[e],by rw[e],mk_zero 0,zero 0 rfl,by decide,by decide,by decide⟩
theorem fix_code{N F P Q x:Int}(nf:mk N F=(N,F))(hv:vr x=N*2^(F+KK).toNat)(h64:N.natAbs < 2^64)(h1: -2900000<=F)(h2:F<=2900000)(hb:fixB x=true)
  (hP:(mvs (mk N F) 192).1=P) (hQ:(mvs (mk N F) 192).2=Q):flr (mk P Q).1 (mk P Q).2=fixI x:=by
 have hfl:=flr_moved nf (Nat.lt_trans h64 (by decide)) h1 h2
 have e:mv N F 192=mk N (F+192):=by
  unfold mv
  rw[if_neg (by omega),nf]
 rw[nf]at hP hQ
 have e2:mk P Q=(P,Q):=by
  have:=mk_nf N (F+192)
  rw[<-hP,<-hQ];exact this
 rw[e2,fixI_yes hb,hv,<-hfl,e,<-hP,<-hQ]
 rfl
end Go.Proofs.YtomikokonmikgaaGreatDoor
namespace Go.Proofs.YtomikokonmikgaaGreatDoor
set_option maxHeartbeats 16000000
open Go.RowKit
set_option linter.unusedVariables false
theorem stk_iff{q d d':Nat}(h:d=0↔d'=0):stk q d=stk q d':=by
 unfold stk
 by_cases c:d=0
 ·rw[if_pos c,if_pos (h.1 c)]
 ·rw[if_neg c,if_neg (fun e=>c (h.2 e))]
theorem stk_two (q d:Nat):stk q d<=2*q+1:=by
 unfold stk
 split <;> omega
theorem le_of_blen{a k:Nat}(h0:0 < a)(h:k < blen a):2^k<=a:=by
 have h1:=blen_le (n:=a) (by omega);exact Nat.le_trans (Nat.pow_le_pow_right (by decide) (by omega)) h1
theorem part_up{α β k:Nat}{e:Int}(hα:0 < α)(hβ:0 < β)(hk:(blen β:Int)-(blen α:Int)+64=(k:Int))(ha:blen α<=112000)(hb:blen β<=112000)(e1: -2200000<=e)(e2:e<=2200000)(σ up:Bool):
  Sid up (sgi σ ((α:Int)*2^(e+KK).toNat)) (β:Int) (rnd up (mk (sgi σ ((stk (α*2^k/β) (α*2^k%β):Nat):Int)) (e-k-1)).1 (mk (sgi σ ((stk (α*2^k/β) (α*2^k%β):Nat):Int)) (e-k-1)).2):=by
 obtain⟨κ,hκ⟩:∃κ:Nat,κ=500000:=⟨_,rfl⟩
 have la:0 < blen α:=by
  rcases Nat.eq_zero_or_pos (blen α)with c | c
  ·have:=blen_lt α
   rw[c]at this
   omega
  ·exact c
 have hq:9223372036854775808<=α*2^k/β:=by
  rw[Nat.le_div_iff_mul_le hβ];have l1:=blen_lt β
  have l2:2^63*β<=2^63*2^blen β:=Nat.mul_le_mul_left _ (Nat.le_of_lt l1)
  have l3:=le_of_blen (k:=blen α-1) hα (by omega)
  have l4:2^(blen α-1)*2^k<=α*2^k:=Nat.mul_le_mul_right _ l3
  rw[<-Nat.pow_add]at l2 l4
  rw[show blen α-1+k=63+blen β by omega]at l4
  omega
 have hs:stk (α*2^k/β) (α*2^k%β) < 2^κ:=by
  have q1:α*2^k/β<=α*2^k:=Nat.div_le_self _ _
  have q2:α*2^k < 2^blen α*2^k:=Nat.mul_lt_mul_of_pos_right (blen_lt α) (Nat.pow_pos (by decide))
  rw[<-Nat.pow_add]at q2;have q3:=stk_two (α*2^k/β) (α*2^k%β)
  have q4:2^(blen α+k+1)<=2^κ:=Nat.pow_le_pow_right (by decide) (by omega)
  rw[Nat.pow_succ]at q4
  omega
 rw[rnd_sgi]
 exact sid_sgi (quo_side (up !=σ) hβ (fun _=>hq) hκ hs (by omega) (by omega))
theorem left_iff{α β k:Nat}:α%(β*2^k)=0↔α/2^k*2^k=α/\α/2^k%β=0:=by
 have hp:0 < 2^k:=Nat.pow_pos (by decide)
 constructor
 ·intro h
  obtain⟨t,ht⟩:=Nat.dvd_of_mod_eq_zero h
  have e:α/2^k=β*t:=by
   rw[ht,Nat.mul_right_comm,Nat.mul_div_cancel _ hp]
  rw[e];refine⟨?_,Nat.mul_mod_right _ _⟩;rw[ht,Nat.mul_right_comm]
 ·rintro ⟨a,b⟩;obtain⟨t,ht⟩:=Nat.dvd_of_mod_eq_zero b;rw[<-a,ht,Nat.mul_right_comm];exact Nat.mul_mod_right _ _
theorem part_dn{α β k d:Nat}{e:Int}(hα:0 < α)(hβ:0 < β)(hk:(blen β:Int)-(blen α:Int)+64= -(k:Int))(ha:blen α<=112000)(e1: -2200000<=e)(e2:e<=2200000)(hd:d=0↔(α/2^k*2^k=α/\α/2^k%β=0))(σ up:Bool):
  Sid up (sgi σ ((α:Int)*2^(e+KK).toNat)) (β:Int) (rnd up (mk (sgi σ ((stk (α/2^k/β) d:Nat):Int)) (e+k-1)).1 (mk (sgi σ ((stk (α/2^k/β) d:Nat):Int)) (e+k-1)).2):=by
 have hKK:=KK_eq;obtain⟨κ,hκ⟩:∃κ:Nat,κ=500000:=⟨_,rfl⟩
 have hp:0 < 2^k:=Nat.pow_pos (by decide)
 have hD:0 < β*2^k:=Nat.mul_pos hβ hp
 have es:stk (α/2^k/β) d=stk (α/ (β*2^k)) (α%(β*2^k)):=by
  rw[Nat.div_div_eq_div_mul,Nat.mul_comm (2^k) β];exact stk_iff (hd.trans left_iff.symm)
 rw[es]
 have hq:9223372036854775808<=α/ (β*2^k):=by
  rw[Nat.le_div_iff_mul_le hD];have l1:=blen_lt β
  have l2:2^63*(β*2^k)<=2^63*(2^blen β*2^k):=Nat.mul_le_mul_left _ (Nat.mul_le_mul_right _ (Nat.le_of_lt l1))
  have l3:=le_of_blen (k:=blen α-1) hα (by omega);rw[<-Nat.pow_add,<-Nat.pow_add]at l2
  rw[show blen α-1=63+(blen β+k) by omega]at l3
  omega
 have hs:stk (α/ (β*2^k)) (α%(β*2^k)) < 2^κ:=by
  have q1:α/ (β*2^k)<=α:=Nat.div_le_self _ _
  have q2:=blen_lt α;have q3:=stk_two (α/ (β*2^k)) (α%(β*2^k))
  have q4:2^(blen α+1)<=2^κ:=Nat.pow_le_pow_right (by decide) (by omega)
  rw[Nat.pow_succ]at q4
  omega
 have h:=quo_side (α:=α) (β:=β*2^k) (e:=e+k) (n:=0) (up !=σ) hD (fun _=>by rw[Nat.pow_zero,Nat.mul_one];exact hq) hκ (by rw[Nat.pow_zero,Nat.mul_one];exact hs) (by omega) (by omega)
 rw[Nat.pow_zero,Nat.mul_one,show e+(k:Int)-((0:Nat):Int)-1=e+k-1 by omega]at h
 rw[rnd_sgi];refine sid_sgi (h.cross (by omega) (by omega) ?_)
 have e3:(e+(k:Int)+(KK:Int)).toNat=(e+(KK:Int)).toNat+k:=by omega
 rw[e3,Int.pow_add]
 push_cast
 generalize (2:Int)^(e+(KK:Int)).toNat=U;generalize (2:Int)^k=V;rw[Int.mul_assoc,Int.mul_assoc,Int.mul_assoc,Int.mul_comm V (β:Int)]
set_option linter.unusedSimpArgs false
set_option maxRecDepth 100000
def Pk (w:World)(A:Option Addr)(n c:Nat)(t:Bool)(x:Int)(P:Bool->Bool->Int->Prop):Prop:=
 ∃q d:Nat,Nm w A n c q/\n<=20000/\decide (d=0)=t/\ -3000000<=x/\x<=3000000/\∀σ up,P σ up (rnd up (mk (sgi σ ((stk q d:Nat):Int)) (x-1)).1 (mk (sgi σ ((stk q d:Nat):Int)) (x-1)).2)
theorem Pk.below{w w':World}{A:Option Addr}{n c:Nat}{t:Bool}{x:Int}{P:Bool->Bool->Int->Prop}(h:Pk w A n c t x P)(b:Below w.heap.size w w'):Pk w' A n c t x P:=by
 obtain⟨q,d,h1,h2⟩:=h;exact⟨q,d,h1.below b,h2⟩
abbrev Pk.b:= @Pk.below
def PP7 (w:World)(P:Bool->Bool->Int->Prop)(e:Ending)(w':World):Prop:=∃A n c t x,e= .returned (.agg #[.slice A n c,.bool t,.int .i64 x])/\Pk w' A n c t x P/\Below w.heap.size w w'
def Jo.Fact.pk (P:Bool->Bool->Int->Prop):Jo.Fact:=⟨fun v w=>∃A n c t x,v= .agg #[.slice A n c,.bool t,.int .i64 x]/\Pk w A n c t x P,fun v w w' h b=>by
 obtain⟨A,n,c,t,x,e,p⟩:=h;exact⟨A,n,c,t,x,e,p.below b⟩⟩
def PQ7 (w:World)(Q:Nat)(t:Bool)(x:Int)(e:Ending)(w':World):Prop:=∃A n c,e= .returned (.agg #[.slice A n c,.bool t,.int .i64 x])/\Nm w' A n c Q/\n<=20000/\Below w.heap.size w w'
def MV (α:Nat)(z:Int)(T:Nat)(t:Bool):Prop:=∀(w:World) (A:Option Addr) (n c:Nat),Rd w A n c α->n<=8000->Calls Tryz.prog 250 #[.slice A n c,.int .i64 z] w (P1B w 15000 T t)
theorem qdivided_e{w:World}{A B:Option Addr}{n c m d α β T Q R:Nat}{La Lb z e x:Int}(ha:Rd w A n c α)(hb:Rd w B m d β)(hn:n<=8000)(hβ:β≠0)(hla:((blen α:Nat):Int)=La)(hlb:((blen β:Nat):Int)=Lb)(hz:Lb-La+64=z)(z1: -200000<=z)(z2:z<=200000)(hx:e-z=x)(x1: -3000000<=x)(x2:x<=2097152)
  (hm:MV α z T true) (hQ:T/β=Q) (hR:T%β=R) (h0:R=0):Calls Tryz.prog 215 #[.slice A n c,.slice B m d,.int .i64 e] w (PQ7 w Q true x):=by
 have HM:=ie hm;have HLA:=ie hla;have HLB:=ie hlb;have HQ:=ie hQ;have HRR:=ie hR;have H0:=ie h0;have HB0:=ie hβ
 have e0:Lb-La=z-64:=by omega
 have HW1:Hid (IntKind.i64.wrap (Lb-La)=z-64):=ie (by rw[e0];exact IntWalk.i64_in _ (by omega))
 have HW2:Hid (wrap64 z=z):=ie (IntWalk.wrap64_in _ (by omega))
 have HW4:Hid (wrap64 x=x):=ie (IntWalk.wrap64_in _ (by omega))
 have HW3:Hid (IntKind.i64.wrap (e-z)=x):=ie (by rw[hx];exact IntWalk.i64_in _ (by omega))
 have hz3:z<=2097152:=by omega
 have HMZ:Hid (min z 2097152=z):=ie (by omega)
 have HMX:Hid (min x 2097152=x):=ie (by omega)
 clear hm hla hlb hz e0 hx hQ hR h0 hβ z1 z2 x1
 go_enter Tryz.func215,Tryz.ntmps215
 go_upto_region 1 with (fail)
 generalize hW1:w.alloc _=w1 at *;obtain⟨XR,HB⟩:=Bo.en1 hW1;replace ha:=ha.below HB.out;replace hb:=hb.below HB.out;clear hW1
 go_wp2_with fail
 refine(vLenE hb HLB.out).mono ?_;rintro ee w2 ⟨rfl,B⟩;replace XR:=XR.b B;replace ha:=ha.b B;replace hb:=hb.b B;replace HB:=Hqb HB B;clear B
 go_wp2_with fail
 refine(vLenE ha HLA.out).mono ?_;rintro ee w3 ⟨rfl,B⟩;replace XR:=XR.b B;replace ha:=ha.b B;replace hb:=hb.b B;replace HB:=Hqb HB B;clear B;have hw1:=HW1.out;have hw2:=HW2.out;have hmz:=HMZ.out
 go_wp2_with fail
 refine(HM.out _ _ _ _ ha hn).mono ?_;rintro ee w4 ⟨A4,n4,c4,rfl,p4,k4,B⟩;replace XR:=XR.b B;replace hb:=hb.b B;replace HB:=Hqb HB B;clear B;clear hw1 hw2 hmz
 go_wp2_with fail
 refine(vDivE p4.rd hb (by omega) HB0.out HQ.out HRR.out).mono ?_;rintro ee w5 ⟨A5,n5,c5,B5,m5,d5,rfl,p5,r5,k5,l5,B⟩;replace XR:=XR.b B;replace HB:=Hqb HB B;clear B;clear hb p4
 obtain rfl:m5=0:=by have:=r5.pos;have:=H0.out;omega
 clear r5 H0;have hw3:=HW3.out;have hmx:=HMX.out;have xXR:=XR.cell;have zXR0:=XR.frozen;go_wp2;clear xXR zXR0;have SX:=StN.mk3 XR (.slice A5 n5 c5) (.bool true) (.int .i64 x);replace p5:=p5.s SX;exact bq (v:= .agg #[.slice A5 n5 c5,.bool true,.int .i64 x]) (by simp[results,Tryz.results215,go_sem,SX.box.cell]) rfl ⟨A5,n5,c5,rfl,p5,by omega,(SX.below HB.out (by omega))⟩
theorem qdivided_l{w:World}{A B:Option Addr}{n c m d α β T Q R:Nat}{La Lb z e x:Int}(ha:Rd w A n c α)(hb:Rd w B m d β)(hn:n<=8000)(hβ:β≠0)(hla:((blen α:Nat):Int)=La)(hlb:((blen β:Nat):Int)=Lb)(hz:Lb-La+64=z)(z1: -200000<=z)(z2:z<=200000)(hx:e-z=x)(x1: -3000000<=x)(x2:x<=2097152)
  (hm:MV α z T true) (hQ:T/β=Q) (hR:T%β=R) (h0:R≠0):Calls Tryz.prog 215 #[.slice A n c,.slice B m d,.int .i64 e] w (PQ7 w Q false x):=by
 have HM:=ie hm;have HLA:=ie hla;have HLB:=ie hlb;have HQ:=ie hQ;have HRR:=ie hR;have H0:=ie h0;have HB0:=ie hβ
 have e0:Lb-La=z-64:=by omega
 have HW1:Hid (IntKind.i64.wrap (Lb-La)=z-64):=ie (by rw[e0];exact IntWalk.i64_in _ (by omega))
 have HW2:Hid (wrap64 z=z):=ie (IntWalk.wrap64_in _ (by omega))
 have HW4:Hid (wrap64 x=x):=ie (IntWalk.wrap64_in _ (by omega))
 have HW3:Hid (IntKind.i64.wrap (e-z)=x):=ie (by rw[hx];exact IntWalk.i64_in _ (by omega))
 have hz3:z<=2097152:=by omega
 have HMZ:Hid (min z 2097152=z):=ie (by omega)
 have HMX:Hid (min x 2097152=x):=ie (by omega)
 clear hm hla hlb hz e0 hx hQ hR h0 hβ z1 z2 x1
 go_enter Tryz.func215,Tryz.ntmps215
 go_upto_region 1 with (fail)
 generalize hW1:w.alloc _=w1 at *;obtain⟨XR,HB⟩:=Bo.en1 hW1;replace ha:=ha.below HB.out;replace hb:=hb.below HB.out;clear hW1
 go_wp2_with fail
 refine(vLenE hb HLB.out).mono ?_;rintro ee w2 ⟨rfl,B⟩;replace XR:=XR.b B;replace ha:=ha.b B;replace hb:=hb.b B;replace HB:=Hqb HB B;clear B
 go_wp2_with fail
 refine(vLenE ha HLA.out).mono ?_;rintro ee w3 ⟨rfl,B⟩;replace XR:=XR.b B;replace ha:=ha.b B;replace hb:=hb.b B;replace HB:=Hqb HB B;clear B;have hw1:=HW1.out;have hw2:=HW2.out;have hmz:=HMZ.out
 go_wp2_with fail
 refine(HM.out _ _ _ _ ha hn).mono ?_;rintro ee w4 ⟨A4,n4,c4,rfl,p4,k4,B⟩;replace XR:=XR.b B;replace hb:=hb.b B;replace HB:=Hqb HB B;clear B;clear hw1 hw2 hmz
 go_wp2_with fail
 refine(vDivE p4.rd hb (by omega) HB0.out HQ.out HRR.out).mono ?_;rintro ee w5 ⟨A5,n5,c5,B5,m5,d5,rfl,p5,r5,k5,l5,B⟩;replace XR:=XR.b B;replace HB:=Hqb HB B;clear B;clear hb p4
 have hne:((m5:Int)==0)=false:=by
  have:=r5.pos
  have:=H0.out
  have:(m5:Int)≠0:=by omega
  simpa using this
 have hne2:¬m5=0:=by have:=r5.pos;have:=H0.out;omega
 clear r5 H0;have hw3:=HW3.out;have hmx:=HMX.out;have xXR:=XR.cell;have zXR0:=XR.frozen;go_wp2;clear xXR zXR0;have SX:=StN.mk3 XR (.slice A5 n5 c5) (.bool false) (.int .i64 x);replace p5:=p5.s SX;exact bq (v:= .agg #[.slice A5 n5 c5,.bool false,.int .i64 x]) (by simp[results,Tryz.results215,go_sem,SX.box.cell]) rfl ⟨A5,n5,c5,rfl,p5,by omega,(SX.below HB.out (by omega))⟩
theorem qdivided_n{w:World}{A B:Option Addr}{n c m d α β T Q R:Nat}{La Lb z e x:Int}(ha:Rd w A n c α)(hb:Rd w B m d β)(hn:n<=8000)(hβ:β≠0)(hla:((blen α:Nat):Int)=La)(hlb:((blen β:Nat):Int)=Lb)(hz:Lb-La+64=z)(z1: -200000<=z)(z2:z<=200000)(hx:e-z=x)(x1: -3000000<=x)(x2:x<=2097152)
  (hm:MV α z T false) (hQ:T/β=Q) (hR:T%β=R) (h0:True):Calls Tryz.prog 215 #[.slice A n c,.slice B m d,.int .i64 e] w (PQ7 w Q false x):=by
 have HM:=ie hm;have HLA:=ie hla;have HLB:=ie hlb;have HQ:=ie hQ;have HRR:=ie hR;have H0:=ie h0;have HB0:=ie hβ
 have e0:Lb-La=z-64:=by omega
 have HW1:Hid (IntKind.i64.wrap (Lb-La)=z-64):=ie (by rw[e0];exact IntWalk.i64_in _ (by omega))
 have HW2:Hid (wrap64 z=z):=ie (IntWalk.wrap64_in _ (by omega))
 have HW4:Hid (wrap64 x=x):=ie (IntWalk.wrap64_in _ (by omega))
 have HW3:Hid (IntKind.i64.wrap (e-z)=x):=ie (by rw[hx];exact IntWalk.i64_in _ (by omega))
 have hz3:z<=2097152:=by omega
 have HMZ:Hid (min z 2097152=z):=ie (by omega)
 have HMX:Hid (min x 2097152=x):=ie (by omega)
 clear hm hla hlb hz e0 hx hQ hR h0 hβ z1 z2 x1
 go_enter Tryz.func215,Tryz.ntmps215
 go_upto_region 1 with (fail)
 generalize hW1:w.alloc _=w1 at *;obtain⟨XR,HB⟩:=Bo.en1 hW1;replace ha:=ha.below HB.out;replace hb:=hb.below HB.out;clear hW1
 go_wp2_with fail
 refine(vLenE hb HLB.out).mono ?_;rintro ee w2 ⟨rfl,B⟩;replace XR:=XR.b B;replace ha:=ha.b B;replace hb:=hb.b B;replace HB:=Hqb HB B;clear B
 go_wp2_with fail
 refine(vLenE ha HLA.out).mono ?_;rintro ee w3 ⟨rfl,B⟩;replace XR:=XR.b B;replace ha:=ha.b B;replace hb:=hb.b B;replace HB:=Hqb HB B;clear B;have hw1:=HW1.out;have hw2:=HW2.out;have hmz:=HMZ.out
 go_wp2_with fail
 refine(HM.out _ _ _ _ ha hn).mono ?_;rintro ee w4 ⟨A4,n4,c4,rfl,p4,k4,B⟩;replace XR:=XR.b B;replace hb:=hb.b B;replace HB:=Hqb HB B;clear B;clear hw1 hw2 hmz
 go_wp2_with fail
 refine(vDivE p4.rd hb (by omega) HB0.out HQ.out HRR.out).mono ?_;rintro ee w5 ⟨A5,n5,c5,B5,m5,d5,rfl,p5,r5,k5,l5,B⟩;replace XR:=XR.b B;replace HB:=Hqb HB B;clear B;clear hb p4;clear r5 H0;have hw3:=HW3.out;have hmx:=HMX.out;have xXR:=XR.cell;have zXR0:=XR.frozen;go_wp2;clear xXR zXR0;have SX:=StN.mk3 XR (.slice A5 n5 c5) (.bool false) (.int .i64 x)
 replace p5:=p5.s SX;exact bq (v:= .agg #[.slice A5 n5 c5,.bool false,.int .i64 x]) (by simp[results,Tryz.results215,go_sem,SX.box.cell]) rfl ⟨A5,n5,c5,rfl,p5,by omega,(SX.below HB.out (by omega))⟩
theorem moved_up{α k:Nat}(hk:k<=200000):MV α (k:Int) (α*2^k) true:=fun w A n c h hn=>qmoved_up h hn hk rfl
theorem moved_dn{α k:Nat}{z:Int}(h0:0 < k)(hk:k<=200000)(hz: -z=(k:Int)):MV α z (α/2^k) (decide (α/2^k*2^k=α)):=fun w A n c h hn=>by
 refine qmoved_dn h hn hk h0 hz rfl rfl rfl ?_
 by_cases c:α/2^k*2^k=α
 ·rw[dt c,c,cmpI_self]
  rfl
 ·rw[df c]
  have:¬cmpI ((α/2^k*2^k:Nat):Int) (α:Int)=0:=fun e=>c (by have:=cmpI_zero.1 e;omega)
  simpa using this
theorem qDivided{w:World}{A B:Option Addr}{n c m d α β:Nat}{e:Int}{P:Bool->Bool->Int->Prop}(ha:Rd w A n c α)(hb:Rd w B m d β)(hn:n<=3500)(hm:m<=3500)(hα:0 < α)(hβ:0 < β)(e1: -2200000<=e)(e2:e<=2200000)(e3:e-((blen β:Int)-(blen α:Int)+64)<=2097152)
  (hP:∀σ up r,Sid up (sgi σ ((α:Int)*2^(e+(KK:Int)).toNat)) (β:Int) r->P σ up r):Calls Tryz.prog 215 #[.slice A n c,.slice B m d,.int .i64 e] w (PP7 w P):=by
 have hba:=ha.blen_le;have hbb:=hb.blen_le;obtain⟨z,hz⟩:∃z:Int,(blen β:Int)-(blen α:Int)+64=z:=⟨_,rfl⟩;rw[hz]at e3
 have hn0:β≠0:=by omega
 have fin:∀{Q D:Nat} {t t':Bool},t'=t->decide (D=0)=t->(∀σ up,Sid up (sgi σ ((α:Int)*2^(e+(KK:Int)).toNat)) (β:Int) (rnd up (mk (sgi σ ((stk Q D:Nat):Int)) (e-z-1)).1 (mk (sgi σ ((stk Q D:Nat):Int)) (e-z-1)).2))->∀ee w',PQ7 w Q t' (e-z) ee w'->PP7 w P ee w':=by
  rintro Q D t t' rfl ht hs ee w' ⟨A',n',c',he,hnm,hk,hb'⟩
  exact⟨A',n',c',t',e-z,he,⟨Q,D,hnm,hk,ht,by omega,by omega,fun σ up=>hP σ up _ (hs σ up)⟩,hb'⟩
 rcases Int.lt_or_le z 0 with c0 | c0
 ·obtain⟨k,hk⟩:∃k:Nat,z= -(k:Int):=⟨z.natAbs,by omega⟩
  have mv:=moved_dn (α:=α) (k:=k) (z:=z) (by omega) (by omega) (by omega)
  have hs:=fun {D} (hd:D=0↔(α/2^k*2^k=α/\α/2^k%β=0)) (σ up:Bool)=>part_dn (e:=e) (d:=D) hα hβ (by omega) (by omega) e1 e2 hd σ up
  have ez:e+(k:Int)-1=e-z-1:=by omega
  rw[ez]at hs
  by_cases h1:α/2^k*2^k=α
  ·rw[dt h1]at mv
   by_cases h2:α/2^k%β=0
   ·exact(qdivided_e ha hb (by omega) hn0 rfl rfl hz (by omega) (by omega) rfl (by omega) e3 mv rfl rfl h2).mono (fin (D:=0) rfl rfl (hs ⟨fun _=>⟨h1,h2⟩,fun _=>rfl⟩))
   ·exact(qdivided_l ha hb (by omega) hn0 rfl rfl hz (by omega) (by omega) rfl (by omega) e3 mv rfl rfl h2).mono (fin (D:=1) rfl rfl (hs ⟨fun h=>absurd h (by decide),fun h=>absurd h.2 h2⟩))
  ·rw[df h1]at mv
   exact(qdivided_n ha hb (by omega) hn0 rfl rfl hz (by omega) (by omega) rfl (by omega) e3 mv rfl rfl trivial).mono (fin (D:=1) rfl rfl (hs ⟨fun h=>absurd h (by decide),fun h=>absurd h.1 h1⟩))
 ·obtain⟨k,rfl⟩:∃k:Nat,z=(k:Int):=⟨z.toNat,by omega⟩
  have mv:=moved_up (α:=α) (k:=k) (by omega);have hs:=part_up (e:=e) hα hβ hz (by omega) (by omega) e1 e2
  by_cases h2:α*2^k%β=0
  ·exact(qdivided_e ha hb (by omega) hn0 rfl rfl hz (by omega) (by omega) rfl (by omega) e3 mv rfl rfl h2).mono (fin rfl (dt h2) hs)
  ·exact(qdivided_l ha hb (by omega) hn0 rfl rfl hz (by omega) (by omega) rfl (by omega) e3 mv rfl rfl h2).mono (fin rfl (df h2) hs)
theorem and_one (e:Int):bits .and .i64 e 1=e%2:=by
 have h1:(BitVec.ofInt IntKind.i64.bits e &&& BitVec.ofInt IntKind.i64.bits 1).toNat=(e%18446744073709551616).toNat%2:=by
  rw[BitVec.toNat_and,BitVec.toNat_ofInt,BitVec.toNat_ofInt,show (1%((2^IntKind.i64.bits:Nat):Int)).toNat=1 by decide,Nat.and_one_is_mod]
  rfl
 show IntKind.i64.wrap ((BitVec.ofInt IntKind.i64.bits e &&& BitVec.ofInt IntKind.i64.bits 1).toNat:Int)=e%2
 rw[h1,IntWalk.i64_in _ (by omega)]
 omega
theorem stk_zero7 (q:Nat):stk q 0=q*2^1:=by
 unfold stk
 rw[if_pos rfl]
 omega
theorem stk_one7{q r:Nat}(h:r≠0):stk q r=q*2^1+1:=by
 unfold stk
 rw[if_neg h]
 omega
theorem sg_sgi7 (s:Bool)(a:Nat):sg s a=sgi s (a:Int):=by
 cases s
 ·rw[sg_false,wsg_f]
 ·rw[sg_true,wsg_t]
theorem lit_one7 (W:World):Rd (W.alloc (.cells #[.int .u32 1] 92)) (some ⟨W.heap.size,0,none⟩) 1 1 1:=
 ⟨_,[1],(Own.new W [1]).all (Lim.cons (by decide) Lim.nil) (by simp) (Nat.le_refl _),by decide⟩
theorem qround_e{w:World}{A:Option Addr}{n c q a0 a:Nat}{x r:Int}{σ up:Bool}(hT:Tab w)(h:Nm w A n c q)(hn:n<=20000)(h0:q*2^1=a0)(h1:a0=a)(x1: -3000000<=x)(x2:x<=3000000)(hr:rnd up (mk (sg σ a) (x-1)).1 (mk (sg σ a) (x-1)).2=r):Calls Tryz.prog 217 #[.agg #[.slice A n c,.bool true,.int .i64 x],.bool σ,.bool up] w (PN w r):=by
 have HA:=ie h0;have H1:=ie h1;have HR:=ie hr;have HW:=iw (x-1);clear h0 h1 hr x1 x2
 go_enter Tryz.func217,Tryz.ntmps217
 go_upto_region 1 with (fail)
 generalize hW1:(w.alloc _).alloc _=w1 at *;obtain⟨X3,XR,HB⟩:=Bo.en2 hW1;replace hT:=hT.below HB.out;replace h:=h.below HB.out;clear hW1;have xX3:=X3.cell
 go_wp2_with fail
 refine(vShlE (s:=1) h.rd (by omega) (by decide) HA.out).mono ?_;rintro ee w2 ⟨A2,n2,c2,rfl,p2,k2,B⟩;clear xX3;replace X3:=X3.b B;replace XR:=XR.b B;replace hT:=hT.b B;replace h:=h.b B;replace HB:=Hqb HB B;clear B;clear h
 obtain rfl:=H1.out
 have xX3:=X3.cell
 go_upto_region 4 with (fail)
 clear xX3;refine jk [0,1,2,3,4,5,6,7,8] [some 17,some 18,some 19,some 20,some 21,some 22,some 23,some 24,some 25,none] [[],[],[0,1],[],[3],[4],[2,5],[],[6,7],[]] 10 1 [Jo.qb σ,Jo.Fact.eq (.slice A2 n2 c2),Jo.Fact.wn (sg σ a0) 30000,Jo.qp w.heap.size 2,Jo.qi x,Jo.Fact.eq (.int .i64 (x-1)),Jo.Fact.dy (sg σ a0) (x-1) 30000,Jo.qb up,Jo.Fact.num r,Jo.Fact.any] ?_ ?_
 ·iterate 2 (refine jm ?_ ?_;rotate_left)
  refine jm ?_ ?_
  ·rintro wj hJ _ rfl _ rfl K hK;simp only[Jo.z]at hK|-;go_simp;exact Jo.w1 (wMake σ (p2.b hJ).rd) hK.out
  refine jm ?_ ?_;rotate_left
  refine jm ?_ ?_
  ·rintro wj hJ _ rfl K hK;simp only[Jo.z]at hK|-;have xX32:=(X3.b hJ).a 2 (.int .i64 x) rfl;go_simp;exact hK.out _ _ rfl (br _ _)
  refine jm ?_ ?_
  ·rintro wj hJ _ rfl K hK;simp only[Jo.z]at hK|-;have hw:=HW.out;go_simp
   exact hK.out _ _ (by first | rfl | (show Value.int _ _=Value.int _ _;rw[hw])) (br _ _)
  refine jm ?_ ?_
  ·rintro wj hJ _ ⟨s7,A7,n7,c7,rfl,p7,k7⟩ _ rfl K hK;simp only[Jo.z]at hK|-;go_simp;exact hK.out _ _ ⟨s7,A7,n7,c7,rfl,p7,k7⟩ (br _ _)
  refine jm ?_ ?_;rotate_left
  refine jm ?_ ?_
  ·rintro wj hJ _ ⟨s8,A8,n8,c8,rfl,p8,k8⟩ _ rfl K hK;simp only[Jo.z]at hK|-;go_simp;exact Jo.n1 (nRound (hT.b hJ) p8.wr (by omega) rfl rfl HR.out) hK.out
  exact jo
  all_goals (rintro wj hJ;(repeat rintro _ rfl);intro K hK;simp only[Jo.z]at hK|-;go_simp;exact hK.out _ _ rfl (br _ _))
 rintro w8 hJ _ rfl _ rfl _ ⟨_,_,_,_,rfl,_⟩ _ _ _ rfl _ rfl _ ⟨_,_,_,_,rfl,_⟩ _ rfl _ ⟨K9,s9,M9,E9,rfl,q9⟩ -;simp only[Jo.z];replace XR:=XR.b hJ;replace HB:=Hqb HB hJ;have xXR:=XR.cell;have zXR0:=XR.frozen
 refine jn 9 fun K hK=>?_
 go_simp;refine hK.out _ _ ?_;clear hK K xXR zXR0;have SX:=StN.t4 XR K9 s9 M9 E9;refine jd ?_;go_wp2;exact bq (by simp[results,Tryz.results217,go_sem,SX.box.cell]) rfl ⟨_,_,_,_,rfl,q9,(SX.below HB.out (by omega))⟩
theorem qround_l{w:World}{A:Option Addr}{n c q a0 a:Nat}{x r:Int}{σ up:Bool}(hT:Tab w)(h:Nm w A n c q)(hn:n<=20000)(h0:q*2^1=a0)(h1:a0+1=a)(x1: -3000000<=x)(x2:x<=3000000)(hr:rnd up (mk (sg σ a) (x-1)).1 (mk (sg σ a) (x-1)).2=r):Calls Tryz.prog 217 #[.agg #[.slice A n c,.bool false,.int .i64 x],.bool σ,.bool up] w (PN w r):=by
 have HA:=ie h0;have H1:=ie h1;have HR:=ie hr;have HW:=iw (x-1);clear h0 h1 hr x1 x2
 go_enter Tryz.func217,Tryz.ntmps217
 go_upto_region 1 with (fail)
 generalize hW1:(w.alloc _).alloc _=w1 at *;obtain⟨X3,XR,HB⟩:=Bo.en2 hW1;replace hT:=hT.below HB.out;replace h:=h.below HB.out;clear hW1;have xX3:=X3.cell
 go_wp2_with fail
 refine(vShlE (s:=1) h.rd (by omega) (by decide) HA.out).mono ?_;rintro ee w2 ⟨A2,n2,c2,rfl,p2,k2,B⟩;clear xX3;replace X3:=X3.b B;replace XR:=XR.b B;replace hT:=hT.b B;replace h:=h.b B;replace HB:=Hqb HB B;clear B;clear h;have xX3:=X3.cell
 go_wp2_with fail
 refine(vAddE (p2.below (bel1 _ _)).rd (lit_one7 w2) (by omega) (by decide) H1.out).mono ?_;rintro ee w4 ⟨A4,n4,c4,rfl,p4,k4,B⟩;clear xX3;replace B:=bt (bel1 _ _) B;replace X3:=X3.b B;replace XR:=XR.b B;replace hT:=hT.b B;replace HB:=Hqb HB B;clear B;clear p2;have xX3:=X3.cell
 go_upto_region 4 with (fail)
 clear xX3;refine jk [0,1,2,3,4,5,6,7,8] [some 17,some 18,some 19,some 20,some 21,some 22,some 23,some 24,some 25,none] [[],[],[0,1],[],[3],[4],[2,5],[],[6,7],[]] 10 1 [Jo.qb σ,Jo.Fact.eq (.slice A4 n4 c4),Jo.Fact.wn (sg σ a) 30000,Jo.qp w.heap.size 2,Jo.qi x,Jo.Fact.eq (.int .i64 (x-1)),Jo.Fact.dy (sg σ a) (x-1) 30000,Jo.qb up,Jo.Fact.num r,Jo.Fact.any] ?_ ?_
 ·iterate 2 (refine jm ?_ ?_;rotate_left)
  refine jm ?_ ?_
  ·rintro wj hJ _ rfl _ rfl K hK;simp only[Jo.z]at hK|-;go_simp;exact Jo.w1 (wMake σ (p4.b hJ).rd) hK.out
  refine jm ?_ ?_;rotate_left
  refine jm ?_ ?_
  ·rintro wj hJ _ rfl K hK;simp only[Jo.z]at hK|-;have xX32:=(X3.b hJ).a 2 (.int .i64 x) rfl;go_simp;exact hK.out _ _ rfl (br _ _)
  refine jm ?_ ?_
  ·rintro wj hJ _ rfl K hK;simp only[Jo.z]at hK|-;have hw:=HW.out;go_simp
   exact hK.out _ _ (by first | rfl | (show Value.int _ _=Value.int _ _;rw[hw])) (br _ _)
  refine jm ?_ ?_
  ·rintro wj hJ _ ⟨s7,A7,n7,c7,rfl,p7,k7⟩ _ rfl K hK;simp only[Jo.z]at hK|-;go_simp;exact hK.out _ _ ⟨s7,A7,n7,c7,rfl,p7,k7⟩ (br _ _)
  refine jm ?_ ?_;rotate_left
  refine jm ?_ ?_
  ·rintro wj hJ _ ⟨s8,A8,n8,c8,rfl,p8,k8⟩ _ rfl K hK;simp only[Jo.z]at hK|-;go_simp;exact Jo.n1 (nRound (hT.b hJ) p8.wr (by omega) rfl rfl HR.out) hK.out
  exact jo
  all_goals (rintro wj hJ;(repeat rintro _ rfl);intro K hK;simp only[Jo.z]at hK|-;go_simp;exact hK.out _ _ rfl (br _ _))
 rintro w8 hJ _ rfl _ rfl _ ⟨_,_,_,_,rfl,_⟩ _ _ _ rfl _ rfl _ ⟨_,_,_,_,rfl,_⟩ _ rfl _ ⟨K9,s9,M9,E9,rfl,q9⟩ -;simp only[Jo.z];replace XR:=XR.b hJ;replace HB:=Hqb HB hJ;have xXR:=XR.cell;have zXR0:=XR.frozen
 refine jn 9 fun K hK=>?_
 go_simp;refine hK.out _ _ ?_;clear hK K xXR zXR0;have SX:=StN.t4 XR K9 s9 M9 E9;refine jd ?_;go_wp2;exact bq (by simp[results,Tryz.results217,go_sem,SX.box.cell]) rfl ⟨_,_,_,_,rfl,q9,(SX.below HB.out (by omega))⟩
theorem qRound{w:World}{A:Option Addr}{n c:Nat}{t σ up:Bool}{x r:Int}{P:Bool->Bool->Int->Prop}(hT:Tab w)(h:Pk w A n c t x P)(hr:∀r',P σ up r'->r'=r):Calls Tryz.prog 217 #[.agg #[.slice A n c,.bool t,.int .i64 x],.bool σ,.bool up] w (PN w r):=by
 obtain⟨q,d,hnm,hk,ht,x1,x2,hp⟩:=h;have e:=hr _ (hp σ up);rw[<-sg_sgi7]at e
 by_cases h0:d=0
 ·subst h0
  obtain rfl:true=t:=ht
  rw[stk_zero7]at e;exact qround_e hT hnm hk rfl rfl x1 x2 e
 ·obtain rfl:false=t:=by rw[<-ht];exact(df h0).symm
  rw[stk_one7 h0]at e;exact qround_l hT hnm hk rfl rfl x1 x2 e
theorem ratio_pre{up s t:Bool}{z y r:Int}{α β:Nat}(hz:sg s α=z)(hy:sg t β=y)(hβ:0 < β)(hr:Rq up z y r):
  ∃P:Bool->Bool->Int->Prop,(∀σ up r',Sid up (sgi σ ((α:Int)*2^((0:Int)+(KK:Int)).toNat)) (β:Int) r'->P σ up r')/\(∀r',P (s !=t) up r'->r'=r):=by
 refine⟨_,fun _ _ _ h=>h,fun r' h=>?_⟩
 have:=rq_of hβ h
 rw[<-sg_sgi7,<-sg_sgi7,hz,hy]at this;exact this.uniq hr
theorem rq_nought{up:Bool}{y r:Int}(hy:y≠0)(h:Rq up 0 y r):r=0:=by
 have h1:=(rq_some hy).1 h
 have e:sgi (decide (y < 0)) 0*2^KK=(0:Int):=by
  have:sgi (decide (y < 0)) (0:Int)=0:=by cases decide (y < 0) <;> rfl
  rw[this,Int.zero_mul]
 rw[e]at h1
 exact h1.uniq (sg_pos hy) (sid_exact (r:=0) (sg_pos hy) (by decide) (by decide) (by rw[show vr 0=0 from rfl,Int.zero_mul]))
theorem kRatio0{w:World}{A B:Option Addr}{n c m d:Nat}{s t up:Bool}{z y r:Int}(hT:Tab w)(h:Wr w s A n c z)(k:Wr w t B m d y)(hn:n<=3500)(hm:m<=3500)(hr:Rq up z y r):Calls Tryz.prog 173 #[.agg #[.bool s,.slice A n c],.agg #[.bool t,.slice B m d],.bool up] w (PN w r):=by
 obtain⟨σ,hσ⟩:∃σ,cmpI y 0=σ:=⟨_,rfl⟩;obtain⟨τ,hτ⟩:∃τ,cmpI z 0=τ:=⟨_,rfl⟩;have HS:=ie hσ;have HZ:=ie hτ
 go_enter Tryz.func173,Tryz.ntmps173
 go_upto_region 1 with (fail)
 generalize hW1:((w.alloc _).alloc _).alloc _=w1 at *;obtain⟨X3,X4,XR,HB⟩:=Bo.en3 hW1;replace hT:=hT.below HB.out;replace h:=h.below HB.out;replace k:=k.below HB.out;clear hW1;have xX4:=X4.cell
 go_wp2_with fail
 refine(wSign k HS.out).mono ?_;rintro ee w2 ⟨rfl,B⟩;clear xX4;replace X3:=X3.b B;replace X4:=X4.b B;replace XR:=XR.b B;replace hT:=hT.b B;replace h:=h.b B;replace k:=k.b B;replace HB:=Hqb HB B;clear B
 by_cases hy0:y=0
 ·have hs0:(σ==0)=true:=by rw[<-hσ,cmpI_eq hy0];rfl
  subst hy0;have HRR:=ie (rq_none.1 hr).symm;clear h k hT hr hσ hτ HS HZ
  go_wp2_with fail
  refine(qAway HRR.out).mono ?_;rintro ee w6 ⟨K3,s3,M3,E3,rfl,q3,B⟩;replace X3:=X3.b B;replace X4:=X4.b B;replace XR:=XR.b B;replace HB:=Hqb HB B;clear B;have xXR:=XR.cell;have zXR0:=XR.frozen;go_wp2;clear xXR zXR0;have SX:=StN.t4 XR K3 s3 M3 E3;exact bq (by simp[results,Tryz.results173,go_sem,SX.box.cell]) rfl ⟨_,_,_,_,rfl,q3,(SX.below HB.out (by omega))⟩
 ·have hs0:(σ==0)=false:=by
   have:σ≠0:=fun e=>hy0 (cmpI_zero.1 (hσ.trans e))
   simpa using this
  clear hσ HS;have xX3:=X3.cell
  go_wp2_with fail
  refine(wSign h HZ.out).mono ?_;rintro ee w3 ⟨rfl,B⟩;clear xX3;replace X3:=X3.b B;replace X4:=X4.b B;replace XR:=XR.b B;replace hT:=hT.b B;replace h:=h.b B;replace k:=k.b B;replace HB:=Hqb HB B;clear B
  by_cases hz0:z=0
  ·have hs1:(τ==0)=true:=by rw[<-hτ,cmpI_eq hz0];rfl
   subst hz0
   obtain rfl:=rq_nought hy0 hr
   clear h k hT hr hτ HZ;have xXR:=XR.cell;have zXR0:=XR.frozen;have xX3:=X3.cell;have xX4:=X4.cell;go_wp2;clear xXR zXR0 xX3 xX4;have SX:=StN.t4 XR 0 false 0 0;exact bq (by simp[results,Tryz.results173,go_sem,SX.box.cell]) rfl ⟨_,_,_,_,rfl,Fq.nought,(SX.below HB.out (by omega))⟩
  ·have hs1:(τ==0)=false:=by
    have:τ≠0:=fun e=>hz0 (cmpI_zero.1 (hτ.trans e))
    simpa using this
   clear hτ HZ;obtain⟨α,ha,hz⟩:=h;obtain⟨β,hb,hy⟩:=k
   have α0:0 < α:=by
    rcases Nat.eq_zero_or_pos α with e | e
    ·subst e
     exact absurd (show z=0 by rw[<-hz];cases s <;> rfl) hz0
    ·exact e
   have β0:0 < β:=by
    rcases Nat.eq_zero_or_pos β with e | e
    ·subst e
     exact absurd (show y=0 by rw[<-hy];cases t <;> rfl) hy0
    ·exact e
   obtain⟨P,hP,hPr⟩:=ratio_pre hz hy β0 hr;have hba:=ha.blen_le;have hbb:=hb.blen_le
   have eb3:(0:Int)-((blen β:Int)-(blen α:Int)+64)<=2097152:=by omega
   have HPP:=ie hP;have HPR:=ie hPr;clear hP hPr hr hz hy hz0 hy0 hba hbb
   go_upto_region 5 with (fail)
   refine jk [0,1,2,3,4,5,6,7,8,9,10,11] [some 18,some 19,some 20,some 21,some 22,some 23,some 24,some 25,some 26,some 27,some 28,some 29,none] [[],[0],[],[2],[1,3],[],[5],[],[7],[6,8],[],[4,9,10],[]] 13 1 [Jo.qp w.heap.size 1,Jo.Fact.eq (.slice A n c),Jo.qp (w.heap.size+1) 1,Jo.Fact.eq (.slice B m d),Jo.Fact.pk P,Jo.qp w.heap.size 0,Jo.qb s,Jo.qp (w.heap.size+1) 0,Jo.qb t,Jo.Fact.eq (.bool (s !=t)),Jo.qb up,Jo.Fact.num r,Jo.Fact.any] ?_ ?_
   ·refine jm ?_ ?_;rotate_left
    refine jm ?_ ?_
    ·rintro wj hJ _ rfl K hK;simp only[Jo.z]at hK|-;have xX31:=(X3.b hJ).a 1 (.slice A n c) rfl;go_simp;exact hK.out _ _ rfl (br _ _)
    refine jm ?_ ?_;rotate_left
    refine jm ?_ ?_
    ·rintro wj hJ _ rfl K hK;simp only[Jo.z]at hK|-;have xX41:=(X4.b hJ).a 1 (.slice B m d) rfl;go_simp;exact hK.out _ _ rfl (br _ _)
    refine jm ?_ ?_
    ·rintro wj hJ _ rfl _ rfl K hK;simp only[Jo.z]at hK|-;go_simp;refine(qDivided (ha.b hJ) (hb.b hJ) (by omega) (by omega) α0 β0 (by decide) (by decide) eb3 HPP.out).mono ?_;rintro ee wk ⟨A7,n7,c7,t7,x7,rfl,p7,B⟩;exact hK.out _ _ ⟨A7,n7,c7,t7,x7,rfl,p7⟩ B
    refine jm ?_ ?_;rotate_left
    refine jm ?_ ?_
    ·rintro wj hJ _ rfl K hK;simp only[Jo.z]at hK|-;have xX30:=(X3.b hJ).a 0 (.bool s) rfl;go_simp;exact hK.out _ _ rfl (br _ _)
    refine jm ?_ ?_;rotate_left
    refine jm ?_ ?_
    ·rintro wj hJ _ rfl K hK;simp only[Jo.z]at hK|-;have xX40:=(X4.b hJ).a 0 (.bool t) rfl;go_simp;exact hK.out _ _ rfl (br _ _)
    iterate 2 (refine jm ?_ ?_;rotate_left)
    refine jm ?_ ?_
    ·rintro wj hJ _ ⟨A7,n7,c7,t7,x7,rfl,p7⟩ _ rfl _ rfl K hK;simp only[Jo.z]at hK|-;go_simp;exact Jo.n1 (qRound (hT.b hJ) p7 HPR.out) hK.out
    exact jo
    all_goals (rintro wj hJ;(repeat rintro _ rfl);intro K hK;simp only[Jo.z]at hK|-;go_simp;exact hK.out _ _ rfl (br _ _))
   rintro w8 hJ _ _ _ rfl _ _ _ rfl _ ⟨_,_,_,_,_,rfl,_⟩ _ _ _ rfl _ _ _ rfl _ rfl _ rfl _ ⟨K9,s9,M9,E9,rfl,q9⟩ -;simp only[Jo.z];replace XR:=XR.b hJ;replace HB:=Hqb HB hJ;have xXR:=XR.cell;have zXR0:=XR.frozen
   refine jn 12 fun K hK=>?_
   go_simp;refine hK.out _ _ ?_;clear hK K xXR zXR0;have SX:=StN.t4 XR K9 s9 M9 E9;refine jd ?_;go_wp2;exact bq (by simp[results,Tryz.results173,go_sem,SX.box.cell]) rfl ⟨_,_,_,_,rfl,q9,(SX.below HB.out (by omega))⟩
theorem kRatio{w:World}{A B:Option Addr}{n c m d:Nat}{s t up:Bool}{z y r:Int}(hT:Tab w)(h:Wr w s A n c z)(k:Wr w t B m d y)(hn:n<=20)(hm:m<=20)(hr:Rq up z y r):Calls Tryz.prog 173 #[.agg #[.bool s,.slice A n c],.agg #[.bool t,.slice B m d],.bool up] w (PN w r):=kRatio0 hT h k (by omega) (by omega) hr
theorem cinv_lo{w:World}{n:Int}(h:n < 2):Calls Tryz.prog 174 #[.int .i64 n] w (W2 w 1000000 0 0):=by
 have t1:decide (n < 2)=true:=dt h
 go_enter Tryz.func174,Tryz.ntmps174
 go_upto_region 1 with (fail)
 generalize hW1:(w.alloc _).alloc _=w1 at *;obtain⟨XR,XS,HB⟩:=Bo.en2 hW1;clear hW1;have xXR:=XR.cell;have zXR0:=XR.frozen;have xXS:=XS.cell;have zXS0:=XS.frozen;go_wp2;clear xXR zXR0 xXS zXS0;generalize hS:(w1.setCell _ _).setCell _ _=w2 at *;have SX:=StN.of2 XR hS;replace XS:=XS.s SX;replace HB:=Hqs HB SX (by omega)
 replace XR:=SX.box;clear SX hS;generalize hS:(w2.setCell _ _).setCell _ _=w3 at *;have SX:=StN.of2 XS hS;replace XR:=XR.s SX;replace HB:=Hqs HB SX (by omega);replace XS:=SX.box;clear SX hS;exact bq (v:= .tuple #[.agg #[.bool false,.slice none 0 0],.agg #[.bool false,.slice none 0 0]]) (by simp[results,Tryz.results174,go_sem,XR.cell,XS.cell]) rfl ⟨_,_,_,_,_,_,_,_,rfl,⟨Nm.zero,rfl⟩,⟨Nm.zero,rfl⟩,Nat.zero_le _,Nat.zero_le _,HB.out⟩
theorem cinv_hi{w:World}{n:Int}(h:1000 < n):Calls Tryz.prog 174 #[.int .i64 n] w (W2 w 1000000 0 0):=by
 have t1:decide (n < 2)=false:=df (by omega)
 have t2:decide (1000 < n)=true:=dt h
 go_enter Tryz.func174,Tryz.ntmps174
 go_upto_region 1 with (fail)
 generalize hW1:(w.alloc _).alloc _=w1 at *;obtain⟨XR,XS,HB⟩:=Bo.en2 hW1;clear hW1;have xXR:=XR.cell;have zXR0:=XR.frozen;have xXS:=XS.cell;have zXS0:=XS.frozen;go_wp2;clear xXR zXR0 xXS zXS0;generalize hS:(w1.setCell _ _).setCell _ _=w2 at *;have SX:=StN.of2 XR hS;replace XS:=XS.s SX;replace HB:=Hqs HB SX (by omega)
 replace XR:=SX.box;clear SX hS;generalize hS:(w2.setCell _ _).setCell _ _=w3 at *;have SX:=StN.of2 XS hS;replace XR:=XR.s SX;replace HB:=Hqs HB SX (by omega);replace XS:=SX.box;clear SX hS;exact bq (v:= .tuple #[.agg #[.bool false,.slice none 0 0],.agg #[.bool false,.slice none 0 0]]) (by simp[results,Tryz.results174,go_sem,XR.cell,XS.cell]) rfl ⟨_,_,_,_,_,_,_,_,rfl,⟨Nm.zero,rfl⟩,⟨Nm.zero,rfl⟩,Nat.zero_le _,Nat.zero_le _,HB.out⟩
theorem cinv_in{w:World}{n:Int}(h1:2<=n)(h2:n<=1000){a b:Int}(hr:invP n=(a,b)):Calls Tryz.prog 174 #[.int .i64 n] w (W2 w 1000000 a b):=by
 have t1:decide (n < 2)=false:=df (by omega)
 have t2:decide (1000 < n)=false:=df (by omega)
 obtain⟨R,hR⟩:∃R,invG n 200 0 0 n=R:=⟨_,rfl⟩
 have hans:R.1-((R.2:Int)+1)=a/\R.1+((R.2:Int)+1)=b:=by
  unfold invP at hr
  rw[if_neg (by omega),hR]at hr
  injection hr with e1 e2
  exact⟨by omega,e2⟩
 have HR:=ie hR;have HA:=ie hans.1;have HBB:=ie hans.2;clear hr hR hans
 go_enter Tryz.func174,Tryz.ntmps174
 go_upto_region 1 with (fail)
 generalize hW1:(w.alloc _).alloc _=w1 at *;obtain⟨XR,XS,HB⟩:=Bo.en2 hW1;clear hW1;have G0:=XS.lt
 go_wp2_with fail
 refine(cTerms h1 h2).mono ?_;rintro ee w2 ⟨gp,go,gb,s6,A6,n6,c6,s7,A7,n7,c7,rfl,XP,XO,XB,p6,p7,k6,k7,hpo,hpb,hob,hg1,hg2,B⟩;replace XR:=XR.b B;replace XS:=XS.b B;replace HB:=Hqb HB B;clear B;clear t1 t2;have hsz:=HB.out.size;have ltXR:=XR.lt;have ltXS:=XS.lt
 go_wp2_with fail
 refine(cAlt XP XO XB p6 p7 k6 k7 hpo hpb hob h1 h2 HR.out).mono ?_;rintro ee w3 ⟨s4,A4,n4,c4,rfl,p4,k4,hk,B⟩;replace XR:=XR.duo B (by omega) (by omega);replace XS:=XS.duo B (by omega) (by omega);replace HB:=ie (B.below HB.out (by omega) (by omega) (by omega));clear B XP XO XB p6 p7 HR;clear hg1 hg2 hpo hpb hob ltXR ltXS hsz G0;obtain⟨R1,R2⟩:=R;simp only at p4 hk HA HBB|-
 go_upto_region 4 with (fail)
 have nX4XR:=XR.lt;have nX4XS:=XS.lt;generalize hWn:w3.alloc _=w4 at *;obtain⟨X4,BW⟩:=Bo.nw hWn;clear hWn;replace XR:=XR.b BW;replace XS:=XS.b BW;replace p4:=p4.b BW;replace HB:=Hqb HB BW;clear BW;have HW1:=iw ((R2:Int)+1);have HW2:=jw ((R2:Int)+1);have hw1:=HW1.out;have hw2:=HW2.out
 go_wp2_with fail
 refine(wFrom ((R2:Int)+1) _ (by omega) (by omega)).mono ?_;rintro ee w5 ⟨s5,A5,n5,c5,rfl,p5,k5,B⟩;replace XR:=XR.b B;replace XS:=XS.b B;replace X4:=X4.b B;replace p4:=p4.b B;replace HB:=Hqb HB B;clear B;clear hw1 hw2 HW1 HW2;have hsz:=HB.out.size
 go_upto_region 5 with (fail)
 have nX6XR:=XR.lt;have nX6XS:=XS.lt;have nX6X4:=X4.lt;generalize hWn:w5.alloc _=w6 at *;obtain⟨X6,BW⟩:=Bo.nw hWn;clear hWn;replace XR:=XR.b BW;replace XS:=XS.b BW;replace X4:=X4.b BW;replace p4:=p4.b BW;replace p5:=p5.b BW;replace HB:=Hqb HB BW;clear BW;have ltXR:=XR.lt;have ltXS:=XS.lt;have ltX4:=X4.lt;have ltX6:=X6.lt
 refine jk [0,1,2,3,4,5] [some 24,some 25,some 26,some 27,some 28,some 29,none,none] [[],[],[0,1],[],[],[3,4],[],[]] 8 2 [Jo.Fact.eq (.agg #[.bool s4,.slice A4 n4 c4]),Jo.Fact.eq (.agg #[.bool s5,.slice A5 n5 c5]),Jo.Fact.wn (a) (1000000),Jo.Fact.eq (.agg #[.bool s4,.slice A4 n4 c4]),Jo.Fact.eq (.agg #[.bool s5,.slice A5 n5 c5]),Jo.Fact.wn (b) (1000000),Jo.Fact.any,Jo.Fact.any] ?_ ?_
 ·iterate 2 (refine jm ?_ ?_;rotate_left)
  refine jm ?_ ?_
  ·rintro wj hJ _ rfl _ rfl K hK;simp only[Jo.z]at hK|-;go_simp;exact Jo.w1 (wSub (p4.b hJ).wr (p5.b hJ).wr (by omega) (by omega) HA.out) hK.out
  iterate 2 (refine jm ?_ ?_;rotate_left)
  refine jm ?_ ?_
  ·rintro wj hJ _ rfl _ rfl K hK;simp only[Jo.z]at hK|-;go_simp;exact Jo.w1 (wAdd (p4.b hJ).wr (p5.b hJ).wr (by omega) (by omega) HBB.out) hK.out
  exact jo
  all_goals (rintro wj hJ;(repeat rintro _ rfl);intro K hK;simp only[Jo.z]at hK|-;have xX4:=(X4.b hJ).cell;have xX6:=(X6.b hJ).cell;go_simp;exact hK.out _ _ rfl (br _ _))
 rintro w9 hJ _ rfl _ rfl _ ⟨s31,A31,n31,c31,rfl,p31,k31⟩ _ rfl _ rfl _ ⟨s33,A33,n33,c33,rfl,p33,k33⟩ -;simp only[Jo.z];replace XR:=XR.b hJ;replace XS:=XS.b hJ;replace HB:=Hqb HB hJ;have xXR:=XR.cell;have zXR0:=XR.frozen
 refine jn 6 fun K hK=>?_
 go_simp;refine hK.out _ _ ?_;clear hK K xXR zXR0;generalize hS:(w9.setCell _ _).setCell _ _=wA at *;have SX:=StN.of2 XR hS;replace XS:=XS.s SX;replace p31:=p31.s SX;replace p33:=p33.s SX;replace HB:=Hqs HB SX (by omega);replace XR:=SX.box;clear SX hS;have xXS:=XS.cell;have zXS0:=XS.frozen
 refine jn 7 fun K hK=>?_
 go_simp;refine hK.out _ _ ?_;clear hK K xXS zXS0;generalize hS:(wA.setCell _ _).setCell _ _=wB at *;have SX:=StN.of2 XS hS;replace XR:=XR.s SX;replace p31:=p31.s SX;replace p33:=p33.s SX;replace HB:=Hqs HB SX (by omega);replace XS:=SX.box;clear SX hS;refine jd ?_;go_wp2;exact bq (v:= .tuple #[.agg #[.bool s31,.slice A31 n31 c31],.agg #[.bool s33,.slice A33 n33 c33]]) (by simp[results,Tryz.results174,go_sem,XR.cell,XS.cell]) rfl ⟨s31,A31,n31,c31,s33,A33,n33,c33,rfl,p31,p33,k31,k33,HB.out⟩
theorem cInv{w:World}{n a b:Int}(hr:invP n=(a,b)):Calls Tryz.prog 174 #[.int .i64 n] w (W2 w 1000000 a b):=by
 by_cases h1:n < 2
 ·unfold invP at hr
  rw[if_pos (.inl h1)]at hr
  injection hr with e1 e2
  subst e1;subst e2;exact cinv_lo h1
 ·by_cases h2:1000 < n
  ·unfold invP at hr
   rw[if_pos (.inr h2)]at hr
   injection hr with e1 e2
   subst e1;subst e2;exact cinv_hi h2
  ·exact cinv_in (by omega) (by omega) hr
theorem cFour{w:World}{A:Option Addr}{n c:Nat}{s:Bool}{x:Int}{B:Option Addr}{m d:Nat}{t:Bool}{y:Int}{r:Int}(h:Wr w s A n c x)(k:Wr w t B m d y)(hn:n<=1000000)(hm:m<=1000000)(hr:16*x-4*y=r):Calls Tryz.prog 175 #[.agg #[.bool s,.slice A n c],.agg #[.bool t,.slice B m d]] w (W1 w 10000000 r):=by
 have HR:=ie hr
 have H1:Hid (prd [16,x]=16*x):=ie (by show 1*16*x=_;rw[Int.one_mul])
 have H2:Hid (prd [4,y]=4*y):=ie (by show 1*4*y=_;rw[Int.one_mul])
 clear hr
 go_enter Tryz.func175,Tryz.ntmps175
 go_upto_region 1 with (fail)
 generalize hW1:((w.alloc _).alloc _).alloc _=w1 at *;obtain⟨X2,X3,XR,HB⟩:=Bo.en3 hW1;replace h:=h.below HB.out;replace k:=k.below HB.out;clear hW1;have ltX2:=X2.lt;have ltX3:=X3.lt;have ltXR:=XR.lt;refine jk [0,1,2,3,4,5,6,7,8] [some 5,some 6,some 7,some 8,some 9,some 10,some 11,some 12,some 13,none] [[],[],[0,1],[2],[],[],[4,5],[6],[3,7],[]] 10 1 [Jo.Fact.wn (16) (2),Jo.Fact.eq (.agg #[.bool s,.slice A n c]),Jo.Fact.wl 1000000 2 [16,x],Jo.Fact.wn (16*x) (2000001),Jo.Fact.wn (4) (2),Jo.Fact.eq (.agg #[.bool t,.slice B m d]),Jo.Fact.wl 1000000 2 [4,y],Jo.Fact.wn (4*y) (2000001),Jo.Fact.wn (r) (10000000),Jo.Fact.any] ?_ ?_
 ·refine jm ?_ ?_
  ·rintro wj hJ K hK;simp only[Jo.z]at hK|-;go_simp;exact Jo.w1 (wFrom 16 _ (by decide) (by decide)) hK.out
  refine jm ?_ ?_;rotate_left
  refine jm ?_ ?_
  ·rintro wj hJ _ ⟨s20,A20,n20,c20,rfl,p20,k20⟩ _ rfl K hK;simp only[Jo.z]at hK|-;go_simp;exact hK.out _ _ ⟨_,_,rfl,Wl.lit2 rfl p20.wr (h.b hJ) (by omega) (by omega)⟩ (bel1 _ _)
  refine jm ?_ ?_
  ·rintro wj hJ _ ⟨A21,c21,rfl,h21⟩ K hK;simp only[Jo.z]at hK|-;go_simp;exact Jo.w1 (wMul h21 (by decide) H1.out) hK.out
  refine jm ?_ ?_
  ·rintro wj hJ K hK;simp only[Jo.z]at hK|-;go_simp;exact Jo.w1 (wFrom 4 _ (by decide) (by decide)) hK.out
  refine jm ?_ ?_;rotate_left
  refine jm ?_ ?_
  ·rintro wj hJ _ ⟨s23,A23,n23,c23,rfl,p23,k23⟩ _ rfl K hK;simp only[Jo.z]at hK|-;go_simp;exact hK.out _ _ ⟨_,_,rfl,Wl.lit2 rfl p23.wr (k.b hJ) (by omega) (by omega)⟩ (bel1 _ _)
  refine jm ?_ ?_
  ·rintro wj hJ _ ⟨A24,c24,rfl,h24⟩ K hK;simp only[Jo.z]at hK|-;go_simp;exact Jo.w1 (wMul h24 (by decide) H2.out) hK.out
  refine jm ?_ ?_
  ·rintro wj hJ _ ⟨s22,A22,n22,c22,rfl,p22,k22⟩ _ ⟨s25,A25,n25,c25,rfl,p25,k25⟩ K hK;simp only[Jo.z]at hK|-;go_simp;exact Jo.w1 (wSub p22.wr p25.wr (by omega) (by omega) HR.out) hK.out
  exact jo
  all_goals (rintro wj hJ;(repeat rintro _ rfl);intro K hK;simp only[Jo.z]at hK|-;have xX2:=(X2.b hJ).cell;have xX3:=(X3.b hJ).cell;go_simp;exact hK.out _ _ rfl (br _ _))
 rintro w2 hJ _ ⟨s20,A20,n20,c20,rfl,p20,k20⟩ _ rfl _ ⟨_,_,rfl,_⟩ _ ⟨s22,A22,n22,c22,rfl,p22,k22⟩ _ ⟨s23,A23,n23,c23,rfl,p23,k23⟩ _ rfl _ ⟨_,_,rfl,_⟩ _ ⟨s25,A25,n25,c25,rfl,p25,k25⟩ _ ⟨s26,A26,n26,c26,rfl,p26,k26⟩ -;simp only[Jo.z];replace XR:=XR.b hJ;replace HB:=Hqb HB hJ;clear h k;have xXR:=XR.cell;have zXR0:=XR.frozen
 refine jn 9 fun K hK=>?_
 go_simp;refine hK.out _ _ ?_;clear hK K xXR zXR0;have SX:=StN.t2 XR s26 A26 n26 c26;replace p26:=p26.s SX;refine jd ?_;go_wp2;exact bq (v:= .agg #[.bool s26,.slice A26 n26 c26]) (by simp[results,Tryz.results175,go_sem,SX.box.cell]) rfl ⟨s26,A26,n26,c26,rfl,p26,k26,(SX.below HB.out (by omega))⟩
theorem cBounds{w:World}:Calls Tryz.prog 103 #[] w (W2 w 7 PLo PHi):=by
 obtain⟨b1,b2⟩:=bounds_are;obtain⟨a,b,h5⟩:∃a b,invP 5=(a,b):=⟨_,_,rfl⟩;obtain⟨c,d,h239⟩:∃a b,invP 239=(a,b):=⟨_,_,rfl⟩;rw[h5,h239]at b1 b2;have H5:=ie h5;have H239:=ie h239
 have HB1:Hid (16*a-4*d=PLo):=ie (by rw[<-b1];omega)
 have HB2:Hid (16*b-4*c=PHi):=ie (by rw[<-b2];omega)
 clear h5 h239 b1 b2
 go_enter Tryz.func103,Tryz.ntmps103
 go_upto_region 1 with (fail)
 generalize hW1:(w.alloc _).alloc _=w1 at *;obtain⟨XR,XS,HB⟩:=Bo.en2 hW1;clear hW1
 go_wp2_with fail
 refine(cInv H5.out).mono ?_;rintro ee w2 ⟨s2,A2,n2,c2,s3,A3,n3,c3,rfl,p2,p3,k2,k3,B⟩;replace XR:=XR.b B;replace XS:=XS.b B;replace HB:=Hqb HB B;clear B;have hsz2:=HB.out.size
 go_upto_region 2 with (fail)
 have e4X3:(World.alloc w2 (.cells #[.bool s2,.slice A2 n2 c2] 27)).heap.size=w2.heap.size+1:=by simp
 have nX2XR:=XR.lt;have nX2XS:=XS.lt;have BX:=bel1 w2 (.cells #[.bool s2,.slice A2 n2 c2] 27);replace XR:=XR.b BX;replace XS:=XS.b BX;replace p2:=p2.b BX;replace p3:=p3.b BX;replace HB:=ie (bt HB.out BX)
 have X2:=Bo.new w2 #[.bool s2,.slice A2 n2 c2] 27;generalize hWn:World.alloc w2 (.cells #[.bool s2,.slice A2 n2 c2] 27)=w3 at *;clear hWn;have nX3XR:=XR.lt;have nX3XS:=XS.lt;have nX3X2:=X2.lt;generalize hWn:w3.alloc _=w4 at *;obtain⟨X3,BW⟩:=Bo.nw hWn;clear hWn;replace XR:=XR.b BW;replace XS:=XS.b BW;replace X2:=X2.b BW;replace p2:=p2.b BW
 replace p3:=p3.b BW;replace HB:=Hqb HB BW;clear BW;rw[e4X3]at X3;clear e4X3
 go_wp2_with fail
 refine(cInv H239.out).mono ?_;rintro ee w5 ⟨s4,A4,n4,c4,s5,A5,n5,c5,rfl,p4,p5,k4,k5,B⟩;replace XR:=XR.b B;replace XS:=XS.b B;replace X2:=X2.b B;replace X3:=X3.b B;replace p2:=p2.b B;replace p3:=p3.b B;replace HB:=Hqb HB B;clear B;have hsz4:=HB.out.size
 go_upto_region 3 with (fail)
 have e4X5:(World.alloc w5 (.cells #[.bool s4,.slice A4 n4 c4] 27)).heap.size=w5.heap.size+1:=by simp
 have nX4XR:=XR.lt;have nX4XS:=XS.lt;have nX4X2:=X2.lt;have nX4X3:=X3.lt;have BX:=bel1 w5 (.cells #[.bool s4,.slice A4 n4 c4] 27);replace XR:=XR.b BX;replace XS:=XS.b BX;replace X2:=X2.b BX;replace X3:=X3.b BX;replace p2:=p2.b BX
 replace p3:=p3.b BX;replace p4:=p4.b BX;replace p5:=p5.b BX;replace HB:=ie (bt HB.out BX);have X4:=Bo.new w5 #[.bool s4,.slice A4 n4 c4] 27;generalize hWn:World.alloc w5 (.cells #[.bool s4,.slice A4 n4 c4] 27)=w6 at *
 clear hWn;have nX5XR:=XR.lt;have nX5XS:=XS.lt;have nX5X2:=X2.lt;have nX5X3:=X3.lt;have nX5X4:=X4.lt;generalize hWn:w6.alloc _=w7 at *;obtain⟨X5,BW⟩:=Bo.nw hWn;clear hWn;replace XR:=XR.b BW;replace XS:=XS.b BW;replace X2:=X2.b BW;replace X3:=X3.b BW;replace X4:=X4.b BW;replace p2:=p2.b BW;replace p3:=p3.b BW;replace p4:=p4.b BW
 replace p5:=p5.b BW;replace HB:=Hqb HB BW;clear BW;rw[e4X5]at X5;clear e4X5;have ltXR:=XR.lt;have ltXS:=XS.lt;have ltX2:=X2.lt;have ltX3:=X3.lt;have ltX4:=X4.lt;have ltX5:=X5.lt;refine jk [0,1,2,3,4,5] [some 14,some 15,some 16,some 17,some 18,some 19,none,none] [[],[],[0,1],[],[],[3,4],[],[]] 8 2 [Jo.Fact.eq (.agg #[.bool s2,.slice A2 n2 c2]),Jo.Fact.eq (.agg #[.bool s5,.slice A5 n5 c5]),Jo.Fact.wn (PLo) (7),Jo.Fact.eq (.agg #[.bool s3,.slice A3 n3 c3]),Jo.Fact.eq (.agg #[.bool s4,.slice A4 n4 c4]),Jo.Fact.wn (PHi) (7),Jo.Fact.any,Jo.Fact.any] ?_ ?_
 ·iterate 2 (refine jm ?_ ?_;rotate_left)
  refine jm ?_ ?_
  ·rintro wj hJ _ rfl _ rfl K hK;simp only[Jo.z]at hK|-;go_simp;refine(cFour (p2.b hJ).wr (p5.b hJ).wr k2 k5 HB1.out).mono ?_;rintro ee wk ⟨s22,A22,n22,c22,rfl,p22,k22,B⟩;exact hK.out _ _ ⟨s22,A22,n22,c22,rfl,p22,p22.fits (by decide)⟩ B
  iterate 2 (refine jm ?_ ?_;rotate_left)
  refine jm ?_ ?_
  ·rintro wj hJ _ rfl _ rfl K hK;simp only[Jo.z]at hK|-;go_simp;refine(cFour (p3.b hJ).wr (p4.b hJ).wr k3 k4 HB2.out).mono ?_;rintro ee wk ⟨s25,A25,n25,c25,rfl,p25,k25,B⟩;exact hK.out _ _ ⟨s25,A25,n25,c25,rfl,p25,p25.fits (by decide)⟩ B
  exact jo
  all_goals (rintro wj hJ;(repeat rintro _ rfl);intro K hK;simp only[Jo.z]at hK|-;have xX2:=(X2.b hJ).cell;have xX5:=(X5.b hJ).cell;have xX3:=(X3.b hJ).cell;have xX4:=(X4.b hJ).cell;go_simp;exact hK.out _ _ rfl (br _ _))
 rintro w8 hJ _ rfl _ rfl _ ⟨s22,A22,n22,c22,rfl,p22,k22⟩ _ rfl _ rfl _ ⟨s25,A25,n25,c25,rfl,p25,k25⟩ -;simp only[Jo.z];replace XR:=XR.b hJ;replace XS:=XS.b hJ;replace HB:=Hqb HB hJ;clear p2 p3 p4 p5;have xXR:=XR.cell;have zXR0:=XR.frozen
 refine jn 6 fun K hK=>?_
 go_simp;refine hK.out _ _ ?_;clear hK K xXR zXR0;generalize hS:(w8.setCell _ _).setCell _ _=w9 at *;have SX:=StN.of2 XR hS;replace XS:=XS.s SX;replace p22:=p22.s SX;replace p25:=p25.s SX;replace HB:=Hqs HB SX (by omega);replace XR:=SX.box;clear SX hS;have xXS:=XS.cell;have zXS0:=XS.frozen
 refine jn 7 fun K hK=>?_
 go_simp;refine hK.out _ _ ?_;clear hK K xXS zXS0;generalize hS:(w9.setCell _ _).setCell _ _=wA at *;have SX:=StN.of2 XS hS;replace XR:=XR.s SX;replace p22:=p22.s SX;replace p25:=p25.s SX;replace HB:=Hqs HB SX (by omega);replace XS:=SX.box;clear SX hS;refine jd ?_;go_wp2;exact bq (v:= .tuple #[.agg #[.bool s22,.slice A22 n22 c22],.agg #[.bool s25,.slice A25 n25 c25]]) (by simp[results,Tryz.results103,go_sem,XR.cell,XS.cell]) rfl ⟨s22,A22,n22,c22,s25,A25,n25,c25,rfl,p22,p25,k22,k25,HB.out⟩
theorem cPart{w:World}{A:Option Addr}{n c:Nat}{s:Bool}{x:Int}{B:Option Addr}{m d:Nat}{t:Bool}{y:Int}{r u:Int}{z:Sp}(hT:Tab w)(h:Wr w s A n c x)(k:Wr w t B m d y)(hn:n<=20)(hm:m<=20)(hr:Rq false x SC r)(hu:Rq true y SC u)(hz:mkI r u=z):Calls Tryz.prog 102 #[.agg #[.bool s,.slice A n c],.agg #[.bool t,.slice B m d]] w (PV w z):=by
 have HR:=ie hr;have HU:=ie hu;have HZ:=ie hz;clear hr hu hz
 go_enter Tryz.func102,Tryz.ntmps102
 go_upto_region 1 with (fail)
 generalize hW1:((w.alloc _).alloc _).alloc _=w1 at *;obtain⟨X2,X3,XR,HB⟩:=Bo.en3 hW1;replace hT:=hT.below HB.out;replace h:=h.below HB.out;replace k:=k.below HB.out;clear hW1;have ltX2:=X2.lt;have ltX3:=X3.lt;have ltXR:=XR.lt;refine jk [0,1,2,3,4,5,6] [some 5,some 6,some 7,some 8,some 9,some 10,some 11,none] [[],[],[0,1],[],[],[3,4],[2,5],[]] 8 1 [Jo.Fact.eq (.agg #[.bool s,.slice A n c]),Jo.Fact.wn (SC) (8),Jo.Fact.num r,Jo.Fact.eq (.agg #[.bool t,.slice B m d]),Jo.Fact.wn (SC) (8),Jo.Fact.num u,Jo.Fact.iv z,Jo.Fact.any] ?_ ?_
 ·refine jm ?_ ?_;rotate_left
  refine jm ?_ ?_
  ·rintro wj hJ K hK;simp only[Jo.z]at hK|-;go_simp;exact Jo.w1 (cScale) hK.out
  refine jm ?_ ?_
  ·rintro wj hJ _ rfl _ ⟨s20,A20,n20,c20,rfl,p20,k20⟩ K hK;simp only[Jo.z]at hK|-;go_simp;exact Jo.n1 (kRatio (hT.b hJ) (h.b hJ) p20.wr hn (by omega) HR.out) hK.out
  refine jm ?_ ?_;rotate_left
  refine jm ?_ ?_
  ·rintro wj hJ K hK;simp only[Jo.z]at hK|-;go_simp;exact Jo.w1 (cScale) hK.out
  refine jm ?_ ?_
  ·rintro wj hJ _ rfl _ ⟨s22,A22,n22,c22,rfl,p22,k22⟩ K hK;simp only[Jo.z]at hK|-;go_simp;exact Jo.n1 (kRatio (hT.b hJ) (k.b hJ) p22.wr hm (by omega) HU.out) hK.out
  refine jm ?_ ?_
  ·rintro wj hJ _ ⟨K21,s21,M21,E21,rfl,q21⟩ _ ⟨K23,s23,M23,E23,rfl,q23⟩ K hK;simp only[Jo.z]at hK|-;go_simp;exact Jo.v1 (kvMake q21.top q23.top q21.rk q23.rk HZ.out) hK.out
  exact jo
  all_goals (rintro wj hJ;(repeat rintro _ rfl);intro K hK;simp only[Jo.z]at hK|-;have xX2:=(X2.b hJ).cell;have xX3:=(X3.b hJ).cell;go_simp;exact hK.out _ _ rfl (br _ _))
 rintro w2 hJ _ rfl _ ⟨s20,A20,n20,c20,rfl,p20,k20⟩ _ ⟨K21,s21,M21,E21,rfl,q21⟩ _ rfl _ ⟨s22,A22,n22,c22,rfl,p22,k22⟩ _ ⟨K23,s23,M23,E23,rfl,q23⟩ _ ⟨e24,K24,s24,M24,E24,K24b,s24b,M24b,E24b,rfl,v24⟩ -;simp only[Jo.z];replace XR:=XR.b hJ;replace HB:=Hqb HB hJ;clear h k hT;have xXR:=XR.cell
 have zXR0:=XR.frozen
 refine jn 7 fun K hK=>?_
 go_simp;refine hK.out _ _ ?_;clear hK K xXR zXR0;have SX:=StN.t9 XR e24 K24 s24 M24 E24 K24b s24b M24b E24b;refine jd ?_;go_wp2;exact bq (by simp[results,Tryz.results102,go_sem,SX.box.cell]) rfl ⟨_,_,_,_,_,_,_,_,_,rfl,v24,(SX.below HB.out (by omega))⟩
theorem cFix{w:World}{D M E:Int}{s:Bool}{x z:Int}{t:Bool}(hT:Tab w)(h0:0<=M)(hM:LQ M)(hx:rk D s M E=x)(hz:fixI x=z)(ht:fixB x=t):Calls Tryz.prog 157 #[VQ D s M E] w (WB w 140000 z t):=by
 delta VQ
 obtain⟨m,hm⟩:∃m,mxp [x,-x]=m:=⟨_,rfl⟩;obtain⟨σ,hσ⟩:∃σ,cmpI m (opl 1073741824)=σ:=⟨_,rfl⟩;have hc0:=fixB_max ((mxp_opp (hx▸(rk_bd hM).1)).symm.trans hm) hσ;rw[ht]at hc0;have HX:=ie hx;have HZ:=ie hz;have HTT:=ie ht;have HMX:=ie hm;have HC:=ie hσ;have HC0:=ie hc0;clear hx hz ht hm hσ hc0
 go_enter Tryz.func157,Tryz.ntmps157
 go_upto_region 1 with (fail)
 generalize hW1:(w.alloc _).alloc _=w1 at *;obtain⟨X1,XR,HB⟩:=Bo.en2 hW1;replace hT:=hT.below HB.out;clear hW1;have ltX1:=X1.lt;have ltXR:=XR.lt
 cases t
 ·obtain rfl:0=z:=by rw[<-HZ.out,fixI_no HTT.out]
  clear HZ HTT;refine jk [0,1,2,3,4,5,6,7] [some 6,some 7,some 8,some 9,some 10,some 11,some 12,some 13] [[],[],[1],[0,2],[3],[],[4,5],[6]] 8 0 [Jo.q4 D s M E,Jo.q4 D s M E,Jo.Fact.num (-x),Jo.Fact.nl 2 [x,-x],Jo.Fact.num m,Jo.Fact.num (opl 1073741824),Jo.qi σ,Jo.qb true] ?_ ?_
  ·iterate 2 (refine jm ?_ ?_;rotate_left)
   refine jm ?_ ?_
   ·rintro wj hJ _ rfl K hK;simp only[Jo.z]at hK|-;go_simp;exact Jo.n1 (nNeg hM (by rw[HX.out])) hK.out
   refine jm ?_ ?_
   ·rintro wj hJ _ rfl _ ⟨K20,s20,M20,E20,rfl,q20⟩ K hK;simp only[Jo.z]at hK|-;go_simp;exact hK.out _ _ ⟨_,2,rfl,Nl.lit2 rfl hM q20.top HX.out q20.rk⟩ (bel1 _ _)
   refine jm ?_ ?_
   ·rintro wj hJ _ ⟨A25,c25,rfl,h25⟩ K hK;simp only[Jo.z]at hK|-;go_simp;exact Jo.n1 (nMost h25 HMX.out) hK.out
   refine jm ?_ ?_
   ·rintro wj hJ K hK;simp only[Jo.z]at hK|-;go_simp;exact Jo.n1 (nOf _ (by decide) (by decide) rfl) hK.out
   refine jm ?_ ?_
   ·rintro wj hJ _ ⟨K21,s21,M21,E21,rfl,q21⟩ _ ⟨K22,s22,M22,E22,rfl,q22⟩ K hK;simp only[Jo.z]at hK|-;go_simp;refine(nCmp (z:=σ) q21.top q22.top (by rw[q21.rk,q22.rk];exact HC.out)).mono ?_;rintro ee wk ⟨rfl,B⟩;exact hK.out _ _ rfl B
   refine jm ?_ ?_
   ·rintro wj hJ _ rfl K hK;simp only[Jo.z]at hK|-;have hc0:=HC0.out;go_simp
    exact hK.out _ _ (by first | rfl | (show Value.bool _=Value.bool _;rw[hc0];rfl) | simp_all) (br _ _)
   exact jo
   all_goals (rintro wj hJ;(repeat rintro _ rfl);intro K hK;simp only[Jo.z]at hK|-;have xX1:=(X1.b hJ).cell;go_simp;exact hK.out _ _ rfl (br _ _))
  rintro w2 hJ _ rfl _ rfl _ ⟨K20,s20,M20,E20,rfl,_⟩ _ ⟨_,_,rfl,_⟩ _ ⟨K21,s21,M21,E21,rfl,_⟩ _ ⟨K22,s22,M22,E22,rfl,_⟩ _ rfl _ rfl -;simp only[Jo.z];replace X1:=X1.b hJ;replace XR:=XR.b hJ;replace hT:=hT.b hJ;replace HB:=Hqb HB hJ;refine jd ?_;clear HC HC0 HMX;clear hT;have xXR:=XR.cell;have zXR0:=XR.frozen
  go_wp2;clear xXR zXR0;have SX:=StN.t2 XR false none 0 0;exact bq (v:= .tuple #[.agg #[.bool false,.slice none 0 0],.bool false]) (by simp[results,Tryz.results157,go_sem,SX.box.cell]) rfl ⟨_,_,_,_,rfl,⟨Nm.zero,rfl⟩,Nat.zero_le _,(SX.below HB.out (by omega))⟩
 ·obtain⟨N,G,hN,hG,nf,hv,n64,g1,g2⟩:=fix_raw hM HX.out HTT.out;obtain⟨bb,hb⟩:∃b,exb D s M E=b:=⟨_,rfl⟩;obtain⟨P,hP⟩:∃P,(mvs (mk N G) 192).1=P:=⟨_,rfl⟩;obtain⟨Q,hQ⟩:∃P,(mvs (mk N G) 192).2=P:=⟨_,rfl⟩;have hfl:=fix_code nf hv n64 g1 g2 HTT.out hP hQ;rw[HZ.out]at hfl;have HFL:=ie hfl;have HPP:=ie hP;have HQQ:=ie hQ;have HBB:=ie hb
  have HNN:=ie hN;have HGG:=ie hG;clear hfl hP hQ hb hN hG nf hv n64 g1 g2 HZ HTT;refine jk [0,1,2,3,4,5,6,7] [some 6,some 7,some 8,some 9,some 10,some 11,some 12,some 13] [[],[],[1],[0,2],[3],[],[4,5],[6]] 8 0 [Jo.q4 D s M E,Jo.q4 D s M E,Jo.Fact.num (-x),Jo.Fact.nl 2 [x,-x],Jo.Fact.num m,Jo.Fact.num (opl 1073741824),Jo.qi σ,Jo.qb false] ?_ ?_
  ·iterate 2 (refine jm ?_ ?_;rotate_left)
   refine jm ?_ ?_
   ·rintro wj hJ _ rfl K hK;simp only[Jo.z]at hK|-;go_simp;exact Jo.n1 (nNeg hM (by rw[HX.out])) hK.out
   refine jm ?_ ?_
   ·rintro wj hJ _ rfl _ ⟨K20,s20,M20,E20,rfl,q20⟩ K hK;simp only[Jo.z]at hK|-;go_simp;exact hK.out _ _ ⟨_,2,rfl,Nl.lit2 rfl hM q20.top HX.out q20.rk⟩ (bel1 _ _)
   refine jm ?_ ?_
   ·rintro wj hJ _ ⟨A25,c25,rfl,h25⟩ K hK;simp only[Jo.z]at hK|-;go_simp;exact Jo.n1 (nMost h25 HMX.out) hK.out
   refine jm ?_ ?_
   ·rintro wj hJ K hK;simp only[Jo.z]at hK|-;go_simp;exact Jo.n1 (nOf _ (by decide) (by decide) rfl) hK.out
   refine jm ?_ ?_
   ·rintro wj hJ _ ⟨K21,s21,M21,E21,rfl,q21⟩ _ ⟨K22,s22,M22,E22,rfl,q22⟩ K hK;simp only[Jo.z]at hK|-;go_simp;refine(nCmp (z:=σ) q21.top q22.top (by rw[q21.rk,q22.rk];exact HC.out)).mono ?_;rintro ee wk ⟨rfl,B⟩;exact hK.out _ _ rfl B
   refine jm ?_ ?_
   ·rintro wj hJ _ rfl K hK;simp only[Jo.z]at hK|-;have hc0:=HC0.out;go_simp
    exact hK.out _ _ (by first | rfl | (show Value.bool _=Value.bool _;rw[hc0];rfl) | simp_all) (br _ _)
   exact jo
   all_goals (rintro wj hJ;(repeat rintro _ rfl);intro K hK;simp only[Jo.z]at hK|-;have xX1:=(X1.b hJ).cell;go_simp;exact hK.out _ _ rfl (br _ _))
  rintro w2 hJ _ rfl _ rfl _ ⟨K20,s20,M20,E20,rfl,_⟩ _ ⟨_,_,rfl,_⟩ _ ⟨K21,s21,M21,E21,rfl,_⟩ _ ⟨K22,s22,M22,E22,rfl,_⟩ _ rfl _ rfl -;simp only[Jo.z];replace X1:=X1.b hJ;replace XR:=XR.b hJ;replace hT:=hT.b hJ;replace HB:=Hqb HB hJ;refine jd ?_;clear HC HC0 HMX;have xX1:=X1.cell
  go_wp2_with fail
  refine(nExact hT h0 hM HBB.out HNN.out HGG.out).mono ?_;rintro ee w3 ⟨s5,A5,n5,c5,rfl,p5,k5,B⟩;clear xX1;replace XR:=XR.b B;replace hT:=hT.b B;replace HB:=Hqb HB B;clear B
  go_upto_region 4 with (fail)
  have nX5XR:=XR.lt;generalize hWn:w3.alloc _=w4 at *;obtain⟨X5,BW⟩:=Bo.nw hWn;clear hWn;replace XR:=XR.b BW;replace hT:=hT.b BW;replace p5:=p5.b BW;replace HB:=Hqb HB BW;clear BW;clear HBB HNN HGG HX;have xX5:=X5.cell
  go_wp2_with fail
  refine(dMove hT p5.wr (by omega) (by decide) (by decide) HPP.out HQQ.out).mono ?_;rintro ee w5 ⟨s6,A6,n6,c6,rfl,p6,k6,B⟩;clear xX5;replace XR:=XR.b B;replace hT:=hT.b B;replace HB:=Hqb HB B;clear B;clear p5
  go_wp2_with fail
  refine(dFloor hT p6.wr (by omega) HFL.out).mono ?_;rintro ee w6 ⟨s20,A20,n20,c20,rfl,p20,k20,B⟩;replace XR:=XR.b B;replace HB:=Hqb HB B;clear B;clear p6 hT;have xXR:=XR.cell;have zXR0:=XR.frozen;go_wp2;clear xXR zXR0;have SX:=StN.t2 XR s20 A20 n20 c20;replace p20:=p20.s SX;exact bq (v:= .tuple #[.agg #[.bool s20,.slice A20 n20 c20],.bool true]) (by simp[results,Tryz.results157,go_sem,SX.box.cell]) rfl ⟨_,_,_,_,rfl,p20,by omega,(SX.below HB.out (by omega))⟩
theorem tDown{w:World}{A:Option Addr}{n c:Nat}{s:Bool}{x:Int}{B:Option Addr}{m d:Nat}{t:Bool}{y:Int}{q:Int}(h:Wr w s A n c x)(k:Wr w t B m d y)(hn:n<=268435456)(hm:m<=268435456)(h0:y≠0)(hq:x.fdiv y=q):Calls Tryz.prog 59 #[.agg #[.bool s,.slice A n c],.agg #[.bool t,.slice B m d]] w (W1 w (n+m+4) q):=by
 go_enter Tryz.func59,Tryz.ntmps59
 go_upto_region 1 with (fail)
 generalize hW1:((w.alloc _).alloc _).alloc _=w1 at *;obtain⟨X2,X3,XR,HB⟩:=Bo.en3 hW1;replace h:=h.below HB.out;replace k:=k.below HB.out;clear hW1;have xX2:=X2.cell;have xX3:=X3.cell
 go_wp2_with fail
 refine(wDiv h k (by omega) (by omega) h0 hq rfl).mono ?_;rintro ee w2 ⟨s8,A8,n8,c8,s9,A9,n9,c9,rfl,p8,p9,k8,k9,B⟩;clear xX2 xX3;replace XR:=XR.b B;replace HB:=Hqb HB B;clear B;clear h k;clear X2 X3
 go_upto_region 2 with (fail)
 have e4X6:(World.alloc w2 (.cells #[.bool s8,.slice A8 n8 c8] 27)).heap.size=w2.heap.size+1:=by simp
 have nX5XR:=XR.lt;have BX:=bel1 w2 (.cells #[.bool s8,.slice A8 n8 c8] 27);replace XR:=XR.b BX;replace p8:=p8.b BX;replace HB:=ie (bt HB.out BX);have X5:=Bo.new w2 #[.bool s8,.slice A8 n8 c8] 27;generalize hWn:World.alloc w2 (.cells #[.bool s8,.slice A8 n8 c8] 27)=w3 at *;clear hWn
 have nX6XR:=XR.lt;have nX6X5:=X5.lt;generalize hWn:w3.alloc _=w4 at *;obtain⟨X6,BW⟩:=Bo.nw hWn;clear hWn;replace XR:=XR.b BW;replace X5:=X5.b BW;replace p8:=p8.b BW;replace HB:=Hqb HB BW;clear BW;rw[e4X6]at X6;clear e4X6;clear p9;have xXR:=XR.cell;have zXR0:=XR.frozen;have xX5:=X5.cell;go_wp2;clear xXR zXR0 xX5
 have SX:=StN.t2 XR s8 A8 n8 c8;replace p8:=p8.s SX;exact bq (v:= .agg #[.bool s8,.slice A8 n8 c8]) (by simp[results,Tryz.results59,go_sem,SX.box.cell]) rfl ⟨s8,A8,n8,c8,rfl,p8,by omega,(SX.below HB.out (by omega))⟩
def Jo.TFact.w2t (x y:Int):Jo.TFact #[.bool false,.slice none 0 0] 27:=⟨fun v w=>∃s1 A1 n1 c1 s2 A2 n2 c2,v= .tuple #[.agg #[.bool s1,.slice A1 n1 c1],.agg #[.bool s2,.slice A2 n2 c2],.bool true]/\Wn w s1 A1 n1 c1 x/\Wn w s2 A2 n2 c2 y/\n1<=1000000000/\n2<=1000000000,fun v w w' h b=>by
 obtain⟨s1,A1,n1,c1,s2,A2,n2,c2,e,p,q,k,l⟩:=h
 exact⟨s1,A1,n1,c1,s2,A2,n2,c2,e,p.below b,q.below b,k,l⟩,fun v w w' g cs h S=>by
 obtain⟨s1,A1,n1,c1,s2,A2,n2,c2,e,p,q,k,l⟩:=h;exact⟨s1,A1,n1,c1,s2,A2,n2,c2,e,p.stn S (by simp[no32]),q.stn S (by simp[no32]),k,l⟩⟩
def Jo.TFact.wn (x:Int)(K:Nat):Jo.TFact #[.bool false,.slice none 0 0] 27:=⟨fun v w=>∃s1 A1 n1 c1,v= .agg #[.bool s1,.slice A1 n1 c1]/\Wn w s1 A1 n1 c1 x/\n1<=K,fun v w w' h b=>by
 obtain⟨s1,A1,n1,c1,e,p,k⟩:=h
 exact⟨s1,A1,n1,c1,e,p.below b,k⟩,fun v w w' g cs h S=>by
 obtain⟨s1,A1,n1,c1,e,p,k⟩:=h;exact⟨s1,A1,n1,c1,e,p.stn S (by simp[no32]),k⟩⟩
theorem odd_cmp{x:Int}{b:Bool}(h:decide (x%2=1)=b):(cmpI (x.fmod 2) 0 !=0)=b:=by
 rw[<-h,Int.fmod_eq_emod_of_nonneg _ (by decide)]
 rcases Int.emod_two_eq x with e | e <;> rw[e] <;> rfl
theorem tOdd{w:World}{A:Option Addr}{n c:Nat}{s:Bool}{x:Int}{b:Bool}(h:Wr w s A n c x)(hn:n<=1000000)(hb:decide (x%2=1)=b):Calls Tryz.prog 198 #[.agg #[.bool s,.slice A n c]] w (PB w b):=by
 obtain⟨r,hr⟩:∃r,x.fmod 2=r:=⟨_,rfl⟩;obtain⟨σ,hσ⟩:∃σ,cmpI r 0=σ:=⟨_,rfl⟩;have hc:=odd_cmp hb;rw[hr,hσ]at hc;have HR:=ie hr;have HS:=ie hσ;have HC:=ie hc;clear hr hσ hc
 go_enter Tryz.func198,Tryz.ntmps198
 go_upto_region 1 with (fail)
 generalize hW1:w.alloc _=w1 at *;obtain⟨X1,HB⟩:=Bo.en1 hW1;replace h:=h.below HB.out;clear hW1;have ltX1:=X1.lt;have hszp:=HB.out.size
 refine Jo.region_quad (old:= #[.bool false,.slice none 0 0]) (R:=27) (T:=[0,1,2,3,4,5,6,7,8,9,10]) (ds:=[some 7,some 8,some 9,some 6,some 10,some 11,some 12,some 3,some 4,none,none,some 5]) (ls:=[[],[],[0,1],[2],[3],[3],[3],[],[],[4,7,8],[5,7,8],[]]) (k:=12) (L:=[(some 7,0),(some 8,1),(some 9,2),(some 6,3),(some 10,4),(some 11,5),(some 12,6),(some 3,7),(some 4,8),(none,9),(none,10)]) (fuel:=1) (w1:=w1) (p:=7) (q:=8) (s:=9) (e:=4) (s2:=10) (e2:=5)
  (F:=[Jo.TFact.eq (.agg #[.bool s,.slice A n c]),Jo.TFact.wn (2) (2),Jo.TFact.w2t (x.fdiv 2) r,Jo.TFact.w2t (x.fdiv 2) r,Jo.TFact.wn (x.fdiv 2) (1000000000),Jo.TFact.wn (r) (1000000000),Jo.TFact.eq (.bool true),Jo.TFact.any,Jo.TFact.any,Jo.TFact.any,Jo.TFact.any,Jo.TFact.any])
  (by decide) (by decide) (by decide) (by decide) (by kernel_rfl) (by kernel_rfl) (by decide) rfl rfl ?_ (fun vs w2 hJ hd hpq=>?_)
 ·refine Jo.xcons (i:=0) (o:=⟨some 7,_,_,_,_,_⟩) (di:=some 7) (L:=[]) (f:=Jo.TFact.eq (.agg #[.bool s,.slice A n c])) (by decide) (by decide) (by decide) (by decide) rfl rfl rfl rfl (fun vs wj hJ hd K hK=>?_) ?_
  ·clear hd;simp only[Jo.putl,Jo.ze,Act.put,Jo.za,Jo.zb,Jo.zc]at hK|-
   have xX10:World.cell? wj ⟨w.heap.size,0,none⟩=some (.bool s):=(X1.b hJ).cell 0
   have xX11:World.cell? wj ⟨w.heap.size,1,none⟩=some (.slice A n c):=(X1.b hJ).cell 1
   go_simp;exact hK.out _ _ rfl (br _ _)
  refine Jo.xcons (i:=1) (o:=⟨some 8,_,_,_,_,_⟩) (di:=some 8) (L:=[]) (f:=Jo.TFact.wn (2) (2)) (by decide) (by decide) (by decide) (by decide) rfl rfl rfl rfl (fun vs wj hJ hd K hK=>?_) ?_
  ·clear hd;simp only[Jo.putl,Jo.ze,Act.put,Jo.za,Jo.zb,Jo.zc]at hK|-;go_simp;exact Jo.w1 (wFrom 2 _ (by decide) (by decide)) hK.out
  refine Jo.xcons (i:=2) (o:=⟨some 9,_,_,_,_,_⟩) (di:=some 9) (L:=[(some 7,0),(some 8,1)]) (f:=Jo.TFact.w2t (x.fdiv 2) r) (by decide) (by decide) (by decide) (by decide) rfl rfl rfl rfl (fun vs wj hJ hd K hK=>?_) ?_
  ·have d0:(Jo.TFact.eq (.agg #[.bool s,.slice A n c]):Jo.TFact #[.bool false,.slice none 0 0] 27).P (vs 0) wj:=hd 0 (by decide)
   have d1:(Jo.TFact.wn (2) (2):Jo.TFact #[.bool false,.slice none 0 0] 27).P (vs 1) wj:=hd 1 (by decide)
   simp only[Jo.putl,Jo.zd,Jo.ze,Act.put,Jo.za,Jo.zb,Jo.zc]at hK|-;clear hd;generalize vs 0=u0 at hK d0|-;generalize vs 1=u1 at hK d1|-
   replace d0:u0=_:=d0
   subst d0;obtain⟨s20,A20,n20,c20,rfl,p20,k20⟩:=d1;go_simp;refine(wDiv (h.b hJ) p20.wr (by omega) (by omega) (by decide) rfl HR.out).mono ?_;rintro ee wk ⟨s8,A8,n8,c8,s9,A9,n9,c9,rfl,p8,p9,k8,k9,B⟩;exact hK.out _ _ ⟨s8,A8,n8,c8,s9,A9,n9,c9,rfl,p8,p9,by omega,by omega⟩ B
  refine Jo.xcons (i:=3) (o:=⟨some 6,_,_,_,_,_⟩) (di:=some 6) (L:=[(some 9,2)]) (f:=Jo.TFact.w2t (x.fdiv 2) r) (by decide) (by decide) (by decide) (by decide) rfl rfl rfl rfl (fun vs wj hJ hd K hK=>?_) ?_
  ·have d2:(Jo.TFact.w2t (x.fdiv 2) r:Jo.TFact #[.bool false,.slice none 0 0] 27).P (vs 2) wj:=hd 2 (by decide)
   clear hd;simp only[Jo.putl,Jo.zd,Jo.ze,Act.put,Jo.za,Jo.zb,Jo.zc]at hK|-;generalize vs 2=u2 at hK d2|-;obtain⟨s8,A8,n8,c8,s9,A9,n9,c9,rfl,p8,p9,k8,k9⟩:=d2;go_simp;exact hK.out _ _ ⟨s8,A8,n8,c8,s9,A9,n9,c9,rfl,p8,p9,by omega,by omega⟩ (br _ _)
  refine Jo.xcons (i:=4) (o:=⟨some 10,_,_,_,_,_⟩) (di:=some 10) (L:=[(some 6,3)]) (f:=Jo.TFact.wn (x.fdiv 2) (1000000000)) (by decide) (by decide) (by decide) (by decide) rfl rfl rfl rfl (fun vs wj hJ hd K hK=>?_) ?_
  ·have d3:(Jo.TFact.w2t (x.fdiv 2) r:Jo.TFact #[.bool false,.slice none 0 0] 27).P (vs 3) wj:=hd 3 (by decide)
   clear hd;simp only[Jo.putl,Jo.zd,Jo.ze,Act.put,Jo.za,Jo.zb,Jo.zc]at hK|-;generalize vs 3=u3 at hK d3|-;obtain⟨s8,A8,n8,c8,s9,A9,n9,c9,rfl,p8,p9,k8,k9⟩:=d3;go_simp;exact hK.out _ _ ⟨s8,A8,n8,c8,rfl,p8,k8⟩ (br _ _)
  refine Jo.xcons (i:=5) (o:=⟨some 11,_,_,_,_,_⟩) (di:=some 11) (L:=[(some 6,3)]) (f:=Jo.TFact.wn (r) (1000000000)) (by decide) (by decide) (by decide) (by decide) rfl rfl rfl rfl (fun vs wj hJ hd K hK=>?_) ?_
  ·have d3:(Jo.TFact.w2t (x.fdiv 2) r:Jo.TFact #[.bool false,.slice none 0 0] 27).P (vs 3) wj:=hd 3 (by decide)
   clear hd;simp only[Jo.putl,Jo.zd,Jo.ze,Act.put,Jo.za,Jo.zb,Jo.zc]at hK|-;generalize vs 3=u3 at hK d3|-;obtain⟨s8,A8,n8,c8,s9,A9,n9,c9,rfl,p8,p9,k8,k9⟩:=d3;go_simp;exact hK.out _ _ ⟨s9,A9,n9,c9,rfl,p9,k9⟩ (br _ _)
  refine Jo.xcons (i:=6) (o:=⟨some 12,_,_,_,_,_⟩) (di:=some 12) (L:=[(some 6,3)]) (f:=Jo.TFact.eq (.bool true)) (by decide) (by decide) (by decide) (by decide) rfl rfl rfl rfl (fun vs wj hJ hd K hK=>?_) ?_
  ·have d3:(Jo.TFact.w2t (x.fdiv 2) r:Jo.TFact #[.bool false,.slice none 0 0] 27).P (vs 3) wj:=hd 3 (by decide)
   clear hd;simp only[Jo.putl,Jo.zd,Jo.ze,Act.put,Jo.za,Jo.zb,Jo.zc]at hK|-;generalize vs 3=u3 at hK d3|-;obtain⟨s8,A8,n8,c8,s9,A9,n9,c9,rfl,p8,p9,k8,k9⟩:=d3;go_simp;exact hK.out _ _ rfl (br _ _)
  refine Jo.xnew (i:=7) (o:=⟨some 3,_,_,_,_,_⟩) (di:=some 3) (L:=[]) (by decide) (by decide) (by decide) (by decide) rfl rfl rfl rfl (fun vs wj K hK=>?_) ?_
  ·simp only[Jo.putl,Jo.ze,Act.put,Jo.za,Jo.zb,Jo.zc]at hK|-;go_simp;exact hK.out
  refine Jo.xnew (i:=8) (o:=⟨some 4,_,_,_,_,_⟩) (di:=some 4) (L:=[]) (by decide) (by decide) (by decide) (by decide) rfl rfl rfl rfl (fun vs wj K hK=>?_) ?_
  ·simp only[Jo.putl,Jo.ze,Act.put,Jo.za,Jo.zb,Jo.zc]at hK|-;go_simp;exact hK.out
  refine Jo.xsto (o:=⟨none,_,_,_,_,_⟩) (di:=none) (L:=[(some 10,4),(some 3,7),(some 4,8)]) (by decide) (by decide) (by decide) (by decide) rfl rfl rfl rfl (fun vs wj hJ hd g hg X K hK=>?_) ?_
  ·have d4:(Jo.TFact.wn (x.fdiv 2) (1000000000):Jo.TFact #[.bool false,.slice none 0 0] 27).P (vs 4) wj:=hd 4 (by decide)
   clear hd;simp only[Jo.putl,Jo.zd,Jo.ze,Act.put,Jo.za,Jo.zb,Jo.zc]at hK|-;simp only[hg]at hK|-;clear hg;generalize vs 4=u4 at hK d4|-;generalize vs 8=u8 at hK|-;obtain⟨s28,A28,n28,c28,rfl,p28,k28⟩:=d4;have xX:=X.cell;have zX:=X.frozen;go_simp;have SX:=StN.t2 X s28 A28 n28 c28;exact hK.out undef _ _ rfl SX
  refine Jo.xsto2 (o:=⟨none,_,_,_,_,_⟩) (di:=none) (L:=[(some 11,5),(some 3,7),(some 4,8)]) (by decide) (by decide) (by decide) (by decide) rfl rfl rfl rfl (fun vs wj hJ hd g hg X K hK=>?_) ?_
  ·have d5:(Jo.TFact.wn (r) (1000000000):Jo.TFact #[.bool false,.slice none 0 0] 27).P (vs 5) wj:=hd 5 (by decide)
   clear hd;simp only[Jo.putl,Jo.zd,Jo.ze,Act.put,Jo.za,Jo.zb,Jo.zc]at hK|-;simp only[hg]at hK|-;clear hg;generalize vs 5=u5 at hK d5|-;generalize vs 7=u7 at hK|-;obtain⟨s29,A29,n29,c29,rfl,p29,k29⟩:=d5;have xX:=X.cell;have zX:=X.frozen;go_simp;have SX:=StN.t2 X s29 A29 n29 c29;exact hK.out undef _ _ rfl SX
  exact Jo.StepsI.nil
 have d0:(Jo.TFact.eq (.agg #[.bool s,.slice A n c]):Jo.TFact #[.bool false,.slice none 0 0] 27).P (vs 0) w2:=hd 0 (by decide)
 have d1:(Jo.TFact.wn (2) (2):Jo.TFact #[.bool false,.slice none 0 0] 27).P (vs 1) w2:=hd 1 (by decide)
 have d2:(Jo.TFact.w2t (x.fdiv 2) r:Jo.TFact #[.bool false,.slice none 0 0] 27).P (vs 2) w2:=hd 2 (by decide)
 have d3:(Jo.TFact.w2t (x.fdiv 2) r:Jo.TFact #[.bool false,.slice none 0 0] 27).P (vs 3) w2:=hd 3 (by decide)
 have d4:(Jo.TFact.wn (x.fdiv 2) (1000000000):Jo.TFact #[.bool false,.slice none 0 0] 27).P (vs 4) w2:=hd 4 (by decide)
 have d5:(Jo.TFact.wn (r) (1000000000):Jo.TFact #[.bool false,.slice none 0 0] 27).P (vs 5) w2:=hd 5 (by decide)
 have d6:(Jo.TFact.eq (.bool true):Jo.TFact #[.bool false,.slice none 0 0] 27).P (vs 6) w2:=hd 6 (by decide)
 clear hd;obtain⟨g3,g4,csp,csq,ep,eq_,hg3,hg4,hneg3,ee,ff,X3,X4⟩:=hpq;simp only[Jo.putl,Jo.zd,Jo.ze,Act.put,Jo.za,Jo.zb,Jo.zc];simp only[ep,eq_];clear ep eq_;generalize vs 0=u0 at d0|-;generalize vs 1=u1 at d1|-;generalize vs 2=u2 at d2|-;generalize vs 3=u3 at d3|-;generalize vs 4=u4 at d4 ee|-;generalize vs 5=u5 at d5 ff|-;generalize vs 6=u6 at d6|-
 generalize vs 9=u9 at|-;generalize vs 10=u10 at|-;clear vs
 replace d0:u0=_:=d0
 subst d0;obtain⟨s20,A20,n20,c20,rfl,p20,k20⟩:=d1
 obtain- :=d2
 obtain- :=d3
 obtain⟨s28,A28,n28,c28,rfl,p28,k28⟩:=d4;obtain⟨s29,A29,n29,c29,rfl,p29,k29⟩:=d5
 replace d6:u6=_:=d6
 subst d6
 injection ee with ee
 subst ee
 injection ff with ff
 subst ff;replace HB:=Hqb HB hJ;clear h p28;clear X1
 refine jn 11 fun K hK=>?_
 go_simp;refine hK.out _ _ ?_;clear hK K;refine jd ?_
 go_upto_region 2 with (fail)
 have xX4:=X4.cell
 go_wp2_with fail
 refine(wSign p29.wr HS.out).mono ?_;rintro ee w5 ⟨rfl,B⟩;clear xX4;replace HB:=Hqb HB B;clear B;have hc:=HC.out;go_wp2
 go_ret
 exact⟨by first | rfl | (show Ending.returned (Value.bool _)=_;rw[hc]),HB.out⟩
theorem ti_up{x:Int}(hx: -(4*SC)<=x/\x<=4*SC):∀j:Nat,-(4*SC*16^j)<=ti x j/\ti x j<=4*SC*16^j
 | 0=>by
  show -(4*SC*1)<=x/\x<=4*SC*1
  omega
 | j+1=>by
  obtain⟨a,b⟩:=ti_up hx j
  have e:(4*SC*16^(j+1):Int)=4*SC*16^j*16:=by rw[Int.pow_succ,<-Int.mul_assoc]
  have step:∀t T:Int,-T<=t/\t<=T->0<=T-> -(T*4)<=t*x/SC/\t*x/SC<=T*4:=by
   intro t T h hT
   have m:(t*x).natAbs<=T.natAbs*(4*SC).natAbs:=by
    rw[Int.natAbs_mul];exact Nat.mul_le_mul (by omega) (by omega)
   rw[<-Int.natAbs_mul]at m
   have k:0<=T*(4*SC):=Int.mul_nonneg hT (by decide)
   have k2:T*(4*SC)=T*4*SC:=(Int.mul_assoc _ _ _).symm
   have m1: -(T*4)*SC<=t*x:=by rw[Int.neg_mul,<-k2];omega
   have m2:t*x<=T*4*SC:=by rw[<-k2];omega
   exact⟨Int.le_ediv_of_mul_le (by decide) m1,Int.ediv_le_of_le_mul (by decide) m2⟩
  have p0:(0:Int)<=4*SC*16^j:=Int.mul_nonneg (by decide) (Int.le_of_lt (Int.pow_pos (by decide)))
  have s1:=step _ _ ⟨a,b⟩ p0;have s2:=step _ _ s1 (by omega)
  have f:∀u d:Int,(u/d).natAbs<=u.natAbs:=fun u d=>Int.natAbs_ediv_le_natAbs u d
  rw[e];have g:=f (ti x j*x/SC*x/SC) (2*((j:Int)+1)*(2*((j:Int)+1)+1))
  show -(4*SC*16^j*16)<= -(ti x j*x/SC*x/SC/ (2*((j:Int)+1)*(2*((j:Int)+1)+1)))/\ -(ti x j*x/SC*x/SC/ (2*((j:Int)+1)*(2*((j:Int)+1)+1)))<=4*SC*16^j*16
  generalize 4*SC*16^j=T at *;generalize ti x j*x/SC*x/SC/ (2*((j:Int)+1)*(2*((j:Int)+1)+1))=q at *;generalize ti x j*x/SC*x/SC=u at *
  omega
theorem ti_fits{x:Int}(hx: -(4*SC)<=x/\x<=4*SC){j:Nat}(hj:j<=40):(ti x j).natAbs < 4294967296^12:=by
 obtain⟨a,b⟩:=ti_up hx j
 have m:(16:Int)^j<=16^40:=by
  have q:=Nat.pow_le_pow_right (n:=16) (by decide) hj
  exact_mod_cast q
 have n:4*SC*16^j<=4*SC*16^40:=Int.mul_le_mul_of_nonneg_left m (by decide)
 have e:(4*SC*16^40:Int) < 4294967296^12:=by decide
 have e2:((4294967296:Nat)^12:Nat)=(4294967296^12:Int).toNat:=by decide
 rw[e2];generalize (4294967296^12:Int)=Z at *;generalize 4*SC*16^j=T at *;generalize (4*SC*16^40:Int)=U at *
 omega
def TInv (w:World)(x:Int)(g3 g5 g6:Nat)(s3:Bool)(A3:Option Addr)(n3 c3:Nat)(s9:Bool)(A9:Option Addr)(n9 c9:Nat)(j:Nat)(wr:World):Prop:=∃(s5:Bool) (A5:Option Addr) (n5 c5:Nat) (s6:Bool) (A6:Option Addr) (n6 c6:Nat),Bo wr w.heap.size #[.bool s3,.slice A3 n3 c3] 27/\Bo wr (w.heap.size+1) #[.bool false,.slice none 0 0] 27/\Bo wr g3 #[.bool s9,.slice A9 n9 c9] 27/\Bo wr g5 #[.bool s5,.slice A5 n5 c5] 27/\Bo wr g6 #[.bool s6,.slice A6 n6 c6] 27/\Wn wr s3 A3 n3 c3 x/\Wn wr s9 A9 n9 c9 SC/\Wn wr s6 A6 n6 c6 (ti x j)/\Wn wr s5 A5 n5 c5 (si x j)/\n5<=7+13*j/\j<=40/\Below w.heap.size w wr
theorem tser_hi{w:World}{A:Option Addr}{n c a:Nat}{s:Bool}{x:Int}(h:Rd w A n c a)(hx:sg s a=x)(hn:n<=100000)(hf:(4*SC) < x):Calls Tryz.prog 13 #[.agg #[.bool s,.slice A n c]] w (W1 w 300000 0):=by
 obtain⟨σ,hσ⟩:∃σ,cmpI x (4*SC)=σ:=⟨_,rfl⟩;obtain⟨τ,hτ⟩:∃σ,cmpI x (-(4*SC))=σ:=⟨_,rfl⟩;have e0:=(cmp_lt12 hσ).2;have e1:=(cmp_lt12 hτ).1;have HS:=ie hσ;have HT:=ie hτ;clear hσ hτ;rw[dt hf]at e0
 have HC0:=ie e0;have HC1:=ie e1;clear e0 e1
 go_enter Tryz.func13,Tryz.ntmps13
 go_upto_region 1 with (fail)
 generalize hW1:(w.alloc _).alloc _=w1 at *;obtain⟨X1,XR,HB⟩:=Bo.en2 hW1;replace h:=h.below HB.out;clear hW1
 go_wp2_with fail
 refine(cScale).mono ?_;rintro ee w2 ⟨s9,A9,n9,c9,rfl,p9,k9,B⟩;replace X1:=X1.b B;replace XR:=XR.b B;replace h:=h.b B;replace HB:=Hqb HB B;clear B
 go_upto_region 2 with (fail)
 have nX3X1:=X1.lt;have nX3XR:=XR.lt;generalize hWn:w2.alloc _=w3 at *;obtain⟨X3,BW⟩:=Bo.nw hWn;clear hWn;replace X1:=X1.b BW;replace XR:=XR.b BW;replace h:=h.b BW;replace p9:=p9.b BW;replace HB:=Hqb HB BW;clear BW;have ltX1:=X1.lt;have ltXR:=XR.lt;have ltX3:=X3.lt;have hszA:=HB.out.size;refine jk [0,1,2,3,4] [some 11,some 12,some 13,some 14,some 4,none] [[],[],[0,1],[2],[],[]] 6 1 [Jo.Fact.wn (4) (2),Jo.Fact.eq (.agg #[.bool s9,.slice A9 n9 c9]),Jo.Fact.wl 8 2 [4,SC],Jo.Fact.wn ((4*SC)) (17),Jo.Fact.bo w3.heap.size #[.bool false,.slice none 0 0] 27,Jo.Fact.any] ?_ ?_
 ·refine jm ?_ ?_
  ·rintro wj hJ K hK;simp only[Jo.z]at hK|-;go_simp;exact Jo.w1 (wFrom 4 _ (by decide) (by decide)) hK.out
  refine jm ?_ ?_
  ·rintro wj hJ K hK;simp only[Jo.z]at hK|-;have xX3:=(X3.b hJ).cell;go_simp;exact hK.out _ _ rfl (br _ _)
  refine jm ?_ ?_
  ·rintro wj hJ _ ⟨s20,A20,n20,c20,rfl,p20,k20⟩ _ rfl K hK;simp only[Jo.z]at hK|-;go_simp;exact hK.out _ _ ⟨_,_,rfl,Wl.lit2 rfl p20.wr (p9.b hJ).wr (by omega) (by omega)⟩ (bel1 _ _)
  refine jm ?_ ?_
  ·rintro wj hJ _ ⟨A21,c21,rfl,h21⟩ K hK;simp only[Jo.z]at hK|-;go_simp;exact Jo.w1 (wMul (r:=4*SC) h21 (by decide) (by decide)) hK.out
  refine jm ?_ ?_
  ·rintro wj hJ K hK;simp only[Jo.z]at hK|-;go_simp;exact hK.out _ _ ⟨_,rfl,hJ.size,Bo.new _ _ _⟩ (bel1 _ _)
  exact jo
 rintro w4 hJ _ ⟨s20,A20,n20,c20,rfl,p20,k20⟩ _ rfl _ ⟨_,_,rfl,_⟩ _ ⟨s22,A22,n22,c22,rfl,p22,k22⟩ _ ⟨g4,rfl,hg4,X4⟩ -;simp only[Jo.z];replace X1:=X1.b hJ;replace XR:=XR.b hJ;replace h:=h.b hJ;replace HB:=Hqb HB hJ;clear p20;have xX4:=X4.cell;have zX40:=X4.frozen
 refine jn 5 fun K hK=>?_
 go_simp;refine hK.out _ _ ?_;clear hK K xX4 zX40;generalize hS:(w4.setCell _ _).setCell _ _=w5 at *;have SX:=StN.of2 X4 hS;replace X1:=X1.s SX;replace XR:=XR.s SX;replace h:=h.s SX;replace p22:=p22.s SX;replace HB:=Hqs HB SX (by omega);replace X4:=SX.box;clear SX hS;refine jd ?_
 go_upto_region 3 with (fail)
 refine jk [0,1,2,3,4,5,6,7,8,9,10] [some 15,some 16,some 17,some 18,some 19,some 20,some 21,some 22,some 23,some 24,some 25] [[],[],[0,1],[2],[3],[4],[4],[4,6],[4,5,7],[4,8],[4,9]] 11 0 [Jo.Fact.eq (.agg #[.bool s,.slice A n c]),Jo.Fact.eq (.agg #[.bool s22,.slice A22 n22 c22]),Jo.qi σ,Jo.qb true,Jo.qb true,Jo.qu,Jo.qu,Jo.qu,Jo.qu,Jo.qu,Jo.qb true] ?_ ?_
 ·iterate 2 (refine jm ?_ ?_;rotate_left)
  refine jm ?_ ?_
  ·rintro wj hJ _ rfl _ rfl K hK;simp only[Jo.z]at hK|-;go_simp;refine(wCmp (r:=σ) ⟨_,h.b hJ,hx⟩ (p22.b hJ).wr HS.out).mono ?_;rintro ee wk ⟨rfl,B⟩;exact hK.out _ _ rfl B
  refine jm ?_ ?_
  ·rintro wj hJ _ rfl K hK;simp only[Jo.z]at hK|-;have hc0:=HC0.out;go_simp
   exact hK.out _ _ (by first | rfl | (show Value.bool _=Value.bool _;rw[hc0]) | simp_all) (br _ _)
  iterate 7 (refine jm ?_ ?_;rotate_left)
  exact jo
  all_goals (rintro wj hJ;(repeat rintro _ rfl);intro K hK;simp only[Jo.z]at hK|-;have xX1:=(X1.b hJ).cell;have xX4:=(X4.b hJ).cell;go_simp;exact hK.out _ _ rfl (br _ _))
 rintro w6 hJ _ rfl _ rfl _ rfl _ rfl _ rfl _ rfl _ rfl _ rfl _ rfl _ rfl _ rfl -;simp only[Jo.z];replace XR:=XR.b hJ;replace HB:=Hqb HB hJ;refine jd ?_;clear p22 HS HC0 HT HC1;clear X4;clear h p9;have xXR:=XR.cell;have zXR0:=XR.frozen;go_wp2;clear xXR zXR0;have SX:=StN.t2 XR false none 0 0;exact bq (v:= .agg #[.bool false,.slice none 0 0]) (by simp[results,Tryz.results13,go_sem,SX.box.cell]) rfl ⟨_,_,_,_,rfl,⟨Nm.zero,rfl⟩,Nat.zero_le _,(SX.below HB.out (by omega))⟩
theorem tser_lo{w:World}{A:Option Addr}{n c a:Nat}{s:Bool}{x:Int}(h:Rd w A n c a)(hx:sg s a=x)(hn:n<=100000)(hf0:¬(4*SC) < x)(hf:x < -(4*SC)):Calls Tryz.prog 13 #[.agg #[.bool s,.slice A n c]] w (W1 w 300000 0):=by
 obtain⟨σ,hσ⟩:∃σ,cmpI x (4*SC)=σ:=⟨_,rfl⟩;obtain⟨τ,hτ⟩:∃σ,cmpI x (-(4*SC))=σ:=⟨_,rfl⟩;have e0:=(cmp_lt12 hσ).2;have e1:=(cmp_lt12 hτ).1;have HS:=ie hσ;have HT:=ie hτ;clear hσ hτ;rw[df hf0]at e0;rw[dt hf]at e1;have HC0:=ie e0;have HC1:=ie e1;clear e0 e1
 go_enter Tryz.func13,Tryz.ntmps13
 go_upto_region 1 with (fail)
 generalize hW1:(w.alloc _).alloc _=w1 at *;obtain⟨X1,XR,HB⟩:=Bo.en2 hW1;replace h:=h.below HB.out;clear hW1
 go_wp2_with fail
 refine(cScale).mono ?_;rintro ee w2 ⟨s9,A9,n9,c9,rfl,p9,k9,B⟩;replace X1:=X1.b B;replace XR:=XR.b B;replace h:=h.b B;replace HB:=Hqb HB B;clear B
 go_upto_region 2 with (fail)
 have nX3X1:=X1.lt;have nX3XR:=XR.lt;generalize hWn:w2.alloc _=w3 at *;obtain⟨X3,BW⟩:=Bo.nw hWn;clear hWn;replace X1:=X1.b BW;replace XR:=XR.b BW;replace h:=h.b BW;replace p9:=p9.b BW;replace HB:=Hqb HB BW;clear BW;have ltX1:=X1.lt;have ltXR:=XR.lt;have ltX3:=X3.lt;have hszA:=HB.out.size;refine jk [0,1,2,3,4] [some 11,some 12,some 13,some 14,some 4,none] [[],[],[0,1],[2],[],[]] 6 1 [Jo.Fact.wn (4) (2),Jo.Fact.eq (.agg #[.bool s9,.slice A9 n9 c9]),Jo.Fact.wl 8 2 [4,SC],Jo.Fact.wn ((4*SC)) (17),Jo.Fact.bo w3.heap.size #[.bool false,.slice none 0 0] 27,Jo.Fact.any] ?_ ?_
 ·refine jm ?_ ?_
  ·rintro wj hJ K hK;simp only[Jo.z]at hK|-;go_simp;exact Jo.w1 (wFrom 4 _ (by decide) (by decide)) hK.out
  refine jm ?_ ?_
  ·rintro wj hJ K hK;simp only[Jo.z]at hK|-;have xX3:=(X3.b hJ).cell;go_simp;exact hK.out _ _ rfl (br _ _)
  refine jm ?_ ?_
  ·rintro wj hJ _ ⟨s20,A20,n20,c20,rfl,p20,k20⟩ _ rfl K hK;simp only[Jo.z]at hK|-;go_simp;exact hK.out _ _ ⟨_,_,rfl,Wl.lit2 rfl p20.wr (p9.b hJ).wr (by omega) (by omega)⟩ (bel1 _ _)
  refine jm ?_ ?_
  ·rintro wj hJ _ ⟨A21,c21,rfl,h21⟩ K hK;simp only[Jo.z]at hK|-;go_simp;exact Jo.w1 (wMul (r:=4*SC) h21 (by decide) (by decide)) hK.out
  refine jm ?_ ?_
  ·rintro wj hJ K hK;simp only[Jo.z]at hK|-;go_simp;exact hK.out _ _ ⟨_,rfl,hJ.size,Bo.new _ _ _⟩ (bel1 _ _)
  exact jo
 rintro w4 hJ _ ⟨s20,A20,n20,c20,rfl,p20,k20⟩ _ rfl _ ⟨_,_,rfl,_⟩ _ ⟨s22,A22,n22,c22,rfl,p22,k22⟩ _ ⟨g4,rfl,hg4,X4⟩ -;simp only[Jo.z];replace X1:=X1.b hJ;replace XR:=XR.b hJ;replace h:=h.b hJ;replace HB:=Hqb HB hJ;clear p20;have xX4:=X4.cell;have zX40:=X4.frozen
 refine jn 5 fun K hK=>?_
 go_simp;refine hK.out _ _ ?_;clear hK K xX4 zX40;generalize hS:(w4.setCell _ _).setCell _ _=w5 at *;have SX:=StN.of2 X4 hS;replace X1:=X1.s SX;replace XR:=XR.s SX;replace h:=h.s SX;replace p22:=p22.s SX;replace HB:=Hqs HB SX (by omega);replace X4:=SX.box;clear SX hS;refine jd ?_
 go_upto_region 3 with (fail)
 refine jk [0,1,2,3,4,5,6,7,8,9,10] [some 15,some 16,some 17,some 18,some 19,some 20,some 21,some 22,some 23,some 24,some 25] [[],[],[0,1],[2],[3],[4],[4],[4,6],[4,5,7],[4,8],[4,9]] 11 0 [Jo.Fact.eq (.agg #[.bool s,.slice A n c]),Jo.Fact.eq (.agg #[.bool s22,.slice A22 n22 c22]),Jo.qi σ,Jo.qb false,Jo.qb false,Jo.Fact.eq (.agg #[.bool s,.slice A n c]),Jo.Fact.eq (.agg #[.bool s22,.slice A22 n22 c22]),Jo.Fact.wn (-(4*SC)) (17),Jo.qi τ,Jo.qb true,Jo.qb true] ?_ ?_
 ·iterate 2 (refine jm ?_ ?_;rotate_left)
  refine jm ?_ ?_
  ·rintro wj hJ _ rfl _ rfl K hK;simp only[Jo.z]at hK|-;go_simp;refine(wCmp (r:=σ) ⟨_,h.b hJ,hx⟩ (p22.b hJ).wr HS.out).mono ?_;rintro ee wk ⟨rfl,B⟩;exact hK.out _ _ rfl B
  refine jm ?_ ?_
  ·rintro wj hJ _ rfl K hK;simp only[Jo.z]at hK|-;have hc0:=HC0.out;go_simp
   exact hK.out _ _ (by first | rfl | (show Value.bool _=Value.bool _;rw[hc0]) | simp_all) (br _ _)
  iterate 3 (refine jm ?_ ?_;rotate_left)
  refine jm ?_ ?_
  ·rintro wj hJ _ rfl _ rfl K hK;simp only[Jo.z]at hK|-;go_simp;exact Jo.w1 (wNeg (p22.b hJ).wr rfl) hK.out
  refine jm ?_ ?_
  ·rintro wj hJ _ rfl _ rfl _ ⟨s30,A30,n30,c30,rfl,p30,k30⟩ K hK;simp only[Jo.z]at hK|-;go_simp;refine(wCmp (r:=τ) ⟨_,h.b hJ,hx⟩ p30.wr HT.out).mono ?_;rintro ee wk ⟨rfl,B⟩;exact hK.out _ _ rfl B
  refine jm ?_ ?_
  ·rintro wj hJ _ rfl _ rfl K hK;simp only[Jo.z]at hK|-;have hc0:=HC1.out;go_simp
   exact hK.out _ _ (by first | rfl | (show Value.bool _=Value.bool _;rw[hc0]) | simp_all) (br _ _)
  refine jm ?_ ?_;rotate_left
  exact jo
  all_goals (rintro wj hJ;(repeat rintro _ rfl);intro K hK;simp only[Jo.z]at hK|-;have xX1:=(X1.b hJ).cell;have xX4:=(X4.b hJ).cell;go_simp;exact hK.out _ _ rfl (br _ _))
 rintro w6 hJ _ rfl _ rfl _ rfl _ rfl _ rfl _ rfl _ rfl _ ⟨s30,A30,n30,c30,rfl,p30,k30⟩ _ rfl _ rfl _ rfl -;simp only[Jo.z];replace XR:=XR.b hJ;replace HB:=Hqb HB hJ;refine jd ?_;clear p22 HS HC0 HT HC1;clear X4;clear h p9;have xXR:=XR.cell;have zXR0:=XR.frozen;go_wp2;clear xXR zXR0;have SX:=StN.t2 XR false none 0 0
 exact bq (v:= .agg #[.bool false,.slice none 0 0]) (by simp[results,Tryz.results13,go_sem,SX.box.cell]) rfl ⟨_,_,_,_,rfl,⟨Nm.zero,rfl⟩,Nat.zero_le _,(SX.below HB.out (by omega))⟩
theorem tser_near{w:World}{A:Option Addr}{n c a:Nat}{s:Bool}{x:Int}(h:Rd w A n c a)(hx:sg s a=x)(hn:n<=100000)(hf0:¬(4*SC) < x)(hf:¬x < -(4*SC)):Calls Tryz.prog 13 #[.agg #[.bool s,.slice A n c]] w (W1 w 300000 (si x 40)):=by
 have hfit:x.natAbs < 4294967296^7:=by
  have e:(4294967296:Nat)^7=26959946667150639794667015087019630673637144422540572481103610249216:=by decide
  rw[e]
  unfold SC at hf hf0
  omega
 have HFT:=ie hfit
 have HXB:Hid (-(4*SC)<=x/\x<=4*SC):=ie ⟨by omega,by omega⟩
 clear hfit;obtain⟨σ,hσ⟩:∃σ,cmpI x (4*SC)=σ:=⟨_,rfl⟩;obtain⟨τ,hτ⟩:∃σ,cmpI x (-(4*SC))=σ:=⟨_,rfl⟩;have e0:=(cmp_lt12 hσ).2;have e1:=(cmp_lt12 hτ).1;have HS:=ie hσ;have HT:=ie hτ;clear hσ hτ;rw[df hf0]at e0;rw[df hf]at e1;have HC0:=ie e0;have HC1:=ie e1;clear e0 e1 hf hf0
 go_enter Tryz.func13,Tryz.ntmps13
 go_upto_region 1 with (fail)
 generalize hW1:(w.alloc _).alloc _=w1 at *;obtain⟨X1,XR,HB⟩:=Bo.en2 hW1;replace h:=h.below HB.out;clear hW1
 go_wp2_with fail
 refine(cScale).mono ?_;rintro ee w2 ⟨s9,A9,n9,c9,rfl,p9,k9,B⟩;replace X1:=X1.b B;replace XR:=XR.b B;replace h:=h.b B;replace HB:=Hqb HB B;clear B
 go_upto_region 2 with (fail)
 have nX3X1:=X1.lt;have nX3XR:=XR.lt;generalize hWn:w2.alloc _=w3 at *;obtain⟨X3,BW⟩:=Bo.nw hWn;clear hWn;replace X1:=X1.b BW;replace XR:=XR.b BW;replace h:=h.b BW;replace p9:=p9.b BW;replace HB:=Hqb HB BW;clear BW;have ltX1:=X1.lt;have ltXR:=XR.lt;have ltX3:=X3.lt;have hszA:=HB.out.size;refine jk [0,1,2,3,4] [some 11,some 12,some 13,some 14,some 4,none] [[],[],[0,1],[2],[],[]] 6 1 [Jo.Fact.wn (4) (2),Jo.Fact.eq (.agg #[.bool s9,.slice A9 n9 c9]),Jo.Fact.wl 8 2 [4,SC],Jo.Fact.wn ((4*SC)) (17),Jo.Fact.bo w3.heap.size #[.bool false,.slice none 0 0] 27,Jo.Fact.any] ?_ ?_
 ·refine jm ?_ ?_
  ·rintro wj hJ K hK;simp only[Jo.z]at hK|-;go_simp;exact Jo.w1 (wFrom 4 _ (by decide) (by decide)) hK.out
  refine jm ?_ ?_
  ·rintro wj hJ K hK;simp only[Jo.z]at hK|-;have xX3:=(X3.b hJ).cell;go_simp;exact hK.out _ _ rfl (br _ _)
  refine jm ?_ ?_
  ·rintro wj hJ _ ⟨s20,A20,n20,c20,rfl,p20,k20⟩ _ rfl K hK;simp only[Jo.z]at hK|-;go_simp;exact hK.out _ _ ⟨_,_,rfl,Wl.lit2 rfl p20.wr (p9.b hJ).wr (by omega) (by omega)⟩ (bel1 _ _)
  refine jm ?_ ?_
  ·rintro wj hJ _ ⟨A21,c21,rfl,h21⟩ K hK;simp only[Jo.z]at hK|-;go_simp;exact Jo.w1 (wMul (r:=4*SC) h21 (by decide) (by decide)) hK.out
  refine jm ?_ ?_
  ·rintro wj hJ K hK;simp only[Jo.z]at hK|-;go_simp;exact hK.out _ _ ⟨_,rfl,hJ.size,Bo.new _ _ _⟩ (bel1 _ _)
  exact jo
 rintro w4 hJ _ ⟨s20,A20,n20,c20,rfl,p20,k20⟩ _ rfl _ ⟨_,_,rfl,_⟩ _ ⟨s22,A22,n22,c22,rfl,p22,k22⟩ _ ⟨g4,rfl,hg4,X4⟩ -;simp only[Jo.z];replace X1:=X1.b hJ;replace XR:=XR.b hJ;replace X3:=X3.b hJ;replace h:=h.b hJ;replace p9:=p9.b hJ;replace HB:=Hqb HB hJ;clear p20;have xX4:=X4.cell;have zX40:=X4.frozen
 refine jn 5 fun K hK=>?_
 go_simp;refine hK.out _ _ ?_;clear hK K xX4 zX40;generalize hS:(w4.setCell _ _).setCell _ _=w5 at *;have SX:=StN.of2 X4 hS;replace X1:=X1.s SX;replace XR:=XR.s SX;replace X3:=X3.s SX;replace h:=h.s SX;replace p9:=p9.s SX;replace p22:=p22.s SX;replace HB:=Hqs HB SX (by omega)
 replace X4:=SX.box;clear SX hS;refine jd ?_
 go_upto_region 3 with (fail)
 refine jk [0,1,2,3,4,5,6,7,8,9,10] [some 15,some 16,some 17,some 18,some 19,some 20,some 21,some 22,some 23,some 24,some 25] [[],[],[0,1],[2],[3],[4],[4],[4,6],[4,5,7],[4,8],[4,9]] 11 0 [Jo.Fact.eq (.agg #[.bool s,.slice A n c]),Jo.Fact.eq (.agg #[.bool s22,.slice A22 n22 c22]),Jo.qi σ,Jo.qb false,Jo.qb false,Jo.Fact.eq (.agg #[.bool s,.slice A n c]),Jo.Fact.eq (.agg #[.bool s22,.slice A22 n22 c22]),Jo.Fact.wn (-(4*SC)) (17),Jo.qi τ,Jo.qb false,Jo.qb false] ?_ ?_
 ·iterate 2 (refine jm ?_ ?_;rotate_left)
  refine jm ?_ ?_
  ·rintro wj hJ _ rfl _ rfl K hK;simp only[Jo.z]at hK|-;go_simp;refine(wCmp (r:=σ) ⟨_,h.b hJ,hx⟩ (p22.b hJ).wr HS.out).mono ?_;rintro ee wk ⟨rfl,B⟩;exact hK.out _ _ rfl B
  refine jm ?_ ?_
  ·rintro wj hJ _ rfl K hK;simp only[Jo.z]at hK|-;have hc0:=HC0.out;go_simp
   exact hK.out _ _ (by first | rfl | (show Value.bool _=Value.bool _;rw[hc0]) | simp_all) (br _ _)
  iterate 3 (refine jm ?_ ?_;rotate_left)
  refine jm ?_ ?_
  ·rintro wj hJ _ rfl _ rfl K hK;simp only[Jo.z]at hK|-;go_simp;exact Jo.w1 (wNeg (p22.b hJ).wr rfl) hK.out
  refine jm ?_ ?_
  ·rintro wj hJ _ rfl _ rfl _ ⟨s30,A30,n30,c30,rfl,p30,k30⟩ K hK;simp only[Jo.z]at hK|-;go_simp;refine(wCmp (r:=τ) ⟨_,h.b hJ,hx⟩ p30.wr HT.out).mono ?_;rintro ee wk ⟨rfl,B⟩;exact hK.out _ _ rfl B
  refine jm ?_ ?_
  ·rintro wj hJ _ rfl _ rfl K hK;simp only[Jo.z]at hK|-;have hc0:=HC1.out;go_simp
   exact hK.out _ _ (by first | rfl | (show Value.bool _=Value.bool _;rw[hc0]) | simp_all) (br _ _)
  refine jm ?_ ?_;rotate_left
  exact jo
  all_goals (rintro wj hJ;(repeat rintro _ rfl);intro K hK;simp only[Jo.z]at hK|-;have xX1:=(X1.b hJ).cell;have xX4:=(X4.b hJ).cell;go_simp;exact hK.out _ _ rfl (br _ _))
 rintro w6 hJ _ rfl _ rfl _ rfl _ rfl _ rfl _ rfl _ rfl _ ⟨s30,A30,n30,c30,rfl,p30,k30⟩ _ rfl _ rfl _ rfl -;simp only[Jo.z];replace X1:=X1.b hJ;replace XR:=XR.b hJ;replace X3:=X3.b hJ;replace h:=h.b hJ;replace p9:=p9.b hJ;replace p22:=p22.b hJ;replace HB:=Hqb HB hJ;refine jd ?_;clear p22 HS HC0 HT HC1;clear X4
 have xX1:=X1.cell
 go_wp2_with fail
 refine(wMake s h).mono ?_;rintro ee w7 ⟨s3,A3,n3,c3,rfl,p3,k3,B⟩;clear xX1;replace X1:=X1.b B;replace XR:=XR.b B;replace X3:=X3.b B;replace h:=h.b B;replace p9:=p9.b B;replace HB:=Hqb HB B;clear B;clear h;replace p3:=hx▸p3;clear hx;have few:=p3.fits HFT.out;clear HFT;have xX1:=X1.cell;have zX10:=X1.frozen
 go_upto_region 6 with (fail)
 clear xX1 zX10;generalize hS:(w7.setCell _ _).setCell _ _=w8 at *;have SX:=StN.of2 X1 hS;replace XR:=XR.s SX;replace X3:=X3.s SX;replace p9:=p9.s SX;replace p3:=p3.s SX;replace HB:=Hqs HB SX (by omega);replace X1:=SX.box;clear SX hS;have ltX1:=X1.lt;have ltXR:=XR.lt;have ltX3:=X3.lt
 have hszp:=HB.out.size
 refine Jo.region_trip (old:= #[.bool false,.slice none 0 0]) (R:=27) (T:=[0,1,2,3,4]) (ds:=[some 32,some 33,some 5,some 6,none,none]) (ls:=[[],[],[],[],[0,2,3],[]]) (k:=6) (L:=[(some 32,0),(some 33,1),(some 5,2),(some 6,3),(none,4)]) (fuel:=1) (w1:=w8) (p:=2) (q:=3) (s:=4) (e:=0) (s2:=999) (e2:=999)
  (F:=[Jo.TFact.eq (.agg #[.bool s3,.slice A3 n3 c3]),Jo.TFact.eq (.agg #[.bool s3,.slice A3 n3 c3]),Jo.TFact.any,Jo.TFact.any,Jo.TFact.any,Jo.TFact.any])
  (by decide) (by decide) (by decide) (by decide) (by kernel_rfl) (by kernel_rfl) (by decide) rfl rfl ?_ (fun vs w9 hJ hd hpq=>?_)
 ·refine Jo.xcons (i:=0) (o:=⟨some 32,_,_,_,_,_⟩) (di:=some 32) (L:=[]) (f:=Jo.TFact.eq (.agg #[.bool s3,.slice A3 n3 c3])) (by decide) (by decide) (by decide) (by decide) rfl rfl rfl rfl (fun vs wj hJ hd K hK=>?_) ?_
  ·clear hd;simp only[Jo.putl,Jo.ze,Act.put,Jo.za,Jo.zb,Jo.zc]at hK|-
   have xX10:World.cell? wj ⟨w.heap.size,0,none⟩=some (.bool s3):=(X1.b hJ).cell 0
   have xX11:World.cell? wj ⟨w.heap.size,1,none⟩=some (.slice A3 n3 c3):=(X1.b hJ).cell 1
   go_simp;exact hK.out _ _ rfl (br _ _)
  refine Jo.xcons (i:=1) (o:=⟨some 33,_,_,_,_,_⟩) (di:=some 33) (L:=[]) (f:=Jo.TFact.eq (.agg #[.bool s3,.slice A3 n3 c3])) (by decide) (by decide) (by decide) (by decide) rfl rfl rfl rfl (fun vs wj hJ hd K hK=>?_) ?_
  ·clear hd;simp only[Jo.putl,Jo.ze,Act.put,Jo.za,Jo.zb,Jo.zc]at hK|-
   have xX10:World.cell? wj ⟨w.heap.size,0,none⟩=some (.bool s3):=(X1.b hJ).cell 0
   have xX11:World.cell? wj ⟨w.heap.size,1,none⟩=some (.slice A3 n3 c3):=(X1.b hJ).cell 1
   go_simp;exact hK.out _ _ rfl (br _ _)
  refine Jo.xnew (i:=2) (o:=⟨some 5,_,_,_,_,_⟩) (di:=some 5) (L:=[]) (by decide) (by decide) (by decide) (by decide) rfl rfl rfl rfl (fun vs wj K hK=>?_) ?_
  ·simp only[Jo.putl,Jo.ze,Act.put,Jo.za,Jo.zb,Jo.zc]at hK|-;go_simp;exact hK.out
  refine Jo.xnew (i:=3) (o:=⟨some 6,_,_,_,_,_⟩) (di:=some 6) (L:=[]) (by decide) (by decide) (by decide) (by decide) rfl rfl rfl rfl (fun vs wj K hK=>?_) ?_
  ·simp only[Jo.putl,Jo.ze,Act.put,Jo.za,Jo.zb,Jo.zc]at hK|-;go_simp;exact hK.out
  refine Jo.xsto (o:=⟨none,_,_,_,_,_⟩) (di:=none) (L:=[(some 32,0),(some 5,2),(some 6,3)]) (by decide) (by decide) (by decide) (by decide) rfl rfl rfl rfl (fun vs wj hJ hd g hg X K hK=>?_) ?_
  ·have d0:(Jo.TFact.eq (.agg #[.bool s3,.slice A3 n3 c3]):Jo.TFact #[.bool false,.slice none 0 0] 27).P (vs 0) wj:=hd 0 (by decide)
   clear hd;simp only[Jo.putl,Jo.zd,Jo.ze,Act.put,Jo.za,Jo.zb,Jo.zc]at hK|-;simp only[hg]at hK|-;clear hg;generalize vs 0=u0 at hK d0|-;generalize vs 3=u3 at hK|-
   replace d0:u0=_:=d0
   subst d0;have xX:=X.cell;have zX:=X.frozen;go_simp;have SX:=StN.t2 X s3 A3 n3 c3;exact hK.out undef _ _ rfl SX
  exact Jo.StepsI.nil
 have d0:(Jo.TFact.eq (.agg #[.bool s3,.slice A3 n3 c3]):Jo.TFact #[.bool false,.slice none 0 0] 27).P (vs 0) w9:=hd 0 (by decide)
 have d1:(Jo.TFact.eq (.agg #[.bool s3,.slice A3 n3 c3]):Jo.TFact #[.bool false,.slice none 0 0] 27).P (vs 1) w9:=hd 1 (by decide)
 clear hd;obtain⟨g5,g6,csp,ep,eq_,hg5,hg6,hneg5,ee,X5,X6⟩:=hpq;simp only[Jo.putl,Jo.zd,Jo.ze,Act.put,Jo.za,Jo.zb,Jo.zc];simp only[ep,eq_];clear ep eq_;generalize vs 0=u0 at d0 ee|-;generalize vs 1=u1 at d1|-;generalize vs 4=u4 at|-;clear vs
 replace d0:u0=_:=d0
 subst d0
 replace d1:u1=_:=d1
 subst d1
 injection ee with ee
 subst ee;replace X1:=X1.b hJ;replace XR:=XR.b hJ;replace X3:=X3.b hJ;replace p9:=p9.b hJ;replace p3:=p3.b hJ;replace HB:=Hqb HB hJ;have xX6:=X6.cell;have zX60:=X6.frozen
 refine jn 5 fun K hK=>?_
 go_simp;refine hK.out _ _ ?_;clear hK K xX6 zX60;generalize hS:(w9.setCell _ _).setCell _ _=wB at *;have SX:=StN.of2 X6 hS;replace X1:=X1.s SX;replace XR:=XR.s SX;replace X3:=X3.s SX;replace X5:=X5.s SX;replace p9:=p9.s SX;replace p3:=p3.s SX;replace HB:=Hqs HB SX (by omega)
 replace X6:=SX.box;clear SX hS;refine jd ?_
 go_upto_region 7 with (fail)
 generalize hg3:w2.heap.size=g3 at *
 have G1:w.heap.size+1 < g3/\g3 < g5/\g3 < g6/\g5≠g6:=⟨by omega,by omega,by omega,hneg5⟩
 have hI0:TInv w x g3 g5 g6 s3 A3 n3 c3 s9 A9 n9 c9 0 wB:=⟨_,_,_,_,_,_,_,_,X1,XR,X3,X5,X6,p3,p9,p3,p3,by omega,by decide,HB.out⟩
 have HI0:=ie hI0;clear hI0 XR X1 X3 X5 X6 p3 p9 HB;go_wp2
 go_loopw [7] (fun i wr=>∃j:Nat,i= .int .i64 ((j:Int)+1)/\TInv w x g3 g5 g6 s3 A3 n3 c3 s9 A9 n9 c9 j wr) (fun i _=>41-(intOf i).toNat)
 case atStart=>exact ⟨0,rfl,HI0.out⟩
 case round=>
  obtain⟨j,rfl,s5,A5,n5,c5,s6,A6,n6,c6,X1,XR,X3,X5,X6,p3,p9,p6,p5,k5,hj,hB⟩:=hrel;have HB:=ie hB;have few6:=p6.fits (ti_fits HXB.out hj);clear hB HI0
  by_cases hlt:j < 40
  ·have tlt:decide ((j:Int)+1<=40)=true:=dt (by omega)
   have HW1:=iw (2*((j:Int)+1));have HW2:=iw (2*((j:Int)+1)+1);have HW3:=jw (2*((j:Int)+1)+1)
   have hb4:0<=2*((j:Int)+1)*(2*((j:Int)+1)+1)/\2*((j:Int)+1)*(2*((j:Int)+1)+1)<=80*81/\2*((j:Int)+1)*(2*((j:Int)+1)+1)≠0:=by
    have a:0 < 2*((j:Int)+1)*(2*((j:Int)+1)+1):=Int.mul_pos (by omega) (by omega)
    exact⟨Int.le_of_lt a,Int.mul_le_mul (by omega) (by omega) (by omega) (by omega),by omega⟩
   have HW4:=iw (2*((j:Int)+1)*(2*((j:Int)+1)+1));have HTI:=ie (ti_step x j);have HB4:=ie hb4;clear hb4
   have HSI:Hid (si x j+ti x (j+1)=si x (j+1)):=ie rfl
   have HFB:=ie (ti_fits HXB.out (show j+1<=40 by omega))
   generalize hv:ti x (j+1)=T at *;have HV:=ie hv;clear hv;obtain⟨v,hv⟩:∃v,ti x j*x/SC=v:=⟨_,rfl⟩;obtain⟨u,hu⟩:∃u,v*x/SC=u:=⟨_,rfl⟩
   have HP1:Hid (prd [ti x j,x]=ti x j*x):=ie (by show 1*ti x j*x=_;rw[Int.one_mul])
   have HP2:Hid (prd [v,x]=v*x):=ie (by show 1*v*x=_;rw[Int.one_mul])
   have HD1:Hid ((ti x j*x).fdiv SC=v):=ie (by rw[Int.fdiv_eq_ediv_of_nonneg _ (by decide)];exact hv)
   have HD2:Hid ((v*x).fdiv SC=u):=ie (by rw[Int.fdiv_eq_ediv_of_nonneg _ (by decide)];exact hu)
   have HTJ:Hid (u.fdiv (2*((j:Int)+1)*(2*((j:Int)+1)+1))= -T):=ie (by have q:=HTI.out;rw[hv,hu]at q;exact q)
   clear HTI hv hu
   go_upto_region 10 with (fail)
   clear tlt;have ltX1:=X1.lt;have ltXR:=XR.lt;have ltX3:=X3.lt;have ltX5:=X5.lt;have ltX6:=X6.lt;have hszB:=HB.out.size;refine jk [0,1,2,3,4,5,6] [some 38,some 39,some 40,some 41,some 42,some 43,some 8,none] [[],[],[0,1],[2],[],[3,4],[],[]] 8 1 [Jo.Fact.eq (.agg #[.bool s6,.slice A6 n6 c6]),Jo.Fact.eq (.agg #[.bool s3,.slice A3 n3 c3]),Jo.Fact.wl 12 2 [ti x j,x],Jo.Fact.wn (ti x j*x) (25),Jo.Fact.eq (.agg #[.bool s9,.slice A9 n9 c9]),Jo.Fact.wn (v) (40),Jo.Fact.bo wr.heap.size #[.bool false,.slice none 0 0] 27,Jo.Fact.any] ?_ ?_
   ·iterate 2 (refine jm ?_ ?_;rotate_left)
    refine jm ?_ ?_
    ·rintro wj hJ _ rfl _ rfl K hK;simp only[Jo.z]at hK|-;go_simp;exact hK.out _ _ ⟨_,_,rfl,Wl.lit2 rfl (p6.b hJ).wr (p3.b hJ).wr (by omega) (by omega)⟩ (bel1 _ _)
    refine jm ?_ ?_
    ·rintro wj hJ _ ⟨A20,c20,rfl,h20⟩ K hK;simp only[Jo.z]at hK|-;go_simp;exact Jo.w1 (wMul h20 (by decide) HP1.out) hK.out
    refine jm ?_ ?_;rotate_left
    refine jm ?_ ?_
    ·rintro wj hJ _ ⟨s21,A21,n21,c21,rfl,p21,k21⟩ _ rfl K hK;simp only[Jo.z]at hK|-;go_simp;exact Jo.w1 (tDown p21.wr (p9.b hJ).wr (by omega) (by omega) (by decide) HD1.out) hK.out
    refine jm ?_ ?_
    ·rintro wj hJ K hK;simp only[Jo.z]at hK|-;go_simp;exact hK.out _ _ ⟨_,rfl,hJ.size,Bo.new _ _ _⟩ (bel1 _ _)
    exact jo
    all_goals (rintro wj hJ;(repeat rintro _ rfl);intro K hK;simp only[Jo.z]at hK|-;have xX6:=(X6.b hJ).cell;have xX1:=(X1.b hJ).cell;have xX3:=(X3.b hJ).cell;go_simp;exact hK.out _ _ rfl (br _ _))
   rintro wb hJ _ rfl _ rfl _ ⟨_,_,rfl,_⟩ _ ⟨s21,A21,n21,c21,rfl,p21,k21⟩ _ rfl _ ⟨s22,A22,n22,c22,rfl,p22,k22⟩ _ ⟨g8,rfl,hg8,X8⟩ -;simp only[Jo.z];replace X1:=X1.b hJ;replace XR:=XR.b hJ;replace X3:=X3.b hJ;replace X5:=X5.b hJ;replace X6:=X6.b hJ;replace p3:=p3.b hJ;replace p5:=p5.b hJ;replace p9:=p9.b hJ;replace HB:=Hqb HB hJ
   clear p21;have xX8:=X8.cell;have zX80:=X8.frozen
   refine jn 7 fun K hK=>?_
   go_simp;refine hK.out _ _ ?_;clear hK K xX8 zX80;generalize hS:(wb.setCell _ _).setCell _ _=wc at *;have SX:=StN.of2 X8 hS;replace X1:=X1.s SX;replace XR:=XR.s SX;replace X3:=X3.s SX;replace X5:=X5.s SX;replace X6:=X6.s SX;replace p3:=p3.s SX;replace p5:=p5.s SX
   replace p9:=p9.s SX;replace p22:=p22.s SX;replace HB:=Hqs HB SX (by omega);replace X8:=SX.box;clear SX hS;refine jd ?_
   go_upto_region 11 with (fail)
   have ltX1:=X1.lt;have ltXR:=XR.lt;have ltX3:=X3.lt;have ltX5:=X5.lt;have ltX6:=X6.lt;have ltX8:=X8.lt;have hszC:=HB.out.size;refine jk [0,1,2,3,4,5,6] [some 44,some 45,some 46,some 47,some 48,some 49,some 9,none] [[],[],[0,1],[2],[],[3,4],[],[]] 8 1 [Jo.Fact.eq (.agg #[.bool s22,.slice A22 n22 c22]),Jo.Fact.eq (.agg #[.bool s3,.slice A3 n3 c3]),Jo.Fact.wl 40 2 [v,x],Jo.Fact.wn (v*x) (81),Jo.Fact.eq (.agg #[.bool s9,.slice A9 n9 c9]),Jo.Fact.wn (u) (100),Jo.Fact.bo wc.heap.size #[.bool false,.slice none 0 0] 27,Jo.Fact.any] ?_ ?_
   ·iterate 2 (refine jm ?_ ?_;rotate_left)
    refine jm ?_ ?_
    ·rintro wj hJ _ rfl _ rfl K hK;simp only[Jo.z]at hK|-;go_simp;exact hK.out _ _ ⟨_,_,rfl,Wl.lit2 rfl (p22.b hJ).wr (p3.b hJ).wr (by omega) (by omega)⟩ (bel1 _ _)
    refine jm ?_ ?_
    ·rintro wj hJ _ ⟨A30,c30,rfl,h30⟩ K hK;simp only[Jo.z]at hK|-;go_simp;exact Jo.w1 (wMul h30 (by decide) HP2.out) hK.out
    refine jm ?_ ?_;rotate_left
    refine jm ?_ ?_
    ·rintro wj hJ _ ⟨s31,A31,n31,c31,rfl,p31,k31⟩ _ rfl K hK;simp only[Jo.z]at hK|-;go_simp;exact Jo.w1 (tDown p31.wr (p9.b hJ).wr (by omega) (by omega) (by decide) HD2.out) hK.out
    refine jm ?_ ?_
    ·rintro wj hJ K hK;simp only[Jo.z]at hK|-;go_simp;exact hK.out _ _ ⟨_,rfl,hJ.size,Bo.new _ _ _⟩ (bel1 _ _)
    exact jo
    all_goals (rintro wj hJ;(repeat rintro _ rfl);intro K hK;simp only[Jo.z]at hK|-;have xX8:=(X8.b hJ).cell;have xX1:=(X1.b hJ).cell;have xX3:=(X3.b hJ).cell;go_simp;exact hK.out _ _ rfl (br _ _))
   rintro wd hJ _ rfl _ rfl _ ⟨_,_,rfl,_⟩ _ ⟨s31,A31,n31,c31,rfl,p31,k31⟩ _ rfl _ ⟨s32,A32,n32,c32,rfl,p32,k32⟩ _ ⟨g9,rfl,hg9,X9⟩ -;simp only[Jo.z];replace X1:=X1.b hJ;replace XR:=XR.b hJ;replace X3:=X3.b hJ;replace X5:=X5.b hJ;replace X6:=X6.b hJ;replace p3:=p3.b hJ;replace p5:=p5.b hJ;replace p9:=p9.b hJ;replace HB:=Hqb HB hJ
   clear p31 p22 X8;have xX9:=X9.cell;have zX90:=X9.frozen
   refine jn 7 fun K hK=>?_
   go_simp;refine hK.out _ _ ?_;clear hK K xX9 zX90;generalize hS:(wd.setCell _ _).setCell _ _=we at *;have SX:=StN.of2 X9 hS;replace X1:=X1.s SX;replace XR:=XR.s SX;replace X3:=X3.s SX;replace X5:=X5.s SX;replace X6:=X6.s SX;replace p3:=p3.s SX;replace p5:=p5.s SX
   replace p9:=p9.s SX;replace p32:=p32.s SX;replace HB:=Hqs HB SX (by omega);replace X9:=SX.box;clear SX hS;refine jd ?_
   go_upto_region 12 with (fail)
   have ltX1:=X1.lt;have ltXR:=XR.lt;have ltX3:=X3.lt;have ltX5:=X5.lt;have ltX6:=X6.lt;have ltX9:=X9.lt;have hszE:=HB.out.size;refine jk [0,1,2,3,4,5,6,7,8,9] [some 50,some 51,some 52,some 53,some 54,some 55,some 56,some 57,some 58,some 59,none] [[],[],[1],[],[3],[4],[2,5],[6],[0,7],[8],[]] 11 1 [Jo.Fact.eq (.agg #[.bool s32,.slice A32 n32 c32]),Jo.Fact.eq (.int .i64 ((j:Int)+1)),Jo.Fact.eq (.int .i64 (2*((j:Int)+1))),Jo.Fact.eq (.int .i64 ((j:Int)+1)),Jo.Fact.eq (.int .i64 (2*((j:Int)+1))),Jo.Fact.eq (.int .i64 (2*((j:Int)+1)+1)),Jo.Fact.eq (.int .i64 (2*((j:Int)+1)*(2*((j:Int)+1)+1))),Jo.Fact.wn (2*((j:Int)+1)*(2*((j:Int)+1)+1)) (2),Jo.Fact.wn (-T) (106),Jo.Fact.wn (T) (106),Jo.Fact.any] ?_ ?_
   ·iterate 2 (refine jm ?_ ?_;rotate_left)
    refine jm ?_ ?_
    ·rintro wj hJ _ rfl K hK;simp only[Jo.z]at hK|-;have hw:=HW1.out;go_simp
     exact hK.out _ _ (by first | rfl | (show Value.int _ _=Value.int _ _;simp_all)) (br _ _)
    refine jm ?_ ?_;rotate_left
    refine jm ?_ ?_
    ·rintro wj hJ _ rfl K hK;simp only[Jo.z]at hK|-;have hw:=HW1.out;go_simp
     exact hK.out _ _ (by first | rfl | (show Value.int _ _=Value.int _ _;simp_all)) (br _ _)
    refine jm ?_ ?_
    ·rintro wj hJ _ rfl K hK;simp only[Jo.z]at hK|-;have hw:=HW2.out;have hw3:=HW3.out;go_simp
     exact hK.out _ _ (by first | rfl | (show Value.int _ _=Value.int _ _;simp_all)) (br _ _)
    refine jm ?_ ?_
    ·rintro wj hJ _ rfl _ rfl K hK;simp only[Jo.z]at hK|-;have hw:=HW4.out;go_simp
     exact hK.out _ _ (by first | rfl | (show Value.int _ _=Value.int _ _;simp_all)) (br _ _)
    refine jm ?_ ?_
    ·rintro wj hJ _ rfl K hK;simp only[Jo.z]at hK|-;go_simp;exact Jo.w1 (wFrom _ _ (Int.le_trans (by decide) HB4.out.1) (Int.le_trans HB4.out.2.1 (by decide))) hK.out
    refine jm ?_ ?_
    ·rintro wj hJ _ rfl _ ⟨s40,A40,n40,c40,rfl,p40,k40⟩ K hK;simp only[Jo.z]at hK|-;go_simp;exact Jo.w1 (tDown (p32.b hJ).wr p40.wr (by omega) (by omega) HB4.out.2.2 HTJ.out) hK.out
    refine jm ?_ ?_
    ·rintro wj hJ _ ⟨s41,A41,n41,c41,rfl,p41,k41⟩ K hK;simp only[Jo.z]at hK|-;go_simp;exact Jo.w1 (wNeg p41.wr (Int.neg_neg T)) hK.out
    exact jo
    all_goals (rintro wj hJ;(repeat rintro _ rfl);intro K hK;simp only[Jo.z]at hK|-;have xX9:=(X9.b hJ).cell;go_simp;exact hK.out _ _ rfl (br _ _))
   rintro wf hJ _ rfl _ rfl _ rfl _ rfl _ rfl _ rfl _ rfl _ ⟨s40,A40,n40,c40,rfl,p40,k40⟩ _ ⟨s41,A41,n41,c41,rfl,p41,k41⟩ _ ⟨s42,A42,n42,c42,rfl,p42,k42⟩ -;simp only[Jo.z];replace X1:=X1.b hJ;replace XR:=XR.b hJ;replace X3:=X3.b hJ;replace X5:=X5.b hJ;replace X6:=X6.b hJ;replace p3:=p3.b hJ;replace p5:=p5.b hJ;replace p9:=p9.b hJ
   replace HB:=Hqb HB hJ;clear p32 p40 p41 p6 X9;have few42:=p42.fits HFB.out;have xX6:=X6.cell;have zX60:=X6.frozen
   refine jn 10 fun K hK=>?_
   go_simp;refine hK.out _ _ ?_;clear hK K xX6 zX60;generalize hS:(wf.setCell _ _).setCell _ _=wg at *;have SX:=StN.of2 X6 hS;replace X1:=X1.s SX;replace XR:=XR.s SX;replace X3:=X3.s SX;replace X5:=X5.s SX;replace p3:=p3.s SX;replace p5:=p5.s SX;replace p9:=p9.s SX
   replace p42:=p42.s SX;replace HB:=Hqs HB SX (by omega);replace X6:=SX.box;clear SX hS;refine jd ?_
   go_upto_region 13 with (fail)
   have xX5:=X5.cell;have xX6:=X6.cell
   go_wp2_with fail
   refine(wAdd p5.wr p42.wr (by omega) (by omega) HSI.out).mono ?_;rintro ee wh ⟨s43,A43,n43,c43,rfl,p43,k43,B⟩;clear xX5 xX6;replace X1:=X1.b B;replace XR:=XR.b B;replace X3:=X3.b B;replace X5:=X5.b B;replace X6:=X6.b B;replace p3:=p3.b B;replace p5:=p5.b B;replace p9:=p9.b B;replace p42:=p42.b B;replace HB:=Hqb HB B
   clear B;clear p5;have xX5:=X5.cell;have zX50:=X5.frozen
   go_upto_region 9 with (fail)
   clear xX5 zX50;generalize hS:(wh.setCell _ _).setCell _ _=wi at *;have SX:=StN.of2 X5 hS;replace X1:=X1.s SX;replace XR:=XR.s SX;replace X3:=X3.s SX;replace X6:=X6.s SX;replace p3:=p3.s SX;replace p9:=p9.s SX;replace p42:=p42.s SX;replace p43:=p43.s SX
   replace HB:=Hqs HB SX (by omega);replace X5:=SX.box;clear SX hS;have HW5:=iw ((j:Int)+1+1);have HW6:=jw ((j:Int)+1+1);have hw5:=HW5.out;have hw6:=HW6.out;have hT:=HV.out;subst hT;go_wp2;clear hw5 hw6
   go_roundw
   case rel=>exact ⟨j+1,by go_num,_,_,_,_,_,_,_,_,X1,XR,X3,X5,X6,p3,p9,p42,p43,by omega,by omega,HB.out⟩
   case measure=>simp [intOf];omega
  ·obtain rfl:j=40:=by omega
   have tlt:decide (((40:Nat):Int)+1<=40)=false:=by decide
   clear p3 p6 p9;have xXR:=XR.cell;have zXR0:=XR.frozen;have xX5:=X5.cell;go_wp2;clear xXR zXR0 xX5;have SX:=StN.t2 XR s5 A5 n5 c5;replace p5:=p5.s SX;exact bq (v:= .agg #[.bool s5,.slice A5 n5 c5]) (by simp[results,Tryz.results13,go_sem,SX.box.cell]) rfl ⟨_,_,_,_,rfl,p5,by omega,(SX.below HB.out (by omega))⟩
theorem tSer{w:World}{A:Option Addr}{n c:Nat}{s:Bool}{x r:Int}(h:Wr w s A n c x)(hn:n<=100000)(hr:serI x=r):Calls Tryz.prog 13 #[.agg #[.bool s,.slice A n c]] w (W1 w 300000 r):=by
 obtain⟨a,h,hx⟩:=h
 unfold serI at hr
 by_cases h1:(4*SC) < x
 ·rw[if_pos (by omega)]at hr;subst hr;exact tser_hi h hx hn h1
 ·by_cases h2:x < -(4*SC)
  ·rw[if_pos (by omega)]at hr;subst hr;exact tser_lo h hx hn h1 h2
  ·rw[if_neg (by omega)]at hr;subst hr;exact tser_near h hx hn h1 h2
def PSp (w:World)(K:Nat)(x y:Int)(e:Ending)(w':World):Prop:=∃s1 A1 n1 c1 s2 A2 n2 c2,e= .returned (.agg #[.bool s1,.slice A1 n1 c1,.bool s2,.slice A2 n2 c2])/\Wn w' s1 A1 n1 c1 x/\Wn w' s2 A2 n2 c2 y/\n1<=K/\n2<=K/\Below w.heap.size w w'
def Jo.Fact.sp (x y:Int)(K:Nat):Jo.Fact:=⟨fun v w=>∃s1 A1 n1 c1 s2 A2 n2 c2,v= .agg #[.bool s1,.slice A1 n1 c1,.bool s2,.slice A2 n2 c2]/\Wn w s1 A1 n1 c1 x/\Wn w s2 A2 n2 c2 y/\n1<=K/\n2<=K,fun v w w' h b=>by
 obtain⟨s1,A1,n1,c1,s2,A2,n2,c2,e,p,q,k,l⟩:=h;exact⟨s1,A1,n1,c1,s2,A2,n2,c2,e,p.below b,q.below b,k,l⟩⟩
theorem tPlus{w:World}{A:Option Addr}{n c:Nat}{s:Bool}{x:Int}{B:Option Addr}{m d:Nat}{t:Bool}{y:Int}{A':Option Addr}{n' c':Nat}{s':Bool}{x':Int}{B':Option Addr}{m' d':Nat}{t':Bool}{y':Int}{Z:Nat}{u v:Int}(h:Wn w s A n c x)(k:Wn w t B m d y)(h':Wn w s' A' n' c' x')(k':Wn w t' B' m' d' y')(hn:n<=1000000)(hm:m<=1000000)(hn':n'<=1000000)(hm':m'<=1000000)(hK1:n+n'+1<=Z)(hK2:m+m'+1<=Z)(hu:x+x'=u)(hv:y+y'=v):Calls Tryz.prog 139 #[.agg #[.bool s,.slice A n c,.bool t,.slice B m d],.agg #[.bool s',.slice A' n' c',.bool t',.slice B' m' d']] w (PSp w Z u v):=by
 have HU:=ie hu;have HV:=ie hv;clear hu hv
 go_enter Tryz.func139,Tryz.ntmps139
 go_upto_region 1 with (fail)
 generalize hW1:((w.alloc _).alloc _).alloc _=w1 at *;obtain⟨X2,X3,XR,HB⟩:=Bo.en3 hW1;replace h:=h.below HB.out;replace k:=k.below HB.out
 replace h':=h'.below HB.out
 replace k':=k'.below HB.out
 clear hW1;have ltX2:=X2.lt;have ltX3:=X3.lt;have ltXR:=XR.lt;refine jk [0,1,2,3,4,5,6,7,8,9,10] [some 5,some 6,some 7,some 8,some 9,some 10,some 11,some 12,some 13,some 14,some 15,none] [[],[0],[],[2],[1,3],[],[5],[],[7],[6,8],[4,9],[]] 12 1 [Jo.qp w.heap.size 0,Jo.Fact.eq (.agg #[.bool s,.slice A n c]),Jo.qp (w.heap.size+1) 0,Jo.Fact.eq (.agg #[.bool s',.slice A' n' c']),Jo.Fact.wn (u) (Z),Jo.qp w.heap.size 2,Jo.Fact.eq (.agg #[.bool t,.slice B m d]),Jo.qp (w.heap.size+1) 2,Jo.Fact.eq (.agg #[.bool t',.slice B' m' d']),Jo.Fact.wn (v) (Z),Jo.Fact.sp (u) (v) (Z),Jo.Fact.any] ?_ ?_
 ·iterate 4 (refine jm ?_ ?_;rotate_left)
  refine jm ?_ ?_
  ·rintro wj hJ _ rfl _ rfl K hK;simp only[Jo.z]at hK|-;go_simp;exact Jo.w1 (wAdd (h.b hJ).wr (h'.b hJ).wr (by omega) (by omega) HU.out) hK.out
  refine jm ?_ ?_;rotate_left
  refine jm ?_ ?_
  ·rintro wj hJ _ rfl K hK;simp only[Jo.z]at hK|-;have xX22:=(X2.b hJ).a 2 (.bool t) rfl;have xX23:=(X2.b hJ).a 3 (.slice B m d) rfl;go_simp;exact hK.out _ _ rfl (br _ _)
  refine jm ?_ ?_;rotate_left
  refine jm ?_ ?_
  ·rintro wj hJ _ rfl K hK;simp only[Jo.z]at hK|-;have xX32:=(X3.b hJ).a 2 (.bool t') rfl;have xX33:=(X3.b hJ).a 3 (.slice B' m' d') rfl;go_simp;exact hK.out _ _ rfl (br _ _)
  refine jm ?_ ?_
  ·rintro wj hJ _ rfl _ rfl K hK;simp only[Jo.z]at hK|-;go_simp;exact Jo.w1 (wAdd (k.b hJ).wr (k'.b hJ).wr (by omega) (by omega) HV.out) hK.out
  refine jm ?_ ?_
  ·rintro wj hJ _ ⟨s20,A20,n20,c20,rfl,p20,k20⟩ _ ⟨s21,A21,n21,c21,rfl,p21,k21⟩ K hK;simp only[Jo.z]at hK|-;go_simp;exact hK.out _ _ ⟨_,_,_,_,_,_,_,_,rfl,p20,p21,by omega,by omega⟩ (br _ _)
  exact jo
  all_goals (rintro wj hJ;(repeat rintro _ rfl);intro K hK;simp only[Jo.z]at hK|-;have xX2:=(X2.b hJ).cell;have xX3:=(X3.b hJ).cell;go_simp;exact hK.out _ _ rfl (br _ _))
 rintro w2 hJ _ _ _ rfl _ _ _ rfl _ ⟨s20,A20,n20,c20,rfl,p20,k20⟩ _ _ _ rfl _ _ _ rfl _ ⟨s21,A21,n21,c21,rfl,p21,k21⟩ _ ⟨s22,A22,n22,c22,s23,A23,n23,c23,rfl,p22,p23,k22,k23⟩ -;simp only[Jo.z];replace XR:=XR.b hJ;replace HB:=Hqb HB hJ;clear h k h' k' p20 p21;have xXR:=XR.cell;have zXR0:=XR.frozen
 refine jn 11 fun K hK=>?_
 go_simp;refine hK.out _ _ ?_;clear hK K xXR zXR0;have SX:=StN.mk4 XR (.bool s22) (.slice A22 n22 c22) (.bool s23) (.slice A23 n23 c23);replace p22:=p22.s SX;replace p23:=p23.s SX;refine jd ?_;go_wp2;exact bq (v:= .agg #[.bool s22,.slice A22 n22 c22,.bool s23,.slice A23 n23 c23]) (by simp[results,Tryz.results139,go_sem,SX.box.cell]) rfl ⟨s22,A22,n22,c22,s23,A23,n23,c23,rfl,p22,p23,k22,k23,(SX.below HB.out (by omega))⟩
theorem tMinus{w:World}{A:Option Addr}{n c:Nat}{s:Bool}{x:Int}{B:Option Addr}{m d:Nat}{t:Bool}{y:Int}{A':Option Addr}{n' c':Nat}{s':Bool}{x':Int}{B':Option Addr}{m' d':Nat}{t':Bool}{y':Int}{Z:Nat}{u v:Int}(h:Wn w s A n c x)(k:Wn w t B m d y)(h':Wn w s' A' n' c' x')(k':Wn w t' B' m' d' y')(hn:n<=1000000)(hm:m<=1000000)(hn':n'<=1000000)(hm':m'<=1000000)(hK1:n+m'+1<=Z)(hK2:m+n'+1<=Z)(hu:x-y'=u)(hv:y-x'=v):Calls Tryz.prog 197 #[.agg #[.bool s,.slice A n c,.bool t,.slice B m d],.agg #[.bool s',.slice A' n' c',.bool t',.slice B' m' d']] w (PSp w Z u v):=by
 have HU:=ie hu;have HV:=ie hv;clear hu hv
 go_enter Tryz.func197,Tryz.ntmps197
 go_upto_region 1 with (fail)
 generalize hW1:((w.alloc _).alloc _).alloc _=w1 at *;obtain⟨X2,X3,XR,HB⟩:=Bo.en3 hW1;replace h:=h.below HB.out;replace k:=k.below HB.out
 replace h':=h'.below HB.out
 replace k':=k'.below HB.out
 clear hW1;have ltX2:=X2.lt;have ltX3:=X3.lt;have ltXR:=XR.lt;refine jk [0,1,2,3,4,5,6,7,8,9,10] [some 5,some 6,some 7,some 8,some 9,some 10,some 11,some 12,some 13,some 14,some 15,none] [[],[0],[],[2],[1,3],[],[5],[],[7],[6,8],[4,9],[]] 12 1 [Jo.qp w.heap.size 0,Jo.Fact.eq (.agg #[.bool s,.slice A n c]),Jo.qp (w.heap.size+1) 2,Jo.Fact.eq (.agg #[.bool t',.slice B' m' d']),Jo.Fact.wn (u) (Z),Jo.qp w.heap.size 2,Jo.Fact.eq (.agg #[.bool t,.slice B m d]),Jo.qp (w.heap.size+1) 0,Jo.Fact.eq (.agg #[.bool s',.slice A' n' c']),Jo.Fact.wn (v) (Z),Jo.Fact.sp (u) (v) (Z),Jo.Fact.any] ?_ ?_
 ·iterate 3 (refine jm ?_ ?_;rotate_left)
  refine jm ?_ ?_
  ·rintro wj hJ _ rfl K hK;simp only[Jo.z]at hK|-;have xX32:=(X3.b hJ).a 2 (.bool t') rfl;have xX33:=(X3.b hJ).a 3 (.slice B' m' d') rfl;go_simp;exact hK.out _ _ rfl (br _ _)
  refine jm ?_ ?_
  ·rintro wj hJ _ rfl _ rfl K hK;simp only[Jo.z]at hK|-;go_simp;exact Jo.w1 (wSub (h.b hJ).wr (k'.b hJ).wr (by omega) (by omega) HU.out) hK.out
  refine jm ?_ ?_;rotate_left
  refine jm ?_ ?_
  ·rintro wj hJ _ rfl K hK;simp only[Jo.z]at hK|-;have xX22:=(X2.b hJ).a 2 (.bool t) rfl;have xX23:=(X2.b hJ).a 3 (.slice B m d) rfl;go_simp;exact hK.out _ _ rfl (br _ _)
  iterate 2 (refine jm ?_ ?_;rotate_left)
  refine jm ?_ ?_
  ·rintro wj hJ _ rfl _ rfl K hK;simp only[Jo.z]at hK|-;go_simp;exact Jo.w1 (wSub (k.b hJ).wr (h'.b hJ).wr (by omega) (by omega) HV.out) hK.out
  refine jm ?_ ?_
  ·rintro wj hJ _ ⟨s20,A20,n20,c20,rfl,p20,k20⟩ _ ⟨s21,A21,n21,c21,rfl,p21,k21⟩ K hK;simp only[Jo.z]at hK|-;go_simp;exact hK.out _ _ ⟨_,_,_,_,_,_,_,_,rfl,p20,p21,by omega,by omega⟩ (br _ _)
  exact jo
  all_goals (rintro wj hJ;(repeat rintro _ rfl);intro K hK;simp only[Jo.z]at hK|-;have xX2:=(X2.b hJ).cell;have xX3:=(X3.b hJ).cell;go_simp;exact hK.out _ _ rfl (br _ _))
 rintro w2 hJ _ _ _ rfl _ _ _ rfl _ ⟨s20,A20,n20,c20,rfl,p20,k20⟩ _ _ _ rfl _ _ _ rfl _ ⟨s21,A21,n21,c21,rfl,p21,k21⟩ _ ⟨s22,A22,n22,c22,s23,A23,n23,c23,rfl,p22,p23,k22,k23⟩ -;simp only[Jo.z];replace XR:=XR.b hJ;replace HB:=Hqb HB hJ;clear h k h' k' p20 p21;have xXR:=XR.cell;have zXR0:=XR.frozen
 refine jn 11 fun K hK=>?_
 go_simp;refine hK.out _ _ ?_;clear hK K xXR zXR0;have SX:=StN.mk4 XR (.bool s22) (.slice A22 n22 c22) (.bool s23) (.slice A23 n23 c23);replace p22:=p22.s SX;replace p23:=p23.s SX;refine jd ?_;go_wp2;exact bq (v:= .agg #[.bool s22,.slice A22 n22 c22,.bool s23,.slice A23 n23 c23]) (by simp[results,Tryz.results197,go_sem,SX.box.cell]) rfl ⟨s22,A22,n22,c22,s23,A23,n23,c23,rfl,p22,p23,k22,k23,(SX.below HB.out (by omega))⟩
theorem tOpp{w:World}{A:Option Addr}{n c:Nat}{s:Bool}{x:Int}{B:Option Addr}{m d:Nat}{t:Bool}{y:Int}{Z:Nat}{u v:Int}(h:Wn w s A n c x)(k:Wn w t B m d y)(hn:n<=Z)(hm:m<=Z)(hu: -y=u)(hv: -x=v):Calls Tryz.prog 199 #[.agg #[.bool s,.slice A n c,.bool t,.slice B m d]] w (PSp w Z u v):=by
 have HU:=ie hu;have HV:=ie hv;clear hu hv
 go_enter Tryz.func199,Tryz.ntmps199
 go_upto_region 1 with (fail)
 generalize hW1:(w.alloc _).alloc _=w1 at *;obtain⟨X1,XR,HB⟩:=Bo.en2 hW1;replace h:=h.below HB.out;replace k:=k.below HB.out;clear hW1;have ltX1:=X1.lt;have ltXR:=XR.lt;refine jk [0,1,2,3,4,5,6] [some 3,some 4,some 5,some 6,some 7,some 8,some 9,none] [[],[0],[1],[],[3],[4],[2,5],[]] 8 1 [Jo.qp w.heap.size 2,Jo.Fact.eq (.agg #[.bool t,.slice B m d]),Jo.Fact.wn (u) (Z),Jo.qp w.heap.size 0,Jo.Fact.eq (.agg #[.bool s,.slice A n c]),Jo.Fact.wn (v) (Z),Jo.Fact.sp (u) (v) (Z),Jo.Fact.any] ?_ ?_
 ·refine jm ?_ ?_;rotate_left
  refine jm ?_ ?_
  ·rintro wj hJ _ rfl K hK;simp only[Jo.z]at hK|-;have xX12:=(X1.b hJ).a 2 (.bool t) rfl;have xX13:=(X1.b hJ).a 3 (.slice B m d) rfl;go_simp;exact hK.out _ _ rfl (br _ _)
  refine jm ?_ ?_
  ·rintro wj hJ _ rfl K hK;simp only[Jo.z]at hK|-;go_simp;exact Jo.w1 (wNeg (k.b hJ).wr HU.out) hK.out
  iterate 2 (refine jm ?_ ?_;rotate_left)
  refine jm ?_ ?_
  ·rintro wj hJ _ rfl K hK;simp only[Jo.z]at hK|-;go_simp;exact Jo.w1 (wNeg (h.b hJ).wr HV.out) hK.out
  refine jm ?_ ?_
  ·rintro wj hJ _ ⟨s20,A20,n20,c20,rfl,p20,k20⟩ _ ⟨s21,A21,n21,c21,rfl,p21,k21⟩ K hK;simp only[Jo.z]at hK|-;go_simp;exact hK.out _ _ ⟨_,_,_,_,_,_,_,_,rfl,p20,p21,by omega,by omega⟩ (br _ _)
  exact jo
  all_goals (rintro wj hJ;(repeat rintro _ rfl);intro K hK;simp only[Jo.z]at hK|-;have xX1:=(X1.b hJ).cell;go_simp;exact hK.out _ _ rfl (br _ _))
 rintro w2 hJ _ _ _ rfl _ ⟨s20,A20,n20,c20,rfl,p20,k20⟩ _ _ _ rfl _ ⟨s21,A21,n21,c21,rfl,p21,k21⟩ _ ⟨s22,A22,n22,c22,s23,A23,n23,c23,rfl,p22,p23,k22,k23⟩ -;simp only[Jo.z];replace XR:=XR.b hJ;replace HB:=Hqb HB hJ;clear h k p20 p21;have xXR:=XR.cell;have zXR0:=XR.frozen
 refine jn 7 fun K hK=>?_
 go_simp;refine hK.out _ _ ?_;clear hK K xXR zXR0;have SX:=StN.mk4 XR (.bool s22) (.slice A22 n22 c22) (.bool s23) (.slice A23 n23 c23);replace p22:=p22.s SX;replace p23:=p23.s SX;refine jd ?_;go_wp2;exact bq (v:= .agg #[.bool s22,.slice A22 n22 c22,.bool s23,.slice A23 n23 c23]) (by simp[results,Tryz.results199,go_sem,SX.box.cell]) rfl ⟨s22,A22,n22,c22,s23,A23,n23,c23,rfl,p22,p23,k22,k23,(SX.below HB.out (by omega))⟩
theorem prd_two{z x:Int}:prd [z,x]=z*x:=by
 show 1*z*x=_
 rw[Int.one_mul]
theorem tTimes{w:World}{A:Option Addr}{n c:Nat}{s:Bool}{x:Int}{B:Option Addr}{m d:Nat}{t:Bool}{y:Int}{C:Option Addr}{l f:Nat}{q:Bool}{z:Int}{L Z:Nat}{u v:Int}(h:Wn w s A n c x)(k:Wn w t B m d y)(g:Wn w q C l f z)(hn:n<=L)(hm:m<=L)(hl:l<=L)(hL:L<=1000000)(hK:1+2*L<=Z)(hu:(if z < 0 then z*y else z*x)=u)(hv:(if z < 0 then z*x else z*y)=v):Calls Tryz.prog 147 #[.agg #[.bool s,.slice A n c,.bool t,.slice B m d],.agg #[.bool q,.slice C l f]] w (PSp w Z u v):=by
 obtain⟨σ,hσ⟩:∃σ,cmpI z 0=σ:=⟨_,rfl⟩;have e1:=(cmp_lt12 hσ).1;have HU:=ie hu;have HV:=ie hv;have HS:=ie hσ;have E1:=ie e1;clear hu hv hσ e1
 go_enter Tryz.func147,Tryz.ntmps147
 go_upto_region 1 with (fail)
 generalize hW1:((w.alloc _).alloc _).alloc _=w1 at *;obtain⟨X2,X3,XR,HB⟩:=Bo.en3 hW1;replace h:=h.below HB.out;replace k:=k.below HB.out;replace g:=g.below HB.out;clear hW1;have ltX2:=X2.lt;have ltX3:=X3.lt;have ltXR:=XR.lt;have hszp:=HB.out.size
 refine Jo.region_twin (T:=[0,1,2,3,4,5,6,7,8,9,10,11]) (ds:=[some 7,some 8,some 9,some 10,some 11,some 12,some 13,some 14,some 15,some 16,some 5,some 6,none,none]) (ls:=[[],[],[1],[0,2],[3],[],[],[6],[5,7],[8],[],[],[],[]]) (k:=14) (L:=[(some 7,0),(some 8,1),(some 9,2),(some 10,3),(some 11,4),(some 12,5),(some 13,6),(some 14,7),(some 15,8),(some 16,9),(some 5,10),(some 6,11)]) (fuel:=2) (w1:=w1) (p:=10) (q:=11) (old:= #[.bool false,.slice none 0 0]) (R:=27)
  (F:=[Jo.Fact.eq (.agg #[.bool q,.slice C l f]),Jo.qp w.heap.size 0,Jo.Fact.eq (.agg #[.bool s,.slice A n c]),Jo.Fact.wl L 2 [z,x],Jo.Fact.wn (z*x) (Z),Jo.Fact.eq (.agg #[.bool q,.slice C l f]),Jo.qp w.heap.size 2,Jo.Fact.eq (.agg #[.bool t,.slice B m d]),Jo.Fact.wl L 2 [z,y],Jo.Fact.wn (z*y) (Z),Jo.Fact.any,Jo.Fact.any,Jo.Fact.any,Jo.Fact.any])
  (by decide) (by decide) (by kernel_rfl) (by kernel_rfl) (by decide) rfl rfl ?_ (fun vs w2 hJ hd hpq=>?_)
 ·refine Jo.tcons (i:=0) (o:=⟨some 7,_,_,_,_,_⟩) (di:=some 7) (L:=[]) (f:=Jo.Fact.eq (.agg #[.bool q,.slice C l f])) (by decide) (by decide) rfl rfl rfl rfl (fun vs wj hJ hd K hK=>?_) ?_
  ·clear hd;simp only[Jo.putl,Jo.ze,Act.put,Jo.za,Jo.zb,Jo.zc]at hK|-
   have xX30:World.cell? wj ⟨w.heap.size+1,0,none⟩=some (.bool q):=(X3.b hJ).cell 0
   have xX31:World.cell? wj ⟨w.heap.size+1,1,none⟩=some (.slice C l f):=(X3.b hJ).cell 1
   go_simp;exact hK.out _ _ rfl (br _ _)
  refine Jo.tcons (i:=1) (o:=⟨some 8,_,_,_,_,_⟩) (di:=some 8) (L:=[]) (f:=Jo.qp w.heap.size 0) (by decide) (by decide) rfl rfl rfl rfl (fun vs wj hJ hd K hK=>?_) ?_
  ·clear hd;simp only[Jo.putl,Jo.ze,Act.put,Jo.za,Jo.zb,Jo.zc]at hK|-;go_simp;exact hK.out _ _ rfl (br _ _)
  refine Jo.tcons (i:=2) (o:=⟨some 9,_,_,_,_,_⟩) (di:=some 9) (L:=[(some 8,1)]) (f:=Jo.Fact.eq (.agg #[.bool s,.slice A n c])) (by decide) (by decide) rfl rfl rfl rfl (fun vs wj hJ hd K hK=>?_) ?_
  ·have d1:(Jo.qp w.heap.size 0).P (vs 1) wj:=hd 1 (by decide)
   clear hd;simp only[Jo.putl,Jo.zd,Jo.ze,Act.put,Jo.za,Jo.zb,Jo.zc]at hK|-;generalize vs 1=u1 at hK d1|-
   replace d1:u1=_:=d1
   subst d1
   have xX20:World.cell? wj ⟨w.heap.size,0,none⟩=some (.bool s):=(X2.b hJ).cell 0
   have xX21:World.cell? wj ⟨w.heap.size,1,none⟩=some (.slice A n c):=(X2.b hJ).cell 1
   go_simp;exact hK.out _ _ rfl (br _ _)
  refine Jo.tcons (i:=3) (o:=⟨some 10,_,_,_,_,_⟩) (di:=some 10) (L:=[(some 7,0),(some 9,2)]) (f:=Jo.Fact.wl L 2 [z,x]) (by decide) (by decide) rfl rfl rfl rfl (fun vs wj hJ hd K hK=>?_) ?_
  ·have d0:(Jo.Fact.eq (.agg #[.bool q,.slice C l f])).P (vs 0) wj:=hd 0 (by decide)
   have d2:(Jo.Fact.eq (.agg #[.bool s,.slice A n c])).P (vs 2) wj:=hd 2 (by decide)
   simp only[Jo.putl,Jo.zd,Jo.ze,Act.put,Jo.za,Jo.zb,Jo.zc]at hK|-;clear hd;generalize vs 0=u0 at hK d0|-;generalize vs 2=u2 at hK d2|-
   replace d0:u0=_:=d0
   subst d0
   replace d2:u2=_:=d2
   subst d2;go_simp;exact hK.out _ _ ⟨_,_,rfl,Wl.lit2 rfl (g.b hJ).wr (h.b hJ).wr (by omega) (by omega)⟩ (bel1 _ _)
  refine Jo.tcons (i:=4) (o:=⟨some 11,_,_,_,_,_⟩) (di:=some 11) (L:=[(some 10,3)]) (f:=Jo.Fact.wn (z*x) (Z)) (by decide) (by decide) rfl rfl rfl rfl (fun vs wj hJ hd K hK=>?_) ?_
  ·have d3:(Jo.Fact.wl L 2 [z,x]).P (vs 3) wj:=hd 3 (by decide)
   clear hd;simp only[Jo.putl,Jo.zd,Jo.ze,Act.put,Jo.za,Jo.zb,Jo.zc]at hK|-;generalize vs 3=u3 at hK d3|-;obtain⟨A20,c20,rfl,h20⟩:=d3;go_simp;exact Jo.w1 (wMul h20 (by omega) prd_two) hK.out
  refine Jo.tcons (i:=5) (o:=⟨some 12,_,_,_,_,_⟩) (di:=some 12) (L:=[]) (f:=Jo.Fact.eq (.agg #[.bool q,.slice C l f])) (by decide) (by decide) rfl rfl rfl rfl (fun vs wj hJ hd K hK=>?_) ?_
  ·clear hd;simp only[Jo.putl,Jo.ze,Act.put,Jo.za,Jo.zb,Jo.zc]at hK|-
   have xX30:World.cell? wj ⟨w.heap.size+1,0,none⟩=some (.bool q):=(X3.b hJ).cell 0
   have xX31:World.cell? wj ⟨w.heap.size+1,1,none⟩=some (.slice C l f):=(X3.b hJ).cell 1
   go_simp;exact hK.out _ _ rfl (br _ _)
  refine Jo.tcons (i:=6) (o:=⟨some 13,_,_,_,_,_⟩) (di:=some 13) (L:=[]) (f:=Jo.qp w.heap.size 2) (by decide) (by decide) rfl rfl rfl rfl (fun vs wj hJ hd K hK=>?_) ?_
  ·clear hd;simp only[Jo.putl,Jo.ze,Act.put,Jo.za,Jo.zb,Jo.zc]at hK|-;go_simp;exact hK.out _ _ rfl (br _ _)
  refine Jo.tcons (i:=7) (o:=⟨some 14,_,_,_,_,_⟩) (di:=some 14) (L:=[(some 13,6)]) (f:=Jo.Fact.eq (.agg #[.bool t,.slice B m d])) (by decide) (by decide) rfl rfl rfl rfl (fun vs wj hJ hd K hK=>?_) ?_
  ·have d6:(Jo.qp w.heap.size 2).P (vs 6) wj:=hd 6 (by decide)
   clear hd;simp only[Jo.putl,Jo.zd,Jo.ze,Act.put,Jo.za,Jo.zb,Jo.zc]at hK|-;generalize vs 6=u6 at hK d6|-
   replace d6:u6=_:=d6
   subst d6
   have xX22:World.cell? wj ⟨w.heap.size,2,none⟩=some (.bool t):=(X2.b hJ).cell 2
   have xX23:World.cell? wj ⟨w.heap.size,3,none⟩=some (.slice B m d):=(X2.b hJ).cell 3
   go_simp;exact hK.out _ _ rfl (br _ _)
  refine Jo.tcons (i:=8) (o:=⟨some 15,_,_,_,_,_⟩) (di:=some 15) (L:=[(some 12,5),(some 14,7)]) (f:=Jo.Fact.wl L 2 [z,y]) (by decide) (by decide) rfl rfl rfl rfl (fun vs wj hJ hd K hK=>?_) ?_
  ·have d5:(Jo.Fact.eq (.agg #[.bool q,.slice C l f])).P (vs 5) wj:=hd 5 (by decide)
   have d7:(Jo.Fact.eq (.agg #[.bool t,.slice B m d])).P (vs 7) wj:=hd 7 (by decide)
   simp only[Jo.putl,Jo.zd,Jo.ze,Act.put,Jo.za,Jo.zb,Jo.zc]at hK|-;clear hd;generalize vs 5=u5 at hK d5|-;generalize vs 7=u7 at hK d7|-
   replace d5:u5=_:=d5
   subst d5
   replace d7:u7=_:=d7
   subst d7;go_simp;exact hK.out _ _ ⟨_,_,rfl,Wl.lit2 rfl (g.b hJ).wr (k.b hJ).wr (by omega) (by omega)⟩ (bel1 _ _)
  refine Jo.tcons (i:=9) (o:=⟨some 16,_,_,_,_,_⟩) (di:=some 16) (L:=[(some 15,8)]) (f:=Jo.Fact.wn (z*y) (Z)) (by decide) (by decide) rfl rfl rfl rfl (fun vs wj hJ hd K hK=>?_) ?_
  ·have d8:(Jo.Fact.wl L 2 [z,y]).P (vs 8) wj:=hd 8 (by decide)
   clear hd;simp only[Jo.putl,Jo.zd,Jo.ze,Act.put,Jo.za,Jo.zb,Jo.zc]at hK|-;generalize vs 8=u8 at hK d8|-;obtain⟨A22,c22,rfl,h22⟩:=d8;go_simp;exact Jo.w1 (wMul h22 (by omega) prd_two) hK.out
  refine Jo.tnew (i:=10) (o:=⟨some 5,_,_,_,_,_⟩) (di:=some 5) (L:=[]) (by decide) (by decide) rfl rfl rfl rfl (fun vs wj K hK=>?_) ?_
  ·simp only[Jo.putl,Jo.ze,Act.put,Jo.za,Jo.zb,Jo.zc]at hK|-;go_simp;exact hK.out
  refine Jo.tnew (i:=11) (o:=⟨some 6,_,_,_,_,_⟩) (di:=some 6) (L:=[]) (by decide) (by decide) rfl rfl rfl rfl (fun vs wj K hK=>?_) ?_
  ·simp only[Jo.putl,Jo.ze,Act.put,Jo.za,Jo.zb,Jo.zc]at hK|-;go_simp;exact hK.out
  exact Jo.StepsI.nil
 have d0:(Jo.Fact.eq (.agg #[.bool q,.slice C l f])).P (vs 0) w2:=hd 0 (by decide)
 have d1:(Jo.qp w.heap.size 0).P (vs 1) w2:=hd 1 (by decide)
 have d2:(Jo.Fact.eq (.agg #[.bool s,.slice A n c])).P (vs 2) w2:=hd 2 (by decide)
 have d3:(Jo.Fact.wl L 2 [z,x]).P (vs 3) w2:=hd 3 (by decide)
 have d4:(Jo.Fact.wn (z*x) (Z)).P (vs 4) w2:=hd 4 (by decide)
 have d5:(Jo.Fact.eq (.agg #[.bool q,.slice C l f])).P (vs 5) w2:=hd 5 (by decide)
 have d6:(Jo.qp w.heap.size 2).P (vs 6) w2:=hd 6 (by decide)
 have d7:(Jo.Fact.eq (.agg #[.bool t,.slice B m d])).P (vs 7) w2:=hd 7 (by decide)
 have d8:(Jo.Fact.wl L 2 [z,y]).P (vs 8) w2:=hd 8 (by decide)
 have d9:(Jo.Fact.wn (z*y) (Z)).P (vs 9) w2:=hd 9 (by decide)
 clear hd;obtain⟨g5,g6,ep,eq_,hg5,hg6,hneg5,X5,X6⟩:=hpq;simp only[Jo.putl,Jo.zd,Jo.ze,Act.put,Jo.za,Jo.zb,Jo.zc];simp only[ep,eq_];clear ep eq_;generalize vs 0=u0 at d0|-;generalize vs 1=u1 at d1|-;generalize vs 2=u2 at d2|-;generalize vs 3=u3 at d3|-;generalize vs 4=u4 at d4|-;generalize vs 5=u5 at d5|-;generalize vs 6=u6 at d6|-;generalize vs 7=u7 at d7|-
 generalize vs 8=u8 at d8|-;generalize vs 9=u9 at d9|-;clear vs
 replace d0:u0=_:=d0
 subst d0
 replace d1:u1=_:=d1
 subst d1
 replace d2:u2=_:=d2
 subst d2;obtain⟨_,_,rfl,_⟩:=d3;obtain⟨s21,A21,n21,c21,rfl,p21,k21⟩:=d4
 replace d5:u5=_:=d5
 subst d5
 replace d6:u6=_:=d6
 subst d6
 replace d7:u7=_:=d7
 subst d7;obtain⟨_,_,rfl,_⟩:=d8;obtain⟨s23,A23,n23,c23,rfl,p23,k23⟩:=d9;replace X3:=X3.b hJ;replace XR:=XR.b hJ;replace g:=g.b hJ;replace HB:=Hqb HB hJ;clear h k;clear X2;have xX5:=X5.cell;have zX50:=X5.frozen
 refine jn 12 fun K hK=>?_
 go_simp;refine hK.out _ _ ?_;clear hK K xX5 zX50;generalize hS:(w2.setCell _ _).setCell _ _=w3 at *;have SX:=StN.of2 X5 hS;replace X3:=X3.s SX;replace XR:=XR.s SX;replace X6:=X6.s SX;replace g:=g.s SX;replace p21:=p21.s SX;replace p23:=p23.s SX;replace HB:=Hqs HB SX (by omega)
 replace X5:=SX.box;clear SX hS;have xX6:=X6.cell;have zX60:=X6.frozen
 refine jn 13 fun K hK=>?_
 go_simp;refine hK.out _ _ ?_;clear hK K xX6 zX60;generalize hS:(w3.setCell _ _).setCell _ _=w4 at *;have SX:=StN.of2 X6 hS;replace X3:=X3.s SX;replace XR:=XR.s SX;replace X5:=X5.s SX;replace g:=g.s SX;replace p21:=p21.s SX;replace p23:=p23.s SX;replace HB:=Hqs HB SX (by omega)
 replace X6:=SX.box;clear SX hS;refine jd ?_
 go_upto_region 2 with (fail)
 have xX3:=X3.cell
 go_wp2_with fail
 refine(wSign g.wr HS.out).mono ?_;rintro ee w5 ⟨rfl,B⟩;clear xX3;replace XR:=XR.b B;replace X5:=X5.b B;replace X6:=X6.b B;replace p21:=p21.b B;replace p23:=p23.b B;replace HB:=Hqb HB B;clear B;clear g;have e1:=E1.out;have hu:=HU.out;have hv:=HV.out
 by_cases hz:z < 0
 ·rw[dt hz]at e1;rw[if_pos hz]at hu hv;rw[hv]at p21;rw[hu]at p23;have xXR:=XR.cell;have zXR0:=XR.frozen;have xX5:=X5.cell;have xX6:=X6.cell;go_wp2;clear xXR zXR0 xX5 xX6;have SX:=StN.mk4 XR (.bool s23) (.slice A23 n23 c23) (.bool s21) (.slice A21 n21 c21);replace p21:=p21.s SX
  replace p23:=p23.s SX;exact bq (v:= .agg #[.bool s23,.slice A23 n23 c23,.bool s21,.slice A21 n21 c21]) (by simp[results,Tryz.results147,go_sem,SX.box.cell]) rfl ⟨s23,A23,n23,c23,s21,A21,n21,c21,rfl,p23,p21,k23,k21,(SX.below HB.out (by omega))⟩
 ·rw[df hz]at e1;rw[if_neg hz]at hu hv;rw[hu]at p21;rw[hv]at p23;have xXR:=XR.cell;have zXR0:=XR.frozen;have xX5:=X5.cell;have xX6:=X6.cell;go_wp2;clear xXR zXR0 xX5 xX6;have SX:=StN.mk4 XR (.bool s21) (.slice A21 n21 c21) (.bool s23) (.slice A23 n23 c23);replace p21:=p21.s SX
  replace p23:=p23.s SX;exact bq (v:= .agg #[.bool s21,.slice A21 n21 c21,.bool s23,.slice A23 n23 c23]) (by simp[results,Tryz.results147,go_sem,SX.box.cell]) rfl ⟨s21,A21,n21,c21,s23,A23,n23,c23,rfl,p21,p23,k21,k23,(SX.below HB.out (by omega))⟩
theorem tMeets{w:World}{A:Option Addr}{n c:Nat}{s:Bool}{x:Int}{B:Option Addr}{m d:Nat}{t:Bool}{y:Int}{A':Option Addr}{n' c':Nat}{s':Bool}{x':Int}{B':Option Addr}{m' d':Nat}{t':Bool}{y':Int}{p q:Bool}(h:Wn w s A n c x)(k:Wn w t B m d y)(h':Wn w s' A' n' c' x')(k':Wn w t' B' m' d' y')(hp:decide (x<=y')=p)(hq:decide (x'<=y)=q):Calls Tryz.prog 208 #[.agg #[.bool s,.slice A n c,.bool t,.slice B m d],.agg #[.bool s',.slice A' n' c',.bool t',.slice B' m' d']] w (PB w (p && q)):=by
 obtain⟨σ,hσ⟩:∃σ,cmpI x y'=σ:=⟨_,rfl⟩;obtain⟨τ,hτ⟩:∃σ,cmpI x' y=σ:=⟨_,rfl⟩;have e1:=cmp_le12 hσ;have e2:=cmp_le12 hτ;rw[hp]at e1;rw[hq]at e2;have H1:=ie hσ;have H2:=ie hτ;clear hσ hτ;clear hp hq
 go_enter Tryz.func208,Tryz.ntmps208
 go_upto_region 1 with (fail)
 generalize hW1:(w.alloc _).alloc _=w1 at *;obtain⟨X2,X3,HB⟩:=Bo.en2 hW1;replace h:=h.below HB.out;replace k:=k.below HB.out
 replace h':=h'.below HB.out
 replace k':=k'.below HB.out
 clear hW1;have xX2:=X2.cell;have xX3:=X3.cell
 go_wp2_with fail
 refine(wCmp h.wr k'.wr H1.out).mono ?_;rintro ee w2 ⟨rfl,B⟩;clear xX2 xX3;replace X2:=X2.b B;replace X3:=X3.b B;replace k:=k.b B
 replace h':=h'.b B
 replace HB:=Hqb HB B;clear B
 cases p
 ·clear e2;go_wp2
  go_ret
  exact⟨rfl,HB.out⟩
 ·have xX2:=X2.cell;have xX3:=X3.cell
  go_wp2_with fail
  refine(wCmp h'.wr k.wr H2.out).mono ?_;rintro ee w3 ⟨rfl,B⟩;clear xX2 xX3;replace HB:=Hqb HB B;clear B;go_wp2
  go_ret
  exact⟨rfl,HB.out⟩
theorem bnd_hi{a:Int}(h:SC < a):bndI a (-SC) SC=SC:=by
 unfold bndI
 have:(0:Int) < SC:=by decide
 rw[if_neg (by omega),if_pos h]
theorem bnd_lo{a:Int}(h:a < -SC):bndI a (-SC) SC= -SC:=by
 unfold bndI
 rw[if_pos h]
theorem bnd_mid{a:Int}(h1:¬SC < a)(h2:¬a < -SC):bndI a (-SC) SC=a:=by
 unfold bndI
 rw[if_neg h2,if_neg h1]
theorem tBounded{w:World}{A:Option Addr}{n c:Nat}{s:Bool}{x:Int}{r:Int}(h:Wn w s A n c x)(hr:bndI x (-SC) SC=r):Calls Tryz.prog 244 #[.agg #[.bool s,.slice A n c]] w (W1 w 7 r):=by
 obtain⟨σ,hσ⟩:∃σ,cmpI x SC=σ:=⟨_,rfl⟩;obtain⟨τ,hτ⟩:∃σ,cmpI x (-SC)=σ:=⟨_,rfl⟩;have e1:=(cmp_lt12 hσ).2;have e2:=(cmp_lt12 hτ).1;have hf:=bnd_fits x;rw[hr]at hf;have H1:=ie hσ;have H2:=ie hτ;have HF:=ie hf;clear hσ hτ hf
 go_enter Tryz.func244,Tryz.ntmps244
 go_upto_region 1 with (fail)
 generalize hW1:(w.alloc _).alloc _=w1 at *;obtain⟨X1,XR,HB⟩:=Bo.en2 hW1;replace h:=h.below HB.out;clear hW1
 go_wp2_with fail
 refine(cScale).mono ?_;rintro ee w2 ⟨s9,A9,n9,c9,rfl,p9,k9,B⟩;replace X1:=X1.b B;replace XR:=XR.b B;replace h:=h.b B;replace HB:=Hqb HB B;clear B
 go_upto_region 2 with (fail)
 have nX3X1:=X1.lt;have nX3XR:=XR.lt;generalize hWn:w2.alloc _=w3 at *;obtain⟨X3,BW⟩:=Bo.nw hWn;clear hWn;replace X1:=X1.b BW;replace XR:=XR.b BW;replace h:=h.b BW;replace p9:=p9.b BW;replace HB:=Hqb HB BW;clear BW;have xX1:=X1.cell;have xX3:=X3.cell
 go_wp2_with fail
 refine(wCmp h.wr p9.wr H1.out).mono ?_;rintro ee w4 ⟨rfl,B⟩;clear xX1 xX3;replace X1:=X1.b B;replace XR:=XR.b B;replace X3:=X3.b B;replace h:=h.b B;replace p9:=p9.b B;replace HB:=Hqb HB B;clear B
 by_cases c1:SC < x
 ·rw[dt c1]at e1
  obtain rfl:SC=r:=(bnd_hi (by omega)).symm.trans hr
  clear h e2 hr;have xXR:=XR.cell;have zXR0:=XR.frozen;have xX3:=X3.cell;go_wp2;clear xXR zXR0 xX3;have SX:=StN.t2 XR s9 A9 n9 c9;replace p9:=p9.s SX;exact bq (v:= .agg #[.bool s9,.slice A9 n9 c9]) (by simp[results,Tryz.results244,go_sem,SX.box.cell]) rfl ⟨_,_,_,_,rfl,p9,p9.fits HF.out,(SX.below HB.out (by omega))⟩
 ·rw[df c1]at e1;have xX3:=X3.cell
  go_wp2_with fail
  refine(wNeg p9.wr rfl).mono ?_;rintro ee w5 ⟨s4,A4,n4,c4,rfl,p4,k4,B⟩;clear xX3;replace X1:=X1.b B;replace XR:=XR.b B;replace h:=h.b B;replace HB:=Hqb HB B;clear B;clear p9
  go_upto_region 5 with (fail)
  have nX4X1:=X1.lt;have nX4XR:=XR.lt;generalize hWn:w5.alloc _=w6 at *;obtain⟨X4,BW⟩:=Bo.nw hWn;clear hWn;replace X1:=X1.b BW;replace XR:=XR.b BW;replace h:=h.b BW;replace p4:=p4.b BW;replace HB:=Hqb HB BW;clear BW;clear e1;have xX1:=X1.cell;have xX4:=X4.cell
  go_wp2_with fail
  refine(wCmp h.wr p4.wr H2.out).mono ?_;rintro ee w7 ⟨rfl,B⟩;clear xX1 xX4;replace X1:=X1.b B;replace XR:=XR.b B;replace X4:=X4.b B;replace h:=h.b B;replace p4:=p4.b B;replace HB:=Hqb HB B;clear B
  by_cases c2:x < -SC
  ·rw[dt c2]at e2
   obtain rfl: -SC=r:=(bnd_lo (by omega)).symm.trans hr
   clear h hr;have xXR:=XR.cell;have zXR0:=XR.frozen;have xX4:=X4.cell;go_wp2;clear xXR zXR0 xX4;have SX:=StN.t2 XR s4 A4 n4 c4;replace p4:=p4.s SX;exact bq (v:= .agg #[.bool s4,.slice A4 n4 c4]) (by simp[results,Tryz.results244,go_sem,SX.box.cell]) rfl ⟨_,_,_,_,rfl,p4,p4.fits HF.out,(SX.below HB.out (by omega))⟩
  ·rw[df c2]at e2
   obtain rfl:x=r:=(bnd_mid (by omega) (by omega)).symm.trans hr
   clear p4 hr;have xXR:=XR.cell;have zXR0:=XR.frozen;have xX1:=X1.cell;go_wp2;clear xXR zXR0 xX1;have SX:=StN.t2 XR s A n c;replace h:=h.s SX;exact bq (v:= .agg #[.bool s,.slice A n c]) (by simp[results,Tryz.results244,go_sem,SX.box.cell]) rfl ⟨_,_,_,_,rfl,h,h.fits HF.out,(SX.below HB.out (by omega))⟩
theorem tCut{w:World}{A:Option Addr}{n c:Nat}{s:Bool}{x:Int}{B:Option Addr}{m d:Nat}{t:Bool}{y:Int}{u v:Int}(h:Wn w s A n c x)(k:Wn w t B m d y)(hu:bndI x (-SC) SC=u)(hv:bndI y (-SC) SC=v):Calls Tryz.prog 200 #[.agg #[.bool s,.slice A n c,.bool t,.slice B m d]] w (PSp w 7 u v):=by
 have HU:=ie hu;have HV:=ie hv;clear hu hv
 go_enter Tryz.func200,Tryz.ntmps200
 go_upto_region 1 with (fail)
 generalize hW1:(w.alloc _).alloc _=w1 at *;obtain⟨X1,XR,HB⟩:=Bo.en2 hW1;replace h:=h.below HB.out;replace k:=k.below HB.out;clear hW1;have ltX1:=X1.lt;have ltXR:=XR.lt;refine jk [0,1,2,3,4,5,6] [some 3,some 4,some 5,some 6,some 7,some 8,some 9,none] [[],[0],[1],[],[3],[4],[2,5],[]] 8 1 [Jo.qp w.heap.size 0,Jo.Fact.eq (.agg #[.bool s,.slice A n c]),Jo.Fact.wn (u) (7),Jo.qp w.heap.size 2,Jo.Fact.eq (.agg #[.bool t,.slice B m d]),Jo.Fact.wn (v) (7),Jo.Fact.sp (u) (v) (7),Jo.Fact.any] ?_ ?_
 ·iterate 2 (refine jm ?_ ?_;rotate_left)
  refine jm ?_ ?_
  ·rintro wj hJ _ rfl K hK;simp only[Jo.z]at hK|-;go_simp;exact Jo.w1 (tBounded (h.b hJ) HU.out) hK.out
  refine jm ?_ ?_;rotate_left
  refine jm ?_ ?_
  ·rintro wj hJ _ rfl K hK;simp only[Jo.z]at hK|-;have xX12:=(X1.b hJ).a 2 (.bool t) rfl;have xX13:=(X1.b hJ).a 3 (.slice B m d) rfl;go_simp;exact hK.out _ _ rfl (br _ _)
  refine jm ?_ ?_
  ·rintro wj hJ _ rfl K hK;simp only[Jo.z]at hK|-;go_simp;exact Jo.w1 (tBounded (k.b hJ) HV.out) hK.out
  refine jm ?_ ?_
  ·rintro wj hJ _ ⟨s20,A20,n20,c20,rfl,p20,k20⟩ _ ⟨s21,A21,n21,c21,rfl,p21,k21⟩ K hK;simp only[Jo.z]at hK|-;go_simp;exact hK.out _ _ ⟨_,_,_,_,_,_,_,_,rfl,p20,p21,by omega,by omega⟩ (br _ _)
  exact jo
  all_goals (rintro wj hJ;(repeat rintro _ rfl);intro K hK;simp only[Jo.z]at hK|-;have xX1:=(X1.b hJ).cell;go_simp;exact hK.out _ _ rfl (br _ _))
 rintro w2 hJ _ _ _ rfl _ ⟨s20,A20,n20,c20,rfl,p20,k20⟩ _ _ _ rfl _ ⟨s21,A21,n21,c21,rfl,p21,k21⟩ _ ⟨s22,A22,n22,c22,s23,A23,n23,c23,rfl,p22,p23,k22,k23⟩ -;simp only[Jo.z];replace XR:=XR.b hJ;replace HB:=Hqb HB hJ;clear h k p20 p21;have xXR:=XR.cell;have zXR0:=XR.frozen
 refine jn 7 fun K hK=>?_
 go_simp;refine hK.out _ _ ?_;clear hK K xXR zXR0;have SX:=StN.mk4 XR (.bool s22) (.slice A22 n22 c22) (.bool s23) (.slice A23 n23 c23);replace p22:=p22.s SX;replace p23:=p23.s SX;refine jd ?_;go_wp2;exact bq (v:= .agg #[.bool s22,.slice A22 n22 c22,.bool s23,.slice A23 n23 c23]) (by simp[results,Tryz.results200,go_sem,SX.box.cell]) rfl ⟨s22,A22,n22,c22,s23,A23,n23,c23,rfl,p22,p23,k22,k23,(SX.below HB.out (by omega))⟩
theorem tsine_core{w:World}{A:Option Addr}{n c:Nat}{s:Bool}{x:Int}{B:Option Addr}{m d:Nat}{t:Bool}{y:Int}{A':Option Addr}{n' c':Nat}{s':Bool}{B':Option Addr}{m' d':Nat}{t':Bool}{q a b r u v e l g:Int}{o:Bool}(h:Wn w s A n c x)(k:Wn w t B m d y)(h':Wn w s' A' n' c' PLo)(k':Wn w t' B' m' d' PHi)(hn':n'<=7)(hm':m'<=7)(hn:n<=1000)(hm:m<=1000)(hq:(2*x+PLo).fdiv (2*PLo)=q)(ha:(if q < 0 then q*PHi else q*PLo)=a)(hb:(if q < 0 then q*PLo else q*PHi)=b)(hr:x-b=r)(hu:y-a=u)(hv:serI r=v)(he:u-r+200=e)(ho:decide (q%2=1)=o)
  (hl0:o=false->bndI (v-e) (-SC) SC=l) (hg0:o=false->bndI (v+e) (-SC) SC=g) (hl1:o=true->bndI (-(v+e)) (-SC) SC=l) (hg1:o=true->bndI (-(v-e)) (-SC) SC=g):Calls Tryz.prog 140 #[.agg #[.bool s,.slice A n c,.bool t,.slice B m d],.agg #[.bool s',.slice A' n' c',.bool t',.slice B' m' d']] w (PSp w 7 l g):=by
 have HP1:=ie (prd_two (z:=2) (x:=x));have HP2:=ie (prd_two (z:=2) (x:=PLo));have HQ:=ie hq;have HA:=ie ha;have HBB:=ie hb;have HR:=ie hr;have HU:=ie hu;have HV:=ie hv;have HE:=ie he;have HO:=ie ho;have HL0:=ie hl0;have HG0:=ie hg0;have HL1:=ie hl1;have HG1:=ie hg1;clear hq ha hb hr hu hv he ho hl0 hg0 hl1 hg1
 go_enter Tryz.func140,Tryz.ntmps140
 go_upto_region 1 with (fail)
 generalize hW1:((w.alloc _).alloc _).alloc _=w1 at *;obtain⟨X2,X3,XR,HB⟩:=Bo.en3 hW1;replace h:=h.below HB.out;replace k:=k.below HB.out
 replace h':=h'.below HB.out
 replace k':=k'.below HB.out
 clear hW1
 go_wp2_with fail
 refine(wFrom 2 _ (by decide) (by decide)).mono ?_;rintro ee w2 ⟨s30,A30,n30,c30,rfl,p30,k30,B⟩;replace X2:=X2.b B;replace X3:=X3.b B;replace XR:=XR.b B;replace h:=h.b B;replace k:=k.b B
 replace h':=h'.b B
 replace k':=k'.b B
 replace HB:=Hqb HB B;clear B
 go_upto_region 2 with (fail)
 have nX5X2:=X2.lt;have nX5X3:=X3.lt;have nX5XR:=XR.lt;generalize hWn:w2.alloc _=w3 at *;obtain⟨X5,BW⟩:=Bo.nw hWn;clear hWn;replace X2:=X2.b BW;replace X3:=X3.b BW;replace XR:=XR.b BW;replace h:=h.b BW;replace k:=k.b BW
 replace h':=h'.b BW
 replace k':=k'.b BW
 replace p30:=p30.b BW;replace HB:=Hqb HB BW;clear BW;have ltX2:=X2.lt;have ltX3:=X3.lt;have ltXR:=XR.lt;have ltX5:=X5.lt;have hszA:=HB.out.size;refine jk [0,1,2,3,4,5,6,7,8,9,10,11,12,13,14] [some 12,some 13,some 14,some 15,some 16,some 17,some 18,some 19,some 20,some 21,some 22,some 23,some 24,some 25,some 6,none] [[],[],[1],[0,2],[3],[],[5],[4,6],[],[],[9],[8,10],[11],[7,12],[],[]] 16 1 [Jo.Fact.eq (.agg #[.bool s30,.slice A30 n30 c30]),Jo.qp w.heap.size 0,Jo.Fact.eq (.agg #[.bool s,.slice A n c]),Jo.Fact.wl 1000 2 [2,x],Jo.Fact.wn (2*x) (2001),Jo.qp (w.heap.size+1) 0,Jo.Fact.eq (.agg #[.bool s',.slice A' n' c']),Jo.Fact.wn (2*x+PLo) (2009),Jo.Fact.eq (.agg #[.bool s30,.slice A30 n30 c30]),Jo.qp (w.heap.size+1) 0,Jo.Fact.eq (.agg #[.bool s',.slice A' n' c']),Jo.Fact.wl 7 2 [2,PLo],Jo.Fact.wn (2*PLo) (15),Jo.Fact.wn (q) (2028),Jo.Fact.bo w3.heap.size #[.bool false,.slice none 0 0] 27,Jo.Fact.any] ?_ ?_
 ·iterate 3 (refine jm ?_ ?_;rotate_left)
  refine jm ?_ ?_
  ·rintro wj hJ _ rfl _ rfl K hK;simp only[Jo.z]at hK|-;go_simp;exact hK.out _ _ ⟨_,_,rfl,Wl.lit2 rfl (p30.b hJ).wr (h.b hJ).wr (by omega) (by omega)⟩ (bel1 _ _)
  refine jm ?_ ?_
  ·rintro wj hJ _ ⟨A20,c20,rfl,h20⟩ K hK;simp only[Jo.z]at hK|-;go_simp;exact Jo.w1 (wMul h20 (by decide) HP1.out) hK.out
  iterate 2 (refine jm ?_ ?_;rotate_left)
  refine jm ?_ ?_
  ·rintro wj hJ _ ⟨s21,A21,n21,c21,rfl,p21,k21⟩ _ rfl K hK;simp only[Jo.z]at hK|-;go_simp;exact Jo.w1 (wAdd p21.wr (h'.b hJ).wr (by omega) (by omega) rfl) hK.out
  iterate 3 (refine jm ?_ ?_;rotate_left)
  refine jm ?_ ?_
  ·rintro wj hJ _ rfl _ rfl K hK;simp only[Jo.z]at hK|-;go_simp;exact hK.out _ _ ⟨_,_,rfl,Wl.lit2 rfl (p30.b hJ).wr (h'.b hJ).wr (by omega) (by omega)⟩ (bel1 _ _)
  refine jm ?_ ?_
  ·rintro wj hJ _ ⟨A23,c23,rfl,h23⟩ K hK;simp only[Jo.z]at hK|-;go_simp;exact Jo.w1 (wMul h23 (by decide) HP2.out) hK.out
  refine jm ?_ ?_
  ·rintro wj hJ _ ⟨s22,A22,n22,c22,rfl,p22,k22⟩ _ ⟨s24,A24,n24,c24,rfl,p24,k24⟩ K hK;simp only[Jo.z]at hK|-;go_simp;exact Jo.w1 (tDown p22.wr p24.wr (by omega) (by omega) (by decide) HQ.out) hK.out
  refine jm ?_ ?_
  ·rintro wj hJ K hK;simp only[Jo.z]at hK|-;go_simp;exact hK.out _ _ ⟨_,rfl,hJ.size,Bo.new _ _ _⟩ (bel1 _ _)
  exact jo
  all_goals (rintro wj hJ;(repeat rintro _ rfl);intro K hK;simp only[Jo.z]at hK|-;have xX5:=(X5.b hJ).cell;have xX2:=(X2.b hJ).cell;have xX3:=(X3.b hJ).cell;go_simp;exact hK.out _ _ rfl (br _ _))
 rintro w4 hJ _ rfl _ _ _ rfl _ ⟨_,_,rfl,_⟩ _ ⟨s21,A21,n21,c21,rfl,p21,k21⟩ _ _ _ rfl _ ⟨s22,A22,n22,c22,rfl,p22,k22⟩ _ rfl _ _ _ rfl _ ⟨_,_,rfl,_⟩ _ ⟨s24,A24,n24,c24,rfl,p24,k24⟩ _ ⟨s25,A25,n25,c25,rfl,p25,k25⟩ _ ⟨g6,rfl,hg6,X6⟩ -;simp only[Jo.z];replace X2:=X2.b hJ;replace X3:=X3.b hJ;replace XR:=XR.b hJ;replace h:=h.b hJ;replace k:=k.b hJ
 replace h':=h'.b hJ
 replace k':=k'.b hJ
 replace HB:=Hqb HB hJ;clear p21 p22 p24 p30 X5;have xX6:=X6.cell;have zX60:=X6.frozen
 refine jn 15 fun K hK=>?_
 go_simp;refine hK.out _ _ ?_;clear hK K xX6 zX60;generalize hS:(w4.setCell _ _).setCell _ _=w5 at *;have SX:=StN.of2 X6 hS;replace X2:=X2.s SX;replace X3:=X3.s SX;replace XR:=XR.s SX;replace h:=h.s SX;replace k:=k.s SX
 replace h':=h'.s SX
 replace k':=k'.s SX
 replace p25:=p25.s SX;replace HB:=Hqs HB SX (by omega);replace X6:=SX.box;clear SX hS;refine jd ?_
 go_upto_region 3 with (fail)
 have ltX2:=X2.lt;have ltX3:=X3.lt;have ltXR:=XR.lt;have ltX6:=X6.lt;have hszB:=HB.out.size;refine jk [0,1,2,3,4,5] [some 26,some 27,some 28,some 29,some 30,some 7,none] [[],[],[],[1,2],[0,3],[],[]] 7 1 [Jo.Fact.eq (.agg #[.bool s,.slice A n c,.bool t,.slice B m d]),Jo.Fact.eq (.agg #[.bool s',.slice A' n' c',.bool t',.slice B' m' d']),Jo.Fact.eq (.agg #[.bool s25,.slice A25 n25 c25]),Jo.Fact.sp (a) (b) (4057),Jo.Fact.sp (r) (u) (5058),Jo.Fact.bo w5.heap.size #[.bool false,.slice none 0 0,.bool false,.slice none 0 0] 67,Jo.Fact.any] ?_ ?_
 ·iterate 3 (refine jm ?_ ?_;rotate_left)
  refine jm ?_ ?_
  ·rintro wj hJ _ rfl _ rfl K hK;simp only[Jo.z]at hK|-;go_simp;refine(tTimes (L:=2028) (Z:=4057) (h'.b hJ) (k'.b hJ) (p25.b hJ) (by omega) (by omega) (by omega) (by omega) (by omega) HA.out HBB.out).mono ?_;rintro ee wk ⟨s31,A31,n31,c31,s32,A32,n32,c32,rfl,p31,p32,k31,k32,B⟩;exact hK.out _ _ ⟨s31,A31,n31,c31,s32,A32,n32,c32,rfl,p31,p32,k31,k32⟩ B
  refine jm ?_ ?_
  ·rintro wj hJ _ rfl _ ⟨s31,A31,n31,c31,s32,A32,n32,c32,rfl,p31,p32,k31,k32⟩ K hK;simp only[Jo.z]at hK|-;go_simp;refine(tMinus (Z:=5058) (h.b hJ) (k.b hJ) p31 p32 (by omega) (by omega) (by omega) (by omega) (by omega) (by omega) HR.out HU.out).mono ?_;rintro ee wk ⟨s33,A33,n33,c33,s34,A34,n34,c34,rfl,p33,p34,k33,k34,B⟩;exact hK.out _ _ ⟨s33,A33,n33,c33,s34,A34,n34,c34,rfl,p33,p34,k33,k34⟩ B
  refine jm ?_ ?_
  ·rintro wj hJ K hK;simp only[Jo.z]at hK|-;go_simp;exact hK.out _ _ ⟨_,rfl,hJ.size,Bo.new _ _ _⟩ (bel1 _ _)
  exact jo
  all_goals (rintro wj hJ;(repeat rintro _ rfl);intro K hK;simp only[Jo.z]at hK|-;have xX2:=(X2.b hJ).cell;have xX3:=(X3.b hJ).cell;have xX6:=(X6.b hJ).cell;go_simp;exact hK.out _ _ rfl (br _ _))
 rintro w6 hJ _ rfl _ rfl _ rfl _ ⟨s31,A31,n31,c31,s32,A32,n32,c32,rfl,p31,p32,k31,k32⟩ _ ⟨s33,A33,n33,c33,s34,A34,n34,c34,rfl,p33,p34,k33,k34⟩ _ ⟨g7,rfl,hg7,X7⟩ -;simp only[Jo.z];replace XR:=XR.b hJ;replace X6:=X6.b hJ;replace h:=h.b hJ;replace k:=k.b hJ;replace p25:=p25.b hJ;replace HB:=Hqb HB hJ;clear p31 p32 h k h' k' X2 X3
 have xX7:=X7.cell;have zX70:=X7.frozen
 refine jn 6 fun K hK=>?_
 go_simp;refine hK.out _ _ ?_;clear hK K xX7 zX70;generalize hS:(((w6.setCell _ _).setCell _ _).setCell _ _).setCell _ _=w7 at *;have SX:=StN.of4 X7 hS;replace XR:=XR.s SX;replace X6:=X6.s SX;replace p25:=p25.s SX;replace p33:=p33.s SX;replace p34:=p34.s SX;replace HB:=Hqs HB SX (by omega)
 replace X7:=SX.box;clear SX hS;refine jd ?_
 go_upto_region 4 with (fail)
 have xX7:=X7.cell
 go_wp2_with fail
 refine(tSer p33.wr (by omega) HV.out).mono ?_;rintro ee w8 ⟨s40,A40,n40,c40,rfl,p40,k40,B⟩;clear xX7;replace XR:=XR.b B;replace X6:=X6.b B;replace X7:=X7.b B;replace p25:=p25.b B;replace p33:=p33.b B;replace p34:=p34.b B;replace HB:=Hqb HB B;clear B
 go_upto_region 5 with (fail)
 have nX8XR:=XR.lt;have nX8X6:=X6.lt;have nX8X7:=X7.lt;generalize hWn:w8.alloc _=w9 at *;obtain⟨X8,BW⟩:=Bo.nw hWn;clear hWn;replace XR:=XR.b BW;replace X6:=X6.b BW;replace X7:=X7.b BW;replace p25:=p25.b BW;replace p33:=p33.b BW;replace p34:=p34.b BW;replace p40:=p40.b BW;replace HB:=Hqb HB BW;clear BW;have xX7:=X7.cell
 go_wp2_with fail
 refine(wSub p34.wr p33.wr (by omega) (by omega) rfl).mono ?_;rintro ee wA ⟨s41,A41,n41,c41,rfl,p41,k41,B⟩;clear xX7;replace XR:=XR.b B;replace X6:=X6.b B;replace X8:=X8.b B;replace p25:=p25.b B;replace p40:=p40.b B;replace HB:=Hqb HB B;clear B;clear p33 p34
 go_wp2_with fail
 refine(wFrom 200 _ (by decide) (by decide)).mono ?_;rintro ee wB ⟨s42,A42,n42,c42,rfl,p42,k42,B⟩;replace XR:=XR.b B;replace X6:=X6.b B;replace X8:=X8.b B;replace p25:=p25.b B;replace p40:=p40.b B;replace p41:=p41.b B;replace HB:=Hqb HB B;clear B
 go_wp2_with fail
 refine(wAdd p41.wr p42.wr (by omega) (by omega) HE.out).mono ?_;rintro ee wC ⟨s43,A43,n43,c43,rfl,p43,k43,B⟩;replace XR:=XR.b B;replace X6:=X6.b B;replace X8:=X8.b B;replace p25:=p25.b B;replace p40:=p40.b B;replace HB:=Hqb HB B;clear B;clear p41 p42
 go_upto_region 6 with (fail)
 have nX9XR:=XR.lt;have nX9X6:=X6.lt;have nX9X8:=X8.lt;generalize hWn:wC.alloc _=wD at *;obtain⟨X9,BW⟩:=Bo.nw hWn;clear hWn;replace XR:=XR.b BW;replace X6:=X6.b BW;replace X8:=X8.b BW;replace p25:=p25.b BW;replace p40:=p40.b BW;replace p43:=p43.b BW;replace HB:=Hqb HB BW;clear BW;have ltXR:=XR.lt;have ltX6:=X6.lt;have ltX8:=X8.lt
 have ltX9:=X9.lt;have hszC:=HB.out.size;refine jk [0,1,2,3,4,5,6,7] [some 41,some 42,some 43,some 44,some 45,some 46,some 47,some 10,none] [[],[],[0,1],[],[],[3,4],[2,5],[],[]] 9 1 [Jo.Fact.eq (.agg #[.bool s40,.slice A40 n40 c40]),Jo.Fact.eq (.agg #[.bool s43,.slice A43 n43 c43]),Jo.Fact.wn (v-e) (320000),Jo.Fact.eq (.agg #[.bool s40,.slice A40 n40 c40]),Jo.Fact.eq (.agg #[.bool s43,.slice A43 n43 c43]),Jo.Fact.wn (v+e) (320000),Jo.Fact.sp (v-e) (v+e) (320000),Jo.Fact.bo wD.heap.size #[.bool false,.slice none 0 0,.bool false,.slice none 0 0] 67,Jo.Fact.any] ?_ ?_
 ·iterate 2 (refine jm ?_ ?_;rotate_left)
  refine jm ?_ ?_
  ·rintro wj hJ _ rfl _ rfl K hK;simp only[Jo.z]at hK|-;go_simp;exact Jo.w1 (wSub (p40.b hJ).wr (p43.b hJ).wr (by omega) (by omega) rfl) hK.out
  iterate 2 (refine jm ?_ ?_;rotate_left)
  refine jm ?_ ?_
  ·rintro wj hJ _ rfl _ rfl K hK;simp only[Jo.z]at hK|-;go_simp;exact Jo.w1 (wAdd (p40.b hJ).wr (p43.b hJ).wr (by omega) (by omega) rfl) hK.out
  refine jm ?_ ?_
  ·rintro wj hJ _ ⟨s44,A44,n44,c44,rfl,p44,k44⟩ _ ⟨s45,A45,n45,c45,rfl,p45,k45⟩ K hK;simp only[Jo.z]at hK|-;go_simp;exact hK.out _ _ ⟨_,_,_,_,_,_,_,_,rfl,p44,p45,by omega,by omega⟩ (br _ _)
  refine jm ?_ ?_
  ·rintro wj hJ K hK;simp only[Jo.z]at hK|-;go_simp;exact hK.out _ _ ⟨_,rfl,hJ.size,Bo.new _ _ _⟩ (bel1 _ _)
  exact jo
  all_goals (rintro wj hJ;(repeat rintro _ rfl);intro K hK;simp only[Jo.z]at hK|-;have xX8:=(X8.b hJ).cell;have xX9:=(X9.b hJ).cell;go_simp;exact hK.out _ _ rfl (br _ _))
 rintro wE hJ _ rfl _ rfl _ ⟨s44,A44,n44,c44,rfl,p44,k44⟩ _ rfl _ rfl _ ⟨s45,A45,n45,c45,rfl,p45,k45⟩ _ ⟨s46,A46,n46,c46,s47,A47,n47,c47,rfl,p46,p47,k46,k47⟩ _ ⟨g10,rfl,hg10,X10⟩ -;simp only[Jo.z];replace XR:=XR.b hJ;replace X6:=X6.b hJ;replace p25:=p25.b hJ;replace HB:=Hqb HB hJ;clear p40 p43 p44 p45 X7 X8 X9;have xX10:=X10.cell
 have zX100:=X10.frozen
 refine jn 8 fun K hK=>?_
 go_simp;refine hK.out _ _ ?_;clear hK K xX10 zX100;generalize hS:(((wE.setCell _ _).setCell _ _).setCell _ _).setCell _ _=wF at *;have SX:=StN.of4 X10 hS;replace XR:=XR.s SX;replace X6:=X6.s SX;replace p25:=p25.s SX;replace p46:=p46.s SX;replace p47:=p47.s SX;replace HB:=Hqs HB SX (by omega)
 replace X10:=SX.box;clear SX hS;refine jd ?_
 go_upto_region 7 with (fail)
 have xX6:=X6.cell
 go_wp2_with fail
 refine(tOdd p25.wr (by omega) HO.out).mono ?_;rintro ee wG ⟨rfl,B⟩;clear xX6;replace XR:=XR.b B;replace X10:=X10.b B;replace p46:=p46.b B;replace p47:=p47.b B;replace HB:=Hqb HB B;clear B;clear p25 X6
 cases o
 ·have xX10:=X10.cell
  go_wp2_with fail
  refine(tCut p46 p47 (HL0.out (by first | rfl | trivial)) (HG0.out (by first | rfl | trivial))).mono ?_
  rintro ee wH ⟨s50,A50,n50,c50,s51,A51,n51,c51,rfl,p50,p51,k50,k51,B⟩;clear xX10;replace XR:=XR.b B;replace X10:=X10.b B;replace p46:=p46.b B;replace p47:=p47.b B;replace HB:=Hqb HB B;clear B;clear p46 p47;have xXR:=XR.cell;have zXR0:=XR.frozen;have xX10:=X10.cell
  go_wp2;clear xXR zXR0 xX10;have SX:=StN.mk4 XR (.bool s50) (.slice A50 n50 c50) (.bool s51) (.slice A51 n51 c51);replace p50:=p50.s SX;replace p51:=p51.s SX;exact bq (v:= .agg #[.bool s50,.slice A50 n50 c50,.bool s51,.slice A51 n51 c51]) (by simp[results,Tryz.results140,go_sem,SX.box.cell]) rfl ⟨s50,A50,n50,c50,s51,A51,n51,c51,rfl,p50,p51,k50,k51,(SX.below HB.out (by omega))⟩
 ·go_upto_region 8 with (fail)
  have xX10:=X10.cell
  go_wp2_with fail
  refine(tOpp (Z:=320000) p46 p47 (by omega) (by omega) rfl rfl).mono ?_;rintro ee wH ⟨s48,A48,n48,c48,s49,A49,n49,c49,rfl,p48,p49,k48,k49,B⟩;clear xX10;replace XR:=XR.b B;replace X10:=X10.b B;replace HB:=Hqb HB B;clear B;clear p46 p47;have xX10:=X10.cell;have zX100:=X10.frozen
  go_upto_region 9 with (fail)
  clear xX10 zX100;generalize hS:(((wH.setCell _ _).setCell _ _).setCell _ _).setCell _ _=wI at *;have SX:=StN.of4 X10 hS;replace XR:=XR.s SX;replace p48:=p48.s SX;replace p49:=p49.s SX;replace HB:=Hqs HB SX (by omega);replace X10:=SX.box;clear SX hS;have xX10:=X10.cell
  go_wp2_with fail
  refine(tCut p48 p49 (HL1.out (by first | rfl | trivial)) (HG1.out (by first | rfl | trivial))).mono ?_
  rintro ee wJ ⟨s50,A50,n50,c50,s51,A51,n51,c51,rfl,p50,p51,k50,k51,B⟩;clear xX10;replace XR:=XR.b B;replace X10:=X10.b B;replace HB:=Hqb HB B;clear B;clear p48 p49;have xXR:=XR.cell;have zXR0:=XR.frozen;have xX10:=X10.cell;go_wp2;clear xXR zXR0 xX10
  have SX:=StN.mk4 XR (.bool s50) (.slice A50 n50 c50) (.bool s51) (.slice A51 n51 c51);replace p50:=p50.s SX;replace p51:=p51.s SX;exact bq (v:= .agg #[.bool s50,.slice A50 n50 c50,.bool s51,.slice A51 n51 c51]) (by simp[results,Tryz.results140,go_sem,SX.box.cell]) rfl ⟨s50,A50,n50,c50,s51,A51,n51,c51,rfl,p50,p51,k50,k51,(SX.below HB.out (by omega))⟩
theorem tSine{w:World}{A:Option Addr}{n c:Nat}{s:Bool}{x:Int}{B:Option Addr}{m d:Nat}{t:Bool}{y:Int}{A':Option Addr}{n' c':Nat}{s':Bool}{B':Option Addr}{m' d':Nat}{t':Bool}{l g:Int}(h:Wn w s A n c x)(k:Wn w t B m d y)(h':Wn w s' A' n' c' PLo)(k':Wn w t' B' m' d' PHi)(hn':n'<=7)(hm':m'<=7)(hn:n<=1000)(hm:m<=1000)(hl:bndI (btL x y) (-SC) SC=l)(hg:bndI (btH x y) (-SC) SC=g):Calls Tryz.prog 140 #[.agg #[.bool s,.slice A n c,.bool t,.slice B m d],.agg #[.bool s',.slice A' n' c',.bool t',.slice B' m' d']] w (PSp w 7 l g):=by
 have hq:(2*x+PLo).fdiv (2*PLo)=qI x:=Int.fdiv_eq_ediv_of_nonneg _ (by decide)
 have hr:x-(if qI x < 0 then qI x*PLo else qI x*PHi)=rI x:=by
  unfold rI
  split <;> rfl
 have hu:y-(if qI x < 0 then qI x*PHi else qI x*PLo)=tI x y:=by
  unfold tI
  split <;> rfl
 unfold btL at hl
 unfold btH at hg
 refine tsine_core h k h' k' hn' hm' hn hm hq rfl rfl hr hu rfl rfl rfl (fun c=>?_) (fun c=>?_) (fun c=>?_) (fun c=>?_)
 ·rw[if_pos (by have:=of_decide_eq_false c;omega)]at hl;exact hl
 ·rw[if_pos (by have:=of_decide_eq_false c;omega)]at hg;exact hg
 ·rw[if_neg (by have:=of_decide_eq_true c;omega)]at hl;exact hl
 ·rw[if_neg (by have:=of_decide_eq_true c;omega)]at hg;exact hg
theorem StN.mk6{w:World}{g:Nat}{T:TypeId}{a0 a1 a2 a3 a4 a5:Value}(X:Bo w g #[a0,a1,a2,a3,a4,a5] T)(v0 v1 v2 v3 v4 v5:Value):
  StN w ((((((w.setCell ⟨g,0,none⟩ v0).setCell ⟨g,1,none⟩ v1).setCell ⟨g,2,none⟩ v2).setCell ⟨g,3,none⟩ v3).setCell ⟨g,4,none⟩ v4).setCell ⟨g,5,none⟩ v5) g #[a0,a1,a2,a3,a4,a5] #[v0,v1,v2,v3,v4,v5] T:=by
 have t0:StN w (w.setCell ⟨g,0,none⟩ v0) g #[a0,a1,a2,a3,a4,a5] #[v0,a1,a2,a3,a4,a5] T:=StN.at4 X 0 v0
 have s0:=t0
 have t1:StN (w.setCell ⟨g,0,none⟩ v0) ((w.setCell ⟨g,0,none⟩ v0).setCell ⟨g,1,none⟩ v1) g #[v0,a1,a2,a3,a4,a5] #[v0,v1,a2,a3,a4,a5] T:=StN.at4 s0.box 1 v1
 have s1:=s0.trans t1
 have t2:StN ((w.setCell ⟨g,0,none⟩ v0).setCell ⟨g,1,none⟩ v1) (((w.setCell ⟨g,0,none⟩ v0).setCell ⟨g,1,none⟩ v1).setCell ⟨g,2,none⟩ v2) g #[v0,v1,a2,a3,a4,a5] #[v0,v1,v2,a3,a4,a5] T:=StN.at4 s1.box 2 v2
 have s2:=s1.trans t2
 have t3:StN (((w.setCell ⟨g,0,none⟩ v0).setCell ⟨g,1,none⟩ v1).setCell ⟨g,2,none⟩ v2) ((((w.setCell ⟨g,0,none⟩ v0).setCell ⟨g,1,none⟩ v1).setCell ⟨g,2,none⟩ v2).setCell ⟨g,3,none⟩ v3) g #[v0,v1,v2,a3,a4,a5] #[v0,v1,v2,v3,a4,a5] T:=StN.at4 s2.box 3 v3
 have s3:=s2.trans t3
 have t4:StN ((((w.setCell ⟨g,0,none⟩ v0).setCell ⟨g,1,none⟩ v1).setCell ⟨g,2,none⟩ v2).setCell ⟨g,3,none⟩ v3) (((((w.setCell ⟨g,0,none⟩ v0).setCell ⟨g,1,none⟩ v1).setCell ⟨g,2,none⟩ v2).setCell ⟨g,3,none⟩ v3).setCell ⟨g,4,none⟩ v4) g #[v0,v1,v2,v3,a4,a5] #[v0,v1,v2,v3,v4,a5] T:=StN.at4 s3.box 4 v4
 have s4:=s3.trans t4
 have t5:StN (((((w.setCell ⟨g,0,none⟩ v0).setCell ⟨g,1,none⟩ v1).setCell ⟨g,2,none⟩ v2).setCell ⟨g,3,none⟩ v3).setCell ⟨g,4,none⟩ v4) ((((((w.setCell ⟨g,0,none⟩ v0).setCell ⟨g,1,none⟩ v1).setCell ⟨g,2,none⟩ v2).setCell ⟨g,3,none⟩ v3).setCell ⟨g,4,none⟩ v4).setCell ⟨g,5,none⟩ v5) g #[v0,v1,v2,v3,v4,a5] #[v0,v1,v2,v3,v4,v5] T:=StN.at4 s4.box 5 v5
 have s5:=s4.trans t5;exact s5
theorem StN.mk10{w:World}{g:Nat}{T:TypeId}{a0 a1 a2 a3 a4 a5 a6 a7 a8 a9:Value}(X:Bo w g #[a0,a1,a2,a3,a4,a5,a6,a7,a8,a9] T)(v0 v1 v2 v3 v4 v5 v6 v7 v8 v9:Value):
  StN w ((((((((((w.setCell ⟨g,0,none⟩ v0).setCell ⟨g,1,none⟩ v1).setCell ⟨g,2,none⟩ v2).setCell ⟨g,3,none⟩ v3).setCell ⟨g,4,none⟩ v4).setCell ⟨g,5,none⟩ v5).setCell ⟨g,6,none⟩ v6).setCell ⟨g,7,none⟩ v7).setCell ⟨g,8,none⟩ v8).setCell ⟨g,9,none⟩ v9) g #[a0,a1,a2,a3,a4,a5,a6,a7,a8,a9] #[v0,v1,v2,v3,v4,v5,v6,v7,v8,v9] T:=by
 have t0:StN w (w.setCell ⟨g,0,none⟩ v0) g #[a0,a1,a2,a3,a4,a5,a6,a7,a8,a9] #[v0,a1,a2,a3,a4,a5,a6,a7,a8,a9] T:=StN.at4 X 0 v0
 have s0:=t0
 have t1:StN (w.setCell ⟨g,0,none⟩ v0) ((w.setCell ⟨g,0,none⟩ v0).setCell ⟨g,1,none⟩ v1) g #[v0,a1,a2,a3,a4,a5,a6,a7,a8,a9] #[v0,v1,a2,a3,a4,a5,a6,a7,a8,a9] T:=StN.at4 s0.box 1 v1
 have s1:=s0.trans t1
 have t2:StN ((w.setCell ⟨g,0,none⟩ v0).setCell ⟨g,1,none⟩ v1) (((w.setCell ⟨g,0,none⟩ v0).setCell ⟨g,1,none⟩ v1).setCell ⟨g,2,none⟩ v2) g #[v0,v1,a2,a3,a4,a5,a6,a7,a8,a9] #[v0,v1,v2,a3,a4,a5,a6,a7,a8,a9] T:=StN.at4 s1.box 2 v2
 have s2:=s1.trans t2
 have t3:StN (((w.setCell ⟨g,0,none⟩ v0).setCell ⟨g,1,none⟩ v1).setCell ⟨g,2,none⟩ v2) ((((w.setCell ⟨g,0,none⟩ v0).setCell ⟨g,1,none⟩ v1).setCell ⟨g,2,none⟩ v2).setCell ⟨g,3,none⟩ v3) g #[v0,v1,v2,a3,a4,a5,a6,a7,a8,a9] #[v0,v1,v2,v3,a4,a5,a6,a7,a8,a9] T:=StN.at4 s2.box 3 v3
 have s3:=s2.trans t3
 have t4:StN ((((w.setCell ⟨g,0,none⟩ v0).setCell ⟨g,1,none⟩ v1).setCell ⟨g,2,none⟩ v2).setCell ⟨g,3,none⟩ v3) (((((w.setCell ⟨g,0,none⟩ v0).setCell ⟨g,1,none⟩ v1).setCell ⟨g,2,none⟩ v2).setCell ⟨g,3,none⟩ v3).setCell ⟨g,4,none⟩ v4) g #[v0,v1,v2,v3,a4,a5,a6,a7,a8,a9] #[v0,v1,v2,v3,v4,a5,a6,a7,a8,a9] T:=StN.at4 s3.box 4 v4
 have s4:=s3.trans t4
 have t5:StN (((((w.setCell ⟨g,0,none⟩ v0).setCell ⟨g,1,none⟩ v1).setCell ⟨g,2,none⟩ v2).setCell ⟨g,3,none⟩ v3).setCell ⟨g,4,none⟩ v4) ((((((w.setCell ⟨g,0,none⟩ v0).setCell ⟨g,1,none⟩ v1).setCell ⟨g,2,none⟩ v2).setCell ⟨g,3,none⟩ v3).setCell ⟨g,4,none⟩ v4).setCell ⟨g,5,none⟩ v5) g #[v0,v1,v2,v3,v4,a5,a6,a7,a8,a9] #[v0,v1,v2,v3,v4,v5,a6,a7,a8,a9] T:=StN.at4 s4.box 5 v5
 have s5:=s4.trans t5
 have t6:StN ((((((w.setCell ⟨g,0,none⟩ v0).setCell ⟨g,1,none⟩ v1).setCell ⟨g,2,none⟩ v2).setCell ⟨g,3,none⟩ v3).setCell ⟨g,4,none⟩ v4).setCell ⟨g,5,none⟩ v5) (((((((w.setCell ⟨g,0,none⟩ v0).setCell ⟨g,1,none⟩ v1).setCell ⟨g,2,none⟩ v2).setCell ⟨g,3,none⟩ v3).setCell ⟨g,4,none⟩ v4).setCell ⟨g,5,none⟩ v5).setCell ⟨g,6,none⟩ v6) g #[v0,v1,v2,v3,v4,v5,a6,a7,a8,a9] #[v0,v1,v2,v3,v4,v5,v6,a7,a8,a9] T:=StN.at4 s5.box 6 v6
 have s6:=s5.trans t6
 have t7:StN (((((((w.setCell ⟨g,0,none⟩ v0).setCell ⟨g,1,none⟩ v1).setCell ⟨g,2,none⟩ v2).setCell ⟨g,3,none⟩ v3).setCell ⟨g,4,none⟩ v4).setCell ⟨g,5,none⟩ v5).setCell ⟨g,6,none⟩ v6) ((((((((w.setCell ⟨g,0,none⟩ v0).setCell ⟨g,1,none⟩ v1).setCell ⟨g,2,none⟩ v2).setCell ⟨g,3,none⟩ v3).setCell ⟨g,4,none⟩ v4).setCell ⟨g,5,none⟩ v5).setCell ⟨g,6,none⟩ v6).setCell ⟨g,7,none⟩ v7) g #[v0,v1,v2,v3,v4,v5,v6,a7,a8,a9] #[v0,v1,v2,v3,v4,v5,v6,v7,a8,a9] T:=StN.at4 s6.box 7 v7
 have s7:=s6.trans t7
 have t8:StN ((((((((w.setCell ⟨g,0,none⟩ v0).setCell ⟨g,1,none⟩ v1).setCell ⟨g,2,none⟩ v2).setCell ⟨g,3,none⟩ v3).setCell ⟨g,4,none⟩ v4).setCell ⟨g,5,none⟩ v5).setCell ⟨g,6,none⟩ v6).setCell ⟨g,7,none⟩ v7) (((((((((w.setCell ⟨g,0,none⟩ v0).setCell ⟨g,1,none⟩ v1).setCell ⟨g,2,none⟩ v2).setCell ⟨g,3,none⟩ v3).setCell ⟨g,4,none⟩ v4).setCell ⟨g,5,none⟩ v5).setCell ⟨g,6,none⟩ v6).setCell ⟨g,7,none⟩ v7).setCell ⟨g,8,none⟩ v8) g #[v0,v1,v2,v3,v4,v5,v6,v7,a8,a9] #[v0,v1,v2,v3,v4,v5,v6,v7,v8,a9] T:=StN.at4 s7.box 8 v8
 have s8:=s7.trans t8
 have t9:StN (((((((((w.setCell ⟨g,0,none⟩ v0).setCell ⟨g,1,none⟩ v1).setCell ⟨g,2,none⟩ v2).setCell ⟨g,3,none⟩ v3).setCell ⟨g,4,none⟩ v4).setCell ⟨g,5,none⟩ v5).setCell ⟨g,6,none⟩ v6).setCell ⟨g,7,none⟩ v7).setCell ⟨g,8,none⟩ v8) ((((((((((w.setCell ⟨g,0,none⟩ v0).setCell ⟨g,1,none⟩ v1).setCell ⟨g,2,none⟩ v2).setCell ⟨g,3,none⟩ v3).setCell ⟨g,4,none⟩ v4).setCell ⟨g,5,none⟩ v5).setCell ⟨g,6,none⟩ v6).setCell ⟨g,7,none⟩ v7).setCell ⟨g,8,none⟩ v8).setCell ⟨g,9,none⟩ v9) g #[v0,v1,v2,v3,v4,v5,v6,v7,v8,a9] #[v0,v1,v2,v3,v4,v5,v6,v7,v8,v9] T:=StN.at4 s8.box 9 v9
 have s9:=s8.trans t9;exact s9
theorem StN.of6{w w1:World}{g:Nat}{T:TypeId}{a0 a1 a2 a3 a4 a5 v0 v1 v2 v3 v4 v5:Value}(X:Bo w g #[a0,a1,a2,a3,a4,a5] T)(h:(((((w.setCell ⟨g,0,none⟩ v0).setCell ⟨g,1,none⟩ v1).setCell ⟨g,2,none⟩ v2).setCell ⟨g,3,none⟩ v3).setCell ⟨g,4,none⟩ v4).setCell ⟨g,5,none⟩ v5=w1):StN w w1 g #[a0,a1,a2,a3,a4,a5] #[v0,v1,v2,v3,v4,v5] T:=h▸StN.mk6 X v0 v1 v2 v3 v4 v5
theorem StN.of10{w w1:World}{g:Nat}{T:TypeId}{a0 a1 a2 a3 a4 a5 a6 a7 a8 a9 v0 v1 v2 v3 v4 v5 v6 v7 v8 v9:Value}(X:Bo w g #[a0,a1,a2,a3,a4,a5,a6,a7,a8,a9] T)(h:((((((((((w.setCell ⟨g,0,none⟩ v0).setCell ⟨g,1,none⟩ v1).setCell ⟨g,2,none⟩ v2).setCell ⟨g,3,none⟩ v3).setCell ⟨g,4,none⟩ v4).setCell ⟨g,5,none⟩ v5).setCell ⟨g,6,none⟩ v6).setCell ⟨g,7,none⟩ v7).setCell ⟨g,8,none⟩ v8).setCell ⟨g,9,none⟩ v9)=w1):StN w w1 g #[a0,a1,a2,a3,a4,a5,a6,a7,a8,a9] #[v0,v1,v2,v3,v4,v5,v6,v7,v8,v9] T:=h▸StN.mk10 X v0 v1 v2 v3 v4 v5 v6 v7 v8 v9
theorem kvWidth{w:World}{e:Bool}{D M E D' M' E':Int}{s s':Bool}{x:Sp}{r:Int}(hT:Tb w)(hM:LQ M)(hM':LQ M')(hx:rkI e D s M E D' s' M' E'=x)(hr:widI x=r):Calls Tryz.prog 41 #[VI e D s M E D' s' M' E'] w (PN w r):=by
 delta VI
 have HX:=ie hx;clear hx
 go_enter Tryz.func41,Tryz.ntmps41
 go_upto_region 1 with (fail)
 generalize hW1:(w.alloc _).alloc _=w1 at *;obtain⟨X1,XR,HB⟩:=Bo.en2 hW1;replace hT:=hT.below HB.out;clear hW1;have xX1:=X1.cell
 go_wp2_with fail
 refine(kvOrE hM hM' HX.out).mono ?_;rintro ee w2 ⟨e1,K1,s1,M1,E1,K1b,s1b,M1b,E1b,rfl,v1,B⟩;clear xX1;replace X1:=X1.b B;replace XR:=XR.b B;replace hT:=hT.b B;replace HB:=Hqb HB B;clear B;have xX1:=X1.cell;have zX10:=X1.frozen
 go_upto_region 2 with (fail)
 clear xX1 zX10;generalize hS:((((((((w2.setCell _ _).setCell _ _).setCell _ _).setCell _ _).setCell _ _).setCell _ _).setCell _ _).setCell _ _).setCell _ _=w3 at *;have SX:=StN.of9 X1 hS;replace XR:=XR.s SX;replace hT:=hT.s SX;replace HB:=Hqs HB SX (by omega);replace X1:=SX.box;clear SX hS
 clear HX hM hM'
 rcases x with _ | ⟨xa,xb⟩
 ·obtain⟨rfl,y1,y1b⟩:=v1
  obtain rfl:0=r:=hr
  have xX1:=X1.cell
  go_wp2_with fail
  refine(aSub hT y1b.top y1.top y1b.rk (y:=0) (by rw[y1.rk];rfl) (r:=0) (addp_zero true (by omega) (by omega))).mono ?_;rintro ee w4 ⟨K2,s2,M2,E2,rfl,q2,B⟩;clear xX1;replace X1:=X1.b B;replace XR:=XR.b B;replace hT:=hT.b B;replace HB:=Hqb HB B;clear B;have xXR:=XR.cell;have zXR0:=XR.frozen
  go_wp2;clear xXR zXR0;have SX:=StN.t4 XR K2 s2 M2 E2;exact bq (by simp[results,Tryz.results41,go_sem,SX.box.cell]) rfl ⟨_,_,_,_,rfl,q2,(SX.below HB.out (by omega))⟩
 ·obtain⟨rfl,a1,b1,o1,o1l,o1h⟩:=v1
  have HR:=ie (show addp true xb (-xa)=r from hr)
  clear hr o1 o1l o1h;have xX1:=X1.cell
  go_wp2_with fail
  refine(aSub hT b1.top a1.top b1.rk (by rw[a1.rk]) HR.out).mono ?_;rintro ee w4 ⟨K2,s2,M2,E2,rfl,q2,B⟩;clear xX1;replace XR:=XR.b B;replace HB:=Hqb HB B;clear B;have xXR:=XR.cell;have zXR0:=XR.frozen;go_wp2;clear xXR zXR0;have SX:=StN.t4 XR K2 s2 M2 E2
  exact bq (by simp[results,Tryz.results41,go_sem,SX.box.cell]) rfl ⟨_,_,_,_,rfl,q2,(SX.below HB.out (by omega))⟩
def FzI (x:Sp)(h:Nat):Prop:=∀a b,x=some (a,b)->Fz a h/\Fz b h
theorem FzI.mono{x:Sp}{h k:Nat}(f:FzI x h)(hk:h<=k):FzI x k:=fun a b e=>⟨(f a b e).1.mono hk,(f a b e).2.mono hk⟩
section
variable {q:Bool->Int->Int->Int} {r:Bool->Int->Int} {x y z:Sp}
end
section
variable {q:Bool->Int->Int->Int} {r:Bool->Int->Int} {x y z:Sp} {m n:Int}
end
theorem opl_inj{a b:Int}(h1: -9223372036854775807<=a)(h2:a<=9223372036854775807)(k1: -9223372036854775807<=b)(k2:b<=9223372036854775807)(h:opl a=opl b):a=b:=by
 have c:=opl_cmp (a:=a) (b:=b) (by omega) (by omega) (by omega) (by omega);rw[h]at c
 rcases cmpI_tri a b with⟨p,e⟩ | ⟨p,e⟩ | ⟨p,e⟩
 ·rw[e]at c
  rcases cmpI_tri (opl b) (opl b)with ⟨p,e⟩ | ⟨p,e⟩ | ⟨p,e⟩ <;> omega
 ·exact p
 ·rw[e]at c
  rcases cmpI_tri (opl b) (opl b)with ⟨p,e⟩ | ⟨p,e⟩ | ⟨p,e⟩ <;> omega
theorem opl_lt{a b:Int}(h1: -9223372036854775807<=a)(h:a < b)(h2:b<=9223372036854775807):opl a < opl b:=by
 have l:=opl_le (a:=a) (b:=b) (by omega) (by omega) h2
 have n:opl a≠opl b:=fun e=>by
  have:=opl_inj h1 (by omega) (by omega) h2 e
  omega
 omega
end Go.Proofs.YtomikokonmikgaaGreatDoor
namespace Go.Proofs.YtomikokonmikgaaGreatDoor
open Go Go.RowKit
set_option linter.unusedVariables false
theorem small_opl{m:Int}(h1: -1000<=m)(h2:m<=1000):fixB (opl m)=true/\fixI (opl m)=m*SC:=by
 have a:=opl_lt (a:=m) (b:=1073741824) (by omega) (by omega) (by decide);have b:=opl_lt (a:= -1073741824) (b:=m) (by decide) (by omega) (by omega)
 have e:opl (-1073741824)= -opl 1073741824:=rfl
 have f:fixB (opl m)=true:=dt ⟨by omega,by omega⟩
 refine⟨f,?_⟩;rw[fixI_yes f,opl_vr (by omega) (by omega),Int.mul_assoc,Int.mul_comm (2^KK) SC,<-Int.mul_assoc];exact Int.mul_ediv_cancel _ (Int.ne_of_gt (p2pos KK))
theorem p60_lt:p60 < opl 1:=by decide
theorem aw_sin{Z:Sp}(h:Sv false 0 Z):hasI Z 0=true/\widI Z < opl 1:=by
 have f:fixB 0=true:=(small_opl (m:=0) (by decide) (by decide)).1
 obtain⟨b,g⟩:=sv_box f h;refine⟨?_,Int.lt_of_le_of_lt b.tight p60_lt⟩
 have z:zq false 0=0:=by
  have e:=zp_neg 0
  show zp 0=0
  rw[show (-0:Int)=0 from rfl]at e
  grind
 have g':=g
 rw[z]at g'
 have gn: -(17/10)<=ang (ofX false (fixI 0)) (-0)/\ang (ofX false (fixI 0)) (-0)<=17/10:=by
  rw[show (-0:Rat)=0 from by decide]
  exact g'
 obtain⟨k1,k2⟩:=negU g' gn
 rw[show (-0:Rat)=0 from by decide]at k1 k2
 have e:sinU (ofX false (fixI 0)) 0=su false 0:=by
  unfold su
  rw[z]
 rw[e]at k1 k2;obtain⟨e1,e2,e3,e4,e5,e6,e7,e8⟩:=eps_c;have t1:=tiny_lo k1;have t2:=tiny_hi k2;generalize (1/2^240:Rat)=t at *;generalize (1/2^200:Rat)=d at *;generalize (1/2^190:Rat)=q at *
 have q99:q*SR<=99:=by grind
 obtain⟨p1,p2⟩:=b.has (v:=0) (by decide) (by decide) (dist (e:=q) (by grind) q99) (dist (e:=q) (by grind) q99);exact has_R (by decide) (by decide) (v:=0) (by rw[Rat.zero_mul];rfl) b.fin.ok p1 p2
theorem ofl_one:SC<=ofL true (-1*SC)*1152921504606846976/\SC<=ofL true (1*SC)*1152921504606846976:=by decide +kernel
theorem above_p60{l r:Int}(hr:Rq false l SC r)(h:SC<=l*1152921504606846976):p60<=r:=by
 have p:=p60_bd;refine place_le hr (by omega) (by omega) ?_;have e:=p60_vr;rw[<-e];have v0:=vr_pos p.1;have m:=Int.mul_le_mul_of_nonneg_left h (Int.le_of_lt v0)
 rw[show l*(vr p60*2^60)=vr p60*(l*1152921504606846976) by rw[Int.mul_comm,Int.mul_assoc,Int.mul_comm (2^60),show (2:Int)^60=1152921504606846976 by decide]]
 exact m
theorem aw_cos{Z:Sp}(h:AllV true (some (opl (-1),opl 1)) Z):hasI Z (opl 1)=true/\hasI Z 0=false:=by
 obtain⟨o1,o2⟩:=one_bd;obtain⟨fa,ea⟩:=small_opl (m:= -1) (by decide) (by decide);obtain⟨fb,eb⟩:=small_opl (m:=1) (by decide) (by decide)
 have w:widI (some (opl (-1),opl 1))=opl 2:=by
  show addp true (opl 1) (-opl (-1))=opl 2
  rw[show -opl (-1)=opl 1 from by rw[one_neg,Int.neg_neg]]
  exact opl_add true (by decide) (by decide) (by decide) (by decide)
 have w7:opl 2 < opl 7:=opl_lt (by decide) (by decide) (by decide)
 rcases h with⟨k,_⟩ | ⟨_,_,hw,za,zb,ha,hb,hZ⟩
 ·exfalso
  rcases k with k | k | k
  ·rw[fa]at k;cases k
  ·rw[fb]at k;cases k
  ·rw[w]at k;omega
 ·rw[hZ];clear hZ;have ba:=(sv_box fa ha).1.us;have bb:=(sv_box fb hb).1.us
  have la:∃r u,za=some (r,u)/\p60<=r:=by
   rcases ha with⟨c,_⟩ | ⟨_,r,u,hr,hu,hz⟩
   ·rw[fa]at c;cases c
   ·rw[ea]at hr;obtain⟨r',u',e,_⟩:=ba;refine⟨r',u',e,?_⟩;rw[e]at hz
    have:=above_p60 hr ofl_one.1
    unfold mkI at hz
    split at hz
    ·injection hz with hz
     injection hz with e1 e2
     omega
    ·cases hz
  have lb:∃r u,zb=some (r,u)/\p60<=r:=by
   rcases hb with⟨c,_⟩ | ⟨_,r,u,hr,hu,hz⟩
   ·rw[fb]at c;cases c
   ·rw[eb]at hr;obtain⟨r',u',e,_⟩:=bb;refine⟨r',u',e,?_⟩;rw[e]at hz
    have:=above_p60 hr ofl_one.2
    unfold mkI at hz
    split at hz
    ·injection hz with hz
     injection hz with e1 e2
     omega
    ·cases hz
  obtain⟨r1,u1,rfl,l1⟩:=la;obtain⟨r2,u2,rfl,l2⟩:=lb;obtain⟨_,_,e1,a1,a2,a3⟩:=ba;obtain⟨_,_,e2,b1,b2,b3⟩:=bb
  injection e1 with e1
  injection e1 with e1 e1'
  injection e2 with e2
  injection e2 with e2 e2'
  subst e1;subst e1';subst e2;subst e2';rw[hullI_some ⟨by omega,a2,by omega,by omega,by omega⟩ ⟨by omega,b2,by omega,by omega,by omega⟩]
  obtain⟨e,f,eq,hlo,hhi⟩:=loop_is (cos:=true) (x:=fixI (opl (-1))*2) (y:=fixI (opl 1)*2+2) (j:=(fixI (opl (-1))*2).fdiv (PLo*2)) (r:=min r1 r2) (u:=max u1 u2) (by omega) (by omega) (by omega) 13;rw[eq];have p60p:=p60_bd
  have he:0 < e:=by
   rcases hlo with⟨h,_⟩ | ⟨_,t,t1,t2,t3⟩
   ·omega
   ·exfalso
    generalize (fixI (opl (-1))*2).fdiv (PLo*2)-4+(t:Int)=i at *;rw[ea,eb]at t2
    unfold MT meetsB at t2
    simp only[if_true]at t2
    by_cases c:2*i < 0
    ·rw[if_pos c]at t2;simp only[Bool.and_eq_true,decide_eq_true_eq]at t2
     unfold SC PLo PHi at *
     omega
    ·rw[if_neg c]at t2;simp only[Bool.and_eq_true,decide_eq_true_eq]at t2
     unfold SC PLo PHi at *
     omega
  have hf:f=opl 1:=by
   rcases hhi with⟨_,no⟩ | ⟨h,_⟩
   ·exfalso
    have m:MT true (fixI (opl (-1))*2) (fixI (opl 1)*2+2) 0:=by
     rw[ea,eb]
     show meetsB (if true=true then 2*0 else 2*0+1) (-1*SC*2) (1*SC*2+2)=true
     decide
    obtain⟨t,t1,t2⟩:=search fa fb hw m;rw[t2]at m;exact no t t1 m (by rw[<-t2];rfl)
   ·exact h
  subst hf
  have be:e<=opl 1:=by
   rcases hlo with⟨h,_⟩ | ⟨h,_⟩ <;> omega
  refine⟨has_in (by omega) (by omega) be (Int.le_refl _),?_⟩
  show (!infp 0 && decide (e<=0) && decide (0<=opl 1))=false
  rw[df (show ¬e<=0 by omega)]
  rfl
theorem aw_wide:AllV false (some (opl 0,opl 7)) unitI:=by
 refine .inl ⟨.inr (.inr ?_),rfl⟩
 show opl 7<=addp true (opl 7) (-opl 0)
 rw[show -opl 0=opl 0 from rfl,opl_add true (by decide) (by decide) (by decide) (by decide)]
 exact Int.le_refl _
theorem aw_seven:mkI (opl 0) (opl 7)=some (opl 0,opl 7):=by
 have:=opl_pos (n:=7) (by decide) (by decide)
 have e:opl 0=0:=rfl
 exact mkI_some (by omega) (by omega) (by omega)
