/-
 Contracts that the proof rests on.
-/
import Derived.Test.YtaadmpiphnfllaaGreatDoorYAbh
namespace Go.Proofs.YtaadmpiphnfllaaGreatDoor
set_option maxHeartbeats 8000000
open Go.RowKit
set_option linter.unusedVariables false
set_option linter.unusedSimpArgs false
set_option maxRecDepth 100000
def PSp (w:World)(K:Nat)(x y:Int)(e:Ending)(w':World):Prop:=∃s1 A1 n1 c1 s2 A2 n2 c2,e= .returned (.agg #[.bool s1,.slice A1 n1 c1,.bool s2,.slice A2 n2 c2])∧Wn w' s1 A1 n1 c1 x∧Wn w' s2 A2 n2 c2 y∧n1≤K∧n2≤K∧Below w.heap.size w w'
def Jo.Fact.sp (x y:Int)(K:Nat):Jo.Fact:=⟨fun v w=>∃s1 A1 n1 c1 s2 A2 n2 c2,v= .agg #[.bool s1,.slice A1 n1 c1,.bool s2,.slice A2 n2 c2]∧Wn w s1 A1 n1 c1 x∧Wn w s2 A2 n2 c2 y∧n1≤K∧n2≤K,fun v w w' h b=>by
 obtain⟨s1,A1,n1,c1,s2,A2,n2,c2,e,p,q,k,l⟩:=h;exact⟨s1,A1,n1,c1,s2,A2,n2,c2,e,p.below b,q.below b,k,l⟩⟩
theorem tPlus{w:World}{A:Option Addr}{n c:Nat}{s:Bool}{x:Int}{B:Option Addr}{m d:Nat}{t:Bool}{y:Int}{A':Option Addr}{n' c':Nat}{s':Bool}{x':Int}{B':Option Addr}{m' d':Nat}{t':Bool}{y':Int}{Z:Nat}{u v:Int}(h:Wn w s A n c x)(k:Wn w t B m d y)(h':Wn w s' A' n' c' x')(k':Wn w t' B' m' d' y')(hn:n≤1000000)(hm:m≤1000000)(hn':n'≤1000000)(hm':m'≤1000000)(hK1:n+n'+1≤Z)(hK2:m+m'+1≤Z)(hu:x+x'=u)(hv:y+y'=v):Calls Tryz.prog 99 #[.agg #[.bool s,.slice A n c,.bool t,.slice B m d],.agg #[.bool s',.slice A' n' c',.bool t',.slice B' m' d']] w (PSp w Z u v):=by
 have HU:=Lib.hid hu;have HV:=Lib.hid hv;clear hu hv
 go_enter Tryz.func99,Tryz.ntmps99
 go_upto_region 1 with (fail)
 have X2:=(Bo.newAt w (g:=w.heap.size) (by simp) #[.bool s,.slice A n c,.bool t,.slice B m d] 59).below (bel2 _ (.cells #[.bool s',.slice A' n' c',.bool t',.slice B' m' d'] 59) (.cells #[.bool false,.slice none 0 0,.bool false,.slice none 0 0] 59));have X3:=(Bo.newAt (w.alloc (.cells #[.bool s,.slice A n c,.bool t,.slice B m d] 59)) (g:=w.heap.size+1) (by simp) #[.bool s',.slice A' n' c',.bool t',.slice B' m' d'] 59).below (bel1 _ (.cells #[.bool false,.slice none 0 0,.bool false,.slice none 0 0] 59))
 have XR:=(Bo.newAt ((w.alloc (.cells #[.bool s,.slice A n c,.bool t,.slice B m d] 59)).alloc (.cells #[.bool s',.slice A' n' c',.bool t',.slice B' m' d'] 59)) (g:=w.heap.size+1+1) (by simp) #[.bool false,.slice none 0 0,.bool false,.slice none 0 0] 59);have HB:=Lib.hid (bel3 w (.cells #[.bool s,.slice A n c,.bool t,.slice B m d] 59) (.cells #[.bool s',.slice A' n' c',.bool t',.slice B' m' d'] 59) (.cells #[.bool false,.slice none 0 0,.bool false,.slice none 0 0] 59))
 replace h:=h.below HB.out;replace k:=k.below HB.out
 replace h':=h'.below HB.out
 replace k':=k'.below HB.out
 generalize hW1:(((w.alloc (.cells #[.bool s,.slice A n c,.bool t,.slice B m d] 59)).alloc (.cells #[.bool s',.slice A' n' c',.bool t',.slice B' m' d'] 59)).alloc (.cells #[.bool false,.slice none 0 0,.bool false,.slice none 0 0] 59))=w1 at *;clear hW1;have ltX2:=X2.lt;have ltX3:=X3.lt;have ltXR:=XR.lt;refine Jo.rk [0,1,2,3,4,5,6,7,8,9,10] [some 5,some 6,some 7,some 8,some 9,some 10,some 11,some 12,some 13,some 14,some 15,none] [[],[0],[],[2],[1,3],[],[5],[],[7],[6,8],[4,9],[]] 12 1 [Jo.qp w.heap.size 0,Jo.Fact.eq (.agg #[.bool s,.slice A n c]),Jo.qp (w.heap.size+1) 0,Jo.Fact.eq (.agg #[.bool s',.slice A' n' c']),Jo.Fact.wn (u) (Z),Jo.qp w.heap.size 2,Jo.Fact.eq (.agg #[.bool t,.slice B m d]),Jo.qp (w.heap.size+1) 2,Jo.Fact.eq (.agg #[.bool t',.slice B' m' d']),Jo.Fact.wn (v) (Z),Jo.Fact.sp (u) (v) (Z),Jo.Fact.any] (by kernel_rfl) (by kernel_rfl) (by decide) rfl ?_ ?_
 ·iterate 4 (refine Jo.jm rfl ?_ ?_;rotate_left)
  refine Jo.jm rfl ?_ ?_
  ·rintro wj hJ _ rfl _ rfl K hK;simp only [Jo.z]at hK⊢;go_simp;refine (wAdd (h.below hJ).wr (h'.below hJ).wr (by omega) (by omega) HU.out).mono ?_;rintro ee wk ⟨s20,A20,n20,c20,rfl,p20,k20,B⟩;exact hK.out _ _ ⟨s20,A20,n20,c20,rfl,p20,by omega⟩ B
  refine Jo.jm rfl ?_ ?_;rotate_left
  refine Jo.jm rfl ?_ ?_
  ·rintro wj hJ _ rfl K hK;simp only [Jo.z]at hK⊢;have xX22:=(X2.below hJ).a 2 (.bool t) rfl;have xX23:=(X2.below hJ).a 3 (.slice B m d) rfl;go_simp;exact hK.out _ _ rfl (br _ _)
  refine Jo.jm rfl ?_ ?_;rotate_left
  refine Jo.jm rfl ?_ ?_
  ·rintro wj hJ _ rfl K hK;simp only [Jo.z]at hK⊢;have xX32:=(X3.below hJ).a 2 (.bool t') rfl;have xX33:=(X3.below hJ).a 3 (.slice B' m' d') rfl;go_simp;exact hK.out _ _ rfl (br _ _)
  refine Jo.jm rfl ?_ ?_
  ·rintro wj hJ _ rfl _ rfl K hK;simp only [Jo.z]at hK⊢;go_simp;refine (wAdd (k.below hJ).wr (k'.below hJ).wr (by omega) (by omega) HV.out).mono ?_;rintro ee wk ⟨s21,A21,n21,c21,rfl,p21,k21,B⟩;exact hK.out _ _ ⟨s21,A21,n21,c21,rfl,p21,by omega⟩ B
  refine Jo.jm rfl ?_ ?_
  ·rintro wj hJ _ ⟨s20,A20,n20,c20,rfl,p20,k20⟩ _ ⟨s21,A21,n21,c21,rfl,p21,k21⟩ K hK;simp only [Jo.z]at hK⊢;go_simp;exact hK.out _ _ ⟨_,_,_,_,_,_,_,_,rfl,p20,p21,by omega,by omega⟩ (br _ _)
  exact Jo.Steps.nil
  all_goals (rintro wj hJ;(repeat rintro _ rfl);intro K hK;simp only [Jo.z]at hK⊢;have xX2:=(X2.below hJ).cell;have xX3:=(X3.below hJ).cell;go_simp;exact hK.out _ _ rfl (br _ _))
 rintro w2 hJ _ _ _ rfl _ _ _ rfl _ ⟨s20,A20,n20,c20,rfl,p20,k20⟩ _ _ _ rfl _ _ _ rfl _ ⟨s21,A21,n21,c21,rfl,p21,k21⟩ _ ⟨s22,A22,n22,c22,s23,A23,n23,c23,rfl,p22,p23,k22,k23⟩ -;simp only [Jo.z];replace X2:=X2.below hJ;replace X3:=X3.below hJ;replace XR:=XR.below hJ;replace h:=h.below hJ;replace k:=k.below hJ
 replace h':=h'.below hJ
 replace k':=k'.below hJ
 replace HB:=Hqb HB hJ;clear h k h' k' p20 p21;have xXR:=XR.cell;have zXR0:=XR.frozen
 refine Jo.jnext (i:=11) (o:=⟨none,_,_,_,_,_⟩) (by kernel_rfl) rfl (fun K hK=>?_)
 go_simp;refine hK.out _ _ ?_;clear hK K xXR zXR0;have SX:=StN.mk4 XR (.bool s22) (.slice A22 n22 c22) (.bool s23) (.slice A23 n23 c23);replace p22:=p22.stn SX (by simp [no32]);replace p23:=p23.stn SX (by simp [no32]);refine Jo.jdone (by kernel_rfl) ?_;go_wp2;exact bodyPost_ret (v:= .agg #[.bool s22,.slice A22 n22 c22,.bool s23,.slice A23 n23 c23]) (by simp [results,Tryz.results99,go_sem,SX.box.cell]) rfl ⟨s22,A22,n22,c22,s23,A23,n23,c23,rfl,p22,p23,k22,k23,(SX.below HB.out (by omega))⟩
theorem tMinus{w:World}{A:Option Addr}{n c:Nat}{s:Bool}{x:Int}{B:Option Addr}{m d:Nat}{t:Bool}{y:Int}{A':Option Addr}{n' c':Nat}{s':Bool}{x':Int}{B':Option Addr}{m' d':Nat}{t':Bool}{y':Int}{Z:Nat}{u v:Int}(h:Wn w s A n c x)(k:Wn w t B m d y)(h':Wn w s' A' n' c' x')(k':Wn w t' B' m' d' y')(hn:n≤1000000)(hm:m≤1000000)(hn':n'≤1000000)(hm':m'≤1000000)(hK1:n+m'+1≤Z)(hK2:m+n'+1≤Z)(hu:x-y'=u)(hv:y-x'=v):Calls Tryz.prog 145 #[.agg #[.bool s,.slice A n c,.bool t,.slice B m d],.agg #[.bool s',.slice A' n' c',.bool t',.slice B' m' d']] w (PSp w Z u v):=by
 have HU:=Lib.hid hu;have HV:=Lib.hid hv;clear hu hv
 go_enter Tryz.func145,Tryz.ntmps145
 go_upto_region 1 with (fail)
 have X2:=(Bo.newAt w (g:=w.heap.size) (by simp) #[.bool s,.slice A n c,.bool t,.slice B m d] 59).below (bel2 _ (.cells #[.bool s',.slice A' n' c',.bool t',.slice B' m' d'] 59) (.cells #[.bool false,.slice none 0 0,.bool false,.slice none 0 0] 59));have X3:=(Bo.newAt (w.alloc (.cells #[.bool s,.slice A n c,.bool t,.slice B m d] 59)) (g:=w.heap.size+1) (by simp) #[.bool s',.slice A' n' c',.bool t',.slice B' m' d'] 59).below (bel1 _ (.cells #[.bool false,.slice none 0 0,.bool false,.slice none 0 0] 59))
 have XR:=(Bo.newAt ((w.alloc (.cells #[.bool s,.slice A n c,.bool t,.slice B m d] 59)).alloc (.cells #[.bool s',.slice A' n' c',.bool t',.slice B' m' d'] 59)) (g:=w.heap.size+1+1) (by simp) #[.bool false,.slice none 0 0,.bool false,.slice none 0 0] 59);have HB:=Lib.hid (bel3 w (.cells #[.bool s,.slice A n c,.bool t,.slice B m d] 59) (.cells #[.bool s',.slice A' n' c',.bool t',.slice B' m' d'] 59) (.cells #[.bool false,.slice none 0 0,.bool false,.slice none 0 0] 59))
 replace h:=h.below HB.out;replace k:=k.below HB.out
 replace h':=h'.below HB.out
 replace k':=k'.below HB.out
 generalize hW1:(((w.alloc (.cells #[.bool s,.slice A n c,.bool t,.slice B m d] 59)).alloc (.cells #[.bool s',.slice A' n' c',.bool t',.slice B' m' d'] 59)).alloc (.cells #[.bool false,.slice none 0 0,.bool false,.slice none 0 0] 59))=w1 at *;clear hW1;have ltX2:=X2.lt;have ltX3:=X3.lt;have ltXR:=XR.lt;refine Jo.rk [0,1,2,3,4,5,6,7,8,9,10] [some 5,some 6,some 7,some 8,some 9,some 10,some 11,some 12,some 13,some 14,some 15,none] [[],[0],[],[2],[1,3],[],[5],[],[7],[6,8],[4,9],[]] 12 1 [Jo.qp w.heap.size 0,Jo.Fact.eq (.agg #[.bool s,.slice A n c]),Jo.qp (w.heap.size+1) 2,Jo.Fact.eq (.agg #[.bool t',.slice B' m' d']),Jo.Fact.wn (u) (Z),Jo.qp w.heap.size 2,Jo.Fact.eq (.agg #[.bool t,.slice B m d]),Jo.qp (w.heap.size+1) 0,Jo.Fact.eq (.agg #[.bool s',.slice A' n' c']),Jo.Fact.wn (v) (Z),Jo.Fact.sp (u) (v) (Z),Jo.Fact.any] (by kernel_rfl) (by kernel_rfl) (by decide) rfl ?_ ?_
 ·iterate 3 (refine Jo.jm rfl ?_ ?_;rotate_left)
  refine Jo.jm rfl ?_ ?_
  ·rintro wj hJ _ rfl K hK;simp only [Jo.z]at hK⊢;have xX32:=(X3.below hJ).a 2 (.bool t') rfl;have xX33:=(X3.below hJ).a 3 (.slice B' m' d') rfl;go_simp;exact hK.out _ _ rfl (br _ _)
  refine Jo.jm rfl ?_ ?_
  ·rintro wj hJ _ rfl _ rfl K hK;simp only [Jo.z]at hK⊢;go_simp;refine (wSub (h.below hJ).wr (k'.below hJ).wr (by omega) (by omega) HU.out).mono ?_;rintro ee wk ⟨s20,A20,n20,c20,rfl,p20,k20,B⟩;exact hK.out _ _ ⟨s20,A20,n20,c20,rfl,p20,by omega⟩ B
  refine Jo.jm rfl ?_ ?_;rotate_left
  refine Jo.jm rfl ?_ ?_
  ·rintro wj hJ _ rfl K hK;simp only [Jo.z]at hK⊢;have xX22:=(X2.below hJ).a 2 (.bool t) rfl;have xX23:=(X2.below hJ).a 3 (.slice B m d) rfl;go_simp;exact hK.out _ _ rfl (br _ _)
  iterate 2 (refine Jo.jm rfl ?_ ?_;rotate_left)
  refine Jo.jm rfl ?_ ?_
  ·rintro wj hJ _ rfl _ rfl K hK;simp only [Jo.z]at hK⊢;go_simp;refine (wSub (k.below hJ).wr (h'.below hJ).wr (by omega) (by omega) HV.out).mono ?_;rintro ee wk ⟨s21,A21,n21,c21,rfl,p21,k21,B⟩;exact hK.out _ _ ⟨s21,A21,n21,c21,rfl,p21,by omega⟩ B
  refine Jo.jm rfl ?_ ?_
  ·rintro wj hJ _ ⟨s20,A20,n20,c20,rfl,p20,k20⟩ _ ⟨s21,A21,n21,c21,rfl,p21,k21⟩ K hK;simp only [Jo.z]at hK⊢;go_simp;exact hK.out _ _ ⟨_,_,_,_,_,_,_,_,rfl,p20,p21,by omega,by omega⟩ (br _ _)
  exact Jo.Steps.nil
  all_goals (rintro wj hJ;(repeat rintro _ rfl);intro K hK;simp only [Jo.z]at hK⊢;have xX2:=(X2.below hJ).cell;have xX3:=(X3.below hJ).cell;go_simp;exact hK.out _ _ rfl (br _ _))
 rintro w2 hJ _ _ _ rfl _ _ _ rfl _ ⟨s20,A20,n20,c20,rfl,p20,k20⟩ _ _ _ rfl _ _ _ rfl _ ⟨s21,A21,n21,c21,rfl,p21,k21⟩ _ ⟨s22,A22,n22,c22,s23,A23,n23,c23,rfl,p22,p23,k22,k23⟩ -;simp only [Jo.z];replace X2:=X2.below hJ;replace X3:=X3.below hJ;replace XR:=XR.below hJ;replace h:=h.below hJ;replace k:=k.below hJ
 replace h':=h'.below hJ
 replace k':=k'.below hJ
 replace HB:=Hqb HB hJ;clear h k h' k' p20 p21;have xXR:=XR.cell;have zXR0:=XR.frozen
 refine Jo.jnext (i:=11) (o:=⟨none,_,_,_,_,_⟩) (by kernel_rfl) rfl (fun K hK=>?_)
 go_simp;refine hK.out _ _ ?_;clear hK K xXR zXR0;have SX:=StN.mk4 XR (.bool s22) (.slice A22 n22 c22) (.bool s23) (.slice A23 n23 c23);replace p22:=p22.stn SX (by simp [no32]);replace p23:=p23.stn SX (by simp [no32]);refine Jo.jdone (by kernel_rfl) ?_;go_wp2;exact bodyPost_ret (v:= .agg #[.bool s22,.slice A22 n22 c22,.bool s23,.slice A23 n23 c23]) (by simp [results,Tryz.results145,go_sem,SX.box.cell]) rfl ⟨s22,A22,n22,c22,s23,A23,n23,c23,rfl,p22,p23,k22,k23,(SX.below HB.out (by omega))⟩
theorem tOpp{w:World}{A:Option Addr}{n c:Nat}{s:Bool}{x:Int}{B:Option Addr}{m d:Nat}{t:Bool}{y:Int}{Z:Nat}{u v:Int}(h:Wn w s A n c x)(k:Wn w t B m d y)(hn:n≤Z)(hm:m≤Z)(hu: -y=u)(hv: -x=v):Calls Tryz.prog 148 #[.agg #[.bool s,.slice A n c,.bool t,.slice B m d]] w (PSp w Z u v):=by
 have HU:=Lib.hid hu;have HV:=Lib.hid hv;clear hu hv
 go_enter Tryz.func148,Tryz.ntmps148
 go_upto_region 1 with (fail)
 generalize hW1:(w.alloc _).alloc _=w1 at *;obtain⟨X1,XR,HB⟩:=Bo.en2 hW1;replace h:=h.below HB.out;replace k:=k.below HB.out;clear hW1;have ltX1:=X1.lt;have ltXR:=XR.lt;refine Jo.rk [0,1,2,3,4,5,6] [some 3,some 4,some 5,some 6,some 7,some 8,some 9,none] [[],[0],[1],[],[3],[4],[2,5],[]] 8 1 [Jo.qp w.heap.size 2,Jo.Fact.eq (.agg #[.bool t,.slice B m d]),Jo.Fact.wn (u) (Z),Jo.qp w.heap.size 0,Jo.Fact.eq (.agg #[.bool s,.slice A n c]),Jo.Fact.wn (v) (Z),Jo.Fact.sp (u) (v) (Z),Jo.Fact.any] (by kernel_rfl) (by kernel_rfl) (by decide) rfl ?_ ?_
 ·refine Jo.jm rfl ?_ ?_;rotate_left
  refine Jo.jm rfl ?_ ?_
  ·rintro wj hJ _ rfl K hK;simp only [Jo.z]at hK⊢;have xX12:=(X1.below hJ).a 2 (.bool t) rfl;have xX13:=(X1.below hJ).a 3 (.slice B m d) rfl;go_simp;exact hK.out _ _ rfl (br _ _)
  refine Jo.jm rfl ?_ ?_
  ·rintro wj hJ _ rfl K hK;simp only [Jo.z]at hK⊢;go_simp;refine (wNeg (k.below hJ).wr HU.out).mono ?_;rintro ee wk ⟨s20,A20,n20,c20,rfl,p20,k20,B⟩;exact hK.out _ _ ⟨s20,A20,n20,c20,rfl,p20,by omega⟩ B
  iterate 2 (refine Jo.jm rfl ?_ ?_;rotate_left)
  refine Jo.jm rfl ?_ ?_
  ·rintro wj hJ _ rfl K hK;simp only [Jo.z]at hK⊢;go_simp;refine (wNeg (h.below hJ).wr HV.out).mono ?_;rintro ee wk ⟨s21,A21,n21,c21,rfl,p21,k21,B⟩;exact hK.out _ _ ⟨s21,A21,n21,c21,rfl,p21,by omega⟩ B
  refine Jo.jm rfl ?_ ?_
  ·rintro wj hJ _ ⟨s20,A20,n20,c20,rfl,p20,k20⟩ _ ⟨s21,A21,n21,c21,rfl,p21,k21⟩ K hK;simp only [Jo.z]at hK⊢;go_simp;exact hK.out _ _ ⟨_,_,_,_,_,_,_,_,rfl,p20,p21,by omega,by omega⟩ (br _ _)
  exact Jo.Steps.nil
  all_goals (rintro wj hJ;(repeat rintro _ rfl);intro K hK;simp only [Jo.z]at hK⊢;have xX1:=(X1.below hJ).cell;go_simp;exact hK.out _ _ rfl (br _ _))
 rintro w2 hJ _ _ _ rfl _ ⟨s20,A20,n20,c20,rfl,p20,k20⟩ _ _ _ rfl _ ⟨s21,A21,n21,c21,rfl,p21,k21⟩ _ ⟨s22,A22,n22,c22,s23,A23,n23,c23,rfl,p22,p23,k22,k23⟩ -;simp only [Jo.z];replace X1:=X1.below hJ;replace XR:=XR.below hJ;replace h:=h.below hJ;replace k:=k.below hJ;replace HB:=Hqb HB hJ;clear h k p20 p21;have xXR:=XR.cell
 have zXR0:=XR.frozen
 refine Jo.jnext (i:=7) (o:=⟨none,_,_,_,_,_⟩) (by kernel_rfl) rfl (fun K hK=>?_)
 go_simp;refine hK.out _ _ ?_;clear hK K xXR zXR0;have SX:=StN.mk4 XR (.bool s22) (.slice A22 n22 c22) (.bool s23) (.slice A23 n23 c23);replace p22:=p22.stn SX (by simp [no32]);replace p23:=p23.stn SX (by simp [no32]);refine Jo.jdone (by kernel_rfl) ?_;go_wp2;exact bodyPost_ret (v:= .agg #[.bool s22,.slice A22 n22 c22,.bool s23,.slice A23 n23 c23]) (by simp [results,Tryz.results148,go_sem,SX.box.cell]) rfl ⟨s22,A22,n22,c22,s23,A23,n23,c23,rfl,p22,p23,k22,k23,(SX.below HB.out (by omega))⟩
theorem prd_two{z x:Int}:prd [z,x]=z*x:=by
 show 1*z*x=_
 rw [Int.one_mul]
theorem ttimes_neg{w:World}{A:Option Addr}{n c:Nat}{s:Bool}{x:Int}{B:Option Addr}{m d:Nat}{t:Bool}{y:Int}{C:Option Addr}{l f:Nat}{q:Bool}{z:Int}{L Z:Nat}{u v:Int}(h:Wn w s A n c x)(k:Wn w t B m d y)(g:Wn w q C l f z)(hn:n≤L)(hm:m≤L)(hl:l≤L)(hL:L≤1000000)(hK:1+2*L≤Z)(hz:z < 0)(hu:z*x=u)(hv:z*y=v):Calls Tryz.prog 108 #[.agg #[.bool s,.slice A n c,.bool t,.slice B m d],.agg #[.bool q,.slice C l f]] w (PSp w Z v u):=by
 obtain⟨σ,hσ⟩:∃σ,cmpI z 0=σ:=⟨_,rfl⟩;have e1:=(cmp_lt12 hσ).1;rw [decide_eq_true hz]at e1;have hu2:=prd_two.trans hu;have hv2:=prd_two.trans hv;have HU:=Lib.hid hu2;have HV:=Lib.hid hv2;have HS:=Lib.hid hσ;have E1:=Lib.hid e1;clear hu2 hv2 hσ e1;clear hu hv hz
 go_enter Tryz.func108,Tryz.ntmps108
 go_upto_region 1 with (fail)
 generalize hW1:((w.alloc _).alloc _).alloc _=w1 at *;obtain⟨X2,X3,XR,HB⟩:=Bo.en3 hW1;replace h:=h.below HB.out;replace k:=k.below HB.out;replace g:=g.below HB.out;clear hW1;have ltX2:=X2.lt;have ltX3:=X3.lt;have ltXR:=XR.lt;have hszp:=HB.out.size
 refine Jo.region_twin (T:=[0,1,2,3,4,5,6,7,8,9,10,11]) (ds:=[some 7,some 8,some 9,some 10,some 11,some 12,some 13,some 14,some 15,some 16,some 5,some 6,none,none]) (ls:=[[],[],[1],[0,2],[3],[],[],[6],[5,7],[8],[],[],[],[]]) (k:=14) (L:=[(some 7,0),(some 8,1),(some 9,2),(some 10,3),(some 11,4),(some 12,5),(some 13,6),(some 14,7),(some 15,8),(some 16,9),(some 5,10),(some 6,11)]) (fuel:=2) (w1:=w1) (p:=10) (q:=11) (old:= #[.bool false,.slice none 0 0]) (R:=27)
  (F:=[Jo.Fact.eq (.agg #[.bool q,.slice C l f]),Jo.qp w.heap.size 0,Jo.Fact.eq (.agg #[.bool s,.slice A n c]),Jo.Fact.wl L 2 [z,x],Jo.Fact.wn (u) (Z),Jo.Fact.eq (.agg #[.bool q,.slice C l f]),Jo.qp w.heap.size 2,Jo.Fact.eq (.agg #[.bool t,.slice B m d]),Jo.Fact.wl L 2 [z,y],Jo.Fact.wn (v) (Z),Jo.Fact.any,Jo.Fact.any,Jo.Fact.any,Jo.Fact.any])
  (by decide) (by decide) (by kernel_rfl) (by kernel_rfl) (by decide) rfl rfl ?_ (fun vs w2 hJ hd hpq=>?_)
 ·refine Jo.tcons (i:=0) (o:=⟨some 7,_,_,_,_,_⟩) (di:=some 7) (L:=[]) (f:=Jo.Fact.eq (.agg #[.bool q,.slice C l f])) (by decide) (by decide) rfl rfl rfl rfl (fun vs wj hJ hd K hK=>?_) ?_
  ·clear hd;simp only [Jo.putl,Jo.ze,Act.put,Jo.za,Jo.zb,Jo.zc]at hK⊢
   have xX30:World.cell? wj ⟨w.heap.size+1,0,none⟩=some (.bool q):=(X3.below hJ).cell 0
   have xX31:World.cell? wj ⟨w.heap.size+1,1,none⟩=some (.slice C l f):=(X3.below hJ).cell 1
   go_simp;exact hK.out _ _ rfl (br _ _)
  refine Jo.tcons (i:=1) (o:=⟨some 8,_,_,_,_,_⟩) (di:=some 8) (L:=[]) (f:=Jo.qp w.heap.size 0) (by decide) (by decide) rfl rfl rfl rfl (fun vs wj hJ hd K hK=>?_) ?_
  ·clear hd;simp only [Jo.putl,Jo.ze,Act.put,Jo.za,Jo.zb,Jo.zc]at hK⊢;go_simp;exact hK.out _ _ rfl (br _ _)
  refine Jo.tcons (i:=2) (o:=⟨some 9,_,_,_,_,_⟩) (di:=some 9) (L:=[(some 8,1)]) (f:=Jo.Fact.eq (.agg #[.bool s,.slice A n c])) (by decide) (by decide) rfl rfl rfl rfl (fun vs wj hJ hd K hK=>?_) ?_
  ·have d1:(Jo.qp w.heap.size 0).P (vs 1) wj:=hd 1 (by decide)
   clear hd;simp only [Jo.putl,Jo.zd,Jo.ze,Act.put,Jo.za,Jo.zb,Jo.zc]at hK⊢;generalize vs 1=u1 at hK d1⊢
   replace d1:u1=_:=d1
   subst d1
   have xX20:World.cell? wj ⟨w.heap.size,0,none⟩=some (.bool s):=(X2.below hJ).cell 0
   have xX21:World.cell? wj ⟨w.heap.size,1,none⟩=some (.slice A n c):=(X2.below hJ).cell 1
   go_simp;exact hK.out _ _ rfl (br _ _)
  refine Jo.tcons (i:=3) (o:=⟨some 10,_,_,_,_,_⟩) (di:=some 10) (L:=[(some 7,0),(some 9,2)]) (f:=Jo.Fact.wl L 2 [z,x]) (by decide) (by decide) rfl rfl rfl rfl (fun vs wj hJ hd K hK=>?_) ?_
  ·have d0:(Jo.Fact.eq (.agg #[.bool q,.slice C l f])).P (vs 0) wj:=hd 0 (by decide)
   have d2:(Jo.Fact.eq (.agg #[.bool s,.slice A n c])).P (vs 2) wj:=hd 2 (by decide)
   simp only [Jo.putl,Jo.zd,Jo.ze,Act.put,Jo.za,Jo.zb,Jo.zc]at hK⊢;clear hd;generalize vs 0=u0 at hK d0⊢;generalize vs 2=u2 at hK d2⊢
   replace d0:u0=_:=d0
   subst d0
   replace d2:u2=_:=d2
   subst d2;go_simp;exact hK.out _ _ ⟨_,_,rfl,Wl.lit2 rfl (g.below hJ).wr (h.below hJ).wr (by omega) (by omega)⟩ (bel1 _ _)
  refine Jo.tcons (i:=4) (o:=⟨some 11,_,_,_,_,_⟩) (di:=some 11) (L:=[(some 10,3)]) (f:=Jo.Fact.wn (u) (Z)) (by decide) (by decide) rfl rfl rfl rfl (fun vs wj hJ hd K hK=>?_) ?_
  ·have d3:(Jo.Fact.wl L 2 [z,x]).P (vs 3) wj:=hd 3 (by decide)
   clear hd;simp only [Jo.putl,Jo.zd,Jo.ze,Act.put,Jo.za,Jo.zb,Jo.zc]at hK⊢;generalize vs 3=u3 at hK d3⊢;obtain⟨A20,c20,rfl,h20⟩:=d3;go_simp;refine (wMul h20 (by omega) HU.out).mono ?_;rintro ee wk ⟨s21,A21,n21,c21,rfl,p21,k21,B⟩;exact hK.out _ _ ⟨s21,A21,n21,c21,rfl,p21,by omega⟩ B
  refine Jo.tcons (i:=5) (o:=⟨some 12,_,_,_,_,_⟩) (di:=some 12) (L:=[]) (f:=Jo.Fact.eq (.agg #[.bool q,.slice C l f])) (by decide) (by decide) rfl rfl rfl rfl (fun vs wj hJ hd K hK=>?_) ?_
  ·clear hd;simp only [Jo.putl,Jo.ze,Act.put,Jo.za,Jo.zb,Jo.zc]at hK⊢
   have xX30:World.cell? wj ⟨w.heap.size+1,0,none⟩=some (.bool q):=(X3.below hJ).cell 0
   have xX31:World.cell? wj ⟨w.heap.size+1,1,none⟩=some (.slice C l f):=(X3.below hJ).cell 1
   go_simp;exact hK.out _ _ rfl (br _ _)
  refine Jo.tcons (i:=6) (o:=⟨some 13,_,_,_,_,_⟩) (di:=some 13) (L:=[]) (f:=Jo.qp w.heap.size 2) (by decide) (by decide) rfl rfl rfl rfl (fun vs wj hJ hd K hK=>?_) ?_
  ·clear hd;simp only [Jo.putl,Jo.ze,Act.put,Jo.za,Jo.zb,Jo.zc]at hK⊢;go_simp;exact hK.out _ _ rfl (br _ _)
  refine Jo.tcons (i:=7) (o:=⟨some 14,_,_,_,_,_⟩) (di:=some 14) (L:=[(some 13,6)]) (f:=Jo.Fact.eq (.agg #[.bool t,.slice B m d])) (by decide) (by decide) rfl rfl rfl rfl (fun vs wj hJ hd K hK=>?_) ?_
  ·have d6:(Jo.qp w.heap.size 2).P (vs 6) wj:=hd 6 (by decide)
   clear hd;simp only [Jo.putl,Jo.zd,Jo.ze,Act.put,Jo.za,Jo.zb,Jo.zc]at hK⊢;generalize vs 6=u6 at hK d6⊢
   replace d6:u6=_:=d6
   subst d6
   have xX22:World.cell? wj ⟨w.heap.size,2,none⟩=some (.bool t):=(X2.below hJ).cell 2
   have xX23:World.cell? wj ⟨w.heap.size,3,none⟩=some (.slice B m d):=(X2.below hJ).cell 3
   go_simp;exact hK.out _ _ rfl (br _ _)
  refine Jo.tcons (i:=8) (o:=⟨some 15,_,_,_,_,_⟩) (di:=some 15) (L:=[(some 12,5),(some 14,7)]) (f:=Jo.Fact.wl L 2 [z,y]) (by decide) (by decide) rfl rfl rfl rfl (fun vs wj hJ hd K hK=>?_) ?_
  ·have d5:(Jo.Fact.eq (.agg #[.bool q,.slice C l f])).P (vs 5) wj:=hd 5 (by decide)
   have d7:(Jo.Fact.eq (.agg #[.bool t,.slice B m d])).P (vs 7) wj:=hd 7 (by decide)
   simp only [Jo.putl,Jo.zd,Jo.ze,Act.put,Jo.za,Jo.zb,Jo.zc]at hK⊢;clear hd;generalize vs 5=u5 at hK d5⊢;generalize vs 7=u7 at hK d7⊢
   replace d5:u5=_:=d5
   subst d5
   replace d7:u7=_:=d7
   subst d7;go_simp;exact hK.out _ _ ⟨_,_,rfl,Wl.lit2 rfl (g.below hJ).wr (k.below hJ).wr (by omega) (by omega)⟩ (bel1 _ _)
  refine Jo.tcons (i:=9) (o:=⟨some 16,_,_,_,_,_⟩) (di:=some 16) (L:=[(some 15,8)]) (f:=Jo.Fact.wn (v) (Z)) (by decide) (by decide) rfl rfl rfl rfl (fun vs wj hJ hd K hK=>?_) ?_
  ·have d8:(Jo.Fact.wl L 2 [z,y]).P (vs 8) wj:=hd 8 (by decide)
   clear hd;simp only [Jo.putl,Jo.zd,Jo.ze,Act.put,Jo.za,Jo.zb,Jo.zc]at hK⊢;generalize vs 8=u8 at hK d8⊢;obtain⟨A22,c22,rfl,h22⟩:=d8;go_simp;refine (wMul h22 (by omega) HV.out).mono ?_;rintro ee wk ⟨s23,A23,n23,c23,rfl,p23,k23,B⟩;exact hK.out _ _ ⟨s23,A23,n23,c23,rfl,p23,by omega⟩ B
  refine Jo.tnew (i:=10) (o:=⟨some 5,_,_,_,_,_⟩) (di:=some 5) (L:=[]) (by decide) (by decide) rfl rfl rfl rfl (fun vs wj K hK=>?_) ?_
  ·simp only [Jo.putl,Jo.ze,Act.put,Jo.za,Jo.zb,Jo.zc]at hK⊢;go_simp;exact hK.out
  refine Jo.tnew (i:=11) (o:=⟨some 6,_,_,_,_,_⟩) (di:=some 6) (L:=[]) (by decide) (by decide) rfl rfl rfl rfl (fun vs wj K hK=>?_) ?_
  ·simp only [Jo.putl,Jo.ze,Act.put,Jo.za,Jo.zb,Jo.zc]at hK⊢;go_simp;exact hK.out
  exact Jo.StepsI.nil
 have d0:(Jo.Fact.eq (.agg #[.bool q,.slice C l f])).P (vs 0) w2:=hd 0 (by decide)
 have d1:(Jo.qp w.heap.size 0).P (vs 1) w2:=hd 1 (by decide)
 have d2:(Jo.Fact.eq (.agg #[.bool s,.slice A n c])).P (vs 2) w2:=hd 2 (by decide)
 have d3:(Jo.Fact.wl L 2 [z,x]).P (vs 3) w2:=hd 3 (by decide)
 have d4:(Jo.Fact.wn (u) (Z)).P (vs 4) w2:=hd 4 (by decide)
 have d5:(Jo.Fact.eq (.agg #[.bool q,.slice C l f])).P (vs 5) w2:=hd 5 (by decide)
 have d6:(Jo.qp w.heap.size 2).P (vs 6) w2:=hd 6 (by decide)
 have d7:(Jo.Fact.eq (.agg #[.bool t,.slice B m d])).P (vs 7) w2:=hd 7 (by decide)
 have d8:(Jo.Fact.wl L 2 [z,y]).P (vs 8) w2:=hd 8 (by decide)
 have d9:(Jo.Fact.wn (v) (Z)).P (vs 9) w2:=hd 9 (by decide)
 clear hd;obtain⟨g5,g6,ep,eq_,hg5,hg6,hneg5,X5,X6⟩:=hpq;simp only [Jo.putl,Jo.zd,Jo.ze,Act.put,Jo.za,Jo.zb,Jo.zc];simp only [ep,eq_];clear ep eq_;generalize vs 0=u0 at d0⊢;generalize vs 1=u1 at d1⊢;generalize vs 2=u2 at d2⊢;generalize vs 3=u3 at d3⊢;generalize vs 4=u4 at d4⊢;generalize vs 5=u5 at d5⊢;generalize vs 6=u6 at d6⊢;generalize vs 7=u7 at d7⊢
 generalize vs 8=u8 at d8⊢;generalize vs 9=u9 at d9⊢;clear vs
 replace d0:u0=_:=d0
 subst d0
 replace d1:u1=_:=d1
 subst d1
 replace d2:u2=_:=d2
 subst d2;obtain⟨_,_,rfl,_⟩:=d3;obtain⟨s21,A21,n21,c21,rfl,p21,k21⟩:=d4
 replace d5:u5=_:=d5
 subst d5
 replace d6:u6=_:=d6
 subst d6
 replace d7:u7=_:=d7
 subst d7;obtain⟨_,_,rfl,_⟩:=d8;obtain⟨s23,A23,n23,c23,rfl,p23,k23⟩:=d9;replace X2:=X2.below hJ;replace X3:=X3.below hJ;replace XR:=XR.below hJ;replace h:=h.below hJ;replace k:=k.below hJ;replace g:=g.below hJ;replace HB:=Hqb HB hJ;clear h k;clear X2;have xX5:=X5.cell;have zX50:=X5.frozen
 refine Jo.jnext (i:=12) (o:=⟨none,_,_,_,_,_⟩) (by kernel_rfl) rfl (fun K hK=>?_)
 go_simp;refine hK.out _ _ ?_;clear hK K xX5 zX50;generalize hS:(w2.setCell _ _).setCell _ _=w3 at *;have SX:=StN.of2 X5 hS;replace X3:=X3.stn SX (by omega);replace XR:=XR.stn SX (by omega);replace X6:=X6.stn SX (by omega);replace g:=g.stn SX (by simp [no32]);replace p21:=p21.stn SX (by simp [no32]);replace p23:=p23.stn SX (by simp [no32]);replace HB:=Hqs HB SX (by omega)
 replace X5:=SX.box;clear SX hS;have xX6:=X6.cell;have zX60:=X6.frozen
 refine Jo.jnext (i:=13) (o:=⟨none,_,_,_,_,_⟩) (by kernel_rfl) rfl (fun K hK=>?_)
 go_simp;refine hK.out _ _ ?_;clear hK K xX6 zX60;generalize hS:(w3.setCell _ _).setCell _ _=w4 at *;have SX:=StN.of2 X6 hS;replace X3:=X3.stn SX (by omega);replace XR:=XR.stn SX (by omega);replace X5:=X5.stn SX (by omega);replace g:=g.stn SX (by simp [no32]);replace p21:=p21.stn SX (by simp [no32]);replace p23:=p23.stn SX (by simp [no32]);replace HB:=Hqs HB SX (by omega)
 replace X6:=SX.box;clear SX hS;refine Jo.jdone (by kernel_rfl) ?_
 go_upto_region 2 with (fail)
 have xX3:=X3.cell
 go_wp2_with fail
 refine (wSign g.wr HS.out).mono ?_;rintro ee w5 ⟨rfl,B⟩;clear xX3;replace X3:=X3.below B;replace XR:=XR.below B;replace X5:=X5.below B;replace X6:=X6.below B;replace g:=g.below B;replace p21:=p21.below B;replace p23:=p23.below B;replace HB:=Hqb HB B;clear B;clear g;have e1:=E1.out;have xXR:=XR.cell;have zXR0:=XR.frozen
 have xX5:=X5.cell;have xX6:=X6.cell;go_wp2;clear xXR zXR0 xX5 xX6;have SX:=StN.mk4 XR (.bool s23) (.slice A23 n23 c23) (.bool s21) (.slice A21 n21 c21);replace p21:=p21.stn SX (by simp [no32]);replace p23:=p23.stn SX (by simp [no32]);exact bodyPost_ret (v:= .agg #[.bool s23,.slice A23 n23 c23,.bool s21,.slice A21 n21 c21]) (by simp [results,Tryz.results108,go_sem,SX.box.cell]) rfl ⟨s23,A23,n23,c23,s21,A21,n21,c21,rfl,p23,p21,k23,k21,(SX.below HB.out (by omega))⟩
theorem ttimes_pos{w:World}{A:Option Addr}{n c:Nat}{s:Bool}{x:Int}{B:Option Addr}{m d:Nat}{t:Bool}{y:Int}{C:Option Addr}{l f:Nat}{q:Bool}{z:Int}{L Z:Nat}{u v:Int}(h:Wn w s A n c x)(k:Wn w t B m d y)(g:Wn w q C l f z)(hn:n≤L)(hm:m≤L)(hl:l≤L)(hL:L≤1000000)(hK:1+2*L≤Z)(hz:¬z < 0)(hu:z*x=u)(hv:z*y=v):Calls Tryz.prog 108 #[.agg #[.bool s,.slice A n c,.bool t,.slice B m d],.agg #[.bool q,.slice C l f]] w (PSp w Z u v):=by
 obtain⟨σ,hσ⟩:∃σ,cmpI z 0=σ:=⟨_,rfl⟩;have e1:=(cmp_lt12 hσ).1;rw [decide_eq_false hz]at e1;have hu2:=prd_two.trans hu;have hv2:=prd_two.trans hv;have HU:=Lib.hid hu2;have HV:=Lib.hid hv2;have HS:=Lib.hid hσ;have E1:=Lib.hid e1;clear hu2 hv2 hσ e1;clear hu hv hz
 go_enter Tryz.func108,Tryz.ntmps108
 go_upto_region 1 with (fail)
 generalize hW1:((w.alloc _).alloc _).alloc _=w1 at *;obtain⟨X2,X3,XR,HB⟩:=Bo.en3 hW1;replace h:=h.below HB.out;replace k:=k.below HB.out;replace g:=g.below HB.out;clear hW1;have ltX2:=X2.lt;have ltX3:=X3.lt;have ltXR:=XR.lt;have hszp:=HB.out.size
 refine Jo.region_twin (T:=[0,1,2,3,4,5,6,7,8,9,10,11]) (ds:=[some 7,some 8,some 9,some 10,some 11,some 12,some 13,some 14,some 15,some 16,some 5,some 6,none,none]) (ls:=[[],[],[1],[0,2],[3],[],[],[6],[5,7],[8],[],[],[],[]]) (k:=14) (L:=[(some 7,0),(some 8,1),(some 9,2),(some 10,3),(some 11,4),(some 12,5),(some 13,6),(some 14,7),(some 15,8),(some 16,9),(some 5,10),(some 6,11)]) (fuel:=2) (w1:=w1) (p:=10) (q:=11) (old:= #[.bool false,.slice none 0 0]) (R:=27)
  (F:=[Jo.Fact.eq (.agg #[.bool q,.slice C l f]),Jo.qp w.heap.size 0,Jo.Fact.eq (.agg #[.bool s,.slice A n c]),Jo.Fact.wl L 2 [z,x],Jo.Fact.wn (u) (Z),Jo.Fact.eq (.agg #[.bool q,.slice C l f]),Jo.qp w.heap.size 2,Jo.Fact.eq (.agg #[.bool t,.slice B m d]),Jo.Fact.wl L 2 [z,y],Jo.Fact.wn (v) (Z),Jo.Fact.any,Jo.Fact.any,Jo.Fact.any,Jo.Fact.any])
  (by decide) (by decide) (by kernel_rfl) (by kernel_rfl) (by decide) rfl rfl ?_ (fun vs w2 hJ hd hpq=>?_)
 ·refine Jo.tcons (i:=0) (o:=⟨some 7,_,_,_,_,_⟩) (di:=some 7) (L:=[]) (f:=Jo.Fact.eq (.agg #[.bool q,.slice C l f])) (by decide) (by decide) rfl rfl rfl rfl (fun vs wj hJ hd K hK=>?_) ?_
  ·clear hd;simp only [Jo.putl,Jo.ze,Act.put,Jo.za,Jo.zb,Jo.zc]at hK⊢
   have xX30:World.cell? wj ⟨w.heap.size+1,0,none⟩=some (.bool q):=(X3.below hJ).cell 0
   have xX31:World.cell? wj ⟨w.heap.size+1,1,none⟩=some (.slice C l f):=(X3.below hJ).cell 1
   go_simp;exact hK.out _ _ rfl (br _ _)
  refine Jo.tcons (i:=1) (o:=⟨some 8,_,_,_,_,_⟩) (di:=some 8) (L:=[]) (f:=Jo.qp w.heap.size 0) (by decide) (by decide) rfl rfl rfl rfl (fun vs wj hJ hd K hK=>?_) ?_
  ·clear hd;simp only [Jo.putl,Jo.ze,Act.put,Jo.za,Jo.zb,Jo.zc]at hK⊢;go_simp;exact hK.out _ _ rfl (br _ _)
  refine Jo.tcons (i:=2) (o:=⟨some 9,_,_,_,_,_⟩) (di:=some 9) (L:=[(some 8,1)]) (f:=Jo.Fact.eq (.agg #[.bool s,.slice A n c])) (by decide) (by decide) rfl rfl rfl rfl (fun vs wj hJ hd K hK=>?_) ?_
  ·have d1:(Jo.qp w.heap.size 0).P (vs 1) wj:=hd 1 (by decide)
   clear hd;simp only [Jo.putl,Jo.zd,Jo.ze,Act.put,Jo.za,Jo.zb,Jo.zc]at hK⊢;generalize vs 1=u1 at hK d1⊢
   replace d1:u1=_:=d1
   subst d1
   have xX20:World.cell? wj ⟨w.heap.size,0,none⟩=some (.bool s):=(X2.below hJ).cell 0
   have xX21:World.cell? wj ⟨w.heap.size,1,none⟩=some (.slice A n c):=(X2.below hJ).cell 1
   go_simp;exact hK.out _ _ rfl (br _ _)
  refine Jo.tcons (i:=3) (o:=⟨some 10,_,_,_,_,_⟩) (di:=some 10) (L:=[(some 7,0),(some 9,2)]) (f:=Jo.Fact.wl L 2 [z,x]) (by decide) (by decide) rfl rfl rfl rfl (fun vs wj hJ hd K hK=>?_) ?_
  ·have d0:(Jo.Fact.eq (.agg #[.bool q,.slice C l f])).P (vs 0) wj:=hd 0 (by decide)
   have d2:(Jo.Fact.eq (.agg #[.bool s,.slice A n c])).P (vs 2) wj:=hd 2 (by decide)
   simp only [Jo.putl,Jo.zd,Jo.ze,Act.put,Jo.za,Jo.zb,Jo.zc]at hK⊢;clear hd;generalize vs 0=u0 at hK d0⊢;generalize vs 2=u2 at hK d2⊢
   replace d0:u0=_:=d0
   subst d0
   replace d2:u2=_:=d2
   subst d2;go_simp;exact hK.out _ _ ⟨_,_,rfl,Wl.lit2 rfl (g.below hJ).wr (h.below hJ).wr (by omega) (by omega)⟩ (bel1 _ _)
  refine Jo.tcons (i:=4) (o:=⟨some 11,_,_,_,_,_⟩) (di:=some 11) (L:=[(some 10,3)]) (f:=Jo.Fact.wn (u) (Z)) (by decide) (by decide) rfl rfl rfl rfl (fun vs wj hJ hd K hK=>?_) ?_
  ·have d3:(Jo.Fact.wl L 2 [z,x]).P (vs 3) wj:=hd 3 (by decide)
   clear hd;simp only [Jo.putl,Jo.zd,Jo.ze,Act.put,Jo.za,Jo.zb,Jo.zc]at hK⊢;generalize vs 3=u3 at hK d3⊢;obtain⟨A20,c20,rfl,h20⟩:=d3;go_simp;refine (wMul h20 (by omega) HU.out).mono ?_;rintro ee wk ⟨s21,A21,n21,c21,rfl,p21,k21,B⟩;exact hK.out _ _ ⟨s21,A21,n21,c21,rfl,p21,by omega⟩ B
  refine Jo.tcons (i:=5) (o:=⟨some 12,_,_,_,_,_⟩) (di:=some 12) (L:=[]) (f:=Jo.Fact.eq (.agg #[.bool q,.slice C l f])) (by decide) (by decide) rfl rfl rfl rfl (fun vs wj hJ hd K hK=>?_) ?_
  ·clear hd;simp only [Jo.putl,Jo.ze,Act.put,Jo.za,Jo.zb,Jo.zc]at hK⊢
   have xX30:World.cell? wj ⟨w.heap.size+1,0,none⟩=some (.bool q):=(X3.below hJ).cell 0
   have xX31:World.cell? wj ⟨w.heap.size+1,1,none⟩=some (.slice C l f):=(X3.below hJ).cell 1
   go_simp;exact hK.out _ _ rfl (br _ _)
  refine Jo.tcons (i:=6) (o:=⟨some 13,_,_,_,_,_⟩) (di:=some 13) (L:=[]) (f:=Jo.qp w.heap.size 2) (by decide) (by decide) rfl rfl rfl rfl (fun vs wj hJ hd K hK=>?_) ?_
  ·clear hd;simp only [Jo.putl,Jo.ze,Act.put,Jo.za,Jo.zb,Jo.zc]at hK⊢;go_simp;exact hK.out _ _ rfl (br _ _)
  refine Jo.tcons (i:=7) (o:=⟨some 14,_,_,_,_,_⟩) (di:=some 14) (L:=[(some 13,6)]) (f:=Jo.Fact.eq (.agg #[.bool t,.slice B m d])) (by decide) (by decide) rfl rfl rfl rfl (fun vs wj hJ hd K hK=>?_) ?_
  ·have d6:(Jo.qp w.heap.size 2).P (vs 6) wj:=hd 6 (by decide)
   clear hd;simp only [Jo.putl,Jo.zd,Jo.ze,Act.put,Jo.za,Jo.zb,Jo.zc]at hK⊢;generalize vs 6=u6 at hK d6⊢
   replace d6:u6=_:=d6
   subst d6
   have xX22:World.cell? wj ⟨w.heap.size,2,none⟩=some (.bool t):=(X2.below hJ).cell 2
   have xX23:World.cell? wj ⟨w.heap.size,3,none⟩=some (.slice B m d):=(X2.below hJ).cell 3
   go_simp;exact hK.out _ _ rfl (br _ _)
  refine Jo.tcons (i:=8) (o:=⟨some 15,_,_,_,_,_⟩) (di:=some 15) (L:=[(some 12,5),(some 14,7)]) (f:=Jo.Fact.wl L 2 [z,y]) (by decide) (by decide) rfl rfl rfl rfl (fun vs wj hJ hd K hK=>?_) ?_
  ·have d5:(Jo.Fact.eq (.agg #[.bool q,.slice C l f])).P (vs 5) wj:=hd 5 (by decide)
   have d7:(Jo.Fact.eq (.agg #[.bool t,.slice B m d])).P (vs 7) wj:=hd 7 (by decide)
   simp only [Jo.putl,Jo.zd,Jo.ze,Act.put,Jo.za,Jo.zb,Jo.zc]at hK⊢;clear hd;generalize vs 5=u5 at hK d5⊢;generalize vs 7=u7 at hK d7⊢
   replace d5:u5=_:=d5
   subst d5
   replace d7:u7=_:=d7
   subst d7;go_simp;exact hK.out _ _ ⟨_,_,rfl,Wl.lit2 rfl (g.below hJ).wr (k.below hJ).wr (by omega) (by omega)⟩ (bel1 _ _)
  refine Jo.tcons (i:=9) (o:=⟨some 16,_,_,_,_,_⟩) (di:=some 16) (L:=[(some 15,8)]) (f:=Jo.Fact.wn (v) (Z)) (by decide) (by decide) rfl rfl rfl rfl (fun vs wj hJ hd K hK=>?_) ?_
  ·have d8:(Jo.Fact.wl L 2 [z,y]).P (vs 8) wj:=hd 8 (by decide)
   clear hd;simp only [Jo.putl,Jo.zd,Jo.ze,Act.put,Jo.za,Jo.zb,Jo.zc]at hK⊢;generalize vs 8=u8 at hK d8⊢;obtain⟨A22,c22,rfl,h22⟩:=d8;go_simp;refine (wMul h22 (by omega) HV.out).mono ?_;rintro ee wk ⟨s23,A23,n23,c23,rfl,p23,k23,B⟩;exact hK.out _ _ ⟨s23,A23,n23,c23,rfl,p23,by omega⟩ B
  refine Jo.tnew (i:=10) (o:=⟨some 5,_,_,_,_,_⟩) (di:=some 5) (L:=[]) (by decide) (by decide) rfl rfl rfl rfl (fun vs wj K hK=>?_) ?_
  ·simp only [Jo.putl,Jo.ze,Act.put,Jo.za,Jo.zb,Jo.zc]at hK⊢;go_simp;exact hK.out
  refine Jo.tnew (i:=11) (o:=⟨some 6,_,_,_,_,_⟩) (di:=some 6) (L:=[]) (by decide) (by decide) rfl rfl rfl rfl (fun vs wj K hK=>?_) ?_
  ·simp only [Jo.putl,Jo.ze,Act.put,Jo.za,Jo.zb,Jo.zc]at hK⊢;go_simp;exact hK.out
  exact Jo.StepsI.nil
 have d0:(Jo.Fact.eq (.agg #[.bool q,.slice C l f])).P (vs 0) w2:=hd 0 (by decide)
 have d1:(Jo.qp w.heap.size 0).P (vs 1) w2:=hd 1 (by decide)
 have d2:(Jo.Fact.eq (.agg #[.bool s,.slice A n c])).P (vs 2) w2:=hd 2 (by decide)
 have d3:(Jo.Fact.wl L 2 [z,x]).P (vs 3) w2:=hd 3 (by decide)
 have d4:(Jo.Fact.wn (u) (Z)).P (vs 4) w2:=hd 4 (by decide)
 have d5:(Jo.Fact.eq (.agg #[.bool q,.slice C l f])).P (vs 5) w2:=hd 5 (by decide)
 have d6:(Jo.qp w.heap.size 2).P (vs 6) w2:=hd 6 (by decide)
 have d7:(Jo.Fact.eq (.agg #[.bool t,.slice B m d])).P (vs 7) w2:=hd 7 (by decide)
 have d8:(Jo.Fact.wl L 2 [z,y]).P (vs 8) w2:=hd 8 (by decide)
 have d9:(Jo.Fact.wn (v) (Z)).P (vs 9) w2:=hd 9 (by decide)
 clear hd;obtain⟨g5,g6,ep,eq_,hg5,hg6,hneg5,X5,X6⟩:=hpq;simp only [Jo.putl,Jo.zd,Jo.ze,Act.put,Jo.za,Jo.zb,Jo.zc];simp only [ep,eq_];clear ep eq_;generalize vs 0=u0 at d0⊢;generalize vs 1=u1 at d1⊢;generalize vs 2=u2 at d2⊢;generalize vs 3=u3 at d3⊢;generalize vs 4=u4 at d4⊢;generalize vs 5=u5 at d5⊢;generalize vs 6=u6 at d6⊢;generalize vs 7=u7 at d7⊢
 generalize vs 8=u8 at d8⊢;generalize vs 9=u9 at d9⊢;clear vs
 replace d0:u0=_:=d0
 subst d0
 replace d1:u1=_:=d1
 subst d1
 replace d2:u2=_:=d2
 subst d2;obtain⟨_,_,rfl,_⟩:=d3;obtain⟨s21,A21,n21,c21,rfl,p21,k21⟩:=d4
 replace d5:u5=_:=d5
 subst d5
 replace d6:u6=_:=d6
 subst d6
 replace d7:u7=_:=d7
 subst d7;obtain⟨_,_,rfl,_⟩:=d8;obtain⟨s23,A23,n23,c23,rfl,p23,k23⟩:=d9;replace X2:=X2.below hJ;replace X3:=X3.below hJ;replace XR:=XR.below hJ;replace h:=h.below hJ;replace k:=k.below hJ;replace g:=g.below hJ;replace HB:=Hqb HB hJ;clear h k;clear X2;have xX5:=X5.cell;have zX50:=X5.frozen
 refine Jo.jnext (i:=12) (o:=⟨none,_,_,_,_,_⟩) (by kernel_rfl) rfl (fun K hK=>?_)
 go_simp;refine hK.out _ _ ?_;clear hK K xX5 zX50;generalize hS:(w2.setCell _ _).setCell _ _=w3 at *;have SX:=StN.of2 X5 hS;replace X3:=X3.stn SX (by omega);replace XR:=XR.stn SX (by omega);replace X6:=X6.stn SX (by omega);replace g:=g.stn SX (by simp [no32]);replace p21:=p21.stn SX (by simp [no32]);replace p23:=p23.stn SX (by simp [no32]);replace HB:=Hqs HB SX (by omega)
 replace X5:=SX.box;clear SX hS;have xX6:=X6.cell;have zX60:=X6.frozen
 refine Jo.jnext (i:=13) (o:=⟨none,_,_,_,_,_⟩) (by kernel_rfl) rfl (fun K hK=>?_)
 go_simp;refine hK.out _ _ ?_;clear hK K xX6 zX60;generalize hS:(w3.setCell _ _).setCell _ _=w4 at *;have SX:=StN.of2 X6 hS;replace X3:=X3.stn SX (by omega);replace XR:=XR.stn SX (by omega);replace X5:=X5.stn SX (by omega);replace g:=g.stn SX (by simp [no32]);replace p21:=p21.stn SX (by simp [no32]);replace p23:=p23.stn SX (by simp [no32]);replace HB:=Hqs HB SX (by omega)
 replace X6:=SX.box;clear SX hS;refine Jo.jdone (by kernel_rfl) ?_
 go_upto_region 2 with (fail)
 have xX3:=X3.cell
 go_wp2_with fail
 refine (wSign g.wr HS.out).mono ?_;rintro ee w5 ⟨rfl,B⟩;clear xX3;replace X3:=X3.below B;replace XR:=XR.below B;replace X5:=X5.below B;replace X6:=X6.below B;replace g:=g.below B;replace p21:=p21.below B;replace p23:=p23.below B;replace HB:=Hqb HB B;clear B;clear g;have e1:=E1.out;have xXR:=XR.cell;have zXR0:=XR.frozen
 have xX5:=X5.cell;have xX6:=X6.cell;go_wp2;clear xXR zXR0 xX5 xX6;have SX:=StN.mk4 XR (.bool s21) (.slice A21 n21 c21) (.bool s23) (.slice A23 n23 c23);replace p21:=p21.stn SX (by simp [no32]);replace p23:=p23.stn SX (by simp [no32]);exact bodyPost_ret (v:= .agg #[.bool s21,.slice A21 n21 c21,.bool s23,.slice A23 n23 c23]) (by simp [results,Tryz.results108,go_sem,SX.box.cell]) rfl ⟨s21,A21,n21,c21,s23,A23,n23,c23,rfl,p21,p23,k21,k23,(SX.below HB.out (by omega))⟩
theorem tTimes{w:World}{A:Option Addr}{n c:Nat}{s:Bool}{x:Int}{B:Option Addr}{m d:Nat}{t:Bool}{y:Int}{C:Option Addr}{l f:Nat}{q:Bool}{z:Int}{L Z:Nat}{u v:Int}(h:Wn w s A n c x)(k:Wn w t B m d y)(g:Wn w q C l f z)(hn:n≤L)(hm:m≤L)(hl:l≤L)(hL:L≤1000000)(hK:1+2*L≤Z)(hu:(if z < 0 then z*y else z*x)=u)(hv:(if z < 0 then z*x else z*y)=v):Calls Tryz.prog 108 #[.agg #[.bool s,.slice A n c,.bool t,.slice B m d],.agg #[.bool q,.slice C l f]] w (PSp w Z u v):=by
 by_cases hz:z < 0
 ·rw [if_pos hz]at hu hv;exact ttimes_neg h k g hn hm hl hL hK hz hv hu
 ·rw [if_neg hz]at hu hv;exact ttimes_pos h k g hn hm hl hL hK hz hu hv
theorem tMeets{w:World}{A:Option Addr}{n c:Nat}{s:Bool}{x:Int}{B:Option Addr}{m d:Nat}{t:Bool}{y:Int}{A':Option Addr}{n' c':Nat}{s':Bool}{x':Int}{B':Option Addr}{m' d':Nat}{t':Bool}{y':Int}{p q:Bool}(h:Wn w s A n c x)(k:Wn w t B m d y)(h':Wn w s' A' n' c' x')(k':Wn w t' B' m' d' y')(hp:decide (x≤y')=p)(hq:decide (x'≤y)=q):Calls Tryz.prog 161 #[.agg #[.bool s,.slice A n c,.bool t,.slice B m d],.agg #[.bool s',.slice A' n' c',.bool t',.slice B' m' d']] w (PB w (p && q)):=by
 obtain⟨σ,hσ⟩:∃σ,cmpI x y'=σ:=⟨_,rfl⟩;obtain⟨τ,hτ⟩:∃σ,cmpI x' y=σ:=⟨_,rfl⟩;have e1:=cmp_le12 hσ;have e2:=cmp_le12 hτ;rw [hp]at e1;rw [hq]at e2;have H1:=Lib.hid hσ;have H2:=Lib.hid hτ;clear hσ hτ;clear hp hq
 go_enter Tryz.func161,Tryz.ntmps161
 go_upto_region 1 with (fail)
 have X2:=(Bo.newAt w (g:=w.heap.size) (by simp) #[.bool s,.slice A n c,.bool t,.slice B m d] 59).below (bel1 _ (.cells #[.bool s',.slice A' n' c',.bool t',.slice B' m' d'] 59));have X3:=(Bo.newAt (w.alloc (.cells #[.bool s,.slice A n c,.bool t,.slice B m d] 59)) (g:=w.heap.size+1) (by simp) #[.bool s',.slice A' n' c',.bool t',.slice B' m' d'] 59);have HB:=Lib.hid (bel2 w (.cells #[.bool s,.slice A n c,.bool t,.slice B m d] 59) (.cells #[.bool s',.slice A' n' c',.bool t',.slice B' m' d'] 59))
 replace h:=h.below HB.out;replace k:=k.below HB.out
 replace h':=h'.below HB.out
 replace k':=k'.below HB.out
 generalize hW1:((w.alloc (.cells #[.bool s,.slice A n c,.bool t,.slice B m d] 59)).alloc (.cells #[.bool s',.slice A' n' c',.bool t',.slice B' m' d'] 59))=w1 at *;clear hW1;have xX2:=X2.cell;have xX3:=X3.cell
 go_wp2_with fail
 refine (wCmp h.wr k'.wr H1.out).mono ?_;rintro ee w2 ⟨rfl,B⟩;clear xX2 xX3;replace X2:=X2.below B;replace X3:=X3.below B;replace h:=h.below B;replace k:=k.below B
 replace h':=h'.below B
 replace k':=k'.below B
 replace HB:=Hqb HB B;clear B
 cases p
 ·clear e2;go_wp2
  go_ret
  exact⟨rfl,HB.out⟩
 ·have xX2:=X2.cell;have xX3:=X3.cell
  go_wp2_with fail
  refine (wCmp h'.wr k.wr H2.out).mono ?_;rintro ee w3 ⟨rfl,B⟩;clear xX2 xX3;replace X2:=X2.below B;replace X3:=X3.below B;replace h:=h.below B;replace k:=k.below B
  replace h':=h'.below B
  replace k':=k'.below B
  replace HB:=Hqb HB B;clear B;go_wp2
  go_ret
  exact⟨rfl,HB.out⟩
theorem bnd_hi{a:Int}(h:SC < a):bndI a (-SC) SC=SC:=by
 unfold bndI
 have:(0:Int) < SC:=by decide
 rw [if_neg (by omega),if_pos h]
theorem bnd_lo{a:Int}(h:a < -SC):bndI a (-SC) SC= -SC:=by
 unfold bndI
 rw [if_pos h]
theorem bnd_mid{a:Int}(h1:¬SC < a)(h2:¬a < -SC):bndI a (-SC) SC=a:=by
 unfold bndI
 rw [if_neg h2,if_neg h1]
theorem tBounded{w:World}{A:Option Addr}{n c:Nat}{s:Bool}{x:Int}{r:Int}(h:Wn w s A n c x)(hr:bndI x (-SC) SC=r):Calls Tryz.prog 190 #[.agg #[.bool s,.slice A n c]] w (W1 w 7 r):=by
 obtain⟨σ,hσ⟩:∃σ,cmpI x SC=σ:=⟨_,rfl⟩;obtain⟨τ,hτ⟩:∃σ,cmpI x (-SC)=σ:=⟨_,rfl⟩;have e1:=(cmp_lt12 hσ).2;have e2:=(cmp_lt12 hτ).1;have hf:=bnd_fits x;rw [hr]at hf;have H1:=Lib.hid hσ;have H2:=Lib.hid hτ;have HF:=Lib.hid hf;clear hσ hτ hf
 go_enter Tryz.func190,Tryz.ntmps190
 go_upto_region 1 with (fail)
 generalize hW1:(w.alloc _).alloc _=w1 at *;obtain⟨X1,XR,HB⟩:=Bo.en2 hW1;replace h:=h.below HB.out;clear hW1
 go_wp2_with fail
 refine (cScale).mono ?_;rintro ee w2 ⟨s9,A9,n9,c9,rfl,p9,k9,B⟩;replace X1:=X1.below B;replace XR:=XR.below B;replace h:=h.below B;replace HB:=Hqb HB B;clear B
 go_upto_region 2 with (fail)
 have lX3:=Nat.le_refl (World.heap w2).size;have nX3X1:=X1.lt;have nX3XR:=XR.lt;generalize hWn:w2.alloc _=w3 at *;obtain⟨X3,BW⟩:=Bo.nw hWn;clear hWn;replace X1:=X1.below BW;replace XR:=XR.below BW;replace h:=h.below BW;replace p9:=p9.below BW;replace HB:=Hqb HB BW;clear BW;clear lX3;have xX1:=X1.cell;have xX3:=X3.cell
 go_wp2_with fail
 refine (wCmp h.wr p9.wr H1.out).mono ?_;rintro ee w4 ⟨rfl,B⟩;clear xX1 xX3;replace X1:=X1.below B;replace XR:=XR.below B;replace X3:=X3.below B;replace h:=h.below B;replace p9:=p9.below B;replace HB:=Hqb HB B;clear B
 by_cases c1:SC < x
 ·rw [decide_eq_true c1]at e1
  obtain rfl:SC=r:=(bnd_hi (by omega)).symm.trans hr
  clear h e2 hr;have xXR:=XR.cell;have zXR0:=XR.frozen;have xX3:=X3.cell;go_wp2;clear xXR zXR0 xX3;have SX:=StN.mk2 XR (.bool s9) (.slice A9 n9 c9);replace p9:=p9.stn SX (by simp [no32]);exact bodyPost_ret (v:= .agg #[.bool s9,.slice A9 n9 c9]) (by simp [results,Tryz.results190,go_sem,SX.box.cell]) rfl ⟨_,_,_,_,rfl,p9,p9.fits HF.out,(SX.below HB.out (by omega))⟩
 ·rw [decide_eq_false c1]at e1;have xX3:=X3.cell
  go_wp2_with fail
  refine (wNeg p9.wr rfl).mono ?_;rintro ee w5 ⟨s4,A4,n4,c4,rfl,p4,k4,B⟩;clear xX3;replace X1:=X1.below B;replace XR:=XR.below B;replace X3:=X3.below B;replace h:=h.below B;replace p9:=p9.below B;replace HB:=Hqb HB B;clear B;clear p9
  go_upto_region 5 with (fail)
  have lX4:=Nat.le_refl (World.heap w5).size;have nX4X1:=X1.lt;have nX4XR:=XR.lt;have nX4X3:=X3.lt;generalize hWn:w5.alloc _=w6 at *;obtain⟨X4,BW⟩:=Bo.nw hWn;clear hWn;replace X1:=X1.below BW;replace XR:=XR.below BW;replace X3:=X3.below BW;replace h:=h.below BW;replace p4:=p4.below BW;replace HB:=Hqb HB BW;clear BW;clear lX4 e1;have xX1:=X1.cell
  have xX4:=X4.cell
  go_wp2_with fail
  refine (wCmp h.wr p4.wr H2.out).mono ?_;rintro ee w7 ⟨rfl,B⟩;clear xX1 xX4;replace X1:=X1.below B;replace XR:=XR.below B;replace X3:=X3.below B;replace X4:=X4.below B;replace h:=h.below B;replace p4:=p4.below B;replace HB:=Hqb HB B;clear B
  by_cases c2:x < -SC
  ·rw [decide_eq_true c2]at e2
   obtain rfl: -SC=r:=(bnd_lo (by omega)).symm.trans hr
   clear h hr;have xXR:=XR.cell;have zXR0:=XR.frozen;have xX4:=X4.cell;go_wp2;clear xXR zXR0 xX4;have SX:=StN.mk2 XR (.bool s4) (.slice A4 n4 c4);replace p4:=p4.stn SX (by simp [no32]);exact bodyPost_ret (v:= .agg #[.bool s4,.slice A4 n4 c4]) (by simp [results,Tryz.results190,go_sem,SX.box.cell]) rfl ⟨_,_,_,_,rfl,p4,p4.fits HF.out,(SX.below HB.out (by omega))⟩
  ·rw [decide_eq_false c2]at e2
   obtain rfl:x=r:=(bnd_mid (by omega) (by omega)).symm.trans hr
   clear p4 hr;have xXR:=XR.cell;have zXR0:=XR.frozen;have xX1:=X1.cell;go_wp2;clear xXR zXR0 xX1;have SX:=StN.mk2 XR (.bool s) (.slice A n c);replace h:=h.stn SX (by simp [no32]);exact bodyPost_ret (v:= .agg #[.bool s,.slice A n c]) (by simp [results,Tryz.results190,go_sem,SX.box.cell]) rfl ⟨_,_,_,_,rfl,h,h.fits HF.out,(SX.below HB.out (by omega))⟩
theorem tCut{w:World}{A:Option Addr}{n c:Nat}{s:Bool}{x:Int}{B:Option Addr}{m d:Nat}{t:Bool}{y:Int}{u v:Int}(h:Wn w s A n c x)(k:Wn w t B m d y)(hu:bndI x (-SC) SC=u)(hv:bndI y (-SC) SC=v):Calls Tryz.prog 149 #[.agg #[.bool s,.slice A n c,.bool t,.slice B m d]] w (PSp w 7 u v):=by
 have HU:=Lib.hid hu;have HV:=Lib.hid hv;clear hu hv
 go_enter Tryz.func149,Tryz.ntmps149
 go_upto_region 1 with (fail)
 generalize hW1:(w.alloc _).alloc _=w1 at *;obtain⟨X1,XR,HB⟩:=Bo.en2 hW1;replace h:=h.below HB.out;replace k:=k.below HB.out;clear hW1;have ltX1:=X1.lt;have ltXR:=XR.lt;refine Jo.rk [0,1,2,3,4,5,6] [some 3,some 4,some 5,some 6,some 7,some 8,some 9,none] [[],[0],[1],[],[3],[4],[2,5],[]] 8 1 [Jo.qp w.heap.size 0,Jo.Fact.eq (.agg #[.bool s,.slice A n c]),Jo.Fact.wn (u) (7),Jo.qp w.heap.size 2,Jo.Fact.eq (.agg #[.bool t,.slice B m d]),Jo.Fact.wn (v) (7),Jo.Fact.sp (u) (v) (7),Jo.Fact.any] (by kernel_rfl) (by kernel_rfl) (by decide) rfl ?_ ?_
 ·iterate 2 (refine Jo.jm rfl ?_ ?_;rotate_left)
  refine Jo.jm rfl ?_ ?_
  ·rintro wj hJ _ rfl K hK;simp only [Jo.z]at hK⊢;go_simp;refine (tBounded (h.below hJ) HU.out).mono ?_;rintro ee wk ⟨s20,A20,n20,c20,rfl,p20,k20,B⟩;exact hK.out _ _ ⟨s20,A20,n20,c20,rfl,p20,k20⟩ B
  refine Jo.jm rfl ?_ ?_;rotate_left
  refine Jo.jm rfl ?_ ?_
  ·rintro wj hJ _ rfl K hK;simp only [Jo.z]at hK⊢;have xX12:=(X1.below hJ).a 2 (.bool t) rfl;have xX13:=(X1.below hJ).a 3 (.slice B m d) rfl;go_simp;exact hK.out _ _ rfl (br _ _)
  refine Jo.jm rfl ?_ ?_
  ·rintro wj hJ _ rfl K hK;simp only [Jo.z]at hK⊢;go_simp;refine (tBounded (k.below hJ) HV.out).mono ?_;rintro ee wk ⟨s21,A21,n21,c21,rfl,p21,k21,B⟩;exact hK.out _ _ ⟨s21,A21,n21,c21,rfl,p21,k21⟩ B
  refine Jo.jm rfl ?_ ?_
  ·rintro wj hJ _ ⟨s20,A20,n20,c20,rfl,p20,k20⟩ _ ⟨s21,A21,n21,c21,rfl,p21,k21⟩ K hK;simp only [Jo.z]at hK⊢;go_simp;exact hK.out _ _ ⟨_,_,_,_,_,_,_,_,rfl,p20,p21,by omega,by omega⟩ (br _ _)
  exact Jo.Steps.nil
  all_goals (rintro wj hJ;(repeat rintro _ rfl);intro K hK;simp only [Jo.z]at hK⊢;have xX1:=(X1.below hJ).cell;go_simp;exact hK.out _ _ rfl (br _ _))
 rintro w2 hJ _ _ _ rfl _ ⟨s20,A20,n20,c20,rfl,p20,k20⟩ _ _ _ rfl _ ⟨s21,A21,n21,c21,rfl,p21,k21⟩ _ ⟨s22,A22,n22,c22,s23,A23,n23,c23,rfl,p22,p23,k22,k23⟩ -;simp only [Jo.z];replace X1:=X1.below hJ;replace XR:=XR.below hJ;replace h:=h.below hJ;replace k:=k.below hJ;replace HB:=Hqb HB hJ;clear h k p20 p21;have xXR:=XR.cell
 have zXR0:=XR.frozen
 refine Jo.jnext (i:=7) (o:=⟨none,_,_,_,_,_⟩) (by kernel_rfl) rfl (fun K hK=>?_)
 go_simp;refine hK.out _ _ ?_;clear hK K xXR zXR0;have SX:=StN.mk4 XR (.bool s22) (.slice A22 n22 c22) (.bool s23) (.slice A23 n23 c23);replace p22:=p22.stn SX (by simp [no32]);replace p23:=p23.stn SX (by simp [no32]);refine Jo.jdone (by kernel_rfl) ?_;go_wp2;exact bodyPost_ret (v:= .agg #[.bool s22,.slice A22 n22 c22,.bool s23,.slice A23 n23 c23]) (by simp [results,Tryz.results149,go_sem,SX.box.cell]) rfl ⟨s22,A22,n22,c22,s23,A23,n23,c23,rfl,p22,p23,k22,k23,(SX.below HB.out (by omega))⟩
end Go.Proofs.YtaadmpiphnfllaaGreatDoor
