/-
 Contracts that the proof rests on.
-/
import Derived.Test.YtaadmpiphnfllaaGreatDoorYAbl
namespace Go.Proofs.YtaadmpiphnfllaaGreatDoor
set_option maxHeartbeats 16000000
open Go.RowKit
set_option linter.unusedVariables false
set_option linter.unusedSimpArgs false
set_option maxRecDepth 100000
def odd1 (cos:Bool):Int:=if cos then 0 else 1
theorem crZ_eq (cos:Bool)(i:Int):2*i+odd1 cos=crZ cos i:=by
 unfold crZ odd1
 cases cos
 ·rfl
 ·show 2*i+0=2*i
  omega
theorem tCrest{w:World}{fid:FuncId}{o:Int}{s1 s2:Bool}{A1 A2:Option Addr}{n1 c1 n2 c2:Nat}{j z u v:Int}(p1:Wn w s1 A1 n1 c1 PLo)(p2:Wn w s2 A2 n2 c2 PHi)(k1:n1≤7)(k2:n2≤7)(j1: -4398046511104≤j)(j2:j≤4398046511104)(ho:0≤o∧o≤1)(hz:2*j+o=z)(hu:loZ z=u)(hv:hiZ z=v):Calls Tryz.prog 160 #[.agg #[.func (.func fid) #[] #[],.int .i64 o,.bool s1,.slice A1 n1 c1,.bool s2,.slice A2 n2 c2],.int .i64 j] w (PSp w 15 u v):=by
 have HW1:Hid (IntKind.i64.wrap (2*j)=2*j):=Lib.hid (IntWalk.i64_in _ (by omega))
 have HW2:Hid (IntKind.i64.wrap (2*j+o)=z):=Lib.hid (by rw [←hz];exact IntWalk.i64_in _ (by omega))
 have HW3:Hid (wrap64 (2*j+o)=z):=Lib.hid (by rw [←hz];exact IntWalk.wrap64_in _ (by omega))
 have HZ1:Hid (-9223372036854775808≤z∧z≤9223372036854775807):=Lib.hid ⟨by omega,by omega⟩
 have HU:Hid ((if z < 0 then z*PHi else z*PLo)=u):=Lib.hid hu
 have HV:Hid ((if z < 0 then z*PLo else z*PHi)=v):=Lib.hid hv
 clear hz hu hv j1 j2 ho
 go_enter Tryz.func160,Tryz.ntmps160
 go_upto_region 1 with (fail)
 generalize hW1:(w.alloc _).alloc _=w1 at *;obtain⟨X2,XR,HB⟩:=Bo.en2 hW1;replace p1:=p1.below HB.out;replace p2:=p2.below HB.out;clear hW1;have ltX2:=X2.lt;have ltXR:=XR.lt;refine Jo.rk [0,1,2,3,4,5,6,7,8] [some 5,some 6,some 7,some 8,some 9,some 10,some 11,some 12,some 13,none] [[],[0],[],[2],[],[4],[3,5],[6],[1,7],[]] 10 1 [Jo.qp w.heap.size 2,Jo.Fact.eq (.agg #[.bool s1,.slice A1 n1 c1,.bool s2,.slice A2 n2 c2]),Jo.qi j,Jo.Fact.eq (.int .i64 (2*j)),Jo.qp w.heap.size 1,Jo.qi o,Jo.Fact.eq (.int .i64 (z)),Jo.Fact.wn (z) (2),Jo.Fact.sp (u) (v) (15),Jo.Fact.any] (by kernel_rfl) (by kernel_rfl) (by decide) rfl ?_ ?_
 ·refine Jo.jm rfl ?_ ?_;rotate_left
  refine Jo.jm rfl ?_ ?_
  ·rintro wj hJ _ rfl K hK;simp only [Jo.z]at hK⊢;have xX22:=(X2.below hJ).a 2 (.bool s1) rfl;have xX23:=(X2.below hJ).a 3 (.slice A1 n1 c1) rfl;have xX24:=(X2.below hJ).a 4 (.bool s2) rfl;have xX25:=(X2.below hJ).a 5 (.slice A2 n2 c2) rfl;go_simp;exact hK.out _ _ rfl (br _ _)
  refine Jo.jm rfl ?_ ?_;rotate_left
  refine Jo.jm rfl ?_ ?_
  ·rintro wj hJ _ rfl K hK;simp only [Jo.z]at hK⊢;have hw:=HW1.out;go_simp
   exact hK.out _ _ (by first | rfl | (show Value.int _ _=Value.int _ _;simp_all)) (br _ _)
  refine Jo.jm rfl ?_ ?_;rotate_left
  refine Jo.jm rfl ?_ ?_
  ·rintro wj hJ _ rfl K hK;simp only [Jo.z]at hK⊢;have xX21:=(X2.below hJ).a 1 (.int .i64 o) rfl;go_simp;exact hK.out _ _ rfl (br _ _)
  refine Jo.jm rfl ?_ ?_
  ·rintro wj hJ _ rfl _ rfl K hK;simp only [Jo.z]at hK⊢;have hw:=HW2.out;have hw3:=HW3.out;go_simp
   exact hK.out _ _ (by first | rfl | (show Value.int _ _=Value.int _ _;simp_all)) (br _ _)
  refine Jo.jm rfl ?_ ?_
  ·rintro wj hJ _ rfl K hK;simp only [Jo.z]at hK⊢;go_simp;refine (wFrom z _ HZ1.out.1 HZ1.out.2).mono ?_;rintro ee wk ⟨s20,A20,n20,c20,rfl,p20,k20,B⟩;exact hK.out _ _ ⟨s20,A20,n20,c20,rfl,p20,k20⟩ B
  refine Jo.jm rfl ?_ ?_
  ·rintro wj hJ _ rfl _ ⟨s20,A20,n20,c20,rfl,p20,k20⟩ K hK;simp only [Jo.z]at hK⊢;go_simp;refine (tTimes (L:=7) (Z:=15) (p1.below hJ) (p2.below hJ) p20 k1 k2 (by omega) (by omega) (by omega) HU.out HV.out).mono ?_;rintro ee wk ⟨s21,A21,n21,c21,s22,A22,n22,c22,rfl,p21,p22,k21,k22,B⟩;exact hK.out _ _ ⟨s21,A21,n21,c21,s22,A22,n22,c22,rfl,p21,p22,k21,k22⟩ B
  exact Jo.Steps.nil
  all_goals (rintro wj hJ;(repeat rintro _ rfl);intro K hK;simp only [Jo.z]at hK⊢;go_simp;exact hK.out _ _ rfl (br _ _))
 rintro w2 hJ _ _ _ rfl _ rfl _ rfl _ _ _ rfl _ rfl _ ⟨s20,A20,n20,c20,rfl,p20,k20⟩ _ ⟨s21,A21,n21,c21,s22,A22,n22,c22,rfl,p21,p22,k21,k22⟩ -;simp only [Jo.z];replace X2:=X2.below hJ;replace XR:=XR.below hJ;replace p1:=p1.below hJ;replace p2:=p2.below hJ;replace HB:=Hqb HB hJ;clear p1 p2 p20;have xXR:=XR.cell;have zXR0:=XR.frozen
 refine Jo.jnext (i:=9) (o:=⟨none,_,_,_,_,_⟩) (by kernel_rfl) rfl (fun K hK=>?_)
 go_simp;refine hK.out _ _ ?_;clear hK K xXR zXR0;have SX:=StN.mk4 XR (.bool s21) (.slice A21 n21 c21) (.bool s22) (.slice A22 n22 c22);replace p21:=p21.stn SX (by simp [no32]);replace p22:=p22.stn SX (by simp [no32]);refine Jo.jdone (by kernel_rfl) ?_;go_wp2;exact bodyPost_ret (v:= .agg #[.bool s21,.slice A21 n21 c21,.bool s22,.slice A22 n22 c22]) (by simp [results,Tryz.results160,go_sem,SX.box.cell]) rfl ⟨s21,A21,n21,c21,s22,A22,n22,c22,rfl,p21,p22,k21,k22,(SX.below HB.out (by omega))⟩
theorem tFirst{w:World}{fid:FuncId}{o:Int}{s1 s2:Bool}{A1 A2:Option Addr}{n1 c1 n2 c2:Nat}{s3 s4:Bool}{A3 A4:Option Addr}{n3 c3 n4 c4:Nat}{x y:Int}{j:Int}(p1:Wn w s1 A1 n1 c1 PLo)(p2:Wn w s2 A2 n2 c2 PHi)(k1:n1≤7)(k2:n2≤7)(p3:Wn w s3 A3 n3 c3 x)(p4:Wn w s4 A4 n4 c4 y)(k3:n3≤1000)(k4:n4≤1000)(hj:x.fdiv (2*PLo)=j)(hf:fits j=true):Calls Tryz.prog 159 #[.agg #[.func (.func fid) #[] #[],.int .i64 o,.bool s1,.slice A1 n1 c1,.bool s2,.slice A2 n2 c2,.bool s3,.slice A3 n3 c3,.bool s4,.slice A4 n4 c4]] w (PI w j):=by
 have HP:=Lib.hid (prd_two (z:=2) (x:=PLo));have HJ:=Lib.hid hj;have HFJ:=Lib.hid hf;clear hj hf
 go_enter Tryz.func159,Tryz.ntmps159
 go_upto_region 1 with (fail)
 generalize hW1:w.alloc _=w1 at *;obtain⟨X1,HB⟩:=Bo.en1 hW1;replace p1:=p1.below HB.out;replace p3:=p3.below HB.out;clear hW1;refine Jo.rk [0,1,2,3,4,5,6,7,8,9,10,11,12,13,14,15,16] [some 6,some 7,some 8,some 9,some 10,some 11,some 12,some 13,some 14,some 15,some 16,some 17,some 5,some 18,some 19,some 3,some 4] [[],[0],[1],[],[],[4],[5],[6],[3,7],[8],[2,9],[10],[11],[12],[12],[13],[14]] 17 0 [Jo.qp w.heap.size 6,Jo.qp w.heap.size 6,Jo.Fact.eq (.agg #[.bool s3,.slice A3 n3 c3]),Jo.Fact.wn (2) (2),Jo.qp w.heap.size 0,Jo.qp w.heap.size 2,Jo.qp w.heap.size 2,Jo.Fact.eq (.agg #[.bool s1,.slice A1 n1 c1]),Jo.Fact.wl 7 2 [2,PLo],Jo.Fact.wn (2*PLo) (15),Jo.Fact.wn (j) (1020),Jo.Fact.eq (.tuple #[.int .i64 j,.bool true]),Jo.Fact.eq (.tuple #[.int .i64 j,.bool true]),Jo.qi j,Jo.qb true,Jo.qi j,Jo.qb true] (by kernel_rfl) (by kernel_rfl) (by decide) rfl ?_ ?_
 ·iterate 2 (refine Jo.jm rfl ?_ ?_;rotate_left)
  refine Jo.jm rfl ?_ ?_
  ·rintro wj hJ _ rfl K hK;simp only [Jo.z]at hK⊢;have xX16:=(X1.below hJ).a 6 (.bool s3) rfl;have xX17:=(X1.below hJ).a 7 (.slice A3 n3 c3) rfl;go_simp;exact hK.out _ _ rfl (br _ _)
  refine Jo.jm rfl ?_ ?_
  ·rintro wj hJ K hK;simp only [Jo.z]at hK⊢;go_simp;refine (wFrom 2 _ (by decide) (by decide)).mono ?_;rintro ee wk ⟨s20,A20,n20,c20,rfl,p20,k20,B⟩;exact hK.out _ _ ⟨s20,A20,n20,c20,rfl,p20,k20⟩ B
  iterate 3 (refine Jo.jm rfl ?_ ?_;rotate_left)
  refine Jo.jm rfl ?_ ?_
  ·rintro wj hJ _ rfl K hK;simp only [Jo.z]at hK⊢;have xX12:=(X1.below hJ).a 2 (.bool s1) rfl;have xX13:=(X1.below hJ).a 3 (.slice A1 n1 c1) rfl;go_simp;exact hK.out _ _ rfl (br _ _)
  refine Jo.jm rfl ?_ ?_
  ·rintro wj hJ _ ⟨s20,A20,n20,c20,rfl,p20,k20⟩ _ rfl K hK;simp only [Jo.z]at hK⊢;go_simp;exact hK.out _ _ ⟨_,_,rfl,Wl.lit2 rfl p20.wr (p1.below hJ).wr (by omega) (by omega)⟩ (bel1 _ _)
  refine Jo.jm rfl ?_ ?_
  ·rintro wj hJ _ ⟨A21,c21,rfl,h21⟩ K hK;simp only [Jo.z]at hK⊢;go_simp;refine (wMul h21 (by decide) HP.out).mono ?_;rintro ee wk ⟨s22,A22,n22,c22,rfl,p22,k22,B⟩;exact hK.out _ _ ⟨s22,A22,n22,c22,rfl,p22,k22⟩ B
  refine Jo.jm rfl ?_ ?_
  ·rintro wj hJ _ rfl _ ⟨s22,A22,n22,c22,rfl,p22,k22⟩ K hK;simp only [Jo.z]at hK⊢;go_simp;refine (tDown (p3.below hJ).wr p22.wr (by omega) (by omega) (by decide) HJ.out).mono ?_;rintro ee wk ⟨s23,A23,n23,c23,rfl,p23,k23,B⟩;exact hK.out _ _ ⟨s23,A23,n23,c23,rfl,p23,by omega⟩ B
  refine Jo.jm rfl ?_ ?_
  ·rintro wj hJ _ ⟨s23,A23,n23,c23,rfl,p23,k23⟩ K hK;simp only [Jo.z]at hK⊢;go_simp;refine (wInt (r:=j) p23.wr HFJ.out rfl).mono ?_;rintro ee wk ⟨rfl,B⟩;exact hK.out _ _ rfl B
  refine Jo.jm rfl ?_ ?_
  ·rintro wj hJ _ rfl K hK;simp only [Jo.z]at hK⊢;go_simp
   exact hK.out _ _ (by first | rfl | simp_all) (br _ _)
  refine Jo.jm rfl ?_ ?_
  ·rintro wj hJ _ rfl K hK;simp only [Jo.z]at hK⊢;go_simp
   exact hK.out _ _ (by first | rfl | simp_all) (br _ _)
  refine Jo.jm rfl ?_ ?_
  ·rintro wj hJ _ rfl K hK;simp only [Jo.z]at hK⊢;go_simp
   exact hK.out _ _ (by first | rfl | simp_all) (br _ _)
  refine Jo.jm rfl ?_ ?_
  ·rintro wj hJ _ rfl K hK;simp only [Jo.z]at hK⊢;go_simp
   exact hK.out _ _ (by first | rfl | simp_all) (br _ _)
  refine Jo.jm rfl ?_ ?_
  ·rintro wj hJ _ rfl K hK;simp only [Jo.z]at hK⊢;go_simp
   exact hK.out _ _ (by first | rfl | simp_all) (br _ _)
  exact Jo.Steps.nil
  all_goals (rintro wj hJ;(repeat rintro _ rfl);intro K hK;simp only [Jo.z]at hK⊢;go_simp;exact hK.out _ _ rfl (br _ _))
 rintro w2 hJ _ _ _ _ _ rfl _ ⟨s20,A20,n20,c20,rfl,p20,k20⟩ _ _ _ _ _ _ _ rfl _ ⟨_,_,rfl,_⟩ _ ⟨s22,A22,n22,c22,rfl,p22,k22⟩ _ ⟨s23,A23,n23,c23,rfl,p23,k23⟩ _ rfl _ rfl _ rfl _ rfl _ rfl _ rfl -;simp only [Jo.z];replace X1:=X1.below hJ;replace p1:=p1.below hJ;replace p3:=p3.below hJ;replace HB:=Hqb HB hJ;refine Jo.jdone (by kernel_rfl) ?_;clear p1 p3 p20 p22 p23
 go_wp2
 go_ret
 exact⟨rfl,HB.out⟩
def PCr (w:World)(cos:Bool)(x y j:Int)(e:Ending)(w':World):Prop:=∃k A n c,e= .returned (.slice A n c)∧Ia w' w.heap.size A n c (crL cos x y j k)∧n≤6∧y < loZ (crZ cos (j+(k:Nat)))∧Below w.heap.size w w'
def CrInv (w:World)(cos:Bool)(x y j:Int)(cs:Array Value)(A:Option Addr)(n c k:Nat)(wr:World):Prop:=Ia wr w.heap.size A n c (crL cos x y j k)∧n≤k∧k≤6∧Bo wr w.heap.size cs 105∧Below w.heap.size w wr
theorem tMeetsR{w:World}{A:Option Addr}{n c:Nat}{s:Bool}{x:Int}{B:Option Addr}{m d:Nat}{t:Bool}{y:Int}{A':Option Addr}{n' c':Nat}{s':Bool}{x':Int}{B':Option Addr}{m' d':Nat}{t':Bool}{y':Int}{r:Bool}(h:Wn w s A n c x)(k:Wn w t B m d y)(h':Wn w s' A' n' c' x')(k':Wn w t' B' m' d' y')(hr:(decide (x≤y') && decide (x'≤y))=r):Calls Tryz.prog 161 #[.agg #[.bool s,.slice A n c,.bool t,.slice B m d],.agg #[.bool s',.slice A' n' c',.bool t',.slice B' m' d']] w (PB w r):=hr▸tMeets h k h' k' rfl rfl
theorem meets_zr{cos:Bool}{x y i z:Int}{r:Bool}(hz:crZ cos i=z)(hr:meetsB (crZ cos i) x y=r):(decide (loZ z≤y) && decide (x≤hiZ z))=r:=by rw [←hr,meets_z,hz]
theorem cr_no{cos:Bool}{x y j i:Int}{k:Nat}(hi:i=j+k)(h:meetsB (crZ cos i) x y=false):crL cos x y j (k+1)=crL cos x y j k:=by
 show crL cos x y j k ++_=_
 rw [←hi,h];exact List.append_nil _
theorem cr_yes{cos:Bool}{x y j i:Int}{k:Nat}(hi:i=j+k)(h:meetsB (crZ cos i) x y=true):crL cos x y j (k+1)=crL cos x y j k ++[ptI i]:=by
 show crL cos x y j k ++_=_
 rw [←hi,h]
 rfl
theorem cr_go{cos:Bool}{y j:Int}{k:Nat}(hst:y < loZ (crZ cos (j+6)))(hk:k≤6)(h:¬y < loZ (crZ cos (j+k))):k+1≤6:=by
 rcases Nat.lt_or_ge k 6 with c | c
 ·omega
 ·obtain rfl:k=6:=by omega
  exact absurd hst h
theorem tCrests{w:World}{fid:FuncId}{o:Int}{s1 s2:Bool}{A1 A2:Option Addr}{n1 c1 n2 c2:Nat}{cos:Bool}{s3 s4:Bool}{A3 A4:Option Addr}{n3 c3 n4 c4:Nat}{x y:Int}{j:Int}(p1:Wn w s1 A1 n1 c1 PLo)(p2:Wn w s2 A2 n2 c2 PHi)(k1:n1≤7)(k2:n2≤7)(p3:Wn w s3 A3 n3 c3 x)(p4:Wn w s4 A4 n4 c4 y)(k3:n3≤1000)(k4:n4≤1000)(ho:odd1 cos=o)(hj:x.fdiv (2*PLo)=j)(j1: -1099511627776≤j)(j2:j≤1099511627776)(hst:y < loZ (crZ cos (j+6))):Calls Tryz.prog 110 #[.agg #[.func (.func fid) #[] #[],.int .i64 o,.bool s1,.slice A1 n1 c1,.bool s2,.slice A2 n2 c2,.bool s3,.slice A3 n3 c3,.bool s4,.slice A4 n4 c4]] w (PCr w cos x y j):=by
 have HFJ:Hid (fits j=true):=Lib.hid (by unfold fits;simp;omega)
 have HO2:Hid (0≤o∧o≤1):=Lib.hid (by rw [←ho];unfold odd1;cases cos <;> decide)
 have HO:=Lib.hid ho;have HJ:=Lib.hid hj;have HST:=Lib.hid hst;clear ho hj hst
 go_enter Tryz.func110,Tryz.ntmps110
 go_upto_region 1 with (fail)
 have X1:=Bo.newAt w (g:=w.heap.size) rfl #[.func (.func fid) #[] #[],.int .i64 o,.bool s1,.slice A1 n1 c1,.bool s2,.slice A2 n2 c2,.bool s3,.slice A3 n3 c3,.bool s4,.slice A4 n4 c4] 105
 have HB:Hid (Below w.heap.size w (World.alloc w (.cells #[.func (.func fid) #[] #[],.int .i64 o,.bool s1,.slice A1 n1 c1,.bool s2,.slice A2 n2 c2,.bool s3,.slice A3 n3 c3,.bool s4,.slice A4 n4 c4] 105))):=Lib.hid (bel1 w (.cells #[.func (.func fid) #[] #[],.int .i64 o,.bool s1,.slice A1 n1 c1,.bool s2,.slice A2 n2 c2,.bool s3,.slice A3 n3 c3,.bool s4,.slice A4 n4 c4] 105))
 generalize hW1:World.alloc w (.cells #[.func (.func fid) #[] #[],.int .i64 o,.bool s1,.slice A1 n1 c1,.bool s2,.slice A2 n2 c2,.bool s3,.slice A3 n3 c3,.bool s4,.slice A4 n4 c4] 105)=w1 at *;clear hW1
 go_upto_region 2 with (fail)
 have xX1:=X1.cell;have q1:=p1.below HB.out;have q2:=p2.below HB.out;have q3:=p3.below HB.out;have q4:=p4.below HB.out
 go_wp2_with fail
 refine (tFirst q1 q2 k1 k2 q3 q4 k3 k4 HJ.out HFJ.out).mono ?_;rintro ee w2 ⟨rfl,B⟩;clear xX1;replace X1:=X1.below B;replace HB:=Hqb HB B;clear B;clear q1 q2 q3 q4 HFJ
 have hI0:CrInv w cos x y j #[.func (.func fid) #[] #[],.int .i64 o,.bool s1,.slice A1 n1 c1,.bool s2,.slice A2 n2 c2,.bool s3,.slice A3 n3 c3,.bool s4,.slice A4 n4 c4] none 0 0 0 w2:=⟨Ia.nil _ _,Nat.le_refl _,by decide,X1,HB.out⟩
 have HI0:=Lib.hid hI0;clear hI0 X1 HB;go_wp2
 go_loopw [3,4] (fun va v wr=>∃(k:Nat) (i:Int) (A:Option Addr) (n c:Nat),va= .slice A n c∧v= .int .i64 i∧i=j+k∧CrInv w cos x y j #[.func (.func fid) #[] #[],.int .i64 o,.bool s1,.slice A1 n1 c1,.bool s2,.slice A2 n2 c2,.bool s3,.slice A3 n3 c3,.bool s4,.slice A4 n4 c4] A n c k wr) (fun _ v _=>((j+7)-intOf v).toNat)
 case atStart=>exact ⟨0,j,_,_,_,rfl,rfl,by omega,HI0.out⟩
 case round=>
  obtain⟨k,i,A,n,c,rfl,rfl,hi,N,hnk,hk,X1,hB⟩:=hrel;have HB:=Lib.hid hB;have HIJ:=Lib.hid hi
  have i1: -4398046511104≤i:=by omega
  have i2:i≤4398046511104:=by omega
  clear hB HI0 hi;obtain⟨z,hz⟩:∃z,crZ cos i=z:=⟨_,rfl⟩;obtain⟨u,hu⟩:∃z',loZ z=z':=⟨_,rfl⟩;obtain⟨v,hv⟩:∃z',hiZ z=z':=⟨_,rfl⟩;obtain⟨r,hr⟩:∃r,meetsB (crZ cos i) x y=r:=⟨_,rfl⟩;obtain⟨σ,hσ⟩:∃σ,cmpI u y=σ:=⟨_,rfl⟩;have e1:=(cmp_lt12 hσ).2;have hm:=meets_zr hz hr;rw [hu,hv]at hm
  have hz2:2*i+o=z:=by rw [←hz,←crZ_eq,HO.out]
  have HZ:=Lib.hid hz;have HZ2:=Lib.hid hz2;have HU:=Lib.hid hu;have HV:=Lib.hid hv;have HR:=Lib.hid hr;have HM:=Lib.hid hm;have HS:=Lib.hid hσ
  have HW8:Hid (IntKind.i64.wrap (i+1)=i+1):=Lib.hid (IntWalk.i64_in _ (by omega))
  have HW9:Hid (wrap64 (i+1)=i+1):=Lib.hid (IntWalk.wrap64_in _ (by omega))
  clear hz hz2 hu hv hr hm hσ
  go_upto_region 4 with (fail)
  have q1:=p1.below HB.out;have q2:=p2.below HB.out;have xX1:=X1.cell
  go_wp2_with fail
  refine (tCrest q1 q2 k1 k2 i1 i2 HO2.out HZ2.out HU.out HV.out).mono ?_;rintro ee w3 ⟨s20,A20,n20,c20,s21,A21,n21,c21,rfl,p20,p21,k20,k21,B⟩;clear xX1;replace X1:=X1.below B;replace N:=N.below B;replace HB:=Hqb HB B;clear B;clear q1 q2;have hsz3:=HB.out.size
  go_upto_region 5 with (fail)
  have lX5:=Nat.le_refl (World.heap w3).size;have nX5X1:=X1.lt;generalize hWn:w3.alloc _=w4 at *;obtain⟨X5,BW⟩:=Bo.nw hWn;clear hWn;replace X1:=X1.below BW;replace N:=N.below BW;replace p20:=p20.below BW;replace p21:=p21.below BW;replace HB:=Hqb HB BW;clear BW;clear lX5;have q4:=p4.below HB.out;have xX5:=X5.cell;have xX1:=X1.cell
  go_wp2_with fail
  refine (wCmp p20.wr q4.wr HS.out).mono ?_;rintro ee w5 ⟨rfl,B⟩;clear xX5 xX1;replace X1:=X1.below B;replace X5:=X5.below B;replace N:=N.below B;replace p20:=p20.below B;replace p21:=p21.below B;replace HB:=Hqb HB B;clear B;clear q4
  by_cases hcq:y < u
  ·rw [decide_eq_true hcq]at e1
   have hst2:y < loZ (crZ cos (j+(k:Nat))):=by rw [←HIJ.out,HZ.out,HU.out];exact hcq
   go_wp2
   go_ret
   exact⟨k,_,_,_,rfl,N,by omega,hst2,HB.out⟩
  ·rw [decide_eq_false hcq]at e1
   have hk1:k+1≤6:=cr_go HST.out hk (by rw [←HIJ.out,HZ.out,HU.out];exact hcq)
   go_upto_region 7 with (fail)
   clear e1;have q3:=p3.below HB.out;have q4:=p4.below HB.out;have xX5:=X5.cell;have xX1:=X1.cell
   go_wp2_with fail
   refine (tMeetsR p20 p21 q3 q4 HM.out).mono ?_;rintro ee w6 ⟨rfl,B⟩;clear xX5 xX1;replace X1:=X1.below B;replace X5:=X5.below B;replace N:=N.below B;replace p20:=p20.below B;replace p21:=p21.below B;replace HB:=Hqb HB B;clear B;clear q3 q4 p20 p21 HM HS
   cases r
   ·have hw8:=HW8.out;have hw9:=HW9.out;go_wp2;clear hw8 hw9
    go_roundw
    case rel=>exact ⟨k+1,i+1,_,_,_,rfl,rfl,(by have:=HIJ.out;omega),by rw [cr_no HIJ.out HR.out];exact N,by omega,hk1,X1,HB.out⟩
    case measure=>
     have:=HIJ.out
     simp [intOf]
     omega
   ·by_cases hpar:i%2=0
    ·have hpt:ptI i=mkI (opl 1) (opl 1):=by unfold ptI;rw [if_pos hpar]
     have HPT:=Lib.hid hpt.symm;clear hpt
     have han:bits .and .i64 i 1=0:=by rw [and_one];omega
     go_upto_region 8 with (fail)
     go_wp2_with fail
     refine (nOf (n:=1) (r:=opl 1) _ (by decide) (by decide) rfl).mono ?_;rintro ee w7 ⟨K30,s30,M30,E30,rfl,q30,B⟩;replace X1:=X1.below B;replace X5:=X5.below B;replace N:=N.below B;replace HB:=Hqb HB B;clear B;clear han
     go_wp2_with fail
     refine (kvPoint q30.top q30.rk HPT.out).mono ?_;rintro ee w8 ⟨e31,K31,s31,M31,E31,K31b,s31b,M31b,E31b,rfl,v31,B⟩;replace X1:=X1.below B;replace X5:=X5.below B;replace N:=N.below B;replace HB:=Hqb HB B;clear B
     go_wp2_with (at_builtin;refine wpList_ia rfl _ _ rfl rfl rfl (N.below (bel1 _ _)) (Ia.lit (Bo.new _ _ _) v31) (by decide) (by omega) (Nat.le_trans HB.out.size (bel1 _ _).size) ?_)
     intro A5 d5 w9 N' G1 at1
     have hB2:=bt HB.out (bel1 _ (.cells #[.bool e31,.int .i64 K31,.bool s31,.int .u64 M31,.int .i64 E31,.int .i64 K31b,.bool s31b,.int .u64 M31b,.int .i64 E31b] 32));have Nb:=N.below (bel1 _ (.cells #[.bool e31,.int .i64 K31,.bool s31,.int .u64 M31,.int .i64 E31,.int .i64 K31b,.bool s31b,.int .u64 M31b,.int .i64 E31b] 32));replace X1:=(X1.below (bel1 _ (.cells #[.bool e31,.int .i64 K31,.bool s31,.int .u64 M31,.int .i64 E31,.int .i64 K31b,.bool s31b,.int .u64 M31b,.int .i64 E31b] 32))).grownI Nb (by decide) G1
     replace HB:=Lib.hid (hB2.grown G1 hB2.size (fun k hk=>(Nb.own_lt k hk).1))
     clear N Nb G1 hB2 at1 X5;have hw8:=HW8.out;have hw9:=HW9.out;go_wp2;clear hw8 hw9
     go_roundw
     case rel=>exact ⟨k+1,i+1,_,_,_,rfl,rfl,(by have:=HIJ.out;omega),by rw [cr_yes HIJ.out HR.out];exact N',by omega,hk1,X1,HB.out⟩
     case measure=>
      have:=HIJ.out
      simp [intOf]
      omega
    ·have hpt:ptI i=mkI (opl (-1)) (opl (-1)):=by unfold ptI;rw [if_neg hpar]
     have HPT:=Lib.hid hpt.symm;clear hpt
     have han:bits .and .i64 i 1=1:=by rw [and_one];omega
     go_upto_region 8 with (fail)
     go_wp2_with fail
     refine (nOf (n:=(-1)) (r:=opl (-1)) _ (by decide) (by decide) rfl).mono ?_;rintro ee w7 ⟨K30,s30,M30,E30,rfl,q30,B⟩;replace X1:=X1.below B;replace X5:=X5.below B;replace N:=N.below B;replace HB:=Hqb HB B;clear B;clear han
     go_wp2_with fail
     refine (kvPoint q30.top q30.rk HPT.out).mono ?_;rintro ee w8 ⟨e31,K31,s31,M31,E31,K31b,s31b,M31b,E31b,rfl,v31,B⟩;replace X1:=X1.below B;replace X5:=X5.below B;replace N:=N.below B;replace HB:=Hqb HB B;clear B
     go_wp2_with (at_builtin;refine wpList_ia rfl _ _ rfl rfl rfl (N.below (bel1 _ _)) (Ia.lit (Bo.new _ _ _) v31) (by decide) (by omega) (Nat.le_trans HB.out.size (bel1 _ _).size) ?_)
     intro A5 d5 w9 N' G1 at1
     have hB2:=bt HB.out (bel1 _ (.cells #[.bool e31,.int .i64 K31,.bool s31,.int .u64 M31,.int .i64 E31,.int .i64 K31b,.bool s31b,.int .u64 M31b,.int .i64 E31b] 32));have Nb:=N.below (bel1 _ (.cells #[.bool e31,.int .i64 K31,.bool s31,.int .u64 M31,.int .i64 E31,.int .i64 K31b,.bool s31b,.int .u64 M31b,.int .i64 E31b] 32));replace X1:=(X1.below (bel1 _ (.cells #[.bool e31,.int .i64 K31,.bool s31,.int .u64 M31,.int .i64 E31,.int .i64 K31b,.bool s31b,.int .u64 M31b,.int .i64 E31b] 32))).grownI Nb (by decide) G1
     replace HB:=Lib.hid (hB2.grown G1 hB2.size (fun k hk=>(Nb.own_lt k hk).1))
     clear N Nb G1 hB2 at1 X5;have hw8:=HW8.out;have hw9:=HW9.out;go_wp2;clear hw8 hw9
     go_roundw
     case rel=>exact ⟨k+1,i+1,_,_,_,rfl,rfl,(by have:=HIJ.out;omega),by rw [cr_yes HIJ.out HR.out];exact N',by omega,hk1,X1,HB.out⟩
     case measure=>
      have:=HIJ.out
      simp [intOf]
      omega
end Go.Proofs.YtaadmpiphnfllaaGreatDoor
