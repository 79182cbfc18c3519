/-
 Contracts that the proof rests on.
-/
import Derived.Test.YtaadmpiphnfllaaGreatDoorYAbe
namespace Go.Proofs.YtaadmpiphnfllaaGreatDoor
open Go.RowKit
set_option linter.unusedVariables false
set_option linter.unusedSimpArgs false
set_option maxRecDepth 100000
def AInv (w:World)(n:Int)(R:Int × Nat)(gp go gb gs:Nat)(s7:Bool)(A7:Option Addr)(n7 c7 k gt:Nat)(wr:World):Prop:=∃(s p T:Int) (s4:Bool) (A4:Option Addr) (n4 c4:Nat) (s5:Bool) (A5:Option Addr) (n5 c5:Nat) (s6:Bool) (A6:Option Addr) (n6 c6:Nat),
 Bo wr w.heap.size #[.bool false,.slice none 0 0] 27∧Bo wr gs #[.bool s4,.slice A4 n4 c4] 27∧Bo wr gt #[.bool s5,.slice A5 n5 c5] 27∧Bo wr gp #[.bool s6,.slice A6 n6 c6] 27∧Bo wr go #[.int .i64 (2*(k:Int)+3)] 3∧Bo wr gb #[.bool s7,.slice A7 n7 c7] 27∧
 Wn wr s4 A4 n4 c4 s∧Wn wr s5 A5 n5 c5 T∧Wn wr s6 A6 n6 c6 (p*(n*n))∧Wn wr s7 A7 n7 c7 n∧n4≤1000*k∧n5≤8∧n6≤10∧k≤100∧w.heap.size < gt∧gs≠gt∧(2:Int)^(2*k+1)≤p∧p≤SC*1000000∧invG n (200-k) k s p=R∧SC.fdiv (p*(2*(k:Int)+1))=T∧Duo gp go w wr
def PAl (w:World)(gp go:Nat)(R:Int × Nat)(e:Ending)(w':World):Prop:=∃s A m c,e= .returned (.tuple #[.agg #[.bool s,.slice A m c],.int .i64 (R.2:Int)])∧Wn w' s A m c R.1∧m≤200000∧R.2≤100∧Duo gp go w w'
theorem pow_pos2{k:Nat}{p:Int}(h:(2:Int)^(2*k+1)≤p):0 < p:=Int.lt_of_lt_of_le (Int.pow_pos (by decide)) h
theorem next_bd{p n T:Int}{k:Nat}(hp:(2:Int)^(2*k+1)≤p)(hT:SC.fdiv (p*(2*(k:Int)+1))=T)(h1:2≤n)(h2:n≤1000)(hc:T≠0):p*(n*n)≤SC*1000000:=by
 have a:=pow_pos2 hp;have b:=term_le a hT hc
 have d:n*n≤1000*1000:=Int.mul_le_mul h2 h2 (by omega) (by decide)
 exact Int.mul_le_mul b (by omega) (Int.mul_nonneg (by omega) (by omega)) (by decide)
theorem sum_step{R:Int × Nat}{n p s T:Int}{k f:Nat}(h:invG n f (k+1) (if k%2=1 then s+ -T else s+T) p=R):(k%2=1→invG n f (k+1) (s-T) p=R)∧(¬k%2=1→invG n f (k+1) (s+T) p=R):=by
 constructor <;> intro c
 ·rw [if_pos c]at h;exact h
 ·rw [if_neg c]at h;exact h
set_option maxHeartbeats 8000000 in
theorem cAlt{w:World}{gp go gb:Nat}{s6 s7:Bool}{A6 A7:Option Addr}{n6 c6 n7 c7:Nat}{n:Int}{R:Int × Nat}(XP:Bo w gp #[.bool s6,.slice A6 n6 c6] 27)(XO:Bo w go #[.int .i64 1] 3)(XB:Bo w gb #[.bool s7,.slice A7 n7 c7] 27)(p6:Wn w s6 A6 n6 c6 n)(p7:Wn w s7 A7 n7 c7 n)(k6:n6≤2)(k7:n7≤2)(hpo:gp≠go)(hpb:gp≠gb)(hob:go≠gb)(h1:2≤n)(h2:n≤1000)(hR:invG n 200 0 0 n=R):
  Calls Tryz.prog 219 #[.func (.func 232) #[] #[.pointer (some ⟨gp,0,none⟩),.pointer (some ⟨go,0,none⟩),.pointer (some ⟨gb,0,none⟩)]] w (PAl w gp go R):=by
 have HR:=Lib.hid hR;have G1:=XP.lt;have G2:=XO.lt;have G3:=XB.lt;obtain⟨T0,hn0⟩:∃T0,SC.fdiv (n*(2*((0:Nat):Int)+1))=T0:=⟨_,rfl⟩;have HN0:=Lib.hid hn0;clear hn0;clear hR
 go_enter Tryz.func219,Tryz.ntmps219
 go_upto_region 1 with (fail)
 have XR:=Bo.newAt w (g:=w.heap.size) rfl #[.bool false,.slice none 0 0] 27
 have HB:Hid (Duo gp go w (World.alloc w (.cells #[.bool false,.slice none 0 0] 27))):=Lib.hid (.of (bel1 w (.cells #[.bool false,.slice none 0 0] 27)))
 replace XP:=XP.below (bel1 w (.cells #[.bool false,.slice none 0 0] 27));replace XO:=XO.below (bel1 w (.cells #[.bool false,.slice none 0 0] 27));replace XB:=XB.below (bel1 w (.cells #[.bool false,.slice none 0 0] 27));replace p6:=p6.below (bel1 w (.cells #[.bool false,.slice none 0 0] 27));replace p7:=p7.below (bel1 w (.cells #[.bool false,.slice none 0 0] 27));generalize hW1:World.alloc w (.cells #[.bool false,.slice none 0 0] 27)=w1 at *
 clear hW1
 go_upto_region 2 with (fail)
 have lX4:=Nat.le_refl (World.heap w1).size;have nX4XP:=XP.lt;have nX4XO:=XO.lt;have nX4XB:=XB.lt;have nX4XR:=XR.lt;generalize hWn:w1.alloc _=w2 at *;obtain⟨X4,BW⟩:=Bo.nw hWn;clear hWn;replace XP:=XP.below BW;replace XO:=XO.below BW;replace XB:=XB.below BW;replace XR:=XR.below BW;replace p6:=p6.below BW;replace p7:=p7.below BW;replace HB:=Lib.hid (HB.out.mv BW)
 clear BW;clear lX4;have ltXP:=XP.lt;have ltXO:=XO.lt;have ltXB:=XB.lt;have ltXR:=XR.lt;have ltX4:=X4.lt
 have gS:w.heap.size < w1.heap.size:=nX4XR
 have gO:go < w1.heap.size:=nX4XO
 have gP:gp < w1.heap.size:=nX4XP
 have gB:gb < w1.heap.size:=nX4XB
 clear nX4XR nX4XO nX4XP nX4XB ltXR ltXO ltXP ltXB;generalize w1.heap.size=gs at *
 have XO1:Bo w2 go #[.int .i64 (2*((0:Nat):Int)+1)] 3:=XO
 clear XO;have XO:=XO1;clear XO1;have hsz:=HB.out.size
 go_wp2_with fail
 refine (cNext (k:=0) XP XO XB p6 p7 (by omega) k7 hpo hpb hob (by decide) (by omega) (Int.le_trans h2 (by decide)) h1 h2 HN0.out).mono ?_;rintro ee w3 ⟨s15,A15,n15,c15,s16,A16,n16,c16,rfl,p15,k15,YP,p16,k16,YO,B⟩;replace XB:=XB.duo B (by omega) (by omega);replace XR:=XR.duo B (by omega) (by omega);replace X4:=X4.duo B (by omega) (by omega);replace p6:=p6.duo XP XO (by simp [no32]) (by simp [no32]) B
 replace p7:=p7.duo XP XO (by simp [no32]) (by simp [no32]) B;replace HB:=Lib.hid (HB.out.trans B);have hszB:=B.size;clear B p6 XP XO;have XP:=YP;have XO:=YO;clear YP YO
 go_upto_region 3 with (fail)
 have lX5:=Nat.le_refl (World.heap w3).size;have nX5XP:=XP.lt;have nX5XO:=XO.lt;have nX5XB:=XB.lt;have nX5XR:=XR.lt;have nX5X4:=X4.lt;generalize hWn:w3.alloc _=w4 at *;obtain⟨X5,BW⟩:=Bo.nw hWn;clear hWn;replace XP:=XP.below BW;replace XO:=XO.below BW;replace XB:=XB.below BW;replace XR:=XR.below BW;replace X4:=X4.below BW;replace p7:=p7.below BW;replace p15:=p15.below BW
 replace p16:=p16.below BW;replace HB:=Lib.hid (HB.out.mv BW);clear BW;clear lX5 nX5XR nX5XP nX5XO nX5XB
 have hI0:AInv w n R gp go gb gs s7 A7 n7 c7 0 w3.heap.size w4:=⟨0,n,_,_,_,_,_,_,_,_,_,_,_,_,_,XR,X4,X5,XP,XO,XB,⟨Nm.zero,rfl⟩,p15,p16,p7,Nat.zero_le _,k15,k16,by decide,by omega,by omega,by simpa using h1,Int.le_trans h2 (by decide),HR.out,HN0.out,HB.out⟩
 have HI0:=Lib.hid hI0;clear hI0 XR X4 X5 XP XO XB p7 p15 p16 HB HR HN0;go_wp2
 go_loopw [5,6] (fun i pt wr=>∃k gt:Nat,i= .int .i64 k∧pt= .pointer (some ⟨gt,0,none⟩)∧AInv w n R gp go gb gs s7 A7 n7 c7 k gt wr) (fun i _ _=>200-(intOf i).toNat)
 case atStart=>exact ⟨0,_,rfl,rfl,HI0.out⟩
 case round=>
  obtain⟨k,gt,rfl,rfl,s,p,T,s4,A4,n4,c4,s5,A5,n5,c5,s6,A6,n6,c6,XR,X4,X5,XP,XO,XB,p4,p5,p6,p7,k4,k5,k6,hk,hgt,hst,hp,hpS,hG,hT,hB⟩:=hrel;have HB:=Lib.hid hB;obtain⟨T',hT',hd0,hT0,hz,hnz⟩:=inv_step h1 hk hp hG
  obtain rfl:T'=T:=hT'.symm.trans hT
  have HT:=Lib.hid hT;have HZ:=Lib.hid hz;have HNZ:=Lib.hid hnz
  have HNB:Hid (T'≠0→p*(n*n)≤SC*1000000):=Lib.hid (fun hc=>next_bd hp hT h1 h2 hc)
  clear hB HI0 hG hT hT' hz hnz hd0;have hsz:=HB.out.size;have ltXP:=XP.lt;have ltXO:=XO.lt;have ltXB:=XB.lt;have ltXR:=XR.lt;have ltX4:=X4.lt;have ltX5:=X5.lt
  by_cases hc:T'=0
  ·have HS:Hid (cmpI T' 0=0):=Lib.hid (by rw [hc];decide)
   have hsk:=HZ.out hc;subst hsk;clear HZ HNZ HNB hp hpS;have xX5:=X5.cell
   go_wp2_with fail
   refine (wSign p5.wr HS.out).mono ?_;rintro ee w5 ⟨rfl,B⟩;clear xX5;replace XP:=XP.below B;replace XO:=XO.below B;replace XB:=XB.below B;replace XR:=XR.below B;replace X4:=X4.below B;replace X5:=X5.below B;replace p4:=p4.below B;replace p5:=p5.below B;replace p6:=p6.below B;replace p7:=p7.below B;replace HB:=Lib.hid (HB.out.mv B);clear B;clear p5 p6 p7
   clear X5 XP XO XB;have xX4:=X4.cell;have xXR:=XR.cell;have zXR0:=XR.frozen;go_wp2;clear xX4 xXR zXR0;generalize hS:(w5.setCell _ _).setCell _ _=w6 at *;have SX:=StN.of2 XR hS;replace X4:=X4.stn SX (by omega);replace p4:=p4.stn SX (by simp [no32]);replace HB:=Lib.hid (HB.out.stn SX (by omega));replace XR:=SX.box;clear SX hS;exact bodyPost_ret (v:= .tuple #[.agg #[.bool s4,.slice A4 n4 c4],.int .i64 (k:Int)]) (by simp [results,Tryz.results219,go_sem,XR.cell]) rfl ⟨s4,A4,n4,c4,rfl,p4,by omega,hk,HB.out⟩
  ·have HS:Hid (cmpI T' 0=1):=Lib.hid (cmpI_gt (by omega))
   obtain⟨hk1,hp1,hG1⟩:=HNZ.out hc;have HP1:=Lib.hid hp1;have HP2:=Lib.hid (HNB.out hc);obtain⟨ho,he⟩:=sum_step hG1;have HO:=Lib.hid ho;have HE:=Lib.hid he
   have HW4:Hid (IntKind.i64.wrap ((k:Int)+1)=(k:Int)+1):=Lib.hid (IntWalk.i64_in _ (by omega))
   have HW5:Hid (wrap64 ((k:Int)+1)=(k:Int)+1):=Lib.hid (IntWalk.wrap64_in _ (by omega))
   clear HZ HNZ HNB hp1 hG1 hT0 ho he hp hpS;have xX5:=X5.cell
   go_wp2_with fail
   refine (wSign p5.wr HS.out).mono ?_;rintro ee w5 ⟨rfl,B⟩;clear xX5;replace XP:=XP.below B;replace XO:=XO.below B;replace XB:=XB.below B;replace XR:=XR.below B;replace X4:=X4.below B;replace X5:=X5.below B;replace p4:=p4.below B;replace p5:=p5.below B;replace p6:=p6.below B;replace p7:=p7.below B;replace HB:=Lib.hid (HB.out.mv B);clear B
   by_cases hodd:k%2=1
   ·have HF:=Lib.hid (HO.out hodd);clear HO HE
    have t9:(Int.tmod (k:Int) 2==0)=false:=by
     rw [show Int.tmod (k:Int) 2=1 by rw [Int.tmod_eq_emod_of_nonneg (by omega)];omega]
     rfl
    have xX4:=X4.cell;have xX5:=X5.cell
    go_wp2_with fail
    refine (wSub p4.wr p5.wr (by omega) (by omega) rfl).mono ?_;rintro ee w6 ⟨s24,A24,n24,c24,rfl,p24,k24,B⟩;clear xX4 xX5;replace XP:=XP.below B;replace XO:=XO.below B;replace XB:=XB.below B;replace XR:=XR.below B;replace X4:=X4.below B;replace X5:=X5.below B;replace p4:=p4.below B;replace p5:=p5.below B;replace p6:=p6.below B;replace p7:=p7.below B
    replace HB:=Lib.hid (HB.out.mv B);clear B;clear p4 t9 hodd;have xX4:=X4.cell;have zX40:=X4.frozen
    go_upto_region 9 with (fail)
    clear xX4 zX40;generalize hS:(w6.setCell _ _).setCell _ _=w7 at *;have SX:=StN.of2 X4 hS;replace XP:=XP.stn SX (by omega);replace XO:=XO.stn SX (by omega);replace XB:=XB.stn SX (by omega);replace XR:=XR.stn SX (by omega);replace X5:=X5.stn SX (by omega);replace p5:=p5.stn SX (by simp [no32]);replace p6:=p6.stn SX (by simp [no32]);replace p7:=p7.stn SX (by simp [no32])
    replace p24:=p24.stn SX (by simp [no32]);replace HB:=Lib.hid (HB.out.stn SX (by omega));replace X4:=SX.box;clear SX hS;have hw4:=HW4.out;have hw5:=HW5.out;have xX5:=X5.cell
    go_upto_region 4 with (fail)
    clear xX5;clear hw4 hw5 X5;have lX7:=Nat.le_refl (World.heap w7).size;have nX7XP:=XP.lt;have nX7XO:=XO.lt;have nX7XB:=XB.lt;have nX7XR:=XR.lt;have nX7X4:=X4.lt;generalize hWn:w7.alloc _=w7a at *;obtain⟨X7,BW⟩:=Bo.nw hWn;clear hWn;replace XP:=XP.below BW;replace XO:=XO.below BW;replace XB:=XB.below BW;replace XR:=XR.below BW;replace X4:=X4.below BW
    replace p5:=p5.below BW;replace p6:=p6.below BW;replace p7:=p7.below BW;replace p24:=p24.below BW;replace HB:=Lib.hid (HB.out.mv BW);clear BW;clear lX7;have ltXP:=XP.lt;have ltXO:=XO.lt;have ltXB:=XB.lt;have ltXR:=XR.lt;have ltX4:=X4.lt;have ltX7:=X7.lt;have hsz7:=HB.out.size
    have g7:gs < w7.heap.size:=nX7X4
    have g7p:gp < w7.heap.size:=nX7XP
    have g7o:go < w7.heap.size:=nX7XO
    have g7b:gb < w7.heap.size:=nX7XB
    have g7r:w.heap.size < w7.heap.size:=nX7XR
    clear p5
    have XO1:Bo w7a go #[.int .i64 (2*((k+1:Nat):Int)+1)] 3:=by
     rw [show 2*((k+1:Nat):Int)+1=2*(k:Int)+3 by omega]
     exact XO
    clear XO;have XO:=XO1;clear XO1;obtain⟨T2,hT2⟩:∃T2,SC.fdiv (p*(n*n)*(2*((k+1:Nat):Int)+1))=T2:=⟨_,rfl⟩
    go_wp2_with fail
    refine (cNext (k:=k+1) XP XO XB p6 p7 k6 k7 hpo hpb hob (by omega) (pow_pos2 HP1.out) HP2.out h1 h2 hT2).mono ?_;rintro ee w7b ⟨s15,A15,n15,c15,s16,A16,n16,c16,rfl,p15,k15,YP,p16,k16,YO,B⟩;replace XB:=XB.duo B (by omega) (by omega);replace XR:=XR.duo B (by omega) (by omega);replace X4:=X4.duo B (by omega) (by omega);replace X7:=X7.duo B (by omega) (by omega)
    replace p24:=p24.duo XP XO (by simp [no32]) (by simp [no32]) B;replace p6:=p6.duo XP XO (by simp [no32]) (by simp [no32]) B;replace p7:=p7.duo XP XO (by simp [no32]) (by simp [no32]) B;replace HB:=Lib.hid (HB.out.trans B);have hszB:=B.size;clear B p6 XP XO;have XP:=YP;have XO:=YO;clear YP YO;have xX7:=X7.cell;have zX70:=X7.frozen;go_wp2;clear xX7 zX70
    generalize hS:(w7b.setCell _ _).setCell _ _=w7c at *;have SX:=StN.of2 X7 hS;replace XP:=XP.stn SX (by omega);replace XO:=XO.stn SX (by omega);replace XB:=XB.stn SX (by omega);replace XR:=XR.stn SX (by omega);replace X4:=X4.stn SX (by omega);replace p24:=p24.stn SX (by simp [no32]);replace p7:=p7.stn SX (by simp [no32]);replace p15:=p15.stn SX (by simp [no32])
    replace p16:=p16.stn SX (by simp [no32]);replace HB:=Lib.hid (HB.out.stn SX (by omega));replace X7:=SX.box;clear SX hS
    go_roundw
    case rel=>exact ⟨k+1,w7.heap.size,by go_num,rfl,_,_,_,_,_,_,_,_,_,_,_,_,_,_,_,XR,X4,X7,XP,XO,XB,p24,p15,p16,p7,by omega,k15,k16,hk1,by omega,by omega,HP1.out,HP2.out,HF.out,hT2,HB.out⟩
    case measure=>simp [intOf];omega
   ·have HF:=Lib.hid (HE.out hodd);clear HO HE
    have t9:(Int.tmod (k:Int) 2==0)=true:=by
     rw [show Int.tmod (k:Int) 2=0 by rw [Int.tmod_eq_emod_of_nonneg (by omega)];omega]
     rfl
    have xX4:=X4.cell;have xX5:=X5.cell
    go_wp2_with fail
    refine (wAdd p4.wr p5.wr (by omega) (by omega) rfl).mono ?_;rintro ee w6 ⟨s24,A24,n24,c24,rfl,p24,k24,B⟩;clear xX4 xX5;replace XP:=XP.below B;replace XO:=XO.below B;replace XB:=XB.below B;replace XR:=XR.below B;replace X4:=X4.below B;replace X5:=X5.below B;replace p4:=p4.below B;replace p5:=p5.below B;replace p6:=p6.below B;replace p7:=p7.below B
    replace HB:=Lib.hid (HB.out.mv B);clear B;clear p4 t9 hodd;have xX4:=X4.cell;have zX40:=X4.frozen
    go_upto_region 9 with (fail)
    clear xX4 zX40;generalize hS:(w6.setCell _ _).setCell _ _=w7 at *;have SX:=StN.of2 X4 hS;replace XP:=XP.stn SX (by omega);replace XO:=XO.stn SX (by omega);replace XB:=XB.stn SX (by omega);replace XR:=XR.stn SX (by omega);replace X5:=X5.stn SX (by omega);replace p5:=p5.stn SX (by simp [no32]);replace p6:=p6.stn SX (by simp [no32]);replace p7:=p7.stn SX (by simp [no32])
    replace p24:=p24.stn SX (by simp [no32]);replace HB:=Lib.hid (HB.out.stn SX (by omega));replace X4:=SX.box;clear SX hS;have hw4:=HW4.out;have hw5:=HW5.out;have xX5:=X5.cell
    go_upto_region 4 with (fail)
    clear xX5;clear hw4 hw5 X5;have lX7:=Nat.le_refl (World.heap w7).size;have nX7XP:=XP.lt;have nX7XO:=XO.lt;have nX7XB:=XB.lt;have nX7XR:=XR.lt;have nX7X4:=X4.lt;generalize hWn:w7.alloc _=w7a at *;obtain⟨X7,BW⟩:=Bo.nw hWn;clear hWn;replace XP:=XP.below BW;replace XO:=XO.below BW;replace XB:=XB.below BW;replace XR:=XR.below BW;replace X4:=X4.below BW
    replace p5:=p5.below BW;replace p6:=p6.below BW;replace p7:=p7.below BW;replace p24:=p24.below BW;replace HB:=Lib.hid (HB.out.mv BW);clear BW;clear lX7;have ltXP:=XP.lt;have ltXO:=XO.lt;have ltXB:=XB.lt;have ltXR:=XR.lt;have ltX4:=X4.lt;have ltX7:=X7.lt;have hsz7:=HB.out.size
    have g7:gs < w7.heap.size:=nX7X4
    have g7p:gp < w7.heap.size:=nX7XP
    have g7o:go < w7.heap.size:=nX7XO
    have g7b:gb < w7.heap.size:=nX7XB
    have g7r:w.heap.size < w7.heap.size:=nX7XR
    clear p5
    have XO1:Bo w7a go #[.int .i64 (2*((k+1:Nat):Int)+1)] 3:=by
     rw [show 2*((k+1:Nat):Int)+1=2*(k:Int)+3 by omega]
     exact XO
    clear XO;have XO:=XO1;clear XO1;obtain⟨T2,hT2⟩:∃T2,SC.fdiv (p*(n*n)*(2*((k+1:Nat):Int)+1))=T2:=⟨_,rfl⟩
    go_wp2_with fail
    refine (cNext (k:=k+1) XP XO XB p6 p7 k6 k7 hpo hpb hob (by omega) (pow_pos2 HP1.out) HP2.out h1 h2 hT2).mono ?_;rintro ee w7b ⟨s15,A15,n15,c15,s16,A16,n16,c16,rfl,p15,k15,YP,p16,k16,YO,B⟩;replace XB:=XB.duo B (by omega) (by omega);replace XR:=XR.duo B (by omega) (by omega);replace X4:=X4.duo B (by omega) (by omega);replace X7:=X7.duo B (by omega) (by omega)
    replace p24:=p24.duo XP XO (by simp [no32]) (by simp [no32]) B;replace p6:=p6.duo XP XO (by simp [no32]) (by simp [no32]) B;replace p7:=p7.duo XP XO (by simp [no32]) (by simp [no32]) B;replace HB:=Lib.hid (HB.out.trans B);have hszB:=B.size;clear B p6 XP XO;have XP:=YP;have XO:=YO;clear YP YO;have xX7:=X7.cell;have zX70:=X7.frozen;go_wp2;clear xX7 zX70
    generalize hS:(w7b.setCell _ _).setCell _ _=w7c at *;have SX:=StN.of2 X7 hS;replace XP:=XP.stn SX (by omega);replace XO:=XO.stn SX (by omega);replace XB:=XB.stn SX (by omega);replace XR:=XR.stn SX (by omega);replace X4:=X4.stn SX (by omega);replace p24:=p24.stn SX (by simp [no32]);replace p7:=p7.stn SX (by simp [no32]);replace p15:=p15.stn SX (by simp [no32])
    replace p16:=p16.stn SX (by simp [no32]);replace HB:=Lib.hid (HB.out.stn SX (by omega));replace X7:=SX.box;clear SX hS
    go_roundw
    case rel=>exact ⟨k+1,w7.heap.size,by go_num,rfl,_,_,_,_,_,_,_,_,_,_,_,_,_,_,_,XR,X4,X7,XP,XO,XB,p24,p15,p16,p7,by omega,k15,k16,hk1,by omega,by omega,HP1.out,HP2.out,HF.out,hT2,HB.out⟩
    case measure=>simp [intOf];omega
end Go.Proofs.YtaadmpiphnfllaaGreatDoor
namespace Go.Proofs.YtaadmpiphnfllaaGreatDoor
open Go Go.RowKit
set_option linter.unusedVariables false
theorem fixB_max{x m c:Int}(hm:max x (-x)=m)(h:cmpI m (opl 1073741824)=c):decide (0≤c)=!(fixB x):=by
 subst hm;have t:=t30
 unfold fixB
 rw [←h]
 by_cases g: -opl 1073741824 < x∧x < opl 1073741824
 ·rw [decide_eq_true g,cmpI_lt (show max x (-x) < opl 1073741824 by omega)]
  rfl
 ·rw [decide_eq_false g]
  rcases cmpI_tri (max x (-x)) (opl 1073741824)with ⟨a,b⟩ | ⟨a,b⟩ | ⟨a,b⟩
  ·omega
  ·rw [b];rfl
  ·rw [b];rfl
theorem mxp_opp{x:Int}(ha: -19342822337206103650074625≤x):mxp [x,-x]=max x (-x):=mxp_two ha
theorem fix_raw{D M E x:Int}{s:Bool}(hM:LQ M)(hx:rk D s M E=x)(hb:fixB x=true):
  ∃N F,(exq D s M E).1=N∧(exq D s M E).2=F∧mk N F=(N,F)∧vr x=N*2^(F+KK).toNat∧N.natAbs < 2^64∧ -2900000≤F∧F≤2900000:=by
 have zero:∀N:Int,N=0→vr 0=N*2^((0:Int)+KK).toNat:=fun N e=>by rw [e,Int.zero_mul];rfl
 by_cases h:MayQ D s M E
 ·have q:=rk_fq hM h;rw [hx]at q
  rcases fq_kind q with⟨rfl,rfl⟩ | rfl | rfl
  ·obtain⟨_,rfl,rfl,rfl⟩:=q.uniq Fq.nought;exact⟨0,0,by decide,by decide,mk_zero 0,zero 0 rfl,by decide,by decide,by decide⟩
  ·obtain⟨N,F,_,a,b,nf,hv,n64,g1,g2,_⟩:=fix_exq q;exact⟨N,F,a,b,nf,hv,n64,g1,g2⟩
  ·rw [(fix_inf q).1]at hb
   cases hb
 ·have e:exq D s M E=(0,0):=by
   unfold exq exb
   rw [decide_eq_false h]
   rfl
  rw [rk_not h]at hx;subst hx;exact⟨0,0,by rw [e],by rw [e],mk_zero 0,zero 0 rfl,by decide,by decide,by decide⟩
theorem fix_code{N F P Q x:Int}(nf:mk N F=(N,F))(hv:vr x=N*2^(F+KK).toNat)(h64:N.natAbs < 2^64)(h1: -2900000≤F)(h2:F≤2900000)(hb:fixB x=true)
  (hP:(mvs (mk N F) 192).1=P) (hQ:(mvs (mk N F) 192).2=Q):flr (mk P Q).1 (mk P Q).2=fixI x:=by
 have hfl:=flr_moved nf (Nat.lt_trans h64 (by decide)) h1 h2
 have e:mv N F 192=mk N (F+192):=by
  unfold mv
  rw [if_neg (by omega),nf]
 rw [nf]at hP hQ
 have e2:mk P Q=(P,Q):=by
  have:=mk_nf N (F+192)
  rw [←hP,←hQ];exact this
 rw [e2,fixI_yes hb,hv,←hfl,e,←hP,←hQ]
 rfl
end Go.Proofs.YtaadmpiphnfllaaGreatDoor
namespace Go.Proofs.YtaadmpiphnfllaaGreatDoor
set_option maxHeartbeats 2000000
open Go.RowKit
set_option linter.unusedVariables false
theorem stk_iff{q d d':Nat}(h:d=0↔d'=0):stk q d=stk q d':=by
 unfold stk
 by_cases c:d=0
 ·rw [if_pos c,if_pos (h.1 c)]
 ·rw [if_neg c,if_neg (fun e=>c (h.2 e))]
theorem stk_two (q d:Nat):stk q d≤2*q+1:=by
 unfold stk
 split <;> omega
theorem le_of_blen{a k:Nat}(h0:0 < a)(h:k < blen a):2^k≤a:=by
 have h1:=blen_le (n:=a) (by omega);exact Nat.le_trans (Nat.pow_le_pow_right (by decide) (by omega)) h1
theorem part_up{α β k:Nat}{e:Int}(hα:0 < α)(hβ:0 < β)(hk:(blen β:Int)-(blen α:Int)+64=(k:Int))(ha:blen α≤112000)(hb:blen β≤112000)(e1: -2200000≤e)(e2:e≤2200000)(σ up:Bool):
  Sid up (sgi σ ((α:Int)*2^(e+KK).toNat)) (β:Int) (rnd up (mk (sgi σ ((stk (α*2^k/β) (α*2^k%β):Nat):Int)) (e-k-1)).1 (mk (sgi σ ((stk (α*2^k/β) (α*2^k%β):Nat):Int)) (e-k-1)).2):=by
 obtain⟨κ,hκ⟩:∃κ:Nat,κ=500000:=⟨_,rfl⟩
 have la:0 < blen α:=by
  rcases Nat.eq_zero_or_pos (blen α)with c | c
  ·have:=blen_lt α
   rw [c]at this
   omega
  ·exact c
 have hq:9223372036854775808≤α*2^k/β:=by
  rw [Nat.le_div_iff_mul_le hβ];have l1:=blen_lt β
  have l2:2^63*β≤2^63*2^blen β:=Nat.mul_le_mul_left _ (Nat.le_of_lt l1)
  have l3:=le_of_blen (k:=blen α-1) hα (by omega)
  have l4:2^(blen α-1)*2^k≤α*2^k:=Nat.mul_le_mul_right _ l3
  rw [←Nat.pow_add]at l2 l4
  rw [show blen α-1+k=63+blen β by omega]at l4
  omega
 have hs:stk (α*2^k/β) (α*2^k%β) < 2^κ:=by
  have q1:α*2^k/β≤α*2^k:=Nat.div_le_self _ _
  have q2:α*2^k < 2^blen α*2^k:=Nat.mul_lt_mul_of_pos_right (blen_lt α) (Nat.pow_pos (by decide))
  rw [←Nat.pow_add]at q2;have q3:=stk_two (α*2^k/β) (α*2^k%β)
  have q4:2^(blen α+k+1)≤2^κ:=Nat.pow_le_pow_right (by decide) (by omega)
  rw [Nat.pow_succ]at q4
  omega
 rw [rnd_sgi]
 exact sid_sgi (quo_side (up !=σ) hβ (fun _=>hq) hκ hs (by omega) (by omega))
theorem left_iff{α β k:Nat}:α%(β*2^k)=0↔α/2^k*2^k=α∧α/2^k%β=0:=by
 have hp:0 < 2^k:=Nat.pow_pos (by decide)
 constructor
 ·intro h
  obtain⟨t,ht⟩:=Nat.dvd_of_mod_eq_zero h
  have e:α/2^k=β*t:=by
   rw [ht,Nat.mul_right_comm,Nat.mul_div_cancel _ hp]
  rw [e];refine⟨?_,Nat.mul_mod_right _ _⟩;rw [ht,Nat.mul_right_comm]
 ·rintro ⟨a,b⟩;obtain⟨t,ht⟩:=Nat.dvd_of_mod_eq_zero b;rw [←a,ht,Nat.mul_right_comm];exact Nat.mul_mod_right _ _
theorem part_dn{α β k d:Nat}{e:Int}(hα:0 < α)(hβ:0 < β)(hk:(blen β:Int)-(blen α:Int)+64= -(k:Int))(ha:blen α≤112000)(e1: -2200000≤e)(e2:e≤2200000)(hd:d=0↔(α/2^k*2^k=α∧α/2^k%β=0))(σ up:Bool):
  Sid up (sgi σ ((α:Int)*2^(e+KK).toNat)) (β:Int) (rnd up (mk (sgi σ ((stk (α/2^k/β) d:Nat):Int)) (e+k-1)).1 (mk (sgi σ ((stk (α/2^k/β) d:Nat):Int)) (e+k-1)).2):=by
 have hKK:=KK_eq;obtain⟨κ,hκ⟩:∃κ:Nat,κ=500000:=⟨_,rfl⟩
 have hp:0 < 2^k:=Nat.pow_pos (by decide)
 have hD:0 < β*2^k:=Nat.mul_pos hβ hp
 have es:stk (α/2^k/β) d=stk (α/ (β*2^k)) (α%(β*2^k)):=by
  rw [Nat.div_div_eq_div_mul,Nat.mul_comm (2^k) β];exact stk_iff (hd.trans left_iff.symm)
 rw [es]
 have hq:9223372036854775808≤α/ (β*2^k):=by
  rw [Nat.le_div_iff_mul_le hD];have l1:=blen_lt β
  have l2:2^63*(β*2^k)≤2^63*(2^blen β*2^k):=Nat.mul_le_mul_left _ (Nat.mul_le_mul_right _ (Nat.le_of_lt l1))
  have l3:=le_of_blen (k:=blen α-1) hα (by omega);rw [←Nat.pow_add,←Nat.pow_add]at l2
  rw [show blen α-1=63+(blen β+k) by omega]at l3
  omega
 have hs:stk (α/ (β*2^k)) (α%(β*2^k)) < 2^κ:=by
  have q1:α/ (β*2^k)≤α:=Nat.div_le_self _ _
  have q2:=blen_lt α;have q3:=stk_two (α/ (β*2^k)) (α%(β*2^k))
  have q4:2^(blen α+1)≤2^κ:=Nat.pow_le_pow_right (by decide) (by omega)
  rw [Nat.pow_succ]at q4
  omega
 have h:=quo_side (α:=α) (β:=β*2^k) (e:=e+k) (n:=0) (up !=σ) hD (fun _=>by rw [Nat.pow_zero,Nat.mul_one];exact hq) hκ (by rw [Nat.pow_zero,Nat.mul_one];exact hs) (by omega) (by omega)
 rw [Nat.pow_zero,Nat.mul_one,show e+(k:Int)-((0:Nat):Int)-1=e+k-1 by omega]at h
 rw [rnd_sgi];refine sid_sgi (h.cross (by omega) (by omega) ?_)
 have e3:(e+(k:Int)+(KK:Int)).toNat=(e+(KK:Int)).toNat+k:=by omega
 rw [e3,Int.pow_add]
 push_cast
 generalize (2:Int)^(e+(KK:Int)).toNat=U;generalize (2:Int)^k=V;rw [Int.mul_assoc,Int.mul_assoc,Int.mul_assoc,Int.mul_comm V (β:Int)]
set_option linter.unusedSimpArgs false
set_option maxRecDepth 100000
def Pk (w:World)(A:Option Addr)(n c:Nat)(t:Bool)(x:Int)(P:Bool→Bool→Int→Prop):Prop:=
 ∃q d:Nat,Nm w A n c q∧n≤20000∧decide (d=0)=t∧ -3000000≤x∧x≤3000000∧∀σ up,P σ up (rnd up (mk (sgi σ ((stk q d:Nat):Int)) (x-1)).1 (mk (sgi σ ((stk q d:Nat):Int)) (x-1)).2)
theorem Pk.below{w w':World}{A:Option Addr}{n c:Nat}{t:Bool}{x:Int}{P:Bool→Bool→Int→Prop}(h:Pk w A n c t x P)(b:Below w.heap.size w w'):Pk w' A n c t x P:=by
 obtain⟨q,d,h1,h2⟩:=h;exact⟨q,d,h1.below b,h2⟩
def PP7 (w:World)(P:Bool→Bool→Int→Prop)(e:Ending)(w':World):Prop:=∃A n c t x,e= .returned (.agg #[.slice A n c,.bool t,.int .i64 x])∧Pk w' A n c t x P∧Below w.heap.size w w'
def Jo.Fact.pk (P:Bool→Bool→Int→Prop):Jo.Fact:=⟨fun v w=>∃A n c t x,v= .agg #[.slice A n c,.bool t,.int .i64 x]∧Pk w A n c t x P,fun v w w' h b=>by
 obtain⟨A,n,c,t,x,e,p⟩:=h;exact⟨A,n,c,t,x,e,p.below b⟩⟩
def PQ7 (w:World)(Q:Nat)(t:Bool)(x:Int)(e:Ending)(w':World):Prop:=∃A n c,e= .returned (.agg #[.slice A n c,.bool t,.int .i64 x])∧Nm w' A n c Q∧n≤20000∧Below w.heap.size w w'
def MV (α:Nat)(z:Int)(T:Nat)(t:Bool):Prop:=∀(w:World) (A:Option Addr) (n c:Nat),Rd w A n c α→n≤8000→Calls Tryz.prog 224 #[.slice A n c,.int .i64 z] w (P1B w 15000 T t)
theorem qdivided_e{w:World}{A B:Option Addr}{n c m d α β T Q R:Nat}{La Lb z e x:Int}(ha:Rd w A n c α)(hb:Rd w B m d β)(hn:n≤8000)(hβ:β≠0)(hla:((blen α:Nat):Int)=La)(hlb:((blen β:Nat):Int)=Lb)(hz:Lb-La+64=z)(z1: -200000≤z)(z2:z≤200000)(hx:e-z=x)(x1: -3000000≤x)(x2:x≤2097152)
  (hm:MV α z T true) (hQ:T/β=Q) (hR:T%β=R) (h0:R=0):Calls Tryz.prog 192 #[.slice A n c,.slice B m d,.int .i64 e] w (PQ7 w Q true x):=by
 have HM:=Lib.hid hm;have HLA:=Lib.hid hla;have HLB:=Lib.hid hlb;have HQ:=Lib.hid hQ;have HRR:=Lib.hid hR;have H0:=Lib.hid h0;have HB0:=Lib.hid hβ
 have e0:Lb-La=z-64:=by omega
 have HW1:Hid (IntKind.i64.wrap (Lb-La)=z-64):=Lib.hid (by rw [e0];exact IntWalk.i64_in _ (by omega))
 have HW2:Hid (wrap64 z=z):=Lib.hid (IntWalk.wrap64_in _ (by omega))
 have HW4:Hid (wrap64 x=x):=Lib.hid (IntWalk.wrap64_in _ (by omega))
 have HW3:Hid (IntKind.i64.wrap (e-z)=x):=Lib.hid (by rw [hx];exact IntWalk.i64_in _ (by omega))
 have hz3:z≤2097152:=by omega
 have HMZ:Hid (min z 2097152=z):=Lib.hid (by omega)
 have HMX:Hid (min x 2097152=x):=Lib.hid (by omega)
 clear hm hla hlb hz e0 hx hQ hR h0 hβ z1 z2 x1
 go_enter Tryz.func192,Tryz.ntmps192
 go_upto_region 1 with (fail)
 generalize hW1:w.alloc _=w1 at *;obtain⟨XR,HB⟩:=Bo.en1 hW1;replace ha:=ha.below HB.out;replace hb:=hb.below HB.out;clear hW1
 go_wp2_with fail
 refine (vLenE hb HLB.out).mono ?_;rintro ee w2 ⟨rfl,B⟩;replace XR:=XR.below B;replace ha:=ha.below B;replace hb:=hb.below B;replace HB:=Hqb HB B;clear B
 go_wp2_with fail
 refine (vLenE ha HLA.out).mono ?_;rintro ee w3 ⟨rfl,B⟩;replace XR:=XR.below B;replace ha:=ha.below B;replace hb:=hb.below B;replace HB:=Hqb HB B;clear B;have hw1:=HW1.out;have hw2:=HW2.out;have hmz:=HMZ.out
 go_wp2_with fail
 refine (HM.out _ _ _ _ ha hn).mono ?_;rintro ee w4 ⟨A4,n4,c4,rfl,p4,k4,B⟩;replace XR:=XR.below B;replace ha:=ha.below B;replace hb:=hb.below B;replace HB:=Hqb HB B;clear B;clear hw1 hw2 hmz
 go_wp2_with fail
 refine (vDivE p4.rd hb (by omega) HB0.out HQ.out HRR.out).mono ?_;rintro ee w5 ⟨A5,n5,c5,B5,m5,d5,rfl,p5,r5,k5,l5,B⟩;replace XR:=XR.below B;replace hb:=hb.below B;replace p4:=p4.below B;replace HB:=Hqb HB B;clear B;clear hb p4
 obtain rfl:m5=0:=by have:=r5.pos;have:=H0.out;omega
 clear r5 H0;have hw3:=HW3.out;have hmx:=HMX.out;have xXR:=XR.cell;have zXR0:=XR.frozen;go_wp2;clear xXR zXR0;have SX:=StN.mk3 XR (.slice A5 n5 c5) (.bool true) (.int .i64 x);replace p5:=p5.stn SX (by simp [no32]);exact bodyPost_ret (v:= .agg #[.slice A5 n5 c5,.bool true,.int .i64 x]) (by simp [results,Tryz.results192,go_sem,SX.box.cell]) rfl ⟨A5,n5,c5,rfl,p5,by omega,(SX.below HB.out (by omega))⟩
theorem qdivided_l{w:World}{A B:Option Addr}{n c m d α β T Q R:Nat}{La Lb z e x:Int}(ha:Rd w A n c α)(hb:Rd w B m d β)(hn:n≤8000)(hβ:β≠0)(hla:((blen α:Nat):Int)=La)(hlb:((blen β:Nat):Int)=Lb)(hz:Lb-La+64=z)(z1: -200000≤z)(z2:z≤200000)(hx:e-z=x)(x1: -3000000≤x)(x2:x≤2097152)
  (hm:MV α z T true) (hQ:T/β=Q) (hR:T%β=R) (h0:R≠0):Calls Tryz.prog 192 #[.slice A n c,.slice B m d,.int .i64 e] w (PQ7 w Q false x):=by
 have HM:=Lib.hid hm;have HLA:=Lib.hid hla;have HLB:=Lib.hid hlb;have HQ:=Lib.hid hQ;have HRR:=Lib.hid hR;have H0:=Lib.hid h0;have HB0:=Lib.hid hβ
 have e0:Lb-La=z-64:=by omega
 have HW1:Hid (IntKind.i64.wrap (Lb-La)=z-64):=Lib.hid (by rw [e0];exact IntWalk.i64_in _ (by omega))
 have HW2:Hid (wrap64 z=z):=Lib.hid (IntWalk.wrap64_in _ (by omega))
 have HW4:Hid (wrap64 x=x):=Lib.hid (IntWalk.wrap64_in _ (by omega))
 have HW3:Hid (IntKind.i64.wrap (e-z)=x):=Lib.hid (by rw [hx];exact IntWalk.i64_in _ (by omega))
 have hz3:z≤2097152:=by omega
 have HMZ:Hid (min z 2097152=z):=Lib.hid (by omega)
 have HMX:Hid (min x 2097152=x):=Lib.hid (by omega)
 clear hm hla hlb hz e0 hx hQ hR h0 hβ z1 z2 x1
 go_enter Tryz.func192,Tryz.ntmps192
 go_upto_region 1 with (fail)
 generalize hW1:w.alloc _=w1 at *;obtain⟨XR,HB⟩:=Bo.en1 hW1;replace ha:=ha.below HB.out;replace hb:=hb.below HB.out;clear hW1
 go_wp2_with fail
 refine (vLenE hb HLB.out).mono ?_;rintro ee w2 ⟨rfl,B⟩;replace XR:=XR.below B;replace ha:=ha.below B;replace hb:=hb.below B;replace HB:=Hqb HB B;clear B
 go_wp2_with fail
 refine (vLenE ha HLA.out).mono ?_;rintro ee w3 ⟨rfl,B⟩;replace XR:=XR.below B;replace ha:=ha.below B;replace hb:=hb.below B;replace HB:=Hqb HB B;clear B;have hw1:=HW1.out;have hw2:=HW2.out;have hmz:=HMZ.out
 go_wp2_with fail
 refine (HM.out _ _ _ _ ha hn).mono ?_;rintro ee w4 ⟨A4,n4,c4,rfl,p4,k4,B⟩;replace XR:=XR.below B;replace ha:=ha.below B;replace hb:=hb.below B;replace HB:=Hqb HB B;clear B;clear hw1 hw2 hmz
 go_wp2_with fail
 refine (vDivE p4.rd hb (by omega) HB0.out HQ.out HRR.out).mono ?_;rintro ee w5 ⟨A5,n5,c5,B5,m5,d5,rfl,p5,r5,k5,l5,B⟩;replace XR:=XR.below B;replace hb:=hb.below B;replace p4:=p4.below B;replace HB:=Hqb HB B;clear B;clear hb p4
 have hne:((m5:Int)==0)=false:=by
  have:=r5.pos
  have:=H0.out
  have:(m5:Int)≠0:=by omega
  simpa using this
 have hne2:¬m5=0:=by have:=r5.pos;have:=H0.out;omega
 clear r5 H0;have hw3:=HW3.out;have hmx:=HMX.out;have xXR:=XR.cell;have zXR0:=XR.frozen;go_wp2;clear xXR zXR0;have SX:=StN.mk3 XR (.slice A5 n5 c5) (.bool false) (.int .i64 x);replace p5:=p5.stn SX (by simp [no32]);exact bodyPost_ret (v:= .agg #[.slice A5 n5 c5,.bool false,.int .i64 x]) (by simp [results,Tryz.results192,go_sem,SX.box.cell]) rfl ⟨A5,n5,c5,rfl,p5,by omega,(SX.below HB.out (by omega))⟩
theorem qdivided_n{w:World}{A B:Option Addr}{n c m d α β T Q R:Nat}{La Lb z e x:Int}(ha:Rd w A n c α)(hb:Rd w B m d β)(hn:n≤8000)(hβ:β≠0)(hla:((blen α:Nat):Int)=La)(hlb:((blen β:Nat):Int)=Lb)(hz:Lb-La+64=z)(z1: -200000≤z)(z2:z≤200000)(hx:e-z=x)(x1: -3000000≤x)(x2:x≤2097152)
  (hm:MV α z T false) (hQ:T/β=Q) (hR:T%β=R) (h0:True):Calls Tryz.prog 192 #[.slice A n c,.slice B m d,.int .i64 e] w (PQ7 w Q false x):=by
 have HM:=Lib.hid hm;have HLA:=Lib.hid hla;have HLB:=Lib.hid hlb;have HQ:=Lib.hid hQ;have HRR:=Lib.hid hR;have H0:=Lib.hid h0;have HB0:=Lib.hid hβ
 have e0:Lb-La=z-64:=by omega
 have HW1:Hid (IntKind.i64.wrap (Lb-La)=z-64):=Lib.hid (by rw [e0];exact IntWalk.i64_in _ (by omega))
 have HW2:Hid (wrap64 z=z):=Lib.hid (IntWalk.wrap64_in _ (by omega))
 have HW4:Hid (wrap64 x=x):=Lib.hid (IntWalk.wrap64_in _ (by omega))
 have HW3:Hid (IntKind.i64.wrap (e-z)=x):=Lib.hid (by rw [hx];exact IntWalk.i64_in _ (by omega))
 have hz3:z≤2097152:=by omega
 have HMZ:Hid (min z 2097152=z):=Lib.hid (by omega)
 have HMX:Hid (min x 2097152=x):=Lib.hid (by omega)
 clear hm hla hlb hz e0 hx hQ hR h0 hβ z1 z2 x1
 go_enter Tryz.func192,Tryz.ntmps192
 go_upto_region 1 with (fail)
 generalize hW1:w.alloc _=w1 at *;obtain⟨XR,HB⟩:=Bo.en1 hW1;replace ha:=ha.below HB.out;replace hb:=hb.below HB.out;clear hW1
 go_wp2_with fail
 refine (vLenE hb HLB.out).mono ?_;rintro ee w2 ⟨rfl,B⟩;replace XR:=XR.below B;replace ha:=ha.below B;replace hb:=hb.below B;replace HB:=Hqb HB B;clear B
 go_wp2_with fail
 refine (vLenE ha HLA.out).mono ?_;rintro ee w3 ⟨rfl,B⟩;replace XR:=XR.below B;replace ha:=ha.below B;replace hb:=hb.below B;replace HB:=Hqb HB B;clear B;have hw1:=HW1.out;have hw2:=HW2.out;have hmz:=HMZ.out
 go_wp2_with fail
 refine (HM.out _ _ _ _ ha hn).mono ?_;rintro ee w4 ⟨A4,n4,c4,rfl,p4,k4,B⟩;replace XR:=XR.below B;replace ha:=ha.below B;replace hb:=hb.below B;replace HB:=Hqb HB B;clear B;clear hw1 hw2 hmz
 go_wp2_with fail
 refine (vDivE p4.rd hb (by omega) HB0.out HQ.out HRR.out).mono ?_;rintro ee w5 ⟨A5,n5,c5,B5,m5,d5,rfl,p5,r5,k5,l5,B⟩;replace XR:=XR.below B;replace hb:=hb.below B;replace p4:=p4.below B;replace HB:=Hqb HB B;clear B;clear hb p4;clear r5 H0;have hw3:=HW3.out;have hmx:=HMX.out;have xXR:=XR.cell;have zXR0:=XR.frozen;go_wp2;clear xXR zXR0
 have SX:=StN.mk3 XR (.slice A5 n5 c5) (.bool false) (.int .i64 x);replace p5:=p5.stn SX (by simp [no32]);exact bodyPost_ret (v:= .agg #[.slice A5 n5 c5,.bool false,.int .i64 x]) (by simp [results,Tryz.results192,go_sem,SX.box.cell]) rfl ⟨A5,n5,c5,rfl,p5,by omega,(SX.below HB.out (by omega))⟩
theorem moved_up{α k:Nat}(hk:k≤200000):MV α (k:Int) (α*2^k) true:=fun w A n c h hn=>qmoved_up h hn hk rfl
theorem moved_dn{α k:Nat}{z:Int}(h0:0 < k)(hk:k≤200000)(hz: -z=(k:Int)):MV α z (α/2^k) (decide (α/2^k*2^k=α)):=fun w A n c h hn=>by
 refine qmoved_dn h hn hk h0 hz rfl rfl rfl ?_
 by_cases c:α/2^k*2^k=α
 ·rw [decide_eq_true c,c,cmpI_self]
  rfl
 ·rw [decide_eq_false c]
  have:¬cmpI ((α/2^k*2^k:Nat):Int) (α:Int)=0:=fun e=>c (by have:=cmpI_zero.1 e;omega)
  simpa using this
theorem qDivided{w:World}{A B:Option Addr}{n c m d α β:Nat}{e:Int}{P:Bool→Bool→Int→Prop}(ha:Rd w A n c α)(hb:Rd w B m d β)(hn:n≤3500)(hm:m≤3500)(hα:0 < α)(hβ:0 < β)(e1: -2200000≤e)(e2:e≤2200000)(e3:e-((blen β:Int)-(blen α:Int)+64)≤2097152)
  (hP:∀σ up r,Sid up (sgi σ ((α:Int)*2^(e+(KK:Int)).toNat)) (β:Int) r→P σ up r):Calls Tryz.prog 192 #[.slice A n c,.slice B m d,.int .i64 e] w (PP7 w P):=by
 have hba:=ha.blen_le;have hbb:=hb.blen_le;obtain⟨z,hz⟩:∃z:Int,(blen β:Int)-(blen α:Int)+64=z:=⟨_,rfl⟩;rw [hz]at e3
 have hn0:β≠0:=by omega
 have fin:∀{Q D:Nat} {t t':Bool},t'=t→decide (D=0)=t→(∀σ up,Sid up (sgi σ ((α:Int)*2^(e+(KK:Int)).toNat)) (β:Int) (rnd up (mk (sgi σ ((stk Q D:Nat):Int)) (e-z-1)).1 (mk (sgi σ ((stk Q D:Nat):Int)) (e-z-1)).2))→∀ee w',PQ7 w Q t' (e-z) ee w'→PP7 w P ee w':=by
  rintro Q D t t' rfl ht hs ee w' ⟨A',n',c',he,hnm,hk,hb'⟩
  exact⟨A',n',c',t',e-z,he,⟨Q,D,hnm,hk,ht,by omega,by omega,fun σ up=>hP σ up _ (hs σ up)⟩,hb'⟩
 rcases Int.lt_or_le z 0 with c0 | c0
 ·obtain⟨k,hk⟩:∃k:Nat,z= -(k:Int):=⟨z.natAbs,by omega⟩
  have mv:=moved_dn (α:=α) (k:=k) (z:=z) (by omega) (by omega) (by omega)
  have hs:=fun {D} (hd:D=0↔(α/2^k*2^k=α∧α/2^k%β=0)) (σ up:Bool)=>part_dn (e:=e) (d:=D) hα hβ (by omega) (by omega) e1 e2 hd σ up
  have ez:e+(k:Int)-1=e-z-1:=by omega
  rw [ez]at hs
  by_cases h1:α/2^k*2^k=α
  ·rw [decide_eq_true h1]at mv
   by_cases h2:α/2^k%β=0
   ·exact (qdivided_e ha hb (by omega) hn0 rfl rfl hz (by omega) (by omega) rfl (by omega) e3 mv rfl rfl h2).mono (fin (D:=0) rfl rfl (hs ⟨fun _=>⟨h1,h2⟩,fun _=>rfl⟩))
   ·exact (qdivided_l ha hb (by omega) hn0 rfl rfl hz (by omega) (by omega) rfl (by omega) e3 mv rfl rfl h2).mono (fin (D:=1) rfl rfl (hs ⟨fun h=>absurd h (by decide),fun h=>absurd h.2 h2⟩))
  ·rw [decide_eq_false h1]at mv
   exact (qdivided_n ha hb (by omega) hn0 rfl rfl hz (by omega) (by omega) rfl (by omega) e3 mv rfl rfl trivial).mono (fin (D:=1) rfl rfl (hs ⟨fun h=>absurd h (by decide),fun h=>absurd h.1 h1⟩))
 ·obtain⟨k,rfl⟩:∃k:Nat,z=(k:Int):=⟨z.toNat,by omega⟩
  have mv:=moved_up (α:=α) (k:=k) (by omega);have hs:=part_up (e:=e) hα hβ hz (by omega) (by omega) e1 e2
  by_cases h2:α*2^k%β=0
  ·exact (qdivided_e ha hb (by omega) hn0 rfl rfl hz (by omega) (by omega) rfl (by omega) e3 mv rfl rfl h2).mono (fin rfl (decide_eq_true h2) hs)
  ·exact (qdivided_l ha hb (by omega) hn0 rfl rfl hz (by omega) (by omega) rfl (by omega) e3 mv rfl rfl h2).mono (fin rfl (decide_eq_false h2) hs)
theorem and_one (e:Int):bits .and .i64 e 1=e%2:=by
 have h1:(BitVec.ofInt IntKind.i64.bits e &&& BitVec.ofInt IntKind.i64.bits 1).toNat=(e%18446744073709551616).toNat%2:=by
  rw [BitVec.toNat_and,BitVec.toNat_ofInt,BitVec.toNat_ofInt,show (1%((2^IntKind.i64.bits:Nat):Int)).toNat=1 by decide,Nat.and_one_is_mod]
  rfl
 show IntKind.i64.wrap ((BitVec.ofInt IntKind.i64.bits e &&& BitVec.ofInt IntKind.i64.bits 1).toNat:Int)=e%2
 rw [h1,IntWalk.i64_in _ (by omega)]
 omega
theorem stk_zero7 (q:Nat):stk q 0=q*2^1:=by
 unfold stk
 rw [if_pos rfl]
 omega
theorem stk_one7{q r:Nat}(h:r≠0):stk q r=q*2^1+1:=by
 unfold stk
 rw [if_neg h]
 omega
theorem sg_sgi7 (s:Bool)(a:Nat):sg s a=sgi s (a:Int):=by
 cases s
 ·rw [sg_false,wsg_f]
 ·rw [sg_true,wsg_t]
theorem lit_one7 (W:World):Rd (W.alloc (.cells #[.int .u32 1] 81)) (some ⟨W.heap.size,0,none⟩) 1 1 1:=
 ⟨_,[1],(Own.new W [1]).all (Lim.cons (by decide) Lim.nil) (by simp) (Nat.le_refl _),by decide⟩
theorem qround_e{w:World}{A:Option Addr}{n c q a0 a:Nat}{x r:Int}{σ up:Bool}(hT:Tab w)(h:Nm w A n c q)(hn:n≤20000)(h0:q*2^1=a0)(h1:a0=a)(x1: -3000000≤x)(x2:x≤3000000)(hr:rnd up (mk (sg σ a) (x-1)).1 (mk (sg σ a) (x-1)).2=r):Calls Tryz.prog 193 #[.agg #[.slice A n c,.bool true,.int .i64 x],.bool σ,.bool up] w (PN w r):=by
 have HA:=Lib.hid h0;have H1:=Lib.hid h1;have HR:=Lib.hid hr
 have HW:Hid (IntKind.i64.wrap (x-1)=x-1):=Lib.hid (IntWalk.i64_in _ (by omega))
 clear h0 h1 hr x1 x2
 go_enter Tryz.func193,Tryz.ntmps193
 go_upto_region 1 with (fail)
 generalize hW1:(w.alloc _).alloc _=w1 at *;obtain⟨X3,XR,HB⟩:=Bo.en2 hW1;replace hT:=hT.below HB.out;replace h:=h.below HB.out;clear hW1;have xX3:=X3.cell
 go_wp2_with fail
 refine (vShlE (s:=1) h.rd (by omega) (by decide) HA.out).mono ?_;rintro ee w2 ⟨A2,n2,c2,rfl,p2,k2,B⟩;clear xX3;replace X3:=X3.below B;replace XR:=XR.below B;replace hT:=hT.below B;replace h:=h.below B;replace HB:=Hqb HB B;clear B;clear h
 obtain rfl:=H1.out
 have xX3:=X3.cell
 go_upto_region 4 with (fail)
 clear xX3;refine Jo.rk [0,1,2,3,4,5,6,7,8] [some 17,some 18,some 19,some 20,some 21,some 22,some 23,some 24,some 25,none] [[],[],[0,1],[],[3],[4],[2,5],[],[6,7],[]] 10 1 [Jo.qb σ,Jo.Fact.eq (.slice A2 n2 c2),Jo.Fact.wn (sg σ a0) 30000,Jo.qp w.heap.size 2,Jo.qi x,Jo.Fact.eq (.int .i64 (x-1)),Jo.Fact.dy (sg σ a0) (x-1) 30000,Jo.qb up,Jo.Fact.num r,Jo.Fact.any] (by kernel_rfl) (by kernel_rfl) (by decide) rfl ?_ ?_
 ·iterate 2 (refine Jo.jm rfl ?_ ?_;rotate_left)
  refine Jo.jm rfl ?_ ?_
  ·rintro wj hJ _ rfl _ rfl K hK;simp only [Jo.z]at hK⊢;go_simp;refine (wMake σ (p2.below hJ).rd).mono ?_;rintro ee wk ⟨s7,A7,n7,c7,rfl,p7,k7,B⟩;exact hK.out _ _ ⟨s7,A7,n7,c7,rfl,p7,by omega⟩ B
  refine Jo.jm rfl ?_ ?_;rotate_left
  refine Jo.jm rfl ?_ ?_
  ·rintro wj hJ _ rfl K hK;simp only [Jo.z]at hK⊢;have xX32:=(X3.below hJ).a 2 (.int .i64 x) rfl;go_simp;exact hK.out _ _ rfl (br _ _)
  refine Jo.jm rfl ?_ ?_
  ·rintro wj hJ _ rfl K hK;simp only [Jo.z]at hK⊢;have hw:=HW.out;go_simp
   exact hK.out _ _ (by first | rfl | (show Value.int _ _=Value.int _ _;rw [hw])) (br _ _)
  refine Jo.jm rfl ?_ ?_
  ·rintro wj hJ _ ⟨s7,A7,n7,c7,rfl,p7,k7⟩ _ rfl K hK;simp only [Jo.z]at hK⊢;go_simp;exact hK.out _ _ ⟨s7,A7,n7,c7,rfl,p7,k7⟩ (br _ _)
  refine Jo.jm rfl ?_ ?_;rotate_left
  refine Jo.jm rfl ?_ ?_
  ·rintro wj hJ _ ⟨s8,A8,n8,c8,rfl,p8,k8⟩ _ rfl K hK;simp only [Jo.z]at hK⊢;go_simp;refine (nRound (hT.below hJ) p8.wr (by omega) rfl rfl HR.out).mono ?_;rintro ee wk ⟨K9,s9,M9,E9,rfl,q9,B⟩;exact hK.out _ _ ⟨K9,s9,M9,E9,rfl,q9⟩ B
  exact Jo.Steps.nil
  all_goals (rintro wj hJ;(repeat rintro _ rfl);intro K hK;simp only [Jo.z]at hK⊢;go_simp;exact hK.out _ _ rfl (br _ _))
 rintro w8 hJ _ rfl _ rfl _ ⟨_,_,_,_,rfl,_⟩ _ _ _ rfl _ rfl _ ⟨_,_,_,_,rfl,_⟩ _ rfl _ ⟨K9,s9,M9,E9,rfl,q9⟩ -;simp only [Jo.z];replace X3:=X3.below hJ;replace XR:=XR.below hJ;replace hT:=hT.below hJ;replace p2:=p2.below hJ;replace HB:=Hqb HB hJ;have xXR:=XR.cell;have zXR0:=XR.frozen
 refine Jo.jnext (i:=9) (o:=⟨none,_,_,_,_,_⟩) (by kernel_rfl) rfl (fun K hK=>?_)
 go_simp;refine hK.out _ _ ?_;clear hK K xXR zXR0;have SX:=StN.mk4 XR (.int .i64 K9) (.bool s9) (.int .u64 M9) (.int .i64 E9);refine Jo.jdone (by kernel_rfl) ?_;go_wp2;exact bodyPost_ret (by simp [results,Tryz.results193,go_sem,SX.box.cell]) rfl ⟨_,_,_,_,rfl,q9,(SX.below HB.out (by omega))⟩
theorem qround_l{w:World}{A:Option Addr}{n c q a0 a:Nat}{x r:Int}{σ up:Bool}(hT:Tab w)(h:Nm w A n c q)(hn:n≤20000)(h0:q*2^1=a0)(h1:a0+1=a)(x1: -3000000≤x)(x2:x≤3000000)(hr:rnd up (mk (sg σ a) (x-1)).1 (mk (sg σ a) (x-1)).2=r):Calls Tryz.prog 193 #[.agg #[.slice A n c,.bool false,.int .i64 x],.bool σ,.bool up] w (PN w r):=by
 have HA:=Lib.hid h0;have H1:=Lib.hid h1;have HR:=Lib.hid hr
 have HW:Hid (IntKind.i64.wrap (x-1)=x-1):=Lib.hid (IntWalk.i64_in _ (by omega))
 clear h0 h1 hr x1 x2
 go_enter Tryz.func193,Tryz.ntmps193
 go_upto_region 1 with (fail)
 generalize hW1:(w.alloc _).alloc _=w1 at *;obtain⟨X3,XR,HB⟩:=Bo.en2 hW1;replace hT:=hT.below HB.out;replace h:=h.below HB.out;clear hW1;have xX3:=X3.cell
 go_wp2_with fail
 refine (vShlE (s:=1) h.rd (by omega) (by decide) HA.out).mono ?_;rintro ee w2 ⟨A2,n2,c2,rfl,p2,k2,B⟩;clear xX3;replace X3:=X3.below B;replace XR:=XR.below B;replace hT:=hT.below B;replace h:=h.below B;replace HB:=Hqb HB B;clear B;clear h;have xX3:=X3.cell
 go_wp2_with fail
 refine (vAddE (p2.below (bel1 _ _)).rd (lit_one7 w2) (by omega) (by decide) H1.out).mono ?_;rintro ee w4 ⟨A4,n4,c4,rfl,p4,k4,B⟩;clear xX3;replace B:=bt (bel1 _ _) B;replace X3:=X3.below B;replace XR:=XR.below B;replace hT:=hT.below B;replace p2:=p2.below B;replace HB:=Hqb HB B;clear B;clear p2;have xX3:=X3.cell
 go_upto_region 4 with (fail)
 clear xX3;refine Jo.rk [0,1,2,3,4,5,6,7,8] [some 17,some 18,some 19,some 20,some 21,some 22,some 23,some 24,some 25,none] [[],[],[0,1],[],[3],[4],[2,5],[],[6,7],[]] 10 1 [Jo.qb σ,Jo.Fact.eq (.slice A4 n4 c4),Jo.Fact.wn (sg σ a) 30000,Jo.qp w.heap.size 2,Jo.qi x,Jo.Fact.eq (.int .i64 (x-1)),Jo.Fact.dy (sg σ a) (x-1) 30000,Jo.qb up,Jo.Fact.num r,Jo.Fact.any] (by kernel_rfl) (by kernel_rfl) (by decide) rfl ?_ ?_
 ·iterate 2 (refine Jo.jm rfl ?_ ?_;rotate_left)
  refine Jo.jm rfl ?_ ?_
  ·rintro wj hJ _ rfl _ rfl K hK;simp only [Jo.z]at hK⊢;go_simp;refine (wMake σ (p4.below hJ).rd).mono ?_;rintro ee wk ⟨s7,A7,n7,c7,rfl,p7,k7,B⟩;exact hK.out _ _ ⟨s7,A7,n7,c7,rfl,p7,by omega⟩ B
  refine Jo.jm rfl ?_ ?_;rotate_left
  refine Jo.jm rfl ?_ ?_
  ·rintro wj hJ _ rfl K hK;simp only [Jo.z]at hK⊢;have xX32:=(X3.below hJ).a 2 (.int .i64 x) rfl;go_simp;exact hK.out _ _ rfl (br _ _)
  refine Jo.jm rfl ?_ ?_
  ·rintro wj hJ _ rfl K hK;simp only [Jo.z]at hK⊢;have hw:=HW.out;go_simp
   exact hK.out _ _ (by first | rfl | (show Value.int _ _=Value.int _ _;rw [hw])) (br _ _)
  refine Jo.jm rfl ?_ ?_
  ·rintro wj hJ _ ⟨s7,A7,n7,c7,rfl,p7,k7⟩ _ rfl K hK;simp only [Jo.z]at hK⊢;go_simp;exact hK.out _ _ ⟨s7,A7,n7,c7,rfl,p7,k7⟩ (br _ _)
  refine Jo.jm rfl ?_ ?_;rotate_left
  refine Jo.jm rfl ?_ ?_
  ·rintro wj hJ _ ⟨s8,A8,n8,c8,rfl,p8,k8⟩ _ rfl K hK;simp only [Jo.z]at hK⊢;go_simp;refine (nRound (hT.below hJ) p8.wr (by omega) rfl rfl HR.out).mono ?_;rintro ee wk ⟨K9,s9,M9,E9,rfl,q9,B⟩;exact hK.out _ _ ⟨K9,s9,M9,E9,rfl,q9⟩ B
  exact Jo.Steps.nil
  all_goals (rintro wj hJ;(repeat rintro _ rfl);intro K hK;simp only [Jo.z]at hK⊢;go_simp;exact hK.out _ _ rfl (br _ _))
 rintro w8 hJ _ rfl _ rfl _ ⟨_,_,_,_,rfl,_⟩ _ _ _ rfl _ rfl _ ⟨_,_,_,_,rfl,_⟩ _ rfl _ ⟨K9,s9,M9,E9,rfl,q9⟩ -;simp only [Jo.z];replace X3:=X3.below hJ;replace XR:=XR.below hJ;replace hT:=hT.below hJ;replace p4:=p4.below hJ;replace HB:=Hqb HB hJ;have xXR:=XR.cell;have zXR0:=XR.frozen
 refine Jo.jnext (i:=9) (o:=⟨none,_,_,_,_,_⟩) (by kernel_rfl) rfl (fun K hK=>?_)
 go_simp;refine hK.out _ _ ?_;clear hK K xXR zXR0;have SX:=StN.mk4 XR (.int .i64 K9) (.bool s9) (.int .u64 M9) (.int .i64 E9);refine Jo.jdone (by kernel_rfl) ?_;go_wp2;exact bodyPost_ret (by simp [results,Tryz.results193,go_sem,SX.box.cell]) rfl ⟨_,_,_,_,rfl,q9,(SX.below HB.out (by omega))⟩
theorem qRound{w:World}{A:Option Addr}{n c:Nat}{t σ up:Bool}{x r:Int}{P:Bool→Bool→Int→Prop}(hT:Tab w)(h:Pk w A n c t x P)(hr:∀r',P σ up r'→r'=r):Calls Tryz.prog 193 #[.agg #[.slice A n c,.bool t,.int .i64 x],.bool σ,.bool up] w (PN w r):=by
 obtain⟨q,d,hnm,hk,ht,x1,x2,hp⟩:=h;have e:=hr _ (hp σ up);rw [←sg_sgi7]at e
 by_cases h0:d=0
 ·subst h0
  obtain rfl:true=t:=ht
  rw [stk_zero7]at e;exact qround_e hT hnm hk rfl rfl x1 x2 e
 ·obtain rfl:false=t:=by rw [←ht];exact (decide_eq_false h0).symm
  rw [stk_one7 h0]at e;exact qround_l hT hnm hk rfl rfl x1 x2 e
theorem ratio_pre{up s t:Bool}{z y r:Int}{α β:Nat}(hz:sg s α=z)(hy:sg t β=y)(hβ:0 < β)(hr:Rq up z y r):
  ∃P:Bool→Bool→Int→Prop,(∀σ up r',Sid up (sgi σ ((α:Int)*2^((0:Int)+(KK:Int)).toNat)) (β:Int) r'→P σ up r')∧(∀r',P (s !=t) up r'→r'=r):=by
 refine⟨_,fun _ _ _ h=>h,fun r' h=>?_⟩
 have:=rq_of hβ h
 rw [←sg_sgi7,←sg_sgi7,hz,hy]at this;exact this.uniq hr
theorem rq_nought{up:Bool}{y r:Int}(hy:y≠0)(h:Rq up 0 y r):r=0:=by
 have h1:=(rq_some hy).1 h
 have e:sgi (decide (y < 0)) 0*2^KK=(0:Int):=by
  have:sgi (decide (y < 0)) (0:Int)=0:=by cases decide (y < 0) <;> rfl
  rw [this,Int.zero_mul]
 rw [e]at h1
 exact h1.uniq (sg_pos hy) (sid_exact (r:=0) (sg_pos hy) (by decide) (by decide) (by rw [show vr 0=0 from rfl,Int.zero_mul]))
theorem kRatio0{w:World}{A B:Option Addr}{n c m d:Nat}{s t up:Bool}{z y r:Int}(hT:Tab w)(h:Wr w s A n c z)(k:Wr w t B m d y)(hn:n≤3500)(hm:m≤3500)(hr:Rq up z y r):Calls Tryz.prog 150 #[.agg #[.bool s,.slice A n c],.agg #[.bool t,.slice B m d],.bool up] w (PN w r):=by
 obtain⟨σ,hσ⟩:∃σ,cmpI y 0=σ:=⟨_,rfl⟩;obtain⟨τ,hτ⟩:∃τ,cmpI z 0=τ:=⟨_,rfl⟩;have HS:=Lib.hid hσ;have HZ:=Lib.hid hτ
 go_enter Tryz.func150,Tryz.ntmps150
 go_upto_region 1 with (fail)
 generalize hW1:((w.alloc _).alloc _).alloc _=w1 at *;obtain⟨X3,X4,XR,HB⟩:=Bo.en3 hW1;replace hT:=hT.below HB.out;replace h:=h.below HB.out;replace k:=k.below HB.out;clear hW1;have xX4:=X4.cell
 go_wp2_with fail
 refine (wSign k HS.out).mono ?_;rintro ee w2 ⟨rfl,B⟩;clear xX4;replace X3:=X3.below B;replace X4:=X4.below B;replace XR:=XR.below B;replace hT:=hT.below B;replace h:=h.below B;replace k:=k.below B;replace HB:=Hqb HB B;clear B
 by_cases hy0:y=0
 ·have hs0:(σ==0)=true:=by rw [←hσ,cmpI_eq hy0];rfl
  subst hy0;have HRR:=Lib.hid (rq_none.1 hr).symm;clear h k hT hr hσ hτ HS HZ
  go_wp2_with fail
  refine (qAway HRR.out).mono ?_;rintro ee w6 ⟨K3,s3,M3,E3,rfl,q3,B⟩;replace X3:=X3.below B;replace X4:=X4.below B;replace XR:=XR.below B;replace HB:=Hqb HB B;clear B;have xXR:=XR.cell;have zXR0:=XR.frozen;go_wp2;clear xXR zXR0;have SX:=StN.mk4 XR (.int .i64 K3) (.bool s3) (.int .u64 M3) (.int .i64 E3);exact bodyPost_ret (by simp [results,Tryz.results150,go_sem,SX.box.cell]) rfl ⟨_,_,_,_,rfl,q3,(SX.below HB.out (by omega))⟩
 ·have hs0:(σ==0)=false:=by
   have:σ≠0:=fun e=>hy0 (cmpI_zero.1 (hσ.trans e))
   simpa using this
  clear hσ HS;have xX3:=X3.cell
  go_wp2_with fail
  refine (wSign h HZ.out).mono ?_;rintro ee w3 ⟨rfl,B⟩;clear xX3;replace X3:=X3.below B;replace X4:=X4.below B;replace XR:=XR.below B;replace hT:=hT.below B;replace h:=h.below B;replace k:=k.below B;replace HB:=Hqb HB B;clear B
  by_cases hz0:z=0
  ·have hs1:(τ==0)=true:=by rw [←hτ,cmpI_eq hz0];rfl
   subst hz0
   obtain rfl:=rq_nought hy0 hr
   clear h k hT hr hτ HZ;have xXR:=XR.cell;have zXR0:=XR.frozen;have xX3:=X3.cell;have xX4:=X4.cell;go_wp2;clear xXR zXR0 xX3 xX4;have SX:=StN.mk4 XR (.int .i64 0) (.bool false) (.int .u64 0) (.int .i64 0);exact bodyPost_ret (by simp [results,Tryz.results150,go_sem,SX.box.cell]) rfl ⟨_,_,_,_,rfl,Fq.nought,(SX.below HB.out (by omega))⟩
  ·have hs1:(τ==0)=false:=by
    have:τ≠0:=fun e=>hz0 (cmpI_zero.1 (hτ.trans e))
    simpa using this
   clear hτ HZ;obtain⟨α,ha,hz⟩:=h;obtain⟨β,hb,hy⟩:=k
   have α0:0 < α:=by
    rcases Nat.eq_zero_or_pos α with e | e
    ·subst e
     exact absurd (show z=0 by rw [←hz];cases s <;> rfl) hz0
    ·exact e
   have β0:0 < β:=by
    rcases Nat.eq_zero_or_pos β with e | e
    ·subst e
     exact absurd (show y=0 by rw [←hy];cases t <;> rfl) hy0
    ·exact e
   obtain⟨P,hP,hPr⟩:=ratio_pre hz hy β0 hr;have hba:=ha.blen_le;have hbb:=hb.blen_le
   have eb3:(0:Int)-((blen β:Int)-(blen α:Int)+64)≤2097152:=by omega
   have HPP:=Lib.hid hP;have HPR:=Lib.hid hPr;clear hP hPr hr hz hy hz0 hy0 hba hbb
   go_upto_region 5 with (fail)
   refine Jo.rk [0,1,2,3,4,5,6,7,8,9,10,11] [some 18,some 19,some 20,some 21,some 22,some 23,some 24,some 25,some 26,some 27,some 28,some 29,none] [[],[0],[],[2],[1,3],[],[5],[],[7],[6,8],[],[4,9,10],[]] 13 1 [Jo.qp w.heap.size 1,Jo.Fact.eq (.slice A n c),Jo.qp (w.heap.size+1) 1,Jo.Fact.eq (.slice B m d),Jo.Fact.pk P,Jo.qp w.heap.size 0,Jo.qb s,Jo.qp (w.heap.size+1) 0,Jo.qb t,Jo.Fact.eq (.bool (s !=t)),Jo.qb up,Jo.Fact.num r,Jo.Fact.any] (by kernel_rfl) (by kernel_rfl) (by decide) rfl ?_ ?_
   ·refine Jo.jm rfl ?_ ?_;rotate_left
    refine Jo.jm rfl ?_ ?_
    ·rintro wj hJ _ rfl K hK;simp only [Jo.z]at hK⊢;have xX31:=(X3.below hJ).a 1 (.slice A n c) rfl;go_simp;exact hK.out _ _ rfl (br _ _)
    refine Jo.jm rfl ?_ ?_;rotate_left
    refine Jo.jm rfl ?_ ?_
    ·rintro wj hJ _ rfl K hK;simp only [Jo.z]at hK⊢;have xX41:=(X4.below hJ).a 1 (.slice B m d) rfl;go_simp;exact hK.out _ _ rfl (br _ _)
    refine Jo.jm rfl ?_ ?_
    ·rintro wj hJ _ rfl _ rfl K hK;simp only [Jo.z]at hK⊢;go_simp;refine (qDivided (ha.below hJ) (hb.below hJ) (by omega) (by omega) α0 β0 (by decide) (by decide) eb3 HPP.out).mono ?_;rintro ee wk ⟨A7,n7,c7,t7,x7,rfl,p7,B⟩;exact hK.out _ _ ⟨A7,n7,c7,t7,x7,rfl,p7⟩ B
    refine Jo.jm rfl ?_ ?_;rotate_left
    refine Jo.jm rfl ?_ ?_
    ·rintro wj hJ _ rfl K hK;simp only [Jo.z]at hK⊢;have xX30:=(X3.below hJ).a 0 (.bool s) rfl;go_simp;exact hK.out _ _ rfl (br _ _)
    refine Jo.jm rfl ?_ ?_;rotate_left
    refine Jo.jm rfl ?_ ?_
    ·rintro wj hJ _ rfl K hK;simp only [Jo.z]at hK⊢;have xX40:=(X4.below hJ).a 0 (.bool t) rfl;go_simp;exact hK.out _ _ rfl (br _ _)
    iterate 2 (refine Jo.jm rfl ?_ ?_;rotate_left)
    refine Jo.jm rfl ?_ ?_
    ·rintro wj hJ _ ⟨A7,n7,c7,t7,x7,rfl,p7⟩ _ rfl _ rfl K hK;simp only [Jo.z]at hK⊢;go_simp;refine (qRound (hT.below hJ) p7 HPR.out).mono ?_;rintro ee wk ⟨K9,s9,M9,E9,rfl,q9,B⟩;exact hK.out _ _ ⟨K9,s9,M9,E9,rfl,q9⟩ B
    exact Jo.Steps.nil
    all_goals (rintro wj hJ;(repeat rintro _ rfl);intro K hK;simp only [Jo.z]at hK⊢;go_simp;exact hK.out _ _ rfl (br _ _))
   rintro w8 hJ _ _ _ rfl _ _ _ rfl _ ⟨_,_,_,_,_,rfl,_⟩ _ _ _ rfl _ _ _ rfl _ rfl _ rfl _ ⟨K9,s9,M9,E9,rfl,q9⟩ -;simp only [Jo.z];replace X3:=X3.below hJ;replace X4:=X4.below hJ;replace XR:=XR.below hJ;replace hT:=hT.below hJ;replace ha:=ha.below hJ;replace hb:=hb.below hJ;replace HB:=Hqb HB hJ;have xXR:=XR.cell;have zXR0:=XR.frozen
   refine Jo.jnext (i:=12) (o:=⟨none,_,_,_,_,_⟩) (by kernel_rfl) rfl (fun K hK=>?_)
   go_simp;refine hK.out _ _ ?_;clear hK K xXR zXR0;have SX:=StN.mk4 XR (.int .i64 K9) (.bool s9) (.int .u64 M9) (.int .i64 E9);refine Jo.jdone (by kernel_rfl) ?_;go_wp2;exact bodyPost_ret (by simp [results,Tryz.results150,go_sem,SX.box.cell]) rfl ⟨_,_,_,_,rfl,q9,(SX.below HB.out (by omega))⟩
theorem kRatio{w:World}{A B:Option Addr}{n c m d:Nat}{s t up:Bool}{z y r:Int}(hT:Tab w)(h:Wr w s A n c z)(k:Wr w t B m d y)(hn:n≤20)(hm:m≤20)(hr:Rq up z y r):Calls Tryz.prog 150 #[.agg #[.bool s,.slice A n c],.agg #[.bool t,.slice B m d],.bool up] w (PN w r):=kRatio0 hT h k (by omega) (by omega) hr
end Go.Proofs.YtaadmpiphnfllaaGreatDoor
