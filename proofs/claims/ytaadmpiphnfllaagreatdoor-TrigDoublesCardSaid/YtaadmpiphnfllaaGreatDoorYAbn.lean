/-
 Contracts that the proof rests on.
-/
import Derived.Test.YtaadmpiphnfllaaGreatDoorYAbm
namespace Go.Proofs.YtaadmpiphnfllaaGreatDoor
set_option maxHeartbeats 16000000
open Go.RowKit
set_option linter.unusedVariables false
set_option linter.unusedSimpArgs false
set_option maxRecDepth 100000
theorem StN.of10 {w w1 : World} {g : Nat} {T : TypeId} {a0 a1 a2 a3 a4 a5 a6 a7 a8 a9 v0 v1 v2 v3 v4 v5 v6 v7 v8 v9 : Value} (X : Bo w g #[a0, a1, a2, a3, a4, a5, a6, a7, a8, a9] T) (h : ((((((((((w.setCell ⟨g, 0, none⟩ v0).setCell ⟨g, 1, none⟩ v1).setCell ⟨g, 2, none⟩ v2).setCell ⟨g, 3, none⟩ v3).setCell ⟨g, 4, none⟩ v4).setCell ⟨g, 5, none⟩ v5).setCell ⟨g, 6, none⟩ v6).setCell ⟨g, 7, none⟩ v7).setCell ⟨g, 8, none⟩ v8).setCell ⟨g, 9, none⟩ v9) = w1) : StN w w1 g #[a0, a1, a2, a3, a4, a5, a6, a7, a8, a9] #[v0, v1, v2, v3, v4, v5, v6, v7, v8, v9] T := h ▸ StN.mk10 X v0 v1 v2 v3 v4 v5 v6 v7 v8 v9
def Nq (w:World)(A:Option Addr)(n c:Nat)(l:List Int):Prop:=
 l.length=n∧n≤c∧n≤1000∧(0 < n→∃b o,A=some ⟨b,o,none⟩∧∀k,k < n→∃D s M E,w.cell? ⟨b,o+k*4,none⟩=some (.int .i64 D)∧w.cell? ⟨b,o+k*4+1,none⟩=some (.bool s)∧w.cell? ⟨b,o+k*4+2,none⟩=some (.int .u64 M)∧w.cell? ⟨b,o+k*4+3,none⟩=some (.int .i64 E)∧Fq D s M E (l.getD k 0))
theorem Nq.below{w w':World}{A:Option Addr}{n c:Nat}{l:List Int}(h:Nq w A n c l)(hb:Below w.heap.size w w'):Nq w' A n c l:=by
 obtain⟨h1,h2,h3,h4⟩:=h
 refine⟨h1,h2,h3,fun hn=>?_⟩
 obtain⟨b,o,e,hc⟩:=h4 hn
 refine⟨b,o,e,fun k hk=>?_⟩
 obtain⟨K,s,M,E,c0,c1,c2,c3,q⟩:=hc k hk
 have t:∀{i:Nat} {v:Value},w.cell? ⟨b,i,none⟩=some v→w'.cell? ⟨b,i,none⟩=some v:=fun c=>(hb.cell (p:=⟨b,_,none⟩) (block_lt_of_cell c)).trans c
 exact⟨K,s,M,E,t c0,t c1,t c2,t c3,q⟩
theorem Nq.of2{w:World}{g:Nat}{K1 K2 M1 M2 E1 E2 r1 r2:Int}{s1 s2:Bool}(X:Bo w g #[.int .i64 K1,.bool s1,.int .u64 M1,.int .i64 E1,.int .i64 K2,.bool s2,.int .u64 M2,.int .i64 E2] 24)
  (q1:Fq K1 s1 M1 E1 r1) (q2:Fq K2 s2 M2 E2 r2):Nq w (some ⟨g,0,none⟩) 2 2 [r1,r2]:=by
 refine⟨rfl,Nat.le_refl _,by decide,fun _=>⟨_,0,rfl,fun k hk=>?_⟩⟩
 rcases (by omega:k=0∨k=1)with rfl | rfl
 ·exact⟨K1,s1,M1,E1,X.at rfl,X.at rfl,X.at rfl,X.at rfl,q1⟩
 ·exact⟨K2,s2,M2,E2,X.at rfl,X.at rfl,X.at rfl,X.at rfl,q2⟩
def Jo.Fact.nq (n:Nat)(l:List Int):Jo.Fact:=⟨fun v w=>∃A c,v= .slice A n c∧Nq w A n c l,fun v w w' h b=>by
 obtain⟨A,c,e,h⟩:=h;exact⟨A,c,e,h.below b⟩⟩
def Jo.Fact.ia (base n:Nat)(l:List Sp):Jo.Fact:=⟨fun v w=>∃A c,v= .slice A n c∧Ia w base A n c l,fun v w w' h b=>by
 obtain⟨A,c,e,h⟩:=h;exact⟨A,c,e,h.below b⟩⟩
def Jo.Fact.crs (base:Nat)(cos:Bool)(x y j:Int):Jo.Fact:=⟨fun v w=>∃k A n c,v= .slice A n c∧Ia w base A n c (crL cos x y j k)∧n≤6∧y < loZ (crZ cos (j+(k:Nat))),fun v w w' h b=>by
 obtain⟨k,A,n,c,e,h,p,q⟩:=h;exact⟨k,A,n,c,e,h.below b,p,q⟩⟩
def Jo.Fact.arc (a0 a1 a2 a3 a4 a5:Value)(x y:Int)(K:Nat):Jo.Fact:=⟨fun v w=>∃s1 A1 n1 c1 s2 A2 n2 c2,v= .agg #[a0,a1,a2,a3,a4,a5,.bool s1,.slice A1 n1 c1,.bool s2,.slice A2 n2 c2]∧Wn w s1 A1 n1 c1 x∧Wn w s2 A2 n2 c2 y∧n1≤K∧n2≤K,fun v w w' h b=>by
 obtain⟨s1,A1,n1,c1,s2,A2,n2,c2,e,p,q,k,l⟩:=h;exact⟨s1,A1,n1,c1,s2,A2,n2,c2,e,p.below b,q.below b,k,l⟩⟩
theorem Fq.nn{K:Int}{s:Bool}{M E r:Int}(h:Fq K s M E r):0≤M:=by
 rcases h.1 with⟨_,_,rfl,_⟩ | h | ⟨_,rfl,_⟩
 ·exact Int.le_refl _
 ·have:=h
  omega
 ·exact Int.le_refl _
theorem Bo.grownLt{w w':World}{g base:Nat}{a:Array Value}{T:TypeId}{A:Option Addr}(X:Bo w g a T)(hb:∀k,ownA A=some k→base≤k)(hg:g < base)(G:w.grownBy w' (ownA A)):Bo w' g a T:=
 X.keep (G.block g X.lt (fun e=>by have:=hb g (by first | exact e | exact e.symm);omega))
theorem take1{l:List Sp}{k:Nat}{z:Sp}(h:k < l.length)(hz:l.getD k none=z):l.take (k+1)=l.take k ++[z]:=by
 rw [List.take_succ_eq_append_getElem h,←hz]
 simp [List.getD_eq_getElem?_getD,h]
theorem tEach{w:World}{fid:FuncId}{cos:Bool}{o:Int}{s1 s2:Bool}{A1 A2:Option Addr}{n1 c1 n2 c2:Nat}{A:Option Addr}{n c:Nat}{l:List Int}{zs:List Sp}(hT:Tab w)(hah:AhQ fid cos)(p1:Wn w s1 A1 n1 c1 PLo)(p2:Wn w s2 A2 n2 c2 PHi)(k1:n1≤7)(k2:n2≤7)(h:Nq w A n c l)(hz:zs.length=n)(hS:∀k,k < n→Sv cos (l.getD k 0) (zs.getD k none)):Calls Tryz.prog 111 #[.func (.func 56) #[.agg #[.func (.func fid) #[] #[],.int .i64 o,.bool s1,.slice A1 n1 c1,.bool s2,.slice A2 n2 c2]] #[],.slice A n c] w (fun e w'=>∃A2 c2,e= .returned (.slice A2 n c2)∧Ia w' w.heap.size A2 n c2 zs∧Below w.heap.size w w'):=by
 have HLn:=Lib.hid hz;have hcap:=h.2.1;have hbig:=h.2.2.1;have hD0:=h;have HAH:=Lib.hid hah;have HSS:=Lib.hid hS;clear h hz hah hS
 go_enter Tryz.func111,Tryz.ntmps111
 go_wp2
 go_loopw [5,10] (fun va i wr=>∃k A1 c1,k≤n∧va= .slice A1 k c1∧i= .int .i64 ((k:Nat):Int)∧Ia wr w.heap.size A1 k c1 (zs.take k)∧Below w.heap.size w wr) (fun _ i _=>n-(intOf i).toNat)
 case atStart=>exact ⟨0,_,_,Nat.zero_le _,rfl,rfl,Ia.nil _ _,Below.refl _ _⟩
 case round=>
  obtain⟨k,A3,c3,hk,rfl,rfl,N,hB⟩:=hrel;have HB:=Lib.hid hB;clear hB
  by_cases hlt:k < n
  ·have tlt:decide ((k:Int) < (n:Int))=true:=by simp;omega
   have h:=hD0.below HB.out;obtain⟨b,bo,rfl,hcell⟩:=h.2.2.2 (by omega);obtain⟨D,s,M,E,x0,x1,x2,x3,q⟩:=hcell k hlt;have hv:=HSS.out k hlt;clear hcell h hD0
   have i1:(k:Int) < n:=by omega
   have i2:(0:Int)≤k:=by omega
   obtain⟨z,hz⟩:∃z,zs.getD k none=z:=⟨_,rfl⟩;have htk:=take1 (by rw [HLn.out];exact hlt) hz;rw [hz]at hv;generalize l.getD k 0=x at *;generalize zs.take k=la at *;have HTK:=Lib.hid htk;have HV:=Lib.hid hv;clear htk hv hz HSS;have hsz:=HB.out.size
   go_upto_region 5 with (fail)
   clear x0 x1 x2 x3;have lX5:=Nat.le_refl (World.heap wr).size;generalize hWn:wr.alloc _=w3 at *;obtain⟨X5,BW⟩:=Bo.nw hWn;clear hWn;replace N:=N.below BW;replace HB:=Hqb HB BW;clear BW;clear lX5;have q1:=p1.below HB.out;have q2:=p2.below HB.out;have qT:=hT.below HB.out;have xX5:=X5.cell
   go_wp2_with fail
   refine (tAt qT HAH.out q1 q2 k1 k2 q.nn q.top q.rk HV.out).mono ?_;rintro ee w4 ⟨e31,K31,s31,M31,E31,K31b,s31b,M31b,E31b,rfl,v31,B⟩;clear xX5;replace X5:=X5.below B;replace N:=N.below B;replace HB:=Hqb HB B;clear B;clear q1 q2 qT
   go_wp2_with (at_builtin;refine wpList_ia rfl _ _ rfl rfl rfl (N.below (bel1 _ _)) (Ia.lit (Bo.new _ _ _) v31) (by decide) (by omega) (Nat.le_trans HB.out.size (bel1 _ _).size) ?_)
   intro A5 d5 w9 N' G1 at1
   have hB2:=bt HB.out (bel1 _ (.cells #[.bool e31,.int .i64 K31,.bool s31,.int .u64 M31,.int .i64 E31,.int .i64 K31b,.bool s31b,.int .u64 M31b,.int .i64 E31b] 32));have Nb:=N.below (bel1 _ (.cells #[.bool e31,.int .i64 K31,.bool s31,.int .u64 M31,.int .i64 E31,.int .i64 K31b,.bool s31b,.int .u64 M31b,.int .i64 E31b] 32))
   replace HB:=Lib.hid (hB2.grown G1 hB2.size (fun k hk=>(Nb.own_lt k hk).1))
   clear N Nb G1 hB2 at1 X5;go_wp2
   go_roundw
   case rel=>exact ⟨k+1,_,_,by omega,rfl,by go_num,by rw [HTK.out];exact N',HB.out⟩
   case measure=>simp [intOf];omega
  ·obtain rfl:k=n:=by omega
   have tlt:decide ((k:Int) < (k:Int))=false:=by simp
   have e1:zs.take k=zs:=List.take_of_length_le (by rw [HLn.out];omega)
   rw [e1]at N;go_wp2
   go_ret
   exact⟨_,_,rfl,N,HB.out⟩
theorem tAroundB{w:World}{D D' M M' E E':Int}{s s':Bool}{a b ga gb:Int}{nb:Bool}(hT:Tab w)(h0:0≤M)(hM:M < 18446744073709551616)(h0':0≤M')(hM':M' < 18446744073709551616)(ha:rk D s M E=a)(hb:rk D' s' M' E'=b)(hga:fixI a=ga)(hgb:fixI b=gb)(hn:(fixB a && fixB b)=nb):Calls Tryz.prog 97 #[.agg #[.int .i64 D,.bool s,.int .u64 M,.int .i64 E],.agg #[.int .i64 D',.bool s',.int .u64 M',.int .i64 E']] w (PSB w 140010 ga (gb+1) nb):=hn▸tAround hT h0 hM h0' hM' ha hb hga hgb rfl rfl
theorem meetOne{x:Sp}(hx:SpOk x):meetL [x]=x:=meet_all hx
theorem cmp_ge13{x y c:Int}(h:cmpI x y=c):decide (0≤c)=decide (y≤x):=by
 rw [←h]
 by_cases e:y≤x
 ·rw [decide_eq_true e]
  exact decide_eq_true (by rcases cmpI_tri x y with⟨a,b⟩ | ⟨a,b⟩ | ⟨a,b⟩ <;> rw [b] <;> omega)
 ·rw [decide_eq_false e]
  exact decide_eq_false (by rcases cmpI_tri x y with⟨a,b⟩ | ⟨a,b⟩ | ⟨a,b⟩ <;> rw [b] <;> omega)
theorem tover_none{w:World}{fid:FuncId}{cos:Bool}{o:Int}{s1 s2:Bool}{A1 A2:Option Addr}{n1 c1 n2 c2:Nat}{e:Bool}{D M E D' M' E':Int}{s s':Bool}(hT:Tab w)(hT2:Tb w)(hah:AhQ fid cos)(p1:Wn w s1 A1 n1 c1 PLo)(p2:Wn w s2 A2 n2 c2 PHi)(k1:n1≤7)(k2:n2≤7)(hM:LQ M)(hM':LQ M')(hx:rkI e D s M E D' s' M' E'=none):Calls Tryz.prog 59 #[.agg #[.func (.func fid) #[] #[],.int .i64 o,.bool s1,.slice A1 n1 c1,.bool s2,.slice A2 n2 c2],VI e D s M E D' s' M' E'] w (PV w none):=by
 delta VI
 have hml:meetL [none]=none:=meetOne (by rw [←hx];exact rkI_ok hM hM')
 have HX:=Lib.hid hx;have HML:=Lib.hid hml;have HAH:=Lib.hid hah;clear hx hml hah
 go_enter Tryz.func59,Tryz.ntmps59
 go_upto_region 1 with (fail)
 generalize hW1:((w.alloc _).alloc _).alloc _=w1 at *;obtain⟨X2,X3,XR,HB⟩:=Bo.en3 hW1;replace hT:=hT.below HB.out;replace hT2:=hT2.below HB.out;replace p1:=p1.below HB.out;replace p2:=p2.below HB.out;clear hW1;have xX3:=X3.cell
 go_wp2_with fail
 refine (kvMeet (Il8.lit1 rfl ⟨hM,hM',HX.out⟩) HML.out).mono ?_;rintro ee w2 ⟨e10,K10,s10,M10,E10,K10b,s10b,M10b,E10b,rfl,v10,B⟩;replace B:=bt (bel1 _ (.cells #[.bool e,.int .i64 D,.bool s,.int .u64 M,.int .i64 E,.int .i64 D',.bool s',.int .u64 M',.int .i64 E'] 32)) B;clear xX3;replace X2:=X2.below B;replace X3:=X3.below B;replace XR:=XR.below B
 replace hT:=hT.below B;replace hT2:=hT2.below B;replace p1:=p1.below B;replace p2:=p2.below B;replace HB:=Hqb HB B;clear B;have xX3:=X3.cell;have zX30:=X3.frozen
 go_upto_region 2 with (fail)
 clear xX3 zX30;generalize hS:((((((((w2.setCell _ _).setCell _ _).setCell _ _).setCell _ _).setCell _ _).setCell _ _).setCell _ _).setCell _ _).setCell _ _=w3 at *;have SX:=StN.of9 X3 hS;replace X2:=X2.stn SX (by omega);replace XR:=XR.stn SX (by omega);replace hT:=hT.stn SX (by simp [no8]);replace hT2:=hT2.stn SX (by simp [no8]);replace p1:=p1.stn SX (by simp [no32])
 replace p2:=p2.stn SX (by simp [no32]);replace HB:=Hqs HB SX (by omega);replace X3:=SX.box;clear SX hS;obtain⟨rfl,rfl,rfl,rfl,rfl,rfl,rfl,rfl,rfl⟩:=v10.uniq Ci.none;clear v10;refine Jo.rk [0,1,2] [some 11,some 12,some 13] [[],[],[0,1]] 3 0 [Jo.q9 true 0 false 0 0 0 false 0 0,Jo.q9 true 0 false 0 0 0 false 0 0,Jo.qb true] (by kernel_rfl) (by kernel_rfl) (by decide) rfl ?_ ?_
 ·refine Jo.jm rfl ?_ ?_
  ·rintro wj hJ K hK;simp only [Jo.z]at hK⊢;have xX3:=(X3.below hJ).cell;go_simp;exact hK.out _ _ rfl (br _ _)
  refine Jo.jm rfl ?_ ?_
  ·rintro wj hJ K hK;simp only [Jo.z]at hK⊢;go_simp;refine (kvNoneE).mono ?_;rintro ee wk ⟨rfl,B⟩;exact hK.out _ _ rfl B
  refine Jo.jm rfl ?_ ?_
  ·rintro wj hJ _ rfl _ rfl K hK;simp only [Jo.z]at hK⊢;go_simp
   repeat' split
   all_goals exact hK.out _ _ (congrArg Value.bool (by first | rfl | (exfalso;simp_all) | simp_all)) (br _ _)
  exact Jo.Steps.nil
 rintro w4 hJ _ rfl _ rfl _ rfl -;simp only [Jo.z];replace X2:=X2.below hJ;replace X3:=X3.below hJ;replace XR:=XR.below hJ;replace hT:=hT.below hJ;replace hT2:=hT2.below hJ;replace p1:=p1.below hJ;replace p2:=p2.below hJ;replace HB:=Hqb HB hJ;refine Jo.jdone (by kernel_rfl) ?_;clear hT hT2 p1 p2;have xXR:=XR.cell
 have zXR0:=XR.frozen;have xX3:=X3.cell;go_wp2;clear xXR zXR0 xX3;have SX:=StN.mk9 XR (.bool true) (.int .i64 0) (.bool false) (.int .u64 0) (.int .i64 0) (.int .i64 0) (.bool false) (.int .u64 0) (.int .i64 0);exact bodyPost_ret (by simp [results,Tryz.results59,go_sem,SX.box.cell]) rfl ⟨_,_,_,_,_,_,_,_,_,rfl,Ci.none,(SX.below HB.out (by omega))⟩
theorem tover_far{w:World}{fid:FuncId}{cos:Bool}{o:Int}{s1 s2:Bool}{A1 A2:Option Addr}{n1 c1 n2 c2:Nat}{e:Bool}{D M E D' M' E':Int}{s s':Bool}(hT:Tab w)(hT2:Tb w)(hah:AhQ fid cos)(p1:Wn w s1 A1 n1 c1 PLo)(p2:Wn w s2 A2 n2 c2 PHi)(k1:n1≤7)(k2:n2≤7)(hM:LQ M)(hM':LQ M'){a b:Int}(hn:(fixB a && fixB b)=false)(hx:rkI e D s M E D' s' M' E'=(some (a,b))):Calls Tryz.prog 59 #[.agg #[.func (.func fid) #[] #[],.int .i64 o,.bool s1,.slice A1 n1 c1,.bool s2,.slice A2 n2 c2],VI e D s M E D' s' M' E'] w (PV w unitI):=by
 delta VI
 have hml:meetL [(some (a,b))]=(some (a,b)):=meetOne (by rw [←hx];exact rkI_ok hM hM')
 have HX:=Lib.hid hx;have HML:=Lib.hid hml;have HAH:=Lib.hid hah;clear hx hml hah;obtain⟨ga,hga⟩:∃g,fixI a=g:=⟨_,rfl⟩;obtain⟨gb,hgb⟩:∃g,fixI b=g:=⟨_,rfl⟩;have HGA:=Lib.hid hga;have HGB:=Lib.hid hgb;have HN:=Lib.hid hn;clear hga hgb hn
 go_enter Tryz.func59,Tryz.ntmps59
 go_upto_region 1 with (fail)
 generalize hW1:((w.alloc _).alloc _).alloc _=w1 at *;obtain⟨X2,X3,XR,HB⟩:=Bo.en3 hW1;replace hT:=hT.below HB.out;replace hT2:=hT2.below HB.out;replace p1:=p1.below HB.out;replace p2:=p2.below HB.out;clear hW1;have xX3:=X3.cell
 go_wp2_with fail
 refine (kvMeet (Il8.lit1 rfl ⟨hM,hM',HX.out⟩) HML.out).mono ?_;rintro ee w2 ⟨e10,K10,s10,M10,E10,K10b,s10b,M10b,E10b,rfl,v10,B⟩;replace B:=bt (bel1 _ (.cells #[.bool e,.int .i64 D,.bool s,.int .u64 M,.int .i64 E,.int .i64 D',.bool s',.int .u64 M',.int .i64 E'] 32)) B;clear xX3;replace X2:=X2.below B;replace X3:=X3.below B;replace XR:=XR.below B
 replace hT:=hT.below B;replace hT2:=hT2.below B;replace p1:=p1.below B;replace p2:=p2.below B;replace HB:=Hqb HB B;clear B;have xX3:=X3.cell;have zX30:=X3.frozen
 go_upto_region 2 with (fail)
 clear xX3 zX30;generalize hS:((((((((w2.setCell _ _).setCell _ _).setCell _ _).setCell _ _).setCell _ _).setCell _ _).setCell _ _).setCell _ _).setCell _ _=w3 at *;have SX:=StN.of9 X3 hS;replace X2:=X2.stn SX (by omega);replace XR:=XR.stn SX (by omega);replace hT:=hT.stn SX (by simp [no8]);replace hT2:=hT2.stn SX (by simp [no8]);replace p1:=p1.stn SX (by simp [no32])
 replace p2:=p2.stn SX (by simp [no32]);replace HB:=Hqs HB SX (by omega);replace X3:=SX.box;clear SX hS
 obtain rfl:e10=false:=v10.1
 refine Jo.rk [0,1,2] [some 11,some 12,some 13] [[],[],[0,1]] 3 0 [Jo.q9 false K10 s10 M10 E10 K10b s10b M10b E10b,Jo.q9 true 0 false 0 0 0 false 0 0,Jo.qb false] (by kernel_rfl) (by kernel_rfl) (by decide) rfl ?_ ?_
 ·refine Jo.jm rfl ?_ ?_
  ·rintro wj hJ K hK;simp only [Jo.z]at hK⊢;have xX3:=(X3.below hJ).cell;go_simp;exact hK.out _ _ rfl (br _ _)
  refine Jo.jm rfl ?_ ?_
  ·rintro wj hJ K hK;simp only [Jo.z]at hK⊢;go_simp;refine (kvNoneE).mono ?_;rintro ee wk ⟨rfl,B⟩;exact hK.out _ _ rfl B
  refine Jo.jm rfl ?_ ?_
  ·rintro wj hJ _ rfl _ rfl K hK;simp only [Jo.z]at hK⊢;go_simp
   repeat' split
   all_goals exact hK.out _ _ (congrArg Value.bool (by first | rfl | (exfalso;simp_all))) (br _ _)
  exact Jo.Steps.nil
 rintro w4 hJ _ rfl _ rfl _ rfl -;simp only [Jo.z];replace X2:=X2.below hJ;replace X3:=X3.below hJ;replace XR:=XR.below hJ;replace hT:=hT.below hJ;replace hT2:=hT2.below hJ;replace p1:=p1.below hJ;replace p2:=p2.below hJ;replace HB:=Hqb HB hJ;refine Jo.jdone (by kernel_rfl) ?_;obtain⟨_,qa,qb,oab,oa,ob⟩:=v10
 have v10:Ci false K10 s10 M10 E10 K10b s10b M10b E10b (some (a,b)):=⟨rfl,qa,qb,oab,oa,ob⟩
 go_upto_region 4 with (fail)
 have xX3:=X3.cell
 go_wp2_with fail
 refine (tAroundB hT qa.nn qa.top qb.nn qb.top qa.rk qb.rk HGA.out HGB.out HN.out).mono ?_;rintro ee w5 ⟨s20,A20,n20,c20,s21,A21,n21,c21,rfl,p20,p21,k20,k21,B⟩;clear xX3;replace X2:=X2.below B;replace X3:=X3.below B;replace XR:=XR.below B;replace hT:=hT.below B;replace hT2:=hT2.below B;replace p1:=p1.below B;replace p2:=p2.below B
 replace HB:=Hqb HB B;clear B
 go_upto_region 5 with (fail)
 have lX5:=Nat.le_refl (World.heap w5).size;have nX5X2:=X2.lt;have nX5X3:=X3.lt;have nX5XR:=XR.lt;generalize hWn:w5.alloc _=w6 at *;obtain⟨X5,BW⟩:=Bo.nw hWn;clear hWn;replace X2:=X2.below BW;replace X3:=X3.below BW;replace XR:=XR.below BW;replace hT:=hT.below BW;replace hT2:=hT2.below BW;replace p1:=p1.below BW;replace p2:=p2.below BW;replace p20:=p20.below BW
 replace p21:=p21.below BW;replace HB:=Hqb HB BW;clear BW;clear lX5;clear p20 p21 p1 p2 hT hT2
 go_wp2_with fail
 refine (tUnit).mono ?_;rintro ee w7 ⟨e40,K40,s40,M40,E40,K40b,s40b,M40b,E40b,rfl,v40,B⟩;replace X2:=X2.below B;replace X3:=X3.below B;replace XR:=XR.below B;replace X5:=X5.below B;replace HB:=Hqb HB B;clear B;have xXR:=XR.cell;have zXR0:=XR.frozen;go_wp2;clear xXR zXR0
 have SX:=StN.mk9 XR (.bool e40) (.int .i64 K40) (.bool s40) (.int .u64 M40) (.int .i64 E40) (.int .i64 K40b) (.bool s40b) (.int .u64 M40b) (.int .i64 E40b);exact bodyPost_ret (by simp [results,Tryz.results59,go_sem,SX.box.cell]) rfl ⟨_,_,_,_,_,_,_,_,_,rfl,v40,(SX.below HB.out (by omega))⟩
theorem tover_wide{w:World}{fid:FuncId}{cos:Bool}{o:Int}{s1 s2:Bool}{A1 A2:Option Addr}{n1 c1 n2 c2:Nat}{e:Bool}{D M E D' M' E':Int}{s s':Bool}(hT:Tab w)(hT2:Tb w)(hah:AhQ fid cos)(p1:Wn w s1 A1 n1 c1 PLo)(p2:Wn w s2 A2 n2 c2 PHi)(k1:n1≤7)(k2:n2≤7)(hM:LQ M)(hM':LQ M'){a b:Int}(hn:(fixB a && fixB b)=true)(hw:decide (opl 7≤widI (some (a,b)))=true)(hx:rkI e D s M E D' s' M' E'=(some (a,b))):Calls Tryz.prog 59 #[.agg #[.func (.func fid) #[] #[],.int .i64 o,.bool s1,.slice A1 n1 c1,.bool s2,.slice A2 n2 c2],VI e D s M E D' s' M' E'] w (PV w unitI):=by
 delta VI
 have hml:meetL [(some (a,b))]=(some (a,b)):=meetOne (by rw [←hx];exact rkI_ok hM hM')
 have HX:=Lib.hid hx;have HML:=Lib.hid hml;have HAH:=Lib.hid hah;clear hx hml hah;obtain⟨ga,hga⟩:∃g,fixI a=g:=⟨_,rfl⟩;obtain⟨gb,hgb⟩:∃g,fixI b=g:=⟨_,rfl⟩;have HGA:=Lib.hid hga;have HGB:=Lib.hid hgb;clear hga hgb;obtain⟨wd,hwd⟩:∃u,widI (some (a,b))=u:=⟨_,rfl⟩;obtain⟨σ,hσ⟩:∃σ,cmpI wd (opl 7)=σ:=⟨_,rfl⟩;have e1:=cmp_ge13 hσ;rw [hwd]at hw
 rw [hw]at e1;have HWD:=Lib.hid hwd;have HS:=Lib.hid hσ;have HE1:=Lib.hid e1;have HN:=Lib.hid hn;clear hwd hσ e1 hn;clear hw
 go_enter Tryz.func59,Tryz.ntmps59
 go_upto_region 1 with (fail)
 generalize hW1:((w.alloc _).alloc _).alloc _=w1 at *;obtain⟨X2,X3,XR,HB⟩:=Bo.en3 hW1;replace hT:=hT.below HB.out;replace hT2:=hT2.below HB.out;replace p1:=p1.below HB.out;replace p2:=p2.below HB.out;clear hW1;have xX3:=X3.cell
 go_wp2_with fail
 refine (kvMeet (Il8.lit1 rfl ⟨hM,hM',HX.out⟩) HML.out).mono ?_;rintro ee w2 ⟨e10,K10,s10,M10,E10,K10b,s10b,M10b,E10b,rfl,v10,B⟩;replace B:=bt (bel1 _ (.cells #[.bool e,.int .i64 D,.bool s,.int .u64 M,.int .i64 E,.int .i64 D',.bool s',.int .u64 M',.int .i64 E'] 32)) B;clear xX3;replace X2:=X2.below B;replace X3:=X3.below B;replace XR:=XR.below B
 replace hT:=hT.below B;replace hT2:=hT2.below B;replace p1:=p1.below B;replace p2:=p2.below B;replace HB:=Hqb HB B;clear B;have xX3:=X3.cell;have zX30:=X3.frozen
 go_upto_region 2 with (fail)
 clear xX3 zX30;generalize hS:((((((((w2.setCell _ _).setCell _ _).setCell _ _).setCell _ _).setCell _ _).setCell _ _).setCell _ _).setCell _ _).setCell _ _=w3 at *;have SX:=StN.of9 X3 hS;replace X2:=X2.stn SX (by omega);replace XR:=XR.stn SX (by omega);replace hT:=hT.stn SX (by simp [no8]);replace hT2:=hT2.stn SX (by simp [no8]);replace p1:=p1.stn SX (by simp [no32])
 replace p2:=p2.stn SX (by simp [no32]);replace HB:=Hqs HB SX (by omega);replace X3:=SX.box;clear SX hS
 obtain rfl:e10=false:=v10.1
 refine Jo.rk [0,1,2] [some 11,some 12,some 13] [[],[],[0,1]] 3 0 [Jo.q9 false K10 s10 M10 E10 K10b s10b M10b E10b,Jo.q9 true 0 false 0 0 0 false 0 0,Jo.qb false] (by kernel_rfl) (by kernel_rfl) (by decide) rfl ?_ ?_
 ·refine Jo.jm rfl ?_ ?_
  ·rintro wj hJ K hK;simp only [Jo.z]at hK⊢;have xX3:=(X3.below hJ).cell;go_simp;exact hK.out _ _ rfl (br _ _)
  refine Jo.jm rfl ?_ ?_
  ·rintro wj hJ K hK;simp only [Jo.z]at hK⊢;go_simp;refine (kvNoneE).mono ?_;rintro ee wk ⟨rfl,B⟩;exact hK.out _ _ rfl B
  refine Jo.jm rfl ?_ ?_
  ·rintro wj hJ _ rfl _ rfl K hK;simp only [Jo.z]at hK⊢;go_simp
   repeat' split
   all_goals exact hK.out _ _ (congrArg Value.bool (by first | rfl | (exfalso;simp_all))) (br _ _)
  exact Jo.Steps.nil
 rintro w4 hJ _ rfl _ rfl _ rfl -;simp only [Jo.z];replace X2:=X2.below hJ;replace X3:=X3.below hJ;replace XR:=XR.below hJ;replace hT:=hT.below hJ;replace hT2:=hT2.below hJ;replace p1:=p1.below hJ;replace p2:=p2.below hJ;replace HB:=Hqb HB hJ;refine Jo.jdone (by kernel_rfl) ?_;obtain⟨_,qa,qb,oab,oa,ob⟩:=v10
 have v10:Ci false K10 s10 M10 E10 K10b s10b M10b E10b (some (a,b)):=⟨rfl,qa,qb,oab,oa,ob⟩
 go_upto_region 4 with (fail)
 have xX3:=X3.cell
 go_wp2_with fail
 refine (tAroundB hT qa.nn qa.top qb.nn qb.top qa.rk qb.rk HGA.out HGB.out HN.out).mono ?_;rintro ee w5 ⟨s20,A20,n20,c20,s21,A21,n21,c21,rfl,p20,p21,k20,k21,B⟩;clear xX3;replace X2:=X2.below B;replace X3:=X3.below B;replace XR:=XR.below B;replace hT:=hT.below B;replace hT2:=hT2.below B;replace p1:=p1.below B;replace p2:=p2.below B
 replace HB:=Hqb HB B;clear B
 go_upto_region 5 with (fail)
 have lX5:=Nat.le_refl (World.heap w5).size;have nX5X2:=X2.lt;have nX5X3:=X3.lt;have nX5XR:=XR.lt;generalize hWn:w5.alloc _=w6 at *;obtain⟨X5,BW⟩:=Bo.nw hWn;clear hWn;replace X2:=X2.below BW;replace X3:=X3.below BW;replace XR:=XR.below BW;replace hT:=hT.below BW;replace hT2:=hT2.below BW;replace p1:=p1.below BW;replace p2:=p2.below BW;replace p20:=p20.below BW
 replace p21:=p21.below BW;replace HB:=Hqb HB BW;clear BW;clear lX5;have e1:=HE1.out;have xX3:=X3.cell
 go_wp2_with fail
 refine (kvWidth hT2 v10.top.1 v10.top.2 v10.rk HWD.out).mono ?_;rintro ee w7 ⟨K30,s30,M30,E30,rfl,q30,B⟩;clear xX3;replace X2:=X2.below B;replace X3:=X3.below B;replace XR:=XR.below B;replace X5:=X5.below B;replace hT:=hT.below B;replace hT2:=hT2.below B;replace p1:=p1.below B;replace p2:=p2.below B;replace p20:=p20.below B
 replace p21:=p21.below B;replace HB:=Hqb HB B;clear B
 go_wp2_with fail
 refine (nOf (n:=7) (r:=opl 7) _ (by decide) (by decide) rfl).mono ?_;rintro ee w8 ⟨K31,s31,M31,E31,rfl,q31,B⟩;replace X2:=X2.below B;replace X3:=X3.below B;replace XR:=XR.below B;replace X5:=X5.below B;replace hT:=hT.below B;replace hT2:=hT2.below B;replace p1:=p1.below B;replace p2:=p2.below B;replace p20:=p20.below B;replace p21:=p21.below B;replace HB:=Hqb HB B
 clear B
 go_wp2_with fail
 refine (nCmp (z:=σ) q30.top q31.top (by rw [q30.rk,q31.rk];exact HS.out)).mono ?_;rintro ee w9 ⟨rfl,B⟩;replace X2:=X2.below B;replace X3:=X3.below B;replace XR:=XR.below B;replace X5:=X5.below B;replace hT:=hT.below B;replace hT2:=hT2.below B;replace p1:=p1.below B;replace p2:=p2.below B;replace p20:=p20.below B;replace p21:=p21.below B;replace HB:=Hqb HB B
 clear B;clear p20 p21 p1 p2 hT hT2
 go_wp2_with fail
 refine (tUnit).mono ?_;rintro ee wA ⟨e40,K40,s40,M40,E40,K40b,s40b,M40b,E40b,rfl,v40,B⟩;replace X2:=X2.below B;replace X3:=X3.below B;replace XR:=XR.below B;replace X5:=X5.below B;replace HB:=Hqb HB B;clear B;have xXR:=XR.cell;have zXR0:=XR.frozen;go_wp2;clear xXR zXR0
 have SX:=StN.mk9 XR (.bool e40) (.int .i64 K40) (.bool s40) (.int .u64 M40) (.int .i64 E40) (.int .i64 K40b) (.bool s40b) (.int .u64 M40b) (.int .i64 E40b);exact bodyPost_ret (by simp [results,Tryz.results59,go_sem,SX.box.cell]) rfl ⟨_,_,_,_,_,_,_,_,_,rfl,v40,(SX.below HB.out (by omega))⟩
theorem tover_in{w:World}{fid:FuncId}{cos:Bool}{o:Int}{s1 s2:Bool}{A1 A2:Option Addr}{n1 c1 n2 c2:Nat}{e:Bool}{D M E D' M' E':Int}{s s':Bool}(hT:Tab w)(hT2:Tb w)(hah:AhQ fid cos)(p1:Wn w s1 A1 n1 c1 PLo)(p2:Wn w s2 A2 n2 c2 PHi)(k1:n1≤7)(k2:n2≤7)(hM:LQ M)(hM':LQ M'){a b ga gb x y j:Int}{za zb Z:Sp}(hn:(fixB a && fixB b)=true)(hw:decide (opl 7≤widI (some (a,b)))=false)(hga:fixI a=ga)(hgb:fixI b=gb)(fa:ga.natAbs < 4294967296^10)(fb:(gb+1).natAbs < 4294967296^11)(ho:odd1 cos=o)(hx1:2*ga=x)(hy1:2*(gb+1)=y)(hj:x.fdiv (2*PLo)=j)(j1: -1099511627776≤j)(j2:j≤1099511627776)(hst:y < loZ (crZ cos (j+6)))(hza:Sv cos a za)(hzb:Sv cos b zb)(hall:∀k:Nat,y < loZ (crZ cos (j+k))→hullL (crL cos x y j k ++[za,zb])=Z)(hx:rkI e D s M E D' s' M' E'=(some (a,b))):Calls Tryz.prog 59 #[.agg #[.func (.func fid) #[] #[],.int .i64 o,.bool s1,.slice A1 n1 c1,.bool s2,.slice A2 n2 c2],VI e D s M E D' s' M' E'] w (PV w Z):=by
 delta VI
 have hml:meetL [(some (a,b))]=(some (a,b)):=meetOne (by rw [←hx];exact rkI_ok hM hM')
 have HX:=Lib.hid hx;have HML:=Lib.hid hml;have HAH:=Lib.hid hah;clear hx hml hah;obtain⟨wd,hwd⟩:∃u,widI (some (a,b))=u:=⟨_,rfl⟩;obtain⟨σ,hσ⟩:∃σ,cmpI wd (opl 7)=σ:=⟨_,rfl⟩;have e1:=cmp_ge13 hσ;rw [hwd]at hw;rw [hw]at e1;have HWD:=Lib.hid hwd;have HS:=Lib.hid hσ;have HE1:=Lib.hid e1;have HN:=Lib.hid hn;clear hwd hσ e1 hn;clear hw;have HGA:=Lib.hid hga
 have HGB:=Lib.hid hgb;have HFA:=Lib.hid fa;have HFB:=Lib.hid fb;have HO:=Lib.hid ho;have HX1:=Lib.hid hx1;have HY1:=Lib.hid hy1;have HJ:=Lib.hid hj;have HST:=Lib.hid hst;have HZA:=Lib.hid hza;have HZB:=Lib.hid hzb;have HALL:=Lib.hid hall;clear hga hgb fa fb ho hx1 hy1 hj hst hza hzb hall
 have HSV:Hid (∀k,k < 2→Sv cos ([a,b].getD k 0) ([za,zb].getD k none)):=Lib.hid (fun k hk=>by
  rcases (by omega:k=0∨k=1)with rfl | rfl
  ·exact HZA.out
  ·exact HZB.out)
 go_enter Tryz.func59,Tryz.ntmps59
 go_upto_region 1 with (fail)
 generalize hW1:((w.alloc _).alloc _).alloc _=w1 at *;obtain⟨X2,X3,XR,HB⟩:=Bo.en3 hW1;replace hT:=hT.below HB.out;replace hT2:=hT2.below HB.out;replace p1:=p1.below HB.out;replace p2:=p2.below HB.out;clear hW1;have xX3:=X3.cell
 go_wp2_with fail
 refine (kvMeet (Il8.lit1 rfl ⟨hM,hM',HX.out⟩) HML.out).mono ?_;rintro ee w2 ⟨e10,K10,s10,M10,E10,K10b,s10b,M10b,E10b,rfl,v10,B⟩;replace B:=bt (bel1 _ (.cells #[.bool e,.int .i64 D,.bool s,.int .u64 M,.int .i64 E,.int .i64 D',.bool s',.int .u64 M',.int .i64 E'] 32)) B;clear xX3;replace X2:=X2.below B;replace X3:=X3.below B;replace XR:=XR.below B
 replace hT:=hT.below B;replace hT2:=hT2.below B;replace p1:=p1.below B;replace p2:=p2.below B;replace HB:=Hqb HB B;clear B;have xX3:=X3.cell;have zX30:=X3.frozen
 go_upto_region 2 with (fail)
 clear xX3 zX30;generalize hS:((((((((w2.setCell _ _).setCell _ _).setCell _ _).setCell _ _).setCell _ _).setCell _ _).setCell _ _).setCell _ _).setCell _ _=w3 at *;have SX:=StN.of9 X3 hS;replace X2:=X2.stn SX (by omega);replace XR:=XR.stn SX (by omega);replace hT:=hT.stn SX (by simp [no8]);replace hT2:=hT2.stn SX (by simp [no8]);replace p1:=p1.stn SX (by simp [no32])
 replace p2:=p2.stn SX (by simp [no32]);replace HB:=Hqs HB SX (by omega);replace X3:=SX.box;clear SX hS
 obtain rfl:e10=false:=v10.1
 refine Jo.rk [0,1,2] [some 11,some 12,some 13] [[],[],[0,1]] 3 0 [Jo.q9 false K10 s10 M10 E10 K10b s10b M10b E10b,Jo.q9 true 0 false 0 0 0 false 0 0,Jo.qb false] (by kernel_rfl) (by kernel_rfl) (by decide) rfl ?_ ?_
 ·refine Jo.jm rfl ?_ ?_
  ·rintro wj hJ K hK;simp only [Jo.z]at hK⊢;have xX3:=(X3.below hJ).cell;go_simp;exact hK.out _ _ rfl (br _ _)
  refine Jo.jm rfl ?_ ?_
  ·rintro wj hJ K hK;simp only [Jo.z]at hK⊢;go_simp;refine (kvNoneE).mono ?_;rintro ee wk ⟨rfl,B⟩;exact hK.out _ _ rfl B
  refine Jo.jm rfl ?_ ?_
  ·rintro wj hJ _ rfl _ rfl K hK;simp only [Jo.z]at hK⊢;go_simp
   repeat' split
   all_goals exact hK.out _ _ (congrArg Value.bool (by first | rfl | (exfalso;simp_all))) (br _ _)
  exact Jo.Steps.nil
 rintro w4 hJ _ rfl _ rfl _ rfl -;simp only [Jo.z];replace X2:=X2.below hJ;replace X3:=X3.below hJ;replace XR:=XR.below hJ;replace hT:=hT.below hJ;replace hT2:=hT2.below hJ;replace p1:=p1.below hJ;replace p2:=p2.below hJ;replace HB:=Hqb HB hJ;refine Jo.jdone (by kernel_rfl) ?_;obtain⟨_,qa,qb,oab,oa,ob⟩:=v10
 have v10:Ci false K10 s10 M10 E10 K10b s10b M10b E10b (some (a,b)):=⟨rfl,qa,qb,oab,oa,ob⟩
 go_upto_region 4 with (fail)
 have xX3:=X3.cell
 go_wp2_with fail
 refine (tAroundB hT qa.nn qa.top qb.nn qb.top qa.rk qb.rk HGA.out HGB.out HN.out).mono ?_;rintro ee w5 ⟨s20,A20,n20,c20,s21,A21,n21,c21,rfl,p20,p21,k20,k21,B⟩;clear xX3;replace X2:=X2.below B;replace X3:=X3.below B;replace XR:=XR.below B;replace hT:=hT.below B;replace hT2:=hT2.below B;replace p1:=p1.below B;replace p2:=p2.below B
 replace HB:=Hqb HB B;clear B
 go_upto_region 5 with (fail)
 have lX5:=Nat.le_refl (World.heap w5).size;have nX5X2:=X2.lt;have nX5X3:=X3.lt;have nX5XR:=XR.lt;generalize hWn:w5.alloc _=w6 at *;obtain⟨X5,BW⟩:=Bo.nw hWn;clear hWn;replace X2:=X2.below BW;replace X3:=X3.below BW;replace XR:=XR.below BW;replace hT:=hT.below BW;replace hT2:=hT2.below BW;replace p1:=p1.below BW;replace p2:=p2.below BW;replace p20:=p20.below BW
 replace p21:=p21.below BW;replace HB:=Hqb HB BW;clear BW;clear lX5;have e1:=HE1.out;have xX3:=X3.cell
 go_wp2_with fail
 refine (kvWidth hT2 v10.top.1 v10.top.2 v10.rk HWD.out).mono ?_;rintro ee w7 ⟨K30,s30,M30,E30,rfl,q30,B⟩;clear xX3;replace X2:=X2.below B;replace X3:=X3.below B;replace XR:=XR.below B;replace X5:=X5.below B;replace hT:=hT.below B;replace hT2:=hT2.below B;replace p1:=p1.below B;replace p2:=p2.below B;replace p20:=p20.below B
 replace p21:=p21.below B;replace HB:=Hqb HB B;clear B
 go_wp2_with fail
 refine (nOf (n:=7) (r:=opl 7) _ (by decide) (by decide) rfl).mono ?_;rintro ee w8 ⟨K31,s31,M31,E31,rfl,q31,B⟩;replace X2:=X2.below B;replace X3:=X3.below B;replace XR:=XR.below B;replace X5:=X5.below B;replace hT:=hT.below B;replace hT2:=hT2.below B;replace p1:=p1.below B;replace p2:=p2.below B;replace p20:=p20.below B;replace p21:=p21.below B;replace HB:=Hqb HB B
 clear B
 go_wp2_with fail
 refine (nCmp (z:=σ) q30.top q31.top (by rw [q30.rk,q31.rk];exact HS.out)).mono ?_;rintro ee w9 ⟨rfl,B⟩;replace X2:=X2.below B;replace X3:=X3.below B;replace XR:=XR.below B;replace X5:=X5.below B;replace hT:=hT.below B;replace hT2:=hT2.below B;replace p1:=p1.below B;replace p2:=p2.below B;replace p20:=p20.below B;replace p21:=p21.below B;replace HB:=Hqb HB B
 clear B;have few1:=p20.fits HFA.out;have few2:=p21.fits HFB.out;clear hT2 q30 q31
 go_upto_region 7 with (fail)
 clear e1;have ltX2:=X2.lt;have ltX3:=X3.lt;have ltXR:=XR.lt;have ltX5:=X5.lt;have hszA:=HB.out.size;refine Jo.rk [0,1,2,3,4,5] [some 33,some 34,some 35,some 36,some 37,some 7,none] [[],[],[],[1,2],[0,3],[],[]] 7 1 [Jo.Fact.eq (.agg #[.func (.func fid) #[] #[],.int .i64 o,.bool s1,.slice A1 n1 c1,.bool s2,.slice A2 n2 c2]),Jo.Fact.eq (.agg #[.bool s20,.slice A20 n20 c20,.bool s21,.slice A21 n21 c21]),Jo.Fact.wn (2) (2),Jo.Fact.sp (x) (y) (30),Jo.Fact.arc (.func (.func fid) #[] #[]) (.int .i64 o) (.bool s1) (.slice A1 n1 c1) (.bool s2) (.slice A2 n2 c2) x y 30,Jo.Fact.bo w9.heap.size #[.nilFunc,.int .i64 0,.bool false,.slice none 0 0,.bool false,.slice none 0 0,.bool false,.slice none 0 0,.bool false,.slice none 0 0] 105,Jo.Fact.any] (by kernel_rfl) (by kernel_rfl) (by decide) rfl ?_ ?_
 ·iterate 2 (refine Jo.jm rfl ?_ ?_;rotate_left)
  refine Jo.jm rfl ?_ ?_
  ·rintro wj hJ K hK;simp only [Jo.z]at hK⊢;go_simp;refine (wFrom 2 _ (by decide) (by decide)).mono ?_;rintro ee wk ⟨s40,A40,n40,c40,rfl,p40,k40,B⟩;exact hK.out _ _ ⟨s40,A40,n40,c40,rfl,p40,k40⟩ B
  refine Jo.jm rfl ?_ ?_
  ·rintro wj hJ _ rfl _ ⟨s40,A40,n40,c40,rfl,p40,k40⟩ K hK;simp only [Jo.z]at hK⊢;go_simp;refine (tTimes (L:=11) (Z:=30) (p20.below hJ) (p21.below hJ) p40 (by omega) (by omega) (by omega) (by omega) (by omega) HX1.out HY1.out).mono ?_;rintro ee wk ⟨s41,A41,n41,c41,s42,A42,n42,c42,rfl,p41,p42,k41,k42,B⟩;exact hK.out _ _ ⟨s41,A41,n41,c41,s42,A42,n42,c42,rfl,p41,p42,k41,k42⟩ B
  refine Jo.jm rfl ?_ ?_
  ·rintro wj hJ _ rfl _ ⟨s41,A41,n41,c41,s42,A42,n42,c42,rfl,p41,p42,k41,k42⟩ K hK;simp only [Jo.z]at hK⊢;go_simp;exact hK.out _ _ ⟨_,_,_,_,_,_,_,_,rfl,p41,p42,k41,k42⟩ (br _ _)
  refine Jo.jm rfl ?_ ?_
  ·rintro wj hJ K hK;simp only [Jo.z]at hK⊢;go_simp;exact hK.out _ _ ⟨_,rfl,hJ.size,Bo.new _ _ _⟩ (bel1 _ _)
  exact Jo.Steps.nil
  all_goals (rintro wj hJ;(repeat rintro _ rfl);intro K hK;simp only [Jo.z]at hK⊢;have xX2:=(X2.below hJ).cell;have xX5:=(X5.below hJ).cell;go_simp;exact hK.out _ _ rfl (br _ _))
 rintro wA hJ _ rfl _ rfl _ ⟨s40,A40,n40,c40,rfl,p40,k40⟩ _ ⟨s41,A41,n41,c41,s42,A42,n42,c42,rfl,p41,p42,k41,k42⟩ _ ⟨s45,A45,n45,c45,s46,A46,n46,c46,rfl,p45,p46,k45,k46⟩ _ ⟨g7,rfl,hg7,X7⟩ -;simp only [Jo.z];replace X2:=X2.below hJ;replace X3:=X3.below hJ;replace XR:=XR.below hJ;replace X5:=X5.below hJ;replace hT:=hT.below hJ;replace p1:=p1.below hJ
 replace p2:=p2.below hJ;replace p20:=p20.below hJ;replace p21:=p21.below hJ;replace HB:=Hqb HB hJ;clear p40 p41 p42 p20 p21 X5 X2;have xX7:=X7.cell;have zX70:=X7.frozen
 refine Jo.jnext (i:=6) (o:=⟨none,_,_,_,_,_⟩) (by kernel_rfl) rfl (fun K hK=>?_)
 go_simp;refine hK.out _ _ ?_;clear hK K xX7 zX70;generalize hS:(((((((((wA.setCell _ _).setCell _ _).setCell _ _).setCell _ _).setCell _ _).setCell _ _).setCell _ _).setCell _ _).setCell _ _).setCell _ _=wB at *;have SX:=StN.of10 X7 hS;replace X3:=X3.stn SX (by omega);replace XR:=XR.stn SX (by omega);replace hT:=hT.stn SX (by simp [no8])
 replace p1:=p1.stn SX (by simp [no32]);replace p2:=p2.stn SX (by simp [no32]);replace p45:=p45.stn SX (by simp [no32]);replace p46:=p46.stn SX (by simp [no32]);replace HB:=Hqs HB SX (by omega);replace X7:=SX.box;clear SX hS;refine Jo.jdone (by kernel_rfl) ?_
 go_upto_region 8 with (fail)
 have ltX3:=X3.lt;have ltXR:=XR.lt;have ltX7:=X7.lt;have hszB:=HB.out.size;refine Jo.rk [0,1,2,3,4,5,6,7,8,9,10] [some 38,some 39,some 40,some 41,some 42,some 43,some 44,some 45,some 46,some 47,some 48,some 49,some 50,none] [[],[0],[],[2],[3],[],[5],[],[7],[6,8],[4,9],[],[],[]] 14 3 [Jo.Fact.eq (.agg #[.func (.func fid) #[] #[],.int .i64 o,.bool s1,.slice A1 n1 c1,.bool s2,.slice A2 n2 c2,.bool s45,.slice A45 n45 c45,.bool s46,.slice A46 n46 c46]),Jo.Fact.crs wB.heap.size cos x y j,Jo.qp g7 0,Jo.Fact.eq (.agg #[.func (.func fid) #[] #[],.int .i64 o,.bool s1,.slice A1 n1 c1,.bool s2,.slice A2 n2 c2]),Jo.Fact.eq (.func (.func 56) #[.agg #[.func (.func fid) #[] #[],.int .i64 o,.bool s1,.slice A1 n1 c1,.bool s2,.slice A2 n2 c2]] #[]),Jo.qp (w.heap.size+1) 1,Jo.q4 K10 s10 M10 E10,Jo.qp (w.heap.size+1) 5,Jo.q4 K10b s10b M10b E10b,Jo.Fact.nq 2 [a,b],Jo.Fact.ia wB.heap.size 2 [za,zb],Jo.Fact.any,Jo.Fact.any,Jo.Fact.any] (by kernel_rfl) (by kernel_rfl) (by decide) rfl ?_ ?_
 ·refine Jo.jm rfl ?_ ?_;rotate_left
  refine Jo.jm rfl ?_ ?_
  ·rintro wj hJ _ rfl K hK;simp only [Jo.z]at hK⊢;go_simp;refine (tCrests (cos:=cos) (p1.below hJ) (p2.below hJ) k1 k2 (p45.below hJ) (p46.below hJ) (by omega) (by omega) HO.out HJ.out j1 j2 HST.out).mono ?_;rintro ee wk ⟨k50,A50,n50,c50,rfl,N50,hn50,hk50,B⟩;exact hK.out _ _ ⟨k50,A50,n50,c50,rfl,N50.lower hJ.size,hn50,hk50⟩ B
  iterate 7 (refine Jo.jm rfl ?_ ?_;rotate_left)
  refine Jo.jm rfl ?_ ?_
  ·rintro wj hJ _ rfl _ rfl K hK;simp only [Jo.z]at hK⊢;go_simp;exact hK.out _ _ ⟨_,2,rfl,Nq.of2 (Bo.new _ _ _) qa qb⟩ (bel1 _ _)
  refine Jo.jm rfl ?_ ?_
  ·rintro wj hJ _ rfl _ ⟨A51,c51,rfl,h51⟩ K hK;simp only [Jo.z]at hK⊢;go_simp;refine (tEach (cos:=cos) (hT.below hJ) HAH.out (p1.below hJ) (p2.below hJ) k1 k2 h51 rfl HSV.out).mono ?_;rintro ee wk ⟨A52,c52,rfl,N52,B⟩;exact hK.out _ _ ⟨A52,c52,rfl,N52.lower hJ.size⟩ B
  exact Jo.Steps.nil
  all_goals (rintro wj hJ;(repeat rintro _ rfl);intro K hK;simp only [Jo.z]at hK⊢;have xX7:=(X7.below hJ).cell;have xX3:=(X3.below hJ).cell;go_simp;exact hK.out _ _ rfl (br _ _))
 rintro wC hJ _ rfl _ ⟨k50,A50,n50,c50,rfl,N50,hn50,hk50⟩ _ _ _ rfl _ rfl _ _ _ rfl _ _ _ rfl _ ⟨_,_,rfl,_⟩ _ ⟨A52,c52,rfl,N52⟩ -;simp only [Jo.z];replace X3:=X3.below hJ;replace XR:=XR.below hJ;replace X7:=X7.below hJ;replace hT:=hT.below hJ;replace p1:=p1.below hJ;replace p2:=p2.below hJ;replace p45:=p45.below hJ;replace p46:=p46.below hJ;replace HB:=Hqb HB hJ
 refine Jo.jnext (i:=11) (o:=⟨some 49,_,_,_,_,_⟩) (by kernel_rfl) rfl (fun K hK=>?_)
 refine step_ia rfl _ _ rfl rfl rfl N50 N52 (by decide) (by omega) hJ.size ?_
 intro A53 c53 wD N53 G1 at1
 refine hK.out _ _ ?_;clear hK K;simp only [Act.put,List.setIfInBounds_toArray,List.set_cons_zero,List.set_cons_succ]
 replace XR:=XR.grownLt (fun k hk=>(N50.own_lt k hk).1) (by omega) G1
 replace HB:=Lib.hid (HB.out.grown G1 HB.out.size (fun k hk=>Nat.le_trans hszB (N50.own_lt k hk).1))
 clear N50 N52 G1 at1 hT p1 p2 p45 p46 X7 X3
 refine Jo.jnext (i:=12) (o:=⟨some 50,_,_,_,_,_⟩) (by kernel_rfl) rfl (fun K hK=>?_)
 go_simp;refine (kvHull (N53.il (by omega)) (HALL.out k50 hk50)).mono ?_;rintro ee wE ⟨e60,K60,s60,M60,E60,K60b,s60b,M60b,E60b,rfl,v60,B⟩;refine hK.out _ _ ?_;clear hK K N53;replace XR:=XR.below B;replace HB:=Hqb HB B;clear B;have xXR:=XR.cell;have zXR0:=XR.frozen
 refine Jo.jnext (i:=13) (o:=⟨none,_,_,_,_,_⟩) (by kernel_rfl) rfl (fun K hK=>?_)
 go_simp;refine hK.out _ _ ?_;clear hK K xXR zXR0;have SX:=StN.mk9 XR (.bool e60) (.int .i64 K60) (.bool s60) (.int .u64 M60) (.int .i64 E60) (.int .i64 K60b) (.bool s60b) (.int .u64 M60b) (.int .i64 E60b);refine Jo.jdone (by kernel_rfl) ?_;go_wp2;exact bodyPost_ret (by simp [results,Tryz.results59,go_sem,SX.box.cell]) rfl ⟨_,_,_,_,_,_,_,_,_,rfl,v60,(SX.below HB.out (by omega))⟩
theorem tOver{w:World}{fid:FuncId}{cos:Bool}{o:Int}{s1 s2:Bool}{A1 A2:Option Addr}{n1 c1 n2 c2:Nat}{e:Bool}{D M E D' M' E':Int}{s s':Bool}{X Z:Sp}(hT:Tab w)(hT2:Tb w)(hah:AhQ fid cos)(ho:odd1 cos=o)(p1:Wn w s1 A1 n1 c1 PLo)(p2:Wn w s2 A2 n2 c2 PHi)(k1:n1≤7)(k2:n2≤7)(hM:LQ M)(hM':LQ M')(hx:rkI e D s M E D' s' M' E'=X)(hz:AllV cos X Z):Calls Tryz.prog 59 #[.agg #[.func (.func fid) #[] #[],.int .i64 o,.bool s1,.slice A1 n1 c1,.bool s2,.slice A2 n2 c2],VI e D s M E D' s' M' E'] w (PV w Z):=by
 delta VI
 rcases X with _ | ⟨a,b⟩
 ·obtain rfl:Z=none:=hz
  exact tover_none hT hT2 hah p1 p2 k1 k2 hM hM' hx
 ·rcases hz with⟨h,rfl⟩ | ⟨fa,fb,hw,za,zb,ha,hb,rfl⟩
  ·rcases hn:(fixB a && fixB b)with _ | _
   ·exact tover_far hT hT2 hah p1 p2 k1 k2 hM hM' hn hx
   ·have h7:opl 7≤widI (some (a,b)):=by
     rw [Bool.and_eq_true]at hn
     rcases h with h | h | h
     ·rw [hn.1]at h;cases h
     ·rw [hn.2]at h;cases h
     ·exact h
    exact tover_wide hT hT2 hah p1 p2 k1 k2 hM hM' hn (decide_eq_true h7) hx
  ·have hn:(fixB a && fixB b)=true:=by rw [fa,fb];rfl
   obtain⟨j1,j2⟩:=search_bd fa
   have hX: -4294967296*SC≤fixI a*2∧fixI a*2≤4294967296*SC:=by
    obtain⟨ba,bb⟩:=fix_bd fa;generalize fixI a=A at *
    unfold SC at *
    omega
   have hwd:=wid_far fa fb hw;have hst:=cr_stop (cos:=cos) (y:=fixI b*2+2) hX rfl (by omega)
   have hfb:(fixI b+1).natAbs < 4294967296^11:=by
    have:=fix_fits fb
    have e:(4294967296:Nat)^11=4294967296^10*4294967296:=by decide
    have e2:0 < (4294967296:Nat)^10:=Nat.pow_pos (by decide)
    omega
   have e1:2*fixI a=fixI a*2:=Int.mul_comm _ _
   have e2:2*(fixI b+1)=fixI b*2+2:=by omega
   have e3:(fixI a*2).fdiv (2*PLo)=(fixI a*2).fdiv (PLo*2):=by rw [Int.mul_comm 2 PLo]
   exact tover_in hT hT2 hah p1 p2 k1 k2 hM hM' hn (decide_eq_false hw) rfl rfl (fix_fits fa) hfb ho e1 e2 e3 j1 j2 hst ha hb (fun k hk=>cr_all fa fb hw ha hb rfl hk) hx
theorem tSinOf{w:World}{e:Bool}{D M E D' M' E':Int}{s s':Bool}{X Z:Sp}(hT:Tab w)(hT2:Tb w)(hM:LQ M)(hM':LQ M')(hx:rkI e D s M E D' s' M' E'=X)(hz:AllV false X Z):Calls Tryz.prog 17 #[VI e D s M E D' s' M' E'] w (PV w Z):=by
 delta VI
 have HX:=Lib.hid hx;have HZ:=Lib.hid hz;clear hx hz
 go_enter Tryz.func17,Tryz.ntmps17
 go_upto_region 1 with (fail)
 generalize hW1:(w.alloc _).alloc _=w1 at *;obtain⟨X1,XR,HB⟩:=Bo.en2 hW1;replace hT:=hT.below HB.out;replace hT2:=hT2.below HB.out;clear hW1;have ltX1:=X1.lt;have ltXR:=XR.lt;refine Jo.rk [0,1,2] [some 3,some 4,some 5,none] [[],[],[0,1],[]] 4 1 [Jo.Fact.wv (95) (1),Jo.q9 e D s M E D' s' M' E',Jo.Fact.iv Z,Jo.Fact.any] (by kernel_rfl) (by kernel_rfl) (by decide) rfl ?_ ?_
 ·refine Jo.jm rfl ?_ ?_
  ·rintro wj hJ K hK;simp only [Jo.z]at hK⊢;go_simp;refine (tSineW).mono ?_;rintro ee wk ⟨s20,A20,n20,c20,s21,A21,n21,c21,rfl,p20,p21,k20,k21,B⟩;exact hK.out _ _ ⟨s20,A20,n20,c20,s21,A21,n21,c21,rfl,p20,p21,k20,k21⟩ B
  refine Jo.jm rfl ?_ ?_
  ·rintro wj hJ K hK;simp only [Jo.z]at hK⊢;have xX1:=(X1.below hJ).cell;go_simp;exact hK.out _ _ rfl (br _ _)
  refine Jo.jm rfl ?_ ?_
  ·rintro wj hJ _ ⟨s20,A20,n20,c20,s21,A21,n21,c21,rfl,p20,p21,k20,k21⟩ _ rfl K hK;simp only [Jo.z]at hK⊢;go_simp;refine (tOver (hT.below hJ) (hT2.below hJ) ahq_sin rfl p20 p21 k20 k21 hM hM' HX.out HZ.out).mono ?_;rintro ee wk ⟨e30,K30,s30,M30,E30,K30b,s30b,M30b,E30b,rfl,v30,B⟩;exact hK.out _ _ ⟨e30,K30,s30,M30,E30,K30b,s30b,M30b,E30b,rfl,v30⟩ B
  exact Jo.Steps.nil
 rintro w2 hJ _ ⟨s20,A20,n20,c20,s21,A21,n21,c21,rfl,p20,p21,k20,k21⟩ _ rfl _ ⟨e30,K30,s30,M30,E30,K30b,s30b,M30b,E30b,rfl,v30⟩ -;simp only [Jo.z];replace X1:=X1.below hJ;replace XR:=XR.below hJ;replace hT:=hT.below hJ;replace hT2:=hT2.below hJ;replace HB:=Hqb HB hJ;clear hT hT2 p20 p21;have xXR:=XR.cell
 have zXR0:=XR.frozen
 refine Jo.jnext (i:=3) (o:=⟨none,_,_,_,_,_⟩) (by kernel_rfl) rfl (fun K hK=>?_)
 go_simp;refine hK.out _ _ ?_;clear hK K xXR zXR0;have SX:=StN.mk9 XR (.bool e30) (.int .i64 K30) (.bool s30) (.int .u64 M30) (.int .i64 E30) (.int .i64 K30b) (.bool s30b) (.int .u64 M30b) (.int .i64 E30b);refine Jo.jdone (by kernel_rfl) ?_;go_wp2;exact bodyPost_ret (by simp [results,Tryz.results17,go_sem,SX.box.cell]) rfl ⟨_,_,_,_,_,_,_,_,_,rfl,v30,(SX.below HB.out (by omega))⟩
theorem tCosOf{w:World}{e:Bool}{D M E D' M' E':Int}{s s':Bool}{X Z:Sp}(hT:Tab w)(hT2:Tb w)(hM:LQ M)(hM':LQ M')(hx:rkI e D s M E D' s' M' E'=X)(hz:AllV true X Z):Calls Tryz.prog 19 #[VI e D s M E D' s' M' E'] w (PV w Z):=by
 delta VI
 have HX:=Lib.hid hx;have HZ:=Lib.hid hz;clear hx hz
 go_enter Tryz.func19,Tryz.ntmps19
 go_upto_region 1 with (fail)
 generalize hW1:(w.alloc _).alloc _=w1 at *;obtain⟨X1,XR,HB⟩:=Bo.en2 hW1;replace hT:=hT.below HB.out;replace hT2:=hT2.below HB.out;clear hW1;have ltX1:=X1.lt;have ltXR:=XR.lt;refine Jo.rk [0,1,2] [some 3,some 4,some 5,none] [[],[],[0,1],[]] 4 1 [Jo.Fact.wv (107) (0),Jo.q9 e D s M E D' s' M' E',Jo.Fact.iv Z,Jo.Fact.any] (by kernel_rfl) (by kernel_rfl) (by decide) rfl ?_ ?_
 ·refine Jo.jm rfl ?_ ?_
  ·rintro wj hJ K hK;simp only [Jo.z]at hK⊢;go_simp;refine (tCosW).mono ?_;rintro ee wk ⟨s20,A20,n20,c20,s21,A21,n21,c21,rfl,p20,p21,k20,k21,B⟩;exact hK.out _ _ ⟨s20,A20,n20,c20,s21,A21,n21,c21,rfl,p20,p21,k20,k21⟩ B
  refine Jo.jm rfl ?_ ?_
  ·rintro wj hJ K hK;simp only [Jo.z]at hK⊢;have xX1:=(X1.below hJ).cell;go_simp;exact hK.out _ _ rfl (br _ _)
  refine Jo.jm rfl ?_ ?_
  ·rintro wj hJ _ ⟨s20,A20,n20,c20,s21,A21,n21,c21,rfl,p20,p21,k20,k21⟩ _ rfl K hK;simp only [Jo.z]at hK⊢;go_simp;refine (tOver (hT.below hJ) (hT2.below hJ) ahq_cos rfl p20 p21 k20 k21 hM hM' HX.out HZ.out).mono ?_;rintro ee wk ⟨e30,K30,s30,M30,E30,K30b,s30b,M30b,E30b,rfl,v30,B⟩;exact hK.out _ _ ⟨e30,K30,s30,M30,E30,K30b,s30b,M30b,E30b,rfl,v30⟩ B
  exact Jo.Steps.nil
 rintro w2 hJ _ ⟨s20,A20,n20,c20,s21,A21,n21,c21,rfl,p20,p21,k20,k21⟩ _ rfl _ ⟨e30,K30,s30,M30,E30,K30b,s30b,M30b,E30b,rfl,v30⟩ -;simp only [Jo.z];replace X1:=X1.below hJ;replace XR:=XR.below hJ;replace hT:=hT.below hJ;replace hT2:=hT2.below hJ;replace HB:=Hqb HB hJ;clear hT hT2 p20 p21;have xXR:=XR.cell
 have zXR0:=XR.frozen
 refine Jo.jnext (i:=3) (o:=⟨none,_,_,_,_,_⟩) (by kernel_rfl) rfl (fun K hK=>?_)
 go_simp;refine hK.out _ _ ?_;clear hK K xXR zXR0;have SX:=StN.mk9 XR (.bool e30) (.int .i64 K30) (.bool s30) (.int .u64 M30) (.int .i64 E30) (.int .i64 K30b) (.bool s30b) (.int .u64 M30b) (.int .i64 E30b);refine Jo.jdone (by kernel_rfl) ?_;go_wp2;exact bodyPost_ret (by simp [results,Tryz.results19,go_sem,SX.box.cell]) rfl ⟨_,_,_,_,_,_,_,_,_,rfl,v30,(SX.below HB.out (by omega))⟩
end Go.Proofs.YtaadmpiphnfllaaGreatDoor
