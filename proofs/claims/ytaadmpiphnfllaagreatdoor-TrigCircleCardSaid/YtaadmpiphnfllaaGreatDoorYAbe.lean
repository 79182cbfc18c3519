/-
 Contracts that the proof rests on.
-/
import Derived.Test.YtaadmpiphnfllaaGreatDoorYAbd
namespace Go.Proofs.YtaadmpiphnfllaaGreatDoor
set_option maxHeartbeats 8000000
open Go.RowKit
set_option linter.unusedVariables false
set_option linter.unusedSimpArgs false
set_option maxRecDepth 100000
theorem Na.stn{w w':World}{base n c g:Nat}{A:Option Addr}{l:List Int}{a b:Array Value}{T:TypeId}(h:Na w base A n c l)(S:StN w w' g a b T)(hT:(T==24)=false):Na w' base A n c l:=by
 obtain⟨r,h1,h2⟩:=h;refine⟨r,⟨h1.1,?_⟩,h2⟩
 rcases h1.2 with h3 | ⟨g0,cap,cur,hv,hg,hh,q⟩
 ·exact .inl h3
 ·refine .inr ⟨g0,cap,cur,hv,hg,?_,q⟩
  rw [S.2.2.1 g0 (fun e=>?_)]
  ·exact hh
  ·subst e
   have hb:w.heap[g0]?=some (.cells a T (0,0)):=S.1
   rw [hh]at hb
   simp at hb
   rw [←hb.2]at hT
   simp at hT
theorem Bo.grownN{w w':World}{base n c g:Nat}{A:Option Addr}{l:List Int}{a:Array Value}{T:TypeId}(X:Bo w g a T)(h:Na w base A n c l)(hT:(T==24)=false)(G:w.grownBy w' (ownA A)):Bo w' g a T:=by
 refine X.keep (G.block g X.lt (fun e=>?_))
 obtain⟨r,h1,h2⟩:=h
 rcases h1.2 with⟨h3,_⟩ | ⟨g0,cap,cur,hv,hg,hh,q⟩
 ·injection h3 with h4
  subst h4
  cases e
 ·injection hv with h4
  subst h4
  cases e
  have hb:=X
  unfold Bo at hb
  rw [hh]at hb
  simp at hb
  rw [←hb.2]at hT
  simp at hT
theorem ne_row{A A2 B B2:Option Addr}{s1 s2:Nat}(hne:∀k,ownA A=some k→ownA B≠some k)(a1:ownA A2=ownA A∨ownA A2=some s1)(a2:ownA B2=ownA B∨ownA B2=some s2)(lB:∀k,ownA B=some k→k < s1)(lA:∀k,ownA A2=some k→k < s2):∀k,ownA A2=some k→ownA B2≠some k:=by
 intro k h c
 have hk:=lA k h
 rcases a2 with e | e
 ·rw [e]at c;have hb:=lB k c
  rcases a1 with f | f
  ·rw [f]at h;exact hne k h c
  ·rw [f]at h
   injection h with h
   omega
 ·rw [e]at c
  injection c with c
  omega
theorem own_ne{A B:Option Addr}(hne:∀k,ownA A=some k→ownA B≠some k):ownA B=none∨ownA B≠ownA A:=by
 rcases h:ownA B with _ | k
 ·exact .inl rfl
 ·exact .inr (fun c=>hne k c.symm h)
theorem own_ne'{A B:Option Addr}(hne:∀k,ownA A=some k→ownA B≠some k):ownA A=none∨ownA A≠ownA B:=by
 rcases h:ownA A with _ | k
 ·exact .inl rfl
 ·exact .inr (fun c=>hne k h c.symm)
def EInv (w:World)(A B:Option Addr)(m c d:Nat)(la lb:List Int)(wr:World):Prop:=
 Na wr w.heap.size A m c la∧Na wr w.heap.size B m d lb∧(∀k,ownA A=some k→ownA B≠some k)∧Below w.heap.size w wr
theorem kvEnds{w:World}{A:Option Addr}{n c m:Nat}{l:List Sp}(h:Il8 w A n c l)(hm:(lowL l).length=m):Calls Tryz.prog 73 #[.slice A n c] w (fun e w'=>∃A1 c1 B1 d1,e= .returned (.tuple #[.slice A1 m c1,.slice B1 m d1])∧Nl w' A1 m c1 (lowL l)∧Nl w' B1 m d1 (highL l)∧Below w.heap.size w w'):=by
 have HM:=Lib.hid hm;have HLn:=Lib.hid h.1;have hcap:=h.2.1;have hbig:=h.2.2.1;have hD0:=h;clear hm h
 go_enter Tryz.func73,Tryz.ntmps73
 go_wp2
 go_loopw [2,3,8] (fun va vb i wr=>∃k A1 B1 m1 c1 d1,k≤n∧m1≤k∧va= .slice A1 m1 c1∧vb= .slice B1 m1 d1∧i= .int .i64 ((k:Nat):Int)∧EInv w A1 B1 m1 c1 d1 (lowL (l.take k)) (highL (l.take k)) wr) (fun _ _ i _=>n-(intOf i).toNat)
 case atStart=>exact ⟨0,_,_,_,_,_,Nat.zero_le _,Nat.zero_le _,rfl,rfl,rfl,Na.nil _ _,Na.nil _ _,(fun k h=>by cases h),Below.refl _ _⟩
 case round=>
  obtain⟨k,A1,B1,m1,c1,d1,hk,hmk,rfl,rfl,rfl,N1,N2,hne,hB⟩:=hrel;have HB:=Lib.hid hB;clear hB
  by_cases hlt:k < n
  ·have tlt:decide ((k:Int) < (n:Int))=true:=by simp;omega
   have h:=hD0.below HB.out;obtain⟨b,o,rfl,hcell⟩:=h.2.2.2 (by omega);obtain⟨e,D,s,M,E,D',s',M',E',x0,x1,x2,x3,x4,x5,x6,x7,x8,hM,hM',hx⟩:=hcell k hlt;clear hcell h hD0
   have i1:(k:Int) < n:=by omega
   have i2:(0:Int)≤k:=by omega
   have hsl:=lowL_take (l:=l) (k:=k) (by rw [HLn.out];exact hlt);have hsh:=highL_take (l:=l) (k:=k) (by rw [HLn.out];exact hlt);rw [←hx]at hsl hsh;generalize lowL (l.take k)=la at *;generalize highL (l.take k)=lb at *;obtain⟨x,hX⟩:∃x,rkI e D s M E D' s' M' E'=x:=⟨_,rfl⟩;rw [hX]at hsl hsh;have HX:=Lib.hid hX;have HSL:=Lib.hid hsl;have HSH:=Lib.hid hsh
   have HNE:=Lib.hid hne;clear hsl hsh hX hx hne;have hsz:=HB.out.size
   go_upto_region 4 with (fail)
   clear x0 x1 x2 x3 x4 x5 x6 x7 x8;have lX5:=Nat.le_refl (World.heap wr).size;generalize hWn:wr.alloc _=w3 at *;obtain⟨X5,BW⟩:=Bo.nw hWn;clear hWn;replace N1:=N1.below BW;replace N2:=N2.below BW;replace HB:=Hqb HB BW;clear BW;clear lX5;have xX5:=X5.cell
   go_wp2_with fail
   refine (kvOrE hM hM' HX.out).mono ?_;rintro ee w4 ⟨e1,K1,s1,M1,E1,K1b,s1b,M1b,E1b,rfl,v1,B⟩;clear xX5;replace X5:=X5.below B;replace N1:=N1.below B;replace N2:=N2.below B;replace HB:=Hqb HB B;clear B;clear HX hM hM';have xX5:=X5.cell;have zX50:=X5.frozen
   go_upto_region 5 with (fail)
   clear xX5 zX50;generalize hS:((((((((w4.setCell _ _).setCell _ _).setCell _ _).setCell _ _).setCell _ _).setCell _ _).setCell _ _).setCell _ _).setCell _ _=w5 at *;have SX:=StN.of9 X5 hS;replace N1:=N1.stn SX (by decide);replace N2:=N2.stn SX (by decide);replace HB:=Lib.hid (SX.below HB.out hsz);replace X5:=SX.box;clear SX hS
   rcases x with _ | ⟨xa,xb⟩
   ·obtain⟨rfl,y1,y1b⟩:=v1;have hsl2:=HSL.out;have hsh2:=HSH.out
    have hl0:la ++lo1 none=la:=List.append_nil la
    have hh0:lb ++hi1 none=lb:=List.append_nil lb
    rw [hl0]at hsl2;rw [hh0]at hsh2;clear HSL HSH hl0 hh0
    obtain⟨_,rfl,rfl,rfl,rfl,rfl,rfl,rfl,rfl⟩:=(show Ci true K1 s1 M1 E1 K1b s1b M1b E1b none from ⟨rfl,y1,y1b⟩).uniq Ci.none
    clear y1 y1b;refine Jo.rk [0,1,2] [some 14,some 15,some 16] [[],[],[0,1]] 3 0 [Jo.q9 true 0 false 0 0 0 false 0 0,Jo.q9 true 0 false 0 0 0 false 0 0,Jo.qb false] (by kernel_rfl) (by kernel_rfl) (by decide) rfl ?_ ?_
    ·refine Jo.jm rfl ?_ ?_
     ·rintro wj hJ K hK;simp only [Jo.z]at hK⊢;have xX5:=(X5.below hJ).cell;go_simp;exact hK.out _ _ rfl (br _ _)
     refine Jo.jm rfl ?_ ?_
     ·rintro wj hJ K hK;simp only [Jo.z]at hK⊢;go_simp;refine (kvNoneE).mono ?_;rintro ee wk ⟨rfl,B⟩;exact hK.out _ _ rfl B
     refine Jo.jm rfl ?_ ?_
     ·rintro wj hJ _ rfl _ rfl K hK;simp only [Jo.z]at hK⊢;go_simp
      repeat' split
      all_goals exact hK.out _ _ (congrArg Value.bool (by first | rfl | (exfalso;simp_all) | simp_all)) (br _ _)
     exact Jo.Steps.nil
    rintro w6 hJ _ rfl _ rfl _ rfl -;simp only [Jo.z];replace X5:=X5.below hJ;replace N1:=N1.below hJ;replace N2:=N2.below hJ;replace HB:=Hqb HB hJ;refine Jo.jdone (by kernel_rfl) ?_;go_wp2
    go_roundw
    case rel=>exact ⟨k+1,_,_,_,_,_,by omega,by omega,rfl,rfl,by go_num,by rw [hsl2];exact N1,by rw [hsh2];exact N2,HNE.out,HB.out⟩
    case measure=>simp [intOf];omega
   ·obtain⟨rfl,a1,b1,o1,o1l,o1h⟩:=v1
    have hsl2:_=la ++[xa]:=HSL.out
    have hsh2:_=lb ++[xb]:=HSH.out
    clear HSL HSH o1 o1l o1h;refine Jo.rk [0,1,2] [some 14,some 15,some 16] [[],[],[0,1]] 3 0 [Jo.q9 false K1 s1 M1 E1 K1b s1b M1b E1b,Jo.q9 true 0 false 0 0 0 false 0 0,Jo.qb true] (by kernel_rfl) (by kernel_rfl) (by decide) rfl ?_ ?_
    ·refine Jo.jm rfl ?_ ?_
     ·rintro wj hJ K hK;simp only [Jo.z]at hK⊢;have xX5:=(X5.below hJ).cell;go_simp;exact hK.out _ _ rfl (br _ _)
     refine Jo.jm rfl ?_ ?_
     ·rintro wj hJ K hK;simp only [Jo.z]at hK⊢;go_simp;refine (kvNoneE).mono ?_;rintro ee wk ⟨rfl,B⟩;exact hK.out _ _ rfl B
     refine Jo.jm rfl ?_ ?_
     ·rintro wj hJ _ rfl _ rfl K hK;simp only [Jo.z]at hK⊢;go_simp
      repeat' split
      all_goals exact hK.out _ _ (congrArg Value.bool (by first | rfl | (exfalso;simp_all) | simp_all)) (br _ _)
     exact Jo.Steps.nil
    rintro w6 hJ _ rfl _ rfl _ rfl -;simp only [Jo.z];replace X5:=X5.below hJ;replace N1:=N1.below hJ;replace N2:=N2.below hJ;replace HB:=Hqb HB hJ;refine Jo.jdone (by kernel_rfl) ?_;have xX5:=X5.cell
    go_wp2_with (at_builtin;refine wpList_na rfl _ _ rfl rfl rfl (N1.below (bel1 _ _)) a1 (Bo.new _ _ _) (by omega) (Nat.le_trans HB.out.size (bel1 _ _).size) ?_)
    intro A2 d2 w7 N1' G1 at1
    clear xX5;have hB2:=bt HB.out (bel1 _ (.cells #[.int .i64 K1,.bool s1,.int .u64 M1,.int .i64 E1] 24));have N1b:=N1.below (bel1 _ (.cells #[.int .i64 K1,.bool s1,.int .u64 M1,.int .i64 E1] 24));have N2b:=N2.below (bel1 _ (.cells #[.int .i64 K1,.bool s1,.int .u64 M1,.int .i64 E1] 24));replace X5:=(X5.below (bel1 _ (.cells #[.int .i64 K1,.bool s1,.int .u64 M1,.int .i64 E1] 24))).grownN N1b (by decide) G1
    replace HB:=Lib.hid (hB2.grown G1 hB2.size (fun k hk=>(N1b.own_lt k hk).1))
    have l1:∀k,ownA B1=some k→k < w6.heap.size+1:=fun k hk=>by
     have:=(N2b.own_lt k hk).2
     simpa using this
    replace N2:=N2b.kept G1 (own_ne HNE.out);clear N1 N1b N2b G1 hB2;have xX5:=X5.cell
    go_wp2_with (at_builtin;refine wpList_na rfl _ _ rfl rfl rfl (N2.below (bel1 _ _)) b1 (Bo.new _ _ _) (by omega) (Nat.le_trans HB.out.size (bel1 _ _).size) ?_)
    intro B2 d3 w8 N2' G2 at2
    clear xX5;have hB2:=bt HB.out (bel1 _ (.cells #[.int .i64 K1b,.bool s1b,.int .u64 M1b,.int .i64 E1b] 24));have N2b:=N2.below (bel1 _ (.cells #[.int .i64 K1b,.bool s1b,.int .u64 M1b,.int .i64 E1b] 24));have N1b:=N1'.below (bel1 _ (.cells #[.int .i64 K1b,.bool s1b,.int .u64 M1b,.int .i64 E1b] 24))
    have lA:∀k,ownA A2=some k→k < w7.heap.size+1:=fun k hk=>by
     have:=(N1b.own_lt k hk).2
     simpa using this
    have hne2:∀k,ownA A2=some k→ownA B2≠some k:=ne_row HNE.out at1 at2 l1 lA
    have hne1:∀k,ownA A2=some k→ownA B1≠some k:=ne_row HNE.out at1 (.inl rfl) l1 lA
    replace HB:=Lib.hid (hB2.grown G2 hB2.size (fun k hk=>(N2b.own_lt k hk).1))
    replace N1':=N1b.kept G2 (own_ne' hne1)
    clear N1b N2b G2 hB2 hne1 X5 N2 l1 lA at1 at2;go_wp2
    go_roundw
    case rel=>exact ⟨k+1,_,_,_,_,_,by omega,by omega,rfl,rfl,by go_num,by rw [hsl2];exact N1',by rw [hsh2];exact N2',hne2,HB.out⟩
    case measure=>simp [intOf];omega
  ·obtain rfl:k=n:=by omega
   have tlt:decide ((k:Int) < (k:Int))=false:=by simp
   have e1:l.take k=l:=List.take_of_length_le (by rw [HLn.out];omega)
   rw [e1]at N1 N2
   obtain rfl:m1=m:=by rw [←HM.out];exact N1.len.symm
   have M1:=N1.nl (by omega);have M2:=N2.nl (by omega);clear N1 N2;go_wp2
   go_ret2
   exact⟨_,_,_,_,rfl,M1,M2,HB.out⟩
theorem kvMeet{w:World}{A:Option Addr}{n c:Nat}{l:List Sp}{z:Sp}(h:Il8 w A n c l)(hr:meetL l=z):Calls Tryz.prog 29 #[.slice A n c] w (PV w z):=by
 obtain⟨m,hm⟩:∃m,(lowL l).length=m:=⟨_,rfl⟩;have hln:=h.1;have hle:=len_lo l;have hok:=h.ok;have HM:=Lib.hid hm
 go_enter Tryz.func29,Tryz.ntmps29
 go_upto_region 1 with (fail)
 generalize hW1:w.alloc _=w1 at *;obtain⟨XR,HB⟩:=Bo.en1 hW1;replace h:=h.below HB.out;clear hW1
 go_wp2_with fail
 refine (kvEnds h HM.out).mono ?_;rintro ee w2 ⟨A1,c1,B1,d1,rfl,N1,N2,B⟩;replace XR:=XR.below B;replace h:=h.below B;replace HB:=Hqb HB B;clear B;clear h
 by_cases hl:m < n
 ·rw [meet_no (by omega)]at hr
  obtain rfl:none=z:=hr
  have tl:decide ((m:Int) < (n:Int))=true:=by simp;omega
  clear hm hle hln hok
  go_wp2_with fail
  refine (kvNoneE).mono ?_;rintro ee w3 ⟨rfl,B⟩;replace XR:=XR.below B;replace N1:=N1.below B;replace N2:=N2.below B;replace HB:=Hqb HB B;clear B;clear N1 N2;have xXR:=XR.cell;have zXR0:=XR.frozen;go_wp2;clear xXR zXR0;have SX:=StN.mk9 XR (.bool true) (.int .i64 0) (.bool false) (.int .u64 0) (.int .i64 0) (.int .i64 0) (.bool false) (.int .u64 0) (.int .i64 0)
  exact bodyPost_ret (by simp [results,Tryz.results29,go_sem,SX.box.cell]) rfl ⟨_,_,_,_,_,_,_,_,_,rfl,Ci.none,(SX.below HB.out (by omega))⟩
 ·have hr2:=(meet_some (by omega)).symm.trans hr
  have tl:decide ((m:Int) < (n:Int))=false:=by simp;omega
  clear hr;obtain⟨u,hu⟩:∃u,mxp (lowL l)=u:=⟨_,rfl⟩;obtain⟨v,hv⟩:∃v,mnp (highL l)=v:=⟨_,rfl⟩;rw [hu,hv]at hr2;have HU:=Lib.hid hu;have HVV:=Lib.hid hv;have HR:=Lib.hid hr2;clear hu hv hr2 hm hle hln hok
  go_wp2_with fail
  refine (nMost N1 HU.out).mono ?_;rintro ee w3 ⟨K1,s1,M1,E1,rfl,q1,B⟩;replace XR:=XR.below B;replace N1:=N1.below B;replace N2:=N2.below B;replace HB:=Hqb HB B;clear B
  go_wp2_with fail
  refine (nLeast N2 HVV.out).mono ?_;rintro ee w4 ⟨K2,s2,M2,E2,rfl,q2,B⟩;replace XR:=XR.below B;replace N1:=N1.below B;replace N2:=N2.below B;replace HB:=Hqb HB B;clear B
  go_wp2_with fail
  refine (kvMake q1.top q2.top q1.rk q2.rk HR.out).mono ?_;rintro ee w5 ⟨e3,K3,s3,M3,E3,K3b,s3b,M3b,E3b,rfl,v3,B⟩;replace XR:=XR.below B;replace N1:=N1.below B;replace N2:=N2.below B;replace HB:=Hqb HB B;clear B;clear N1 N2;have xXR:=XR.cell;have zXR0:=XR.frozen;go_wp2;clear xXR zXR0
  have SX:=StN.mk9 XR (.bool e3) (.int .i64 K3) (.bool s3) (.int .u64 M3) (.int .i64 E3) (.int .i64 K3b) (.bool s3b) (.int .u64 M3b) (.int .i64 E3b);exact bodyPost_ret (by simp [results,Tryz.results29,go_sem,SX.box.cell]) rfl ⟨_,_,_,_,_,_,_,_,_,rfl,v3,(SX.below HB.out (by omega))⟩
theorem kvHull{w:World}{A:Option Addr}{n c:Nat}{l:List Sp}{z:Sp}(h:Il8 w A n c l)(hr:hullL l=z):Calls Tryz.prog 109 #[.slice A n c] w (PV w z):=by
 obtain⟨m,hm⟩:∃m,(lowL l).length=m:=⟨_,rfl⟩;have hln:=h.1;have hle:=len_lo l;have hok:=h.ok;have HM:=Lib.hid hm
 go_enter Tryz.func109,Tryz.ntmps109
 go_upto_region 1 with (fail)
 generalize hW1:w.alloc _=w1 at *;obtain⟨XR,HB⟩:=Bo.en1 hW1;replace h:=h.below HB.out;clear hW1
 go_wp2_with fail
 refine (kvEnds h HM.out).mono ?_;rintro ee w2 ⟨A1,c1,B1,d1,rfl,N1,N2,B⟩;replace XR:=XR.below B;replace h:=h.below B;replace HB:=Hqb HB B;clear B;clear h;have hr2:=(hull_ends hok).symm.trans hr;clear hr;obtain⟨u,hu⟩:∃u,mnp (lowL l)=u:=⟨_,rfl⟩;obtain⟨v,hv⟩:∃v,mxp (highL l)=v:=⟨_,rfl⟩;rw [hu,hv]at hr2;have HU:=Lib.hid hu;have HVV:=Lib.hid hv
 have HR:=Lib.hid hr2;clear hu hv hr2 hm hle hln hok
 go_wp2_with fail
 refine (nLeast N1 HU.out).mono ?_;rintro ee w3 ⟨K1,s1,M1,E1,rfl,q1,B⟩;replace XR:=XR.below B;replace N1:=N1.below B;replace N2:=N2.below B;replace HB:=Hqb HB B;clear B
 go_wp2_with fail
 refine (nMost N2 HVV.out).mono ?_;rintro ee w4 ⟨K2,s2,M2,E2,rfl,q2,B⟩;replace XR:=XR.below B;replace N1:=N1.below B;replace N2:=N2.below B;replace HB:=Hqb HB B;clear B
 go_wp2_with fail
 refine (kvMake q1.top q2.top q1.rk q2.rk HR.out).mono ?_;rintro ee w5 ⟨e3,K3,s3,M3,E3,K3b,s3b,M3b,E3b,rfl,v3,B⟩;replace XR:=XR.below B;replace N1:=N1.below B;replace N2:=N2.below B;replace HB:=Hqb HB B;clear B;clear N1 N2;have xXR:=XR.cell;have zXR0:=XR.frozen;go_wp2;clear xXR zXR0
 have SX:=StN.mk9 XR (.bool e3) (.int .i64 K3) (.bool s3) (.int .u64 M3) (.int .i64 E3) (.int .i64 K3b) (.bool s3b) (.int .u64 M3b) (.int .i64 E3b);exact bodyPost_ret (by simp [results,Tryz.results109,go_sem,SX.box.cell]) rfl ⟨_,_,_,_,_,_,_,_,_,rfl,v3,(SX.below HB.out (by omega))⟩
def Rw (e:Bool)(K:Int)(s:Bool)(M E K':Int)(s':Bool)(M' E':Int)(x:Sp):Prop:=M < 18446744073709551616∧M' < 18446744073709551616∧rkI e K s M E K' s' M' E'=x
theorem Ci.rw{e:Bool}{K M E K' M' E':Int}{s s':Bool}{x:Sp}(h:Ci e K s M E K' s' M' E' x):Rw e K s M E K' s' M' E' x:=⟨h.top.1,h.top.2,h.rk⟩
def Jo.Fact.il8 (n:Nat)(l:List Sp):Jo.Fact:=⟨fun v w=>∃A c,v= .slice A n c∧Il8 w A n c l,fun v w w' h b=>by
 obtain⟨A,c,e,h⟩:=h;exact⟨A,c,e,h.below b⟩⟩
theorem Il8.lit1{W:World}{h:Nat}{K1 M1 E1 G1 P1 Q1:Int}{e1 s1 g1:Bool}{x1:Sp}(hg:W.heap.size=h)(v1:Rw e1 K1 s1 M1 E1 G1 g1 P1 Q1 x1):
  Il8 (W.alloc (.cells #[.bool e1,.int .i64 K1,.bool s1,.int .u64 M1,.int .i64 E1,.int .i64 G1,.bool g1,.int .u64 P1,.int .i64 Q1] 32)) (some ⟨h,0,none⟩) 1 1 [x1]:=by
 subst hg;have hh:=heap_alloc_new W (.cells #[.bool e1,.int .i64 K1,.bool s1,.int .u64 M1,.int .i64 E1,.int .i64 G1,.bool g1,.int .u64 P1,.int .i64 Q1] 32)
 refine⟨rfl,Nat.le_refl _,by decide,fun _=>⟨_,0,rfl,fun k hk=>?_⟩⟩
 obtain rfl:k=0:=by omega
 exact⟨e1,K1,s1,M1,E1,G1,g1,P1,Q1,by rw [cell_of_row _ _ _ _ _ _ hh];rfl,by rw [cell_of_row _ _ _ _ _ _ hh];rfl,by rw [cell_of_row _ _ _ _ _ _ hh];rfl,by rw [cell_of_row _ _ _ _ _ _ hh];rfl,by rw [cell_of_row _ _ _ _ _ _ hh];rfl,by rw [cell_of_row _ _ _ _ _ _ hh];rfl,by rw [cell_of_row _ _ _ _ _ _ hh];rfl,by rw [cell_of_row _ _ _ _ _ _ hh];rfl,by rw [cell_of_row _ _ _ _ _ _ hh];rfl,v1.1,v1.2.1,v1.2.2⟩
theorem Il8.lit2{W:World}{h:Nat}{K1 M1 E1 G1 P1 Q1 K2 M2 E2 G2 P2 Q2:Int}{e1 s1 g1 e2 s2 g2:Bool}{x1 x2:Sp}(hg:W.heap.size=h)(v1:Rw e1 K1 s1 M1 E1 G1 g1 P1 Q1 x1)(v2:Rw e2 K2 s2 M2 E2 G2 g2 P2 Q2 x2):
  Il8 (W.alloc (.cells #[.bool e1,.int .i64 K1,.bool s1,.int .u64 M1,.int .i64 E1,.int .i64 G1,.bool g1,.int .u64 P1,.int .i64 Q1,.bool e2,.int .i64 K2,.bool s2,.int .u64 M2,.int .i64 E2,.int .i64 G2,.bool g2,.int .u64 P2,.int .i64 Q2] 32)) (some ⟨h,0,none⟩) 2 2 [x1,x2]:=by
 subst hg;have hh:=heap_alloc_new W (.cells #[.bool e1,.int .i64 K1,.bool s1,.int .u64 M1,.int .i64 E1,.int .i64 G1,.bool g1,.int .u64 P1,.int .i64 Q1,.bool e2,.int .i64 K2,.bool s2,.int .u64 M2,.int .i64 E2,.int .i64 G2,.bool g2,.int .u64 P2,.int .i64 Q2] 32)
 refine⟨rfl,Nat.le_refl _,by decide,fun _=>⟨_,0,rfl,fun k hk=>?_⟩⟩
 rcases (by omega:k=0∨k=1)with rfl | rfl
 ·exact⟨e1,K1,s1,M1,E1,G1,g1,P1,Q1,by rw [cell_of_row _ _ _ _ _ _ hh];rfl,by rw [cell_of_row _ _ _ _ _ _ hh];rfl,by rw [cell_of_row _ _ _ _ _ _ hh];rfl,by rw [cell_of_row _ _ _ _ _ _ hh];rfl,by rw [cell_of_row _ _ _ _ _ _ hh];rfl,by rw [cell_of_row _ _ _ _ _ _ hh];rfl,by rw [cell_of_row _ _ _ _ _ _ hh];rfl,by rw [cell_of_row _ _ _ _ _ _ hh];rfl,by rw [cell_of_row _ _ _ _ _ _ hh];rfl,v1.1,v1.2.1,v1.2.2⟩
 ·exact⟨e2,K2,s2,M2,E2,G2,g2,P2,Q2,by rw [cell_of_row _ _ _ _ _ _ hh];rfl,by rw [cell_of_row _ _ _ _ _ _ hh];rfl,by rw [cell_of_row _ _ _ _ _ _ hh];rfl,by rw [cell_of_row _ _ _ _ _ _ hh];rfl,by rw [cell_of_row _ _ _ _ _ _ hh];rfl,by rw [cell_of_row _ _ _ _ _ _ hh];rfl,by rw [cell_of_row _ _ _ _ _ _ hh];rfl,by rw [cell_of_row _ _ _ _ _ _ hh];rfl,by rw [cell_of_row _ _ _ _ _ _ hh];rfl,v2.1,v2.2.1,v2.2.2⟩
theorem kvOf{w:World}{a b oa ob:Int}{x:Sp}(a1: -9223372036854775808≤a)(a2:a≤9223372036854775807)(b1: -9223372036854775808≤b)(b2:b≤9223372036854775807)(ha:sgi (decide (a < 0)) (lo a.natAbs 0)=oa)(hb:sgi (decide (b < 0)) (lo b.natAbs 0)=ob)(hx:mkI oa ob=x):Calls Tryz.prog 21 #[.int .i64 a,.int .i64 b] w (PV w x):=by
 have HA:=Lib.hid ha;have HBB:=Lib.hid hb;have HX:=Lib.hid hx;clear ha hb hx
 go_enter Tryz.func21,Tryz.ntmps21
 go_upto_region 1 with (fail)
 generalize hW1:w.alloc _=w1 at *;obtain⟨XR,HB⟩:=Bo.en1 hW1;clear hW1
 go_wp2_with fail
 refine (nOf _ a1 a2 HA.out).mono ?_;rintro ee w2 ⟨K1,s1,M1,E1,rfl,q1,B⟩;replace XR:=XR.below B;replace HB:=Hqb HB B;clear B
 go_wp2_with fail
 refine (nOf _ b1 b2 HBB.out).mono ?_;rintro ee w3 ⟨K2,s2,M2,E2,rfl,q2,B⟩;replace XR:=XR.below B;replace HB:=Hqb HB B;clear B
 go_wp2_with fail
 refine (kvMake q1.top q2.top q1.rk q2.rk HX.out).mono ?_;rintro ee w4 ⟨e3,K3,s3,M3,E3,K3b,s3b,M3b,E3b,rfl,v3,B⟩;replace XR:=XR.below B;replace HB:=Hqb HB B;clear B;have xXR:=XR.cell;have zXR0:=XR.frozen;go_wp2;clear xXR zXR0;have SX:=StN.mk9 XR (.bool e3) (.int .i64 K3) (.bool s3) (.int .u64 M3) (.int .i64 E3) (.int .i64 K3b) (.bool s3b) (.int .u64 M3b) (.int .i64 E3b)
 exact bodyPost_ret (by simp [results,Tryz.results21,go_sem,SX.box.cell]) rfl ⟨_,_,_,_,_,_,_,_,_,rfl,v3,(SX.below HB.out (by omega))⟩
abbrev V9:=Bool × Int × Bool × Int × Int × Int × Bool × Int × Int
def vrow:List V9→List Value
 | []=>[]
 | (e,K,s,M,E,K',s',M',E')::l=> .bool e:: .int .i64 K:: .bool s:: .int .u64 M:: .int .i64 E:: .int .i64 K':: .bool s':: .int .u64 M':: .int .i64 E'::vrow l
theorem vrow_append:∀l m,vrow (l ++m)=vrow l ++vrow m
 | [],m=>rfl
 | (e,K,s,M,E,K',s',M',E')::l,m=>by
  show _::_::_::_::_::_::_::_::_::vrow (l ++m)=_
  rw [vrow_append l m]
  rfl
theorem vrow_len:∀l,(vrow l).length=l.length*9
 | []=>rfl
 | (e,K,s,M,E,K',s',M',E')::l=>by
  show (vrow l).length+9=(l.length+1)*9
  rw [vrow_len l]
  omega
theorem vrow_one:∀(l:List V9),∀u ∈ vrow l,u.oneCell'=true
 | [],u,h=>by cases h
 | (e,K,s,M,E,K',s',M',E')::l,u,h=>by
  simp only [vrow,List.mem_cons]at h
  rcases h with rfl | rfl | rfl | rfl | rfl | rfl | rfl | rfl | rfl | h
  iterate 9 rfl
  exact vrow_one l u h
theorem vrow_at:∀(l:List V9) (k:Nat) (e:Bool) (K:Int) (s:Bool) (M E K':Int) (s':Bool) (M' E':Int),l[k]?=some (e,K,s,M,E,K',s',M',E')→(vrow l)[k*9]?=some (.bool e)∧(vrow l)[k*9+1]?=some (.int .i64 K)∧(vrow l)[k*9+2]?=some (.bool s)∧(vrow l)[k*9+3]?=some (.int .u64 M)∧(vrow l)[k*9+4]?=some (.int .i64 E)∧(vrow l)[k*9+5]?=some (.int .i64 K')∧(vrow l)[k*9+6]?=some (.bool s')∧(vrow l)[k*9+7]?=some (.int .u64 M')∧(vrow l)[k*9+8]?=some (.int .i64 E')
 | [],k,_,_,_,_,_,_,_,_,_,h=>by cases h
 | (e,K,s,M,E,K',s',M',E')::l,0,_,_,_,_,_,_,_,_,_,h=>by
  cases h
  exact⟨rfl,rfl,rfl,rfl,rfl,rfl,rfl,rfl,rfl⟩
 | (e,K,s,M,E,K',s',M',E')::l,k+1,e2,K2,s2,M2,E2,K2',s2',M2',E2',h=>by
  have:=vrow_at l k e2 K2 s2 M2 E2 K2' s2' M2' E2' h
  have e:(k+1)*9=k*9+9:=by omega
  rw [e];exact this
def Ia (w:World)(base:Nat)(A:Option Addr)(n c:Nat)(l:List Sp):Prop:=
 ∃r:List V9,w.ownsRow base 32 9 (.slice A n c) n (vrow r)∧r.length=n∧l.length=n∧∀k,k < n→∃e K s M E K' s' M' E',r[k]?=some (e,K,s,M,E,K',s',M',E')∧Ci e K s M E K' s' M' E' (l.getD k none)
theorem infoIv:(Tryz.prog.info? 32).map (fun i=>(i.zero,i.size,i.bytes))=some (some (.agg #[.bool false,.int .i64 0,.bool false,.int .u64 0,.int .i64 0,.int .i64 0,.bool false,.int .u64 0,.int .i64 0]),9,72):=by kernel_rfl
section
variable {w w':World} {base n c:Nat} {A:Option Addr} {l:List Sp}
theorem Ia.nil (w:World)(base:Nat):Ia w base none 0 0 []:=⟨[],World.ownsRow_nil w base _ 9,rfl,rfl,fun k h=>absurd h (Nat.not_lt_zero _)⟩
theorem Ia.len (h:Ia w base A n c l):l.length=n:=by
 obtain⟨_,_,_,h,_⟩:=h;exact h
theorem Ia.below (h:Ia w base A n c l)(hb:Below w.heap.size w w'):Ia w' base A n c l:=by
 obtain⟨r,h1,h2⟩:=h;refine⟨r,⟨h1.1,?_⟩,h2⟩
 rcases h1.2 with h3 | ⟨g,cap,cur,hv,hg,hh,q⟩
 ·exact .inl h3
 ·refine .inr ⟨g,cap,cur,hv,hg,?_,q⟩;rw [hb.block g (Array.getElem?_eq_some_iff.1 hh).1];exact hh
theorem Ia.lower (h:Ia w base A n c l){base2:Nat}(hb:base2≤base):Ia w base2 A n c l:=by
 obtain⟨r,h1,h2⟩:=h;refine⟨r,⟨h1.1,?_⟩,h2⟩
 rcases h1.2 with h3 | ⟨g,cap,cur,hv,hg,q⟩
 ·exact .inl h3
 ·exact .inr ⟨g,cap,cur,hv,Nat.le_trans hb hg,q⟩
theorem Ia.own_lt (h:Ia w base A n c l):∀k,ownA A=some k→base≤k∧k < w.heap.size:=by
 obtain⟨r,h1,h2⟩:=h
 intro k hk
 exact h1.lt k (by rw [own_eq];exact hk)
theorem Bo.grownI{g:Nat}{a:Array Value}{T:TypeId}(X:Bo w g a T)(h:Ia w base A n c l)(hT:(T==32)=false)(G:w.grownBy w' (ownA A)):Bo w' g a T:=by
 refine X.keep (G.block g X.lt (fun e=>?_))
 obtain⟨r,h1,h2⟩:=h
 rcases h1.2 with⟨h3,_⟩ | ⟨g0,cap,cur,hv,hg,hh,q⟩
 ·injection h3 with h4
  subst h4
  cases e
 ·injection hv with h4
  subst h4
  cases e
  have hb:=X
  unfold Bo at hb
  rw [hh]at hb
  simp at hb
  rw [←hb.2]at hT
  simp at hT
theorem Ia.cells (h:Ia w base A n c l)(h0:0 < n):∃g,A=some ⟨g,0,none⟩∧n≤c∧∃r:List V9,r.length=n∧(∀k,k < n→∃e K s M E K' s' M' E',r[k]?=some (e,K,s,M,E,K',s',M',E')∧Ci e K s M E K' s' M' E' (l.getD k none))∧∀j v,(vrow r)[j]?=some v→w.cell? ⟨g,0+j,none⟩=some v:=by
 obtain⟨r,h1,h2,h3,h4⟩:=h
 rcases h1.2 with⟨e1,e2⟩ | ⟨g,cap,cur,hv,hg,hh,hc,hm,hs,ht⟩
 ·omega
 ·injection hv with a1 a2 a3
  subst a1;subst a3
  refine⟨g,rfl,hc,r,h2,h4,fun j v hv=>?_⟩
  rw [cell_of_row w g (0+j) _ _ (0,0) hh,Nat.zero_add,←Array.getElem?_toList];rw [←ht,List.getElem?_take]at hv
  split at hv
  ·exact hv
  ·cases hv
theorem Ia.il (h:Ia w base A n c l)(hn:n≤1099511627776):Il8 w A n c l:=by
 rcases Nat.eq_zero_or_pos n with h0 | h0
 ·subst h0;have hl:=h.len;obtain⟨r,h1,_⟩:=h
  rcases h1.2 with⟨e1,e2⟩ | ⟨g,cap,cur,hv,hg,hh,hc,hm,hs,ht⟩
  ·injection e1 with a1 a2 a3
   subst a3
   exact⟨hl,Nat.le_refl _,by omega,fun h=>absurd h (Nat.lt_irrefl _)⟩
  ·exact⟨hl,Nat.zero_le _,by omega,fun h=>absurd h (Nat.lt_irrefl _)⟩
 ·obtain⟨g,rfl,hc,r,h2,h4,cell⟩:=h.cells h0
  refine⟨h.len,hc,hn,fun _=>⟨g,0,rfl,fun k hk=>?_⟩⟩
  obtain⟨e,K,s,M,E,K',s',M',E',hr,q⟩:=h4 k hk;obtain⟨c0,c1,c2,c3,c4,c5,c6,c7,c8⟩:=vrow_at r k e K s M E K' s' M' E' hr;refine⟨e,K,s,M,E,K',s',M',E',cell _ _ c0,?_,?_,?_,?_,?_,?_,?_,?_,q.top.1,q.top.2,q.rk⟩
  all_goals rw [Nat.add_assoc]
  ·exact cell _ _ c1
  ·exact cell _ _ c2
  ·exact cell _ _ c3
  ·exact cell _ _ c4
  ·exact cell _ _ c5
  ·exact cell _ _ c6
  ·exact cell _ _ c7
  ·exact cell _ _ c8
theorem Ia.lit{g:Nat}{e s s':Bool}{K M E K' M' E':Int}{x:Sp}(X:Bo w g #[.bool e,.int .i64 K,.bool s,.int .u64 M,.int .i64 E,.int .i64 K',.bool s',.int .u64 M',.int .i64 E'] 32)(q:Ci e K s M E K' s' M' E' x):Ia w g (some ⟨g,0,none⟩) 1 1 [x]:=by
 refine⟨[(e,K,s,M,E,K',s',M',E')],⟨rfl,.inr ⟨g,1,_,rfl,Nat.le_refl _,X,Nat.le_refl _,by decide,rfl,rfl⟩⟩,rfl,rfl,fun k hk=>?_⟩
 obtain rfl:k=0:=by omega
 exact⟨e,K,s,M,E,K',s',M',E',rfl,q⟩
theorem add_at (g j:Nat):(⟨g,0,none⟩:Addr).add j=⟨g,0+j,none⟩:=by
 unfold Addr.add
 split
 ·rename_i h
  subst h
  rfl
 ·rfl
theorem run_ia{ty:TypeId}{base2 m d:Nat}{B:Option Addr}{l2:List Sp}(h:Ia w base A n c l)(k:Ia w base2 B m d l2)(h0:0 < m)(hn:n+m≤1000000)(hb:base≤w.heap.size):
  ∃A2 c2 w',(Builtin.append_ #[72,72] ty #[.slice A n c,.slice B m d]).run Tryz.prog w= .ok (.slice A2 (n+m) c2) w'∧Ia w' base A2 (n+m) c2 (l ++l2)∧w.grownBy w' (ownA A)∧(ownA A2=ownA A∨ownA A2=some w.heap.size):=by
 obtain⟨i,hi,hz,hsi,hby⟩:=info_parts infoIv;have hl2:=k.len;obtain⟨g,rfl,hc,q,q2,q4,cell⟩:=k.cells h0;obtain⟨r,h1,h2,h3,h4⟩:=h
 obtain⟨v',w',hr,ho,hg,_,hat⟩:=run_append_own_at (P:=Tryz.prog) w base 72 ty 32 i _ 9 72 Tryz.underlying72 hi hz hsi hby rfl (by decide) _ n (vrow r) h1 ⟨g,0,none⟩ m d (vrow q) (by rw [vrow_len,q2])
  (fun j u hj=>by rw [add_at];exact cell j u hj) (vrow_one q) (by unfold maxLen;omega) (by omega) hb
 rw [own_eq]at hg hat;rw [←vrow_append]at ho
 obtain⟨A2,c2,rfl⟩:∃A2 c2,v'= .slice A2 (n+m) c2:=by
  rcases ho.2 with⟨_,h0⟩ | ⟨g',cap',cur',hv,_⟩
  ·omega
  ·exact⟨_,_,hv⟩
 rw [own_eq]at hat
 refine⟨A2,c2,w',hr,⟨_,ho,by rw [List.length_append,h2,q2],by rw [List.length_append,h3,hl2],fun j hj=>?_⟩,hg,hat⟩
 by_cases hjn:j < n
 ·obtain⟨e1,K1,s1,M1,E1,K1',s1',M1',E1',hq,qq⟩:=h4 j hjn;refine⟨e1,K1,s1,M1,E1,K1',s1',M1',E1',by rw [List.getElem?_append_left (by omega)];exact hq,?_⟩
  rw [List.getD_eq_getElem?_getD,List.getElem?_append_left (by omega),←List.getD_eq_getElem?_getD];exact qq
 ·obtain⟨e1,K1,s1,M1,E1,K1',s1',M1',E1',hq,qq⟩:=q4 (j-n) (by omega);refine⟨e1,K1,s1,M1,E1,K1',s1',M1',E1',by rw [List.getElem?_append_right (by omega),h2];exact hq,?_⟩
  rw [List.getD_eq_getElem?_getD,List.getElem?_append_right (by omega),h3,←List.getD_eq_getElem?_getD];exact qq
theorem wpList_ia{ops:Array Oper}{rest:List Oper}{o:Oper}{a:Act}{Q:Exit→Act→World→Prop}(hgd:o.guard=none)(s x:Operand)
  (ho:o.op= .call {callee:= .builtin .append,args:= #[s,x],argTypes:= #[72,72]}) {base2 m d:Nat} {B:Option Addr} {l2:List Sp}
  (hs:a.eval s= .slice A n c) (hx:a.eval x= .slice B m d) (h:Ia w base A n c l) (k:Ia w base2 B m d l2) (h0:0 < m) (hn:n+m≤1000000) (hb:base≤w.heap.size)
  (hK:∀A2 c2 w',Ia w' base A2 (n+m) c2 (l ++l2)→w.grownBy w' (ownA A)→(ownA A2=ownA A∨ownA A2=some w.heap.size)→wpList Tryz.prog ops Q rest (a.put o.dst (.slice A2 (n+m) c2)) w'):wpList Tryz.prog ops Q (o::rest) a w:=by
 refine wpList_plain hgd fun K hK2=>?_
 obtain⟨A2,c2,w',hr,h1,h2,h3⟩:=run_ia (ty:=o.type) h k h0 hn hb
 unfold Oper.wp execOp
 simp only [ho,resolve,invoke,builtin,Sem.run_bind,Sem.run_pure,Result.andThen_ok,List.map_toArray,List.map_cons,List.map_nil,hs,hx,hr];exact hK2 _ _ (hK A2 c2 w' h1 h2 h3)
theorem step_ia{ops:Array Oper}{o:Oper}{a:Act}{K:Act→World→Prop}{Q:Exit→Act→World→Prop}(hgd:o.guard=none)(s x:Operand)
  (ho:o.op= .call {callee:= .builtin .append,args:= #[s,x],argTypes:= #[72,72]}) {base2 m d:Nat} {B:Option Addr} {l2:List Sp}
  (hs:a.eval s= .slice A n c) (hx:a.eval x= .slice B m d) (h:Ia w base A n c l) (k:Ia w base2 B m d l2) (h0:0 < m) (hn:n+m≤1000000) (hb:base≤w.heap.size)
  (hK:∀A2 c2 w',Ia w' base A2 (n+m) c2 (l ++l2)→w.grownBy w' (ownA A)→(ownA A2=ownA A∨ownA A2=some w.heap.size)→K (a.put o.dst (.slice A2 (n+m) c2)) w'):
  if Region.wanted o (yielded ops a.tmps)=true then Oper.wp Tryz.prog o a w K Q else K (a.put o.dst undef) w:=by
 have e:Region.wanted o (yielded ops a.tmps)=true:=by
  unfold Region.wanted
  rw [hgd]
 rw [if_pos e];obtain⟨A2,c2,w',hr,h1,h2,h3⟩:=run_ia (ty:=o.type) h k h0 hn hb
 unfold Oper.wp execOp
 simp only [ho,resolve,invoke,builtin,Sem.run_bind,Sem.run_pure,Result.andThen_ok,List.map_toArray,List.map_cons,List.map_nil,hs,hx,hr];exact hK A2 c2 w' h1 h2 h3
end
end Go.Proofs.YtaadmpiphnfllaaGreatDoor
namespace Go.Proofs.YtaadmpiphnfllaaGreatDoor
open Go Go.RowKit
set_option linter.unusedVariables false
structure Duo (g h:Nat) (w w':World):Prop where
 os:w'.os=w.os
 tape:w'.tape=w.tape
 output:w'.output=w.output
 size:w.heap.size≤w'.heap.size
 block:∀k,k < w.heap.size→k≠g→k≠h→w'.heap[k]?=w.heap[k]?
section
variable {g h:Nat} {w w' w'':World}
theorem Duo.of (H:Below w.heap.size w w'):Duo g h w w':=⟨H.os,H.tape,H.output,H.size,fun k hk _ _=>H.block k hk⟩
theorem Duo.trans (H:Duo g h w w')(K:Duo g h w' w''):Duo g h w w'':=
 ⟨K.os.trans H.os,K.tape.trans H.tape,K.output.trans H.output,Nat.le_trans H.size K.size,fun i hi a b=>(K.block i (Nat.lt_of_lt_of_le hi H.size) a b).trans (H.block i hi a b)⟩
theorem Duo.mv (H:Duo g h w w')(K:Below w'.heap.size w' w''):Duo g h w w'':=H.trans (.of K)
theorem Duo.stn{k:Nat}{old new:Array Value}{R:TypeId}(H:Duo g h w w')(S:StN w' w'' k old new R)(hk:k=g∨k=h∨w.heap.size≤k):Duo g h w w'':=by
 have hb:=S.2.2.2 0 w' (Nat.zero_le _) (Below.refl 0 w')
 exact⟨hb.os.trans H.os,hb.tape.trans H.tape,hb.output.trans H.output,Nat.le_trans H.size hb.size,fun i hi a b=>(S.2.2.1 i (by omega)).trans (H.block i hi a b)⟩
theorem Duo.below{B:Nat}{a:World}(O:Duo g h w w')(H:Below B a w)(h1:B≤g)(h2:B≤h)(h3:B≤w.heap.size):Below B a w':=
 ⟨O.os.trans H.os,O.tape.trans H.tape,O.output.trans H.output,Nat.le_trans H.size O.size,fun k hk=>(O.block k (by omega) (by omega) (by omega)).trans (H.block k hk)⟩
theorem Bo.duo{k:Nat}{cs:Array Value}{T:TypeId}(X:Bo w k cs T)(O:Duo g h w w')(a:k≠g)(b:k≠h):Bo w' k cs T:=X.keep (O.block k X.lt a b)
theorem Wn.duo{old old2:Array Value}{R R2:TypeId}{s:Bool}{B:Option Addr}{m d:Nat}{z:Int}(p:Wn w s B m d z)(X:Bo w g old R)(Y:Bo w h old2 R2)(hn:old.all no32=true)(hn2:old2.all no32=true)(O:Duo g h w w'):Wn w' s B m d z:=by
 obtain⟨⟨b,q⟩,e⟩:=p
 refine⟨⟨b,q.keep fun hm=>O.block b (q.lt hm) (fun e=>?_) (fun e=>?_)⟩,e⟩
 ·obtain⟨o,_,hc⟩:=q.at hm
  have:=hc 0 hm
  rw [e]at this;exact X.no hn this
 ·obtain⟨o,_,hc⟩:=q.at hm
  have:=hc 0 hm
  rw [e]at this;exact Y.no hn2 this
end
theorem term_le{p:Int}{k:Nat}{T:Int}(hp:0 < p)(hT:SC.fdiv (p*(2*(k:Int)+1))=T)(hn:T≠0):p≤SC:=by
 have hd:0 < p*(2*(k:Int)+1):=Int.mul_pos hp (by omega)
 rw [Int.fdiv_eq_ediv_of_nonneg _ (by omega)]at hT
 have le:p*(2*(k:Int)+1)≤SC:=by
  rcases Int.lt_or_le SC (p*(2*(k:Int)+1))with c | c
  ·exact absurd ((Int.ediv_eq_zero_of_lt (by decide) c).symm.trans hT).symm hn
  ·exact c
 exact Int.le_trans (by
  have:p*1≤p*(2*(k:Int)+1):=Int.mul_le_mul_of_nonneg_left (by omega) (by omega)
  omega) le
theorem term_bd{p T:Int}{k:Nat}(hp:0 < p)(hT:SC.fdiv (p*(2*(k:Int)+1))=T):0≤T∧T≤SC:=by
 have hd:0 < p*(2*(k:Int)+1):=Int.mul_pos hp (by omega)
 rw [Int.fdiv_eq_ediv_of_nonneg _ (by omega)]at hT;rw [←hT];exact⟨Int.ediv_nonneg (by decide) (by omega),Int.ediv_le_self _ (by decide)⟩
theorem power_bd{p n:Int}(hp:0 < p)(h:p≤SC*1000000)(h1:2≤n)(h2:n≤1000):0 < p*(n*n)∧p*(n*n)≤SC*1000000*1000000:=by
 have a:0 < n*n:=Int.mul_pos (by omega) (by omega)
 have b:n*n≤1000*1000:=Int.mul_le_mul h2 h2 (by omega) (by decide)
 exact⟨Int.mul_pos hp a,Int.mul_le_mul h (by omega) (by omega) (by decide)⟩
theorem small8{T:Int}(h:0≤T∧T≤SC):T.natAbs < 4294967296^8:=by
 have a:T≤6277101735386680763835789423207666416102355444464034512896:=h.2
 have b:=h.1
 omega
theorem small10{p:Int}(h:0 < p∧p≤SC*1000000*1000000):p.natAbs < 4294967296^10:=by
 have a:p≤6277101735386680763835789423207666416102355444464034512896*1000000*1000000:=h.2
 have b:=h.1
 omega
end Go.Proofs.YtaadmpiphnfllaaGreatDoor
namespace Go.Proofs.YtaadmpiphnfllaaGreatDoor
set_option maxHeartbeats 4000000
open Go.RowKit
set_option linter.unusedVariables false
set_option linter.unusedSimpArgs false
set_option maxRecDepth 100000
theorem cScale{w:World}:Calls Tryz.prog 38 #[] w (W1 w 8 SC):=by
 go_enter Tryz.func38,Tryz.ntmps38
 go_upto_region 1 with (fail)
 generalize hW1:w.alloc _=w1 at *;obtain⟨XR,HB⟩:=Bo.en1 hW1;clear hW1
 go_wp2_with fail
 refine (vShl (a:=1) 192 ⟨_,[1],one_limb w1,rfl⟩ (by decide) (by decide)).mono ?_;rintro ee w2 ⟨A2,n2,c2,rfl,p2,k2,B⟩;replace B:=bt (bel1 _ (.cells #[.int .u32 1] 81)) B;replace XR:=XR.below B;replace HB:=Hqb HB B;clear B
 go_wp2_with fail
 refine (wMake false p2.rd).mono ?_;rintro ee w3 ⟨s3,A3,n3,c3,rfl,p3,k3,B⟩;replace XR:=XR.below B;replace p2:=p2.below B;replace HB:=Hqb HB B;clear B;clear p2
 replace p3:Wn w3 s3 A3 n3 c3 SC:=by rw [show SC=sg false (1*2^192) by decide];exact p3
 have xXR:=XR.cell;have zXR0:=XR.frozen;go_wp2;clear xXR zXR0;have SX:=StN.mk2 XR (.bool s3) (.slice A3 n3 c3);replace p3:=p3.stn SX (by simp [no32]);exact bodyPost_ret (v:= .agg #[.bool s3,.slice A3 n3 c3]) (by simp [results,Tryz.results38,go_sem,SX.box.cell]) rfl ⟨s3,A3,n3,c3,rfl,p3,by omega,(SX.below HB.out (by omega))⟩
theorem cPiece{w:World}{A:Option Addr}{n c K:Nat}{zs:List Int}{y q:Int}(h:Wl w A n c K zs)(hK:1+n*K≤1000)(hy:prd zs=y)(h0:y≠0)(hq:SC.fdiv y=q):Calls Tryz.prog 233 #[.slice A n c] w (W1 w 2000 q):=by
 go_enter Tryz.func233,Tryz.ntmps233
 go_upto_region 1 with (fail)
 generalize hW1:w.alloc _=w1 at *;obtain⟨XR,HB⟩:=Bo.en1 hW1;replace h:=h.below HB.out;clear hW1
 go_wp2_with fail
 refine (cScale).mono ?_;rintro ee w2 ⟨s2,A2,n2,c2,rfl,p2,k2,B⟩;replace XR:=XR.below B;replace h:=h.below B;replace HB:=Hqb HB B;clear B
 go_wp2_with fail
 refine (wMul h (by omega) hy).mono ?_;rintro ee w3 ⟨s3,A3,n3,c3,rfl,p3,k3,B⟩;replace XR:=XR.below B;replace h:=h.below B;replace p2:=p2.below B;replace HB:=Hqb HB B;clear B;clear h
 go_wp2_with fail
 refine (wDiv p2.wr p3.wr (by omega) (by omega) h0 hq rfl).mono ?_;rintro ee w4 ⟨s8,A8,n8,c8,s9,A9,n9,c9,rfl,p8,p9,k8,k9,B⟩;replace XR:=XR.below B;replace p2:=p2.below B;replace p3:=p3.below B;replace HB:=Hqb HB B;clear B;clear p2 p3
 go_upto_region 2 with (fail)
 have e4X6:(World.alloc w4 (.cells #[.bool s8,.slice A8 n8 c8] 27)).heap.size=w4.heap.size+1:=by simp
 have lX5:=Nat.le_refl (World.heap w4).size;have nX5XR:=XR.lt;have BX:=bel1 w4 (.cells #[.bool s8,.slice A8 n8 c8] 27);replace XR:=XR.below BX;replace p8:=p8.below BX;replace p9:=p9.below BX;replace HB:=Lib.hid (bt HB.out BX);have X5:=Bo.new w4 #[.bool s8,.slice A8 n8 c8] 27
 generalize hWn:World.alloc w4 (.cells #[.bool s8,.slice A8 n8 c8] 27)=w5 at *;clear hWn;have lX6:=Nat.le_refl (World.heap w5).size;have nX6XR:=XR.lt;have nX6X5:=X5.lt;generalize hWn:w5.alloc _=w6 at *;obtain⟨X6,BW⟩:=Bo.nw hWn;clear hWn;replace XR:=XR.below BW;replace X5:=X5.below BW;replace p8:=p8.below BW;replace p9:=p9.below BW;replace HB:=Hqb HB BW
 clear BW;rw [e4X6]at X6;clear lX5 lX6 e4X6;clear p9;have xXR:=XR.cell;have zXR0:=XR.frozen;have xX5:=X5.cell;go_wp2;clear xXR zXR0 xX5;have SX:=StN.mk2 XR (.bool s8) (.slice A8 n8 c8);replace p8:=p8.stn SX (by simp [no32]);exact bodyPost_ret (v:= .agg #[.bool s8,.slice A8 n8 c8]) (by simp [results,Tryz.results233,go_sem,SX.box.cell]) rfl ⟨s8,A8,n8,c8,rfl,p8,by omega,(SX.below HB.out (by omega))⟩
def PNx (w:World)(gp go:Nat)(T P O:Int)(e:Ending)(w':World):Prop:=∃s A n c s6 A6 n6 c6,e= .returned (.agg #[.bool s,.slice A n c])∧Wn w' s A n c T∧n≤8∧Bo w' gp #[.bool s6,.slice A6 n6 c6] 27∧Wn w' s6 A6 n6 c6 P∧n6≤10∧Bo w' go #[.int .i64 O] 3∧Duo gp go w w'
theorem cNext{w:World}{gp go gb k:Nat}{s6 s7:Bool}{A6 A7:Option Addr}{n6 c6 n7 c7:Nat}{p n T:Int}(XP:Bo w gp #[.bool s6,.slice A6 n6 c6] 27)(XO:Bo w go #[.int .i64 (2*(k:Int)+1)] 3)(XB:Bo w gb #[.bool s7,.slice A7 n7 c7] 27)(p6:Wn w s6 A6 n6 c6 p)(p7:Wn w s7 A7 n7 c7 n)(k6:n6≤10)(k7:n7≤2)(hpo:gp≠go)(hpb:gp≠gb)(hob:go≠gb)
  (hk:k≤1000) (hp:0 < p) (hp2:p≤SC*1000000) (h1:2≤n) (h2:n≤1000) (hT:SC.fdiv (p*(2*(k:Int)+1))=T):
  Calls Tryz.prog 232 #[.pointer (some ⟨gp,0,none⟩),.pointer (some ⟨go,0,none⟩),.pointer (some ⟨gb,0,none⟩)] w (PNx w gp go T (p*(n*n)) (2*(k:Int)+3)):=by
 have HT:=Lib.hid hT
 have HY:Hid (prd [p,2*(k:Int)+1]=p*(2*(k:Int)+1)):=Lib.hid (by show 1*p*(2*(k:Int)+1)=_;rw [Int.one_mul])
 have H0:Hid (p*(2*(k:Int)+1)≠0):=Lib.hid (by have:=Int.mul_pos hp (show (0:Int) < 2*(k:Int)+1 by omega);omega)
 have HM:Hid (prd [p,n,n]=p*(n*n)):=Lib.hid (by show 1*p*n*n=_;rw [Int.one_mul,Int.mul_assoc])
 have HTB:=Lib.hid (term_bd hp hT);have HPB:=Lib.hid (power_bd hp hp2 h1 h2)
 have HW1:Hid (IntKind.i64.wrap (2*(k:Int)+1+2)=2*(k:Int)+3):=Lib.hid (by rw [show 2*(k:Int)+1+2=2*(k:Int)+3 by omega];exact IntWalk.i64_in _ (by omega))
 have HW2:Hid (wrap64 (2*(k:Int)+1+2)=2*(k:Int)+3):=Lib.hid (by rw [show 2*(k:Int)+1+2=2*(k:Int)+3 by omega];exact IntWalk.wrap64_in _ (by omega))
 have HK:Hid (2*(k:Int)+1≤3000):=Lib.hid (by omega)
 have G1:=XP.lt;have G2:=XO.lt;have G3:=XB.lt;clear hT hp hp2 h1 h2
 go_enter Tryz.func232,Tryz.ntmps232
 go_upto_region 1 with (fail)
 have XR:=Bo.newAt w (g:=w.heap.size) rfl #[.bool false,.slice none 0 0] 27
 have HB:Hid (Duo gp go w (World.alloc w (.cells #[.bool false,.slice none 0 0] 27))):=Lib.hid (.of (bel1 w (.cells #[.bool false,.slice none 0 0] 27)))
 replace XP:=XP.below (bel1 w (.cells #[.bool false,.slice none 0 0] 27));replace XO:=XO.below (bel1 w (.cells #[.bool false,.slice none 0 0] 27));replace XB:=XB.below (bel1 w (.cells #[.bool false,.slice none 0 0] 27));replace p6:=p6.below (bel1 w (.cells #[.bool false,.slice none 0 0] 27));replace p7:=p7.below (bel1 w (.cells #[.bool false,.slice none 0 0] 27));generalize hW1:World.alloc w (.cells #[.bool false,.slice none 0 0] 27)=w1 at *
 clear hW1;have ltXP:=XP.lt;have ltXO:=XO.lt;have ltXB:=XB.lt;have ltXR:=XR.lt;refine Jo.rk [0,1,2,3,4,5] [some 5,some 6,some 7,some 8,some 9,some 4,none] [[],[],[1],[0,2],[3],[],[]] 7 1 [Jo.Fact.eq (.agg #[.bool s6,.slice A6 n6 c6]),Jo.Fact.eq (.int .i64 (2*(k:Int)+1)),Jo.Fact.wn (2*(k:Int)+1) (2),Jo.Fact.wl 10 2 [p,2*(k:Int)+1],Jo.Fact.wn (T) (8),Jo.Fact.bo w1.heap.size #[.bool false,.slice none 0 0] 27,Jo.Fact.any] (by kernel_rfl) (by kernel_rfl) (by decide) rfl ?_ ?_
 ·refine Jo.jm rfl ?_ ?_
  ·rintro wj hJ K hK;simp only [Jo.z]at hK⊢;have xXP:=(XP.below hJ).cell;go_simp;exact hK.out _ _ rfl (br _ _)
  refine Jo.jm rfl ?_ ?_
  ·rintro wj hJ K hK;simp only [Jo.z]at hK⊢;have xXO0:=(XO.below hJ).a 0 (.int .i64 (2*(k:Int)+1)) rfl;go_simp;exact hK.out _ _ rfl (br _ _)
  refine Jo.jm rfl ?_ ?_
  ·rintro wj hJ _ rfl K hK;simp only [Jo.z]at hK⊢;go_simp;refine (wFrom _ _ (by omega) (by omega)).mono ?_;rintro ee wk ⟨s20,A20,n20,c20,rfl,p20,k20,B⟩;exact hK.out _ _ ⟨s20,A20,n20,c20,rfl,p20,k20⟩ B
  refine Jo.jm rfl ?_ ?_
  ·rintro wj hJ _ rfl _ ⟨s20,A20,n20,c20,rfl,p20,k20⟩ K hK;simp only [Jo.z]at hK⊢;go_simp;exact hK.out _ _ ⟨_,_,rfl,Wl.lit2 rfl (p6.below hJ).wr p20.wr (by omega) (by omega)⟩ (bel1 _ _)
  refine Jo.jm rfl ?_ ?_
  ·rintro wj hJ _ ⟨A25,c25,rfl,h25⟩ K hK;simp only [Jo.z]at hK⊢;go_simp;refine (cPiece h25 (by decide) HY.out H0.out HT.out).mono ?_;rintro ee wk ⟨s21,A21,n21,c21,rfl,p21,k21,B⟩;exact hK.out _ _ ⟨s21,A21,n21,c21,rfl,p21,(p21.fits (small8 HTB.out))⟩ B
  refine Jo.jm rfl ?_ ?_
  ·rintro wj hJ K hK;simp only [Jo.z]at hK⊢;go_simp;exact hK.out _ _ ⟨_,rfl,hJ.size,Bo.new _ _ _⟩ (bel1 _ _)
  exact Jo.Steps.nil
 rintro w2 hJ _ rfl _ rfl _ ⟨s20,A20,n20,c20,rfl,p20,k20⟩ _ ⟨_,_,rfl,_⟩ _ ⟨s21,A21,n21,c21,rfl,p21,k21⟩ _ ⟨g8,rfl,hg8,X8⟩ -;simp only [Jo.z];replace XP:=XP.below hJ;replace XO:=XO.below hJ;replace XB:=XB.below hJ;replace XR:=XR.below hJ;replace p6:=p6.below hJ;replace p7:=p7.below hJ;replace HB:=Lib.hid (HB.out.mv hJ);have xX8:=X8.cell;have zX80:=X8.frozen
 refine Jo.jnext (i:=6) (o:=⟨none,_,_,_,_,_⟩) (by kernel_rfl) rfl (fun K hK=>?_)
 go_simp;refine hK.out _ _ ?_;clear hK K xX8 zX80;generalize hS:(w2.setCell _ _).setCell _ _=w3 at *;have SX:=StN.of2 X8 hS;replace XP:=XP.stn SX (by omega);replace XO:=XO.stn SX (by omega);replace XB:=XB.stn SX (by omega);replace XR:=XR.stn SX (by omega);replace p6:=p6.stn SX (by simp [no32]);replace p7:=p7.stn SX (by simp [no32]);replace p21:=p21.stn SX (by simp [no32])
 replace HB:=Lib.hid (HB.out.stn SX (by omega));replace X8:=SX.box;clear SX hS;refine Jo.jdone (by kernel_rfl) ?_;have xXP:=XP.cell;have xXB:=XB.cell
 go_wp2_with fail
 refine (wMul (Wl.lit3 (K:=10) rfl p6.wr p7.wr p7.wr (by omega) (by omega) (by omega)) (by decide) HM.out).mono ?_;rintro ee w4 ⟨s22,A22,n22,c22,rfl,p22,k22,B⟩;replace B:=bt (bel1 _ _) B;clear xXP xXB;replace XP:=XP.below B;replace XO:=XO.below B;replace XB:=XB.below B;replace XR:=XR.below B;replace X8:=X8.below B;replace p6:=p6.below B;replace p7:=p7.below B
 replace p21:=p21.below B;replace HB:=Lib.hid (HB.out.mv B);clear B p6 p7
 replace k22:n22≤10:=p22.fits (small10 HPB.out)
 have xXP:=XP.cell;have zXP0:=XP.frozen
 go_upto_region 3 with (fail)
 clear xXP zXP0;generalize hS:(w4.setCell _ _).setCell _ _=w5 at *;have SX:=StN.of2 XP hS;replace XO:=XO.stn SX (by omega);replace XB:=XB.stn SX (by omega);replace XR:=XR.stn SX (by omega);replace X8:=X8.stn SX (by omega);replace p21:=p21.stn SX (by simp [no32]);replace p22:=p22.stn SX (by simp [no32]);replace HB:=Lib.hid (HB.out.stn SX (by omega));replace XP:=SX.box
 clear SX hS;have hw1:=HW1.out;have hw2:=HW2.out;have xXO0:=XO.a 0 (.int .i64 (2*(k:Int)+1)) rfl;have zXO0:=XO.frozen 0
 go_upto_region 4 with (fail)
 clear hw1 hw2;clear xXO0 zXO0
 have SX:StN w5 (World.setCell w5 ⟨go,0,none⟩ (.int .i64 (2*(k:Int)+3))) _ _ #[.int .i64 (2*(k:Int)+3)] _:=StN.at4 XO 0 (.int .i64 (2*(k:Int)+3))
 replace XP:=XP.stn SX (by omega);replace XB:=XB.stn SX (by omega);replace XR:=XR.stn SX (by omega);replace X8:=X8.stn SX (by omega);replace p21:=p21.stn SX (by simp [no32]);replace p22:=p22.stn SX (by simp [no32]);replace HB:=Lib.hid (HB.out.stn SX (by omega));replace XO:=SX.box;clear SX;generalize World.setCell w5 ⟨go,0,none⟩ (.int .i64 (2*(k:Int)+3))=w6 at *;have xXR:=XR.cell
 have zXR0:=XR.frozen;have xX8:=X8.cell;go_wp2;clear xXR zXR0 xX8;generalize hS:(w6.setCell _ _).setCell _ _=w7 at *;have SX:=StN.of2 XR hS;replace XP:=XP.stn SX (by omega);replace XO:=XO.stn SX (by omega);replace XB:=XB.stn SX (by omega);replace X8:=X8.stn SX (by omega);replace p21:=p21.stn SX (by simp [no32]);replace p22:=p22.stn SX (by simp [no32])
 replace HB:=Lib.hid (HB.out.stn SX (by omega));replace XR:=SX.box;clear SX hS;exact bodyPost_ret (v:= .agg #[.bool s21,.slice A21 n21 c21]) (by simp [results,Tryz.results232,go_sem,XR.cell]) rfl ⟨s21,A21,n21,c21,s22,A22,n22,c22,rfl,p21,k21,XP,p22,k22,XO,HB.out⟩
theorem cTerms{w:World}{n:Int}(h1:2≤n)(h2:n≤1000):Calls Tryz.prog 220 #[.int .i64 n] w (fun e w'=>∃gp go gb s6 A6 n6 c6 s7 A7 n7 c7,e= .returned (.func (.func 232) #[] #[.pointer (some ⟨gp,0,none⟩),.pointer (some ⟨go,0,none⟩),.pointer (some ⟨gb,0,none⟩)])∧Bo w' gp #[.bool s6,.slice A6 n6 c6] 27∧Bo w' go #[.int .i64 1] 3∧Bo w' gb #[.bool s7,.slice A7 n7 c7] 27∧Wn w' s6 A6 n6 c6 n∧Wn w' s7 A7 n7 c7 n∧n6≤2∧n7≤2∧gp≠go∧gp≠gb∧go≠gb∧w.heap.size≤gp∧w.heap.size≤go∧Below w.heap.size w w'):=by
 have hmf:∀(fn:Fn) (first cap:Array Value) (w:World),(Instr.makeFunc fn first cap).run Tryz.prog w= .ok (.func fn first cap) w:=fun _ _ _ _=>rfl
 have HB:=Lib.hid (Below.refl w.heap.size w)
 go_enter Tryz.func220,Tryz.ntmps220
 go_wp2_with fail
 refine (wFrom n _ (by omega) (by omega)).mono ?_;rintro ee w2 ⟨s7,A7,n7,c7,rfl,p7,k7,B⟩;replace HB:=Hqb HB B;clear B
 go_wp2_with fail
 refine (wFrom n _ (by omega) (by omega)).mono ?_;rintro ee w3 ⟨s6,A6,n6,c6,rfl,p6,k6,B⟩;replace p7:=p7.below B;replace HB:=Hqb HB B;clear B;have hsz:=HB.out.size
 go_upto_region 2 with (fail)
 have e4XP:(World.alloc w3 (.cells #[.bool s7,.slice A7 n7 c7] 27)).heap.size=w3.heap.size+1:=by simp
 have e4XO:(World.alloc (World.alloc w3 (.cells #[.bool s7,.slice A7 n7 c7] 27)) (.cells #[.bool s6,.slice A6 n6 c6] 27)).heap.size=w3.heap.size+1+1:=by simp
 have lXB:=Nat.le_refl (World.heap w3).size;have BX:=bel1 w3 (.cells #[.bool s7,.slice A7 n7 c7] 27);replace p6:=p6.below BX;replace p7:=p7.below BX;replace HB:=Lib.hid (bt HB.out BX);have XB:=Bo.new w3 #[.bool s7,.slice A7 n7 c7] 27;generalize hWn:World.alloc w3 (.cells #[.bool s7,.slice A7 n7 c7] 27)=w4 at *
 clear hWn;have lXP:=Nat.le_refl (World.heap w4).size;have nXPXB:=XB.lt;generalize hWn:w4.alloc _=w5 at *;obtain⟨XP,BW⟩:=Bo.nw hWn;clear hWn;replace XB:=XB.below BW;replace p6:=p6.below BW;replace p7:=p7.below BW;replace HB:=Hqb HB BW;clear BW;have lXO:=Nat.le_refl (World.heap w5).size;have nXOXB:=XB.lt;have nXOXP:=XP.lt;generalize hWn:w5.alloc _=w6 at *
 obtain⟨XO,BW⟩:=Bo.nw hWn;clear hWn;replace XB:=XB.below BW;replace XP:=XP.below BW;replace p6:=p6.below BW;replace p7:=p7.below BW;replace HB:=Hqb HB BW;clear BW;rw [e4XP]at XP;rw [e4XO]at XO;clear lXB lXP lXO;go_wp2;exact bodyPost_ret (v:= .func (.func 232) #[] #[.pointer (some ⟨w3.heap.size+1,0,none⟩),.pointer (some ⟨w3.heap.size+1+1,0,none⟩),.pointer (some ⟨w3.heap.size,0,none⟩)]) (by simp [results,Tryz.results220,go_sem]) rfl ⟨_,_,_,_,_,_,_,_,_,_,_,rfl,XP,XO,XB,p6,p7,k6,k7,by omega,by omega,by omega,by omega,by omega,HB.out⟩
end Go.Proofs.YtaadmpiphnfllaaGreatDoor
