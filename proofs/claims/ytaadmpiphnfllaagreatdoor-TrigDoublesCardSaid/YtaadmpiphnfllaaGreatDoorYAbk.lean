/-
 Contracts that the proof rests on.
-/
import Derived.Test.YtaadmpiphnfllaaGreatDoorYAbj
namespace Go.Proofs.YtaadmpiphnfllaaGreatDoor
open Go Go.RowKit
set_option linter.unusedVariables false
theorem opl_20:opl 1048576=9671009951919448642289665∧opl 1073741824=9671102185639817190047745∧opl (-1048576)= -opl 1048576:=by decide
theorem twice_place{s:Bool}{M E x:Int}(q:Fq 1 s M E x)(h1:¬opl 1048576 < x)(h2:¬x < opl (-1048576)):∃y,Fq 1 s M (E+1) y∧vr y=2*vr x∧fixB x=true∧fixB y=true∧ -9223372036854775808≤E∧E < 9223372036854775807:=by
 obtain⟨a,b,c⟩:=opl_20;rw [c,a]at h2;rw [a]at h1
 rcases q.cases with⟨k,_⟩ | ⟨_,m1,m2,e1,e2,⟨hs,hx⟩ | ⟨hs,hx⟩⟩ | ⟨k,_⟩
 ·omega
 ·subst hs
  have hE:E≤1000:=by omega
  have hp:(0:Int) < x:=by omega
  refine⟨x+9223372036854775808,Fq.fin m1 m2 (by omega) (by omega) (by rw [show sgi false (M-9223372036854775808+1+(E+1+1048576)*9223372036854775808)=M-9223372036854775808+1+(E+1+1048576)*9223372036854775808 from if_neg (by decide)];omega),?_,decide_eq_true (by omega),decide_eq_true (by omega),by omega,by omega⟩
  rw [vr_shift hp,Int.mul_comm]
 ·subst hs
  have hE:E≤1000:=by omega
  have hp:(0:Int) < -x:=by omega
  refine⟨x-9223372036854775808,Fq.fin m1 m2 (by omega) (by omega) (by rw [show sgi true (M-9223372036854775808+1+(E+1+1048576)*9223372036854775808)= -(M-9223372036854775808+1+(E+1+1048576)*9223372036854775808)from if_pos rfl];omega),?_,decide_eq_true (by omega),decide_eq_true (by omega),by omega,by omega⟩
  have v:=vr_shift hp
  rw [show -x+9223372036854775808= -(x-9223372036854775808) by omega,vr_neg,vr_neg]at v
  omega
 ·omega
theorem two_pt:mkI (opl 2) (opl 2)=some (opl 2,opl 2):=by
 obtain⟨a,b⟩:=opl_pos (n:=2) (by decide) (by decide);exact mkI_some (Int.le_refl _) (by omega) (by omega)
end Go.Proofs.YtaadmpiphnfllaaGreatDoor
namespace Go.Proofs.YtaadmpiphnfllaaGreatDoor
set_option maxHeartbeats 8000000
open Go.RowKit
set_option linter.unusedVariables false
set_option linter.unusedSimpArgs false
set_option maxRecDepth 100000
theorem ci_some{e:Bool}{D M E D' M' E':Int}{s s':Bool}{a b:Int}(hM:LQ M)(hM':LQ M')(h:rkI e D s M E D' s' M' E'=some (a,b)):Ci e D s M E D' s' M' E' (some (a,b)):=by
 rw [←h];refine mayI_ci hM hM' ?_
 cases hm:mayI e D s M E D' s' M' E'
 ·rw [mayI_no hm]at h
  cases h
 ·rfl
theorem fkEmpty{w:World}{A:Option Addr}{n c:Nat}{l:List Sp}{r:Bool}(h:Il8 w A n c l)(hr:gone l=r):Calls Tryz.prog 69 #[.slice A n c] w (PB w r):=by
 have HR:=Lib.hid hr;have HLn:=Lib.hid h.1;have hcap:=h.2.1;have hbig:=h.2.2.1;have hD0:=h;clear hr h
 go_enter Tryz.func69,Tryz.ntmps69
 go_wp2
 go_loopw [7] (fun i wr=>∃k:Nat,k≤n∧i= .int .i64 k∧(∀j,j < k→l.getD j none≠none)∧Below w.heap.size w wr) (fun i _=>n-(intOf i).toNat)
 case atStart=>exact ⟨0,Nat.zero_le _,rfl,fun j h=>absurd h (Nat.not_lt_zero _),Below.refl _ _⟩
 case round=>
  obtain⟨k,hk,rfl,hU,hB⟩:=hrel;have HU:=Lib.hid hU;have HB:=Lib.hid hB;clear hU hB
  by_cases hlt:k < n
  ·have tlt:decide ((k:Int) < (n:Int))=true:=by simp;omega
   have h:=hD0.below HB.out;obtain⟨b,o,rfl,hcell⟩:=h.2.2.2 (by omega);obtain⟨e,D,s,M,E,D',s',M',E',x0,x1,x2,x3,x4,x5,x6,x7,x8,hM,hM',hx⟩:=hcell k hlt;clear hcell h hD0
   have i1:(k:Int) < n:=by omega
   have i2:(0:Int)≤k:=by omega
   have hyes:l.getD k none=none→r=true:=fun e=>HR.out.symm.trans (gone_at (by rw [HLn.out];exact hlt) e)
   have hnx:l.getD k none≠none→∀j,j < k+1→l.getD j none≠none:=fun e j hj=>by
    by_cases c:j=k
    ·rw [c];exact e
    ·exact HU.out j (by omega)
   rw [←hx]at hyes hnx;clear hx HR HU
   cases e
   ·go_upto_region 4 with (fail)
    clear x0 x1 x2 x3 x4 x5 x6 x7 x8;have lX4:=Nat.le_refl (World.heap wr).size;generalize hWn:wr.alloc _=w3 at *;obtain⟨X4,BW⟩:=Bo.nw hWn;clear hWn;replace HB:=Hqb HB BW;clear BW;clear lX4;have hm0:=mayI_no (e:=false) (K:=D) (s:=s) (M:=M) (E:=E) (K':=D') (s':=s') (M':=M') (E':=E')
    cases hm:mayI false D s M E D' s' M' E'
    ·obtain rfl:=hyes (hm0 hm)
     have HMY:=Lib.hid hm;clear hyes hnx hm hm0;have xX4:=X4.cell
     go_wp2_with fail
     refine (kvMay hM hM' HMY.out).mono ?_;rintro ee w4 ⟨rfl,B⟩;clear xX4;replace X4:=X4.below B;replace HB:=Hqb HB B;clear B;clear HMY;go_wp2
     go_ret
     exact⟨rfl,HB.out⟩
    ·have HN:Hid (∀j,j < k+1→l.getD j none≠none):=Lib.hid (hnx (of_decide_eq_true hm))
     have HMY:=Lib.hid hm;clear hyes hnx hm hm0;have xX4:=X4.cell
     go_wp2_with fail
     refine (kvMay hM hM' HMY.out).mono ?_;rintro ee w4 ⟨rfl,B⟩;clear xX4;replace X4:=X4.below B;replace HB:=Hqb HB B;clear B;clear HMY;go_wp2
     go_roundw
     case rel=>exact ⟨k+1,by omega,by go_num,HN.out,HB.out⟩
     case measure=>simp [intOf];omega
   ·go_upto_region 4 with (fail)
    clear x0 x1 x2 x3 x4 x5 x6 x7 x8;have lX4:=Nat.le_refl (World.heap wr).size;generalize hWn:wr.alloc _=w3 at *;obtain⟨X4,BW⟩:=Bo.nw hWn;clear hWn;replace HB:=Hqb HB BW;clear BW;clear lX4
    obtain rfl:=hyes rkI_t
    clear hyes hnx;have xX4:=X4.cell;go_wp2
    go_ret
    exact⟨rfl,HB.out⟩
  ·obtain rfl:k=n:=by omega
   have tlt:decide ((k:Int) < (k:Int))=false:=by simp
   obtain rfl:false=r:=(gone_no (fun j hj=>HU.out j (by rw [HLn.out]at hj;exact hj))).symm.trans HR.out
   clear HU HR;go_wp2
   go_ret
   exact⟨rfl,HB.out⟩
theorem fkNeg{w:World}{e:Bool}{D M E D' M' E':Int}{s s':Bool}{x z:Sp}(hM:LQ M)(hM':LQ M')(hx:rkI e D s M E D' s' M' E'=x)(hr:negI x=z):Calls Tryz.prog 31 #[VI e D s M E D' s' M' E'] w (PV w z):=by
 delta VI
 obtain⟨p,hp⟩:∃p,gone [x]=p:=⟨_,rfl⟩;have HP:=Lib.hid hp;have HX:=Lib.hid hx;clear hx hp
 go_enter Tryz.func31,Tryz.ntmps31
 go_upto_region 1 with (fail)
 generalize hW1:(w.alloc _).alloc _=w1 at *;obtain⟨X1,XR,HB⟩:=Bo.en2 hW1;clear hW1;have xX1:=X1.cell
 go_wp2_with fail
 refine (fkEmpty (Il8.lit1 rfl ⟨hM,hM',HX.out⟩) HP.out).mono ?_;rintro ee w2 ⟨rfl,B⟩;replace B:=bt (bel1 _ (.cells #[.bool e,.int .i64 D,.bool s,.int .u64 M,.int .i64 E,.int .i64 D',.bool s',.int .u64 M',.int .i64 E'] 32)) B;clear xX1;replace X1:=X1.below B;replace XR:=XR.below B;replace HB:=Hqb HB B;clear B
 rcases x with _ | ⟨xa,xb⟩
 ·obtain rfl:true=p:=HP.out
  obtain rfl:none=z:=hr
  clear HP
  go_wp2_with fail
  refine (kvNoneE).mono ?_;rintro ee w3 ⟨rfl,B⟩;replace X1:=X1.below B;replace XR:=XR.below B;replace HB:=Hqb HB B;clear B;have xXR:=XR.cell;have zXR0:=XR.frozen;go_wp2;clear xXR zXR0;have SX:=StN.mk9 XR (.bool true) (.int .i64 0) (.bool false) (.int .u64 0) (.int .i64 0) (.int .i64 0) (.bool false) (.int .u64 0) (.int .i64 0)
  exact bodyPost_ret (by simp [results,Tryz.results31,go_sem,SX.box.cell]) rfl ⟨_,_,_,_,_,_,_,_,_,rfl,Ci.none,(SX.below HB.out (by omega))⟩
 ·obtain⟨rfl,a1,b1,o1,o1l,o1h⟩:=ci_some hM hM' HX.out
  obtain rfl:false=p:=HP.out
  obtain⟨u,hu⟩:∃u,-xb=u:=⟨_,rfl⟩;obtain⟨l,hl⟩:∃l,-xa=l:=⟨_,rfl⟩
  have hr2:mkI u l=z:=by rw [←hu,←hl];exact hr
  have HU:Hid (-rk D' s' M' E'=u):=Lib.hid (by rw [b1.rk];exact hu)
  have HL:Hid (-rk D s M E=l):=Lib.hid (by rw [a1.rk];exact hl)
  have HR:=Lib.hid hr2;clear hu hl hr hr2 o1 o1l o1h HX HP;have xX1:=X1.cell
  go_upto_region 3 with (fail)
  clear xX1;refine Jo.rk [0,1,2,3,4,5,6] [some 7,some 8,some 9,some 10,some 11,some 12,some 13,none] [[],[0],[1],[],[3],[4],[2,5],[]] 8 1 [Jo.qp w.heap.size 5,Jo.q4 D' s' M' E',Jo.Fact.num u,Jo.qp w.heap.size 1,Jo.q4 D s M E,Jo.Fact.num l,Jo.Fact.iv z,Jo.Fact.any] (by kernel_rfl) (by kernel_rfl) (by decide) rfl ?_ ?_
  ·iterate 2 (refine Jo.jm rfl ?_ ?_;rotate_left)
   refine Jo.jm rfl ?_ ?_
   ·rintro wj hJ _ rfl K hK;simp only [Jo.z]at hK⊢;go_simp;refine (nNeg b1.top HU.out).mono ?_;rintro ee wk ⟨K2,s2,M2,E2,rfl,q2,B⟩;exact hK.out _ _ ⟨K2,s2,M2,E2,rfl,q2⟩ B
   iterate 2 (refine Jo.jm rfl ?_ ?_;rotate_left)
   refine Jo.jm rfl ?_ ?_
   ·rintro wj hJ _ rfl K hK;simp only [Jo.z]at hK⊢;go_simp;refine (nNeg a1.top HL.out).mono ?_;rintro ee wk ⟨K3,s3,M3,E3,rfl,q3,B⟩;exact hK.out _ _ ⟨K3,s3,M3,E3,rfl,q3⟩ B
   refine Jo.jm rfl ?_ ?_
   ·rintro wj hJ _ ⟨K2,s2,M2,E2,rfl,q2⟩ _ ⟨K3,s3,M3,E3,rfl,q3⟩ K hK;simp only [Jo.z]at hK⊢;go_simp;refine (kvMake q2.top q3.top q2.rk q3.rk HR.out).mono ?_;rintro ee wk ⟨e4,K4,s4,M4,E4,K4b,s4b,M4b,E4b,rfl,v4,B⟩;exact hK.out _ _ ⟨e4,K4,s4,M4,E4,K4b,s4b,M4b,E4b,rfl,v4⟩ B
   exact Jo.Steps.nil
   all_goals (rintro wj hJ;(repeat rintro _ rfl);intro K hK;simp only [Jo.z]at hK⊢;have xX1:=(X1.below hJ).cell;go_simp;exact hK.out _ _ rfl (br _ _))
  rintro w8 hJ _ _ _ rfl _ ⟨K2,s2,M2,E2,rfl,q2⟩ _ _ _ rfl _ ⟨K3,s3,M3,E3,rfl,q3⟩ _ ⟨e4,K4,s4,M4,E4,K4b,s4b,M4b,E4b,rfl,v4⟩ -;simp only [Jo.z];replace X1:=X1.below hJ;replace XR:=XR.below hJ;replace HB:=Hqb HB hJ;have xXR:=XR.cell;have zXR0:=XR.frozen
  refine Jo.jnext (i:=7) (o:=⟨none,_,_,_,_,_⟩) (by kernel_rfl) rfl (fun K hK=>?_)
  go_simp;refine hK.out _ _ ?_;clear hK K xXR zXR0;have SX:=StN.mk9 XR (.bool e4) (.int .i64 K4) (.bool s4) (.int .u64 M4) (.int .i64 E4) (.int .i64 K4b) (.bool s4b) (.int .u64 M4b) (.int .i64 E4b);refine Jo.jdone (by kernel_rfl) ?_;go_wp2;exact bodyPost_ret (by simp [results,Tryz.results31,go_sem,SX.box.cell]) rfl ⟨_,_,_,_,_,_,_,_,_,rfl,v4,(SX.below HB.out (by omega))⟩
theorem Nl.of4{w:World}{g:Nat}{K1 K2 K3 K4 M1 M2 M3 M4 E1 E2 E3 E4 r1 r2 r3 r4:Int}{s1 s2 s3 s4:Bool}(X:Bo w g #[.int .i64 K1,.bool s1,.int .u64 M1,.int .i64 E1,.int .i64 K2,.bool s2,.int .u64 M2,.int .i64 E2,.int .i64 K3,.bool s3,.int .u64 M3,.int .i64 E3,.int .i64 K4,.bool s4,.int .u64 M4,.int .i64 E4] 24)
  (q1:Fq K1 s1 M1 E1 r1) (q2:Fq K2 s2 M2 E2 r2) (q3:Fq K3 s3 M3 E3 r3) (q4:Fq K4 s4 M4 E4 r4):Nl w (some ⟨g,0,none⟩) 4 4 [r1,r2,r3,r4]:=by
 refine⟨rfl,Nat.le_refl _,by decide,fun _=>⟨_,0,rfl,fun k hk=>?_⟩⟩
 rcases (by omega:k=0∨k=1∨k=2∨k=3)with rfl | rfl | rfl | rfl
 ·exact⟨K1,s1,M1,E1,X.at rfl,X.at rfl,X.at rfl,X.at rfl,q1.top,q1.rk⟩
 ·exact⟨K2,s2,M2,E2,X.at rfl,X.at rfl,X.at rfl,X.at rfl,q2.top,q2.rk⟩
 ·exact⟨K3,s3,M3,E3,X.at rfl,X.at rfl,X.at rfl,X.at rfl,q3.top,q3.rk⟩
 ·exact⟨K4,s4,M4,E4,X.at rfl,X.at rfl,X.at rfl,X.at rfl,q4.top,q4.rk⟩
theorem mnp_four{a b c d:Int}(ha:a≤19342822337206103650074625):mnp [a,b,c,d]=min (min a b) (min c d):=by
 have:=TP_eq
 show min (min (min (min TP a) b) c) d=_
 omega
theorem mxp_four{a b c d:Int}(ha: -19342822337206103650074625≤a):mxp [a,b,c,d]=max (max a b) (max c d):=by
 have:=TP_eq
 show max (max (max (max (-TP) a) b) c) d=_
 omega
def four (f:Bool→Int→Int→Int)(up:Bool)(a b c d:Int):List Int:=[f up a c,f up a d,f up b c,f up b d]
theorem four_cor{f:Bool→Int→Int→Int}{a b c d:Int}(h1:f false a c≤19342822337206103650074625)(h2: -19342822337206103650074625≤f true a c):mkI (mnp (four f false a b c d)) (mxp (four f true a b c d))=cor f a b c d:=by
 unfold four cor
 rw [mnp_four h1,mxp_four h2]
def TabIf (b:Bool)(w:World):Prop:=b=true→Tab w
theorem TabIf.below{b:Bool}{w w':World}(h:TabIf b w)(hb:Below w.heap.size w w'):TabIf b w':=fun e=>(h e).below hb
def OpQ (fid:FuncId)(F0:Bool→Int→Int→Int)(b:Bool):Prop:=(∀(args:Array Value) (w:World),(callFunc fid args).run Tryz.prog w= .ok (.enter fid args) w)∧∀(w:World) (D:Int) (s:Bool) (M E D':Int) (s':Bool) (M' E':Int) (up:Bool) (x y r:Int),TabIf b w→M < 18446744073709551616→M' < 18446744073709551616→rk D s M E=x→rk D' s' M' E'=y→F0 up x y=r→Calls Tryz.prog fid #[.agg #[.int .i64 D,.bool s,.int .u64 M,.int .i64 E],.agg #[.int .i64 D',.bool s',.int .u64 M',.int .i64 E'],.bool up] w (PN w r)
theorem fkFour{w:World}{fid:FuncId}{F0:Bool→Int→Int→Int}{b up:Bool}{g1 g2 g3:Nat}{K1 M1 E1 K1b M1b E1b K2 M2 E2 K2b M2b E2b:Int}{s1 s1b s2 s2b:Bool}{xa xb ya yb:Int}(hop:OpQ fid F0 b)(hI:TabIf b w)(X1:Bo w g1 #[.func (.func fid) #[] #[]] 117)(X2:Bo w g2 #[.bool false,.int .i64 K1,.bool s1,.int .u64 M1,.int .i64 E1,.int .i64 K1b,.bool s1b,.int .u64 M1b,.int .i64 E1b] 32)(X3:Bo w g3 #[.bool false,.int .i64 K2,.bool s2,.int .u64 M2,.int .i64 E2,.int .i64 K2b,.bool s2b,.int .u64 M2b,.int .i64 E2b] 32)
  (a1:Fq K1 s1 M1 E1 xa) (b1:Fq K1b s1b M1b E1b xb) (a2:Fq K2 s2 M2 E2 ya) (b2:Fq K2b s2b M2b E2b yb):Calls Tryz.prog 130 #[.bool up,.pointer (some ⟨g1,0,none⟩),.pointer (some ⟨g2,0,none⟩),.pointer (some ⟨g3,0,none⟩)] w (fun e w'=>∃A c,e= .returned (.slice A 4 c)∧Nl w' A 4 c (four F0 up xa xb ya yb)∧Below w.heap.size w w'):=by
 obtain⟨u1,h1⟩:∃u,F0 up xa ya=u:=⟨_,rfl⟩;obtain⟨u2,h2⟩:∃u,F0 up xa yb=u:=⟨_,rfl⟩;obtain⟨u3,h3⟩:∃u,F0 up xb ya=u:=⟨_,rfl⟩;obtain⟨u4,h4⟩:∃u,F0 up xb yb=u:=⟨_,rfl⟩
 have HF:Hid (four F0 up xa xb ya yb=[u1,u2,u3,u4]):=Lib.hid (by unfold four;rw [h1,h2,h3,h4])
 have H1:=Lib.hid h1;have H2:=Lib.hid h2;have H3:=Lib.hid h3;have H4:=Lib.hid h4;have HOP:=Lib.hid hop;have HB:=Lib.hid (Below.refl w.heap.size w);clear h1 h2 h3 h4 hop
 go_enter Tryz.func130,Tryz.ntmps130
 go_upto_region 1 with (fail)
 refine Jo.rk [0,1,2,3,4,5,6,7,8,9,10,11,12,13,14,15,16,17,18,19,20,21,22,23,24,25,26,27,28] [some 6,some 7,some 8,some 9,some 10,some 11,some 12,some 13,some 14,some 15,some 16,some 17,some 18,some 19,some 20,some 21,some 22,some 23,some 24,some 25,some 26,some 27,some 28,some 29,some 30,some 31,some 32,some 33,some 34,some 5] [[],[],[1],[],[3],[],[0,2,4,5],[],[],[8],[],[10],[],[7,9,11,12],[],[],[15],[],[17],[],[14,16,18,19],[],[],[22],[],[24],[],[21,23,25,26],[6,13,20,27],[]] 30 1 [Jo.Fact.eq (.func (.func fid) #[] #[]),Jo.qp g2 1,Jo.q4 K1 s1 M1 E1,Jo.qp g3 1,Jo.q4 K2 s2 M2 E2,Jo.qb up,Jo.Fact.num u1,Jo.Fact.eq (.func (.func fid) #[] #[]),Jo.qp g2 1,Jo.q4 K1 s1 M1 E1,Jo.qp g3 5,Jo.q4 K2b s2b M2b E2b,Jo.qb up,Jo.Fact.num u2,Jo.Fact.eq (.func (.func fid) #[] #[]),Jo.qp g2 5,Jo.q4 K1b s1b M1b E1b,Jo.qp g3 1,Jo.q4 K2 s2 M2 E2,Jo.qb up,Jo.Fact.num u3,Jo.Fact.eq (.func (.func fid) #[] #[]),Jo.qp g2 5,Jo.q4 K1b s1b M1b E1b,Jo.qp g3 5,Jo.q4 K2b s2b M2b E2b,Jo.qb up,Jo.Fact.num u4,Jo.Fact.nl 4 [u1,u2,u3,u4],Jo.Fact.any] (by kernel_rfl) (by kernel_rfl) (by decide) rfl ?_ ?_
 ·refine Jo.jm rfl ?_ ?_
  ·rintro wj hJ K hK;simp only [Jo.z]at hK⊢;have xX10:=(X1.below hJ).a 0 (.func (.func fid) #[] #[]) rfl;go_simp;exact hK.out _ _ rfl (br _ _)
  iterate 5 (refine Jo.jm rfl ?_ ?_;rotate_left)
  refine Jo.jm rfl ?_ ?_
  ·rintro wj hJ _ rfl _ rfl _ rfl _ rfl K hK;simp only [Jo.z]at hK⊢;go_simp;rw [HOP.out.1];simp only [Oper.upon];refine (HOP.out.2 _ _ _ _ _ _ _ _ _ _ _ _ _ (hI.below hJ) a1.top a2.top a1.rk a2.rk H1.out).mono ?_;rintro ee wk ⟨K21,s21,M21,E21,rfl,q21,B⟩;exact hK.out _ _ ⟨K21,s21,M21,E21,rfl,q21⟩ B
  refine Jo.jm rfl ?_ ?_
  ·rintro wj hJ K hK;simp only [Jo.z]at hK⊢;have xX10:=(X1.below hJ).a 0 (.func (.func fid) #[] #[]) rfl;go_simp;exact hK.out _ _ rfl (br _ _)
  iterate 5 (refine Jo.jm rfl ?_ ?_;rotate_left)
  refine Jo.jm rfl ?_ ?_
  ·rintro wj hJ _ rfl _ rfl _ rfl _ rfl K hK;simp only [Jo.z]at hK⊢;go_simp;rw [HOP.out.1];simp only [Oper.upon];refine (HOP.out.2 _ _ _ _ _ _ _ _ _ _ _ _ _ (hI.below hJ) a1.top b2.top a1.rk b2.rk H2.out).mono ?_;rintro ee wk ⟨K22,s22,M22,E22,rfl,q22,B⟩;exact hK.out _ _ ⟨K22,s22,M22,E22,rfl,q22⟩ B
  refine Jo.jm rfl ?_ ?_
  ·rintro wj hJ K hK;simp only [Jo.z]at hK⊢;have xX10:=(X1.below hJ).a 0 (.func (.func fid) #[] #[]) rfl;go_simp;exact hK.out _ _ rfl (br _ _)
  iterate 5 (refine Jo.jm rfl ?_ ?_;rotate_left)
  refine Jo.jm rfl ?_ ?_
  ·rintro wj hJ _ rfl _ rfl _ rfl _ rfl K hK;simp only [Jo.z]at hK⊢;go_simp;rw [HOP.out.1];simp only [Oper.upon];refine (HOP.out.2 _ _ _ _ _ _ _ _ _ _ _ _ _ (hI.below hJ) b1.top a2.top b1.rk a2.rk H3.out).mono ?_;rintro ee wk ⟨K23,s23,M23,E23,rfl,q23,B⟩;exact hK.out _ _ ⟨K23,s23,M23,E23,rfl,q23⟩ B
  refine Jo.jm rfl ?_ ?_
  ·rintro wj hJ K hK;simp only [Jo.z]at hK⊢;have xX10:=(X1.below hJ).a 0 (.func (.func fid) #[] #[]) rfl;go_simp;exact hK.out _ _ rfl (br _ _)
  iterate 5 (refine Jo.jm rfl ?_ ?_;rotate_left)
  refine Jo.jm rfl ?_ ?_
  ·rintro wj hJ _ rfl _ rfl _ rfl _ rfl K hK;simp only [Jo.z]at hK⊢;go_simp;rw [HOP.out.1];simp only [Oper.upon];refine (HOP.out.2 _ _ _ _ _ _ _ _ _ _ _ _ _ (hI.below hJ) b1.top b2.top b1.rk b2.rk H4.out).mono ?_;rintro ee wk ⟨K24,s24,M24,E24,rfl,q24,B⟩;exact hK.out _ _ ⟨K24,s24,M24,E24,rfl,q24⟩ B
  refine Jo.jm rfl ?_ ?_
  ·rintro wj hJ _ ⟨K21,s21,M21,E21,rfl,q21⟩ _ ⟨K22,s22,M22,E22,rfl,q22⟩ _ ⟨K23,s23,M23,E23,rfl,q23⟩ _ ⟨K24,s24,M24,E24,rfl,q24⟩ K hK;simp only [Jo.z]at hK⊢;go_simp;exact hK.out _ _ ⟨_,4,rfl,Nl.of4 (Bo.new _ _ _) q21 q22 q23 q24⟩ (bel1 _ _)
  exact Jo.Steps.nil
  all_goals (rintro wj hJ;(repeat rintro _ rfl);intro K hK;simp only [Jo.z]at hK⊢;have xX2:=(X2.below hJ).cell;have xX3:=(X3.below hJ).cell;go_simp;exact hK.out _ _ rfl (br _ _))
 rintro w8 hJ _ rfl _ _ _ rfl _ _ _ rfl _ rfl _ ⟨K21,s21,M21,E21,rfl,q21⟩ _ rfl _ _ _ rfl _ _ _ rfl _ rfl _ ⟨K22,s22,M22,E22,rfl,q22⟩ _ rfl _ _ _ rfl _ _ _ rfl _ rfl _ ⟨K23,s23,M23,E23,rfl,q23⟩ _ rfl _ _ _ rfl _ _ _ rfl _ rfl _ ⟨K24,s24,M24,E24,rfl,q24⟩ _ ⟨A9,c9,rfl,h9⟩ -;simp only [Jo.z];replace X1:=X1.below hJ;replace X2:=X2.below hJ;replace X3:=X3.below hJ;replace hI:=hI.below hJ
 replace HB:=Hqb HB hJ
 refine Jo.jnext (i:=29) (o:=⟨some 5,_,_,_,_,_⟩) (by kernel_rfl) rfl (fun K hK=>?_)
 go_simp;refine hK.out _ _ ?_;clear hK K;refine Jo.jdone (by kernel_rfl) ?_;go_wp2
 go_ret
 exact⟨_,_,rfl,HF.out▸h9,HB.out⟩
theorem fkOf{w:World}{fid:FuncId}{F0:Bool→Int→Int→Int}{b:Bool}{K1 M1 E1 K1b M1b E1b K2 M2 E2 K2b M2b E2b:Int}{s1 s1b s2 s2b:Bool}{xa xb ya yb:Int}{z:Sp}(hop:OpQ fid F0 b)(hI:TabIf b w)(v1:Ci false K1 s1 M1 E1 K1b s1b M1b E1b (some (xa,xb)))(v2:Ci false K2 s2 M2 E2 K2b s2b M2b E2b (some (ya,yb)))(hF:F0 false xa ya≤19342822337206103650074625∧ -19342822337206103650074625≤F0 true xa ya)(hr:cor F0 xa xb ya yb=z):
  Calls Tryz.prog 78 #[VI false K1 s1 M1 E1 K1b s1b M1b E1b,VI false K2 s2 M2 E2 K2b s2b M2b E2b,.func (.func fid) #[] #[]] w (PV w z):=by
 delta VI
 have hmf:∀(fn:Fn) (first cap:Array Value) (w:World),(Instr.makeFunc fn first cap).run Tryz.prog w= .ok (.func fn first cap) w:=fun _ _ _ _=>rfl
 obtain⟨_,a1,b1,o1,o1l,o1h⟩:=v1;obtain⟨_,a2,b2,o2,o2l,o2h⟩:=v2;rw [←four_cor hF.1 hF.2]at hr;obtain⟨u,hu⟩:∃u,mnp (four F0 false xa xb ya yb)=u:=⟨_,rfl⟩;obtain⟨v,hv⟩:∃v,mxp (four F0 true xa xb ya yb)=v:=⟨_,rfl⟩;rw [hu,hv]at hr;have HU:=Lib.hid hu;have HV:=Lib.hid hv;have HR:=Lib.hid hr;have HOP:=Lib.hid hop;clear hu hv hr hop hF o1 o1l o1h o2 o2l o2h
 go_enter Tryz.func78,Tryz.ntmps78
 go_upto_region 1 with (fail)
 generalize hW1:(((w.alloc _).alloc _).alloc _).alloc _=w1 at *;obtain⟨X3,X4,X5,XR,HB⟩:=Bo.en4 hW1;replace hI:=hI.below HB.out;clear hW1
 go_wp2_with fail
 refine (fkFour HOP.out hI X5 X3 X4 a1 b1 a2 b2).mono ?_;rintro ee w2 ⟨A1,c1,rfl,N1,B⟩;replace X3:=X3.below B;replace X4:=X4.below B;replace X5:=X5.below B;replace XR:=XR.below B;replace hI:=hI.below B;replace HB:=Hqb HB B;clear B
 go_wp2_with fail
 refine (nLeast N1 HU.out).mono ?_;rintro ee w3 ⟨K11,s11,M11,E11,rfl,q11,B⟩;replace X3:=X3.below B;replace X4:=X4.below B;replace X5:=X5.below B;replace XR:=XR.below B;replace hI:=hI.below B;replace N1:=N1.below B;replace HB:=Hqb HB B;clear B;clear N1
 go_wp2_with fail
 refine (fkFour HOP.out hI X5 X3 X4 a1 b1 a2 b2).mono ?_;rintro ee w4 ⟨A2,c2,rfl,N2,B⟩;replace X3:=X3.below B;replace X4:=X4.below B;replace X5:=X5.below B;replace XR:=XR.below B;replace hI:=hI.below B;replace HB:=Hqb HB B;clear B
 go_wp2_with fail
 refine (nMost N2 HV.out).mono ?_;rintro ee w5 ⟨K12,s12,M12,E12,rfl,q12,B⟩;replace X3:=X3.below B;replace X4:=X4.below B;replace X5:=X5.below B;replace XR:=XR.below B;replace hI:=hI.below B;replace N2:=N2.below B;replace HB:=Hqb HB B;clear B;clear N2
 go_wp2_with fail
 refine (kvMake q11.top q12.top q11.rk q12.rk HR.out).mono ?_;rintro ee w6 ⟨e13,K13,s13,M13,E13,K13b,s13b,M13b,E13b,rfl,v13,B⟩;replace X3:=X3.below B;replace X4:=X4.below B;replace X5:=X5.below B;replace XR:=XR.below B;replace hI:=hI.below B;replace HB:=Hqb HB B;clear B;clear hI;clear X5;have xXR:=XR.cell
 have zXR0:=XR.frozen;go_wp2;clear xXR zXR0;have SX:=StN.mk9 XR (.bool e13) (.int .i64 K13) (.bool s13) (.int .u64 M13) (.int .i64 E13) (.int .i64 K13b) (.bool s13b) (.int .u64 M13b) (.int .i64 E13b);exact bodyPost_ret (by simp [results,Tryz.results78,go_sem,SX.box.cell]) rfl ⟨_,_,_,_,_,_,_,_,_,rfl,v13,(SX.below HB.out (by omega))⟩
theorem opq_mul:OpQ 72 mulp false:=⟨fun _ _=>by first | rfl | kernel_rfl | simp [callFunc,go_sem],fun _ _ _ _ _ _ _ _ _ _ _ _ _ _ hM hM' hx hy hr=>aMul hM hM' hx hy hr⟩
theorem fkMul{w:World}{e:Bool}{D M E D' M' E':Int}{s s':Bool}{e2:Bool}{G P Q G' P' Q':Int}{g g':Bool}{x y z:Sp}(hM:LQ M)(hM':LQ M')(hP:LQ P)(hP':LQ P')(hx:rkI e D s M E D' s' M' E'=x)(hy:rkI e2 G g P Q G' g' P' Q'=y)(hr:mulI x y=z):Calls Tryz.prog 36 #[VI e D s M E D' s' M' E',VI e2 G g P Q G' g' P' Q'] w (PV w z):=by
 delta VI
 obtain⟨p,hp⟩:∃p,gone [x,y]=p:=⟨_,rfl⟩;have HP:=Lib.hid hp;have HX:=Lib.hid hx;have HY:=Lib.hid hy;clear hx hy hp
 go_enter Tryz.func36,Tryz.ntmps36
 go_upto_region 1 with (fail)
 generalize hW1:((w.alloc _).alloc _).alloc _=w1 at *;obtain⟨X2,X3,XR,HB⟩:=Bo.en3 hW1;clear hW1;have xX2:=X2.cell;have xX3:=X3.cell
 go_wp2_with fail
 refine (fkEmpty (Il8.lit2 rfl ⟨hM,hM',HX.out⟩ ⟨hP,hP',HY.out⟩) HP.out).mono ?_;rintro ee w2 ⟨rfl,B⟩;replace B:=bt (bel1 _ (.cells #[.bool e,.int .i64 D,.bool s,.int .u64 M,.int .i64 E,.int .i64 D',.bool s',.int .u64 M',.int .i64 E',.bool e2,.int .i64 G,.bool g,.int .u64 P,.int .i64 Q,.int .i64 G',.bool g',.int .u64 P',.int .i64 Q'] 32)) B;clear xX2 xX3
 replace X2:=X2.below B;replace X3:=X3.below B;replace XR:=XR.below B;replace HB:=Hqb HB B;clear B
 rcases x with _ | ⟨xa,xb⟩
 ·obtain rfl:true=p:=HP.out
  obtain rfl:none=z:=hr
  clear HP
  go_wp2_with fail
  refine (kvNoneE).mono ?_;rintro ee w3 ⟨rfl,B⟩;replace X2:=X2.below B;replace X3:=X3.below B;replace XR:=XR.below B;replace HB:=Hqb HB B;clear B;have xXR:=XR.cell;have zXR0:=XR.frozen;go_wp2;clear xXR zXR0;have SX:=StN.mk9 XR (.bool true) (.int .i64 0) (.bool false) (.int .u64 0) (.int .i64 0) (.int .i64 0) (.bool false) (.int .u64 0) (.int .i64 0)
  exact bodyPost_ret (by simp [results,Tryz.results36,go_sem,SX.box.cell]) rfl ⟨_,_,_,_,_,_,_,_,_,rfl,Ci.none,(SX.below HB.out (by omega))⟩
 ·rcases y with _ | ⟨ya,yb⟩
  ·obtain rfl:true=p:=HP.out
   obtain rfl:none=z:=hr
   clear HP
   go_wp2_with fail
   refine (kvNoneE).mono ?_;rintro ee w3 ⟨rfl,B⟩;replace X2:=X2.below B;replace X3:=X3.below B;replace XR:=XR.below B;replace HB:=Hqb HB B;clear B;have xXR:=XR.cell;have zXR0:=XR.frozen;go_wp2;clear xXR zXR0;have SX:=StN.mk9 XR (.bool true) (.int .i64 0) (.bool false) (.int .u64 0) (.int .i64 0) (.int .i64 0) (.bool false) (.int .u64 0) (.int .i64 0)
   exact bodyPost_ret (by simp [results,Tryz.results36,go_sem,SX.box.cell]) rfl ⟨_,_,_,_,_,_,_,_,_,rfl,Ci.none,(SX.below HB.out (by omega))⟩
  ·obtain rfl:false=p:=HP.out
   have w1':=ci_some hM hM' HX.out
   have w2':=ci_some hP hP' HY.out
   obtain⟨rfl,a1,b1,o1,o1l,o1h⟩:=w1';obtain⟨rfl,a2,b2,o2,o2l,o2h⟩:=w2'
   have v1:Ci false D s M E D' s' M' E' (some (xa,xb)):=⟨rfl,a1,b1,o1,o1l,o1h⟩
   have v2:Ci false G g P Q G' g' P' Q' (some (ya,yb)):=⟨rfl,a2,b2,o2,o2l,o2h⟩
   clear HP HX HY
   have HR:=Lib.hid (show cor mulp xa xb ya yb=z from hr)
   clear hr o1 o1l o1h o2 o2l o2h;have xX2:=X2.cell;have xX3:=X3.cell
   go_wp2_with fail
   refine (fkOf opq_mul (fun e=>by cases e) v1 v2 ⟨(mulp_bd false).2,(mulp_bd true).1⟩ HR.out).mono ?_
   rintro ee w3 ⟨e13,K13,s13,M13,E13,K13b,s13b,M13b,E13b,rfl,v13,B⟩;clear xX2 xX3;replace X2:=X2.below B;replace X3:=X3.below B;replace XR:=XR.below B;replace HB:=Hqb HB B;clear B;have xXR:=XR.cell;have zXR0:=XR.frozen;go_wp2
   clear xXR zXR0;have SX:=StN.mk9 XR (.bool e13) (.int .i64 K13) (.bool s13) (.int .u64 M13) (.int .i64 E13) (.int .i64 K13b) (.bool s13b) (.int .u64 M13b) (.int .i64 E13b);exact bodyPost_ret (by simp [results,Tryz.results36,go_sem,SX.box.cell]) rfl ⟨_,_,_,_,_,_,_,_,_,rfl,v13,(SX.below HB.out (by omega))⟩
def sqrM (x:Sp):Sp:=match x with
 | none=>none
 | some (a,b)=>mkI (mulp false a a) (mulp true b b)
theorem sqr_abs (x:Sp):sqrI x=sqrM (absI x):=by
 unfold sqrI sqrM
 rfl
theorem fkAbs{w:World}{e:Bool}{D M E D' M' E':Int}{s s':Bool}{x z:Sp}(hM:LQ M)(hM':LQ M')(hx:rkI e D s M E D' s' M' E'=x)(hr:absI x=z):Calls Tryz.prog 71 #[VI e D s M E D' s' M' E'] w (PV w z):=by
 delta VI
 obtain⟨p,hp⟩:∃p,gone [x]=p:=⟨_,rfl⟩;have HP:=Lib.hid hp;have HX:=Lib.hid hx;clear hx hp
 go_enter Tryz.func71,Tryz.ntmps71
 go_upto_region 1 with (fail)
 generalize hW1:(w.alloc _).alloc _=w1 at *;obtain⟨X1,XR,HB⟩:=Bo.en2 hW1;clear hW1;have xX1:=X1.cell
 go_wp2_with fail
 refine (fkEmpty (Il8.lit1 rfl ⟨hM,hM',HX.out⟩) HP.out).mono ?_;rintro ee w2 ⟨rfl,B⟩;replace B:=bt (bel1 _ (.cells #[.bool e,.int .i64 D,.bool s,.int .u64 M,.int .i64 E,.int .i64 D',.bool s',.int .u64 M',.int .i64 E'] 32)) B;clear xX1;replace X1:=X1.below B;replace XR:=XR.below B;replace HB:=Hqb HB B;clear B
 rcases x with _ | ⟨xa,xb⟩
 ·obtain rfl:true=p:=HP.out
  obtain rfl:none=z:=hr
  clear HP
  go_wp2_with fail
  refine (kvNoneE).mono ?_;rintro ee w3 ⟨rfl,B⟩;replace X1:=X1.below B;replace XR:=XR.below B;replace HB:=Hqb HB B;clear B;have xXR:=XR.cell;have zXR0:=XR.frozen;go_wp2;clear xXR zXR0;have SX:=StN.mk9 XR (.bool true) (.int .i64 0) (.bool false) (.int .u64 0) (.int .i64 0) (.int .i64 0) (.bool false) (.int .u64 0) (.int .i64 0)
  exact bodyPost_ret (by simp [results,Tryz.results71,go_sem,SX.box.cell]) rfl ⟨_,_,_,_,_,_,_,_,_,rfl,Ci.none,(SX.below HB.out (by omega))⟩
 ·obtain⟨rfl,a1,b1,o1,o1l,o1h⟩:=ci_some hM hM' HX.out
  obtain rfl:false=p:=HP.out
  clear HP HX
  have hr2:(if 0≤xa then some (xa,xb)else if xb≤0 then negI (some (xa,xb))else mkI 0 (max xb (-xa)))=z:=hr
  obtain⟨σ,hσ⟩:∃σ,cmpI xa 0=σ:=⟨_,rfl⟩;have ht:=cmp_geE hσ
  have HS:Hid (cmpI (rk D s M E) 0=σ):=Lib.hid (by rw [a1.rk];exact hσ)
  clear hσ hr;have xX1:=X1.cell
  go_wp2_with fail
  refine (nSign a1.top HS.out).mono ?_;rintro ee w4 ⟨rfl,B⟩;clear xX1;replace X1:=X1.below B;replace XR:=XR.below B;replace HB:=Hqb HB B;clear B;clear HS
  by_cases h0:0≤xa
  ·rw [decide_eq_true h0]at ht;rw [if_pos h0]at hr2
   obtain rfl:some (xa,xb)=z:=hr2
   clear h0;have xXR:=XR.cell;have zXR0:=XR.frozen;have xX1:=X1.cell;go_wp2;clear xXR zXR0 xX1;have SX:=StN.mk9 XR (.bool false) (.int .i64 D) (.bool s) (.int .u64 M) (.int .i64 E) (.int .i64 D') (.bool s') (.int .u64 M') (.int .i64 E')
   exact bodyPost_ret (v:= .agg #[.bool false,.int .i64 D,.bool s,.int .u64 M,.int .i64 E,.int .i64 D',.bool s',.int .u64 M',.int .i64 E']) (by simp [results,Tryz.results71,go_sem,SX.box.cell]) rfl ⟨_,_,_,_,_,_,_,_,_,rfl,⟨rfl,a1,b1,o1,o1l,o1h⟩,(SX.below HB.out (by omega))⟩
  ·rw [decide_eq_false h0]at ht;rw [if_neg h0]at hr2;obtain⟨τ,hτ⟩:∃τ,cmpI xb 0=τ:=⟨_,rfl⟩;have ht2:=cmp_le hτ
   have HS2:Hid (cmpI (rk D' s' M' E') 0=τ):=Lib.hid (by rw [b1.rk];exact hτ)
   clear hτ h0;have xX1:=X1.cell
   go_wp2_with fail
   refine (nSign b1.top HS2.out).mono ?_;rintro ee w5 ⟨rfl,B⟩;clear xX1;replace X1:=X1.below B;replace XR:=XR.below B;replace HB:=Hqb HB B;clear B;clear HS2
   by_cases h1:xb≤0
   ·rw [decide_eq_true h1]at ht2;rw [if_pos h1]at hr2;have HN:=Lib.hid hr2
    have hci:Ci false D s M E D' s' M' E' (some (xa,xb)):=⟨rfl,a1,b1,o1,o1l,o1h⟩
    clear hr2 h1 o1 o1l o1h;have xX1:=X1.cell
    go_wp2_with fail
    refine (fkNeg a1.top b1.top hci.rk HN.out).mono ?_;rintro ee w6 ⟨e2,K2,s2,M2,E2,K2b,s2b,M2b,E2b,rfl,v2,B⟩;clear xX1;replace X1:=X1.below B;replace XR:=XR.below B;replace HB:=Hqb HB B;clear B;clear hci HN;have xXR:=XR.cell;have zXR0:=XR.frozen;go_wp2;clear xXR zXR0
    have SX:=StN.mk9 XR (.bool e2) (.int .i64 K2) (.bool s2) (.int .u64 M2) (.int .i64 E2) (.int .i64 K2b) (.bool s2b) (.int .u64 M2b) (.int .i64 E2b);exact bodyPost_ret (by simp [results,Tryz.results71,go_sem,SX.box.cell]) rfl ⟨_,_,_,_,_,_,_,_,_,rfl,v2,(SX.below HB.out (by omega))⟩
   ·rw [decide_eq_false h1]at ht2;rw [if_neg h1]at hr2;obtain⟨m,hm⟩:∃m,-xa=m:=⟨_,rfl⟩
    have hu:mxp [xb,m]=max xb m:=mxp_two b1.bd.1
    obtain⟨u,hu2⟩:∃u,max xb m=u:=⟨_,rfl⟩;rw [hu2]at hu
    have hr3:mkI 0 u=z:=by rw [←hu2,←hm];exact hr2
    have H0:Hid (sgi (decide ((0:Int) < 0)) (lo (0:Int).natAbs 0)=0):=Lib.hid rfl
    have HNG:Hid (-rk D s M E=m):=Lib.hid (by rw [a1.rk];exact hm)
    have HU:=Lib.hid hu;have HR:=Lib.hid hr3;clear hm hu hu2 hr2 hr3 h1 o1 o1l o1h;have xX1:=X1.cell
    go_upto_region 7 with (fail)
    clear xX1;refine Jo.rk [0,1,2,3,4,5,6,7,8] [some 21,some 22,some 23,some 24,some 25,some 26,some 27,some 28,some 29,none] [[],[],[1],[],[3],[4],[2,5],[6],[0,7],[]] 10 1 [Jo.Fact.num 0,Jo.qp w.heap.size 5,Jo.q4 D' s' M' E',Jo.qp w.heap.size 1,Jo.q4 D s M E,Jo.Fact.num m,Jo.Fact.nl 2 [xb,m],Jo.Fact.num u,Jo.Fact.iv z,Jo.Fact.any] (by kernel_rfl) (by kernel_rfl) (by decide) rfl ?_ ?_
    ·refine Jo.jm rfl ?_ ?_
     ·rintro wj hJ K hK;simp only [Jo.z]at hK⊢;go_simp;refine (nOf _ (by decide) (by decide) H0.out).mono ?_;rintro ee wk ⟨K5,s5,M5,E5,rfl,q5,B⟩;exact hK.out _ _ ⟨K5,s5,M5,E5,rfl,q5⟩ B
     iterate 4 (refine Jo.jm rfl ?_ ?_;rotate_left)
     refine Jo.jm rfl ?_ ?_
     ·rintro wj hJ _ rfl K hK;simp only [Jo.z]at hK⊢;go_simp;refine (nNeg a1.top HNG.out).mono ?_;rintro ee wk ⟨K2,s2,M2,E2,rfl,q2,B⟩;exact hK.out _ _ ⟨K2,s2,M2,E2,rfl,q2⟩ B
     refine Jo.jm rfl ?_ ?_
     ·rintro wj hJ _ rfl _ ⟨K2,s2,M2,E2,rfl,q2⟩ K hK;simp only [Jo.z]at hK⊢;go_simp;exact hK.out _ _ ⟨_,2,rfl,Nl.lit2 rfl b1.top q2.top b1.rk q2.rk⟩ (bel1 _ _)
     refine Jo.jm rfl ?_ ?_
     ·rintro wj hJ _ ⟨A6,c6,rfl,h6⟩ K hK;simp only [Jo.z]at hK⊢;go_simp;refine (nMost h6 HU.out).mono ?_;rintro ee wk ⟨K3,s3,M3,E3,rfl,q3,B⟩;exact hK.out _ _ ⟨K3,s3,M3,E3,rfl,q3⟩ B
     refine Jo.jm rfl ?_ ?_
     ·rintro wj hJ _ ⟨K5,s5,M5,E5,rfl,q5⟩ _ ⟨K3,s3,M3,E3,rfl,q3⟩ K hK;simp only [Jo.z]at hK⊢;go_simp;refine (kvMake q5.top q3.top q5.rk q3.rk HR.out).mono ?_;rintro ee wk ⟨e4,K4,s4,M4,E4,K4b,s4b,M4b,E4b,rfl,v4,B⟩;exact hK.out _ _ ⟨e4,K4,s4,M4,E4,K4b,s4b,M4b,E4b,rfl,v4⟩ B
     exact Jo.Steps.nil
     all_goals (rintro wj hJ;(repeat rintro _ rfl);intro K hK;simp only [Jo.z]at hK⊢;have xX1:=(X1.below hJ).cell;go_simp;exact hK.out _ _ rfl (br _ _))
    rintro w8 hJ _ ⟨K5,s5,M5,E5,rfl,q5⟩ _ _ _ rfl _ _ _ rfl _ ⟨K2,s2,M2,E2,rfl,q2⟩ _ ⟨A6,c6,rfl,_⟩ _ ⟨K3,s3,M3,E3,rfl,q3⟩ _ ⟨e4,K4,s4,M4,E4,K4b,s4b,M4b,E4b,rfl,v4⟩ -;simp only [Jo.z];replace X1:=X1.below hJ;replace XR:=XR.below hJ;replace HB:=Hqb HB hJ;have xXR:=XR.cell;have zXR0:=XR.frozen
    refine Jo.jnext (i:=9) (o:=⟨none,_,_,_,_,_⟩) (by kernel_rfl) rfl (fun K hK=>?_)
    go_simp;refine hK.out _ _ ?_;clear hK K xXR zXR0;have SX:=StN.mk9 XR (.bool e4) (.int .i64 K4) (.bool s4) (.int .u64 M4) (.int .i64 E4) (.int .i64 K4b) (.bool s4b) (.int .u64 M4b) (.int .i64 E4b);refine Jo.jdone (by kernel_rfl) ?_;go_wp2;exact bodyPost_ret (by simp [results,Tryz.results71,go_sem,SX.box.cell]) rfl ⟨_,_,_,_,_,_,_,_,_,rfl,v4,(SX.below HB.out (by omega))⟩
theorem fkSqr{w:World}{e:Bool}{D M E D' M' E':Int}{s s':Bool}{x z:Sp}(hM:LQ M)(hM':LQ M')(hx:rkI e D s M E D' s' M' E'=x)(hr:sqrI x=z):Calls Tryz.prog 28 #[VI e D s M E D' s' M' E'] w (PV w z):=by
 delta VI
 rw [sqr_abs]at hr;obtain⟨m,hm⟩:∃m,absI x=m:=⟨_,rfl⟩;rw [hm]at hr;have HX:=Lib.hid hx;have HA:=Lib.hid hm;clear hx hm
 go_enter Tryz.func28,Tryz.ntmps28
 go_upto_region 1 with (fail)
 generalize hW1:(w.alloc _).alloc _=w1 at *;obtain⟨X1,XR,HB⟩:=Bo.en2 hW1;clear hW1;have xX1:=X1.cell
 go_wp2_with fail
 refine (fkAbs hM hM' HX.out HA.out).mono ?_;rintro ee w2 ⟨e1,K1,s1,M1,E1,K1b,s1b,M1b,E1b,rfl,v1,B⟩;clear xX1;replace X1:=X1.below B;replace XR:=XR.below B;replace HB:=Hqb HB B;clear B
 go_upto_region 2 with (fail)
 have lX3:=Nat.le_refl (World.heap w2).size;have nX3X1:=X1.lt;have nX3XR:=XR.lt;generalize hWn:w2.alloc _=w3 at *;obtain⟨X3,BW⟩:=Bo.nw hWn;clear hWn;replace X1:=X1.below BW;replace XR:=XR.below BW;replace HB:=Hqb HB BW;clear BW;clear lX3 HX HA hM hM'
 rcases m with _ | ⟨ma,mb⟩
 ·obtain⟨rfl,y1,y1b⟩:=v1
  obtain rfl:none=z:=hr
  obtain⟨_,rfl,rfl,rfl,rfl,rfl,rfl,rfl,rfl⟩:=(show Ci true K1 s1 M1 E1 K1b s1b M1b E1b none from ⟨rfl,y1,y1b⟩).uniq Ci.none
  clear y1 y1b;refine Jo.rk [0,1,2] [some 6,some 7,some 8] [[],[],[0,1]] 3 0 [Jo.q9 true 0 false 0 0 0 false 0 0,Jo.q9 true 0 false 0 0 0 false 0 0,Jo.qb true] (by kernel_rfl) (by kernel_rfl) (by decide) rfl ?_ ?_
  ·refine Jo.jm rfl ?_ ?_
   ·rintro wj hJ K hK;simp only [Jo.z]at hK⊢;have xX3:=(X3.below hJ).cell;go_simp;exact hK.out _ _ rfl (br _ _)
   refine Jo.jm rfl ?_ ?_
   ·rintro wj hJ K hK;simp only [Jo.z]at hK⊢;go_simp;refine (kvNoneE).mono ?_;rintro ee wk ⟨rfl,B⟩;exact hK.out _ _ rfl B
   refine Jo.jm rfl ?_ ?_
   ·rintro wj hJ _ rfl _ rfl K hK;simp only [Jo.z]at hK⊢;go_simp
    repeat' split
    all_goals exact hK.out _ _ (congrArg Value.bool (by first | rfl | (exfalso;simp_all) | simp_all)) (br _ _)
   exact Jo.Steps.nil
  rintro w4 hJ _ rfl _ rfl _ rfl -;simp only [Jo.z];replace XR:=XR.below hJ;replace X3:=X3.below hJ;replace HB:=Hqb HB hJ;refine Jo.jdone (by kernel_rfl) ?_;have xXR:=XR.cell;have zXR0:=XR.frozen;have xX3:=X3.cell;go_wp2;clear xXR zXR0 xX3
  have SX:=StN.mk9 XR (.bool true) (.int .i64 0) (.bool false) (.int .u64 0) (.int .i64 0) (.int .i64 0) (.bool false) (.int .u64 0) (.int .i64 0);exact bodyPost_ret (by simp [results,Tryz.results28,go_sem,SX.box.cell]) rfl ⟨_,_,_,_,_,_,_,_,_,rfl,Ci.none,(SX.below HB.out (by omega))⟩
 ·obtain⟨rfl,a1,b1,o1,o1l,o1h⟩:=v1;obtain⟨u,hu⟩:∃u,mulp false ma ma=u:=⟨_,rfl⟩;obtain⟨l,hl⟩:∃l,mulp true mb mb=l:=⟨_,rfl⟩
  have hr2:mkI u l=z:=by rw [←hu,←hl];exact hr
  have HU:=Lib.hid hu;have HL:=Lib.hid hl;have HR:=Lib.hid hr2;clear hu hl hr hr2 o1 o1l o1h;refine Jo.rk [0,1,2] [some 6,some 7,some 8] [[],[],[0,1]] 3 0 [Jo.q9 false K1 s1 M1 E1 K1b s1b M1b E1b,Jo.q9 true 0 false 0 0 0 false 0 0,Jo.qb false] (by kernel_rfl) (by kernel_rfl) (by decide) rfl ?_ ?_
  ·refine Jo.jm rfl ?_ ?_
   ·rintro wj hJ K hK;simp only [Jo.z]at hK⊢;have xX3:=(X3.below hJ).cell;go_simp;exact hK.out _ _ rfl (br _ _)
   refine Jo.jm rfl ?_ ?_
   ·rintro wj hJ K hK;simp only [Jo.z]at hK⊢;go_simp;refine (kvNoneE).mono ?_;rintro ee wk ⟨rfl,B⟩;exact hK.out _ _ rfl B
   refine Jo.jm rfl ?_ ?_
   ·rintro wj hJ _ rfl _ rfl K hK;simp only [Jo.z]at hK⊢;go_simp
    repeat' split
    all_goals exact hK.out _ _ (congrArg Value.bool (by first | rfl | (exfalso;simp_all))) (br _ _)
   exact Jo.Steps.nil
  rintro w4 hJ _ rfl _ rfl _ rfl -;simp only [Jo.z];replace XR:=XR.below hJ;replace X3:=X3.below hJ;replace HB:=Hqb HB hJ;refine Jo.jdone (by kernel_rfl) ?_
  go_upto_region 4 with (fail)
  refine Jo.rk [0,1,2,3,4,5,6,7,8,9,10] [some 10,some 11,some 12,some 13,some 14,some 15,some 16,some 17,some 18,some 19,some 20,none] [[],[0],[],[2],[1,3],[],[5],[],[7],[6,8],[4,9],[]] 12 1 [Jo.qp w2.heap.size 1,Jo.q4 K1 s1 M1 E1,Jo.qp w2.heap.size 1,Jo.q4 K1 s1 M1 E1,Jo.Fact.num u,Jo.qp w2.heap.size 5,Jo.q4 K1b s1b M1b E1b,Jo.qp w2.heap.size 5,Jo.q4 K1b s1b M1b E1b,Jo.Fact.num l,Jo.Fact.iv z,Jo.Fact.any] (by kernel_rfl) (by kernel_rfl) (by decide) rfl ?_ ?_
  ·iterate 4 (refine Jo.jm rfl ?_ ?_;rotate_left)
   refine Jo.jm rfl ?_ ?_
   ·rintro wj hJ _ rfl _ rfl K hK;simp only [Jo.z]at hK⊢;go_simp;refine (aMul a1.top a1.top a1.rk a1.rk HU.out).mono ?_;rintro ee wk ⟨K2,s2,M2,E2,rfl,q2,B⟩;exact hK.out _ _ ⟨K2,s2,M2,E2,rfl,q2⟩ B
   iterate 4 (refine Jo.jm rfl ?_ ?_;rotate_left)
   refine Jo.jm rfl ?_ ?_
   ·rintro wj hJ _ rfl _ rfl K hK;simp only [Jo.z]at hK⊢;go_simp;refine (aMul b1.top b1.top b1.rk b1.rk HL.out).mono ?_;rintro ee wk ⟨K3,s3,M3,E3,rfl,q3,B⟩;exact hK.out _ _ ⟨K3,s3,M3,E3,rfl,q3⟩ B
   refine Jo.jm rfl ?_ ?_
   ·rintro wj hJ _ ⟨K2,s2,M2,E2,rfl,q2⟩ _ ⟨K3,s3,M3,E3,rfl,q3⟩ K hK;simp only [Jo.z]at hK⊢;go_simp;refine (kvMake q2.top q3.top q2.rk q3.rk HR.out).mono ?_;rintro ee wk ⟨e4,K4,s4,M4,E4,K4b,s4b,M4b,E4b,rfl,v4,B⟩;exact hK.out _ _ ⟨e4,K4,s4,M4,E4,K4b,s4b,M4b,E4b,rfl,v4⟩ B
   exact Jo.Steps.nil
   all_goals (rintro wj hJ;(repeat rintro _ rfl);intro K hK;simp only [Jo.z]at hK⊢;have xX3:=(X3.below hJ).cell;go_simp;exact hK.out _ _ rfl (br _ _))
  rintro w8 hJ _ _ _ rfl _ _ _ rfl _ ⟨K2,s2,M2,E2,rfl,q2⟩ _ _ _ rfl _ _ _ rfl _ ⟨K3,s3,M3,E3,rfl,q3⟩ _ ⟨e4,K4,s4,M4,E4,K4b,s4b,M4b,E4b,rfl,v4⟩ -;simp only [Jo.z];replace XR:=XR.below hJ;replace X3:=X3.below hJ;replace HB:=Hqb HB hJ;have xXR:=XR.cell;have zXR0:=XR.frozen
  refine Jo.jnext (i:=11) (o:=⟨none,_,_,_,_,_⟩) (by kernel_rfl) rfl (fun K hK=>?_)
  go_simp;refine hK.out _ _ ?_;clear hK K xXR zXR0;have SX:=StN.mk9 XR (.bool e4) (.int .i64 K4) (.bool s4) (.int .u64 M4) (.int .i64 E4) (.int .i64 K4b) (.bool s4b) (.int .u64 M4b) (.int .i64 E4b);refine Jo.jdone (by kernel_rfl) ?_;go_wp2;exact bodyPost_ret (by simp [results,Tryz.results28,go_sem,SX.box.cell]) rfl ⟨_,_,_,_,_,_,_,_,_,rfl,v4,(SX.below HB.out (by omega))⟩
theorem fkAdd{w:World}{A:Option Addr}{n c:Nat}{l:List Sp}{z:Sp}(hT:Tb w)(h:Il8 w A n c l)(hr:addL l=z):Calls Tryz.prog 27 #[.slice A n c] w (PV w z):=by
 obtain⟨p,hp⟩:∃p,gone l=p:=⟨_,rfl⟩;have HP:=Lib.hid hp;have HLn:=Lib.hid h.1;have hcap:=h.2.1;have hbig:=h.2.2.1;clear hp
 go_enter Tryz.func27,Tryz.ntmps27
 go_upto_region 1 with (fail)
 generalize hW1:w.alloc _=w1 at *;obtain⟨XR,HB⟩:=Bo.en1 hW1;replace hT:=hT.below HB.out;replace h:=h.below HB.out;clear hW1
 go_wp2_with fail
 refine (fkEmpty h HP.out).mono ?_;rintro ee w2 ⟨rfl,B⟩;replace XR:=XR.below B;replace hT:=hT.below B;replace h:=h.below B;replace HB:=Hqb HB B;clear B
 cases p
 ·have hok:=h.ok;have hae:=(add_ends HP.out hok).trans hr;obtain⟨u,hu⟩:∃u,smA false (lowL l)=u:=⟨_,rfl⟩;obtain⟨v,hv⟩:∃v,smA true (highL l)=v:=⟨_,rfl⟩
  have hz:mkI u v=z:=by rw [←hu,←hv];exact hae
  have HU:=Lib.hid hu;have HV:=Lib.hid hv;have HZ:=Lib.hid hz;clear hok hae hu hv hz hr;go_wp2
  go_loopw [3,4,12] (fun va vb i wr=>∃k A1 B1 c1 d1,k≤n∧va= .slice A1 k c1∧vb= .slice B1 k d1∧i= .int .i64 ((k:Nat):Int)∧EInv w2 A1 B1 k c1 d1 (lowL (l.take k)) (highL (l.take k)) wr) (fun _ _ i _=>n-(intOf i).toNat)
  case atStart=>exact ⟨0,_,_,_,_,Nat.zero_le _,rfl,rfl,rfl,Na.nil _ _,Na.nil _ _,(fun k h=>by cases h),Below.refl _ _⟩
  case round=>
   obtain⟨k,A1,B1,c1,d1,hk,rfl,rfl,rfl,N1,N2,hne,hB⟩:=hrel;have HB0:=HB;replace HB:=Lib.hid hB;clear hB
   by_cases hlt:k < n
   ·have tlt:decide ((k:Int) < (n:Int))=true:=by simp;omega
    have h':=h.below HB.out
    obtain⟨a0,b0,hg⟩:=gone_get HP.out (k:=k) (by rw [HLn.out];exact hlt);have hsl:=lowL_take (l:=l) (k:=k) (by rw [HLn.out];exact hlt);have hsh:=highL_take (l:=l) (k:=k) (by rw [HLn.out];exact hlt);rw [hg]at hsl hsh;obtain⟨b,o,rfl,hcell⟩:=h'.2.2.2 (by omega);obtain⟨e,D,s,M,E,D',s',M',E',x0,x1,x2,x3,x4,x5,x6,x7,x8,hM,hM',hx⟩:=hcell k hlt;rw [hg]at hx
    obtain⟨rfl,a1,b1,_,_,_⟩:=ci_some hM hM' hx;clear hcell h' h hx hM hM'
    have i1:(k:Int) < n:=by omega
    have i2:(0:Int)≤k:=by omega
    generalize lowL (l.take k)=la at *;generalize highL (l.take k)=lb at *
    have HSL:Hid (lowL (l.take (k+1))=la ++[a0]):=Lib.hid hsl
    have HSH:Hid (highL (l.take (k+1))=lb ++[b0]):=Lib.hid hsh
    have HNE:=Lib.hid hne;clear hsl hsh hne hg HU HV HZ HP XR hT HB0
    go_upto_region 7 with (fail)
    clear x0 x1 x2 x3 x4 x5 x6 x7 x8;have lX6:=Nat.le_refl (World.heap wr).size;generalize hWn:wr.alloc _=w6 at *;obtain⟨X6,BW⟩:=Bo.nw hWn;clear hWn;replace N1:=N1.below BW;replace N2:=N2.below BW;replace HB:=Hqb HB BW;clear BW;clear lX6;have xX6:=X6.cell
    go_wp2_with (at_builtin;refine wpList_na rfl _ _ rfl rfl rfl (N1.below (bel1 _ _)) a1 (Bo.new _ _ _) (by omega) (Nat.le_trans HB.out.size (bel1 _ _).size) ?_)
    intro A2 d2 w7 N1' G1 at1
    clear xX6;have hB2:=bt HB.out (bel1 _ (.cells #[.int .i64 D,.bool s,.int .u64 M,.int .i64 E] 24));have N1b:=N1.below (bel1 _ (.cells #[.int .i64 D,.bool s,.int .u64 M,.int .i64 E] 24));have N2b:=N2.below (bel1 _ (.cells #[.int .i64 D,.bool s,.int .u64 M,.int .i64 E] 24));replace X6:=(X6.below (bel1 _ (.cells #[.int .i64 D,.bool s,.int .u64 M,.int .i64 E] 24))).grownN N1b (by decide) G1
    replace HB:=Lib.hid (hB2.grown G1 hB2.size (fun k hk=>(N1b.own_lt k hk).1))
    have l1:∀k,ownA B1=some k→k < w6.heap.size+1:=fun k hk=>by
     have:=(N2b.own_lt k hk).2
     simpa using this
    replace N2:=N2b.kept G1 (own_ne HNE.out);clear N1 N1b N2b G1 hB2;have xX6:=X6.cell
    go_wp2_with (at_builtin;refine wpList_na rfl _ _ rfl rfl rfl (N2.below (bel1 _ _)) b1 (Bo.new _ _ _) (by omega) (Nat.le_trans HB.out.size (bel1 _ _).size) ?_)
    intro B2 d3 w8 N2' G2 at2
    clear xX6;have hB2:=bt HB.out (bel1 _ (.cells #[.int .i64 D',.bool s',.int .u64 M',.int .i64 E'] 24));have N2b:=N2.below (bel1 _ (.cells #[.int .i64 D',.bool s',.int .u64 M',.int .i64 E'] 24));have N1b:=N1'.below (bel1 _ (.cells #[.int .i64 D',.bool s',.int .u64 M',.int .i64 E'] 24))
    have lA:∀k,ownA A2=some k→k < w7.heap.size+1:=fun k hk=>by
     have:=(N1b.own_lt k hk).2
     simpa using this
    have hne2:∀k,ownA A2=some k→ownA B2≠some k:=ne_row HNE.out at1 at2 l1 lA
    have hne1:∀k,ownA A2=some k→ownA B1≠some k:=ne_row HNE.out at1 (.inl rfl) l1 lA
    replace HB:=Lib.hid (hB2.grown G2 hB2.size (fun k hk=>(N2b.own_lt k hk).1))
    replace N1':=N1b.kept G2 (own_ne' hne1)
    have t1:=HSL.out;have t2:=HSH.out;clear N1b N2b G2 hB2 hne1 X6 N2 l1 lA at1 at2 HSL HSH HNE;go_wp2
    go_roundw
    case rel=>exact ⟨k+1,_,_,_,_,by omega,rfl,rfl,by go_num,by rw [t1];exact N1',by rw [t2];exact N2',hne2,HB.out⟩
    case measure=>simp [intOf];omega
   ·obtain rfl:k=n:=by omega
    have tlt:decide ((k:Int) < (k:Int))=false:=by simp
    have e1:l.take k=l:=List.take_of_length_le (by rw [HLn.out];omega)
    rw [e1]at N1 N2;have L1:=N1.nl (by omega);have L2:=N2.nl (by omega);replace XR:=XR.below HB.out;replace hT:=hT.below HB.out;replace HB:=Lib.hid (bt HB0.out HB.out);clear N1 N2 e1 hne HB0 h HP
    go_wp2_with fail
    refine (aSum hT L1 HU.out).mono ?_;rintro ee w9 ⟨K21,s21,M21,E21,rfl,q21,B⟩;replace XR:=XR.below B;replace hT:=hT.below B;replace L1:=L1.below B;replace L2:=L2.below B;replace HB:=Hqb HB B;clear B
    go_wp2_with fail
    refine (aSum hT L2 HV.out).mono ?_;rintro ee wA ⟨K22,s22,M22,E22,rfl,q22,B⟩;replace XR:=XR.below B;replace hT:=hT.below B;replace L1:=L1.below B;replace L2:=L2.below B;replace HB:=Hqb HB B;clear B
    go_wp2_with fail
    refine (kvMake q21.top q22.top q21.rk q22.rk HZ.out).mono ?_;rintro ee wB ⟨e23,K23,s23,M23,E23,K23b,s23b,M23b,E23b,rfl,v23,B⟩;replace XR:=XR.below B;replace hT:=hT.below B;replace L1:=L1.below B;replace L2:=L2.below B;replace HB:=Hqb HB B;clear B;clear L1 L2 hT;have xXR:=XR.cell;have zXR0:=XR.frozen
    go_wp2;clear xXR zXR0;have SX:=StN.mk9 XR (.bool e23) (.int .i64 K23) (.bool s23) (.int .u64 M23) (.int .i64 E23) (.int .i64 K23b) (.bool s23b) (.int .u64 M23b) (.int .i64 E23b);exact bodyPost_ret (by simp [results,Tryz.results27,go_sem,SX.box.cell]) rfl ⟨_,_,_,_,_,_,_,_,_,rfl,v23,(SX.below HB.out (by omega))⟩
 ·obtain rfl:none=z:=(add_gone HP.out).symm.trans hr
  clear HP hT h hr
  go_wp2_with fail
  refine (kvNoneE).mono ?_;rintro ee w3 ⟨rfl,B⟩;replace XR:=XR.below B;replace HB:=Hqb HB B;clear B;have xXR:=XR.cell;have zXR0:=XR.frozen;go_wp2;clear xXR zXR0;have SX:=StN.mk9 XR (.bool true) (.int .i64 0) (.bool false) (.int .u64 0) (.int .i64 0) (.int .i64 0) (.bool false) (.int .u64 0) (.int .i64 0)
  exact bodyPost_ret (by simp [results,Tryz.results27,go_sem,SX.box.cell]) rfl ⟨_,_,_,_,_,_,_,_,_,rfl,Ci.none,(SX.below HB.out (by omega))⟩
end Go.Proofs.YtaadmpiphnfllaaGreatDoor
