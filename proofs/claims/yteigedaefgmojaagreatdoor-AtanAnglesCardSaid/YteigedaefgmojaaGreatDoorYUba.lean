/-
 Contracts that the proof rests on.
-/
import Derived.Test.YteigedaefgmojaaGreatDoorYUax
namespace Go.Proofs.YteigedaefgmojaaGreatDoor
open Go.Proofs.Tryz
set_option maxHeartbeats 8000000
open Go.RowKit
set_option linter.unusedVariables false
set_option linter.unusedSimpArgs false
set_option maxRecDepth 100000
def Gh (w:World)(x:Int)(g3 g5 g6:Nat)(s3:Bool)(A3:Option Addr)(n3 c3:Nat)(j:Nat)(wr:World):Prop:=∃(s5:Bool) (A5:Option Addr) (n5 c5:Nat) (s6:Bool) (A6:Option Addr) (n6 c6:Nat),Bo wr (w.heap.size+1) #[.bool false,.slice none 0 0] 43/\Bo wr g3 #[.bool s3,.slice A3 n3 c3] 43/\Bo wr g5 #[.bool s5,.slice A5 n5 c5] 43/\Bo wr g6 #[.bool s6,.slice A6 n6 c6] 43/\Wn wr s3 A3 n3 c3 x/\Wn wr s5 A5 n5 c5 (aT x j)/\Wn wr s6 A6 n6 c6 (aS x j)/\n5<=7/\n6<=20*j/\j<=111/\Below w.heap.size w wr
theorem JG{a b c j:Nat}(h:a<=b+c+1)(k:b<=20*j)(l:c<=13):a<=20*(j+1):=by omega
theorem AC (z:Int)(j:Nat):z.fdiv (2*(j:Int)+1)=z/ (2*(j:Int)+1):=Int.fdiv_eq_ediv_of_nonneg _ (by omega)
theorem EJ{w:World}{A:Option Addr}{n c a:Nat}{s:Bool}{x:Int}(h:Rd w A n c a)(hx:sg s a=x)(hn:n<=100000)(hf:SC < (x.natAbs:Int)):Calls prog 209 #[.agg #[.bool s,.slice A n c]] w (W1 w 2220 0):=by
 obtain⟨σ,D⟩:∃σ,ag (sg false x.natAbs) SC=σ:=⟨_,rfl⟩;have e0:=(az D).2
 rw[show sg false x.natAbs=(x.natAbs:Int)from kz _]at e0
 have O:=ie D;clear D;rw[dt hf]at e0;have l:=ie e0;clear e0 hf
 go_enter func209,ntmps209
 go_upto_region 1 with fail
 generalize m:(w.alloc _).alloc _=w1 at *;obtain⟨Q,d,e⟩:=Bo.en2 m;replace h:=h.below e.out;clear m;have L:=Q.cell
 go_wp2_with fail
 refine(dk s h).mono ?_;rintro R V ⟨s3,A3,n3,c3,rfl,j,Y,B⟩;clear L;refine aF ?_ d h e B;clear d h e B;intro d h e;clear h;replace j:=hx▸j;clear hx;clear Q
 go_upto_region 2 with fail
 have G:=d.lt;generalize f:V.alloc _=w3 at *;obtain⟨U,k⟩:=Bo.nw f;clear f;refine aF ?_ d j e k;clear d j e k;intro d j e;have M:=U.cell
 go_wp2_with fail
 refine(dk false j.1.rd).mono ?_;rintro R W ⟨s4,A4,n4,c4,rfl,p,Z,B⟩;clear M;replace d:=d.b B;replace e:=ak e B;clear B
 go_upto_region 3 with fail
 have H:=d.lt;generalize f:W.alloc _=w5 at *;obtain⟨u,k⟩:=Bo.nw f;clear f;refine aF ?_ d p e k;clear d p e k;intro d p e;have T:=d.lt;have S:=u.lt;refine bF [0,1,2,3] [19,20,21,22] [[],[],[0,1],[2]] 4 0 [Jo.Fact.eq (.agg #[.bool s4,.slice A4 n4 c4]),Jo.Fact.wn (SC) (8),Jo.qi σ,Jo.qb true] ?_ ?_
 ·refine jm ?_ ?_
  ·rintro J g K i;have X:=(u.b g).cell;go_simp;exact i.out _ _ rfl (br _ _)
  refine jm ?_ ?_
  ·rintro J g K i;go_simp;exact Jo.w1 (i9) i.out
  refine jm ?_ ?_
  ·rintro J g _ rfl _ ⟨I,t,F,y,rfl,o,E⟩ K i;go_simp;refine(FC (r:=σ) (p.b g).wr o.wr (by omega) (by omega) O.out).mono ?_;rintro R wk ⟨rfl,B⟩;exact i.out _ _ rfl B
  refine jm ?_ ?_
  ·rintro J g _ rfl K i;have C:=l.out;go_simp
   exact i.out _ _ (by first | rfl | (show Value.bool _=Value.bool _;rw[C]) | simp_all) (br _ _)
  exact jo
 rintro w6 g _ rfl _ ⟨I,t,F,y,rfl,o,E⟩ _ rfl _ rfl -;simp only[Jo.z];replace d:=d.b g;replace e:=ak e g;refine jd ?_;clear p O l;clear u;clear j;have N:=d.cell;have q:=d.frozen;go_wp2;clear N q;have P:=ac.t2 d false none 0 0;exact bq (v:= .agg #[.bool false,.slice none 0 0]) (by simp[results,results209,go_sem,P.box.cell]) rfl ⟨_,_,_,_,rfl,⟨Nm.zero,rfl⟩,Nat.zero_le _,(P.below e.out (by omega))⟩
theorem Bf{w:World}{A:Option Addr}{n c a:Nat}{s:Bool}{x:Int}(h:Rd w A n c a)(hx:sg s a=x)(hn:n<=100000)(hf:¬SC < (x.natAbs:Int)):Calls prog 209 #[.agg #[.bool s,.slice A n c]] w (W1 w 2220 (aS x 111)):=by
 have M: -SC<=x/\x<=SC:=by omega
 have hP:=ie (eJ M.1 M.2);have hR:=ie (mc M.1 M.2);clear M;obtain⟨σ,hσ⟩:∃σ,ag (sg false x.natAbs) SC=σ:=⟨_,rfl⟩;have e0:=(az hσ).2
 rw[show sg false x.natAbs=(x.natAbs:Int)from kz _]at e0
 have HS:=ie hσ;clear hσ;rw[df hf]at e0;have hN:=ie e0;clear e0 hf
 go_enter func209,ntmps209
 go_upto_region 1 with fail
 generalize hU:(w.alloc _).alloc _=w1 at *;obtain⟨X1,d,g⟩:=Bo.en2 hU;replace h:=h.below g.out;clear hU;have HY:=X1.cell
 go_wp2_with fail
 refine(dk s h).mono ?_;rintro P w2 ⟨s3,A3,n3,c3,rfl,f,k3,B⟩;clear HY;refine aF ?_ d h g B;clear d h g B;intro d h g;clear h;replace f:=hx▸f;clear hx;clear X1
 go_upto_region 2 with fail
 have fH:=d.lt;generalize p:w2.alloc _=w3 at *;obtain⟨e,D⟩:=Bo.nw p;clear p;refine aF ?_ d f g D;clear d f g D;intro d f g;have y:=e.cell
 go_wp2_with fail
 refine(dk false f.1.rd).mono ?_;rintro P w4 ⟨s4,A4,n4,c4,rfl,p4,k4,B⟩;clear y;refine aR ?_ d e f g B;clear d e f g B;intro d e f g
 go_upto_region 3 with fail
 have gB:=d.lt;have fP:=e.lt;generalize p:w4.alloc _=w5 at *;obtain⟨X4,D⟩:=Bo.nw p;clear p;refine dW ?_ d e f p4 g D;clear d e f p4 g D;intro d e f p4 g;have U:=d.lt;have T:=e.lt;have hV:=X4.lt;refine bF [0,1,2,3] [19,20,21,22] [[],[],[0,1],[2]] 4 0 [Jo.Fact.eq (.agg #[.bool s4,.slice A4 n4 c4]),Jo.Fact.wn (SC) (8),Jo.qi σ,Jo.qb false] ?_ ?_
 ·refine jm ?_ ?_
  ·rintro wj Q K Y;have LH:=(X4.b Q).cell;go_simp;exact Y.out _ _ rfl (br _ _)
  refine jm ?_ ?_
  ·rintro wj Q K Y;go_simp;exact Jo.w1 (i9) Y.out
  refine jm ?_ ?_
  ·rintro wj Q _ rfl _ ⟨HT,lA,HL,ET,rfl,hW,HJ⟩ K Y;go_simp;refine(FC (r:=σ) (p4.b Q).wr hW.wr (by omega) (by omega) HS.out).mono ?_;rintro P wk ⟨rfl,B⟩;exact Y.out _ _ rfl B
  refine jm ?_ ?_
  ·rintro wj Q _ rfl K Y;have HD:=hN.out;go_simp
   exact Y.out _ _ (by first | rfl | (show Value.bool _=Value.bool _;rw[HD]) | simp_all) (br _ _)
  exact jo
 rintro w6 Q _ rfl _ ⟨HT,lA,HL,ET,rfl,hW,HJ⟩ _ rfl _ rfl -;simp only[Jo.z];replace d:=d.b Q;replace e:=e.b Q;replace f:=f.b Q;replace g:=ak g Q;refine jd ?_;clear p4 HS hN;clear X4;have HC:=f.fits hP.out;clear hP;have y:=e.cell
 go_upto_region 6 with fail
 clear y;have gP:=d.lt;have gO:=e.lt;generalize p:w6.alloc _=w7 at *;obtain⟨k,D⟩:=Bo.nw p;clear p;refine aR ?_ d e f g D;clear d e f g D;intro d e f g
 go_upto_region 7 with fail
 have hC:=d.lt;have gS:=e.lt;have hA:=k.lt;generalize p:w7.alloc _=w8 at *;obtain⟨l,D⟩:=Bo.nw p;clear p;refine dW ?_ d e k f g D;clear d e k f g D;intro d e k f g
 have G1:w.heap.size+1 < w2.heap.size/\w2.heap.size < w6.heap.size/\w6.heap.size < w7.heap.size:=⟨by omega,by omega,by omega⟩
 clear fH gB fP U T hV gP gO hC gS hA;generalize w2.heap.size=g3 at *;generalize w6.heap.size=g5 at *;generalize w7.heap.size=g6 at *
 have hT:Gh w x g3 g5 g6 s3 A3 n3 c3 0 w8:=⟨_,_,_,_,_,_,_,_,d,e,k,l,f,f,⟨Nm.zero,rfl⟩,HC,Nat.zero_le _,by decide,g.out⟩
 have hQ:=ie hT;clear hT d e k l f g;go_wp2
 go_loopw [7] (fun i wr=>∃j:Nat,i= .int .i64 (j:Int)/\Gh w x g3 g5 g6 s3 A3 n3 c3 j wr) (fun i _=>112-(intOf i).toNat)
 case atStart=>exact ⟨0,rfl,hQ.out⟩
 case round=>
  obtain⟨j,rfl,s5,A5,n5,c5,s6,A6,n6,c6,d,e,k,l,f,q,u,k5,k6,hj,hB⟩:=hrel;have g:=ie hB;clear hB hQ
  by_cases hlt:j < 111
  ·have hX:decide ((j:Int)<=110)=true:=dt (by omega)
   have xX:=iw (2*(j:Int));have zX:=iw (2*(j:Int)+1);have BX:=jw (2*(j:Int)+1);have CD:=jw (2*(j:Int));have HE:=xX.out;have HF:=zX.out;have HG:=BX.out;have HH:=CD.out;have qT:=ie (AC (aT x j) j);have F:=k.cell
   go_wp2_with fail
   refine(qR q.wr (by omega) (by omega) (by omega) (by omega) qT.out).mono ?_;rintro P w3 ⟨s8,A8,n8,c8,rfl,R,k8,B⟩;clear F;refine zo ?_ d e k l f q u g B;clear d e k l f q u g B;intro d e k l f q u g;clear hX HE HF HG HH
   go_upto_region 11 with fail
   have HP:=d.lt;have HM:=e.lt;have HN:=k.lt;have HO:=l.lt;generalize p:w3.alloc _=w4 at *;obtain⟨t,D⟩:=Bo.nw p;clear p;refine GE ?_ d e k l f q u R g D;clear d e k l f q u R g D;intro d e k l f q u R g;have U:=d.lt;have T:=e.lt;have LA:=k.lt;have LB:=l.lt;have LC:=t.lt
   by_cases J:j%2=1
   ·have V:Hid (aS x j+ -(aT x j/ (2*(j:Int)+1))=aS x (j+1)):=ie (by show _=aS x j+(if j%2=1 then _ else _);rw[if_pos J])
    have t9:(Int.tmod (j:Int) 2==1)=true:=by
     rw[show Int.tmod (j:Int) 2=1 by rw[Int.tmod_eq_emod_of_nonneg (by omega)];omega]
     rfl
    have t8:(((j:Int)%2)==1)=true:=by
     rw[show (j:Int)%2=1 by omega]
     rfl
    clear J;have H:=t.cell
    go_wp2_with fail
    refine(Iv R.wr rfl).mono ?_;rintro P w9 ⟨LG,LD,LF,LE,rfl,C,HK,B⟩;clear H;refine sX ?_ d e k l t f q u R g B;clear d e k l t f q u R g B;intro d e k l t f q u R g;clear R;have H:=t.cell
    have hZ:=t.frozen
    go_upto_region 13 with fail
    clear H hZ;generalize I:(w9.setCell _ _).setCell _ _=wA at *;have o:=ac.of2 t I;replace d:=d.s o;replace e:=e.s o;replace k:=k.s o;replace l:=l.s o;replace f:=f.s o;replace q:=q.s o;replace u:=u.s o;replace C:=C.s o
    replace g:=bi g o (by omega);replace t:=o.box;clear o I;clear t9 t8;have G:=l.cell;have H:=t.cell
    go_wp2_with fail
    refine(gk u.wr C.wr (by omega) (by omega) V.out).mono ?_;rintro P hH ⟨HU,lB,bN,HA,rfl,m,bD,B⟩;clear G H;refine sX ?_ d e k l t f q u C g B;clear d e k l t f q u C g B;intro d e k l t f q u C g;clear u C;have G:=l.cell;have O:=l.frozen
    go_upto_region 14 with fail
    clear G O;generalize I:(hH.setCell _ _).setCell _ _=HV at *;have o:=ac.of2 l I;replace d:=d.s o;replace e:=e.s o;replace k:=k.s o;replace t:=t.s o;replace f:=f.s o;replace q:=q.s o;replace m:=m.s o;replace g:=bi g o (by omega)
    replace l:=o.box;clear o I;have F:=k.cell;have y:=e.cell
    go_wp2_with fail
    refine(EI q.wr f.wr (by omega) (by omega) rfl).mono ?_;rintro P hI ⟨s9,A9,n9,c9,rfl,L,k9,B⟩;clear F y;refine GE ?_ d e k l t f q m g B;clear d e k l t f q m g B;intro d e k l t f q m g;clear q
    go_upto_region 15 with fail
    have hG:=d.lt;have hD:=e.lt;have hE:=k.lt;have hF:=l.lt;have HQ:=t.lt;generalize p:hI.alloc _=HW at *;obtain⟨S,D⟩:=Bo.nw p;clear p;refine GE ?_ d e k l t f m L g D;clear d e k l t f m L g D;intro d e k l t f m L g;have hM:=S.cell;have y:=e.cell
    go_wp2_with fail
    refine(EI L.wr f.wr (by omega) (by omega) rfl).mono ?_;rintro P hL ⟨HR,iV,bH,DS,rfl,E,HI,B⟩;clear hM y;refine sX ?_ d e k l t S f m L g B;clear d e k l t S f m L g B;intro d e k l t S f m L g;clear L;have F:=k.cell;have N:=k.frozen
    go_upto_region 9 with fail
    clear F N;generalize I:(hL.setCell _ _).setCell _ _=HX at *;have o:=ac.of2 k I;replace d:=d.s o;replace e:=e.s o;replace l:=l.s o;replace t:=t.s o;replace S:=S.s o;replace f:=f.s o;replace m:=m.s o;replace E:=E.s o
    replace g:=bi g o (by omega);replace k:=o.box;clear o I;have W:=iw ((j:Int)+1);have X:=jw ((j:Int)+1);have bB:=W.out;have bC:=X.out;have sm:=hR.out (j+1)
    have Z:bH<=7:=E.fits (eJ sm.1 sm.2)
    have bA:bN<=20*(j+1):=JG bD k6 (by omega)
    clear sm;go_wp2;clear bB bC
    go_roundw
    case rel=>exact ⟨j+1,by go_num,_,_,_,_,_,_,_,_,d,e,k,l,f,E,m,Z,bA,by omega,g.out⟩
    case measure=>simp [intOf];omega
   ·have V:Hid (aS x j+aT x j/ (2*(j:Int)+1)=aS x (j+1)):=ie (by show _=aS x j+(if j%2=1 then _ else _);rw[if_neg J])
    have t9:(Int.tmod (j:Int) 2==1)=false:=by
     rw[show Int.tmod (j:Int) 2=0 by rw[Int.tmod_eq_emod_of_nonneg (by omega)];omega]
     rfl
    have t8:(((j:Int)%2)==1)=false:=by
     rw[show (j:Int)%2=0 by omega]
     rfl
    clear J;have C:=R;have HK:=k8;clear R
    go_upto_region 13 with fail
    clear t9 t8;have G:=l.cell;have H:=t.cell
    go_wp2_with fail
    refine(gk u.wr C.wr (by omega) (by omega) V.out).mono ?_;rintro P hH ⟨HU,lB,bN,HA,rfl,m,bD,B⟩;clear G H;refine zo ?_ d e k l f q u g B;clear d e k l f q u g B;intro d e k l f q u g;clear u C;have G:=l.cell
    have O:=l.frozen
    go_upto_region 14 with fail
    clear G O;generalize I:(hH.setCell _ _).setCell _ _=HV at *;have o:=ac.of2 l I;replace d:=d.s o;replace e:=e.s o;replace k:=k.s o;replace f:=f.s o;replace q:=q.s o;replace m:=m.s o;replace g:=bi g o (by omega)
    replace l:=o.box;clear o I;have F:=k.cell;have y:=e.cell
    go_wp2_with fail
    refine(EI q.wr f.wr (by omega) (by omega) rfl).mono ?_;rintro P hI ⟨s9,A9,n9,c9,rfl,L,k9,B⟩;clear F y;refine oG ?_ d e k l f m g B;clear d e k l f m g B;intro d e k l f m g;clear q
    go_upto_region 15 with fail
    have hG:=d.lt;have hD:=e.lt;have hE:=k.lt;have hF:=l.lt;generalize p:hI.alloc _=HW at *;obtain⟨S,D⟩:=Bo.nw p;clear p;refine zo ?_ d e k l f m L g D;clear d e k l f m L g D;intro d e k l f m L g;have hM:=S.cell;have y:=e.cell
    go_wp2_with fail
    refine(EI L.wr f.wr (by omega) (by omega) rfl).mono ?_;rintro P hL ⟨HR,iV,bH,DS,rfl,E,HI,B⟩;clear hM y;refine oG ?_ d e k l f m g B;clear d e k l f m g B;intro d e k l f m g;clear L;have F:=k.cell;have N:=k.frozen
    go_upto_region 9 with fail
    clear F N;generalize I:(hL.setCell _ _).setCell _ _=HX at *;have o:=ac.of2 k I;replace d:=d.s o;replace e:=e.s o;replace l:=l.s o;replace f:=f.s o;replace m:=m.s o;replace E:=E.s o;replace g:=bi g o (by omega)
    replace k:=o.box;clear o I;have W:=iw ((j:Int)+1);have X:=jw ((j:Int)+1);have bB:=W.out;have bC:=X.out;have sm:=hR.out (j+1)
    have Z:bH<=7:=E.fits (eJ sm.1 sm.2)
    have bA:bN<=20*(j+1):=JG bD k6 (by omega)
    clear sm;go_wp2;clear bB bC
    go_roundw
    case rel=>exact ⟨j+1,by go_num,_,_,_,_,_,_,_,_,d,e,k,l,f,E,m,Z,bA,by omega,g.out⟩
    case measure=>simp [intOf];omega
  ·obtain rfl:j=111:=by omega
   have hX:decide (((111:Nat):Int)<=110)=false:=by decide
   clear f q;have HZ:=d.cell;have iU:=d.frozen;have G:=l.cell;go_wp2;clear HZ iU G;have o:=ac.t2 d s6 A6 n6 c6;replace u:=u.s o;exact bq (v:= .agg #[.bool s6,.slice A6 n6 c6]) (by simp[results,results209,go_sem,o.box.cell]) rfl ⟨_,_,_,_,rfl,u,by omega,(o.below g.out (by omega))⟩
theorem Bc{w:World}{A:Option Addr}{n c:Nat}{s:Bool}{x r:Int}(h:Wr w s A n c x)(hn:n<=100000)(hr:pK x=r):Calls prog 209 #[.agg #[.bool s,.slice A n c]] w (W1 w 2220 r):=by
 obtain⟨a,h,hx⟩:=h
 unfold pK at hr
 by_cases hf:SC < (x.natAbs:Int)
 ·rw[if_pos hf]at hr;subst hr;exact EJ h hx hn hf
 ·rw[if_neg hf]at hr;subst hr;exact Bf h hx hn hf
