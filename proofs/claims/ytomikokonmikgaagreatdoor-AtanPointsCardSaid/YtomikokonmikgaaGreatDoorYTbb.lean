/-
 Contracts that the proof rests on.
-/
import Derived.Test.YtomikokonmikgaaGreatDoorYTay
namespace Go.Proofs.YtomikokonmikgaaGreatDoor
open Go.Proofs.Tryz
set_option maxHeartbeats 8000000
open Go.RowKit
set_option linter.unusedVariables false
set_option linter.unusedSimpArgs false
set_option maxRecDepth 100000
def Fk (w:World)(x:Int)(g3 g5 g6:Nat)(s3:Bool)(A3:Option Addr)(n3 c3:Nat)(j:Nat)(wr:World):Prop:=∃(s5:Bool) (A5:Option Addr) (n5 c5:Nat) (s6:Bool) (A6:Option Addr) (n6 c6:Nat),Bo wr (w.heap.size+1) #[.bool false,.slice none 0 0] 27/\Bo wr g3 #[.bool s3,.slice A3 n3 c3] 27/\Bo wr g5 #[.bool s5,.slice A5 n5 c5] 27/\Bo wr g6 #[.bool s6,.slice A6 n6 c6] 27/\Wn wr s3 A3 n3 c3 x/\Wn wr s5 A5 n5 c5 (aT x j)/\Wn wr s6 A6 n6 c6 (aS x j)/\n5<=7/\n6<=20*j/\j<=111/\Below w.heap.size w wr
theorem I0{a b c j:Nat}(h:a<=b+c+1)(k:b<=20*j)(l:c<=13):a<=20*(j+1):=by omega
theorem zA (z:Int)(j:Nat):z.fdiv (2*(j:Int)+1)=z/ (2*(j:Int)+1):=Int.fdiv_eq_ediv_of_nonneg _ (by omega)
theorem DQ{w:World}{A:Option Addr}{n c a:Nat}{s:Bool}{x:Int}(h:Rd w A n c a)(hx:sg s a=x)(hn:n<=100000)(hf:SC < (x.natAbs:Int)):Calls prog 25 #[.agg #[.bool s,.slice A n c]] w (W1 w 2220 0):=by
 obtain⟨σ,D⟩:∃σ,ag (sg false x.natAbs) SC=σ:=⟨_,rfl⟩;have e0:=(aQ D).2
 rw[show sg false x.natAbs=(x.natAbs:Int)from kh _]at e0
 have O:=ie D;clear D;rw[dt hf]at e0;have l:=ie e0;clear e0 hf
 go_enter func25,ntmps25
 go_upto_region 1 with (fail)
 generalize m:(w.alloc _).alloc _=w1 at *;obtain⟨Q,d,e⟩:=Bo.en2 m;replace h:=h.below e.out;clear m;have L:=Q.cell
 go_wp2_with fail
 refine(db s h).mono ?_;rintro R V ⟨s3,A3,n3,c3,rfl,k,Y,B⟩;clear L;replace d:=d.b B;replace h:=h.b B;replace e:=aa e B;clear B;clear h;replace k:=hx▸k;clear hx;clear Q
 go_upto_region 2 with (fail)
 have G:=d.lt;generalize g:V.alloc _=w3 at *;obtain⟨U,i⟩:=Bo.nw g;clear g;replace d:=d.b i;replace k:=k.b i;replace e:=aa e i;clear i;have M:=U.cell
 go_wp2_with fail
 refine(db false k.1.rd).mono ?_;rintro R W ⟨s4,A4,n4,c4,rfl,q,Z,B⟩;clear M;replace d:=d.b B;replace e:=aa e B;clear B
 go_upto_region 3 with (fail)
 have H:=d.lt;generalize g:W.alloc _=w5 at *;obtain⟨u,i⟩:=Bo.nw g;clear g;replace d:=d.b i;replace q:=q.b i;replace e:=aa e i;clear i;have T:=d.lt;have S:=u.lt;refine jk [0,1,2,3] [some 18,some 19,some 20,some 21] [[],[],[0,1],[2]] 4 0 [Jo.Fact.eq (.agg #[.bool s4,.slice A4 n4 c4]),Jo.Fact.wn (SC) (8),Jo.qi σ,Jo.qb true] ?_ ?_
 ·refine jm ?_ ?_
  ·rintro J j K f;simp only[Jo.z]at f|-;have X:=(u.b j).cell;go_simp;exact f.out _ _ rfl (br _ _)
  refine jm ?_ ?_
  ·rintro J j K f;simp only[Jo.z]at f|-;go_simp;exact Jo.w1 (iP) f.out
  refine jm ?_ ?_
  ·rintro J j _ rfl _ ⟨I,t,F,y,rfl,o,E⟩ K f;simp only[Jo.z]at f|-;go_simp;refine(Ex (r:=σ) (q.b j).wr o.wr (by omega) (by omega) O.out).mono ?_;rintro R wk ⟨rfl,B⟩;exact f.out _ _ rfl B
  refine jm ?_ ?_
  ·rintro J j _ rfl K f;simp only[Jo.z]at f|-;have C:=l.out;go_simp
   exact f.out _ _ (by first | rfl | (show Value.bool _=Value.bool _;rw[C]) | simp_all) (br _ _)
  exact jo
 rintro w6 j _ rfl _ ⟨I,t,F,y,rfl,o,E⟩ _ rfl _ rfl -;simp only[Jo.z];replace d:=d.b j;replace e:=aa e j;refine jd ?_;clear q O l;clear u;clear k;have N:=d.cell;have p:=d.frozen;go_wp2;clear N p;have P:=ae.t2 d false none 0 0;exact bq (v:= .agg #[.bool false,.slice none 0 0]) (by simp[results,results25,go_sem,P.box.cell]) rfl ⟨_,_,_,_,rfl,⟨Nm.zero,rfl⟩,Nat.zero_le _,(P.below e.out (by omega))⟩
theorem z5{w:World}{A:Option Addr}{n c a:Nat}{s:Bool}{x:Int}(h:Rd w A n c a)(hx:sg s a=x)(hn:n<=100000)(hf:¬SC < (x.natAbs:Int)):Calls prog 25 #[.agg #[.bool s,.slice A n c]] w (W1 w 2220 (aS x 111)):=by
 have M: -SC<=x/\x<=SC:=by omega
 have hP:=ie (ej M.1 M.2);have hR:=ie (lO M.1 M.2);clear M;obtain⟨σ,hσ⟩:∃σ,ag (sg false x.natAbs) SC=σ:=⟨_,rfl⟩;have e0:=(aQ hσ).2
 rw[show sg false x.natAbs=(x.natAbs:Int)from kh _]at e0
 have HS:=ie hσ;clear hσ;rw[df hf]at e0;have hN:=ie e0;clear e0 hf
 go_enter func25,ntmps25
 go_upto_region 1 with (fail)
 generalize hU:(w.alloc _).alloc _=w1 at *;obtain⟨X1,d,l⟩:=Bo.en2 hU;replace h:=h.below l.out;clear hU;have HZ:=X1.cell
 go_wp2_with fail
 refine(db s h).mono ?_;rintro Q w2 ⟨s3,A3,n3,c3,rfl,f,k3,B⟩;clear HZ;replace d:=d.b B;replace h:=h.b B;replace l:=aa l B;clear B;clear h;replace f:=hx▸f;clear hx;clear X1
 go_upto_region 2 with (fail)
 have fH:=d.lt;generalize q:w2.alloc _=w3 at *;obtain⟨e,k⟩:=Bo.nw q;clear q;replace d:=d.b k;replace f:=f.b k;replace l:=aa l k;clear k;have y:=e.cell
 go_wp2_with fail
 refine(db false f.1.rd).mono ?_;rintro Q w4 ⟨s4,A4,n4,c4,rfl,p4,k4,B⟩;clear y;replace d:=d.b B;replace e:=e.b B;replace f:=f.b B;replace l:=aa l B;clear B
 go_upto_region 3 with (fail)
 have gB:=d.lt;have fP:=e.lt;generalize q:w4.alloc _=w5 at *;obtain⟨X4,k⟩:=Bo.nw q;clear q;replace d:=d.b k;replace e:=e.b k;replace f:=f.b k;replace p4:=p4.b k;replace l:=aa l k;clear k;have T:=d.lt;have S:=e.lt;have hV:=X4.lt;refine jk [0,1,2,3] [some 18,some 19,some 20,some 21] [[],[],[0,1],[2]] 4 0 [Jo.Fact.eq (.agg #[.bool s4,.slice A4 n4 c4]),Jo.Fact.wn (SC) (8),Jo.qi σ,Jo.qb false] ?_ ?_
 ·refine jm ?_ ?_
  ·rintro wj R K L;simp only[Jo.z]at L|-;have LI:=(X4.b R).cell;go_simp;exact L.out _ _ rfl (br _ _)
  refine jm ?_ ?_
  ·rintro wj R K L;simp only[Jo.z]at L|-;go_simp;exact Jo.w1 (iP) L.out
  refine jm ?_ ?_
  ·rintro wj R _ rfl _ ⟨HU,lA,HM,HA,rfl,hW,HK⟩ K L;simp only[Jo.z]at L|-;go_simp;refine(Ex (r:=σ) (p4.b R).wr hW.wr (by omega) (by omega) HS.out).mono ?_;rintro Q wk ⟨rfl,B⟩;exact L.out _ _ rfl B
  refine jm ?_ ?_
  ·rintro wj R _ rfl K L;simp only[Jo.z]at L|-;have HE:=hN.out;go_simp
   exact L.out _ _ (by first | rfl | (show Value.bool _=Value.bool _;rw[HE]) | simp_all) (br _ _)
  exact jo
 rintro w6 R _ rfl _ ⟨HU,lA,HM,HA,rfl,hW,HK⟩ _ rfl _ rfl -;simp only[Jo.z];replace d:=d.b R;replace e:=e.b R;replace f:=f.b R;replace l:=aa l R;refine jd ?_;clear p4 HS hN;clear X4;have HD:=f.fits hP.out;clear hP;have y:=e.cell
 go_upto_region 6 with (fail)
 clear y;have gP:=d.lt;have gO:=e.lt;generalize q:w6.alloc _=w7 at *;obtain⟨m,k⟩:=Bo.nw q;clear q;replace d:=d.b k;replace e:=e.b k;replace f:=f.b k;replace l:=aa l k;clear k
 go_upto_region 7 with (fail)
 have hC:=d.lt;have gS:=e.lt;have hA:=m.lt;generalize q:w7.alloc _=w8 at *;obtain⟨o,k⟩:=Bo.nw q;clear q;replace d:=d.b k;replace e:=e.b k;replace m:=m.b k;replace f:=f.b k;replace l:=aa l k;clear k
 have G1:w.heap.size+1 < w2.heap.size/\w2.heap.size < w6.heap.size/\w6.heap.size < w7.heap.size:=⟨by omega,by omega,by omega⟩
 clear fH gB fP T S hV gP gO hC gS hA;generalize w2.heap.size=g3 at *;generalize w6.heap.size=g5 at *;generalize w7.heap.size=g6 at *
 have hT:Fk w x g3 g5 g6 s3 A3 n3 c3 0 w8:=⟨_,_,_,_,_,_,_,_,d,e,m,o,f,f,⟨Nm.zero,rfl⟩,HD,Nat.zero_le _,by decide,l.out⟩
 have hQ:=ie hT;clear hT d e m o f l;go_wp2
 go_loopw [7] (fun i wr=>∃j:Nat,i= .int .i64 (j:Int)/\Fk w x g3 g5 g6 s3 A3 n3 c3 j wr) (fun i _=>112-(intOf i).toNat)
 case atStart=>exact ⟨0,rfl,hQ.out⟩
 case round=>
  obtain⟨j,rfl,s5,A5,n5,c5,s6,A6,n6,c6,d,e,m,o,f,t,E,k5,k6,hj,hB⟩:=hrel;have l:=ie hB;clear hB hQ
  by_cases hlt:j < 111
  ·have hX:decide ((j:Int)<=110)=true:=dt (by omega)
   have xX:=iw (2*(j:Int));have zX:=iw (2*(j:Int)+1);have BX:=jw (2*(j:Int)+1);have CD:=jw (2*(j:Int));have HF:=xX.out;have HG:=zX.out;have HH:=BX.out;have HI:=CD.out;have qT:=ie (zA (aT x j) j);have F:=m.cell
   go_wp2_with fail
   refine(qm t.wr (by omega) (by omega) (by omega) (by omega) qT.out).mono ?_;rintro Q w3 ⟨s8,A8,n8,c8,rfl,U,k8,B⟩;clear F;replace d:=d.b B;replace e:=e.b B;replace m:=m.b B;replace o:=o.b B;replace f:=f.b B;replace t:=t.b B;replace E:=E.b B;replace l:=aa l B;clear B;clear hX HF HG HH HI
   go_upto_region 11 with (fail)
   have HQ:=d.lt;have HN:=e.lt;have HO:=m.lt;have HP:=o.lt;generalize q:w3.alloc _=w4 at *;obtain⟨u,k⟩:=Bo.nw q;clear q;replace d:=d.b k;replace e:=e.b k;replace m:=m.b k;replace o:=o.b k;replace f:=f.b k;replace t:=t.b k;replace E:=E.b k;replace U:=U.b k;replace l:=aa l k
   clear k;have T:=d.lt;have S:=e.lt;have LB:=m.lt;have LC:=o.lt;have LD:=u.lt
   by_cases J:j%2=1
   ·have V:Hid (aS x j+ -(aT x j/ (2*(j:Int)+1))=aS x (j+1)):=ie (by show _=aS x j+(if j%2=1 then _ else _);rw[if_pos J])
    have t9:(Int.tmod (j:Int) 2==1)=true:=by
     rw[show Int.tmod (j:Int) 2=1 by rw[Int.tmod_eq_emod_of_nonneg (by omega)];omega]
     rfl
    have t8:(((j:Int)%2)==1)=true:=by
     rw[show (j:Int)%2=1 by omega]
     rfl
    clear J;have H:=u.cell
    go_wp2_with fail
    refine(Hg U.wr rfl).mono ?_;rintro Q w9 ⟨LH,LE,LG,LF,rfl,D,HL,B⟩;clear H;replace d:=d.b B;replace e:=e.b B;replace m:=m.b B;replace o:=o.b B;replace u:=u.b B;replace f:=f.b B;replace t:=t.b B;replace E:=E.b B;replace U:=U.b B;replace l:=aa l B;clear B;clear U;have H:=u.cell
    have hZ:=u.frozen
    go_upto_region 13 with (fail)
    clear H hZ;generalize I:(w9.setCell _ _).setCell _ _=wA at *;have g:=ae.of2 u I;replace d:=d.s g;replace e:=e.s g;replace m:=m.s g;replace o:=o.s g;replace f:=f.s g;replace t:=t.s g;replace E:=E.s g;replace D:=D.s g
    replace l:=bn l g (by omega);replace u:=g.box;clear g I;clear t9 t8;have G:=o.cell;have H:=u.cell
    go_wp2_with fail
    refine(f8 E.wr D.wr (by omega) (by omega) V.out).mono ?_;rintro Q hH ⟨HV,lB,bN,HC,rfl,p,bD,B⟩;clear G H;replace d:=d.b B;replace e:=e.b B;replace m:=m.b B;replace o:=o.b B;replace u:=u.b B;replace f:=f.b B;replace t:=t.b B;replace E:=E.b B;replace D:=D.b B;replace l:=aa l B
    clear B;clear E D;have G:=o.cell;have P:=o.frozen
    go_upto_region 14 with (fail)
    clear G P;generalize I:(hH.setCell _ _).setCell _ _=HW at *;have g:=ae.of2 o I;replace d:=d.s g;replace e:=e.s g;replace m:=m.s g;replace u:=u.s g;replace f:=f.s g;replace t:=t.s g;replace p:=p.s g;replace l:=bn l g (by omega)
    replace o:=g.box;clear g I;have F:=m.cell;have y:=e.cell
    go_wp2_with fail
    refine(DP t.wr f.wr (by omega) (by omega) rfl).mono ?_;rintro Q hI ⟨s9,A9,n9,c9,rfl,N,k9,B⟩;clear F y;replace d:=d.b B;replace e:=e.b B;replace m:=m.b B;replace o:=o.b B;replace u:=u.b B;replace f:=f.b B;replace t:=t.b B;replace p:=p.b B;replace l:=aa l B;clear B;clear t
    go_upto_region 15 with (fail)
    have hG:=d.lt;have hD:=e.lt;have hE:=m.lt;have hF:=o.lt;have HR:=u.lt;generalize q:hI.alloc _=HX at *;obtain⟨Y,k⟩:=Bo.nw q;clear q;replace d:=d.b k;replace e:=e.b k;replace m:=m.b k;replace o:=o.b k;replace u:=u.b k;replace f:=f.b k;replace p:=p.b k;replace N:=N.b k
    replace l:=aa l k;clear k;have hM:=Y.cell;have y:=e.cell
    go_wp2_with fail
    refine(DP N.wr f.wr (by omega) (by omega) rfl).mono ?_;rintro Q hL ⟨HT,iV,bH,ET,rfl,C,HJ,B⟩;clear hM y;replace d:=d.b B;replace e:=e.b B;replace m:=m.b B;replace o:=o.b B;replace u:=u.b B;replace Y:=Y.b B;replace f:=f.b B;replace p:=p.b B;replace N:=N.b B;replace l:=aa l B
    clear B;clear N;have F:=m.cell;have O:=m.frozen
    go_upto_region 9 with (fail)
    clear F O;generalize I:(hL.setCell _ _).setCell _ _=HY at *;have g:=ae.of2 m I;replace d:=d.s g;replace e:=e.s g;replace o:=o.s g;replace u:=u.s g;replace Y:=Y.s g;replace f:=f.s g;replace p:=p.s g;replace C:=C.s g
    replace l:=bn l g (by omega);replace m:=g.box;clear g I;have W:=iw ((j:Int)+1);have X:=jw ((j:Int)+1);have bB:=W.out;have bC:=X.out;have sm:=hR.out (j+1)
    have Z:bH<=7:=C.fits (ej sm.1 sm.2)
    have bA:bN<=20*(j+1):=I0 bD k6 (by omega)
    clear sm;go_wp2;clear bB bC
    go_roundw
    case rel=>exact ⟨j+1,by go_num,_,_,_,_,_,_,_,_,d,e,m,o,f,C,p,Z,bA,by omega,l.out⟩
    case measure=>simp [intOf];omega
   ·have V:Hid (aS x j+aT x j/ (2*(j:Int)+1)=aS x (j+1)):=ie (by show _=aS x j+(if j%2=1 then _ else _);rw[if_neg J])
    have t9:(Int.tmod (j:Int) 2==1)=false:=by
     rw[show Int.tmod (j:Int) 2=0 by rw[Int.tmod_eq_emod_of_nonneg (by omega)];omega]
     rfl
    have t8:(((j:Int)%2)==1)=false:=by
     rw[show (j:Int)%2=0 by omega]
     rfl
    clear J;have D:=U;have HL:=k8;clear U
    go_upto_region 13 with (fail)
    clear t9 t8;have G:=o.cell;have H:=u.cell
    go_wp2_with fail
    refine(f8 E.wr D.wr (by omega) (by omega) V.out).mono ?_;rintro Q hH ⟨HV,lB,bN,HC,rfl,p,bD,B⟩;clear G H;replace d:=d.b B;replace e:=e.b B;replace m:=m.b B;replace o:=o.b B;replace f:=f.b B;replace t:=t.b B;replace E:=E.b B;replace l:=aa l B;clear B;clear E D;have G:=o.cell
    have P:=o.frozen
    go_upto_region 14 with (fail)
    clear G P;generalize I:(hH.setCell _ _).setCell _ _=HW at *;have g:=ae.of2 o I;replace d:=d.s g;replace e:=e.s g;replace m:=m.s g;replace f:=f.s g;replace t:=t.s g;replace p:=p.s g;replace l:=bn l g (by omega)
    replace o:=g.box;clear g I;have F:=m.cell;have y:=e.cell
    go_wp2_with fail
    refine(DP t.wr f.wr (by omega) (by omega) rfl).mono ?_;rintro Q hI ⟨s9,A9,n9,c9,rfl,N,k9,B⟩;clear F y;replace d:=d.b B;replace e:=e.b B;replace m:=m.b B;replace o:=o.b B;replace f:=f.b B;replace p:=p.b B;replace l:=aa l B;clear B;clear t
    go_upto_region 15 with (fail)
    have hG:=d.lt;have hD:=e.lt;have hE:=m.lt;have hF:=o.lt;generalize q:hI.alloc _=HX at *;obtain⟨Y,k⟩:=Bo.nw q;clear q;replace d:=d.b k;replace e:=e.b k;replace m:=m.b k;replace o:=o.b k;replace f:=f.b k;replace p:=p.b k;replace N:=N.b k;replace l:=aa l k
    clear k;have hM:=Y.cell;have y:=e.cell
    go_wp2_with fail
    refine(DP N.wr f.wr (by omega) (by omega) rfl).mono ?_;rintro Q hL ⟨HT,iV,bH,ET,rfl,C,HJ,B⟩;clear hM y;replace d:=d.b B;replace e:=e.b B;replace m:=m.b B;replace o:=o.b B;replace f:=f.b B;replace p:=p.b B;replace l:=aa l B;clear B;clear N;have F:=m.cell;have O:=m.frozen
    go_upto_region 9 with (fail)
    clear F O;generalize I:(hL.setCell _ _).setCell _ _=HY at *;have g:=ae.of2 m I;replace d:=d.s g;replace e:=e.s g;replace o:=o.s g;replace f:=f.s g;replace p:=p.s g;replace C:=C.s g;replace l:=bn l g (by omega)
    replace m:=g.box;clear g I;have W:=iw ((j:Int)+1);have X:=jw ((j:Int)+1);have bB:=W.out;have bC:=X.out;have sm:=hR.out (j+1)
    have Z:bH<=7:=C.fits (ej sm.1 sm.2)
    have bA:bN<=20*(j+1):=I0 bD k6 (by omega)
    clear sm;go_wp2;clear bB bC
    go_roundw
    case rel=>exact ⟨j+1,by go_num,_,_,_,_,_,_,_,_,d,e,m,o,f,C,p,Z,bA,by omega,l.out⟩
    case measure=>simp [intOf];omega
  ·obtain rfl:j=111:=by omega
   have hX:decide (((111:Nat):Int)<=110)=false:=by decide
   clear f t;have LA:=d.cell;have iU:=d.frozen;have G:=o.cell;go_wp2;clear LA iU G;have g:=ae.t2 d s6 A6 n6 c6;replace E:=E.s g;exact bq (v:= .agg #[.bool s6,.slice A6 n6 c6]) (by simp[results,results25,go_sem,g.box.cell]) rfl ⟨_,_,_,_,rfl,E,by omega,(g.below l.out (by omega))⟩
theorem rT{w:World}{A:Option Addr}{n c:Nat}{s:Bool}{x r:Int}(h:Wr w s A n c x)(hn:n<=100000)(hr:nu x=r):Calls prog 25 #[.agg #[.bool s,.slice A n c]] w (W1 w 2220 r):=by
 obtain⟨a,h,hx⟩:=h
 unfold nu at hr
 by_cases b:SC < (x.natAbs:Int)
 ·rw[if_pos b]at hr;subst hr;exact DQ h hx hn b
 ·rw[if_neg b]at hr;subst hr;exact z5 h hx hn b
