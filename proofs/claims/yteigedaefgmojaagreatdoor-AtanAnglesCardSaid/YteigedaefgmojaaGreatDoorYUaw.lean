/-
 Contracts that the proof rests on.
-/
import Derived.Test.YteigedaefgmojaaGreatDoorYUav
namespace Go.Proofs.YteigedaefgmojaaGreatDoor
open Go.Proofs.Tryz
open Go.RowKit
set_option linter.unusedVariables false
set_option linter.unusedSimpArgs false
set_option maxRecDepth 100000
theorem Nl.lit2{W:World}{g:Nat}{D1 D2 M1 M2 E1 E2 r1 r2:Int}{s1 s2:Bool}(hg:W.heap.size=g)(h1:LQ M1)(h2:LQ M2)(k1:rk D1 s1 M1 E1=r1)(k2:rk D2 s2 M2 E2=r2):
  Nl (W.alloc (.cells #[.int .i64 D1,.bool s1,.int .u64 M1,.int .i64 E1,.int .i64 D2,.bool s2,.int .u64 M2,.int .i64 E2] 24)) (some ⟨g,0,none⟩) 2 2 [r1,r2]:=by
 subst hg;have hh:=heap_alloc_new W (.cells #[.int .i64 D1,.bool s1,.int .u64 M1,.int .i64 E1,.int .i64 D2,.bool s2,.int .u64 M2,.int .i64 E2] 24)
 refine⟨rfl,Nat.le_refl _,by decide,fun _=>⟨_,0,rfl,fun k hk=>?_⟩⟩
 rcases (by omega:k=0\/k=1)with rfl | rfl
 ·exact⟨D1,s1,M1,E1,by rw[cell_of_row _ _ _ _ _ _ hh];rfl,by rw[cell_of_row _ _ _ _ _ _ hh];rfl,by rw[cell_of_row _ _ _ _ _ _ hh];rfl,by rw[cell_of_row _ _ _ _ _ _ hh];rfl,h1,k1⟩
 ·exact⟨D2,s2,M2,E2,by rw[cell_of_row _ _ _ _ _ _ hh];rfl,by rw[cell_of_row _ _ _ _ _ _ hh];rfl,by rw[cell_of_row _ _ _ _ _ _ hh];rfl,by rw[cell_of_row _ _ _ _ _ _ hh];rfl,h2,k2⟩
theorem Fh{a b:Int}(ha:a<=19342822337206103650074625):oE [a,b]=min a b:=by
 have:=dq
 show min (min TP a) b=_
 omega
theorem vY{a b:Int}(ha: -19342822337206103650074625<=a):nD [a,b]=max a b:=by
 have:=dq
 show max (max (-TP) a) b=_
 omega
set_option maxHeartbeats 2000000 in
theorem mB{w:World}{e:Bool}{D M E D' M' E':Int}{s s':Bool}{e2:Bool}{G P Q G' P' Q':Int}{g g':Bool}{x y z:Sp}(hM:LQ M)(hM':LQ M')(hP:LQ P)(hP':LQ P')(hx:iJ e D s M E D' s' M' E'=x)(hy:iJ e2 G g P Q G' g' P' Q'=y)(hr:bK x y=z):Calls prog 39 #[VI e D s M E D' s' M' E',VI e2 G g P Q G' g' P' Q'] w (PV w z):=by
 delta VI
 have HX:=ie hx;have HY:=ie hy;clear hx hy
 go_enter func39,ntmps39
 go_upto_region 1 with fail
 generalize N:((w.alloc _).alloc _).alloc _=w1 at *;obtain⟨X2,p,a,c⟩:=Bo.en3 N;clear N;have gP:=X2.cell
 go_wp2_with fail
 refine(ja hM hM' HX.out).mono ?_;rintro ee w2 ⟨e1,K1,s1,M1,E1,r,F,t,q,rfl,v1,B⟩;clear gP;refine aF ?_ p a c B;clear p a c B;intro p a c
 go_upto_region 2 with fail
 have bD:=p.lt;have bH:=a.lt;generalize k:w2.alloc _=w3 at *;obtain⟨j,H⟩:=Bo.nw k;clear k;refine aF ?_ p a c H;clear p a c H;intro p a c;have gS:=p.cell
 go_wp2_with fail
 refine(ja hP hP' HY.out).mono ?_;rintro ee w4 ⟨e2,K2,s2,M2,E2,J,T,L,I,rfl,v2,B⟩;clear gS;refine aF ?_ a j c B;clear a j c B;intro a j c
 go_upto_region 3 with fail
 have fH:=a.lt;have bN:=j.lt;generalize k:w4.alloc _=w5 at *;obtain⟨X,H⟩:=Bo.nw k;clear k;refine aF ?_ a j c H;clear a j c H;intro a j c;clear HX HY hM hM' hP hP'
 rcases x with _ | ⟨V,W⟩
 ·obtain⟨rfl,y1,hA⟩:=v1
  obtain rfl:y=z:=hr
  have m:=a.cell;have d:=a.frozen;have h:=j.cell;have i:=X.cell;go_wp2;clear m d h i;have o:=ac.t9 a e2 K2 s2 M2 E2 J T L I
  exact bq (by simp[results,results39,go_sem,o.box.cell]) rfl ⟨_,_,_,_,_,_,_,_,_,rfl,v2,(o.below c.out (by omega))⟩
 ·obtain⟨rfl,a1,Y,o1,S,R⟩:=v1
  rcases y with _ | ⟨Z,yb⟩
  ·obtain⟨rfl,y2,hB⟩:=v2
   obtain rfl:some (V,W)=z:=hr
   have m:=a.cell;have d:=a.frozen;have h:=j.cell;have i:=X.cell;go_wp2;clear m d h i;have o:=ac.t9 a false K1 s1 M1 E1 r F t q
   exact bq (v:= .agg #[.bool false,.int .i64 K1,.bool s1,.int .u64 M1,.int .i64 E1,.int .i64 r,.bool F,.int .u64 t,.int .i64 q]) (by simp[results,results39,go_sem,o.box.cell]) rfl ⟨_,_,_,_,_,_,_,_,_,rfl,⟨rfl,a1,Y,o1,S,R⟩,(o.below c.out (by omega))⟩
  ·obtain⟨rfl,a2,b2,o2,gB,fP⟩:=v2
   have hu:oE [V,Z]=min V Z:=Fh a1.bd.2
   have hl:nD [W,yb]=max W yb:=vY Y.bd.1
   obtain⟨u,C⟩:∃u,min V Z=u:=⟨_,rfl⟩;obtain⟨l,A⟩:∃l,max W yb=l:=⟨_,rfl⟩
   have O:eH u l=z:=by rw[<-C,<-A];exact hr
   rw[C]at hu;rw[A]at hl;have HU:=ie hu;have HL:=ie hl;have HR:=ie O;clear hu hl C A hr O o1 S R o2 gB fP;have h:=j.cell;have i:=X.cell
   go_upto_region 7 with fail
   clear h i;refine bF [0,1,2,3,4,5,6,7,8,9,10,11,12] [18,19,20,21,22,23,24,25,26,27,28,29,30,0] [[],[0],[],[2],[1,3],[4],[],[6],[],[8],[7,9],[10],[5,11],[]] 14 1 [Jo.qp w2.heap.size 1,Jo.q4 K1 s1 M1 E1,Jo.qp w4.heap.size 1,Jo.q4 K2 s2 M2 E2,Jo.Fact.nl 2 [V,Z],Jo.Fact.num u,Jo.qp w2.heap.size 5,Jo.q4 r F t q,Jo.qp w4.heap.size 5,Jo.q4 J T L I,Jo.Fact.nl 2 [W,yb],Jo.Fact.num l,Jo.Fact.iv z,Jo.Fact.any] ?_ ?_
   ·iterate 4 (refine jm ?_ ?_;rotate_left)
    refine jm ?_ ?_
    ·rintro U n _ rfl _ rfl K f;go_simp;exact f.out _ _ ⟨_,2,rfl,Nl.lit2 rfl a1.top a2.top a1.rk a2.rk⟩ (af _ _)
    refine jm ?_ ?_
    ·rintro U n _ ⟨A4,c4,rfl,h4⟩ K f;go_simp;exact Jo.n1 (I3 h4 HU.out) f.out
    iterate 4 (refine jm ?_ ?_;rotate_left)
    refine jm ?_ ?_
    ·rintro U n _ rfl _ rfl K f;go_simp;exact f.out _ _ ⟨_,2,rfl,Nl.lit2 rfl Y.top b2.top Y.rk b2.rk⟩ (af _ _)
    refine jm ?_ ?_
    ·rintro U n _ ⟨A5,c5,rfl,h5⟩ K f;go_simp;exact Jo.n1 (Kj h5 HL.out) f.out
    refine jm ?_ ?_
    ·rintro U n _ ⟨K3,s3,M3,E3,rfl,q3⟩ _ ⟨K4,s4,M4,E4,rfl,q4⟩ K f;go_simp;exact Jo.v1 (pd q3.top q4.top q3.rk q4.rk HR.out) f.out
    exact jo
    all_goals (rintro U n;(repeat rintro _ rfl);intro K f;have h:=(j.b n).cell;have i:=(X.b n).cell;go_simp;exact f.out _ _ rfl (br _ _))
   rintro w8 n _ _ _ rfl _ _ _ rfl _ ⟨A4,c4,rfl,_⟩ _ ⟨K3,s3,M3,E3,rfl,q3⟩ _ _ _ rfl _ _ _ rfl _ ⟨A5,c5,rfl,_⟩ _ ⟨K4,s4,M4,E4,rfl,q4⟩ _ ⟨e5,K5,s5,M5,E5,bB,gO,bC,bA,rfl,v5⟩ -;simp only[Jo.z];replace a:=a.b n;replace c:=ak c n;have m:=a.cell;have d:=a.frozen
   refine jn 13 fun K f=>?_
   go_simp;refine f.out _ _ ?_;clear f K m d;have o:=ac.t9 a e5 K5 s5 M5 E5 bB gO bC bA;refine jd ?_;go_wp2;exact bq (by simp[results,results39,go_sem,o.box.cell]) rfl ⟨_,_,_,_,_,_,_,_,_,rfl,v5,(o.below c.out (by omega))⟩
end Go.Proofs.YteigedaefgmojaaGreatDoor
namespace Go.Proofs.YteigedaefgmojaaGreatDoor
open Go.Proofs.Tryz
open Go Go.RowKit
set_option linter.unusedVariables false
theorem AE{x m c:Int}(hm:max x (-x)=m)(h:ag m (al 1073741824)=c):decide (0<=c)=!(gG x):=by
 subst hm;have t:=J5
 unfold gG
 rw[<-h]
 by_cases g: -al 1073741824 < x/\x < al 1073741824
 ·rw[dt g,av (show max x (-x) < al 1073741824 by omega)]
  rfl
 ·rw[df g]
  rcases aU (max x (-x)) (al 1073741824)with ⟨a,b⟩ | ⟨a,b⟩ | ⟨a,b⟩
  ·omega
  ·rw[b];rfl
  ·rw[b];rfl
theorem Fj{x:Int}(ha: -19342822337206103650074625<=x):nD [x,-x]=max x (-x):=vY ha
theorem Ey{D M E x:Int}{s:Bool}(hM:LQ M)(hx:rk D s M E=x)(hb:gG x=true):
  ∃N F,(jG D s M E).1=N/\(jG D s M E).2=F/\mk N F=(N,F)/\vr x=N*2^(F+KK).toNat/\N.natAbs < 2^64/\ -2900000<=F/\F<=2900000:=by
 have zero:∀N:Int,N=0->vr 0=N*2^((0:Int)+KK).toNat:=fun N e=>by rw[e,Int.zero_mul];rfl
 by_cases h:au D s M E
 ·have q:=eD hM h;rw[hx]at q
  rcases vF q with⟨rfl,rfl⟩ | rfl | rfl
  ·obtain⟨_,rfl,rfl,rfl⟩:=q.uniq Fq.nought;exact⟨0,0,by decide,by decide,dg 0,zero 0 rfl,by decide,by decide,by decide⟩
  ·obtain⟨N,F,_,a,b,f,d,c,g1,g2,_⟩:=vD q;exact⟨N,F,a,b,f,d,c,g1,g2⟩
  ·rw[(vE q).1]at hb
   cases hb
 ·have e:jG D s M E=(0,0):=by
   unfold jG mt
   rw[df h]
   rfl
  rw[fI h]at hx;subst hx;exact⟨0,0,by rw[e],by rw[e],dg 0,zero 0 rfl,by decide,by decide,by decide⟩
theorem AF{N F P Q x:Int}(nf:mk N F=(N,F))(hv:vr x=N*2^(F+KK).toNat)(h64:N.natAbs < 2^64)(h1: -2900000<=F)(h2:F<=2900000)(hb:gG x=true)
  (hP:(Ii (mk N F) 192).1=P) (hQ:(Ii (mk N F) 192).2=Q):sD (mk P Q).1 (mk P Q).2=dC x:=by
 have a:=om nf (Nat.lt_trans h64 (by decide)) h1 h2
 have e:mv N F 192=mk N (F+192):=by
  unfold mv
  rw[if_neg (by omega),nf]
 rw[nf]at hP hQ
 have e2:mk P Q=(P,Q):=by
  have:=fJ N (F+192)
  rw[<-hP,<-hQ];exact this
 rw[e2,eZ hb,hv,<-a,e,<-hP,<-hQ]
 rfl
end Go.Proofs.YteigedaefgmojaaGreatDoor
namespace Go.Proofs.YteigedaefgmojaaGreatDoor
open Go.Proofs.Tryz
set_option maxHeartbeats 1000000
open Go.RowKit
set_option linter.unusedVariables false
theorem FY{q d d':Nat}(h:d=0↔d'=0):gD q d=gD q d':=by
 unfold gD
 by_cases c:d=0
 ·rw[if_pos c,if_pos (h.1 c)]
 ·rw[if_neg c,if_neg (fun e=>c (h.2 e))]
theorem wP (q d:Nat):gD q d<=2*q+1:=by
 unfold gD
 split <;> omega
theorem mD{a k:Nat}(h0:0 < a)(h:k < ae a):2^k<=a:=by
 have h1:=blen_le (n:=a) (by omega);exact Nat.le_trans (Nat.pow_le_pow_right (by decide) (by omega)) h1
theorem Fw{α β k:Nat}{e:Int}(hα:0 < α)(hβ:0 < β)(hk:(ae β:Int)-(ae α:Int)+64=(k:Int))(ha:ae α<=112000)(hb:ae β<=112000)(e1: -2200000<=e)(e2:e<=2200000)(σ up:Bool):
  fQ up (aj σ ((α:Int)*2^(e+KK).toNat)) (β:Int) (eI up (mk (aj σ ((gD (α*2^k/β) (α*2^k%β):Nat):Int)) (e-k-1)).1 (mk (aj σ ((gD (α*2^k/β) (α*2^k%β):Nat):Int)) (e-k-1)).2):=by
 obtain⟨κ,b⟩:∃κ:Nat,κ=500000:=⟨_,rfl⟩
 have la:0 < ae α:=by
  rcases Nat.eq_zero_or_pos (ae α)with c | c
  ·have:=dZ α
   rw[c]at this
   omega
  ·exact c
 have hq:9223372036854775808<=α*2^k/β:=by
  rw[Nat.le_div_iff_mul_le hβ];have d:=dZ β
  have l2:2^63*β<=2^63*2^ae β:=Nat.mul_le_mul_left _ (Nat.le_of_lt d)
  have f:=mD (k:=ae α-1) hα (by omega)
  have a:2^(ae α-1)*2^k<=α*2^k:=Nat.mul_le_mul_right _ f
  rw[<-Nat.pow_add]at l2 a
  rw[show ae α-1+k=63+ae β by omega]at a
  omega
 have hs:gD (α*2^k/β) (α*2^k%β) < 2^κ:=by
  have i:α*2^k/β<=α*2^k:=Nat.div_le_self _ _
  have g:α*2^k < 2^ae α*2^k:=Nat.mul_lt_mul_of_pos_right (dZ α) (Nat.pow_pos (by decide))
  rw[<-Nat.pow_add]at g;have j:=wP (α*2^k/β) (α*2^k%β)
  have h:2^(ae α+k+1)<=2^κ:=Nat.pow_le_pow_right (by decide) (by omega)
  rw[Nat.pow_succ]at h
  omega
 rw[pI]
 exact pQ (mU (up !=σ) hβ (fun _=>hq) b hs (by omega) (by omega))
theorem Bz{α β k:Nat}:α%(β*2^k)=0↔α/2^k*2^k=α/\α/2^k%β=0:=by
 have hp:0 < 2^k:=Nat.pow_pos (by decide)
 constructor
 ·intro h
  obtain⟨t,ht⟩:=Nat.dvd_of_mod_eq_zero h
  have e:α/2^k=β*t:=by
   rw[ht,Nat.mul_right_comm,Nat.mul_div_cancel _ hp]
  rw[e];refine⟨?_,Nat.mul_mod_right _ _⟩;rw[ht,Nat.mul_right_comm]
 ·rintro ⟨a,b⟩;obtain⟨t,ht⟩:=Nat.dvd_of_mod_eq_zero b;rw[<-a,ht,Nat.mul_right_comm];exact Nat.mul_mod_right _ _
theorem Fv{α β k d:Nat}{e:Int}(hα:0 < α)(hβ:0 < β)(hk:(ae β:Int)-(ae α:Int)+64= -(k:Int))(ha:ae α<=112000)(e1: -2200000<=e)(e2:e<=2200000)(hd:d=0↔(α/2^k*2^k=α/\α/2^k%β=0))(σ up:Bool):
  fQ up (aj σ ((α:Int)*2^(e+KK).toNat)) (β:Int) (eI up (mk (aj σ ((gD (α/2^k/β) d:Nat):Int)) (e+k-1)).1 (mk (aj σ ((gD (α/2^k/β) d:Nat):Int)) (e+k-1)).2):=by
 have c:=dT;obtain⟨κ,f⟩:∃κ:Nat,κ=500000:=⟨_,rfl⟩
 have hp:0 < 2^k:=Nat.pow_pos (by decide)
 have a:0 < β*2^k:=Nat.mul_pos hβ hp
 have b:gD (α/2^k/β) d=gD (α/ (β*2^k)) (α%(β*2^k)):=by
  rw[Nat.div_div_eq_div_mul,Nat.mul_comm (2^k) β];exact FY (hd.trans Bz.symm)
 rw[b]
 have hq:9223372036854775808<=α/ (β*2^k):=by
  rw[Nat.le_div_iff_mul_le a];have g:=dZ β
  have l2:2^63*(β*2^k)<=2^63*(2^ae β*2^k):=Nat.mul_le_mul_left _ (Nat.mul_le_mul_right _ (Nat.le_of_lt g))
  have i:=mD (k:=ae α-1) hα (by omega);rw[<-Nat.pow_add,<-Nat.pow_add]at l2
  rw[show ae α-1=63+(ae β+k) by omega]at i
  omega
 have hs:gD (α/ (β*2^k)) (α%(β*2^k)) < 2^κ:=by
  have l:α/ (β*2^k)<=α:=Nat.div_le_self _ _
  have m:=dZ α;have o:=wP (α/ (β*2^k)) (α%(β*2^k))
  have j:2^(ae α+1)<=2^κ:=Nat.pow_le_pow_right (by decide) (by omega)
  rw[Nat.pow_succ]at j
  omega
 have h:=mU (α:=α) (β:=β*2^k) (e:=e+k) (n:=0) (up !=σ) a (fun _=>by rw[Nat.pow_zero,Nat.mul_one];exact hq) f (by rw[Nat.pow_zero,Nat.mul_one];exact hs) (by omega) (by omega)
 rw[Nat.pow_zero,Nat.mul_one,show e+(k:Int)-((0:Nat):Int)-1=e+k-1 by omega]at h
 rw[pI];refine pQ (h.cross (by omega) (by omega) ?_)
 have e3:(e+(k:Int)+(KK:Int)).toNat=(e+(KK:Int)).toNat+k:=by omega
 rw[e3,Int.pow_add]
 push_cast
 generalize (2:Int)^(e+(KK:Int)).toNat=U;generalize (2:Int)^k=V;rw[Int.mul_assoc,Int.mul_assoc,Int.mul_assoc,Int.mul_comm V (β:Int)]
set_option linter.unusedSimpArgs false
set_option maxRecDepth 100000
def Pk (w:World)(A:Option Addr)(n c:Nat)(t:Bool)(x:Int)(P:Bool->Bool->Int->Prop):Prop:=
 ∃q d:Nat,Nm w A n c q/\n<=20000/\decide (d=0)=t/\ -3000000<=x/\x<=3000000/\∀σ up,P σ up (eI up (mk (aj σ ((gD q d:Nat):Int)) (x-1)).1 (mk (aj σ ((gD q d:Nat):Int)) (x-1)).2)
theorem Pk.below{w w':World}{A:Option Addr}{n c:Nat}{t:Bool}{x:Int}{P:Bool->Bool->Int->Prop}(h:Pk w A n c t x P)(b:Below w.heap.size w w'):Pk w' A n c t x P:=by
 obtain⟨q,d,h1,h2⟩:=h;exact⟨q,d,h1.below b,h2⟩
abbrev Pk.b:= @Pk.below
instance {w w':World} {A:Option Addr} {n c:Nat} {t:Bool} {x:Int} {P:Bool->Bool->Int->Prop}:Mv (Pk w A n c t x P) w w' (Pk w' A n c t x P):=⟨fun h b=>h.below b⟩
def KX (w:World)(P:Bool->Bool->Int->Prop)(e:Ending)(w':World):Prop:=∃A n c t x,e= .returned (.agg #[.slice A n c,.bool t,.int .i64 x])/\Pk w' A n c t x P/\Below w.heap.size w w'
def Jo.Fact.pk (P:Bool->Bool->Int->Prop):Jo.Fact:=⟨fun v w=>∃A n c t x,v= .agg #[.slice A n c,.bool t,.int .i64 x]/\Pk w A n c t x P,fun v w w' h b=>by
 obtain⟨A,n,c,t,x,e,p⟩:=h;exact⟨A,n,c,t,x,e,p.below b⟩⟩
def Kp (w:World)(Q:Nat)(t:Bool)(x:Int)(e:Ending)(w':World):Prop:=∃A n c,e= .returned (.agg #[.slice A n c,.bool t,.int .i64 x])/\Nm w' A n c Q/\n<=20000/\Below w.heap.size w w'
def MV (α:Nat)(z:Int)(T:Nat)(t:Bool):Prop:=∀(w:World) (A:Option Addr) (n c:Nat),Rd w A n c α->n<=8000->Calls prog 234 #[.slice A n c,.int .i64 z] w (Kw w 15000 T t)
theorem mR{w:World}{A B:Option Addr}{n c m d α β T Q R:Nat}{La Lb z e x:Int}(ha:Rd w A n c α)(hb:Rd w B m d β)(hn:n<=8000)(hβ:β≠0)(hla:((ae α:Nat):Int)=La)(hlb:((ae β:Nat):Int)=Lb)(hz:Lb-La+64=z)(z1: -200000<=z)(z2:z<=200000)(hx:e-z=x)(x1: -3000000<=x)(x2:x<=2097152)
  (hm:MV α z T true) (hQ:T/β=Q) (hR:T%β=R) (h0:R=0):Calls prog 203 #[.slice A n c,.slice B m d,.int .i64 e] w (Kp w Q true x):=by
 have L:=ie hm;have j:=ie hla;have k:=ie hlb;have M:=ie hQ;have p:=ie hR;have H:=ie h0;have i:=ie hβ
 have e0:Lb-La=z-64:=by omega
 have q:Hid (IntKind.i64.wrap (Lb-La)=z-64):=ie (by rw[e0];exact IntWalk.i64_in _ (by omega))
 have r:Hid (wrap64 z=z):=ie (IntWalk.wrap64_in _ (by omega))
 have N:Hid (wrap64 x=x):=ie (IntWalk.wrap64_in _ (by omega))
 have t:Hid (IntKind.i64.wrap (e-z)=x):=ie (by rw[hx];exact IntWalk.i64_in _ (by omega))
 have S:z<=2097152:=by omega
 have o:Hid (min z 2097152=z):=ie (by omega)
 have l:Hid (min x 2097152=x):=ie (by omega)
 clear hm hla hlb hz e0 hx hQ hR h0 hβ z1 z2 x1
 go_enter func203,ntmps203
 go_upto_region 1 with fail
 generalize g:w.alloc _=w1 at *;obtain⟨f,a⟩:=Bo.en1 g;replace ha:=ha.below a.out;replace hb:=hb.below a.out;clear g
 go_wp2_with fail
 refine(jg hb k.out).mono ?_;rintro y w2 ⟨rfl,B⟩;refine aR ?_ f ha hb a B;clear f ha hb a B;intro f ha hb a
 go_wp2_with fail
 refine(jg ha j.out).mono ?_;rintro y w3 ⟨rfl,B⟩;refine aR ?_ f ha hb a B;clear f ha hb a B;intro f ha hb a;have D:=q.out;have E:=r.out;have C:=o.out
 go_wp2_with fail
 refine(L.out _ _ _ _ ha hn).mono ?_;rintro y w4 ⟨A4,n4,c4,rfl,I,X,B⟩;refine aF ?_ f hb a B;clear f hb a B;intro f hb a;clear D E C
 go_wp2_with fail
 refine(DN I.rd hb (by omega) i.out M.out p.out).mono ?_;rintro y w5 ⟨A5,n5,c5,V,U,W,rfl,F,J,Y,Z,B⟩;replace f:=f.b B;replace a:=ak a B;clear B;clear hb I
 obtain rfl:U=0:=by have:=J.pos;have:=H.out;omega
 clear J H;have P:=t.out;have O:=l.out;have G:=f.cell;have h:=f.frozen;go_wp2;clear G h;have u:=ac.mk3 f (.slice A5 n5 c5) (.bool true) (.int .i64 x);replace F:=F.s u;exact bq (v:= .agg #[.slice A5 n5 c5,.bool true,.int .i64 x]) (by simp[results,results203,go_sem,u.box.cell]) rfl ⟨A5,n5,c5,rfl,F,by omega,(u.below a.out (by omega))⟩
theorem mS{w:World}{A B:Option Addr}{n c m d α β T Q R:Nat}{La Lb z e x:Int}(ha:Rd w A n c α)(hb:Rd w B m d β)(hn:n<=8000)(hβ:β≠0)(hla:((ae α:Nat):Int)=La)(hlb:((ae β:Nat):Int)=Lb)(hz:Lb-La+64=z)(z1: -200000<=z)(z2:z<=200000)(hx:e-z=x)(x1: -3000000<=x)(x2:x<=2097152)
  (hm:MV α z T true) (hQ:T/β=Q) (hR:T%β=R) (h0:R≠0):Calls prog 203 #[.slice A n c,.slice B m d,.int .i64 e] w (Kp w Q false x):=by
 have N:=ie hm;have k:=ie hla;have l:=ie hlb;have O:=ie hQ;have q:=ie hR;have i:=ie h0;have j:=ie hβ
 have e0:Lb-La=z-64:=by omega
 have r:Hid (IntKind.i64.wrap (Lb-La)=z-64):=ie (by rw[e0];exact IntWalk.i64_in _ (by omega))
 have t:Hid (wrap64 z=z):=ie (IntWalk.wrap64_in _ (by omega))
 have P:Hid (wrap64 x=x):=ie (IntWalk.wrap64_in _ (by omega))
 have u:Hid (IntKind.i64.wrap (e-z)=x):=ie (by rw[hx];exact IntWalk.i64_in _ (by omega))
 have W:z<=2097152:=by omega
 have p:Hid (min z 2097152=z):=ie (by omega)
 have o:Hid (min x 2097152=x):=ie (by omega)
 clear hm hla hlb hz e0 hx hQ hR h0 hβ z1 z2 x1
 go_enter func203,ntmps203
 go_upto_region 1 with fail
 generalize g:w.alloc _=w1 at *;obtain⟨f,a⟩:=Bo.en1 g;replace ha:=ha.below a.out;replace hb:=hb.below a.out;clear g
 go_wp2_with fail
 refine(jg hb l.out).mono ?_;rintro C w2 ⟨rfl,B⟩;refine aR ?_ f ha hb a B;clear f ha hb a B;intro f ha hb a
 go_wp2_with fail
 refine(jg ha k.out).mono ?_;rintro C w3 ⟨rfl,B⟩;refine aR ?_ f ha hb a B;clear f ha hb a B;intro f ha hb a;have E:=r.out;have F:=t.out;have D:=p.out
 go_wp2_with fail
 refine(N.out _ _ _ _ ha hn).mono ?_;rintro C w4 ⟨A4,n4,c4,rfl,M,Z,B⟩;refine aF ?_ f hb a B;clear f hb a B;intro f hb a;clear E F D
 go_wp2_with fail
 refine(DN M.rd hb (by omega) j.out O.out q.out).mono ?_;rintro C w5 ⟨A5,n5,c5,X,G,Y,rfl,H,I,k5,l5,B⟩;replace f:=f.b B;replace a:=ak a B;clear B;clear hb M
 have U:((G:Int)==0)=false:=by
  have:=I.pos
  have:=i.out
  have:(G:Int)≠0:=by omega
  simpa using this
 have L:¬G=0:=by have:=I.pos;have:=i.out;omega
 clear I i;have V:=u.out;have S:=o.out;have J:=f.cell;have h:=f.frozen;go_wp2;clear J h;have y:=ac.mk3 f (.slice A5 n5 c5) (.bool false) (.int .i64 x);replace H:=H.s y;exact bq (v:= .agg #[.slice A5 n5 c5,.bool false,.int .i64 x]) (by simp[results,results203,go_sem,y.box.cell]) rfl ⟨A5,n5,c5,rfl,H,by omega,(y.below a.out (by omega))⟩
theorem tr{w:World}{A B:Option Addr}{n c m d α β T Q R:Nat}{La Lb z e x:Int}(ha:Rd w A n c α)(hb:Rd w B m d β)(hn:n<=8000)(hβ:β≠0)(hla:((ae α:Nat):Int)=La)(hlb:((ae β:Nat):Int)=Lb)(hz:Lb-La+64=z)(z1: -200000<=z)(z2:z<=200000)(hx:e-z=x)(x1: -3000000<=x)(x2:x<=2097152)
  (hm:MV α z T false) (hQ:T/β=Q) (hR:T%β=R) (h0:True):Calls prog 203 #[.slice A n c,.slice B m d,.int .i64 e] w (Kp w Q false x):=by
 have J:=ie hm;have j:=ie hla;have k:=ie hlb;have L:=ie hQ;have p:=ie hR;have I:=ie h0;have i:=ie hβ
 have e0:Lb-La=z-64:=by omega
 have q:Hid (IntKind.i64.wrap (Lb-La)=z-64):=ie (by rw[e0];exact IntWalk.i64_in _ (by omega))
 have r:Hid (wrap64 z=z):=ie (IntWalk.wrap64_in _ (by omega))
 have M:Hid (wrap64 x=x):=ie (IntWalk.wrap64_in _ (by omega))
 have t:Hid (IntKind.i64.wrap (e-z)=x):=ie (by rw[hx];exact IntWalk.i64_in _ (by omega))
 have P:z<=2097152:=by omega
 have o:Hid (min z 2097152=z):=ie (by omega)
 have l:Hid (min x 2097152=x):=ie (by omega)
 clear hm hla hlb hz e0 hx hQ hR h0 hβ z1 z2 x1
 go_enter func203,ntmps203
 go_upto_region 1 with fail
 generalize g:w.alloc _=w1 at *;obtain⟨f,a⟩:=Bo.en1 g;replace ha:=ha.below a.out;replace hb:=hb.below a.out;clear g
 go_wp2_with fail
 refine(jg hb k.out).mono ?_;rintro y w2 ⟨rfl,B⟩;refine aR ?_ f ha hb a B;clear f ha hb a B;intro f ha hb a
 go_wp2_with fail
 refine(jg ha j.out).mono ?_;rintro y w3 ⟨rfl,B⟩;refine aR ?_ f ha hb a B;clear f ha hb a B;intro f ha hb a;have D:=q.out;have E:=r.out;have C:=o.out
 go_wp2_with fail
 refine(J.out _ _ _ _ ha hn).mono ?_;rintro y w4 ⟨A4,n4,c4,rfl,H,W,B⟩;refine aF ?_ f hb a B;clear f hb a B;intro f hb a;clear D E C
 go_wp2_with fail
 refine(DN H.rd hb (by omega) i.out L.out p.out).mono ?_;rintro y w5 ⟨A5,n5,c5,U,Z,V,rfl,F,S,X,Y,B⟩;replace f:=f.b B;replace a:=ak a B;clear B;clear hb H;clear S I;have O:=t.out;have N:=l.out;have G:=f.cell;have h:=f.frozen;go_wp2;clear G h;have u:=ac.mk3 f (.slice A5 n5 c5) (.bool false) (.int .i64 x)
 replace F:=F.s u;exact bq (v:= .agg #[.slice A5 n5 c5,.bool false,.int .i64 x]) (by simp[results,results203,go_sem,u.box.cell]) rfl ⟨A5,n5,c5,rfl,F,by omega,(u.below a.out (by omega))⟩
theorem BS{α k:Nat}(hk:k<=200000):MV α (k:Int) (α*2^k) true:=fun w A n c h hn=>yP h hn hk rfl
theorem BQ{α k:Nat}{z:Int}(h0:0 < k)(hk:k<=200000)(hz: -z=(k:Int)):MV α z (α/2^k) (decide (α/2^k*2^k=α)):=fun w A n c h hn=>by
 refine yO h hn hk h0 hz rfl rfl rfl ?_
 by_cases c:α/2^k*2^k=α
 ·rw[dt c,c,kN]
  rfl
 ·rw[df c]
  have:¬ag ((α/2^k*2^k:Nat):Int) (α:Int)=0:=fun e=>c (by have:=dO.1 e;omega)
  simpa using this
theorem rq{w:World}{A B:Option Addr}{n c m d α β:Nat}{e:Int}{P:Bool->Bool->Int->Prop}(ha:Rd w A n c α)(hb:Rd w B m d β)(hn:n<=3500)(hm:m<=3500)(hα:0 < α)(hβ:0 < β)(e1: -2200000<=e)(e2:e<=2200000)(e3:e-((ae β:Int)-(ae α:Int)+64)<=2097152)
  (hP:∀σ up r,fQ up (aj σ ((α:Int)*2^(e+(KK:Int)).toNat)) (β:Int) r->P σ up r):Calls prog 203 #[.slice A n c,.slice B m d,.int .i64 e] w (KX w P):=by
 have q:=ha.blen_le;have s:=hb.blen_le;obtain⟨z,hz⟩:∃z:Int,(ae β:Int)-(ae α:Int)+64=z:=⟨_,rfl⟩;rw[hz]at e3
 have a:β≠0:=by omega
 have fin:∀{Q D:Nat} {t b:Bool},b=t->decide (D=0)=t->(∀σ up,fQ up (aj σ ((α:Int)*2^(e+(KK:Int)).toNat)) (β:Int) (eI up (mk (aj σ ((gD Q D:Nat):Int)) (e-z-1)).1 (mk (aj σ ((gD Q D:Nat):Int)) (e-z-1)).2))->∀f w',Kp w Q b (e-z) f w'->KX w P f w':=by
  rintro Q D t b rfl ht hs f w' ⟨l,u,o,he,i,j,g⟩
  exact⟨l,u,o,b,e-z,he,⟨Q,D,i,j,ht,by omega,by omega,fun σ up=>hP σ up _ (hs σ up)⟩,g⟩
 rcases Int.lt_or_le z 0 with c0 | c0
 ·obtain⟨k,j⟩:∃k:Nat,z= -(k:Int):=⟨z.natAbs,by omega⟩
  have mv:=BQ (α:=α) (k:=k) (z:=z) (by omega) (by omega) (by omega)
  have hs:=fun {D} (hd:D=0↔(α/2^k*2^k=α/\α/2^k%β=0)) (σ up:Bool)=>Fv (e:=e) (d:=D) hα hβ (by omega) (by omega) e1 e2 hd σ up
  have p:e+(k:Int)-1=e-z-1:=by omega
  rw[p]at hs
  by_cases h1:α/2^k*2^k=α
  ·rw[dt h1]at mv
   by_cases h2:α/2^k%β=0
   ·exact(mR ha hb (by omega) a rfl rfl hz (by omega) (by omega) rfl (by omega) e3 mv rfl rfl h2).mono (fin (D:=0) rfl rfl (hs ⟨fun _=>⟨h1,h2⟩,fun _=>rfl⟩))
   ·exact(mS ha hb (by omega) a rfl rfl hz (by omega) (by omega) rfl (by omega) e3 mv rfl rfl h2).mono (fin (D:=1) rfl rfl (hs ⟨fun h=>absurd h (by decide),fun h=>absurd h.2 h2⟩))
  ·rw[df h1]at mv
   exact(tr ha hb (by omega) a rfl rfl hz (by omega) (by omega) rfl (by omega) e3 mv rfl rfl trivial).mono (fin (D:=1) rfl rfl (hs ⟨fun h=>absurd h (by decide),fun h=>absurd h.1 h1⟩))
 ·obtain⟨k,rfl⟩:∃k:Nat,z=(k:Int):=⟨z.toNat,by omega⟩
  have mv:=BS (α:=α) (k:=k) (by omega);have hs:=Fw (e:=e) hα hβ hz (by omega) (by omega) e1 e2
  by_cases h2:α*2^k%β=0
  ·exact(mR ha hb (by omega) a rfl rfl hz (by omega) (by omega) rfl (by omega) e3 mv rfl rfl h2).mono (fin rfl (dt h2) hs)
  ·exact(mS ha hb (by omega) a rfl rfl hz (by omega) (by omega) rfl (by omega) e3 mv rfl rfl h2).mono (fin rfl (df h2) hs)
theorem yW (q:Nat):gD q 0=q*2^1:=by
 unfold gD
 rw[if_pos rfl]
 omega
theorem Dv{q r:Nat}(h:r≠0):gD q r=q*2^1+1:=by
 unfold gD
 rw[if_neg h]
 omega
theorem pP (s:Bool)(a:Nat):sg s a=aj s (a:Int):=by
 cases s
 ·rw[kz,aK]
 ·rw[wJ,aN]
theorem BB (W:World):Rd (W.alloc (.cells #[.int .u32 1] 103)) (some ⟨W.heap.size,0,none⟩) 1 1 1:=
 ⟨_,[1],(du.new W [1]).all (aV.cons (by decide) aV.nil) (by simp) (Nat.le_refl _),by decide⟩
theorem CU{w:World}{A:Option Addr}{n c q a0 a:Nat}{x r:Int}{σ up:Bool}(hT:dL w)(h:Nm w A n c q)(hn:n<=20000)(h0:q*2^1=a0)(h1:a0=a)(x1: -3000000<=x)(x2:x<=3000000)(hr:eI up (mk (sg σ a) (x-1)).1 (mk (sg σ a) (x-1)).2=r):Calls prog 205 #[.agg #[.slice A n c,.bool true,.int .i64 x],.bool σ,.bool up] w (PN w r):=by
 have y:=ie h0;have v:=ie h1;have C:=ie hr;have D:=iw (x-1);clear h0 h1 hr x1 x2
 go_enter func205,ntmps205
 go_upto_region 1 with fail
 generalize k:(w.alloc _).alloc _=w1 at *;obtain⟨j,g,f⟩:=Bo.en2 k;replace hT:=hT.below f.out;replace h:=h.below f.out;clear k;have i:=j.cell
 go_wp2_with fail
 refine(wV (s:=1) h.rd (by omega) (by decide) y.out).mono ?_;rintro O T ⟨A2,n2,c2,rfl,p2,P,B⟩;clear i;refine dW ?_ j g hT h f B;clear j g hT h f B;intro j g hT h f;clear h
 obtain rfl:=v.out
 have i:=j.cell
 go_upto_region 4 with fail
 clear i;refine bF [0,1,2,3,4,5,6,7,8] [18,19,20,21,22,23,24,25,26,0] [[],[],[0,1],[],[3],[4],[2,5],[],[6,7],[]] 10 1 [Jo.qb σ,Jo.Fact.eq (.slice A2 n2 c2),Jo.Fact.wn (sg σ a0) 30000,Jo.qp w.heap.size 2,Jo.qi x,Jo.Fact.eq (.int .i64 (x-1)),Jo.Fact.dy (sg σ a0) (x-1) 30000,Jo.qb up,Jo.Fact.num r,Jo.Fact.any] ?_ ?_
 ·iterate 2 (refine jm ?_ ?_;rotate_left)
  refine jm ?_ ?_
  ·rintro l e _ rfl _ rfl K d;go_simp;exact Jo.w1 (kH σ (p2.b e).rd) d.out
  refine jm ?_ ?_;rotate_left
  refine jm ?_ ?_
  ·rintro l e _ rfl K d;have t:=(j.b e).a 2 (.int .i64 x) rfl;go_simp;exact d.out _ _ rfl (br _ _)
  refine jm ?_ ?_
  ·rintro l e _ rfl K d;have G:=D.out;go_simp
   exact d.out _ _ (by first | rfl | (show Value.int _ _=Value.int _ _;rw[G])) (br _ _)
  refine jm ?_ ?_
  ·rintro l e _ ⟨s7,A7,n7,c7,rfl,I,H⟩ _ rfl K d;go_simp;exact d.out _ _ ⟨s7,A7,n7,c7,rfl,I,H⟩ (br _ _)
  refine jm ?_ ?_;rotate_left
  refine jm ?_ ?_
  ·rintro l e _ ⟨S,M,R,N,rfl,J,Q⟩ _ rfl K d;go_simp;exact Jo.n1 (Cd (hT.b e) J.wr (by omega) rfl rfl C.out) d.out
  exact jo
  all_goals (rintro l e;(repeat rintro _ rfl);intro K d;go_simp;exact d.out _ _ rfl (br _ _))
 rintro U e _ rfl _ rfl _ ⟨_,_,_,_,rfl,_⟩ _ _ _ rfl _ rfl _ ⟨_,_,_,_,rfl,_⟩ _ rfl _ ⟨E,s9,F,u,rfl,L⟩ -;simp only[Jo.z];replace g:=g.b e;replace f:=ak f e;have o:=g.cell;have m:=g.frozen
 refine jn 9 fun K d=>?_
 go_simp;refine d.out _ _ ?_;clear d K o m;have p:=ac.t4 g E s9 F u;refine jd ?_;go_wp2;exact bq (by simp[results,results205,go_sem,p.box.cell]) rfl ⟨_,_,_,_,rfl,L,(p.below f.out (by omega))⟩
theorem CV{w:World}{A:Option Addr}{n c q a0 a:Nat}{x r:Int}{σ up:Bool}(hT:dL w)(h:Nm w A n c q)(hn:n<=20000)(h0:q*2^1=a0)(h1:a0+1=a)(x1: -3000000<=x)(x2:x<=3000000)(hr:eI up (mk (sg σ a) (x-1)).1 (mk (sg σ a) (x-1)).2=r):Calls prog 205 #[.agg #[.slice A n c,.bool false,.int .i64 x],.bool σ,.bool up] w (PN w r):=by
 have y:=ie h0;have v:=ie h1;have C:=ie hr;have D:=iw (x-1);clear h0 h1 hr x1 x2
 go_enter func205,ntmps205
 go_upto_region 1 with fail
 generalize k:(w.alloc _).alloc _=w1 at *;obtain⟨j,f,e⟩:=Bo.en2 k;replace hT:=hT.below e.out;replace h:=h.below e.out;clear k;have i:=j.cell
 go_wp2_with fail
 refine(wV (s:=1) h.rd (by omega) (by decide) y.out).mono ?_;rintro G O ⟨A2,n2,c2,rfl,p2,R,B⟩;clear i;refine dW ?_ j f hT h e B;clear j f hT h e B;intro j f hT h e;clear h;have i:=j.cell
 go_wp2_with fail
 refine(J9 (p2.below (af _ _)).rd (BB O) (by omega) (by decide) v.out).mono ?_;rintro G W ⟨A4,n4,c4,rfl,J,S,B⟩;clear i;replace B:=bt (af _ _) B;refine aR ?_ j f hT e B;clear j f hT e B;intro j f hT e;clear p2;have i:=j.cell
 go_upto_region 4 with fail
 clear i;refine bF [0,1,2,3,4,5,6,7,8] [18,19,20,21,22,23,24,25,26,0] [[],[],[0,1],[],[3],[4],[2,5],[],[6,7],[]] 10 1 [Jo.qb σ,Jo.Fact.eq (.slice A4 n4 c4),Jo.Fact.wn (sg σ a) 30000,Jo.qp w.heap.size 2,Jo.qi x,Jo.Fact.eq (.int .i64 (x-1)),Jo.Fact.dy (sg σ a) (x-1) 30000,Jo.qb up,Jo.Fact.num r,Jo.Fact.any] ?_ ?_
 ·iterate 2 (refine jm ?_ ?_;rotate_left)
  refine jm ?_ ?_
  ·rintro l g _ rfl _ rfl K d;go_simp;exact Jo.w1 (kH σ (J.b g).rd) d.out
  refine jm ?_ ?_;rotate_left
  refine jm ?_ ?_
  ·rintro l g _ rfl K d;have t:=(j.b g).a 2 (.int .i64 x) rfl;go_simp;exact d.out _ _ rfl (br _ _)
  refine jm ?_ ?_
  ·rintro l g _ rfl K d;have H:=D.out;go_simp
   exact d.out _ _ (by first | rfl | (show Value.int _ _=Value.int _ _;rw[H])) (br _ _)
  refine jm ?_ ?_
  ·rintro l g _ ⟨s7,A7,n7,c7,rfl,L,I⟩ _ rfl K d;go_simp;exact d.out _ _ ⟨s7,A7,n7,c7,rfl,L,I⟩ (br _ _)
  refine jm ?_ ?_;rotate_left
  refine jm ?_ ?_
  ·rintro l g _ ⟨V,P,U,Q,rfl,M,T⟩ _ rfl K d;go_simp;exact Jo.n1 (Cd (hT.b g) M.wr (by omega) rfl rfl C.out) d.out
  exact jo
  all_goals (rintro l g;(repeat rintro _ rfl);intro K d;go_simp;exact d.out _ _ rfl (br _ _))
 rintro X g _ rfl _ rfl _ ⟨_,_,_,_,rfl,_⟩ _ _ _ rfl _ rfl _ ⟨_,_,_,_,rfl,_⟩ _ rfl _ ⟨E,s9,F,u,rfl,N⟩ -;simp only[Jo.z];replace f:=f.b g;replace e:=ak e g;have o:=f.cell;have m:=f.frozen
 refine jn 9 fun K d=>?_
 go_simp;refine d.out _ _ ?_;clear d K o m;have p:=ac.t4 f E s9 F u;refine jd ?_;go_wp2;exact bq (by simp[results,results205,go_sem,p.box.cell]) rfl ⟨_,_,_,_,rfl,N,(p.below e.out (by omega))⟩
theorem CP{w:World}{A:Option Addr}{n c:Nat}{t σ up:Bool}{x r:Int}{P:Bool->Bool->Int->Prop}(hT:dL w)(h:Pk w A n c t x P)(hr:∀r',P σ up r'->r'=r):Calls prog 205 #[.agg #[.slice A n c,.bool t,.int .i64 x],.bool σ,.bool up] w (PN w r):=by
 obtain⟨q,d,a,f,ht,g,x2,hp⟩:=h;have e:=hr _ (hp σ up);rw[<-pP]at e
 by_cases b:d=0
 ·subst b
  obtain rfl:true=t:=ht
  rw[yW]at e;exact CU hT a f rfl rfl g x2 e
 ·obtain rfl:false=t:=by rw[<-ht];exact(df b).symm
  rw[Dv b]at e;exact CV hT a f rfl rfl g x2 e
end Go.Proofs.YteigedaefgmojaaGreatDoor
namespace Go.Proofs.YteigedaefgmojaaGreatDoor
open Go.Proofs.Tryz
open Go.RowKit
set_option linter.unusedVariables false
set_option linter.unusedSimpArgs false
set_option maxRecDepth 100000
theorem yS{up s t:Bool}{z y r:Int}{α β:Nat}(hz:sg s α=z)(hy:sg t β=y)(hβ:0 < β)(hr:Rq up z y r):
  ∃P:Bool->Bool->Int->Prop,(∀σ up r',fQ up (aj σ ((α:Int)*2^((0:Int)+(KK:Int)).toNat)) (β:Int) r'->P σ up r')/\(∀r',P (s !=t) up r'->r'=r):=by
 refine⟨_,fun _ _ _ h=>h,fun r' h=>?_⟩
 have:=GK hβ h
 rw[<-pP,<-pP,hz,hy]at this;exact this.uniq hr
theorem yT{up:Bool}{y r:Int}(hy:y≠0)(h:Rq up 0 y r):r=0:=by
 have h1:=(fj hy).1 h
 have e:aj (decide (y < 0)) 0*2^KK=(0:Int):=by
  have:aj (decide (y < 0)) (0:Int)=0:=by cases decide (y < 0) <;> rfl
  rw[this,Int.zero_mul]
 rw[e]at h1
 exact h1.uniq (pO hy) (hO (r:=0) (pO hy) (by decide) (by decide) (by rw[show vr 0=0 from rfl,Int.zero_mul]))
set_option maxHeartbeats 2000000 in
theorem EO{w:World}{A B:Option Addr}{n c m d:Nat}{s t up:Bool}{z y r:Int}(hT:dL w)(h:Wr w s A n c z)(k:Wr w t B m d y)(hn:n<=3500)(hm:m<=3500)(hr:Rq up z y r):Calls prog 152 #[.agg #[.bool s,.slice A n c],.agg #[.bool t,.slice B m d],.bool up] w (PN w r):=by
 obtain⟨σ,I⟩:∃σ,ag y 0=σ:=⟨_,rfl⟩;obtain⟨τ,E⟩:∃τ,ag z 0=τ:=⟨_,rfl⟩;have O:=ie I;have J:=ie E
 go_enter func152,ntmps152
 go_upto_region 1 with fail
 generalize H:((w.alloc _).alloc _).alloc _=w1 at *;obtain⟨o,p,f,g⟩:=Bo.en3 H;replace hT:=hT.below g.out;replace h:=h.below g.out;replace k:=k.below g.out;clear H;have D:=p.cell
 go_wp2_with fail
 refine(jN k O.out).mono ?_;rintro R w2 ⟨rfl,B⟩;clear D;refine oG ?_ o p f hT h k g B;clear o p f hT h k g B;intro o p f hT h k g
 by_cases q:y=0
 ·have U:(σ==0)=true:=by rw[<-I,be q];rfl
  subst q;have N:=ie (ky.1 hr).symm;clear h k hT hr I E O J
  go_wp2_with fail
  refine(wy N.out).mono ?_;rintro R w6 ⟨K3,s3,M3,E3,rfl,q3,B⟩;refine aR ?_ o p f g B;clear o p f g B;intro o p f g;have v:=f.cell;have i:=f.frozen;go_wp2;clear v i;have x:=ac.t4 f K3 s3 M3 E3;exact bq (by simp[results,results152,go_sem,x.box.cell]) rfl ⟨_,_,_,_,rfl,q3,(x.below g.out (by omega))⟩
 ·have U:(σ==0)=false:=by
   have:σ≠0:=fun e=>q (dO.1 (I.trans e))
   simpa using this
  clear I O;have C:=o.cell
  go_wp2_with fail
  refine(jN h J.out).mono ?_;rintro R w3 ⟨rfl,B⟩;clear C;refine oG ?_ o p f hT h k g B;clear o p f hT h k g B;intro o p f hT h k g
  by_cases u:z=0
  ·have V:(τ==0)=true:=by rw[<-E,be u];rfl
   subst u
   obtain rfl:=yT q hr
   clear h k hT hr E J;have v:=f.cell;have i:=f.frozen;have C:=o.cell;have D:=p.cell;go_wp2;clear v i C D;have x:=ac.t4 f 0 false 0 0;exact bq (by simp[results,results152,go_sem,x.box.cell]) rfl ⟨_,_,_,_,rfl,Fq.nought,(x.below g.out (by omega))⟩
  ·have V:(τ==0)=false:=by
    have:τ≠0:=fun e=>u (dO.1 (E.trans e))
    simpa using this
   clear E J;obtain⟨α,Y,hz⟩:=h;obtain⟨β,hb,hy⟩:=k
   have α0:0 < α:=by
    rcases Nat.eq_zero_or_pos α with e | e
    ·subst e
     exact absurd (show z=0 by rw[<-hz];cases s <;> rfl) u
    ·exact e
   have β0:0 < β:=by
    rcases Nat.eq_zero_or_pos β with e | e
    ·subst e
     exact absurd (show y=0 by rw[<-hy];cases t <;> rfl) q
    ·exact e
   obtain⟨P,X,G⟩:=yS hz hy β0 hr;have S:=Y.blen_le;have T:=hb.blen_le
   have Q:(0:Int)-((ae β:Int)-(ae α:Int)+64)<=2097152:=by omega
   have L:=ie X;have M:=ie G;clear X G hr hz hy u q S T
   go_upto_region 5 with fail
   refine bF [0,1,2,3,4,5,6,7,8,9,10,11] [19,20,21,22,23,24,25,26,27,28,29,30,0] [[],[0],[],[2],[1,3],[],[5],[],[7],[6,8],[],[4,9,10],[]] 13 1 [Jo.qp w.heap.size 1,Jo.Fact.eq (.slice A n c),Jo.qp (w.heap.size+1) 1,Jo.Fact.eq (.slice B m d),Jo.Fact.pk P,Jo.qp w.heap.size 0,Jo.qb s,Jo.qp (w.heap.size+1) 0,Jo.qb t,Jo.Fact.eq (.bool (s !=t)),Jo.qb up,Jo.Fact.num r,Jo.Fact.any] ?_ ?_
   ·refine jm ?_ ?_;rotate_left
    refine jm ?_ ?_
    ·rintro F j _ rfl K l;have bB:=(o.b j).a 1 (.slice A n c) rfl;go_simp;exact l.out _ _ rfl (br _ _)
    refine jm ?_ ?_;rotate_left
    refine jm ?_ ?_
    ·rintro F j _ rfl K l;have bD:=(p.b j).a 1 (.slice B m d) rfl;go_simp;exact l.out _ _ rfl (br _ _)
    refine jm ?_ ?_
    ·rintro F j _ rfl _ rfl K l;go_simp;refine(rq (Y.b j) (hb.b j) (by omega) (by omega) α0 β0 (by decide) (by decide) Q L.out).mono ?_;rintro R wk ⟨A7,n7,c7,Z,x7,rfl,W,B⟩;exact l.out _ _ ⟨A7,n7,c7,Z,x7,rfl,W⟩ B
    refine jm ?_ ?_;rotate_left
    refine jm ?_ ?_
    ·rintro F j _ rfl K l;have bA:=(o.b j).a 0 (.bool s) rfl;go_simp;exact l.out _ _ rfl (br _ _)
    refine jm ?_ ?_;rotate_left
    refine jm ?_ ?_
    ·rintro F j _ rfl K l;have bC:=(p.b j).a 0 (.bool t) rfl;go_simp;exact l.out _ _ rfl (br _ _)
    iterate 2 (refine jm ?_ ?_;rotate_left)
    refine jm ?_ ?_
    ·rintro F j _ ⟨A7,n7,c7,Z,x7,rfl,W⟩ _ rfl _ rfl K l;go_simp;exact Jo.n1 (CP (hT.b j) W M.out) l.out
    exact jo
    all_goals (rintro F j;(repeat rintro _ rfl);intro K l;go_simp;exact l.out _ _ rfl (br _ _))
   rintro w8 j _ _ _ rfl _ _ _ rfl _ ⟨_,_,_,_,_,rfl,_⟩ _ _ _ rfl _ _ _ rfl _ rfl _ rfl _ ⟨K9,s9,M9,E9,rfl,q9⟩ -;simp only[Jo.z];replace f:=f.b j;replace g:=ak g j;have v:=f.cell;have i:=f.frozen
   refine jn 12 fun K l=>?_
   go_simp;refine l.out _ _ ?_;clear l K v i;have x:=ac.t4 f K9 s9 M9 E9;refine jd ?_;go_wp2;exact bq (by simp[results,results152,go_sem,x.box.cell]) rfl ⟨_,_,_,_,rfl,q9,(x.below g.out (by omega))⟩
theorem Bu{w:World}{A B:Option Addr}{n c m d:Nat}{s t up:Bool}{z y r:Int}(hT:dL w)(h:Wr w s A n c z)(k:Wr w t B m d y)(hn:n<=20)(hm:m<=20)(hr:Rq up z y r):Calls prog 152 #[.agg #[.bool s,.slice A n c],.agg #[.bool t,.slice B m d],.bool up] w (PN w r):=EO hT h k (by omega) (by omega) hr
def I8:Sp->List Int
 | none=>[]
 | some (a,_)=>[a]
def zn:Sp->List Int
 | none=>[]
 | some (_,b)=>[b]
def dV:List Sp->List Int
 | []=>[]
 | x::l=>I8 x ++dV l
def dE:List Sp->List Int
 | []=>[]
 | x::l=>zn x ++dE l
theorem lv:∀(l m:List Sp),dV (l ++m)=dV l ++dV m
 | [],m=>rfl
 | x::l,m=>by
  show I8 x ++dV (l ++m)=(I8 x ++dV l)++dV m
  rw[lv l m,List.append_assoc]
theorem kl:∀(l m:List Sp),dE (l ++m)=dE l ++dE m
 | [],m=>rfl
 | x::l,m=>by
  show zn x ++dE (l ++m)=(zn x ++dE l)++dE m
  rw[kl l m,List.append_assoc]
theorem oz{l:List Sp}{k:Nat}(h:k < l.length):dV (l.take (k+1))=dV (l.take k)++I8 (l.getD k none):=by
 rw[List.take_succ_eq_append_getElem h,lv,List.getD_eq_getElem?_getD,List.getElem?_eq_getElem h];exact congrArg _ (List.append_nil _)
theorem mz{l:List Sp}{k:Nat}(h:k < l.length):dE (l.take (k+1))=dE (l.take k)++zn (l.getD k none):=by
 rw[List.take_succ_eq_append_getElem h,kl,List.getD_eq_getElem?_getD,List.getElem?_eq_getElem h];exact congrArg _ (List.append_nil _)
theorem mE:∀l:List Sp,(dV l).length<=l.length
 | []=>Nat.le_refl _
 | none::l=>Nat.le_succ_of_le (mE l)
 | some (a,b)::l=>Nat.succ_le_succ (mE l)
theorem BG (A B a b:Int):eC (eH A B) (some (a,b))=eH (max A a) (min B b):=by
 by_cases h:A<=B/\A < 19342822337206103650074625/\ -19342822337206103650074625 < B
 ·rw[aI h.1 h.2.1 h.2.2]
  rfl
 ·rw[dx h,dx (fun c=>h (by omega))]
  rfl
theorem oC:∀(l:List Sp) (A B:Int),(dV l).length=l.length->l.foldl eC (eH A B)=eH ((dV l).foldl max A) ((dE l).foldl min B)
 | [],A,B,_=>rfl
 | none::l,A,B,h=>by
  have h1:(dV l).length=l.length+1:=h
  have h2:=mE l
  omega
 | some (a,b)::l,A,B,h=>by
  show l.foldl eC (eC (eH A B) (some (a,b)))=_
  rw[BG];exact oC l (max A a) (min B b) (Nat.succ_inj.1 h)
theorem yt{l:List Sp}(h:(dV l).length=l.length):jJ l=eH (nD (dV l)) (oE (dE l)):=by
 have e:rY=eH (-19342822337206103650074625) 19342822337206103650074625:=(aI (by omega) (by omega) (by omega)).symm
 unfold jJ nD oE
 rw[e,dq];exact oC l _ _ h
theorem oD:∀(l:List Sp) (x:Sp),(dV l).length < l.length->l.foldl eC x=none
 | [],x,h=>absurd h (Nat.lt_irrefl _)
 | none::l,x,h=>by
  show l.foldl eC (eC x none)=none
  rw[mH];exact mI l
 | some (a,b)::l,x,h=>oD l _ (Nat.lt_of_succ_lt_succ h)
theorem Fd{l:List Sp}(h:(dV l).length < l.length):jJ l=none:=oD l rY h
theorem AX{A B a b:Int}(h:A=19342822337206103650074625/\B= -19342822337206103650074625\/A<=B/\A < 19342822337206103650074625/\ -19342822337206103650074625 < B)(k:aZ (some (a,b))):
  bK (eH A B) (some (a,b))=eH (min A a) (max B b)/\(min A a<=max B b/\min A a < 19342822337206103650074625/\ -19342822337206103650074625 < max B b):=by
 obtain⟨d,e,f,g,i⟩:=k;refine⟨?_,by omega,by omega,by omega⟩
 rcases h with⟨rfl,rfl⟩ | ⟨h1,h2,c⟩
 ·rw[dx (by omega),aI (by omega) (by omega) (by omega)]
  have e1:min 19342822337206103650074625 a=a:=by omega
  have e2:max (-19342822337206103650074625) b=b:=by omega
  rw[e1,e2]
  rfl
 ·rw[aI h1 h2 c]
  rfl
theorem kU:∀(l:List Sp) (A B:Int),(A=19342822337206103650074625/\B= -19342822337206103650074625\/A<=B/\A < 19342822337206103650074625/\ -19342822337206103650074625 < B)->(∀y ∈ l,aZ y)->l.foldl bK (eH A B)=eH ((dV l).foldl min A) ((dE l).foldl max B)
 | [],A,B,_,_=>rfl
 | none::l,A,B,h,k=>by
  show l.foldl bK (bK (eH A B) none)=_
  rw[sJ]
  exact kU l A B h (fun y hy=>k y (List.mem_cons_of_mem _ hy))
 | some (a,b)::l,A,B,h,k=>by
  obtain⟨e,g⟩:=AX h (k _ (List.mem_cons_self ..))
  show l.foldl bK (bK (eH A B) (some (a,b)))=_
  rw[e]
  exact kU l _ _ (.inr g) (fun y hy=>k y (List.mem_cons_of_mem _ hy))
theorem xI{l:List Sp}(h:∀y ∈ l,aZ y):mA l=eH (oE (dV l)) (nD (dE l)):=by
 have e:(none:Sp)=eH 19342822337206103650074625 (-19342822337206103650074625):=(dx (by omega)).symm
 unfold mA nD oE
 rw[e,dq];exact kU l _ _ (.inl ⟨rfl,rfl⟩) h
def kr:List (Int × Bool × Int × Int)->List Value
 | []=>[]
 | (K,s,M,E)::l=> .int .i64 K:: .bool s:: .int .u64 M:: .int .i64 E::kr l
theorem lw:∀l m,kr (l ++m)=kr l ++kr m
 | [],m=>rfl
 | (K,s,M,E)::l,m=>by
  show _::_::_::_::kr (l ++m)=_
  rw[lw l m]
  rfl
theorem wm:∀(l:List (Int × Bool × Int × Int)) (k:Nat) (K:Int) (s:Bool) (M E:Int),l[k]?=some (K,s,M,E)->(kr l)[k*4]?=some (.int .i64 K)/\(kr l)[k*4+1]?=some (.bool s)/\(kr l)[k*4+2]?=some (.int .u64 M)/\(kr l)[k*4+3]?=some (.int .i64 E)
 | [],k,_,_,_,_,h=>by cases h
 | (K,s,M,E)::l,0,_,_,_,_,h=>by
  cases h
  exact⟨rfl,rfl,rfl,rfl⟩
 | (K,s,M,E)::l,k+1,K2,s2,M2,E2,h=>by
  have:=wm l k K2 s2 M2 E2 h
  have e:(k+1)*4=k*4+4:=by omega
  rw[e];exact this
def Na (w:World)(base:Nat)(A:Option Addr)(n c:Nat)(l:List Int):Prop:=
 ∃r:List (Int × Bool × Int × Int),w.ownsRow base 24 4 (.slice A n c) n (kr r)/\r.length=n/\l.length=n/\∀k,k < n->∃K s M E,r[k]?=some (K,s,M,E)/\Fq K s M E (l.getD k 0)
theorem Na.nil (w:World)(base:Nat):Na w base none 0 0 []:=⟨[],World.ownsRow_nil w base _ 4,rfl,rfl,fun k h=>absurd h (Nat.not_lt_zero _)⟩
theorem Na.len{w:World}{base n c:Nat}{A:Option Addr}{l:List Int}(h:Na w base A n c l):l.length=n:=by
 obtain⟨_,_,_,h,_⟩:=h;exact h
theorem Na.below{w w':World}{base n c:Nat}{A:Option Addr}{l:List Int}(h:Na w base A n c l)(hb:Below w.heap.size w w'):Na w' base A n c l:=by
 obtain⟨r,h1,h2⟩:=h;refine⟨r,⟨h1.1,?_⟩,h2⟩
 rcases h1.2 with b | ⟨g,cap,a,d,hg,hh,q⟩
 ·exact .inl b
 ·refine .inr ⟨g,cap,a,d,hg,?_,q⟩;rw[hb.block g (Array.getElem?_eq_some_iff.1 hh).1];exact hh
abbrev Na.b:= @Na.below
instance {w w':World} {base n c:Nat} {A:Option Addr} {l:List Int}:Mv (Na w base A n c l) w w' (Na w' base A n c l):=⟨fun h b=>h.below b⟩
theorem Na.nl{w:World}{base n c:Nat}{A:Option Addr}{l:List Int}(h:Na w base A n c l)(hn:n<=1099511627776):Nl w A n c l:=by
 obtain⟨r,h1,h2,d,h4⟩:=h
 rcases h1.2 with⟨e1,e2⟩ | ⟨g,cap,e,b,hg,hh,f,hm,hs,ht⟩
 ·injection e1 with a1 a2 a3
  subst a1;subst a2;subst a3
  exact⟨d,Nat.le_refl _,by omega,fun h=>absurd h (Nat.lt_irrefl _)⟩
 ·injection b with a1 a2 a3
  subst a1;subst a3
  refine⟨d,f,hn,fun _=>⟨g,0,rfl,fun k hk=>?_⟩⟩
  obtain⟨K,s,M,E,i,q⟩:=h4 k hk;obtain⟨c0,c1,c2,c3⟩:=wm r k K s M E i
  have a:∀j v,(kr r)[j]?=some v->w.cell? ⟨g,0+j,none⟩=some v:=by
   intro j v b
   rw[cell_of_row w g (0+j) _ _ (0,0) hh,Nat.zero_add,<-Array.getElem?_toList];rw[<-ht,List.getElem?_take]at b
   split at b
   ·exact b
   ·cases b
  exact⟨K,s,M,E,a _ _ c0,by rw[Nat.add_assoc];exact a _ _ c1,by rw[Nat.add_assoc];exact a _ _ c2,by rw[Nat.add_assoc];exact a _ _ c3,q.top,q.rk⟩
end Go.Proofs.YteigedaefgmojaaGreatDoor
namespace Go.Proofs.YteigedaefgmojaaGreatDoor
open Go.Proofs.Tryz
set_option maxHeartbeats 4000000
open Go.RowKit
set_option linter.unusedVariables false
set_option maxRecDepth 100000
theorem EG:(prog.info? 24).map (fun i=>(i.zero,i.size,i.bytes))=some (some (.agg #[.int .i64 0,.bool false,.int .u64 0,.int .i64 0]),4,32):=by kernel_rfl
section
variable {w w':World} {base n c:Nat} {A:Option Addr} {l:List Int}
def bm (A:Option Addr):Option Nat:=A.map (·.block)
theorem jY (A:Option Addr)(n c:Nat):(Value.slice A n c).ownBlock=bm A:=by cases A <;> rfl
theorem Na.kept{row:Option Nat}(h:Na w base A n c l)(hg:w.grownBy w' row)(hne:bm A=none\/bm A≠row):Na w' base A n c l:=by
 obtain⟨r,h1,h2⟩:=h;exact⟨r,h1.kept hg (by rw[jY];exact hne),h2⟩
theorem Na.own_lt (h:Na w base A n c l):∀k,bm A=some k->base<=k/\k < w.heap.size:=by
 obtain⟨r,h1,h2⟩:=h
 intro k a
 exact h1.lt k (by rw[jY];exact a)
theorem IC{ty:TypeId}{g:Nat}{K M E a:Int}{s:Bool}(h:Na w base A n c l)(q:Fq K s M E a)(X:Bo w g #[.int .i64 K,.bool s,.int .u64 M,.int .i64 E] 24)(hn:n+1<=1099511627776)(hb:base<=w.heap.size):
  ∃A2 c2 w',(Builtin.append_ #[82,82] ty #[.slice A n c,.slice (some ⟨g,0,none⟩) 1 1]).run prog w= .ok (.slice A2 (n+1) c2) w'/\Na w' base A2 (n+1) c2 (l ++[a])/\w.grownBy w' (bm A)/\(bm A2=bm A\/bm A2=some w.heap.size):=by
 obtain⟨i,hi,hz,p,f⟩:=info_parts EG;obtain⟨r,h1,h2,x,h4⟩:=h
 obtain⟨H,w',D,o,hg,_,b⟩:=run_append_own_at (P:=prog) w base 82 ty 24 i _ 4 32 Tryz.underlying82 hi hz p f rfl (by decide) _ n (kr r) h1 ⟨g,0,none⟩ 1 1 (kr [(K,s,M,E)]) rfl (by
  intro j u d
  have e:=X.cell
  rcases j with _ | _ | _ | _ | j
  ·cases d
   exact e 0
  ·cases d
   exact e 1
  ·cases d
   exact e 2
  ·cases d
   exact e 3
  ·cases d) (by
  intro u y
  simp only[kr,List.mem_cons,List.not_mem_nil,or_false]at y
  rcases y with rfl | rfl | rfl | rfl <;> rfl) (by unfold maxLen;omega) (by omega) hb
 rw[jY]at hg b;rw[<-lw]at o
 obtain⟨A2,c2,rfl⟩:∃A2 c2,H= .slice A2 (n+1) c2:=by
  rcases o.2 with⟨_,J⟩ | ⟨I,t,v,F,_⟩
  ·omega
  ·exact⟨_,_,F⟩
 rw[jY]at b
 refine⟨A2,c2,w',D,⟨_,o,by rw[List.length_append,h2];rfl,by rw[List.length_append,x];rfl,fun k hk=>?_⟩,hg,b⟩
 by_cases m:k < n
 ·obtain⟨B,s1,C,z,hq,G⟩:=h4 k m;refine⟨B,s1,C,z,by rw[List.getElem?_append_left (by omega)];exact hq,?_⟩
  rw[List.getD_eq_getElem?_getD,List.getElem?_append_left (by omega),<-List.getD_eq_getElem?_getD];exact G
 ·obtain rfl:k=n:=by omega
  refine⟨K,s,M,E,by rw[List.getElem?_append_right (by omega),h2];simp,?_⟩
  rw[List.getD_eq_getElem?_getD,List.getElem?_append_right (by omega),x]
  simpa using q
theorem jE{ops:Array Oper}{rest:List Oper}{o:Oper}{a:Act}{Q:Exit->Act->World->Prop}(hgd:o.guard=none)(s x:Operand)
  (ho:o.op= .call {callee:= .builtin .append,args:= #[s,x],argTypes:= #[82,82]}) {g:Nat} {K M E p:Int} {b:Bool}
  (hs:a.eval s= .slice A n c) (hx:a.eval x= .slice (some ⟨g,0,none⟩) 1 1) (h:Na w base A n c l) (q:Fq K b M E p) (X:Bo w g #[.int .i64 K,.bool b,.int .u64 M,.int .i64 E] 24) (hn:n+1<=1099511627776) (hb:base<=w.heap.size)
  (hK:∀A2 c2 w',Na w' base A2 (n+1) c2 (l ++[p])->w.grownBy w' (bm A)->(bm A2=bm A\/bm A2=some w.heap.size)->wpList prog ops Q rest (a.put o.dst (.slice A2 (n+1) c2)) w'):wpList prog ops Q (o::rest) a w:=by
 refine wpList_plain hgd fun K hK2=>?_
 obtain⟨A2,c2,w',e,h1,h2,d⟩:=IC (ty:=o.type) h q X hn hb
 unfold Oper.wp execOp
 simp only[ho,resolve,invoke,builtin,Sem.run_bind,Sem.run_pure,Result.andThen_ok,List.map_toArray,List.map_cons,List.map_nil,hs,hx,e];exact hK2 _ _ (hK A2 c2 w' h1 h2 d)
end
set_option linter.unusedSimpArgs false
theorem rf{w:World}(s:Bool):Calls prog 87 #[.bool s] w (fun e w'=>e= .returned (.agg #[.int .i64 2,.bool s,.int .u64 0,.int .i64 0])/\Below w.heap.size w w'):=by
 refine(jb (s:=s) rfl).mono ?_;rintro a b ⟨K,s1,M,E,rfl,q,B⟩;obtain⟨rfl,rfl,rfl,rfl⟩:=q.uniq (gq s);exact⟨rfl,B⟩
theorem Ep{x y c:Int}(h:ag x y=c):decide (0 < c)=decide (y < x):=by
 rw[<-h]
 by_cases e:y < x
 ·rw[dt e]
  exact dt (by rcases aU x y with⟨a,b⟩ | ⟨a,b⟩ | ⟨a,b⟩ <;> rw[b] <;> omega)
 ·rw[df e]
  exact df (by rcases aU x y with⟨a,b⟩ | ⟨a,b⟩ | ⟨a,b⟩ <;> rw[b] <;> omega)
theorem sP{w:World}:Calls prog 32 #[] w (PV w none):=by
 go_enter func32,ntmps32
 go_upto_region 1 with fail
 generalize a:w.alloc _=w1 at *;obtain⟨c,f⟩:=Bo.en1 a;clear a;have d:=c.cell;have b:=c.frozen;go_wp2;clear d b;have e:=ac.t9 c true 0 false 0 0 0 false 0 0;exact bq (by simp[results,results32,go_sem,e.box.cell]) rfl ⟨_,_,_,_,_,_,_,_,_,rfl,Ci.none,(e.below f.out (by omega))⟩
theorem dr{w:World}:Calls prog 32 #[] w (fun e w'=>e= .returned (.agg #[.bool true,.int .i64 0,.bool false,.int .u64 0,.int .i64 0,.int .i64 0,.bool false,.int .u64 0,.int .i64 0])/\Below w.heap.size w w'):=by
 refine sP.mono ?_;rintro j k ⟨e1,h,s1,i,g,b,d,c,a,rfl,f,B⟩;obtain⟨rfl,rfl,rfl,rfl,rfl,rfl,rfl,rfl,rfl⟩:=f.uniq Ci.none;exact⟨rfl,B⟩
theorem Gy{w:World}{D M E:Int}{s:Bool}{r:Int}(hM:LQ M)(hr:rk D s M E=r):Calls prog 114 #[VQ D s M E] w (PN w r):=by
 delta VQ
 by_cases hm:au D s M E
 ·have j:=eD hM hm;rw[hr]at j
  have i:=ie (show decide (au D s M E)=true from dt hm)
  clear hm hr hM
  go_enter func114,ntmps114
  go_upto_region 1 with fail
  generalize d:(w.alloc _).alloc _=w1 at *;obtain⟨c,b,f⟩:=Bo.en2 d;clear d;have a:=c.cell
  go_wp2_with fail
  refine(kY i.out).mono ?_;rintro k l ⟨rfl,B⟩;clear a;refine aF ?_ c b f B;clear c b f B;intro c b f;have g:=b.cell;have e:=b.frozen;have a:=c.cell;go_wp2;clear g e a;have h:=ac.t4 b D s M E
  exact bq (by simp[results,results114,go_sem,h.box.cell]) rfl ⟨D,s,M,E,rfl,j,(h.below f.out (by omega))⟩
 ·rw[fI hm]at hr;subst hr
  have i:=ie (show decide (au D s M E)=false from df hm)
  clear hm hM
  go_enter func114,ntmps114
  go_upto_region 1 with fail
  generalize d:(w.alloc _).alloc _=w1 at *;obtain⟨c,b,f⟩:=Bo.en2 d;clear d;have a:=c.cell
  go_wp2_with fail
  refine(kY i.out).mono ?_;rintro k l ⟨rfl,B⟩;clear a;refine aF ?_ c b f B;clear c b f B;intro c b f;have g:=b.cell;have e:=b.frozen;have a:=c.cell;go_wp2;clear g e a;have h:=ac.t4 b 0 false 0 0
  exact bq (by simp[results,results114,go_sem,h.box.cell]) rfl ⟨_,_,_,_,rfl,Fq.nought,(h.below f.out (by omega))⟩
theorem iq{w:World}{D D' M M' E E':Int}{s s':Bool}{a b:Int}{x:Sp}(hM:LQ M)(hM':LQ M')(ha:rk D s M E=a)(hb:rk D' s' M' E'=b)(hx:eH a b=x):Calls prog 49 #[VQ D s M E,VQ D' s' M' E'] w (PV w x):=by
 delta VQ
 have T:=ie ha;have G:=ie hb;clear ha hb
 go_enter func49,ntmps49
 go_upto_region 1 with fail
 generalize J:((w.alloc _).alloc _).alloc _=w1 at *;obtain⟨g,h,f,i⟩:=Bo.en3 J;clear J;refine bF [0,1,2,3] [6,7,8,9,0,0] [[],[0],[],[2],[],[]] 6 2 [Jo.q4 D s M E,Jo.Fact.num a,Jo.q4 D' s' M' E',Jo.Fact.num b,Jo.Fact.any,Jo.Fact.any] ?_ ?_
 ·refine jm ?_ ?_;rotate_left
  refine jm ?_ ?_
  ·rintro j d _ rfl K e;go_simp;exact Jo.n1 (Gy hM T.out) e.out
  refine jm ?_ ?_;rotate_left
  refine jm ?_ ?_
  ·rintro j d _ rfl K e;go_simp;exact Jo.n1 (Gy hM' G.out) e.out
  exact jo
  all_goals (rintro j d;(repeat rintro _ rfl);intro K e;have m:=(g.b d).cell;have n:=(h.b d).cell;go_simp;exact e.out _ _ rfl (br _ _))
 rintro W d _ rfl _ ⟨v,s1,y,u,rfl,A⟩ _ rfl _ ⟨K2,s2,M2,E2,rfl,C⟩ -;simp only[Jo.z];replace g:=g.b d;replace h:=h.b d;replace f:=f.b d;replace i:=ak i d;have m:=g.cell;have N:=g.frozen
 refine jn 4 fun K e=>?_
 go_simp;refine e.out _ _ ?_;clear e K m N;generalize I:(((W.setCell _ _).setCell _ _).setCell _ _).setCell _ _=X at *;have k:=ac.of4 g I;replace h:=h.s k;replace f:=f.s k;replace i:=bi i k (by omega);replace g:=k.box;clear k I;have n:=h.cell;have O:=h.frozen
 refine jn 5 fun K e=>?_
 go_simp;refine e.out _ _ ?_;clear e K n O;generalize I:(((X.setCell _ _).setCell _ _).setCell _ _).setCell _ _=Y at *;have k:=ac.of4 h I;replace g:=g.s k;replace f:=f.s k;replace i:=bi i k (by omega);replace h:=k.box;clear k I;refine jd ?_;clear T G hM hM';obtain⟨c,R⟩:∃c,ag a b=c:=⟨_,rfl⟩
 have hg:=Ep R
 have P:Hid (ag (rk v s1 y u) (rk K2 s2 M2 E2)=c):=ie (by rw[A.rk,C.rk];exact R)
 clear R
 by_cases q:b < a
 ·rw[dx (by omega)]at hx
  obtain rfl:none=x:=hx
  rw[dt q]at hg;have r:=ie hg;clear hg q;go_wp2;refine bF [0,1,2,3,4,5,6,7,8,9,10,11,12,13] [10,11,12,13,14,15,16,17,18,19,20,21,22,23] [[],[],[0,1],[2],[3],[4],[4],[4,5,6],[4,7],[8],[9],[9],[9,10,11],[9,12]] 14 0 [Jo.q4 v s1 y u,Jo.q4 K2 s2 M2 E2,Jo.qi c,Jo.qb true,Jo.qb true,Jo.qu,Jo.qu,Jo.qu,Jo.qb true,Jo.qb true,Jo.qu,Jo.qu,Jo.qu,Jo.qb true] ?_ ?_
  ·iterate 2 (refine jm ?_ ?_;rotate_left)
   refine jm ?_ ?_
   ·rintro j d _ rfl _ rfl K e;go_simp;refine(kq A.top C.top P.out).mono ?_;rintro t F ⟨rfl,B⟩;exact e.out _ _ rfl B
   refine jm ?_ ?_
   ·rintro j d _ rfl K e;have o:=r.out;go_simp
    exact e.out _ _ (by first | rfl | (show Value.bool _=Value.bool _;rw[o]) | simp_all) (br _ _)
   iterate 10 (refine jm ?_ ?_;rotate_left)
   exact jo
   all_goals (rintro j d;(repeat rintro _ rfl);intro K e;have m:=(g.b d).cell;have n:=(h.b d).cell;go_simp;exact e.out _ _ rfl (br _ _))
  rintro S d _ rfl _ rfl _ rfl _ rfl _ rfl _ rfl _ rfl _ rfl _ rfl _ rfl _ rfl _ rfl _ rfl _ rfl -;simp only[Jo.z];replace g:=g.b d;replace h:=h.b d;replace f:=f.b d;replace i:=ak i d;refine jd ?_
  go_wp2_with fail
  refine(dr).mono ?_;rintro t U ⟨rfl,B⟩;refine aR ?_ g h f i B;clear g h f i B;intro g h f i;have p:=f.cell;have l:=f.frozen;go_wp2;clear p l;have k:=ac.t9 f true 0 false 0 0 0 false 0 0
  exact bq (by simp[results,results49,go_sem,k.box.cell]) rfl ⟨_,_,_,_,_,_,_,_,_,rfl,Ci.none,(k.below i.out (by omega))⟩
 ·rw[df q]at hg;have r:=ie hg;clear hg
  by_cases ht:a=19342822337206103650074625
  ·subst ht;rw[dx (by omega)]at hx
   obtain rfl:none=x:=hx
   obtain⟨rfl,rfl,rfl,rfl⟩:=A.uniq (show Fq 2 false 0 0 19342822337206103650074625 from gq false)
   clear q;go_wp2;refine bF [0,1,2,3,4,5,6,7,8,9,10,11,12,13] [10,11,12,13,14,15,16,17,18,19,20,21,22,23] [[],[],[0,1],[2],[3],[4],[4],[4,5,6],[4,7],[8],[9],[9],[9,10,11],[9,12]] 14 0 [Jo.q4 2 false 0 0,Jo.q4 K2 s2 M2 E2,Jo.qi c,Jo.qb false,Jo.qb false,Jo.q4 2 false 0 0,Jo.q4 2 false 0 0,Jo.qb true,Jo.qb true,Jo.qb true,Jo.qu,Jo.qu,Jo.qu,Jo.qb true] ?_ ?_
   ·iterate 2 (refine jm ?_ ?_;rotate_left)
    refine jm ?_ ?_
    ·rintro j d _ rfl _ rfl K e;go_simp;refine(kq A.top C.top P.out).mono ?_;rintro t F ⟨rfl,B⟩;exact e.out _ _ rfl B
    refine jm ?_ ?_
    ·rintro j d _ rfl K e;have o:=r.out;go_simp
     exact e.out _ _ (by first | rfl | (show Value.bool _=Value.bool _;rw[o]) | simp_all) (br _ _)
    iterate 2 (refine jm ?_ ?_;rotate_left)
    refine jm ?_ ?_
    ·rintro j d _ rfl K e;go_simp;refine(rf false).mono ?_;rintro t F ⟨rfl,B⟩;exact e.out _ _ rfl B
    refine jm ?_ ?_
    ·rintro j d _ rfl _ rfl _ rfl K e;go_simp
     repeat' split
     all_goals exact e.out _ _ (congrArg Value.bool (by first | rfl | (exfalso;simp_all) | simp_all)) (br _ _)
    iterate 6 (refine jm ?_ ?_;rotate_left)
    exact jo
    all_goals (rintro j d;(repeat rintro _ rfl);intro K e;have m:=(g.b d).cell;have n:=(h.b d).cell;go_simp;exact e.out _ _ rfl (br _ _))
   rintro S d _ rfl _ rfl _ rfl _ rfl _ rfl _ rfl _ rfl _ rfl _ rfl _ rfl _ rfl _ rfl _ rfl _ rfl -;simp only[Jo.z];replace g:=g.b d;replace h:=h.b d;replace f:=f.b d;replace i:=ak i d;refine jd ?_
   go_wp2_with fail
   refine(dr).mono ?_;rintro t U ⟨rfl,B⟩;refine aR ?_ g h f i B;clear g h f i B;intro g h f i;have p:=f.cell;have l:=f.frozen;go_wp2;clear p l;have k:=ac.t9 f true 0 false 0 0 0 false 0 0
   exact bq (by simp[results,results49,go_sem,k.box.cell]) rfl ⟨_,_,_,_,_,_,_,_,_,rfl,Ci.none,(k.below i.out (by omega))⟩
  ·have H:Hid (¬(v=2/\s1=false/\y=0/\u=0)):=ie (by
    rintro ⟨rfl,rfl,rfl,rfl⟩;exact ht (by rw[<-A.rk];exact(gq false).rk))
   by_cases hb:b= -19342822337206103650074625
   ·subst hb;rw[dx (by omega)]at hx
    obtain rfl:none=x:=hx
    obtain⟨rfl,rfl,rfl,rfl⟩:=C.uniq (show Fq 2 true 0 0 (-19342822337206103650074625)from gq true)
    clear q ht;go_wp2;refine bF [0,1,2,3,4,5,6,7,8,9,10,11,12,13] [10,11,12,13,14,15,16,17,18,19,20,21,22,23] [[],[],[0,1],[2],[3],[4],[4],[4,5,6],[4,7],[8],[9],[9],[9,10,11],[9,12]] 14 0 [Jo.q4 v s1 y u,Jo.q4 2 true 0 0,Jo.qi c,Jo.qb false,Jo.qb false,Jo.q4 v s1 y u,Jo.q4 2 false 0 0,Jo.qb false,Jo.qb false,Jo.qb false,Jo.q4 2 true 0 0,Jo.q4 2 true 0 0,Jo.qb true,Jo.qb true] ?_ ?_
    ·iterate 2 (refine jm ?_ ?_;rotate_left)
     refine jm ?_ ?_
     ·rintro j d _ rfl _ rfl K e;go_simp;refine(kq A.top C.top P.out).mono ?_;rintro t F ⟨rfl,B⟩;exact e.out _ _ rfl B
     refine jm ?_ ?_
     ·rintro j d _ rfl K e;have o:=r.out;go_simp
      exact e.out _ _ (by first | rfl | (show Value.bool _=Value.bool _;rw[o]) | simp_all) (br _ _)
     iterate 2 (refine jm ?_ ?_;rotate_left)
     refine jm ?_ ?_
     ·rintro j d _ rfl K e;go_simp;refine(rf false).mono ?_;rintro t F ⟨rfl,B⟩;exact e.out _ _ rfl B
     refine jm ?_ ?_
     ·rintro j d _ rfl _ rfl _ rfl K e;have L:=H.out;go_simp
      repeat' split
      all_goals exact e.out _ _ (congrArg Value.bool (by first | rfl | (exfalso;simp_all))) (br _ _)
     iterate 3 (refine jm ?_ ?_;rotate_left)
     refine jm ?_ ?_
     ·rintro j d _ rfl K e;go_simp;refine(rf true).mono ?_;rintro t F ⟨rfl,B⟩;exact e.out _ _ rfl B
     refine jm ?_ ?_
     ·rintro j d _ rfl _ rfl _ rfl K e;go_simp
      repeat' split
      all_goals exact e.out _ _ (congrArg Value.bool (by first | rfl | (exfalso;simp_all) | simp_all)) (br _ _)
     refine jm ?_ ?_;rotate_left
     exact jo
     all_goals (rintro j d;(repeat rintro _ rfl);intro K e;have m:=(g.b d).cell;have n:=(h.b d).cell;go_simp;exact e.out _ _ rfl (br _ _))
    rintro S d _ rfl _ rfl _ rfl _ rfl _ rfl _ rfl _ rfl _ rfl _ rfl _ rfl _ rfl _ rfl _ rfl _ rfl -;simp only[Jo.z];replace g:=g.b d;replace h:=h.b d;replace f:=f.b d;replace i:=ak i d;refine jd ?_
    go_wp2_with fail
    refine(dr).mono ?_;rintro t U ⟨rfl,B⟩;refine aR ?_ g h f i B;clear g h f i B;intro g h f i;have p:=f.cell;have l:=f.frozen;go_wp2;clear p l;have k:=ac.t9 f true 0 false 0 0 0 false 0 0
    exact bq (by simp[results,results49,go_sem,k.box.cell]) rfl ⟨_,_,_,_,_,_,_,_,_,rfl,Ci.none,(k.below i.out (by omega))⟩
   ·have Q:Hid (¬(K2=2/\s2=true/\M2=0/\E2=0)):=ie (by
     rintro ⟨rfl,rfl,rfl,rfl⟩;exact hb (by rw[<-C.rk];exact(gq true).rk))
    have g1:=A.bd;have g2:=C.bd
    have g3:a<=b:=by omega
    have g4:a < 19342822337206103650074625:=by omega
    have g5: -19342822337206103650074625 < b:=by omega
    rw[aI g3 g4 g5]at hx
    obtain rfl:some (a,b)=x:=hx
    have V:Ci false v s1 y u K2 s2 M2 E2 (some (a,b)):=⟨rfl,A,C,g3,g4,g5⟩
    clear q ht hb g1 g2 g3 g4 g5;go_wp2;refine bF [0,1,2,3,4,5,6,7,8,9,10,11,12,13] [10,11,12,13,14,15,16,17,18,19,20,21,22,23] [[],[],[0,1],[2],[3],[4],[4],[4,5,6],[4,7],[8],[9],[9],[9,10,11],[9,12]] 14 0 [Jo.q4 v s1 y u,Jo.q4 K2 s2 M2 E2,Jo.qi c,Jo.qb false,Jo.qb false,Jo.q4 v s1 y u,Jo.q4 2 false 0 0,Jo.qb false,Jo.qb false,Jo.qb false,Jo.q4 K2 s2 M2 E2,Jo.q4 2 true 0 0,Jo.qb false,Jo.qb false] ?_ ?_
    ·iterate 2 (refine jm ?_ ?_;rotate_left)
     refine jm ?_ ?_
     ·rintro j d _ rfl _ rfl K e;go_simp;refine(kq A.top C.top P.out).mono ?_;rintro t F ⟨rfl,B⟩;exact e.out _ _ rfl B
     refine jm ?_ ?_
     ·rintro j d _ rfl K e;have o:=r.out;go_simp
      exact e.out _ _ (by first | rfl | (show Value.bool _=Value.bool _;rw[o]) | simp_all) (br _ _)
     iterate 2 (refine jm ?_ ?_;rotate_left)
     refine jm ?_ ?_
     ·rintro j d _ rfl K e;go_simp;refine(rf false).mono ?_;rintro t F ⟨rfl,B⟩;exact e.out _ _ rfl B
     refine jm ?_ ?_
     ·rintro j d _ rfl _ rfl _ rfl K e;have L:=H.out;go_simp
      repeat' split
      all_goals exact e.out _ _ (congrArg Value.bool (by first | rfl | (exfalso;simp_all))) (br _ _)
     iterate 3 (refine jm ?_ ?_;rotate_left)
     refine jm ?_ ?_
     ·rintro j d _ rfl K e;go_simp;refine(rf true).mono ?_;rintro t F ⟨rfl,B⟩;exact e.out _ _ rfl B
     refine jm ?_ ?_
     ·rintro j d _ rfl _ rfl _ rfl K e;have L:=Q.out;go_simp
      repeat' split
      all_goals exact e.out _ _ (congrArg Value.bool (by first | rfl | (exfalso;simp_all))) (br _ _)
     refine jm ?_ ?_;rotate_left
     exact jo
     all_goals (rintro j d;(repeat rintro _ rfl);intro K e;have m:=(g.b d).cell;have n:=(h.b d).cell;go_simp;exact e.out _ _ rfl (br _ _))
    rintro S d _ rfl _ rfl _ rfl _ rfl _ rfl _ rfl _ rfl _ rfl _ rfl _ rfl _ rfl _ rfl _ rfl _ rfl -;simp only[Jo.z];replace g:=g.b d;replace h:=h.b d;replace f:=f.b d;replace i:=ak i d;refine jd ?_;have p:=f.cell;have l:=f.frozen;have m:=g.cell
    have n:=h.cell;go_wp2;clear p l m n;have k:=ac.t9 f false v s1 y u K2 s2 M2 E2;exact bq (by simp[results,results49,go_sem,k.box.cell]) rfl ⟨_,_,_,_,_,_,_,_,_,rfl,V,(k.below i.out (by omega))⟩
theorem EP{w:World}{D M E:Int}{s:Bool}{a:Int}{x:Sp}(hM:LQ M)(ha:rk D s M E=a)(hx:eH a a=x):Calls prog 25 #[VQ D s M E] w (PV w x):=by
 delta VQ
 have m:=ie ha;have o:=ie hx;clear ha hx
 go_enter func25,ntmps25
 go_upto_region 1 with fail
 generalize d:(w.alloc _).alloc _=w1 at *;obtain⟨p,c,g⟩:=Bo.en2 d;clear d;have k:=p.cell
 go_wp2_with fail
 refine(iq hM hM m.out m.out o.out).mono ?_;rintro q r ⟨e2,K2,s2,M2,E2,h,j,i,f,rfl,v2,B⟩;clear k;replace c:=c.b B;replace g:=ak g B;clear B;have l:=c.cell;have e:=c.frozen;go_wp2;clear l e;have n:=ac.t9 c e2 K2 s2 M2 E2 h j i f
 exact bq (by simp[results,results25,go_sem,n.box.cell]) rfl ⟨_,_,_,_,_,_,_,_,_,rfl,v2,(n.below g.out (by omega))⟩
theorem BF{e:Bool}{D M E D' M' E':Int}{s s':Bool}{e4:Bool}{K4 M4 E4 K4b M4b E4b:Int}{s4 s4b:Bool}(hM:LQ M)(hM':LQ M')(v:Ci e4 K4 s4 M4 E4 K4b s4b M4b E4b (eH (rk D s M E) (rk D' s' M' E')))(h1:¬(e=true/\D=0/\s=false/\M=0/\E=0/\D'=0/\s'=false/\M'=0/\E'=0)):(e=e4/\D=K4/\s=s4/\M=M4/\E=E4/\D'=K4b/\s'=s4b/\M'=M4b/\E'=E4b)↔jU e D s M E D' s' M' E'=true:=by
 constructor
 ·rintro ⟨rfl,rfl,rfl,rfl,rfl,rfl,rfl,rfl,rfl⟩;exact v.may
 ·intro h
  have c:=lS hM hM' h
  cases e
  ·have h2:decide (iJ false D s M E D' s' M' E'≠none)=true:=h
   rw[mZ]at c;rw[decide_eq_true_iff,mZ]at h2
   by_cases hq:au D s M E/\au D' s' M' E'
   ·rw[if_pos hq]at c;exact c.uniq v
   ·rw[if_neg hq]at h2;exact absurd rfl h2
  ·rw[wz]at c;exact absurd (c.uniq Ci.none) h1
theorem vR{w:World}{e:Bool}{D M E D' M' E':Int}{s s':Bool}{r:Bool}(hM:LQ M)(hM':LQ M')(hr:jU e D s M E D' s' M' E'=r):Calls prog 117 #[VI e D s M E D' s' M' E'] w (PB w r):=by
 delta VI
 by_cases h1:e=true/\D=0/\s=false/\M=0/\E=0/\D'=0/\s'=false/\M'=0/\E'=0
 ·obtain⟨rfl,rfl,rfl,rfl,rfl,rfl,rfl,rfl,rfl⟩:=h1
  obtain rfl:true=r:=Ci.none.may.symm.trans hr
  clear hr
  go_enter func117,ntmps117
  go_upto_region 1 with fail
  generalize f:w.alloc _=w1 at *;obtain⟨i,h⟩:=Bo.en1 f;clear f;refine bF [0,1,2,3,4,5,6,7,8,9,10,11,12] [4,5,6,7,8,9,10,11,12,13,14,15,3] [[],[],[0,1],[2],[3],[3],[3,5],[3],[3,7],[3,6,8],[3,4,9],[3,10],[11]] 13 0 [Jo.q9 true 0 false 0 0 0 false 0 0,Jo.q9 true 0 false 0 0 0 false 0 0,Jo.qb true,Jo.qb true,Jo.qu,Jo.qu,Jo.qu,Jo.qu,Jo.qu,Jo.qu,Jo.qu,Jo.qb true,Jo.qb true] ?_ ?_
  ·refine jm ?_ ?_;rotate_left
   refine jm ?_ ?_
   ·rintro g d K a;go_simp;refine(dr).mono ?_;rintro C G ⟨rfl,B⟩;exact a.out _ _ rfl B
   refine jm ?_ ?_
   ·rintro g d _ rfl _ rfl K a;go_simp
    repeat' split
    all_goals exact a.out _ _ (congrArg Value.bool (by first | rfl | (exfalso;simp_all) | simp_all)) (br _ _)
   iterate 10 (refine jm ?_ ?_;rotate_left)
   exact jo
   all_goals (rintro g d;(repeat rintro _ rfl);intro K a;have q:=(i.b d).cell;go_simp;exact a.out _ _ rfl (br _ _))
  rintro F d _ rfl _ rfl _ rfl _ rfl _ rfl _ rfl _ rfl _ rfl _ rfl _ rfl _ rfl _ rfl _ rfl -;simp only[Jo.z];replace i:=i.b d;replace h:=ak h d;refine jd ?_;go_wp2
  go_ret
  exact⟨rfl,h.out⟩
 ·have n:=ie h1
  have A:Hid (∀{e4 K4 s4 M4 E4 K4b s4b M4b E4b},Ci e4 K4 s4 M4 E4 K4b s4b M4b E4b (eH (rk D s M E) (rk D' s' M' E'))->((e=e4/\D=K4/\s=s4/\M=M4/\E=E4/\D'=K4b/\s'=s4b/\M'=M4b/\E'=E4b)↔r=true)):=ie (fun v=>by rw[<-hr];exact BF hM hM' v h1)
  clear hr h1
  cases r
  ·go_enter func117,ntmps117
   go_upto_region 1 with fail
   generalize f:w.alloc _=w1 at *;obtain⟨i,h⟩:=Bo.en1 f;clear f;refine bF [0,1,2,3,4,5,6,7,8,9,10,11,12] [4,5,6,7,8,9,10,11,12,13,14,15,3] [[],[],[0,1],[2],[3],[3],[3,5],[3],[3,7],[3,6,8],[3,4,9],[3,10],[11]] 13 0 [Jo.q9 e D s M E D' s' M' E',Jo.q9 true 0 false 0 0 0 false 0 0,Jo.qb false,Jo.qb false,Jo.q9 e D s M E D' s' M' E',Jo.qp w.heap.size 1,Jo.q4 D s M E,Jo.qp w.heap.size 5,Jo.q4 D' s' M' E',Jo.Fact.iv (eH (rk D s M E) (rk D' s' M' E')),Jo.qb false,Jo.qb false,Jo.qb false] ?_ ?_
   ·refine jm ?_ ?_;rotate_left
    refine jm ?_ ?_
    ·rintro g d K a;go_simp;refine(dr).mono ?_;rintro C G ⟨rfl,B⟩;exact a.out _ _ rfl B
    refine jm ?_ ?_
    ·rintro g d _ rfl _ rfl K a;have o:=n.out;go_simp
     repeat' split
     all_goals exact a.out _ _ (congrArg Value.bool (by first | rfl | (exfalso;simp_all))) (br _ _)
    iterate 6 (refine jm ?_ ?_;rotate_left)
    refine jm ?_ ?_
    ·rintro g d _ rfl _ rfl _ rfl K a;go_simp;exact Jo.v1 (iq hM hM' rfl rfl rfl) a.out
    refine jm ?_ ?_
    ·rintro g d _ rfl _ rfl _ ⟨y,u,s9,x,t,k,m,l,j,rfl,p⟩ K a;simp only[Jo.z]at a|-
     have o:=fun c=>ff ((A.out p).1 c)
     go_simp
     repeat' split
     all_goals exact a.out _ _ (congrArg Value.bool (by first | rfl | (exfalso;simp_all))) (br _ _)
    iterate 2 (refine jm ?_ ?_;rotate_left)
    exact jo
    all_goals (rintro g d;(repeat rintro _ rfl);intro K a;have q:=(i.b d).cell;go_simp;exact a.out _ _ rfl (br _ _))
   rintro F d _ rfl _ rfl _ rfl _ rfl _ rfl _ _ _ rfl _ _ _ rfl _ ⟨y,u,s9,x,t,k,m,l,j,rfl,p⟩ _ rfl _ rfl _ rfl -;simp only[Jo.z];replace i:=i.b d;replace h:=ak h d;refine jd ?_;go_wp2
   go_ret
   exact⟨rfl,h.out⟩
  ·go_enter func117,ntmps117
   go_upto_region 1 with fail
   generalize f:w.alloc _=w1 at *;obtain⟨i,h⟩:=Bo.en1 f;clear f;refine bF [0,1,2,3,4,5,6,7,8,9,10,11,12] [4,5,6,7,8,9,10,11,12,13,14,15,3] [[],[],[0,1],[2],[3],[3],[3,5],[3],[3,7],[3,6,8],[3,4,9],[3,10],[11]] 13 0 [Jo.q9 e D s M E D' s' M' E',Jo.q9 true 0 false 0 0 0 false 0 0,Jo.qb false,Jo.qb false,Jo.q9 e D s M E D' s' M' E',Jo.qp w.heap.size 1,Jo.q4 D s M E,Jo.qp w.heap.size 5,Jo.q4 D' s' M' E',Jo.Fact.iv (eH (rk D s M E) (rk D' s' M' E')),Jo.qb true,Jo.qb true,Jo.qb true] ?_ ?_
   ·refine jm ?_ ?_;rotate_left
    refine jm ?_ ?_
    ·rintro g d K a;go_simp;refine(dr).mono ?_;rintro C G ⟨rfl,B⟩;exact a.out _ _ rfl B
    refine jm ?_ ?_
    ·rintro g d _ rfl _ rfl K a;have o:=n.out;go_simp
     repeat' split
     all_goals exact a.out _ _ (congrArg Value.bool (by first | rfl | (exfalso;simp_all))) (br _ _)
    iterate 6 (refine jm ?_ ?_;rotate_left)
    refine jm ?_ ?_
    ·rintro g d _ rfl _ rfl _ rfl K a;go_simp;exact Jo.v1 (iq hM hM' rfl rfl rfl) a.out
    refine jm ?_ ?_
    ·rintro g d _ rfl _ rfl _ ⟨y,u,s9,x,t,k,m,l,j,rfl,p⟩ K a;simp only[Jo.z]at a|-;obtain⟨rfl,rfl,rfl,rfl,rfl,rfl,rfl,rfl,rfl⟩:=(A.out p).2 rfl;go_simp
     repeat' split
     all_goals exact a.out _ _ (congrArg Value.bool (by first | rfl | (exfalso;simp_all) | simp_all)) (br _ _)
    iterate 2 (refine jm ?_ ?_;rotate_left)
    exact jo
    all_goals (rintro g d;(repeat rintro _ rfl);intro K a;have q:=(i.b d).cell;go_simp;exact a.out _ _ rfl (br _ _))
   rintro F d _ rfl _ rfl _ rfl _ rfl _ rfl _ _ _ rfl _ _ _ rfl _ ⟨y,u,s9,x,t,k,m,l,j,rfl,p⟩ _ rfl _ rfl _ rfl -;simp only[Jo.z];replace h:=ak h d;refine jd ?_;go_wp2
   go_ret
   exact⟨rfl,h.out⟩
theorem Gx{w:World}{e:Bool}{D M E D' M' E':Int}{s s':Bool}{x:Sp}(hM:LQ M)(hM':LQ M')(hr:iJ e D s M E D' s' M' E'=x):Calls prog 53 #[VI e D s M E D' s' M' E'] w (PV w x):=by
 delta VI
 cases hm:jU e D s M E D' s' M' E'
 ·obtain rfl:none=x:=(lT hm).symm.trans hr
  have i:=ie hm;clear hm hr
  go_enter func53,ntmps53
  go_upto_region 1 with fail
  generalize d:(w.alloc _).alloc _=w1 at *;obtain⟨b,a,c⟩:=Bo.en2 d;clear d;have f:=b.cell
  go_wp2_with fail
  refine(vR hM hM' i.out).mono ?_;rintro k m ⟨rfl,B⟩;clear f;refine aF ?_ b a c B;clear b a c B;intro b a c;clear i hM hM'
  go_wp2_with fail
  refine(dr).mono ?_;rintro k n ⟨rfl,B⟩;refine aF ?_ b a c B;clear b a c B;intro b a c;have h:=a.cell;have g:=a.frozen;go_wp2;clear h g;have j:=ac.t9 a true 0 false 0 0 0 false 0 0
  exact bq (by simp[results,results53,go_sem,j.box.cell]) rfl ⟨_,_,_,_,_,_,_,_,_,rfl,Ci.none,(j.below c.out (by omega))⟩
 ·have l:=lS hM hM' hm;rw[hr]at l;have i:=ie hm;clear hm hr
  go_enter func53,ntmps53
  go_upto_region 1 with fail
  generalize d:(w.alloc _).alloc _=w1 at *;obtain⟨b,a,c⟩:=Bo.en2 d;clear d;have f:=b.cell
  go_wp2_with fail
  refine(vR hM hM' i.out).mono ?_;rintro k m ⟨rfl,B⟩;clear f;refine aF ?_ b a c B;clear b a c B;intro b a c;clear i hM hM';have h:=a.cell;have g:=a.frozen;have f:=b.cell;go_wp2
  clear h g f;have j:=ac.t9 a e D s M E D' s' M' E';exact bq (by simp[results,results53,go_sem,j.box.cell]) rfl ⟨_,_,_,_,_,_,_,_,_,rfl,l,(j.below c.out (by omega))⟩
