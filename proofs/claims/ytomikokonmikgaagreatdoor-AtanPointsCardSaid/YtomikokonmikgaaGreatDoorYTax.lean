/-
 Contracts that the proof rests on.
-/
import Derived.Test.YtomikokonmikgaaGreatDoorYTaw
namespace Go.Proofs.YtomikokonmikgaaGreatDoor
open Go.Proofs.Tryz
open Go.RowKit
set_option linter.unusedVariables false
set_option linter.unusedSimpArgs false
set_option maxRecDepth 100000
theorem Nl.lit2{W:World}{g:Nat}{D1 D2 M1 M2 E1 E2 r1 r2:Int}{s1 s2:Bool}(hg:W.heap.size=g)(h1:LQ M1)(h2:LQ M2)(k1:rk D1 s1 M1 E1=r1)(k2:rk D2 s2 M2 E2=r2):
  Nl (W.alloc (.cells #[.int .i64 D1,.bool s1,.int .u64 M1,.int .i64 E1,.int .i64 D2,.bool s2,.int .u64 M2,.int .i64 E2] 24)) (some ⟨g,0,none⟩) 2 2 [r1,r2]:=by
 subst hg;have hh:=heap_alloc_new W (.cells #[.int .i64 D1,.bool s1,.int .u64 M1,.int .i64 E1,.int .i64 D2,.bool s2,.int .u64 M2,.int .i64 E2] 24)
 refine⟨rfl,Nat.le_refl _,by decide,fun _=>⟨_,0,rfl,fun k hk=>?_⟩⟩
 rcases (by omega:k=0\/k=1)with rfl | rfl
 ·exact⟨D1,s1,M1,E1,by rw[cell_of_row _ _ _ _ _ _ hh];rfl,by rw[cell_of_row _ _ _ _ _ _ hh];rfl,by rw[cell_of_row _ _ _ _ _ _ hh];rfl,by rw[cell_of_row _ _ _ _ _ _ hh];rfl,h1,k1⟩
 ·exact⟨D2,s2,M2,E2,by rw[cell_of_row _ _ _ _ _ _ hh];rfl,by rw[cell_of_row _ _ _ _ _ _ hh];rfl,by rw[cell_of_row _ _ _ _ _ _ hh];rfl,by rw[cell_of_row _ _ _ _ _ _ hh];rfl,h2,k2⟩
theorem Eg{a b:Int}(ha:a<=19342822337206103650074625):oc [a,b]=min a b:=by
 have:=dj
 show min (min TP a) b=_
 omega
theorem ve{a b:Int}(ha: -19342822337206103650074625<=a):mW [a,b]=max a b:=by
 have:=dj
 show max (max (-TP) a) b=_
 omega
set_option maxHeartbeats 2000000 in
theorem GI{w:World}{e:Bool}{D M E D' M' E':Int}{s s':Bool}{e2:Bool}{G P Q G' P' Q':Int}{g g':Bool}{x y z:Sp}(hM:LQ M)(hM':LQ M')(hP:LQ P)(hP':LQ P')(hx:jL e D s M E D' s' M' E'=x)(hy:jL e2 G g P Q G' g' P' Q'=y)(hr:bY x y=z):Calls prog 95 #[VI e D s M E D' s' M' E',VI e2 G g P Q G' g' P' Q'] w (PV w z):=by
 delta VI
 have HX:=ie hx;have HY:=ie hy;clear hx hy
 go_enter func95,ntmps95
 go_upto_region 1 with (fail)
 generalize N:((w.alloc _).alloc _).alloc _=w1 at *;obtain⟨X2,H,a,f⟩:=Bo.en3 N;clear N;have gP:=X2.cell
 go_wp2_with fail
 refine(kF hM hM' HX.out).mono ?_;rintro ee w2 ⟨e1,K1,s1,M1,E1,r,F,t,q,rfl,v1,B⟩;clear gP;replace H:=H.b B;replace a:=a.b B;replace f:=aa f B;clear B
 go_upto_region 2 with (fail)
 have bD:=H.lt;have bH:=a.lt;generalize j:w2.alloc _=w3 at *;obtain⟨o,n⟩:=Bo.nw j;clear j;replace H:=H.b n;replace a:=a.b n;replace f:=aa f n;clear n;have gS:=H.cell
 go_wp2_with fail
 refine(kF hP hP' HY.out).mono ?_;rintro ee w4 ⟨e2,K2,s2,M2,E2,J,T,L,I,rfl,v2,B⟩;clear gS;replace a:=a.b B;replace o:=o.b B;replace f:=aa f B;clear B
 go_upto_region 3 with (fail)
 have fH:=a.lt;have bN:=o.lt;generalize j:w4.alloc _=w5 at *;obtain⟨X,n⟩:=Bo.nw j;clear j;replace a:=a.b n;replace o:=o.b n;replace f:=aa f n;clear n;clear HX HY hM hM' hP hP'
 rcases x with _ | ⟨V,W⟩
 ·obtain⟨rfl,y1,hA⟩:=v1
  obtain rfl:y=z:=hr
  have k:=a.cell;have d:=a.frozen;have h:=o.cell;have i:=X.cell;go_wp2;clear k d h i;have p:=ae.t9 a e2 K2 s2 M2 E2 J T L I
  exact bq (by simp[results,results95,go_sem,p.box.cell]) rfl ⟨_,_,_,_,_,_,_,_,_,rfl,v2,(p.below f.out (by omega))⟩
 ·obtain⟨rfl,a1,Y,o1,S,R⟩:=v1
  rcases y with _ | ⟨Z,yb⟩
  ·obtain⟨rfl,y2,hB⟩:=v2
   obtain rfl:some (V,W)=z:=hr
   have k:=a.cell;have d:=a.frozen;have h:=o.cell;have i:=X.cell;go_wp2;clear k d h i;have p:=ae.t9 a false K1 s1 M1 E1 r F t q
   exact bq (v:= .agg #[.bool false,.int .i64 K1,.bool s1,.int .u64 M1,.int .i64 E1,.int .i64 r,.bool F,.int .u64 t,.int .i64 q]) (by simp[results,results95,go_sem,p.box.cell]) rfl ⟨_,_,_,_,_,_,_,_,_,rfl,⟨rfl,a1,Y,o1,S,R⟩,(p.below f.out (by omega))⟩
  ·obtain⟨rfl,a2,b2,o2,gB,fP⟩:=v2
   have hu:oc [V,Z]=min V Z:=Eg a1.bd.2
   have hl:mW [W,yb]=max W yb:=ve Y.bd.1
   obtain⟨u,C⟩:∃u,min V Z=u:=⟨_,rfl⟩;obtain⟨l,A⟩:∃l,max W yb=l:=⟨_,rfl⟩
   have O:eB u l=z:=by rw[<-C,<-A];exact hr
   rw[C]at hu;rw[A]at hl;have HU:=ie hu;have HL:=ie hl;have HR:=ie O;clear hu hl C A hr O o1 S R o2 gB fP;have h:=o.cell;have i:=X.cell
   go_upto_region 7 with (fail)
   clear h i;refine jk [0,1,2,3,4,5,6,7,8,9,10,11,12] [some 17,some 18,some 19,some 20,some 21,some 22,some 23,some 24,some 25,some 26,some 27,some 28,some 29,none] [[],[0],[],[2],[1,3],[4],[],[6],[],[8],[7,9],[10],[5,11],[]] 14 1 [Jo.qp w2.heap.size 1,Jo.q4 K1 s1 M1 E1,Jo.qp w4.heap.size 1,Jo.q4 K2 s2 M2 E2,Jo.Fact.nl 2 [V,Z],Jo.Fact.num u,Jo.qp w2.heap.size 5,Jo.q4 r F t q,Jo.qp w4.heap.size 5,Jo.q4 J T L I,Jo.Fact.nl 2 [W,yb],Jo.Fact.num l,Jo.Fact.iv z,Jo.Fact.any] ?_ ?_
   ·iterate 4 (refine jm ?_ ?_;rotate_left)
    refine jm ?_ ?_
    ·rintro U m _ rfl _ rfl K c;simp only[Jo.z]at c|-;go_simp;exact c.out _ _ ⟨_,2,rfl,Nl.lit2 rfl a1.top a2.top a1.rk a2.rk⟩ (af _ _)
    refine jm ?_ ?_
    ·rintro U m _ ⟨A4,c4,rfl,h4⟩ K c;simp only[Jo.z]at c|-;go_simp;exact Jo.n1 (Io h4 HU.out) c.out
    iterate 4 (refine jm ?_ ?_;rotate_left)
    refine jm ?_ ?_
    ·rintro U m _ rfl _ rfl K c;simp only[Jo.z]at c|-;go_simp;exact c.out _ _ ⟨_,2,rfl,Nl.lit2 rfl Y.top b2.top Y.rk b2.rk⟩ (af _ _)
    refine jm ?_ ?_
    ·rintro U m _ ⟨A5,c5,rfl,h5⟩ K c;simp only[Jo.z]at c|-;go_simp;exact Jo.n1 (JF h5 HL.out) c.out
    refine jm ?_ ?_
    ·rintro U m _ ⟨K3,s3,M3,E3,rfl,q3⟩ _ ⟨K4,s4,M4,E4,rfl,q4⟩ K c;simp only[Jo.z]at c|-;go_simp;exact Jo.v1 (oI q3.top q4.top q3.rk q4.rk HR.out) c.out
    exact jo
    all_goals (rintro U m;(repeat rintro _ rfl);intro K c;simp only[Jo.z]at c|-;have h:=(o.b m).cell;have i:=(X.b m).cell;go_simp;exact c.out _ _ rfl (br _ _))
   rintro w8 m _ _ _ rfl _ _ _ rfl _ ⟨A4,c4,rfl,_⟩ _ ⟨K3,s3,M3,E3,rfl,q3⟩ _ _ _ rfl _ _ _ rfl _ ⟨A5,c5,rfl,_⟩ _ ⟨K4,s4,M4,E4,rfl,q4⟩ _ ⟨e5,K5,s5,M5,E5,bB,gO,bC,bA,rfl,v5⟩ -;simp only[Jo.z];replace a:=a.b m;replace f:=aa f m;have k:=a.cell;have d:=a.frozen
   refine jn 13 fun K c=>?_
   go_simp;refine c.out _ _ ?_;clear c K k d;have p:=ae.t9 a e5 K5 s5 M5 E5 bB gO bC bA;refine jd ?_;go_wp2;exact bq (by simp[results,results95,go_sem,p.box.cell]) rfl ⟨_,_,_,_,_,_,_,_,_,rfl,v5,(p.below f.out (by omega))⟩
end Go.Proofs.YtomikokonmikgaaGreatDoor
namespace Go.Proofs.YtomikokonmikgaaGreatDoor
open Go.Proofs.Tryz
open Go Go.RowKit
set_option linter.unusedVariables false
theorem zC{x m c:Int}(hm:max x (-x)=m)(h:ag m (ak 1073741824)=c):decide (0<=c)=!(gq x):=by
 subst hm;have t:=Jr
 unfold gq
 rw[<-h]
 by_cases g: -ak 1073741824 < x/\x < ak 1073741824
 ·rw[dt g,aq (show max x (-x) < ak 1073741824 by omega)]
  rfl
 ·rw[df g]
  rcases aO (max x (-x)) (ak 1073741824)with ⟨a,b⟩ | ⟨a,b⟩ | ⟨a,b⟩
  ·omega
  ·rw[b];rfl
  ·rw[b];rfl
theorem Ei{x:Int}(ha: -19342822337206103650074625<=x):mW [x,-x]=max x (-x):=ve ha
theorem DE{D M E x:Int}{s:Bool}(hM:LQ M)(hx:rk D s M E=x)(hb:gq x=true):
  ∃N F,(jp D s M E).1=N/\(jp D s M E).2=F/\mk N F=(N,F)/\vr x=N*2^(F+KK).toNat/\N.natAbs < 2^64/\ -2900000<=F/\F<=2900000:=by
 have zero:∀N:Int,N=0->vr 0=N*2^((0:Int)+KK).toNat:=fun N e=>by rw[e,Int.zero_mul];rfl
 by_cases h:aC D s M E
 ·have q:=eU hM h;rw[hx]at q
  rcases tL q with⟨rfl,rfl⟩ | rfl | rfl
  ·obtain⟨_,rfl,rfl,rfl⟩:=q.uniq Fq.nought;exact⟨0,0,by decide,by decide,da 0,zero 0 rfl,by decide,by decide,by decide⟩
  ·obtain⟨N,F,_,a,b,f,d,c,g1,g2,_⟩:=tJ q;exact⟨N,F,a,b,f,d,c,g1,g2⟩
  ·rw[(tK q).1]at hb
   cases hb
 ·have e:jp D s M E=(0,0):=by
   unfold jp lW
   rw[df h]
   rfl
  rw[fs h]at hx;subst hx;exact⟨0,0,by rw[e],by rw[e],da 0,zero 0 rfl,by decide,by decide,by decide⟩
theorem zD{N F P Q x:Int}(nf:mk N F=(N,F))(hv:vr x=N*2^(F+KK).toNat)(h64:N.natAbs < 2^64)(h1: -2900000<=F)(h2:F<=2900000)(hb:gq x=true)
  (hP:(GY (mk N F) 192).1=P) (hQ:(GY (mk N F) 192).2=Q):rL (mk P Q).1 (mk P Q).2=du x:=by
 have a:=nN nf (Nat.lt_trans h64 (by decide)) h1 h2
 have e:mv N F 192=mk N (F+192):=by
  unfold mv
  rw[if_neg (by omega),nf]
 rw[nf]at hP hQ
 have e2:mk P Q=(P,Q):=by
  have:=ft N (F+192)
  rw[<-hP,<-hQ];exact this
 rw[e2,eL hb,hv,<-a,e,<-hP,<-hQ]
 rfl
end Go.Proofs.YtomikokonmikgaaGreatDoor
namespace Go.Proofs.YtomikokonmikgaaGreatDoor
open Go.Proofs.Tryz
set_option maxHeartbeats 4000000
open Go.RowKit
set_option linter.unusedVariables false
theorem EU{q d d':Nat}(h:d=0↔d'=0):gl q d=gl q d':=by
 unfold gl
 by_cases c:d=0
 ·rw[if_pos c,if_pos (h.1 c)]
 ·rw[if_neg c,if_neg (fun e=>c (h.2 e))]
theorem vJ (q d:Nat):gl q d<=2*q+1:=by
 unfold gl
 split <;> omega
theorem mc{a k:Nat}(h0:0 < a)(h:k < ac a):2^k<=a:=by
 have h1:=blen_le (n:=a) (by omega);exact Nat.le_trans (Nat.pow_le_pow_right (by decide) (by omega)) h1
theorem Es{α β k:Nat}{e:Int}(hα:0 < α)(hβ:0 < β)(hk:(ac β:Int)-(ac α:Int)+64=(k:Int))(ha:ac α<=112000)(hb:ac β<=112000)(e1: -2200000<=e)(e2:e<=2200000)(σ up:Bool):
  fF up (aj σ ((α:Int)*2^(e+KK).toNat)) (β:Int) (ed up (mk (aj σ ((gl (α*2^k/β) (α*2^k%β):Nat):Int)) (e-k-1)).1 (mk (aj σ ((gl (α*2^k/β) (α*2^k%β):Nat):Int)) (e-k-1)).2):=by
 obtain⟨κ,b⟩:∃κ:Nat,κ=500000:=⟨_,rfl⟩
 have la:0 < ac α:=by
  rcases Nat.eq_zero_or_pos (ac α)with c | c
  ·have:=dS α
   rw[c]at this
   omega
  ·exact c
 have hq:9223372036854775808<=α*2^k/β:=by
  rw[Nat.le_div_iff_mul_le hβ];have d:=dS β
  have l2:2^63*β<=2^63*2^ac β:=Nat.mul_le_mul_left _ (Nat.le_of_lt d)
  have f:=mc (k:=ac α-1) hα (by omega)
  have a:2^(ac α-1)*2^k<=α*2^k:=Nat.mul_le_mul_right _ f
  rw[<-Nat.pow_add]at l2 a
  rw[show ac α-1+k=63+ac β by omega]at a
  omega
 have hs:gl (α*2^k/β) (α*2^k%β) < 2^κ:=by
  have i:α*2^k/β<=α*2^k:=Nat.div_le_self _ _
  have g:α*2^k < 2^ac α*2^k:=Nat.mul_lt_mul_of_pos_right (dS α) (Nat.pow_pos (by decide))
  rw[<-Nat.pow_add]at g;have j:=vJ (α*2^k/β) (α*2^k%β)
  have h:2^(ac α+k+1)<=2^κ:=Nat.pow_le_pow_right (by decide) (by omega)
  rw[Nat.pow_succ]at h
  omega
 rw[oW]
 exact o7 (mD (up !=σ) hβ (fun _=>hq) b hs (by omega) (by omega))
theorem Au{α β k:Nat}:α%(β*2^k)=0↔α/2^k*2^k=α/\α/2^k%β=0:=by
 have c:0 < 2^k:=Nat.pow_pos (by decide)
 constructor
 ·intro h
  obtain⟨t,ht⟩:=Nat.dvd_of_mod_eq_zero h
  have e:α/2^k=β*t:=by
   rw[ht,Nat.mul_right_comm,Nat.mul_div_cancel _ c]
  rw[e];refine⟨?_,Nat.mul_mod_right _ _⟩;rw[ht,Nat.mul_right_comm]
 ·rintro ⟨a,b⟩;obtain⟨t,ht⟩:=Nat.dvd_of_mod_eq_zero b;rw[<-a,ht,Nat.mul_right_comm];exact Nat.mul_mod_right _ _
theorem Er{α β k d:Nat}{e:Int}(hα:0 < α)(hβ:0 < β)(hk:(ac β:Int)-(ac α:Int)+64= -(k:Int))(ha:ac α<=112000)(e1: -2200000<=e)(e2:e<=2200000)(hd:d=0↔(α/2^k*2^k=α/\α/2^k%β=0))(σ up:Bool):
  fF up (aj σ ((α:Int)*2^(e+KK).toNat)) (β:Int) (ed up (mk (aj σ ((gl (α/2^k/β) d:Nat):Int)) (e+k-1)).1 (mk (aj σ ((gl (α/2^k/β) d:Nat):Int)) (e+k-1)).2):=by
 have c:=dL;obtain⟨κ,g⟩:∃κ:Nat,κ=500000:=⟨_,rfl⟩
 have f:0 < 2^k:=Nat.pow_pos (by decide)
 have a:0 < β*2^k:=Nat.mul_pos hβ f
 have b:gl (α/2^k/β) d=gl (α/ (β*2^k)) (α%(β*2^k)):=by
  rw[Nat.div_div_eq_div_mul,Nat.mul_comm (2^k) β];exact EU (hd.trans Au.symm)
 rw[b]
 have hq:9223372036854775808<=α/ (β*2^k):=by
  rw[Nat.le_div_iff_mul_le a];have i:=dS β
  have l2:2^63*(β*2^k)<=2^63*(2^ac β*2^k):=Nat.mul_le_mul_left _ (Nat.mul_le_mul_right _ (Nat.le_of_lt i))
  have j:=mc (k:=ac α-1) hα (by omega);rw[<-Nat.pow_add,<-Nat.pow_add]at l2
  rw[show ac α-1=63+(ac β+k) by omega]at j
  omega
 have hs:gl (α/ (β*2^k)) (α%(β*2^k)) < 2^κ:=by
  have m:α/ (β*2^k)<=α:=Nat.div_le_self _ _
  have o:=dS α;have p:=vJ (α/ (β*2^k)) (α%(β*2^k))
  have l:2^(ac α+1)<=2^κ:=Nat.pow_le_pow_right (by decide) (by omega)
  rw[Nat.pow_succ]at l
  omega
 have h:=mD (α:=α) (β:=β*2^k) (e:=e+k) (n:=0) (up !=σ) a (fun _=>by rw[Nat.pow_zero,Nat.mul_one];exact hq) g (by rw[Nat.pow_zero,Nat.mul_one];exact hs) (by omega) (by omega)
 rw[Nat.pow_zero,Nat.mul_one,show e+(k:Int)-((0:Nat):Int)-1=e+k-1 by omega]at h
 rw[oW];refine o7 (h.cross (by omega) (by omega) ?_)
 have e3:(e+(k:Int)+(KK:Int)).toNat=(e+(KK:Int)).toNat+k:=by omega
 rw[e3,Int.pow_add]
 push_cast
 generalize (2:Int)^(e+(KK:Int)).toNat=U;generalize (2:Int)^k=V;rw[Int.mul_assoc,Int.mul_assoc,Int.mul_assoc,Int.mul_comm V (β:Int)]
set_option linter.unusedSimpArgs false
set_option maxRecDepth 100000
def Pk (w:World)(A:Option Addr)(n c:Nat)(t:Bool)(x:Int)(P:Bool->Bool->Int->Prop):Prop:=
 ∃q d:Nat,Nm w A n c q/\n<=20000/\decide (d=0)=t/\ -3000000<=x/\x<=3000000/\∀σ up,P σ up (ed up (mk (aj σ ((gl q d:Nat):Int)) (x-1)).1 (mk (aj σ ((gl q d:Nat):Int)) (x-1)).2)
theorem Pk.below{w w':World}{A:Option Addr}{n c:Nat}{t:Bool}{x:Int}{P:Bool->Bool->Int->Prop}(h:Pk w A n c t x P)(b:Below w.heap.size w w'):Pk w' A n c t x P:=by
 obtain⟨q,d,h1,h2⟩:=h;exact⟨q,d,h1.below b,h2⟩
abbrev Pk.b:= @Pk.below
def Ki (w:World)(P:Bool->Bool->Int->Prop)(e:Ending)(w':World):Prop:=∃A n c t x,e= .returned (.agg #[.slice A n c,.bool t,.int .i64 x])/\Pk w' A n c t x P/\Below w.heap.size w w'
def Jo.Fact.pk (P:Bool->Bool->Int->Prop):Jo.Fact:=⟨fun v w=>∃A n c t x,v= .agg #[.slice A n c,.bool t,.int .i64 x]/\Pk w A n c t x P,fun v w w' h b=>by
 obtain⟨A,n,c,t,x,e,p⟩:=h;exact⟨A,n,c,t,x,e,p.below b⟩⟩
def JL (w:World)(Q:Nat)(t:Bool)(x:Int)(e:Ending)(w':World):Prop:=∃A n c,e= .returned (.agg #[.slice A n c,.bool t,.int .i64 x])/\Nm w' A n c Q/\n<=20000/\Below w.heap.size w w'
def MV (α:Nat)(z:Int)(T:Nat)(t:Bool):Prop:=∀(w:World) (A:Option Addr) (n c:Nat),Rd w A n c α->n<=8000->Calls prog 250 #[.slice A n c,.int .i64 z] w (JS w 15000 T t)
theorem mA{w:World}{A B:Option Addr}{n c m d α β T Q R:Nat}{La Lb z e x:Int}(ha:Rd w A n c α)(hb:Rd w B m d β)(hn:n<=8000)(hβ:β≠0)(hla:((ac α:Nat):Int)=La)(hlb:((ac β:Nat):Int)=Lb)(hz:Lb-La+64=z)(z1: -200000<=z)(z2:z<=200000)(hx:e-z=x)(x1: -3000000<=x)(x2:x<=2097152)
  (hm:MV α z T true) (hQ:T/β=Q) (hR:T%β=R) (h0:R=0):Calls prog 215 #[.slice A n c,.slice B m d,.int .i64 e] w (JL w Q true x):=by
 have L:=ie hm;have j:=ie hla;have k:=ie hlb;have M:=ie hQ;have p:=ie hR;have H:=ie h0;have i:=ie hβ
 have e0:Lb-La=z-64:=by omega
 have q:Hid (IntKind.i64.wrap (Lb-La)=z-64):=ie (by rw[e0];exact IntWalk.i64_in _ (by omega))
 have r:Hid (wrap64 z=z):=ie (IntWalk.wrap64_in _ (by omega))
 have N:Hid (wrap64 x=x):=ie (IntWalk.wrap64_in _ (by omega))
 have t:Hid (IntKind.i64.wrap (e-z)=x):=ie (by rw[hx];exact IntWalk.i64_in _ (by omega))
 have S:z<=2097152:=by omega
 have o:Hid (min z 2097152=z):=ie (by omega)
 have l:Hid (min x 2097152=x):=ie (by omega)
 clear hm hla hlb hz e0 hx hQ hR h0 hβ z1 z2 x1
 go_enter func215,ntmps215
 go_upto_region 1 with (fail)
 generalize g:w.alloc _=w1 at *;obtain⟨f,a⟩:=Bo.en1 g;replace ha:=ha.below a.out;replace hb:=hb.below a.out;clear g
 go_wp2_with fail
 refine(iW hb k.out).mono ?_;rintro y w2 ⟨rfl,B⟩;replace f:=f.b B;replace ha:=ha.b B;replace hb:=hb.b B;replace a:=aa a B;clear B
 go_wp2_with fail
 refine(iW ha j.out).mono ?_;rintro y w3 ⟨rfl,B⟩;replace f:=f.b B;replace ha:=ha.b B;replace hb:=hb.b B;replace a:=aa a B;clear B;have D:=q.out;have E:=r.out;have C:=o.out
 go_wp2_with fail
 refine(L.out _ _ _ _ ha hn).mono ?_;rintro y w4 ⟨A4,n4,c4,rfl,I,X,B⟩;replace f:=f.b B;replace hb:=hb.b B;replace a:=aa a B;clear B;clear D E C
 go_wp2_with fail
 refine(CN I.rd hb (by omega) i.out M.out p.out).mono ?_;rintro y w5 ⟨A5,n5,c5,V,U,W,rfl,F,J,Y,Z,B⟩;replace f:=f.b B;replace a:=aa a B;clear B;clear hb I
 obtain rfl:U=0:=by have:=J.pos;have:=H.out;omega
 clear J H;have P:=t.out;have O:=l.out;have G:=f.cell;have h:=f.frozen;go_wp2;clear G h;have u:=ae.mk3 f (.slice A5 n5 c5) (.bool true) (.int .i64 x);replace F:=F.s u;exact bq (v:= .agg #[.slice A5 n5 c5,.bool true,.int .i64 x]) (by simp[results,results215,go_sem,u.box.cell]) rfl ⟨A5,n5,c5,rfl,F,by omega,(u.below a.out (by omega))⟩
theorem mB{w:World}{A B:Option Addr}{n c m d α β T Q R:Nat}{La Lb z e x:Int}(ha:Rd w A n c α)(hb:Rd w B m d β)(hn:n<=8000)(hβ:β≠0)(hla:((ac α:Nat):Int)=La)(hlb:((ac β:Nat):Int)=Lb)(hz:Lb-La+64=z)(z1: -200000<=z)(z2:z<=200000)(hx:e-z=x)(x1: -3000000<=x)(x2:x<=2097152)
  (hm:MV α z T true) (hQ:T/β=Q) (hR:T%β=R) (h0:R≠0):Calls prog 215 #[.slice A n c,.slice B m d,.int .i64 e] w (JL w Q false x):=by
 have N:=ie hm;have k:=ie hla;have l:=ie hlb;have O:=ie hQ;have q:=ie hR;have i:=ie h0;have j:=ie hβ
 have e0:Lb-La=z-64:=by omega
 have r:Hid (IntKind.i64.wrap (Lb-La)=z-64):=ie (by rw[e0];exact IntWalk.i64_in _ (by omega))
 have t:Hid (wrap64 z=z):=ie (IntWalk.wrap64_in _ (by omega))
 have P:Hid (wrap64 x=x):=ie (IntWalk.wrap64_in _ (by omega))
 have u:Hid (IntKind.i64.wrap (e-z)=x):=ie (by rw[hx];exact IntWalk.i64_in _ (by omega))
 have W:z<=2097152:=by omega
 have p:Hid (min z 2097152=z):=ie (by omega)
 have o:Hid (min x 2097152=x):=ie (by omega)
 clear hm hla hlb hz e0 hx hQ hR h0 hβ z1 z2 x1
 go_enter func215,ntmps215
 go_upto_region 1 with (fail)
 generalize g:w.alloc _=w1 at *;obtain⟨f,a⟩:=Bo.en1 g;replace ha:=ha.below a.out;replace hb:=hb.below a.out;clear g
 go_wp2_with fail
 refine(iW hb l.out).mono ?_;rintro C w2 ⟨rfl,B⟩;replace f:=f.b B;replace ha:=ha.b B;replace hb:=hb.b B;replace a:=aa a B;clear B
 go_wp2_with fail
 refine(iW ha k.out).mono ?_;rintro C w3 ⟨rfl,B⟩;replace f:=f.b B;replace ha:=ha.b B;replace hb:=hb.b B;replace a:=aa a B;clear B;have E:=r.out;have F:=t.out;have D:=p.out
 go_wp2_with fail
 refine(N.out _ _ _ _ ha hn).mono ?_;rintro C w4 ⟨A4,n4,c4,rfl,M,Z,B⟩;replace f:=f.b B;replace hb:=hb.b B;replace a:=aa a B;clear B;clear E F D
 go_wp2_with fail
 refine(CN M.rd hb (by omega) j.out O.out q.out).mono ?_;rintro C w5 ⟨A5,n5,c5,X,G,Y,rfl,H,I,k5,l5,B⟩;replace f:=f.b B;replace a:=aa a B;clear B;clear hb M
 have U:((G:Int)==0)=false:=by
  have:=I.pos
  have:=i.out
  have:(G:Int)≠0:=by omega
  simpa using this
 have L:¬G=0:=by have:=I.pos;have:=i.out;omega
 clear I i;have V:=u.out;have S:=o.out;have J:=f.cell;have h:=f.frozen;go_wp2;clear J h;have y:=ae.mk3 f (.slice A5 n5 c5) (.bool false) (.int .i64 x);replace H:=H.s y;exact bq (v:= .agg #[.slice A5 n5 c5,.bool false,.int .i64 x]) (by simp[results,results215,go_sem,y.box.cell]) rfl ⟨A5,n5,c5,rfl,H,by omega,(y.below a.out (by omega))⟩
theorem sF{w:World}{A B:Option Addr}{n c m d α β T Q R:Nat}{La Lb z e x:Int}(ha:Rd w A n c α)(hb:Rd w B m d β)(hn:n<=8000)(hβ:β≠0)(hla:((ac α:Nat):Int)=La)(hlb:((ac β:Nat):Int)=Lb)(hz:Lb-La+64=z)(z1: -200000<=z)(z2:z<=200000)(hx:e-z=x)(x1: -3000000<=x)(x2:x<=2097152)
  (hm:MV α z T false) (hQ:T/β=Q) (hR:T%β=R) (h0:True):Calls prog 215 #[.slice A n c,.slice B m d,.int .i64 e] w (JL w Q false x):=by
 have J:=ie hm;have j:=ie hla;have k:=ie hlb;have L:=ie hQ;have p:=ie hR;have I:=ie h0;have i:=ie hβ
 have e0:Lb-La=z-64:=by omega
 have q:Hid (IntKind.i64.wrap (Lb-La)=z-64):=ie (by rw[e0];exact IntWalk.i64_in _ (by omega))
 have r:Hid (wrap64 z=z):=ie (IntWalk.wrap64_in _ (by omega))
 have M:Hid (wrap64 x=x):=ie (IntWalk.wrap64_in _ (by omega))
 have t:Hid (IntKind.i64.wrap (e-z)=x):=ie (by rw[hx];exact IntWalk.i64_in _ (by omega))
 have P:z<=2097152:=by omega
 have o:Hid (min z 2097152=z):=ie (by omega)
 have l:Hid (min x 2097152=x):=ie (by omega)
 clear hm hla hlb hz e0 hx hQ hR h0 hβ z1 z2 x1
 go_enter func215,ntmps215
 go_upto_region 1 with (fail)
 generalize g:w.alloc _=w1 at *;obtain⟨f,a⟩:=Bo.en1 g;replace ha:=ha.below a.out;replace hb:=hb.below a.out;clear g
 go_wp2_with fail
 refine(iW hb k.out).mono ?_;rintro y w2 ⟨rfl,B⟩;replace f:=f.b B;replace ha:=ha.b B;replace hb:=hb.b B;replace a:=aa a B;clear B
 go_wp2_with fail
 refine(iW ha j.out).mono ?_;rintro y w3 ⟨rfl,B⟩;replace f:=f.b B;replace ha:=ha.b B;replace hb:=hb.b B;replace a:=aa a B;clear B;have D:=q.out;have E:=r.out;have C:=o.out
 go_wp2_with fail
 refine(J.out _ _ _ _ ha hn).mono ?_;rintro y w4 ⟨A4,n4,c4,rfl,H,W,B⟩;replace f:=f.b B;replace hb:=hb.b B;replace a:=aa a B;clear B;clear D E C
 go_wp2_with fail
 refine(CN H.rd hb (by omega) i.out L.out p.out).mono ?_;rintro y w5 ⟨A5,n5,c5,U,Z,V,rfl,F,S,X,Y,B⟩;replace f:=f.b B;replace a:=aa a B;clear B;clear hb H;clear S I;have O:=t.out;have N:=l.out;have G:=f.cell;have h:=f.frozen;go_wp2;clear G h;have u:=ae.mk3 f (.slice A5 n5 c5) (.bool false) (.int .i64 x)
 replace F:=F.s u;exact bq (v:= .agg #[.slice A5 n5 c5,.bool false,.int .i64 x]) (by simp[results,results215,go_sem,u.box.cell]) rfl ⟨A5,n5,c5,rfl,F,by omega,(u.below a.out (by omega))⟩
theorem AO{α k:Nat}(hk:k<=200000):MV α (k:Int) (α*2^k) true:=fun w A n c h hn=>xK h hn hk rfl
theorem AN{α k:Nat}{z:Int}(h0:0 < k)(hk:k<=200000)(hz: -z=(k:Int)):MV α z (α/2^k) (decide (α/2^k*2^k=α)):=fun w A n c h hn=>by
 refine xJ h hn hk h0 hz rfl rfl rfl ?_
 by_cases c:α/2^k*2^k=α
 ·rw[dt c,c,kx]
  rfl
 ·rw[df c]
  have:¬ag ((α/2^k*2^k:Nat):Int) (α:Int)=0:=fun e=>c (by have:=dG.1 e;omega)
  simpa using this
theorem qK{w:World}{A B:Option Addr}{n c m d α β:Nat}{e:Int}{P:Bool->Bool->Int->Prop}(ha:Rd w A n c α)(hb:Rd w B m d β)(hn:n<=3500)(hm:m<=3500)(hα:0 < α)(hβ:0 < β)(e1: -2200000<=e)(e2:e<=2200000)(e3:e-((ac β:Int)-(ac α:Int)+64)<=2097152)
  (hP:∀σ up r,fF up (aj σ ((α:Int)*2^(e+(KK:Int)).toNat)) (β:Int) r->P σ up r):Calls prog 215 #[.slice A n c,.slice B m d,.int .i64 e] w (Ki w P):=by
 have q:=ha.blen_le;have s:=hb.blen_le;obtain⟨z,hz⟩:∃z:Int,(ac β:Int)-(ac α:Int)+64=z:=⟨_,rfl⟩;rw[hz]at e3
 have a:β≠0:=by omega
 have fin:∀{Q D:Nat} {t b:Bool},b=t->decide (D=0)=t->(∀σ up,fF up (aj σ ((α:Int)*2^(e+(KK:Int)).toNat)) (β:Int) (ed up (mk (aj σ ((gl Q D:Nat):Int)) (e-z-1)).1 (mk (aj σ ((gl Q D:Nat):Int)) (e-z-1)).2))->∀f w',JL w Q b (e-z) f w'->Ki w P f w':=by
  rintro Q D t b rfl ht hs f w' ⟨l,v,o,u,i,j,g⟩
  exact⟨l,v,o,b,e-z,u,⟨Q,D,i,j,ht,by omega,by omega,fun σ up=>hP σ up _ (hs σ up)⟩,g⟩
 rcases Int.lt_or_le z 0 with c0 | c0
 ·obtain⟨k,j⟩:∃k:Nat,z= -(k:Int):=⟨z.natAbs,by omega⟩
  have mv:=AN (α:=α) (k:=k) (z:=z) (by omega) (by omega) (by omega)
  have hs:=fun {D} (hd:D=0↔(α/2^k*2^k=α/\α/2^k%β=0)) (σ up:Bool)=>Er (e:=e) (d:=D) hα hβ (by omega) (by omega) e1 e2 hd σ up
  have p:e+(k:Int)-1=e-z-1:=by omega
  rw[p]at hs
  by_cases h1:α/2^k*2^k=α
  ·rw[dt h1]at mv
   by_cases h2:α/2^k%β=0
   ·exact(mA ha hb (by omega) a rfl rfl hz (by omega) (by omega) rfl (by omega) e3 mv rfl rfl h2).mono (fin (D:=0) rfl rfl (hs ⟨fun _=>⟨h1,h2⟩,fun _=>rfl⟩))
   ·exact(mB ha hb (by omega) a rfl rfl hz (by omega) (by omega) rfl (by omega) e3 mv rfl rfl h2).mono (fin (D:=1) rfl rfl (hs ⟨fun h=>absurd h (by decide),fun h=>absurd h.2 h2⟩))
  ·rw[df h1]at mv
   exact(sF ha hb (by omega) a rfl rfl hz (by omega) (by omega) rfl (by omega) e3 mv rfl rfl trivial).mono (fin (D:=1) rfl rfl (hs ⟨fun h=>absurd h (by decide),fun h=>absurd h.1 h1⟩))
 ·obtain⟨k,rfl⟩:∃k:Nat,z=(k:Int):=⟨z.toNat,by omega⟩
  have mv:=AO (α:=α) (k:=k) (by omega);have hs:=Es (e:=e) hα hβ hz (by omega) (by omega) e1 e2
  by_cases h2:α*2^k%β=0
  ·exact(mA ha hb (by omega) a rfl rfl hz (by omega) (by omega) rfl (by omega) e3 mv rfl rfl h2).mono (fin rfl (dt h2) hs)
  ·exact(mB ha hb (by omega) a rfl rfl hz (by omega) (by omega) rfl (by omega) e3 mv rfl rfl h2).mono (fin rfl (df h2) hs)
theorem xS (q:Nat):gl q 0=q*2^1:=by
 unfold gl
 rw[if_pos rfl]
 omega
theorem Cv{q r:Nat}(h:r≠0):gl q r=q*2^1+1:=by
 unfold gl
 rw[if_neg h]
 omega
theorem o6 (s:Bool)(a:Nat):sg s a=aj s (a:Int):=by
 cases s
 ·rw[kh,aG]
 ·rw[vD,aL]
theorem Aw (W:World):Rd (W.alloc (.cells #[.int .u32 1] 92)) (some ⟨W.heap.size,0,none⟩) 1 1 1:=
 ⟨_,[1],(dk.new W [1]).all (aP.cons (by decide) aP.nil) (by simp) (Nat.le_refl _),by decide⟩
theorem BO{w:World}{A:Option Addr}{n c q a0 a:Nat}{x r:Int}{σ up:Bool}(hT:dQ w)(h:Nm w A n c q)(hn:n<=20000)(h0:q*2^1=a0)(h1:a0=a)(x1: -3000000<=x)(x2:x<=3000000)(hr:ed up (mk (sg σ a) (x-1)).1 (mk (sg σ a) (x-1)).2=r):Calls prog 217 #[.agg #[.slice A n c,.bool true,.int .i64 x],.bool σ,.bool up] w (PN w r):=by
 have y:=ie h0;have v:=ie h1;have C:=ie hr;have D:=iw (x-1);clear h0 h1 hr x1 x2
 go_enter func217,ntmps217
 go_upto_region 1 with (fail)
 generalize k:(w.alloc _).alloc _=w1 at *;obtain⟨j,g,f⟩:=Bo.en2 k;replace hT:=hT.below f.out;replace h:=h.below f.out;clear k;have i:=j.cell
 go_wp2_with fail
 refine(vP (s:=1) h.rd (by omega) (by decide) y.out).mono ?_;rintro O T ⟨A2,n2,c2,rfl,p2,P,B⟩;clear i;replace j:=j.b B;replace g:=g.b B;replace hT:=hT.b B;replace h:=h.b B;replace f:=aa f B;clear B;clear h
 obtain rfl:=v.out
 have i:=j.cell
 go_upto_region 4 with (fail)
 clear i;refine jk [0,1,2,3,4,5,6,7,8] [some 17,some 18,some 19,some 20,some 21,some 22,some 23,some 24,some 25,none] [[],[],[0,1],[],[3],[4],[2,5],[],[6,7],[]] 10 1 [Jo.qb σ,Jo.Fact.eq (.slice A2 n2 c2),Jo.Fact.wn (sg σ a0) 30000,Jo.qp w.heap.size 2,Jo.qi x,Jo.Fact.eq (.int .i64 (x-1)),Jo.Fact.dy (sg σ a0) (x-1) 30000,Jo.qb up,Jo.Fact.num r,Jo.Fact.any] ?_ ?_
 ·iterate 2 (refine jm ?_ ?_;rotate_left)
  refine jm ?_ ?_
  ·rintro l e _ rfl _ rfl K d;simp only[Jo.z]at d|-;go_simp;exact Jo.w1 (kr σ (p2.b e).rd) d.out
  refine jm ?_ ?_;rotate_left
  refine jm ?_ ?_
  ·rintro l e _ rfl K d;simp only[Jo.z]at d|-;have t:=(j.b e).a 2 (.int .i64 x) rfl;go_simp;exact d.out _ _ rfl (br _ _)
  refine jm ?_ ?_
  ·rintro l e _ rfl K d;simp only[Jo.z]at d|-;have G:=D.out;go_simp
   exact d.out _ _ (by first | rfl | (show Value.int _ _=Value.int _ _;rw[G])) (br _ _)
  refine jm ?_ ?_
  ·rintro l e _ ⟨s7,A7,n7,c7,rfl,I,H⟩ _ rfl K d;simp only[Jo.z]at d|-;go_simp;exact d.out _ _ ⟨s7,A7,n7,c7,rfl,I,H⟩ (br _ _)
  refine jm ?_ ?_;rotate_left
  refine jm ?_ ?_
  ·rintro l e _ ⟨S,M,R,N,rfl,J,Q⟩ _ rfl K d;simp only[Jo.z]at d|-;go_simp;exact Jo.n1 (AY (hT.b e) J.wr (by omega) rfl rfl C.out) d.out
  exact jo
  all_goals (rintro l e;(repeat rintro _ rfl);intro K d;simp only[Jo.z]at d|-;go_simp;exact d.out _ _ rfl (br _ _))
 rintro U e _ rfl _ rfl _ ⟨_,_,_,_,rfl,_⟩ _ _ _ rfl _ rfl _ ⟨_,_,_,_,rfl,_⟩ _ rfl _ ⟨E,s9,F,u,rfl,L⟩ -;simp only[Jo.z];replace g:=g.b e;replace f:=aa f e;have o:=g.cell;have m:=g.frozen
 refine jn 9 fun K d=>?_
 go_simp;refine d.out _ _ ?_;clear d K o m;have p:=ae.t4 g E s9 F u;refine jd ?_;go_wp2;exact bq (by simp[results,results217,go_sem,p.box.cell]) rfl ⟨_,_,_,_,rfl,L,(p.below f.out (by omega))⟩
theorem BP{w:World}{A:Option Addr}{n c q a0 a:Nat}{x r:Int}{σ up:Bool}(hT:dQ w)(h:Nm w A n c q)(hn:n<=20000)(h0:q*2^1=a0)(h1:a0+1=a)(x1: -3000000<=x)(x2:x<=3000000)(hr:ed up (mk (sg σ a) (x-1)).1 (mk (sg σ a) (x-1)).2=r):Calls prog 217 #[.agg #[.slice A n c,.bool false,.int .i64 x],.bool σ,.bool up] w (PN w r):=by
 have y:=ie h0;have v:=ie h1;have C:=ie hr;have D:=iw (x-1);clear h0 h1 hr x1 x2
 go_enter func217,ntmps217
 go_upto_region 1 with (fail)
 generalize k:(w.alloc _).alloc _=w1 at *;obtain⟨j,i,g⟩:=Bo.en2 k;replace hT:=hT.below g.out;replace h:=h.below g.out;clear k;have f:=j.cell
 go_wp2_with fail
 refine(vP (s:=1) h.rd (by omega) (by decide) y.out).mono ?_;rintro G O ⟨A2,n2,c2,rfl,p2,R,B⟩;clear f;replace j:=j.b B;replace i:=i.b B;replace hT:=hT.b B;replace h:=h.b B;replace g:=aa g B;clear B;clear h;have f:=j.cell
 go_wp2_with fail
 refine(Jv (p2.below (af _ _)).rd (Aw O) (by omega) (by decide) v.out).mono ?_;rintro G W ⟨A4,n4,c4,rfl,J,S,B⟩;clear f;replace B:=bt (af _ _) B;replace j:=j.b B;replace i:=i.b B;replace hT:=hT.b B;replace g:=aa g B;clear B;clear p2;have f:=j.cell
 go_upto_region 4 with (fail)
 clear f;refine jk [0,1,2,3,4,5,6,7,8] [some 17,some 18,some 19,some 20,some 21,some 22,some 23,some 24,some 25,none] [[],[],[0,1],[],[3],[4],[2,5],[],[6,7],[]] 10 1 [Jo.qb σ,Jo.Fact.eq (.slice A4 n4 c4),Jo.Fact.wn (sg σ a) 30000,Jo.qp w.heap.size 2,Jo.qi x,Jo.Fact.eq (.int .i64 (x-1)),Jo.Fact.dy (sg σ a) (x-1) 30000,Jo.qb up,Jo.Fact.num r,Jo.Fact.any] ?_ ?_
 ·iterate 2 (refine jm ?_ ?_;rotate_left)
  refine jm ?_ ?_
  ·rintro l e _ rfl _ rfl K d;simp only[Jo.z]at d|-;go_simp;exact Jo.w1 (kr σ (J.b e).rd) d.out
  refine jm ?_ ?_;rotate_left
  refine jm ?_ ?_
  ·rintro l e _ rfl K d;simp only[Jo.z]at d|-;have t:=(j.b e).a 2 (.int .i64 x) rfl;go_simp;exact d.out _ _ rfl (br _ _)
  refine jm ?_ ?_
  ·rintro l e _ rfl K d;simp only[Jo.z]at d|-;have H:=D.out;go_simp
   exact d.out _ _ (by first | rfl | (show Value.int _ _=Value.int _ _;rw[H])) (br _ _)
  refine jm ?_ ?_
  ·rintro l e _ ⟨s7,A7,n7,c7,rfl,L,I⟩ _ rfl K d;simp only[Jo.z]at d|-;go_simp;exact d.out _ _ ⟨s7,A7,n7,c7,rfl,L,I⟩ (br _ _)
  refine jm ?_ ?_;rotate_left
  refine jm ?_ ?_
  ·rintro l e _ ⟨V,P,U,Q,rfl,M,T⟩ _ rfl K d;simp only[Jo.z]at d|-;go_simp;exact Jo.n1 (AY (hT.b e) M.wr (by omega) rfl rfl C.out) d.out
  exact jo
  all_goals (rintro l e;(repeat rintro _ rfl);intro K d;simp only[Jo.z]at d|-;go_simp;exact d.out _ _ rfl (br _ _))
 rintro X e _ rfl _ rfl _ ⟨_,_,_,_,rfl,_⟩ _ _ _ rfl _ rfl _ ⟨_,_,_,_,rfl,_⟩ _ rfl _ ⟨E,s9,F,u,rfl,N⟩ -;simp only[Jo.z];replace i:=i.b e;replace g:=aa g e;have o:=i.cell;have m:=i.frozen
 refine jn 9 fun K d=>?_
 go_simp;refine d.out _ _ ?_;clear d K o m;have p:=ae.t4 i E s9 F u;refine jd ?_;go_wp2;exact bq (by simp[results,results217,go_sem,p.box.cell]) rfl ⟨_,_,_,_,rfl,N,(p.below g.out (by omega))⟩
theorem BJ{w:World}{A:Option Addr}{n c:Nat}{t σ up:Bool}{x r:Int}{P:Bool->Bool->Int->Prop}(hT:dQ w)(h:Pk w A n c t x P)(hr:∀r',P σ up r'->r'=r):Calls prog 217 #[.agg #[.slice A n c,.bool t,.int .i64 x],.bool σ,.bool up] w (PN w r):=by
 obtain⟨q,d,a,f,ht,g,x2,i⟩:=h;have e:=hr _ (i σ up);rw[<-o6]at e
 by_cases b:d=0
 ·subst b
  obtain rfl:true=t:=ht
  rw[xS]at e;exact BO hT a f rfl rfl g x2 e
 ·obtain rfl:false=t:=by rw[<-ht];exact(df b).symm
  rw[Cv b]at e;exact BP hT a f rfl rfl g x2 e
theorem xN{up s t:Bool}{z y r:Int}{α β:Nat}(hz:sg s α=z)(hy:sg t β=y)(hβ:0 < β)(hr:Rq up z y r):
  ∃P:Bool->Bool->Int->Prop,(∀σ up r',fF up (aj σ ((α:Int)*2^((0:Int)+(KK:Int)).toNat)) (β:Int) r'->P σ up r')/\(∀r',P (s !=t) up r'->r'=r):=by
 refine⟨_,fun _ _ _ h=>h,fun r' h=>?_⟩
 have:=FU hβ h
 rw[<-o6,<-o6,hz,hy]at this;exact this.uniq hr
theorem xO{up:Bool}{y r:Int}(hy:y≠0)(h:Rq up 0 y r):r=0:=by
 have h1:=(eV hy).1 h
 have e:aj (decide (y < 0)) 0*2^KK=(0:Int):=by
  have:aj (decide (y < 0)) (0:Int)=0:=by cases decide (y < 0) <;> rfl
  rw[this,Int.zero_mul]
 rw[e]at h1
 exact h1.uniq (o0 hy) (gN (r:=0) (o0 hy) (by decide) (by decide) (by rw[show vr 0=0 from rfl,Int.zero_mul]))
theorem DV{w:World}{A B:Option Addr}{n c m d:Nat}{s t up:Bool}{z y r:Int}(hT:dQ w)(h:Wr w s A n c z)(k:Wr w t B m d y)(hn:n<=3500)(hm:m<=3500)(hr:Rq up z y r):Calls prog 173 #[.agg #[.bool s,.slice A n c],.agg #[.bool t,.slice B m d],.bool up] w (PN w r):=by
 obtain⟨σ,I⟩:∃σ,ag y 0=σ:=⟨_,rfl⟩;obtain⟨τ,E⟩:∃τ,ag z 0=τ:=⟨_,rfl⟩;have O:=ie I;have J:=ie E
 go_enter func173,ntmps173
 go_upto_region 1 with (fail)
 generalize H:((w.alloc _).alloc _).alloc _=w1 at *;obtain⟨u,v,g,l⟩:=Bo.en3 H;replace hT:=hT.below l.out;replace h:=h.below l.out;replace k:=k.below l.out;clear H;have D:=v.cell
 go_wp2_with fail
 refine(ju k O.out).mono ?_;rintro R w2 ⟨rfl,B⟩;clear D;replace u:=u.b B;replace v:=v.b B;replace g:=g.b B;replace hT:=hT.b B;replace h:=h.b B;replace k:=k.b B;replace l:=aa l B;clear B
 by_cases o:y=0
 ·have U:(σ==0)=true:=by rw[<-I,aW o];rfl
  subst o;have N:=ie (kg.1 hr).symm;clear h k hT hr I E O J
  go_wp2_with fail
  refine(vw N.out).mono ?_;rintro R w6 ⟨K3,s3,M3,E3,rfl,q3,B⟩;replace u:=u.b B;replace v:=v.b B;replace g:=g.b B;replace l:=aa l B;clear B;have q:=g.cell;have i:=g.frozen;go_wp2;clear q i;have x:=ae.t4 g K3 s3 M3 E3;exact bq (by simp[results,results173,go_sem,x.box.cell]) rfl ⟨_,_,_,_,rfl,q3,(x.below l.out (by omega))⟩
 ·have U:(σ==0)=false:=by
   have:σ≠0:=fun e=>o (dG.1 (I.trans e))
   simpa using this
  clear I O;have C:=u.cell
  go_wp2_with fail
  refine(ju h J.out).mono ?_;rintro R w3 ⟨rfl,B⟩;clear C;replace u:=u.b B;replace v:=v.b B;replace g:=g.b B;replace hT:=hT.b B;replace h:=h.b B;replace k:=k.b B;replace l:=aa l B;clear B
  by_cases p:z=0
  ·have V:(τ==0)=true:=by rw[<-E,aW p];rfl
   subst p
   obtain rfl:=xO o hr
   clear h k hT hr E J;have q:=g.cell;have i:=g.frozen;have C:=u.cell;have D:=v.cell;go_wp2;clear q i C D;have x:=ae.t4 g 0 false 0 0;exact bq (by simp[results,results173,go_sem,x.box.cell]) rfl ⟨_,_,_,_,rfl,Fq.nought,(x.below l.out (by omega))⟩
  ·have V:(τ==0)=false:=by
    have:τ≠0:=fun e=>p (dG.1 (E.trans e))
    simpa using this
   clear E J;obtain⟨α,Y,hz⟩:=h;obtain⟨β,hb,hy⟩:=k
   have α0:0 < α:=by
    rcases Nat.eq_zero_or_pos α with e | e
    ·subst e
     exact absurd (show z=0 by rw[<-hz];cases s <;> rfl) p
    ·exact e
   have β0:0 < β:=by
    rcases Nat.eq_zero_or_pos β with e | e
    ·subst e
     exact absurd (show y=0 by rw[<-hy];cases t <;> rfl) o
    ·exact e
   obtain⟨P,X,G⟩:=xN hz hy β0 hr;have S:=Y.blen_le;have T:=hb.blen_le
   have Q:(0:Int)-((ac β:Int)-(ac α:Int)+64)<=2097152:=by omega
   have L:=ie X;have M:=ie G;clear X G hr hz hy p o S T
   go_upto_region 5 with (fail)
   refine jk [0,1,2,3,4,5,6,7,8,9,10,11] [some 18,some 19,some 20,some 21,some 22,some 23,some 24,some 25,some 26,some 27,some 28,some 29,none] [[],[0],[],[2],[1,3],[],[5],[],[7],[6,8],[],[4,9,10],[]] 13 1 [Jo.qp w.heap.size 1,Jo.Fact.eq (.slice A n c),Jo.qp (w.heap.size+1) 1,Jo.Fact.eq (.slice B m d),Jo.Fact.pk P,Jo.qp w.heap.size 0,Jo.qb s,Jo.qp (w.heap.size+1) 0,Jo.qb t,Jo.Fact.eq (.bool (s !=t)),Jo.qb up,Jo.Fact.num r,Jo.Fact.any] ?_ ?_
   ·refine jm ?_ ?_;rotate_left
    refine jm ?_ ?_
    ·rintro F j _ rfl K f;simp only[Jo.z]at f|-;have bB:=(u.b j).a 1 (.slice A n c) rfl;go_simp;exact f.out _ _ rfl (br _ _)
    refine jm ?_ ?_;rotate_left
    refine jm ?_ ?_
    ·rintro F j _ rfl K f;simp only[Jo.z]at f|-;have bD:=(v.b j).a 1 (.slice B m d) rfl;go_simp;exact f.out _ _ rfl (br _ _)
    refine jm ?_ ?_
    ·rintro F j _ rfl _ rfl K f;simp only[Jo.z]at f|-;go_simp;refine(qK (Y.b j) (hb.b j) (by omega) (by omega) α0 β0 (by decide) (by decide) Q L.out).mono ?_;rintro R wk ⟨A7,n7,c7,Z,x7,rfl,W,B⟩;exact f.out _ _ ⟨A7,n7,c7,Z,x7,rfl,W⟩ B
    refine jm ?_ ?_;rotate_left
    refine jm ?_ ?_
    ·rintro F j _ rfl K f;simp only[Jo.z]at f|-;have bA:=(u.b j).a 0 (.bool s) rfl;go_simp;exact f.out _ _ rfl (br _ _)
    refine jm ?_ ?_;rotate_left
    refine jm ?_ ?_
    ·rintro F j _ rfl K f;simp only[Jo.z]at f|-;have bC:=(v.b j).a 0 (.bool t) rfl;go_simp;exact f.out _ _ rfl (br _ _)
    iterate 2 (refine jm ?_ ?_;rotate_left)
    refine jm ?_ ?_
    ·rintro F j _ ⟨A7,n7,c7,Z,x7,rfl,W⟩ _ rfl _ rfl K f;simp only[Jo.z]at f|-;go_simp;exact Jo.n1 (BJ (hT.b j) W M.out) f.out
    exact jo
    all_goals (rintro F j;(repeat rintro _ rfl);intro K f;simp only[Jo.z]at f|-;go_simp;exact f.out _ _ rfl (br _ _))
   rintro w8 j _ _ _ rfl _ _ _ rfl _ ⟨_,_,_,_,_,rfl,_⟩ _ _ _ rfl _ _ _ rfl _ rfl _ rfl _ ⟨K9,s9,M9,E9,rfl,q9⟩ -;simp only[Jo.z];replace g:=g.b j;replace l:=aa l j;have q:=g.cell;have i:=g.frozen
   refine jn 12 fun K f=>?_
   go_simp;refine f.out _ _ ?_;clear f K q i;have x:=ae.t4 g K9 s9 M9 E9;refine jd ?_;go_wp2;exact bq (by simp[results,results173,go_sem,x.box.cell]) rfl ⟨_,_,_,_,rfl,q9,(x.below l.out (by omega))⟩
theorem An{w:World}{A B:Option Addr}{n c m d:Nat}{s t up:Bool}{z y r:Int}(hT:dQ w)(h:Wr w s A n c z)(k:Wr w t B m d y)(hn:n<=20)(hm:m<=20)(hr:Rq up z y r):Calls prog 173 #[.agg #[.bool s,.slice A n c],.agg #[.bool t,.slice B m d],.bool up] w (PN w r):=DV hT h k (by omega) (by omega) hr
def It:Sp->List Int
 | none=>[]
 | some (a,_)=>[a]
def ym:Sp->List Int
 | none=>[]
 | some (_,b)=>[b]
def dO:List Sp->List Int
 | []=>[]
 | x::l=>It x ++dO l
def dw:List Sp->List Int
 | []=>[]
 | x::l=>ym x ++dw l
theorem kS:∀(l m:List Sp),dO (l ++m)=dO l ++dO m
 | [],m=>rfl
 | x::l,m=>by
  show It x ++dO (l ++m)=(It x ++dO l)++dO m
  rw[kS l m,List.append_assoc]
theorem jX:∀(l m:List Sp),dw (l ++m)=dw l ++dw m
 | [],m=>rfl
 | x::l,m=>by
  show ym x ++dw (l ++m)=(ym x ++dw l)++dw m
  rw[jX l m,List.append_assoc]
theorem nW{l:List Sp}{k:Nat}(h:k < l.length):dO (l.take (k+1))=dO (l.take k)++It (l.getD k none):=by
 rw[List.take_succ_eq_append_getElem h,kS,List.getD_eq_getElem?_getD,List.getElem?_eq_getElem h];exact congrArg _ (List.append_nil _)
theorem l9{l:List Sp}{k:Nat}(h:k < l.length):dw (l.take (k+1))=dw (l.take k)++ym (l.getD k none):=by
 rw[List.take_succ_eq_append_getElem h,jX,List.getD_eq_getElem?_getD,List.getElem?_eq_getElem h];exact congrArg _ (List.append_nil _)
theorem mf:∀l:List Sp,(dO l).length<=l.length
 | []=>Nat.le_refl _
 | none::l=>Nat.le_succ_of_le (mf l)
 | some (a,b)::l=>Nat.succ_le_succ (mf l)
theorem AB (A B a b:Int):dX (eB A B) (some (a,b))=eB (max A a) (min B b):=by
 by_cases h:A<=B/\A < 19342822337206103650074625/\ -19342822337206103650074625 < B
 ·rw[aK h.1 h.2.1 h.2.2]
  rfl
 ·rw[dl h,dl (fun c=>h (by omega))]
  rfl
theorem nY:∀(l:List Sp) (A B:Int),(dO l).length=l.length->l.foldl dX (eB A B)=eB ((dO l).foldl max A) ((dw l).foldl min B)
 | [],A,B,_=>rfl
 | none::l,A,B,h=>by
  have h1:(dO l).length=l.length+1:=h
  have h2:=mf l
  omega
 | some (a,b)::l,A,B,h=>by
  show l.foldl dX (dX (eB A B) (some (a,b)))=_
  rw[AB];exact nY l (max A a) (min B b) (Nat.succ_inj.1 h)
theorem xo{l:List Sp}(h:(dO l).length=l.length):mj l=eB (mW (dO l)) (oc (dw l)):=by
 have e:rq=eB (-19342822337206103650074625) 19342822337206103650074625:=(aK (by omega) (by omega) (by omega)).symm
 unfold mj mW oc
 rw[e,dj];exact nY l _ _ h
theorem nZ:∀(l:List Sp) (x:Sp),(dO l).length < l.length->l.foldl dX x=none
 | [],x,h=>absurd h (Nat.lt_irrefl _)
 | none::l,x,h=>by
  show l.foldl dX (dX x none)=none
  rw[mi];exact mm l
 | some (a,b)::l,x,h=>nZ l _ (Nat.lt_of_succ_lt_succ h)
theorem Ec{l:List Sp}(h:(dO l).length < l.length):mj l=none:=nZ l rq h
theorem zR{A B a b:Int}(h:A=19342822337206103650074625/\B= -19342822337206103650074625\/A<=B/\A < 19342822337206103650074625/\ -19342822337206103650074625 < B)(k:aY (some (a,b))):
  bY (eB A B) (some (a,b))=eB (min A a) (max B b)/\(min A a<=max B b/\min A a < 19342822337206103650074625/\ -19342822337206103650074625 < max B b):=by
 obtain⟨d,e,f,g,i⟩:=k;refine⟨?_,by omega,by omega,by omega⟩
 rcases h with⟨rfl,rfl⟩ | ⟨h1,h2,c⟩
 ·rw[dl (by omega),aK (by omega) (by omega) (by omega)]
  have e1:min 19342822337206103650074625 a=a:=by omega
  have e2:max (-19342822337206103650074625) b=b:=by omega
  rw[e1,e2]
  rfl
 ·rw[aK h1 h2 c]
  rfl
theorem kE:∀(l:List Sp) (A B:Int),(A=19342822337206103650074625/\B= -19342822337206103650074625\/A<=B/\A < 19342822337206103650074625/\ -19342822337206103650074625 < B)->(∀y ∈ l,aY y)->l.foldl bY (eB A B)=eB ((dO l).foldl min A) ((dw l).foldl max B)
 | [],A,B,_,_=>rfl
 | none::l,A,B,h,k=>by
  show l.foldl bY (bY (eB A B) none)=_
  rw[rR]
  exact kE l A B h (fun y hy=>k y (List.mem_cons_of_mem _ hy))
 | some (a,b)::l,A,B,h,k=>by
  obtain⟨e,g⟩:=zR h (k _ (List.mem_cons_self ..))
  show l.foldl bY (bY (eB A B) (some (a,b)))=_
  rw[e]
  exact kE l _ _ (.inr g) (fun y hy=>k y (List.mem_cons_of_mem _ hy))
theorem wO{l:List Sp}(h:∀y ∈ l,aY y):nR l=eB (oc (dO l)) (mW (dw l)):=by
 have e:(none:Sp)=eB 19342822337206103650074625 (-19342822337206103650074625):=(dl (by omega)).symm
 unfold nR mW oc
 rw[e,dj];exact kE l _ _ (.inl ⟨rfl,rfl⟩) h
def j6:List (Int × Bool × Int × Int)->List Value
 | []=>[]
 | (K,s,M,E)::l=> .int .i64 K:: .bool s:: .int .u64 M:: .int .i64 E::j6 l
theorem kT:∀l m,j6 (l ++m)=j6 l ++j6 m
 | [],m=>rfl
 | (K,s,M,E)::l,m=>by
  show _::_::_::_::j6 (l ++m)=_
  rw[kT l m]
  rfl
theorem vg:∀(l:List (Int × Bool × Int × Int)) (k:Nat) (K:Int) (s:Bool) (M E:Int),l[k]?=some (K,s,M,E)->(j6 l)[k*4]?=some (.int .i64 K)/\(j6 l)[k*4+1]?=some (.bool s)/\(j6 l)[k*4+2]?=some (.int .u64 M)/\(j6 l)[k*4+3]?=some (.int .i64 E)
 | [],k,_,_,_,_,h=>by cases h
 | (K,s,M,E)::l,0,_,_,_,_,h=>by
  cases h
  exact⟨rfl,rfl,rfl,rfl⟩
 | (K,s,M,E)::l,k+1,K2,s2,M2,E2,h=>by
  have:=vg l k K2 s2 M2 E2 h
  have e:(k+1)*4=k*4+4:=by omega
  rw[e];exact this
def Na (w:World)(base:Nat)(A:Option Addr)(n c:Nat)(l:List Int):Prop:=
 ∃r:List (Int × Bool × Int × Int),w.ownsRow base 24 4 (.slice A n c) n (j6 r)/\r.length=n/\l.length=n/\∀k,k < n->∃K s M E,r[k]?=some (K,s,M,E)/\Fq K s M E (l.getD k 0)
theorem Na.nil (w:World)(base:Nat):Na w base none 0 0 []:=⟨[],World.ownsRow_nil w base _ 4,rfl,rfl,fun k h=>absurd h (Nat.not_lt_zero _)⟩
theorem Na.len{w:World}{base n c:Nat}{A:Option Addr}{l:List Int}(h:Na w base A n c l):l.length=n:=by
 obtain⟨_,_,_,h,_⟩:=h;exact h
theorem Na.below{w w':World}{base n c:Nat}{A:Option Addr}{l:List Int}(h:Na w base A n c l)(hb:Below w.heap.size w w'):Na w' base A n c l:=by
 obtain⟨r,h1,h2⟩:=h;refine⟨r,⟨h1.1,?_⟩,h2⟩
 rcases h1.2 with b | ⟨g,cap,a,d,hg,hh,q⟩
 ·exact .inl b
 ·refine .inr ⟨g,cap,a,d,hg,?_,q⟩;rw[hb.block g (Array.getElem?_eq_some_iff.1 hh).1];exact hh
abbrev Na.b:= @Na.below
theorem Na.nl{w:World}{base n c:Nat}{A:Option Addr}{l:List Int}(h:Na w base A n c l)(hn:n<=1099511627776):Nl w A n c l:=by
 obtain⟨r,h1,h2,d,h4⟩:=h
 rcases h1.2 with⟨e1,e2⟩ | ⟨g,cap,e,b,hg,hh,f,hm,hs,ht⟩
 ·injection e1 with a1 a2 a3
  subst a1;subst a2;subst a3
  exact⟨d,Nat.le_refl _,by omega,fun h=>absurd h (Nat.lt_irrefl _)⟩
 ·injection b with a1 a2 a3
  subst a1;subst a3
  refine⟨d,f,hn,fun _=>⟨g,0,rfl,fun k hk=>?_⟩⟩
  obtain⟨K,s,M,E,i,q⟩:=h4 k hk;obtain⟨c0,c1,c2,c3⟩:=vg r k K s M E i
  have a:∀j v,(j6 r)[j]?=some v->w.cell? ⟨g,0+j,none⟩=some v:=by
   intro j v b
   rw[cell_of_row w g (0+j) _ _ (0,0) hh,Nat.zero_add,<-Array.getElem?_toList];rw[<-ht,List.getElem?_take]at b
   split at b
   ·exact b
   ·cases b
  exact⟨K,s,M,E,a _ _ c0,by rw[Nat.add_assoc];exact a _ _ c1,by rw[Nat.add_assoc];exact a _ _ c2,by rw[Nat.add_assoc];exact a _ _ c3,q.top,q.rk⟩
theorem DN:(prog.info? 24).map (fun i=>(i.zero,i.size,i.bytes))=some (some (.agg #[.int .i64 0,.bool false,.int .u64 0,.int .i64 0]),4,32):=by kernel_rfl
section
variable {w w':World} {base n c:Nat} {A:Option Addr} {l:List Int}
def bi (A:Option Addr):Option Nat:=A.map (·.block)
theorem jH (A:Option Addr)(n c:Nat):(Value.slice A n c).ownBlock=bi A:=by cases A <;> rfl
theorem Na.kept{row:Option Nat}(h:Na w base A n c l)(hg:w.grownBy w' row)(hne:bi A=none\/bi A≠row):Na w' base A n c l:=by
 obtain⟨r,h1,h2⟩:=h;exact⟨r,h1.kept hg (by rw[jH];exact hne),h2⟩
theorem Na.own_lt (h:Na w base A n c l):∀k,bi A=some k->base<=k/\k < w.heap.size:=by
 obtain⟨r,h1,h2⟩:=h
 intro k a
 exact h1.lt k (by rw[jH];exact a)
theorem Hp{ty:TypeId}{g:Nat}{K M E a:Int}{s:Bool}(h:Na w base A n c l)(q:Fq K s M E a)(X:Bo w g #[.int .i64 K,.bool s,.int .u64 M,.int .i64 E] 24)(hn:n+1<=1099511627776)(hb:base<=w.heap.size):
  ∃A2 c2 w',(Builtin.append_ #[85,85] ty #[.slice A n c,.slice (some ⟨g,0,none⟩) 1 1]).run prog w= .ok (.slice A2 (n+1) c2) w'/\Na w' base A2 (n+1) c2 (l ++[a])/\w.grownBy w' (bi A)/\(bi A2=bi A\/bi A2=some w.heap.size):=by
 obtain⟨i,hi,hz,p,f⟩:=info_parts DN;obtain⟨r,h1,h2,x,h4⟩:=h
 obtain⟨H,w',D,o,hg,_,b⟩:=run_append_own_at (P:=prog) w base 85 ty 24 i _ 4 32 Tryz.underlying85 hi hz p f rfl (by decide) _ n (j6 r) h1 ⟨g,0,none⟩ 1 1 (j6 [(K,s,M,E)]) rfl (by
  intro j u d
  have e:=X.cell
  rcases j with _ | _ | _ | _ | j
  ·cases d
   exact e 0
  ·cases d
   exact e 1
  ·cases d
   exact e 2
  ·cases d
   exact e 3
  ·cases d) (by
  intro u y
  simp only[j6,List.mem_cons,List.not_mem_nil,or_false]at y
  rcases y with rfl | rfl | rfl | rfl <;> rfl) (by unfold maxLen;omega) (by omega) hb
 rw[jH]at hg b;rw[<-kT]at o
 obtain⟨A2,c2,rfl⟩:∃A2 c2,H= .slice A2 (n+1) c2:=by
  rcases o.2 with⟨_,J⟩ | ⟨I,t,v,F,_⟩
  ·omega
  ·exact⟨_,_,F⟩
 rw[jH]at b
 refine⟨A2,c2,w',D,⟨_,o,by rw[List.length_append,h2];rfl,by rw[List.length_append,x];rfl,fun k hk=>?_⟩,hg,b⟩
 by_cases m:k < n
 ·obtain⟨B,s1,C,z,hq,G⟩:=h4 k m;refine⟨B,s1,C,z,by rw[List.getElem?_append_left (by omega)];exact hq,?_⟩
  rw[List.getD_eq_getElem?_getD,List.getElem?_append_left (by omega),<-List.getD_eq_getElem?_getD];exact G
 ·obtain rfl:k=n:=by omega
  refine⟨K,s,M,E,by rw[List.getElem?_append_right (by omega),h2];simp,?_⟩
  rw[List.getD_eq_getElem?_getD,List.getElem?_append_right (by omega),x]
  simpa using q
theorem jl{ops:Array Oper}{rest:List Oper}{o:Oper}{a:Act}{Q:Exit->Act->World->Prop}(hgd:o.guard=none)(s x:Operand)
  (ho:o.op= .call {callee:= .builtin .append,args:= #[s,x],argTypes:= #[85,85]}) {g:Nat} {K M E p:Int} {b:Bool}
  (hs:a.eval s= .slice A n c) (hx:a.eval x= .slice (some ⟨g,0,none⟩) 1 1) (h:Na w base A n c l) (q:Fq K b M E p) (X:Bo w g #[.int .i64 K,.bool b,.int .u64 M,.int .i64 E] 24) (hn:n+1<=1099511627776) (hb:base<=w.heap.size)
  (hK:∀A2 c2 w',Na w' base A2 (n+1) c2 (l ++[p])->w.grownBy w' (bi A)->(bi A2=bi A\/bi A2=some w.heap.size)->wpList prog ops Q rest (a.put o.dst (.slice A2 (n+1) c2)) w'):wpList prog ops Q (o::rest) a w:=by
 refine wpList_plain hgd fun K hK2=>?_
 obtain⟨A2,c2,w',e,h1,h2,d⟩:=Hp (ty:=o.type) h q X hn hb
 unfold Oper.wp execOp
 simp only[ho,resolve,invoke,builtin,Sem.run_bind,Sem.run_pure,Result.andThen_ok,List.map_toArray,List.map_cons,List.map_nil,hs,hx,e];exact hK2 _ _ (hK A2 c2 w' h1 h2 d)
end
theorem qC{w:World}(s:Bool):Calls prog 79 #[.bool s] w (fun e w'=>e= .returned (.agg #[.int .i64 2,.bool s,.int .u64 0,.int .i64 0])/\Below w.heap.size w w'):=by
 refine(iQ (s:=s) rfl).mono ?_;rintro a b ⟨K,s1,M,E,rfl,q,B⟩;obtain⟨rfl,rfl,rfl,rfl⟩:=q.uniq (gd s);exact⟨rfl,B⟩
theorem Du{x y c:Int}(h:ag x y=c):decide (0 < c)=decide (y < x):=by
 rw[<-h]
 by_cases e:y < x
 ·rw[dt e]
  exact dt (by rcases aO x y with⟨a,b⟩ | ⟨a,b⟩ | ⟨a,b⟩ <;> rw[b] <;> omega)
 ·rw[df e]
  exact df (by rcases aO x y with⟨a,b⟩ | ⟨a,b⟩ | ⟨a,b⟩ <;> rw[b] <;> omega)
theorem GL{w:World}:Calls prog 90 #[] w (PV w none):=by
 go_enter func90,ntmps90
 go_upto_region 1 with (fail)
 generalize a:w.alloc _=w1 at *;obtain⟨c,f⟩:=Bo.en1 a;clear a;have d:=c.cell;have b:=c.frozen;go_wp2;clear d b;have e:=ae.t9 c true 0 false 0 0 0 false 0 0;exact bq (by simp[results,results90,go_sem,e.box.cell]) rfl ⟨_,_,_,_,_,_,_,_,_,rfl,Ci.none,(e.below f.out (by omega))⟩
theorem dN{w:World}:Calls prog 90 #[] w (fun e w'=>e= .returned (.agg #[.bool true,.int .i64 0,.bool false,.int .u64 0,.int .i64 0,.int .i64 0,.bool false,.int .u64 0,.int .i64 0])/\Below w.heap.size w w'):=by
 refine GL.mono ?_;rintro j k ⟨e1,h,s1,i,g,b,d,c,a,rfl,f,B⟩;obtain⟨rfl,rfl,rfl,rfl,rfl,rfl,rfl,rfl,rfl⟩:=f.uniq Ci.none;exact⟨rfl,B⟩
theorem FH{w:World}{D M E:Int}{s:Bool}{r:Int}(hM:LQ M)(hr:rk D s M E=r):Calls prog 107 #[VQ D s M E] w (PN w r):=by
 delta VQ
 by_cases hm:aC D s M E
 ·have k:=eU hM hm;rw[hr]at k
  have j:=ie (show decide (aC D s M E)=true from dt hm)
  clear hm hr hM
  go_enter func107,ntmps107
  go_upto_region 1 with (fail)
  generalize d:(w.alloc _).alloc _=w1 at *;obtain⟨f,c,g⟩:=Bo.en2 d;clear d;have a:=f.cell
  go_wp2_with fail
  refine(kI j.out).mono ?_;rintro l m ⟨rfl,B⟩;clear a;replace f:=f.b B;replace c:=c.b B;replace g:=aa g B;clear B;have h:=c.cell;have e:=c.frozen;have a:=f.cell;go_wp2;clear h e a;have i:=ae.t4 c D s M E
  exact bq (by simp[results,results107,go_sem,i.box.cell]) rfl ⟨D,s,M,E,rfl,k,(i.below g.out (by omega))⟩
 ·rw[fs hm]at hr;subst hr
  have j:=ie (show decide (aC D s M E)=false from df hm)
  clear hm hM
  go_enter func107,ntmps107
  go_upto_region 1 with (fail)
  generalize d:(w.alloc _).alloc _=w1 at *;obtain⟨f,c,g⟩:=Bo.en2 d;clear d;have a:=f.cell
  go_wp2_with fail
  refine(kI j.out).mono ?_;rintro l m ⟨rfl,B⟩;clear a;replace f:=f.b B;replace c:=c.b B;replace g:=aa g B;clear B;have h:=c.cell;have e:=c.frozen;have a:=f.cell;go_wp2;clear h e a;have i:=ae.t4 c 0 false 0 0
  exact bq (by simp[results,results107,go_sem,i.box.cell]) rfl ⟨_,_,_,_,rfl,Fq.nought,(i.below g.out (by omega))⟩
theorem ia{w:World}{D D' M M' E E':Int}{s s':Bool}{a b:Int}{x:Sp}(hM:LQ M)(hM':LQ M')(ha:rk D s M E=a)(hb:rk D' s' M' E'=b)(hx:eB a b=x):Calls prog 35 #[VQ D s M E,VQ D' s' M' E'] w (PV w x):=by
 delta VQ
 have T:=ie ha;have G:=ie hb;clear ha hb
 go_enter func35,ntmps35
 go_upto_region 1 with (fail)
 generalize J:((w.alloc _).alloc _).alloc _=w1 at *;obtain⟨g,h,f,i⟩:=Bo.en3 J;clear J;refine jk [0,1,2,3] [some 5,some 6,some 7,some 8,none,none] [[],[0],[],[2],[],[]] 6 2 [Jo.q4 D s M E,Jo.Fact.num a,Jo.q4 D' s' M' E',Jo.Fact.num b,Jo.Fact.any,Jo.Fact.any] ?_ ?_
 ·refine jm ?_ ?_;rotate_left
  refine jm ?_ ?_
  ·rintro j e _ rfl K d;simp only[Jo.z]at d|-;go_simp;exact Jo.n1 (FH hM T.out) d.out
  refine jm ?_ ?_;rotate_left
  refine jm ?_ ?_
  ·rintro j e _ rfl K d;simp only[Jo.z]at d|-;go_simp;exact Jo.n1 (FH hM' G.out) d.out
  exact jo
  all_goals (rintro j e;(repeat rintro _ rfl);intro K d;simp only[Jo.z]at d|-;have m:=(g.b e).cell;have n:=(h.b e).cell;go_simp;exact d.out _ _ rfl (br _ _))
 rintro W e _ rfl _ ⟨v,s1,y,u,rfl,A⟩ _ rfl _ ⟨K2,s2,M2,E2,rfl,C⟩ -;simp only[Jo.z];replace g:=g.b e;replace h:=h.b e;replace f:=f.b e;replace i:=aa i e;have m:=g.cell;have N:=g.frozen
 refine jn 4 fun K d=>?_
 go_simp;refine d.out _ _ ?_;clear d K m N;generalize I:(((W.setCell _ _).setCell _ _).setCell _ _).setCell _ _=X at *;have k:=ae.of4 g I;replace h:=h.s k;replace f:=f.s k;replace i:=bn i k (by omega);replace g:=k.box;clear k I;have n:=h.cell;have O:=h.frozen
 refine jn 5 fun K d=>?_
 go_simp;refine d.out _ _ ?_;clear d K n O;generalize I:(((X.setCell _ _).setCell _ _).setCell _ _).setCell _ _=Y at *;have k:=ae.of4 h I;replace g:=g.s k;replace f:=f.s k;replace i:=bn i k (by omega);replace h:=k.box;clear k I;refine jd ?_;clear T G hM hM';obtain⟨c,R⟩:∃c,ag a b=c:=⟨_,rfl⟩
 have hg:=Du R
 have P:Hid (ag (rk v s1 y u) (rk K2 s2 M2 E2)=c):=ie (by rw[A.rk,C.rk];exact R)
 clear R
 by_cases q:b < a
 ·rw[dl (by omega)]at hx
  obtain rfl:none=x:=hx
  rw[dt q]at hg;have r:=ie hg;clear hg q;go_wp2;refine jk [0,1,2,3,4,5,6,7,8,9,10,11,12,13] [some 9,some 10,some 11,some 12,some 13,some 14,some 15,some 16,some 17,some 18,some 19,some 20,some 21,some 22] [[],[],[0,1],[2],[3],[4],[4],[4,5,6],[4,7],[8],[9],[9],[9,10,11],[9,12]] 14 0 [Jo.q4 v s1 y u,Jo.q4 K2 s2 M2 E2,Jo.qi c,Jo.qb true,Jo.qb true,Jo.qu,Jo.qu,Jo.qu,Jo.qb true,Jo.qb true,Jo.qu,Jo.qu,Jo.qu,Jo.qb true] ?_ ?_
  ·iterate 2 (refine jm ?_ ?_;rotate_left)
   refine jm ?_ ?_
   ·rintro j e _ rfl _ rfl K d;simp only[Jo.z]at d|-;go_simp;refine(j5 A.top C.top P.out).mono ?_;rintro t F ⟨rfl,B⟩;exact d.out _ _ rfl B
   refine jm ?_ ?_
   ·rintro j e _ rfl K d;simp only[Jo.z]at d|-;have o:=r.out;go_simp
    exact d.out _ _ (by first | rfl | (show Value.bool _=Value.bool _;rw[o]) | simp_all) (br _ _)
   iterate 10 (refine jm ?_ ?_;rotate_left)
   exact jo
   all_goals (rintro j e;(repeat rintro _ rfl);intro K d;simp only[Jo.z]at d|-;have m:=(g.b e).cell;have n:=(h.b e).cell;go_simp;exact d.out _ _ rfl (br _ _))
  rintro S e _ rfl _ rfl _ rfl _ rfl _ rfl _ rfl _ rfl _ rfl _ rfl _ rfl _ rfl _ rfl _ rfl _ rfl -;simp only[Jo.z];replace g:=g.b e;replace h:=h.b e;replace f:=f.b e;replace i:=aa i e;refine jd ?_
  go_wp2_with fail
  refine(dN).mono ?_;rintro t U ⟨rfl,B⟩;replace g:=g.b B;replace h:=h.b B;replace f:=f.b B;replace i:=aa i B;clear B;have p:=f.cell;have l:=f.frozen;go_wp2;clear p l;have k:=ae.t9 f true 0 false 0 0 0 false 0 0
  exact bq (by simp[results,results35,go_sem,k.box.cell]) rfl ⟨_,_,_,_,_,_,_,_,_,rfl,Ci.none,(k.below i.out (by omega))⟩
 ·rw[df q]at hg;have r:=ie hg;clear hg
  by_cases ht:a=19342822337206103650074625
  ·subst ht;rw[dl (by omega)]at hx
   obtain rfl:none=x:=hx
   obtain⟨rfl,rfl,rfl,rfl⟩:=A.uniq (show Fq 2 false 0 0 19342822337206103650074625 from gd false)
   clear q;go_wp2;refine jk [0,1,2,3,4,5,6,7,8,9,10,11,12,13] [some 9,some 10,some 11,some 12,some 13,some 14,some 15,some 16,some 17,some 18,some 19,some 20,some 21,some 22] [[],[],[0,1],[2],[3],[4],[4],[4,5,6],[4,7],[8],[9],[9],[9,10,11],[9,12]] 14 0 [Jo.q4 2 false 0 0,Jo.q4 K2 s2 M2 E2,Jo.qi c,Jo.qb false,Jo.qb false,Jo.q4 2 false 0 0,Jo.q4 2 false 0 0,Jo.qb true,Jo.qb true,Jo.qb true,Jo.qu,Jo.qu,Jo.qu,Jo.qb true] ?_ ?_
   ·iterate 2 (refine jm ?_ ?_;rotate_left)
    refine jm ?_ ?_
    ·rintro j e _ rfl _ rfl K d;simp only[Jo.z]at d|-;go_simp;refine(j5 A.top C.top P.out).mono ?_;rintro t F ⟨rfl,B⟩;exact d.out _ _ rfl B
    refine jm ?_ ?_
    ·rintro j e _ rfl K d;simp only[Jo.z]at d|-;have o:=r.out;go_simp
     exact d.out _ _ (by first | rfl | (show Value.bool _=Value.bool _;rw[o]) | simp_all) (br _ _)
    iterate 2 (refine jm ?_ ?_;rotate_left)
    refine jm ?_ ?_
    ·rintro j e _ rfl K d;simp only[Jo.z]at d|-;go_simp;refine(qC false).mono ?_;rintro t F ⟨rfl,B⟩;exact d.out _ _ rfl B
    refine jm ?_ ?_
    ·rintro j e _ rfl _ rfl _ rfl K d;simp only[Jo.z]at d|-;go_simp
     repeat' split
     all_goals exact d.out _ _ (congrArg Value.bool (by first | rfl | (exfalso;simp_all) | simp_all)) (br _ _)
    iterate 6 (refine jm ?_ ?_;rotate_left)
    exact jo
    all_goals (rintro j e;(repeat rintro _ rfl);intro K d;simp only[Jo.z]at d|-;have m:=(g.b e).cell;have n:=(h.b e).cell;go_simp;exact d.out _ _ rfl (br _ _))
   rintro S e _ rfl _ rfl _ rfl _ rfl _ rfl _ rfl _ rfl _ rfl _ rfl _ rfl _ rfl _ rfl _ rfl _ rfl -;simp only[Jo.z];replace g:=g.b e;replace h:=h.b e;replace f:=f.b e;replace i:=aa i e;refine jd ?_
   go_wp2_with fail
   refine(dN).mono ?_;rintro t U ⟨rfl,B⟩;replace g:=g.b B;replace h:=h.b B;replace f:=f.b B;replace i:=aa i B;clear B;have p:=f.cell;have l:=f.frozen;go_wp2;clear p l;have k:=ae.t9 f true 0 false 0 0 0 false 0 0
   exact bq (by simp[results,results35,go_sem,k.box.cell]) rfl ⟨_,_,_,_,_,_,_,_,_,rfl,Ci.none,(k.below i.out (by omega))⟩
  ·have H:Hid (¬(v=2/\s1=false/\y=0/\u=0)):=ie (by
    rintro ⟨rfl,rfl,rfl,rfl⟩;exact ht (by rw[<-A.rk];exact(gd false).rk))
   by_cases hb:b= -19342822337206103650074625
   ·subst hb;rw[dl (by omega)]at hx
    obtain rfl:none=x:=hx
    obtain⟨rfl,rfl,rfl,rfl⟩:=C.uniq (show Fq 2 true 0 0 (-19342822337206103650074625)from gd true)
    clear q ht;go_wp2;refine jk [0,1,2,3,4,5,6,7,8,9,10,11,12,13] [some 9,some 10,some 11,some 12,some 13,some 14,some 15,some 16,some 17,some 18,some 19,some 20,some 21,some 22] [[],[],[0,1],[2],[3],[4],[4],[4,5,6],[4,7],[8],[9],[9],[9,10,11],[9,12]] 14 0 [Jo.q4 v s1 y u,Jo.q4 2 true 0 0,Jo.qi c,Jo.qb false,Jo.qb false,Jo.q4 v s1 y u,Jo.q4 2 false 0 0,Jo.qb false,Jo.qb false,Jo.qb false,Jo.q4 2 true 0 0,Jo.q4 2 true 0 0,Jo.qb true,Jo.qb true] ?_ ?_
    ·iterate 2 (refine jm ?_ ?_;rotate_left)
     refine jm ?_ ?_
     ·rintro j e _ rfl _ rfl K d;simp only[Jo.z]at d|-;go_simp;refine(j5 A.top C.top P.out).mono ?_;rintro t F ⟨rfl,B⟩;exact d.out _ _ rfl B
     refine jm ?_ ?_
     ·rintro j e _ rfl K d;simp only[Jo.z]at d|-;have o:=r.out;go_simp
      exact d.out _ _ (by first | rfl | (show Value.bool _=Value.bool _;rw[o]) | simp_all) (br _ _)
     iterate 2 (refine jm ?_ ?_;rotate_left)
     refine jm ?_ ?_
     ·rintro j e _ rfl K d;simp only[Jo.z]at d|-;go_simp;refine(qC false).mono ?_;rintro t F ⟨rfl,B⟩;exact d.out _ _ rfl B
     refine jm ?_ ?_
     ·rintro j e _ rfl _ rfl _ rfl K d;simp only[Jo.z]at d|-;have L:=H.out;go_simp
      repeat' split
      all_goals exact d.out _ _ (congrArg Value.bool (by first | rfl | (exfalso;simp_all))) (br _ _)
     iterate 3 (refine jm ?_ ?_;rotate_left)
     refine jm ?_ ?_
     ·rintro j e _ rfl K d;simp only[Jo.z]at d|-;go_simp;refine(qC true).mono ?_;rintro t F ⟨rfl,B⟩;exact d.out _ _ rfl B
     refine jm ?_ ?_
     ·rintro j e _ rfl _ rfl _ rfl K d;simp only[Jo.z]at d|-;go_simp
      repeat' split
      all_goals exact d.out _ _ (congrArg Value.bool (by first | rfl | (exfalso;simp_all) | simp_all)) (br _ _)
     refine jm ?_ ?_;rotate_left
     exact jo
     all_goals (rintro j e;(repeat rintro _ rfl);intro K d;simp only[Jo.z]at d|-;have m:=(g.b e).cell;have n:=(h.b e).cell;go_simp;exact d.out _ _ rfl (br _ _))
    rintro S e _ rfl _ rfl _ rfl _ rfl _ rfl _ rfl _ rfl _ rfl _ rfl _ rfl _ rfl _ rfl _ rfl _ rfl -;simp only[Jo.z];replace g:=g.b e;replace h:=h.b e;replace f:=f.b e;replace i:=aa i e;refine jd ?_
    go_wp2_with fail
    refine(dN).mono ?_;rintro t U ⟨rfl,B⟩;replace g:=g.b B;replace h:=h.b B;replace f:=f.b B;replace i:=aa i B;clear B;have p:=f.cell;have l:=f.frozen;go_wp2;clear p l;have k:=ae.t9 f true 0 false 0 0 0 false 0 0
    exact bq (by simp[results,results35,go_sem,k.box.cell]) rfl ⟨_,_,_,_,_,_,_,_,_,rfl,Ci.none,(k.below i.out (by omega))⟩
   ·have Q:Hid (¬(K2=2/\s2=true/\M2=0/\E2=0)):=ie (by
     rintro ⟨rfl,rfl,rfl,rfl⟩;exact hb (by rw[<-C.rk];exact(gd true).rk))
    have g1:=A.bd;have g2:=C.bd
    have g3:a<=b:=by omega
    have g4:a < 19342822337206103650074625:=by omega
    have g5: -19342822337206103650074625 < b:=by omega
    rw[aK g3 g4 g5]at hx
    obtain rfl:some (a,b)=x:=hx
    have V:Ci false v s1 y u K2 s2 M2 E2 (some (a,b)):=⟨rfl,A,C,g3,g4,g5⟩
    clear q ht hb g1 g2 g3 g4 g5;go_wp2;refine jk [0,1,2,3,4,5,6,7,8,9,10,11,12,13] [some 9,some 10,some 11,some 12,some 13,some 14,some 15,some 16,some 17,some 18,some 19,some 20,some 21,some 22] [[],[],[0,1],[2],[3],[4],[4],[4,5,6],[4,7],[8],[9],[9],[9,10,11],[9,12]] 14 0 [Jo.q4 v s1 y u,Jo.q4 K2 s2 M2 E2,Jo.qi c,Jo.qb false,Jo.qb false,Jo.q4 v s1 y u,Jo.q4 2 false 0 0,Jo.qb false,Jo.qb false,Jo.qb false,Jo.q4 K2 s2 M2 E2,Jo.q4 2 true 0 0,Jo.qb false,Jo.qb false] ?_ ?_
    ·iterate 2 (refine jm ?_ ?_;rotate_left)
     refine jm ?_ ?_
     ·rintro j e _ rfl _ rfl K d;simp only[Jo.z]at d|-;go_simp;refine(j5 A.top C.top P.out).mono ?_;rintro t F ⟨rfl,B⟩;exact d.out _ _ rfl B
     refine jm ?_ ?_
     ·rintro j e _ rfl K d;simp only[Jo.z]at d|-;have o:=r.out;go_simp
      exact d.out _ _ (by first | rfl | (show Value.bool _=Value.bool _;rw[o]) | simp_all) (br _ _)
     iterate 2 (refine jm ?_ ?_;rotate_left)
     refine jm ?_ ?_
     ·rintro j e _ rfl K d;simp only[Jo.z]at d|-;go_simp;refine(qC false).mono ?_;rintro t F ⟨rfl,B⟩;exact d.out _ _ rfl B
     refine jm ?_ ?_
     ·rintro j e _ rfl _ rfl _ rfl K d;simp only[Jo.z]at d|-;have L:=H.out;go_simp
      repeat' split
      all_goals exact d.out _ _ (congrArg Value.bool (by first | rfl | (exfalso;simp_all))) (br _ _)
     iterate 3 (refine jm ?_ ?_;rotate_left)
     refine jm ?_ ?_
     ·rintro j e _ rfl K d;simp only[Jo.z]at d|-;go_simp;refine(qC true).mono ?_;rintro t F ⟨rfl,B⟩;exact d.out _ _ rfl B
     refine jm ?_ ?_
     ·rintro j e _ rfl _ rfl _ rfl K d;simp only[Jo.z]at d|-;have L:=Q.out;go_simp
      repeat' split
      all_goals exact d.out _ _ (congrArg Value.bool (by first | rfl | (exfalso;simp_all))) (br _ _)
     refine jm ?_ ?_;rotate_left
     exact jo
     all_goals (rintro j e;(repeat rintro _ rfl);intro K d;simp only[Jo.z]at d|-;have m:=(g.b e).cell;have n:=(h.b e).cell;go_simp;exact d.out _ _ rfl (br _ _))
    rintro S e _ rfl _ rfl _ rfl _ rfl _ rfl _ rfl _ rfl _ rfl _ rfl _ rfl _ rfl _ rfl _ rfl _ rfl -;simp only[Jo.z];replace g:=g.b e;replace h:=h.b e;replace f:=f.b e;replace i:=aa i e;refine jd ?_;have p:=f.cell;have l:=f.frozen;have m:=g.cell
    have n:=h.cell;go_wp2;clear p l m n;have k:=ae.t9 f false v s1 y u K2 s2 M2 E2;exact bq (by simp[results,results35,go_sem,k.box.cell]) rfl ⟨_,_,_,_,_,_,_,_,_,rfl,V,(k.below i.out (by omega))⟩
theorem DW{w:World}{D M E:Int}{s:Bool}{a:Int}{x:Sp}(hM:LQ M)(ha:rk D s M E=a)(hx:eB a a=x):Calls prog 46 #[VQ D s M E] w (PV w x):=by
 delta VQ
 have m:=ie ha;have o:=ie hx;clear ha hx
 go_enter func46,ntmps46
 go_upto_region 1 with (fail)
 generalize d:(w.alloc _).alloc _=w1 at *;obtain⟨p,c,g⟩:=Bo.en2 d;clear d;have k:=p.cell
 go_wp2_with fail
 refine(ia hM hM m.out m.out o.out).mono ?_;rintro q r ⟨e2,K2,s2,M2,E2,h,j,i,f,rfl,v2,B⟩;clear k;replace c:=c.b B;replace g:=aa g B;clear B;have l:=c.cell;have e:=c.frozen;go_wp2;clear l e;have n:=ae.t9 c e2 K2 s2 M2 E2 h j i f
 exact bq (by simp[results,results46,go_sem,n.box.cell]) rfl ⟨_,_,_,_,_,_,_,_,_,rfl,v2,(n.below g.out (by omega))⟩
theorem AA{e:Bool}{D M E D' M' E':Int}{s s':Bool}{e4:Bool}{K4 M4 E4 K4b M4b E4b:Int}{s4 s4b:Bool}(hM:LQ M)(hM':LQ M')(v:Ci e4 K4 s4 M4 E4 K4b s4b M4b E4b (eB (rk D s M E) (rk D' s' M' E')))(h1:¬(e=true/\D=0/\s=false/\M=0/\E=0/\D'=0/\s'=false/\M'=0/\E'=0)):(e=e4/\D=K4/\s=s4/\M=M4/\E=E4/\D'=K4b/\s'=s4b/\M'=M4b/\E'=E4b)↔jD e D s M E D' s' M' E'=true:=by
 constructor
 ·rintro ⟨rfl,rfl,rfl,rfl,rfl,rfl,rfl,rfl,rfl⟩;exact v.may
 ·intro h
  have c:=lC hM hM' h
  cases e
  ·have h2:decide (jL false D s M E D' s' M' E'≠none)=true:=h
   rw[mI]at c;rw[decide_eq_true_iff,mI]at h2
   by_cases hq:aC D s M E/\aC D' s' M' E'
   ·rw[if_pos hq]at c;exact c.uniq v
   ·rw[if_neg hq]at h2;exact absurd rfl h2
  ·rw[vx]at c;exact absurd (c.uniq Ci.none) h1
theorem tV{w:World}{e:Bool}{D M E D' M' E':Int}{s s':Bool}{r:Bool}(hM:LQ M)(hM':LQ M')(hr:jD e D s M E D' s' M' E'=r):Calls prog 176 #[VI e D s M E D' s' M' E'] w (PB w r):=by
 delta VI
 by_cases h1:e=true/\D=0/\s=false/\M=0/\E=0/\D'=0/\s'=false/\M'=0/\E'=0
 ·obtain⟨rfl,rfl,rfl,rfl,rfl,rfl,rfl,rfl,rfl⟩:=h1
  obtain rfl:true=r:=Ci.none.may.symm.trans hr
  clear hr
  go_enter func176,ntmps176
  go_upto_region 1 with (fail)
  generalize f:w.alloc _=w1 at *;obtain⟨i,h⟩:=Bo.en1 f;clear f;refine jk [0,1,2,3,4,5,6,7,8,9,10,11,12] [some 3,some 4,some 5,some 6,some 7,some 8,some 9,some 10,some 11,some 12,some 13,some 14,some 2] [[],[],[0,1],[2],[3],[3],[3,5],[3],[3,7],[3,6,8],[3,4,9],[3,10],[11]] 13 0 [Jo.q9 true 0 false 0 0 0 false 0 0,Jo.q9 true 0 false 0 0 0 false 0 0,Jo.qb true,Jo.qb true,Jo.qu,Jo.qu,Jo.qu,Jo.qu,Jo.qu,Jo.qu,Jo.qu,Jo.qb true,Jo.qb true] ?_ ?_
  ·refine jm ?_ ?_;rotate_left
   refine jm ?_ ?_
   ·rintro g d K a;simp only[Jo.z]at a|-;go_simp;refine(dN).mono ?_;rintro C G ⟨rfl,B⟩;exact a.out _ _ rfl B
   refine jm ?_ ?_
   ·rintro g d _ rfl _ rfl K a;simp only[Jo.z]at a|-;go_simp
    repeat' split
    all_goals exact a.out _ _ (congrArg Value.bool (by first | rfl | (exfalso;simp_all) | simp_all)) (br _ _)
   iterate 10 (refine jm ?_ ?_;rotate_left)
   exact jo
   all_goals (rintro g d;(repeat rintro _ rfl);intro K a;simp only[Jo.z]at a|-;have q:=(i.b d).cell;go_simp;exact a.out _ _ rfl (br _ _))
  rintro F d _ rfl _ rfl _ rfl _ rfl _ rfl _ rfl _ rfl _ rfl _ rfl _ rfl _ rfl _ rfl _ rfl -;simp only[Jo.z];replace i:=i.b d;replace h:=aa h d;refine jd ?_;go_wp2
  go_ret
  exact⟨rfl,h.out⟩
 ·have n:=ie h1
  have A:Hid (∀{e4 K4 s4 M4 E4 K4b s4b M4b E4b},Ci e4 K4 s4 M4 E4 K4b s4b M4b E4b (eB (rk D s M E) (rk D' s' M' E'))->((e=e4/\D=K4/\s=s4/\M=M4/\E=E4/\D'=K4b/\s'=s4b/\M'=M4b/\E'=E4b)↔r=true)):=ie (fun v=>by rw[<-hr];exact AA hM hM' v h1)
  clear hr h1
  cases r
  ·go_enter func176,ntmps176
   go_upto_region 1 with (fail)
   generalize f:w.alloc _=w1 at *;obtain⟨i,h⟩:=Bo.en1 f;clear f;refine jk [0,1,2,3,4,5,6,7,8,9,10,11,12] [some 3,some 4,some 5,some 6,some 7,some 8,some 9,some 10,some 11,some 12,some 13,some 14,some 2] [[],[],[0,1],[2],[3],[3],[3,5],[3],[3,7],[3,6,8],[3,4,9],[3,10],[11]] 13 0 [Jo.q9 e D s M E D' s' M' E',Jo.q9 true 0 false 0 0 0 false 0 0,Jo.qb false,Jo.qb false,Jo.q9 e D s M E D' s' M' E',Jo.qp w.heap.size 1,Jo.q4 D s M E,Jo.qp w.heap.size 5,Jo.q4 D' s' M' E',Jo.Fact.iv (eB (rk D s M E) (rk D' s' M' E')),Jo.qb false,Jo.qb false,Jo.qb false] ?_ ?_
   ·refine jm ?_ ?_;rotate_left
    refine jm ?_ ?_
    ·rintro g d K a;simp only[Jo.z]at a|-;go_simp;refine(dN).mono ?_;rintro C G ⟨rfl,B⟩;exact a.out _ _ rfl B
    refine jm ?_ ?_
    ·rintro g d _ rfl _ rfl K a;simp only[Jo.z]at a|-;have o:=n.out;go_simp
     repeat' split
     all_goals exact a.out _ _ (congrArg Value.bool (by first | rfl | (exfalso;simp_all))) (br _ _)
    iterate 6 (refine jm ?_ ?_;rotate_left)
    refine jm ?_ ?_
    ·rintro g d _ rfl _ rfl _ rfl K a;simp only[Jo.z]at a|-;go_simp;exact Jo.v1 (ia hM hM' rfl rfl rfl) a.out
    refine jm ?_ ?_
    ·rintro g d _ rfl _ rfl _ ⟨y,u,s9,x,t,k,m,l,j,rfl,p⟩ K a;simp only[Jo.z]at a|-
     have o:=fun c=>ff ((A.out p).1 c)
     go_simp
     repeat' split
     all_goals exact a.out _ _ (congrArg Value.bool (by first | rfl | (exfalso;simp_all))) (br _ _)
    iterate 2 (refine jm ?_ ?_;rotate_left)
    exact jo
    all_goals (rintro g d;(repeat rintro _ rfl);intro K a;simp only[Jo.z]at a|-;have q:=(i.b d).cell;go_simp;exact a.out _ _ rfl (br _ _))
   rintro F d _ rfl _ rfl _ rfl _ rfl _ rfl _ _ _ rfl _ _ _ rfl _ ⟨y,u,s9,x,t,k,m,l,j,rfl,p⟩ _ rfl _ rfl _ rfl -;simp only[Jo.z];replace i:=i.b d;replace h:=aa h d;refine jd ?_;go_wp2
   go_ret
   exact⟨rfl,h.out⟩
  ·go_enter func176,ntmps176
   go_upto_region 1 with (fail)
   generalize f:w.alloc _=w1 at *;obtain⟨i,h⟩:=Bo.en1 f;clear f;refine jk [0,1,2,3,4,5,6,7,8,9,10,11,12] [some 3,some 4,some 5,some 6,some 7,some 8,some 9,some 10,some 11,some 12,some 13,some 14,some 2] [[],[],[0,1],[2],[3],[3],[3,5],[3],[3,7],[3,6,8],[3,4,9],[3,10],[11]] 13 0 [Jo.q9 e D s M E D' s' M' E',Jo.q9 true 0 false 0 0 0 false 0 0,Jo.qb false,Jo.qb false,Jo.q9 e D s M E D' s' M' E',Jo.qp w.heap.size 1,Jo.q4 D s M E,Jo.qp w.heap.size 5,Jo.q4 D' s' M' E',Jo.Fact.iv (eB (rk D s M E) (rk D' s' M' E')),Jo.qb true,Jo.qb true,Jo.qb true] ?_ ?_
   ·refine jm ?_ ?_;rotate_left
    refine jm ?_ ?_
    ·rintro g d K a;simp only[Jo.z]at a|-;go_simp;refine(dN).mono ?_;rintro C G ⟨rfl,B⟩;exact a.out _ _ rfl B
    refine jm ?_ ?_
    ·rintro g d _ rfl _ rfl K a;simp only[Jo.z]at a|-;have o:=n.out;go_simp
     repeat' split
     all_goals exact a.out _ _ (congrArg Value.bool (by first | rfl | (exfalso;simp_all))) (br _ _)
    iterate 6 (refine jm ?_ ?_;rotate_left)
    refine jm ?_ ?_
    ·rintro g d _ rfl _ rfl _ rfl K a;simp only[Jo.z]at a|-;go_simp;exact Jo.v1 (ia hM hM' rfl rfl rfl) a.out
    refine jm ?_ ?_
    ·rintro g d _ rfl _ rfl _ ⟨y,u,s9,x,t,k,m,l,j,rfl,p⟩ K a;simp only[Jo.z]at a|-;obtain⟨rfl,rfl,rfl,rfl,rfl,rfl,rfl,rfl,rfl⟩:=(A.out p).2 rfl;go_simp
     repeat' split
     all_goals exact a.out _ _ (congrArg Value.bool (by first | rfl | (exfalso;simp_all) | simp_all)) (br _ _)
    iterate 2 (refine jm ?_ ?_;rotate_left)
    exact jo
    all_goals (rintro g d;(repeat rintro _ rfl);intro K a;simp only[Jo.z]at a|-;have q:=(i.b d).cell;go_simp;exact a.out _ _ rfl (br _ _))
   rintro F d _ rfl _ rfl _ rfl _ rfl _ rfl _ _ _ rfl _ _ _ rfl _ ⟨y,u,s9,x,t,k,m,l,j,rfl,p⟩ _ rfl _ rfl _ rfl -;simp only[Jo.z];replace h:=aa h d;refine jd ?_;go_wp2
   go_ret
   exact⟨rfl,h.out⟩
theorem FG{w:World}{e:Bool}{D M E D' M' E':Int}{s s':Bool}{x:Sp}(hM:LQ M)(hM':LQ M')(hr:jL e D s M E D' s' M' E'=x):Calls prog 104 #[VI e D s M E D' s' M' E'] w (PV w x):=by
 delta VI
 cases hm:jD e D s M E D' s' M' E'
 ·obtain rfl:none=x:=(lD hm).symm.trans hr
  have j:=ie hm;clear hm hr
  go_enter func104,ntmps104
  go_upto_region 1 with (fail)
  generalize c:(w.alloc _).alloc _=w1 at *;obtain⟨g,a,h⟩:=Bo.en2 c;clear c;have d:=g.cell
  go_wp2_with fail
  refine(tV hM hM' j.out).mono ?_;rintro l n ⟨rfl,B⟩;clear d;replace g:=g.b B;replace a:=a.b B;replace h:=aa h B;clear B;clear j hM hM'
  go_wp2_with fail
  refine(dN).mono ?_;rintro l o ⟨rfl,B⟩;replace g:=g.b B;replace a:=a.b B;replace h:=aa h B;clear B;have i:=a.cell;have f:=a.frozen;go_wp2;clear i f;have k:=ae.t9 a true 0 false 0 0 0 false 0 0
  exact bq (by simp[results,results104,go_sem,k.box.cell]) rfl ⟨_,_,_,_,_,_,_,_,_,rfl,Ci.none,(k.below h.out (by omega))⟩
 ·have m:=lC hM hM' hm;rw[hr]at m;have j:=ie hm;clear hm hr
  go_enter func104,ntmps104
  go_upto_region 1 with (fail)
  generalize c:(w.alloc _).alloc _=w1 at *;obtain⟨g,a,h⟩:=Bo.en2 c;clear c;have d:=g.cell
  go_wp2_with fail
  refine(tV hM hM' j.out).mono ?_;rintro l n ⟨rfl,B⟩;clear d;replace g:=g.b B;replace a:=a.b B;replace h:=aa h B;clear B;clear j hM hM';have i:=a.cell;have f:=a.frozen;have d:=g.cell;go_wp2
  clear i f d;have k:=ae.t9 a e D s M E D' s' M' E';exact bq (by simp[results,results104,go_sem,k.box.cell]) rfl ⟨_,_,_,_,_,_,_,_,_,rfl,m,(k.below h.out (by omega))⟩
