/-
 Contracts that the proof rests on.
-/
import Derived.Test.YteigedaefgmojaaGreatDoorYQaz
namespace Go.Proofs.YteigedaefgmojaaGreatDoor
open Go.Proofs.Tryz
open Go Go.RowKit
set_option linter.unusedVariables false
theorem jF{m:Int}(h1: -1000<=m)(h2:m<=1000):aD (al m)=true/\ak (al m)=m*SC:=by
 have a:=qj (a:=m) (b:=1073741824) (by omega) (by omega) (by decide);have b:=qj (a:= -1073741824) (b:=m) (by decide) (by omega) (by omega)
 have e:al (-1073741824)= -al 1073741824:=rfl
 have f:aD (al m)=true:=dt ⟨by omega,by omega⟩
 refine⟨f,?_⟩;rw[gh f,dJ (by omega) (by omega),Int.mul_assoc,Int.mul_comm (2^KK) SC,<-Int.mul_assoc];exact Int.mul_ediv_cancel _ (Int.ne_of_gt (aN KK))
theorem Fh:iU < al 1:=by decide
theorem Ed{Z:Sp}(h:Sv false 0 Z):mW Z 0=true/\eY Z < al 1:=by
 have f:aD 0=true:=(jF (m:=0) (by decide) (by decide)).1
 obtain⟨b,g⟩:=nM f h;refine⟨?_,Int.lt_of_le_of_lt b.tight Fh⟩
 have z:zq false 0=0:=by
  have e:=F6 0
  show zp 0=0
  rw[show (-0:Int)=0 from rfl]at e
  grind
 have c:=g
 rw[z]at c
 have k: -(17/10)<=fz (mA false (ak 0)) (-0)/\fz (mA false (ak 0)) (-0)<=17/10:=by
  rw[show (-0:Rat)=0 from by decide]
  exact c
 obtain⟨i,j⟩:=It c k
 rw[show (-0:Rat)=0 from by decide]at i j
 have e:fJ (mA false (ak 0)) 0=su false 0:=by
  unfold su
  rw[z]
 rw[e]at i j;obtain⟨e1,e2,e3,n,o,p,r,s⟩:=GA;have u:=jf i;have w:=je j;generalize (1/2^240:Rat)=t at *;generalize (1/2^200:Rat)=d at *;generalize (1/2^190:Rat)=q at *
 have a:q*SR<=99:=by grind
 obtain⟨l,p2⟩:=b.has (v:=0) (by decide) (by decide) (Gz (e:=q) (by grind) a) (Gz (e:=q) (by grind) a);exact GG (by decide) (by decide) (v:=0) (by rw[Rat.zero_mul];rfl) b.fin.ok l p2
theorem rQ:SC<=Fb true (-1*SC)*1152921504606846976/\SC<=Fb true (1*SC)*1152921504606846976:=by decide +kernel
theorem lU{l r:Int}(hr:Rq false l SC r)(h:SC<=l*1152921504606846976):iU<=r:=by
 have p:=zk;refine kQ hr (by omega) (by omega) ?_;have e:=zl;rw[<-e];have a:=nR p.1;have m:=Int.mul_le_mul_of_nonneg_left h (Int.le_of_lt a)
 rw[show l*(vr iU*2^60)=vr iU*(l*1152921504606846976) by rw[Int.mul_comm,Int.mul_assoc,Int.mul_comm (2^60),show (2:Int)^60=1152921504606846976 by decide]]
 exact m
theorem Ec{Z:Sp}(h:km true (some (al (-1),al 1)) Z):mW Z (al 1)=true/\mW Z 0=false:=by
 obtain⟨o1,o2⟩:=dz;obtain⟨fa,ea⟩:=jF (m:= -1) (by decide) (by decide);obtain⟨g,eb⟩:=jF (m:=1) (by decide) (by decide)
 have w:eY (some (al (-1),al 1))=al 2:=by
  show dj true (al 1) (-al (-1))=al 2
  rw[show -al (-1)=al 1 from by rw[j9,Int.neg_neg]]
  exact rR true (by decide) (by decide) (by decide) (by decide)
 have Q:al 2 < al 7:=qj (by decide) (by decide) (by decide)
 rcases h with⟨k,_⟩ | ⟨_,_,F,za,zb,v,hb,s⟩
 ·exfalso
  rcases k with k | k | k
  ·rw[fa]at k;cases k
  ·rw[g]at k;cases k
  ·rw[w]at k;omega
 ·rw[s];clear s;have p:=(nM fa v).1.us;have q:=(nM g hb).1.us
  have la:∃r u,za=some (r,u)/\iU<=r:=by
   rcases v with⟨c,_⟩ | ⟨_,r,u,d,E,hz⟩
   ·rw[fa]at c;cases c
   ·rw[ea]at d;obtain⟨n,o,e,_⟩:=p;refine⟨n,o,e,?_⟩;rw[e]at hz
    have:=lU d rQ.1
    unfold du at hz
    split at hz
    ·injection hz with hz
     injection hz with e1 e2
     omega
    ·cases hz
  have lb:∃r u,zb=some (r,u)/\iU<=r:=by
   rcases hb with⟨c,_⟩ | ⟨_,r,u,d,E,hz⟩
   ·rw[g]at c;cases c
   ·rw[eb]at d;obtain⟨n,o,e,_⟩:=q;refine⟨n,o,e,?_⟩;rw[e]at hz
    have:=lU d rQ.2
    unfold du at hz
    split at hz
    ·injection hz with hz
     injection hz with e1 e2
     omega
    ·cases hz
  obtain⟨G,I,rfl,O⟩:=la;obtain⟨H,J,rfl,l2⟩:=lb;obtain⟨_,_,e1,a1,a2,a3⟩:=p;obtain⟨_,_,e2,L,B,M⟩:=q
  injection e1 with e1
  injection e1 with e1 e1'
  injection e2 with e2
  injection e2 with e2 e2'
  subst e1;subst e1';subst e2;subst e2';rw[dI ⟨by omega,a2,by omega,by omega,by omega⟩ ⟨by omega,B,by omega,by omega,by omega⟩]
  obtain⟨e,f,D,b,l⟩:=nd (cos:=true) (x:=ak (al (-1))*2) (y:=ak (al 1)*2+2) (j:=(ak (al (-1))*2).fdiv (aH*2)) (r:=min G H) (u:=max I J) (by omega) (by omega) (by omega) 13;rw[D];have z:=zk
  have N:0 < e:=by
   rcases b with⟨h,_⟩ | ⟨_,t,A,a,P⟩
   ·omega
   ·exfalso
    generalize (ak (al (-1))*2).fdiv (aH*2)-4+(t:Int)=i at *;rw[ea,eb]at a
    unfold MT aW at a
    simp only[if_true]at a
    by_cases c:2*i < 0
    ·rw[if_pos c]at a;simp only[Bool.and_eq_true,decide_eq_true_eq]at a
     unfold SC aH bW at *
     omega
    ·rw[if_neg c]at a;simp only[Bool.and_eq_true,decide_eq_true_eq]at a
     unfold SC aH bW at *
     omega
  have hf:f=al 1:=by
   rcases l with⟨_,no⟩ | ⟨h,_⟩
   ·exfalso
    have m:MT true (ak (al (-1))*2) (ak (al 1)*2+2) 0:=by
     rw[ea,eb]
     show aW (if true=true then 2*0 else 2*0+1) (-1*SC*2) (1*SC*2+2)=true
     decide
    obtain⟨t,A,a⟩:=zT fa g F m;rw[a]at m;exact no t A m (by rw[<-a];rfl)
   ·exact h
  subst hf
  have C:e<=al 1:=by
   rcases b with⟨h,_⟩ | ⟨h,_⟩ <;> omega
  refine⟨xJ (by omega) (by omega) C (Int.le_refl _),?_⟩
  show (!bg 0 && decide (e<=0) && decide (0<=al 1))=false
  rw[df (show ¬e<=0 by omega)]
  rfl
theorem Bn:km false (some (al 0,al 7)) dY:=by
 refine .inl ⟨.inr (.inr ?_),rfl⟩
 show al 7<=dj true (al 7) (-al 0)
 rw[show -al 0=al 0 from rfl,rR true (by decide) (by decide) (by decide) (by decide)]
 exact Int.le_refl _
theorem vY:du (al 0) (al 7)=some (al 0,al 7):=by
 have:=gU (n:=7) (by decide) (by decide)
 have e:al 0=0:=rfl
 exact bj (by omega) (by omega) (by omega)
end Go.Proofs.YteigedaefgmojaaGreatDoor
namespace Go.Proofs.YteigedaefgmojaaGreatDoor
open Go.Proofs.Tryz
set_option maxHeartbeats 16000000
open Go.RowKit
set_option linter.unusedVariables false
set_option linter.unusedSimpArgs false
set_option maxRecDepth 100000
theorem rD{cos:Bool}{x y j i:Int}{z:Sp}{k:Nat}(hi:i=j-4+k)(h:aW (if cos then 2*i else 2*i+1) x y=false):bG cos x y j z k=bG cos x y j z (k+1):=by
 show _=lw cos x y (bG cos x y j z k) (j-4+k)
 unfold lw
 rw[<-hi,h]
 rfl
theorem oF{cos:Bool}{x y j i:Int}{z:Sp}{k:Nat}(hi:i=j-4+k)(h:aW (if cos then 2*i else 2*i+1) x y=true):bc (bG cos x y j z k) (jr i)=bG cos x y j z (k+1):=by
 show _=lw cos x y (bG cos x y j z k) (j-4+k)
 unfold lw
 rw[<-hi,h]
 rfl
theorem lM{x y j i:Int}{z:Sp}{k:Nat}(hi:i=j-4+k)(h:aW (2*i+1) x y=false):bG false x y j z k=bG false x y j z (k+1):=rD hi (by rw[if_neg (by decide)];exact h)
theorem nh{x y j i:Int}{z:Sp}{k:Nat}(hi:i=j-4+k)(h:aW (2*i) x y=false):bG true x y j z k=bG true x y j z (k+1):=rD hi (by rw[if_pos rfl];exact h)
theorem gk{x y j i:Int}{z:Sp}{k:Nat}(hi:i=j-4+k)(h:aW (2*i+1) x y=true):bc (bG false x y j z k) (jr i)=bG false x y j z (k+1):=oF hi (by rw[if_neg (by decide)];exact h)
theorem gY{x y j i:Int}{z:Sp}{k:Nat}(hi:i=j-4+k)(h:aW (2*i) x y=true):bc (bG true x y j z k) (jr i)=bG true x y j z (k+1):=oF hi (by rw[if_pos rfl];exact h)
def Dx (w:World)(cos:Bool)(x y j:Int)(z:Sp)(g10 g11 g12:Nat)(s30:Bool)(A30:Option Addr)(n30 c30:Nat)(s32:Bool)(A32:Option Addr)(n32 c32:Nat)(k:Nat)(wr:World):Prop:=∃(e9:Bool) (K9:Int) (s9:Bool) (M9 E9 K9b:Int) (s9b:Bool) (M9b E9b:Int),Bo wr (w.heap.size+1) #[.bool false,.int .i64 0,.bool false,.int .u64 0,.int .i64 0,.int .i64 0,.bool false,.int .u64 0,.int .i64 0] 26/\Bo wr g10 #[.bool e9,.int .i64 K9,.bool s9,.int .u64 M9,.int .i64 E9,.int .i64 K9b,.bool s9b,.int .u64 M9b,.int .i64 E9b] 26/\Bo wr g11 #[.bool s30,.slice A30 n30 c30] 43/\Bo wr g12 #[.bool s32,.slice A32 n32 c32] 43/\Wn wr s30 A30 n30 c30 x/\Wn wr s32 A32 n32 c32 y/\Ci e9 K9 s9 M9 E9 K9b s9b M9b E9b (bG cos x y j z k)/\k<=13/\Below w.heap.size w wr
theorem Cb{w:World}{e:Bool}{D M E D' M' E':Int}{s s':Bool}{cos:Bool}(hM:LQ M)(hM':LQ M'){a b ga gb j:Int}{za zb z:Sp}(hx:fG e D s M E D' s' M' E'=some (a,b))(hp:aD a=true)(hq:aD b=true)(hw:decide (al 7<=eY (some (a,b)))=false)(hga:ak a=ga)(hgb:ak b=gb)(fa:ga.natAbs < 4294967296^10)(fb:gb.natAbs < 4294967296^10)(hza:Sv cos a za)(hzb:Sv cos b zb)(hz:bc za zb=z)(hj:(ga*2).fdiv (aH*2)=j)(j1: -1099511627776<=j)(j2:j<=1099511627776):Calls prog 23 #[VI e D s M E D' s' M' E',.bool cos] w (PV w (bG cos (ga*2) (gb*2+2) j z 13)):=by
 delta VI
 have HX:=ie hx;have HN:=ie hp;have HO:=ie hq;have LG:=ie hga;have LH:=ie hgb;clear hx hp hq hga hgb;obtain⟨σ,hσ⟩:∃σ,ah (eY (some (a,b))) (al 7)=σ:=⟨_,rfl⟩;have e0:=nY hσ;rw[hw]at e0;have HS:=ie hσ;clear hσ hw;have HI:=ie fa;have HK:=ie fb;have HP:=ie hza;have HQ:=ie hzb;have HZ:=ie hz
 have HJ:=ie hj
 have HL:Hid (fits j=true):=ie (by unfold fits;simp;omega)
 clear fa fb hza hzb hz hj
 go_enter func23,ntmps23
 go_upto_region 1 with fail
 generalize JB:(w.alloc _).alloc _=w1 at *;obtain⟨X2,h,l⟩:=Bo.en2 JB;clear JB;have MN:=X2.cell
 go_wp2_with fail
 refine(fP hM hM' HX.out).mono ?_;rintro ee w2 ⟨e5,K5,s5,M5,E5,HU,JV,HW,HG,rfl,v5,B⟩;clear MN;replace h:=h.b B;replace l:=aj l B;clear B
 go_upto_region 2 with fail
 have MB:=h.lt;generalize F:w2.alloc _=w3 at *;obtain⟨J,BW⟩:=Bo.nw F;clear F;replace h:=h.b BW;replace l:=aj l BW;clear BW;clear HX;obtain⟨rfl,qa,qb,JS,oa,ob⟩:=v5;have hQ:=J.cell
 go_wp2_with fail
 refine(kC qa.top qa.rk LG.out HN.out).mono ?_;rintro ee w4 ⟨s6,A6,n6,c6,rfl,Q,k6,B⟩;clear hQ;refine aE ?_ h J l B;clear h J l B;intro h J l;have NB:=l.out.size
 go_upto_region 5 with fail
 have MD:=h.lt;have MC:=J.lt;generalize F:w4.alloc _=w5 at *;obtain⟨V,BW⟩:=Bo.nw F;clear F;refine dk ?_ h J Q l BW;clear h J Q l BW;intro h J Q l;have hQ:=J.cell
 go_wp2_with fail
 refine(kC qb.top qb.rk LH.out HO.out).mono ?_;rintro ee w6 ⟨s8,A8,n8,c8,rfl,R,k8,B⟩;clear hQ;refine dG ?_ h J V Q l B;clear h J V Q l B;intro h J V Q l;have NC:=l.out.size
 go_upto_region 6 with fail
 have MG:=h.lt;have ME:=J.lt;have MF:=V.lt;generalize F:w6.alloc _=w7 at *;obtain⟨W,BW⟩:=Bo.nw F;clear F;refine jD ?_ h J V Q R l BW;clear h J V Q R l BW;intro h J V Q R l;have MW:=Q.fits HI.out;have MX:=R.fits HK.out;clear HI HK HN HO
 have v5:Ci false K5 s5 M5 E5 HU JV HW HG (some (a,b)):=⟨rfl,qa,qb,JS,oa,ob⟩
 have hQ:=J.cell
 go_wp2_with fail
 refine(oA v5.top.1 v5.top.2 v5.rk rfl).mono ?_;rintro ee w8 ⟨bH,hA,gO,bB,rfl,I,B⟩;clear hQ;refine jP ?_ h J V W Q R l B;clear h J V W Q R l B;intro h J V W Q R l
 go_wp2_with fail
 refine(AY (n:=7) (r:=al 7) _ (by decide) (by decide) rfl).mono ?_;rintro ee w9 ⟨bN,hC,gP,bC,rfl,HD,B⟩;refine jP ?_ h J V W Q R l B;clear h J V W Q R l B;intro h J V W Q R l
 go_wp2_with fail
 refine(lF (z:=σ) I.top HD.top (by rw[I.rk,HD.rk];exact HS.out)).mono ?_;rintro ee wZ ⟨rfl,B⟩;refine jP ?_ h J V W Q R l B;clear h J V W Q R l B;intro h J V W Q R l
 go_upto_region 8 with fail
 clear I HD HS e0;have hL:=h.lt;have NE:=J.lt;have NF:=V.lt;have NG:=W.lt;have ND:=l.out.size;refine aV [0,1,2,3,4,5,6,7,8,9] [52,53,54,55,56,57,58,59,60,11,0] [[],[0],[],[1,2],[],[4],[],[5,6],[3,7],[],[]] 11 1 [Jo.qp w2.heap.size 1,Jo.q4 K5 s5 M5 E5,Jo.qb cos,Jo.Fact.iv za,Jo.qp w2.heap.size 5,Jo.q4 HU JV HW HG,Jo.qb cos,Jo.Fact.iv zb,Jo.Fact.iv z,Jo.Fact.bo wZ.heap.size #[.bool false,.int .i64 0,.bool false,.int .u64 0,.int .i64 0,.int .i64 0,.bool false,.int .u64 0,.int .i64 0] 26,Jo.Fact.any] ?_ ?_
 ·iterate 3 (refine jm ?_ ?_;rotate_left)
  refine jm ?_ ?_
  ·rintro O p _ rfl _ rfl K t;go_simp;exact Jo.v1 (IR qa.top qa.rk HP.out) t.out
  iterate 3 (refine jm ?_ ?_;rotate_left)
  refine jm ?_ ?_
  ·rintro O p _ rfl _ rfl K t;go_simp;exact Jo.v1 (IR qb.top qb.rk HQ.out) t.out
  refine jm ?_ ?_
  ·rintro O p _ ⟨hX,hU,xX,hV,hT,gB,hD,gS,bD,rfl,P⟩ _ ⟨LR,LM,MI,LN,LF,HT,JU,HV,HF,rfl,zX⟩ K t;go_simp;exact Jo.v1 (kD P.top.1 P.top.2 zX.top.1 zX.top.2 P.rk zX.rk HZ.out) t.out
  refine jm ?_ ?_
  ·rintro O p K t;go_simp;exact t.out _ _ ⟨_,rfl,p.size,Bo.new _ _ _⟩ (ab _ _)
  exact jo
  all_goals (rintro O p;(repeat rintro _ rfl);intro K t;have hQ:=(J.b p).cell;go_simp;exact t.out _ _ rfl (br _ _))
 rintro wb p _ _ _ rfl _ rfl _ ⟨hX,hU,xX,hV,hT,gB,hD,gS,bD,rfl,P⟩ _ _ _ rfl _ rfl _ ⟨LR,LM,MI,LN,LF,HT,JU,HV,HF,rfl,zX⟩ _ ⟨NS,NN,OD,NO,NM,MS,NH,MU,MR,rfl,JW⟩ _ ⟨g10,rfl,MY,d⟩ -;simp only[Jo.z];replace h:=h.b p;replace V:=V.b p;replace W:=W.b p;replace Q:=Q.b p;replace R:=R.b p
 replace l:=aj l p;clear P zX v5 qa qb JS oa ob HP HQ HZ;have C:=d.cell;have G:=d.frozen
 refine jn 10 fun K t=>?_
 go_simp;refine t.out _ _ ?_;clear t K C G;generalize hS:((((((((wb.setCell _ _).setCell _ _).setCell _ _).setCell _ _).setCell _ _).setCell _ _).setCell _ _).setCell _ _).setCell _ _=wc at *;have u:=ae.of9 d hS;replace h:=h.s u;replace V:=V.s u;replace W:=W.s u;replace Q:=Q.s u
 replace R:=R.s u;replace l:=aP l u (by omega);replace d:=u.box;clear u hS;refine jd ?_
 go_upto_region 9 with fail
 clear X2;clear J;have MO:=V.cell
 go_wp2_with fail
 refine(dr Q.wr (by omega) (by decide) (by decide) rfl).mono ?_;rintro ee wd ⟨s30,A30,n30,c30,rfl,g,NV,B⟩;clear MO;refine dG ?_ h W d R l B;clear h W d R l B;intro h W d R l;have LT:=l.out.size
 go_upto_region 10 with fail
 have JZ:=h.lt;have JY:=W.lt;have JI:=d.lt;generalize F:wd.alloc _=we at *;obtain⟨f,BW⟩:=Bo.nw F;clear F;refine jD ?_ h W d R g l BW;clear h W d R g l BW;intro h W d R g l;have MP:=W.cell
 go_wp2_with fail
 refine(dr R.wr (by omega) (by decide) (by decide) rfl).mono ?_;rintro ee wf ⟨OE,NK,OA,NQ,rfl,lB,NW,B⟩;clear MP;refine dG ?_ h d f g l B;clear h d f g l B;intro h d f g l
 go_wp2_with fail
 refine(fk 2 _ (by decide) (by decide)).mono ?_;rintro ee wg ⟨OF,NL,OB,NR,rfl,JT,NY,B⟩;refine jD ?_ h d f g lB l B;clear h d f g lB l B;intro h d f g lB l
 go_wp2_with fail
 refine(fS lB.wr JT.wr (by omega) (by omega) rfl).mono ?_;rintro ee wh ⟨s32,A32,n32,c32,rfl,o,NX,B⟩;refine dG ?_ h d f g l B;clear h d f g l B;intro h d f g l;clear lB JT Q R;have LU:=l.out.size
 go_upto_region 11 with fail
 have LA:=h.lt;have JJ:=d.lt;have JK:=f.lt;generalize F:wh.alloc _=wi at *;obtain⟨m,BW⟩:=Bo.nw F;clear F;refine jD ?_ h d f g o l BW;clear h d f g o l BW;intro h d f g o l
 go_wp2_with fail
 refine(iO).mono ?_;rintro ee DS ⟨qT,hR,lA,hW,OC,NJ,NZ,NP,rfl,hI,MH,NT,NU,B⟩;refine jP ?_ h d f m g o l B;clear h d f m g o l B;intro h d f m g o l;have LS:=l.out.size
 go_upto_region 12 with fail
 have hY:(World.alloc DS (.cells #[.bool qT,.slice hR lA hW] 43)).heap.size=DS.heap.size+1:=by simp
 have LB:=h.lt;have JL:=d.lt;have JM:=f.lt;have JN:=m.lt;have BX:=ab DS (.cells #[.bool qT,.slice hR lA hW] 43);replace h:=h.b BX;replace d:=d.b BX;replace f:=f.b BX;replace m:=m.b BX
 replace g:=g.b BX;replace o:=o.b BX;replace hI:=hI.b BX;replace l:=ie (bt l.out BX);have hP:=Bo.new DS #[.bool qT,.slice hR lA hW] 43;generalize F:World.alloc DS (.cells #[.bool qT,.slice hR lA hW] 43)=ML at *
 clear F;have LC:=h.lt;have JO:=d.lt;have JP:=f.lt;have JQ:=m.lt;have JR:=hP.lt;generalize F:ML.alloc _=OG at *;obtain⟨HY,BW⟩:=Bo.nw F;clear F;refine yI ?_ h d f m hP g o hI l BW;clear h d f m hP g o hI l BW;intro h d f m hP g o hI l;rw[hY]at HY;clear hY;refine aV [0,1,2,3,4,5,6,7,8,9] [72,73,74,75,76,71,77,78,16,17] [[],[],[1],[0,2],[3],[4],[5],[5],[6],[7]] 10 0 [Jo.Fact.eq (.agg #[.bool s30,.slice A30 n30 c30]),Jo.Fact.eq (.agg #[.bool qT,.slice hR lA hW]),Jo.Fact.wn (aH*2) (9),Jo.Fact.wn (j) (40),Jo.Fact.eq (.tuple #[.int .i64 j,.bool true]),Jo.Fact.eq (.tuple #[.int .i64 j,.bool true]),Jo.qi j,Jo.qb true,Jo.qi j,Jo.qb true] ?_ ?_
 ·iterate 2 (refine jm ?_ ?_;rotate_left)
  refine jm ?_ ?_
  ·rintro O p _ rfl K t;go_simp;exact Jo.w1 (dr (hI.b p).wr (by omega) (by decide) (by decide) rfl) t.out
  refine jm ?_ ?_
  ·rintro O p _ rfl _ ⟨MJ,LD,LZ,LO,rfl,HA,LX⟩ K t;go_simp;exact Jo.w1 (kB (g.b p).wr HA.wr (by omega) (by omega) (by decide) HJ.out) t.out
  refine jm ?_ ?_
  ·rintro O p _ ⟨MK,LE,MA,LP,rfl,HC,LY⟩ K t;go_simp;refine(Iu (r:=j) HC.wr HL.out rfl).mono ?_;rintro ee wk ⟨rfl,B⟩;exact t.out _ _ rfl B
  refine jm ?_ ?_
  ·rintro O p _ rfl K t;go_simp
   exact t.out _ _ (by first | rfl | simp_all) (br _ _)
  refine jm ?_ ?_
  ·rintro O p _ rfl K t;go_simp
   exact t.out _ _ (by first | rfl | simp_all) (br _ _)
  refine jm ?_ ?_
  ·rintro O p _ rfl K t;go_simp
   exact t.out _ _ (by first | rfl | simp_all) (br _ _)
  refine jm ?_ ?_
  ·rintro O p _ rfl K t;go_simp
   exact t.out _ _ (by first | rfl | simp_all) (br _ _)
  refine jm ?_ ?_
  ·rintro O p _ rfl K t;go_simp
   exact t.out _ _ (by first | rfl | simp_all) (br _ _)
  exact jo
  all_goals (rintro O p;(repeat rintro _ rfl);intro K t;have hN:=(f.b p).cell;have NI:=(hP.b p).cell;go_simp;exact t.out _ _ rfl (br _ _))
 rintro MM p _ rfl _ rfl _ ⟨MJ,LD,LZ,LO,rfl,HA,LX⟩ _ ⟨MK,LE,MA,LP,rfl,HC,LY⟩ _ rfl _ rfl _ rfl _ rfl _ rfl _ rfl -;simp only[Jo.z];replace h:=h.b p;replace d:=d.b p;replace f:=f.b p;replace m:=m.b p;replace g:=g.b p;replace o:=o.b p;replace l:=aj l p;refine jd ?_
 clear hI MH HA HC HJ HL
 have G1:w.heap.size+1 < g10/\g10 < wd.heap.size/\wd.heap.size < wh.heap.size:=⟨by omega,by omega,by omega⟩
 have LI:=iw (j-4);have LJ:=jw (j-4);have LK:=iw (j+8);have LL:=jw (j+8)
 have MZ:n30<=100:=by omega
 have NA:n32<=100:=by omega
 have JA:Dx w cos (ga*2) (gb*2+2) j z g10 wd.heap.size wh.heap.size s30 A30 n30 c30 s32 A32 n32 c32 0 MM:=⟨_,_,_,_,_,_,_,_,_,h,d,f,m,g,o,JW,by decide,l.out⟩
 have HM:=ie JA;clear JA h V W d f m hP HY g o JW l;generalize ga*2=x at *;generalize gb*2+2=y at *;have LV:=LI.out;have LW:=LJ.out;go_wp2;clear LV LW
 go_loopw [17] (fun v wr=>∃(k:Nat) (i:Int),v= .int .i64 i/\i=j-4+k/\Dx w cos x y j z g10 wd.heap.size wh.heap.size s30 A30 n30 c30 s32 A32 n32 c32 k wr) (fun v _=>((j+9)-intOf v).toNat)
 case atStart=>exact ⟨0,j-4,rfl,by omega,HM.out⟩
 case round=>
  obtain⟨k,i,rfl,hi,e9,K9,s9,M9,E9,K9b,s9b,M9b,E9b,h,d,f,m,g,o,v9,hk,hB⟩:=hrel;have l:=ie hB;have q:=ie hi;clear hB HM hi;have JC:=LK.out;have JD:=LL.out
  by_cases hlt:k < 13
  ·have HE:decide (i<=j+8)=true:=dt (by have:=q.out;omega)
   have JE:IntKind.i64.wrap (2*i)=2*i:=IntWalk.i64_in _ (by have:=q.out;omega)
   have JF:IntKind.i64.wrap (2*i+1)=2*i+1:=IntWalk.i64_in _ (by have:=q.out;omega)
   have JG:wrap64 (2*i)=2*i:=IntWalk.wrap64_in _ (by have:=q.out;omega)
   have JH:wrap64 (2*i+1)=2*i+1:=IntWalk.wrap64_in _ (by have:=q.out;omega)
   cases cos
   ·obtain⟨r,hr⟩:∃r,aW (2*i+1) x y=r:=⟨_,rfl⟩;have HR:=ie hr;clear hr
    go_upto_region 19 with fail
    have hN:=f.cell;have ET:=m.cell
    go_wp2_with fail
    refine(xR g.wr o.wr (by omega) (by omega) (by have:=q.out;omega) (by have:=q.out;omega) HR.out).mono ?_;rintro ee w3 ⟨rfl,B⟩;clear hN ET;refine jP ?_ h d f m g o l B;clear h d f m g o l B;intro h d f m g o l;clear HE JE JF JG JH JC JD
    cases r
    ·have Y:IntKind.i64.wrap (i+1)=i+1:=IntWalk.i64_in _ (by have:=q.out;omega)
     have Z:wrap64 (i+1)=i+1:=IntWalk.wrap64_in _ (by have:=q.out;omega)
     go_wp2;clear Y Z
     go_roundw
     case rel=>exact ⟨k+1,i+1,rfl,(by have:=q.out;omega),_,_,_,_,_,_,_,_,_,h,d,f,m,g,o,(lM q.out HR.out▸v9),by omega,l.out⟩
     case measure=>
      have:=q.out
      simp[intOf]
      omega
    ·by_cases L:i%2=0
     ·have X:jr i=du (al 1) (al 1):=by unfold jr;rw[if_pos L]
      have HH:Hid (bc (bG false x y j z k) (du (al 1) (al 1))=bG false x y j z (k+1)):=ie (by rw[<-X];exact gk q.out HR.out)
      have N:Int.tmod i 2=0:=by exact(jg i).2 L
      have H:(Int.tmod i 2==0)=true:=by
       rw[N];rfl
      clear X HR
      go_upto_region 22 with fail
      clear H N;have hL:=h.lt;have hF:=d.lt;have hG:=f.lt;have hH:=m.lt;have hZ:=l.out.size;refine aV [0,1,2,3] [102,103,104,105,0] [[],[],[1],[0,2],[]] 5 1 [Jo.q9 e9 K9 s9 M9 E9 K9b s9b M9b E9b,Jo.Fact.num (al 1),Jo.Fact.iv (du (al 1) (al 1)),Jo.Fact.iv (bG false x y j z (k+1)),Jo.Fact.any] ?_ ?_
      ·refine jm ?_ ?_
       ·rintro O p K t;have C:=(d.b p).cell;go_simp;exact t.out _ _ rfl (br _ _)
       refine jm ?_ ?_
       ·rintro O p K t;go_simp;exact Jo.n1 (AY (n:=1) (r:=al 1) _ (by decide) (by decide) rfl) t.out
       refine jm ?_ ?_
       ·rintro O p _ ⟨bH,hA,gO,bB,rfl,I⟩ K t;go_simp;exact Jo.v1 (j6 I.top I.rk rfl) t.out
       refine jm ?_ ?_
       ·rintro O p _ rfl _ ⟨hE,bN,hC,gP,bC,T,bA,U,S,rfl,A⟩ K t;go_simp;exact Jo.v1 (kD v9.top.1 v9.top.2 A.top.1 A.top.2 v9.rk A.rk HH.out) t.out
       exact jo
      rintro w4 p _ rfl _ ⟨bH,hA,gO,bB,rfl,_⟩ _ ⟨hE,bN,hC,gP,bC,T,bA,U,S,rfl,A⟩ _ ⟨hX,hU,xX,hV,hT,gB,hD,gS,bD,rfl,P⟩ -;simp only[Jo.z];replace h:=h.b p;replace d:=d.b p;replace f:=f.b p;replace m:=m.b p;replace g:=g.b p;replace o:=o.b p;replace l:=aj l p
      clear v9 A HH;have C:=d.cell;have G:=d.frozen
      refine jn 4 fun K t=>?_
      go_simp;refine t.out _ _ ?_;clear t K C G;generalize hS:((((((((w4.setCell _ _).setCell _ _).setCell _ _).setCell _ _).setCell _ _).setCell _ _).setCell _ _).setCell _ _).setCell _ _=w5 at *;have u:=ae.of9 d hS;replace h:=h.s u;replace f:=f.s u;replace m:=m.s u
      replace g:=g.s u;replace o:=o.s u;replace l:=aP l u (by omega);replace d:=u.box;clear u hS;refine jd ?_
      have Y:IntKind.i64.wrap (i+1)=i+1:=IntWalk.i64_in _ (by have:=q.out;omega)
      have Z:wrap64 (i+1)=i+1:=IntWalk.wrap64_in _ (by have:=q.out;omega)
      go_wp2;clear Y Z
      go_roundw
      case rel=>exact ⟨k+1,i+1,rfl,(by have:=q.out;omega),_,_,_,_,_,_,_,_,_,h,d,f,m,g,o,P,by omega,l.out⟩
      case measure=>
       have:=q.out
       simp[intOf]
       omega
     ·have X:jr i=du (al (-1)) (al (-1)):=by unfold jr;rw[if_neg L]
      have HH:Hid (bc (bG false x y j z k) (du (al (-1)) (al (-1)))=bG false x y j z (k+1)):=ie (by rw[<-X];exact gk q.out HR.out)
      have N:Int.tmod i 2=Int.tmod i 2:=by rfl
      have H:(Int.tmod i 2==0)=false:=by
       have:Int.tmod i 2≠0:=fun c=>L ((jg i).1 c)
       simpa using this
      clear X HR;clear N
      go_upto_region 23 with fail
      clear H;have hL:=h.lt;have hF:=d.lt;have hG:=f.lt;have hH:=m.lt;have hZ:=l.out.size;refine aV [0,1,2,3] [106,107,108,109,0] [[],[],[1],[0,2],[]] 5 1 [Jo.q9 e9 K9 s9 M9 E9 K9b s9b M9b E9b,Jo.Fact.num (al (-1)),Jo.Fact.iv (du (al (-1)) (al (-1))),Jo.Fact.iv (bG false x y j z (k+1)),Jo.Fact.any] ?_ ?_
      ·refine jm ?_ ?_
       ·rintro O p K t;have C:=(d.b p).cell;go_simp;exact t.out _ _ rfl (br _ _)
       refine jm ?_ ?_
       ·rintro O p K t;go_simp;exact Jo.n1 (AY (n:=(-1)) (r:=al (-1)) _ (by decide) (by decide) rfl) t.out
       refine jm ?_ ?_
       ·rintro O p _ ⟨bH,hA,gO,bB,rfl,I⟩ K t;go_simp;exact Jo.v1 (j6 I.top I.rk rfl) t.out
       refine jm ?_ ?_
       ·rintro O p _ rfl _ ⟨hE,bN,hC,gP,bC,T,bA,U,S,rfl,A⟩ K t;go_simp;exact Jo.v1 (kD v9.top.1 v9.top.2 A.top.1 A.top.2 v9.rk A.rk HH.out) t.out
       exact jo
      rintro w4 p _ rfl _ ⟨bH,hA,gO,bB,rfl,_⟩ _ ⟨hE,bN,hC,gP,bC,T,bA,U,S,rfl,A⟩ _ ⟨hX,hU,xX,hV,hT,gB,hD,gS,bD,rfl,P⟩ -;simp only[Jo.z];replace h:=h.b p;replace d:=d.b p;replace f:=f.b p;replace m:=m.b p;replace g:=g.b p;replace o:=o.b p;replace l:=aj l p
      clear v9 A HH;have C:=d.cell;have G:=d.frozen
      refine jn 4 fun K t=>?_
      go_simp;refine t.out _ _ ?_;clear t K C G;generalize hS:((((((((w4.setCell _ _).setCell _ _).setCell _ _).setCell _ _).setCell _ _).setCell _ _).setCell _ _).setCell _ _).setCell _ _=w5 at *;have u:=ae.of9 d hS;replace h:=h.s u;replace f:=f.s u;replace m:=m.s u
      replace g:=g.s u;replace o:=o.s u;replace l:=aP l u (by omega);replace d:=u.box;clear u hS;refine jd ?_
      have Y:IntKind.i64.wrap (i+1)=i+1:=IntWalk.i64_in _ (by have:=q.out;omega)
      have Z:wrap64 (i+1)=i+1:=IntWalk.wrap64_in _ (by have:=q.out;omega)
      go_wp2;clear Y Z
      go_roundw
      case rel=>exact ⟨k+1,i+1,rfl,(by have:=q.out;omega),_,_,_,_,_,_,_,_,_,h,d,f,m,g,o,P,by omega,l.out⟩
      case measure=>
       have:=q.out
       simp[intOf]
       omega
   ·obtain⟨r,hr⟩:∃r,aW (2*i) x y=r:=⟨_,rfl⟩;have HR:=ie hr;clear hr
    go_upto_region 19 with fail
    have hN:=f.cell;have ET:=m.cell
    go_wp2_with fail
    refine(xR g.wr o.wr (by omega) (by omega) (by have:=q.out;omega) (by have:=q.out;omega) HR.out).mono ?_;rintro ee w3 ⟨rfl,B⟩;clear hN ET;refine jP ?_ h d f m g o l B;clear h d f m g o l B;intro h d f m g o l;clear HE JE JF JG JH JC JD
    cases r
    ·have Y:IntKind.i64.wrap (i+1)=i+1:=IntWalk.i64_in _ (by have:=q.out;omega)
     have Z:wrap64 (i+1)=i+1:=IntWalk.wrap64_in _ (by have:=q.out;omega)
     go_wp2;clear Y Z
     go_roundw
     case rel=>exact ⟨k+1,i+1,rfl,(by have:=q.out;omega),_,_,_,_,_,_,_,_,_,h,d,f,m,g,o,(nh q.out HR.out▸v9),by omega,l.out⟩
     case measure=>
      have:=q.out
      simp[intOf]
      omega
    ·by_cases L:i%2=0
     ·have X:jr i=du (al 1) (al 1):=by unfold jr;rw[if_pos L]
      have HH:Hid (bc (bG true x y j z k) (du (al 1) (al 1))=bG true x y j z (k+1)):=ie (by rw[<-X];exact gY q.out HR.out)
      have N:Int.tmod i 2=0:=by exact(jg i).2 L
      have H:(Int.tmod i 2==0)=true:=by
       rw[N];rfl
      clear X HR
      go_upto_region 22 with fail
      clear H N;have hL:=h.lt;have hF:=d.lt;have hG:=f.lt;have hH:=m.lt;have hZ:=l.out.size;refine aV [0,1,2,3] [102,103,104,105,0] [[],[],[1],[0,2],[]] 5 1 [Jo.q9 e9 K9 s9 M9 E9 K9b s9b M9b E9b,Jo.Fact.num (al 1),Jo.Fact.iv (du (al 1) (al 1)),Jo.Fact.iv (bG true x y j z (k+1)),Jo.Fact.any] ?_ ?_
      ·refine jm ?_ ?_
       ·rintro O p K t;have C:=(d.b p).cell;go_simp;exact t.out _ _ rfl (br _ _)
       refine jm ?_ ?_
       ·rintro O p K t;go_simp;exact Jo.n1 (AY (n:=1) (r:=al 1) _ (by decide) (by decide) rfl) t.out
       refine jm ?_ ?_
       ·rintro O p _ ⟨bH,hA,gO,bB,rfl,I⟩ K t;go_simp;exact Jo.v1 (j6 I.top I.rk rfl) t.out
       refine jm ?_ ?_
       ·rintro O p _ rfl _ ⟨hE,bN,hC,gP,bC,T,bA,U,S,rfl,A⟩ K t;go_simp;exact Jo.v1 (kD v9.top.1 v9.top.2 A.top.1 A.top.2 v9.rk A.rk HH.out) t.out
       exact jo
      rintro w4 p _ rfl _ ⟨bH,hA,gO,bB,rfl,_⟩ _ ⟨hE,bN,hC,gP,bC,T,bA,U,S,rfl,A⟩ _ ⟨hX,hU,xX,hV,hT,gB,hD,gS,bD,rfl,P⟩ -;simp only[Jo.z];replace h:=h.b p;replace d:=d.b p;replace f:=f.b p;replace m:=m.b p;replace g:=g.b p;replace o:=o.b p;replace l:=aj l p
      clear v9 A HH;have C:=d.cell;have G:=d.frozen
      refine jn 4 fun K t=>?_
      go_simp;refine t.out _ _ ?_;clear t K C G;generalize hS:((((((((w4.setCell _ _).setCell _ _).setCell _ _).setCell _ _).setCell _ _).setCell _ _).setCell _ _).setCell _ _).setCell _ _=w5 at *;have u:=ae.of9 d hS;replace h:=h.s u;replace f:=f.s u;replace m:=m.s u
      replace g:=g.s u;replace o:=o.s u;replace l:=aP l u (by omega);replace d:=u.box;clear u hS;refine jd ?_
      have Y:IntKind.i64.wrap (i+1)=i+1:=IntWalk.i64_in _ (by have:=q.out;omega)
      have Z:wrap64 (i+1)=i+1:=IntWalk.wrap64_in _ (by have:=q.out;omega)
      go_wp2;clear Y Z
      go_roundw
      case rel=>exact ⟨k+1,i+1,rfl,(by have:=q.out;omega),_,_,_,_,_,_,_,_,_,h,d,f,m,g,o,P,by omega,l.out⟩
      case measure=>
       have:=q.out
       simp[intOf]
       omega
     ·have X:jr i=du (al (-1)) (al (-1)):=by unfold jr;rw[if_neg L]
      have HH:Hid (bc (bG true x y j z k) (du (al (-1)) (al (-1)))=bG true x y j z (k+1)):=ie (by rw[<-X];exact gY q.out HR.out)
      have N:Int.tmod i 2=Int.tmod i 2:=by rfl
      have H:(Int.tmod i 2==0)=false:=by
       have:Int.tmod i 2≠0:=fun c=>L ((jg i).1 c)
       simpa using this
      clear X HR;clear N
      go_upto_region 23 with fail
      clear H;have hL:=h.lt;have hF:=d.lt;have hG:=f.lt;have hH:=m.lt;have hZ:=l.out.size;refine aV [0,1,2,3] [106,107,108,109,0] [[],[],[1],[0,2],[]] 5 1 [Jo.q9 e9 K9 s9 M9 E9 K9b s9b M9b E9b,Jo.Fact.num (al (-1)),Jo.Fact.iv (du (al (-1)) (al (-1))),Jo.Fact.iv (bG true x y j z (k+1)),Jo.Fact.any] ?_ ?_
      ·refine jm ?_ ?_
       ·rintro O p K t;have C:=(d.b p).cell;go_simp;exact t.out _ _ rfl (br _ _)
       refine jm ?_ ?_
       ·rintro O p K t;go_simp;exact Jo.n1 (AY (n:=(-1)) (r:=al (-1)) _ (by decide) (by decide) rfl) t.out
       refine jm ?_ ?_
       ·rintro O p _ ⟨bH,hA,gO,bB,rfl,I⟩ K t;go_simp;exact Jo.v1 (j6 I.top I.rk rfl) t.out
       refine jm ?_ ?_
       ·rintro O p _ rfl _ ⟨hE,bN,hC,gP,bC,T,bA,U,S,rfl,A⟩ K t;go_simp;exact Jo.v1 (kD v9.top.1 v9.top.2 A.top.1 A.top.2 v9.rk A.rk HH.out) t.out
       exact jo
      rintro w4 p _ rfl _ ⟨bH,hA,gO,bB,rfl,_⟩ _ ⟨hE,bN,hC,gP,bC,T,bA,U,S,rfl,A⟩ _ ⟨hX,hU,xX,hV,hT,gB,hD,gS,bD,rfl,P⟩ -;simp only[Jo.z];replace h:=h.b p;replace d:=d.b p;replace f:=f.b p;replace m:=m.b p;replace g:=g.b p;replace o:=o.b p;replace l:=aj l p
      clear v9 A HH;have C:=d.cell;have G:=d.frozen
      refine jn 4 fun K t=>?_
      go_simp;refine t.out _ _ ?_;clear t K C G;generalize hS:((((((((w4.setCell _ _).setCell _ _).setCell _ _).setCell _ _).setCell _ _).setCell _ _).setCell _ _).setCell _ _).setCell _ _=w5 at *;have u:=ae.of9 d hS;replace h:=h.s u;replace f:=f.s u;replace m:=m.s u
      replace g:=g.s u;replace o:=o.s u;replace l:=aP l u (by omega);replace d:=u.box;clear u hS;refine jd ?_
      have Y:IntKind.i64.wrap (i+1)=i+1:=IntWalk.i64_in _ (by have:=q.out;omega)
      have Z:wrap64 (i+1)=i+1:=IntWalk.wrap64_in _ (by have:=q.out;omega)
      go_wp2;clear Y Z
      go_roundw
      case rel=>exact ⟨k+1,i+1,rfl,(by have:=q.out;omega),_,_,_,_,_,_,_,_,_,h,d,f,m,g,o,P,by omega,l.out⟩
      case measure=>
       have:=q.out
       simp[intOf]
       omega
  ·obtain rfl:k=13:=by omega
   have HE:decide (i<=j+8)=false:=df (by have:=q.out;omega)
   clear g o;have MQ:=h.cell;have JX:=h.frozen;have C:=d.cell;go_wp2;clear MQ JX C;have u:=ae.t9 h e9 K9 s9 M9 E9 K9b s9b M9b E9b
   exact bq (by simp[results,results23,go_sem,u.box.cell]) rfl ⟨_,_,_,_,_,_,_,_,_,rfl,v9,(u.below l.out (by omega))⟩
theorem GJ{w:World}{e:Bool}{D M E D' M' E':Int}{s s':Bool}{cos:Bool}{X Z:Sp}(hM:LQ M)(hM':LQ M')(hx:fG e D s M E D' s' M' E'=X)(hz:km cos X Z):Calls prog 23 #[VI e D s M E D' s' M' E',.bool cos] w (PV w Z):=by
 delta VI
 rcases X with _ | ⟨a,b⟩
 ·have e:Z=none:=hz
  rw[e];exact Cd hM hM' hx
 ·rcases hz with⟨h,rfl⟩ | ⟨fa,c,f,za,zb,d,hb,rfl⟩
  ·cases ea:aD a
   ·exact Cc hM hM' hx ea rfl
   ·cases eb:aD b
    ·exact Ca (q:=false) hM hM' hx ea eb
    ·rcases h with h | h | h
     ·rw[ea]at h;cases h
     ·rw[eb]at h;cases h
     ·exact tj hM hM' hx ea eb (dt h)
  ·obtain⟨g,i⟩:=mG fa;exact Cb hM hM' hx fa c (df f) rfl rfl (eN fa) (eN c) d hb rfl rfl g i
theorem EG{w:World}{e:Bool}{D M E D' M' E':Int}{s s':Bool}{X Z:Sp}(hM:LQ M)(hM':LQ M')(hx:fG e D s M E D' s' M' E'=X)(hz:km false X Z):Calls prog 7 #[VI e D s M E D' s' M' E'] w (PV w Z):=by
 delta VI
 have n:=ie hx;have o:=ie hz;clear hx hz
 go_enter func7,ntmps7
 go_upto_region 1 with fail
 generalize c:(w.alloc _).alloc _=w1 at *;obtain⟨r,a,g⟩:=Bo.en2 c;clear c;have k:=r.cell
 go_wp2_with fail
 refine(GJ hM hM' n.out o.out).mono ?_;rintro u v ⟨e3,p,s3,q,E3,h,j,i,f,rfl,t,B⟩;clear k;replace a:=a.b B;replace g:=aj g B;clear B;have l:=a.cell;have d:=a.frozen;go_wp2;clear l d;have m:=ae.t9 a e3 p s3 q E3 h j i f
 exact bq (by simp[results,results7,go_sem,m.box.cell]) rfl ⟨_,_,_,_,_,_,_,_,_,rfl,t,(m.below g.out (by omega))⟩
theorem EF{w:World}{e:Bool}{D M E D' M' E':Int}{s s':Bool}{X Z:Sp}(hM:LQ M)(hM':LQ M')(hx:fG e D s M E D' s' M' E'=X)(hz:km true X Z):Calls prog 9 #[VI e D s M E D' s' M' E'] w (PV w Z):=by
 delta VI
 have n:=ie hx;have o:=ie hz;clear hx hz
 go_enter func9,ntmps9
 go_upto_region 1 with fail
 generalize c:(w.alloc _).alloc _=w1 at *;obtain⟨r,a,g⟩:=Bo.en2 c;clear c;have k:=r.cell
 go_wp2_with fail
 refine(GJ hM hM' n.out o.out).mono ?_;rintro u v ⟨e3,p,s3,q,E3,h,j,i,f,rfl,t,B⟩;clear k;replace a:=a.b B;replace g:=aj g B;clear B;have l:=a.cell;have d:=a.frozen;go_wp2;clear l d;have m:=ae.t9 a e3 p s3 q E3 h j i f
 exact bq (by simp[results,results9,go_sem,m.box.cell]) rfl ⟨_,_,_,_,_,_,_,_,_,rfl,t,(m.below g.out (by omega))⟩
