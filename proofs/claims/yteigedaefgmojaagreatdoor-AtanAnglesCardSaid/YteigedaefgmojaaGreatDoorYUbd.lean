/-
 Contracts that the proof rests on.
-/
import Derived.Test.YteigedaefgmojaaGreatDoorYUba
import Derived.Test.YteigedaefgmojaaGreatDoorYUbc
namespace Go.Proofs.YteigedaefgmojaaGreatDoor
open Go.Proofs.Tryz
set_option maxHeartbeats 16000000
open Go.RowKit
set_option linter.unusedVariables false
set_option linter.unusedSimpArgs false
set_option maxRecDepth 100000
theorem AS{w:World}{e:Bool}{D M E D' M' E':Int}{s s':Bool}{e2:Bool}{G P Q G' P' Q':Int}{g g':Bool}{x y z:Sp}(hM:LQ M)(hM':LQ M')(hP:LQ P)(hP':LQ P')(hx:iJ e D s M E D' s' M' E'=x)(hy:iJ e2 G g P Q G' g' P' Q'=y)(hr:fL x y=z):Calls prog 42 #[VI e D s M E D' s' M' E',VI e2 G g P Q G' g' P' Q'] w (PV w z):=by
 delta VI
 have HX:=ie hx;have HY:=ie hy;clear hx hy
 go_enter func42,ntmps42
 go_upto_region 1 with fail
 generalize t:((w.alloc _).alloc _).alloc _=w1 at *;obtain⟨X2,p,a,c⟩:=Bo.en3 t;clear t;have bH:=X2.cell
 go_wp2_with fail
 refine(ja hM hM' HX.out).mono ?_;rintro T w2 ⟨e1,K1,s1,M1,E1,J,bB,O,F,rfl,v1,B⟩;clear bH;refine aF ?_ p a c B;clear p a c B;intro p a c
 go_upto_region 2 with fail
 have V:=p.lt;have W:=a.lt;generalize j:w2.alloc _=w3 at *;obtain⟨d,r⟩:=Bo.nw j;clear j;refine aF ?_ p a c r;clear p a c r;intro p a c;have bN:=p.cell
 go_wp2_with fail
 refine(ja hP hP' HY.out).mono ?_;rintro T w4 ⟨e2,K2,s2,M2,E2,L,bC,R,H,rfl,v2,B⟩;clear bN;refine aF ?_ a d c B;clear a d c B;intro a d c
 go_upto_region 3 with fail
 have Y:=a.lt;have X:=d.lt;generalize j:w4.alloc _=w5 at *;obtain⟨m,r⟩:=Bo.nw j;clear j;refine aF ?_ a d c r;clear a d c r;intro a d c;clear HX HY hM hM' hP hP'
 rcases x with _ | ⟨xa,xb⟩
 ·obtain⟨rfl,y1,fH⟩:=v1
  obtain rfl:none=z:=hr
  have h:=d.cell;have i:=m.cell
  go_wp2_with fail
  refine(lQ).mono ?_;rintro T w7 ⟨rfl,B⟩;clear h i;refine aR ?_ a d m c B;clear a d m c B;intro a d m c;have k:=a.cell;have f:=a.frozen;go_wp2;clear k f
  have o:=ac.t9 a true 0 false 0 0 0 false 0 0;exact bq (by simp[results,results42,go_sem,o.box.cell]) rfl ⟨_,_,_,_,_,_,_,_,_,rfl,Ci.none,(o.below c.out (by omega))⟩
 ·obtain⟨rfl,a1,b1,o1,C,A⟩:=v1
  rcases y with _ | ⟨ya,yb⟩
  ·obtain⟨rfl,y2,fP⟩:=v2;clear o1 C A
   obtain rfl:none=z:=hr
   have h:=d.cell;have i:=m.cell
   go_wp2_with fail
   refine(lQ).mono ?_;rintro T w7 ⟨rfl,B⟩;clear h i;refine aR ?_ a d m c B;clear a d m c B;intro a d m c;have k:=a.cell;have f:=a.frozen;go_wp2;clear k f
   have o:=ac.t9 a true 0 false 0 0 0 false 0 0;exact bq (by simp[results,results42,go_sem,o.box.cell]) rfl ⟨_,_,_,_,_,_,_,_,_,rfl,Ci.none,(o.below c.out (by omega))⟩
  ·obtain⟨rfl,a2,b2,o2,bA,Z⟩:=v2;obtain⟨u,U⟩:∃u,ay false xa ya=u:=⟨_,rfl⟩;obtain⟨l,hl⟩:∃l,ay true xb yb=l:=⟨_,rfl⟩
   have v:eH u l=z:=by rw[<-U,<-hl];exact hr
   have HU:=ie U;have HL:=ie hl;have HR:=ie v;clear U hl hr v o1 C A o2 bA Z;have h:=d.cell;have i:=m.cell
   go_upto_region 5 with fail
   clear h i;refine bF [0,1,2,3,4,5,6,7,8,9,10] [19,20,21,22,23,24,25,26,27,28,29,0] [[],[0],[],[2],[1,3],[],[5],[],[7],[6,8],[4,9],[]] 12 1 [Jo.qp w2.heap.size 1,Jo.q4 K1 s1 M1 E1,Jo.qp w4.heap.size 1,Jo.q4 K2 s2 M2 E2,Jo.Fact.num u,Jo.qp w2.heap.size 5,Jo.q4 J bB O F,Jo.qp w4.heap.size 5,Jo.q4 L bC R H,Jo.Fact.num l,Jo.Fact.iv z,Jo.Fact.any] ?_ ?_
   ·iterate 4 (refine jm ?_ ?_;rotate_left)
    refine jm ?_ ?_
    ·rintro wj q _ rfl _ rfl K n;go_simp;exact Jo.n1 (Gu a1.top a2.top a1.rk a2.rk HU.out) n.out
    iterate 4 (refine jm ?_ ?_;rotate_left)
    refine jm ?_ ?_
    ·rintro wj q _ rfl _ rfl K n;go_simp;exact Jo.n1 (Gu b1.top b2.top b1.rk b2.rk HL.out) n.out
    refine jm ?_ ?_
    ·rintro wj q _ ⟨K3,s3,M3,E3,rfl,q3⟩ _ ⟨K4,s4,M4,E4,rfl,q4⟩ K n;go_simp;exact Jo.v1 (pd q3.top q4.top q3.rk q4.rk HR.out) n.out
    exact jo
    all_goals (rintro wj q;(repeat rintro _ rfl);intro K n;have h:=(d.b q).cell;have i:=(m.b q).cell;go_simp;exact n.out _ _ rfl (br _ _))
   rintro w8 q _ _ _ rfl _ _ _ rfl _ ⟨K3,s3,M3,E3,rfl,q3⟩ _ _ _ rfl _ _ _ rfl _ ⟨K4,s4,M4,E4,rfl,q4⟩ _ ⟨e5,K5,s5,M5,E5,N,bD,S,I,rfl,v5⟩ -;simp only[Jo.z];replace a:=a.b q;replace c:=ak c q;have k:=a.cell;have f:=a.frozen
   refine jn 11 fun K n=>?_
   go_simp;refine n.out _ _ ?_;clear n K k f;have o:=ac.t9 a e5 K5 s5 M5 E5 N bD S I;refine jd ?_;go_wp2;exact bq (by simp[results,results42,go_sem,o.box.cell]) rfl ⟨_,_,_,_,_,_,_,_,_,rfl,v5,(o.below c.out (by omega))⟩
theorem AR{w:World}{e:Bool}{D M E D' M' E':Int}{s s':Bool}{e2:Bool}{G P Q G' P' Q':Int}{g g':Bool}{x y z:Sp}(hM:LQ M)(hM':LQ M')(hP:LQ P)(hP':LQ P')(hx:iJ e D s M E D' s' M' E'=x)(hy:iJ e2 G g P Q G' g' P' Q'=y)(hr:kC x y=z):Calls prog 44 #[VI e D s M E D' s' M' E',VI e2 G g P Q G' g' P' Q'] w (PV w z):=by
 delta VI
 obtain⟨m,hm⟩:∃m,ga y=m:=⟨_,rfl⟩
 have h:fL x m=z:=by rw[<-hm];exact hr
 have O:=ie hx;have R:=ie hy;have L:=ie hm;have N:=ie h;clear hx hy hm hr h
 go_enter func44,ntmps44
 go_upto_region 1 with fail
 generalize f:((w.alloc _).alloc _).alloc _=w1 at *;obtain⟨F,H,d,p⟩:=Bo.en3 f;clear f;have i:=F.cell;have j:=H.cell
 go_upto_region 1 with fail
 clear i j;refine bF [0,1,2,3] [6,7,8,9,0] [[],[],[1],[0,2],[]] 5 1 [Jo.q9 e D s M E D' s' M' E',Jo.q9 e2 G g P Q G' g' P' Q',Jo.Fact.iv m,Jo.Fact.iv z,Jo.Fact.any] ?_ ?_
 ·iterate 2 (refine jm ?_ ?_;rotate_left)
  refine jm ?_ ?_
  ·rintro I c _ rfl K a;go_simp;exact Jo.v1 (AQ hP hP' R.out L.out) a.out
  refine jm ?_ ?_
  ·rintro I c _ rfl _ ⟨e1,S,s1,T,J,q,v,t,n,rfl,l⟩ K a;go_simp;exact Jo.v1 (AS hM hM' l.top.1 l.top.2 O.out l.rk N.out) a.out
  exact jo
  all_goals (rintro I c;(repeat rintro _ rfl);intro K a;have i:=(F.b c).cell;have j:=(H.b c).cell;go_simp;exact a.out _ _ rfl (br _ _))
 rintro U c _ rfl _ rfl _ ⟨e1,S,s1,T,J,q,v,t,n,rfl,l⟩ _ ⟨e2,K2,s2,M2,E2,r,A,u,o,rfl,v2⟩ -;simp only[Jo.z];replace d:=d.b c;replace p:=ak p c;have B:=d.cell;have k:=d.frozen
 refine jn 4 fun K a=>?_
 go_simp;refine a.out _ _ ?_;clear a K B k;have C:=ac.t9 d e2 K2 s2 M2 E2 r A u o;refine jd ?_;go_wp2;exact bq (by simp[results,results44,go_sem,C.box.cell]) rfl ⟨_,_,_,_,_,_,_,_,_,rfl,v2,(C.below p.out (by omega))⟩
theorem vN{w:World}{H:Sp}(h:eB H):Calls prog 38 #[] w (PV w H):=by
 obtain⟨r,u,hr,hu,hz⟩:=h
 have HZ:Hid (eH r u=H):=ie hz.symm
 have h1:iP.fdiv 2=iP/2:=Int.fdiv_eq_ediv_of_nonneg _ (by decide)
 have h2:iO.fdiv 2=iO/2:=Int.fdiv_eq_ediv_of_nonneg _ (by decide)
 have HR:=ie hr;have HU:=ie hu;have H1:=ie h1;have H2:=ie h2;clear hr hu h1 h2;clear hz
 go_enter func38,ntmps38
 go_upto_region 1 with fail
 generalize n:w.alloc _=w1 at *;obtain⟨a,e⟩:=Bo.en1 n;clear n
 go_wp2_with fail
 refine(o9).mono ?_;rintro ee v ⟨s2,A2,n2,c2,s3,A3,n3,c3,rfl,p2,i,k2,k3,B⟩;replace a:=a.b B;replace e:=ak e B;clear B;have hA:=e.out.size
 go_upto_region 2 with fail
 have g:(World.alloc v (.cells #[.bool s2,.slice A2 n2 c2] 43)).heap.size=v.heap.size+1:=by simp
 have Z:=a.lt;have A:=af v (.cells #[.bool s2,.slice A2 n2 c2] 43);replace a:=a.b A;replace p2:=p2.b A;replace i:=i.b A;replace e:=ie (bt e.out A);have j:=Bo.new v #[.bool s2,.slice A2 n2 c2] 43;generalize f:World.alloc v (.cells #[.bool s2,.slice A2 n2 c2] 43)=w3 at *
 clear f;have bB:=a.lt;have bA:=j.lt;generalize f:w3.alloc _=w4 at *;obtain⟨L,BW⟩:=Bo.nw f;clear f;refine dW ?_ a j p2 i e BW;clear a j p2 i e BW;intro a j p2 i e;rw[g]at L;clear g;have gS:=a.lt;have gO:=j.lt;have gP:=L.lt;refine bF [0,1,2,3,4,5,6] [8,9,10,11,12,13,14,0] [[],[0],[],[2],[],[3,4],[1,5],[]] 8 1 [Jo.Fact.eq (.agg #[.bool s2,.slice A2 n2 c2]),Jo.Fact.wn (iP/2) (20),Jo.Fact.eq (.agg #[.bool s3,.slice A3 n3 c3]),Jo.Fact.wn (iO/2) (20),Jo.Fact.wn (1) (2),Jo.Fact.wn (iO/2+1) (40),Jo.Fact.iv H,Jo.Fact.any] ?_ ?_
 ·refine jm ?_ ?_;rotate_left
  refine jm ?_ ?_
  ·rintro x d _ rfl K c;go_simp;exact Jo.w1 (qR (p2.b d).wr (by omega) (by decide) (by decide) (by decide) H1.out) c.out
  refine jm ?_ ?_;rotate_left
  refine jm ?_ ?_
  ·rintro x d _ rfl K c;go_simp;exact Jo.w1 (qR (i.b d).wr (by omega) (by decide) (by decide) (by decide) H2.out) c.out
  refine jm ?_ ?_
  ·rintro x d K c;go_simp;exact Jo.w1 (gy 1 _ (by decide) (by decide)) c.out
  refine jm ?_ ?_
  ·rintro x d _ ⟨bD,D,W,N,rfl,p,S⟩ _ ⟨bH,E,X,O,rfl,q,T⟩ K c;go_simp;exact Jo.w1 (gk p.wr q.wr (by omega) (by omega) rfl) c.out
  refine jm ?_ ?_
  ·rintro x d _ ⟨bC,C,V,M,rfl,o,R⟩ _ ⟨bN,F,Y,P,rfl,s,U⟩ K c;go_simp;exact Jo.v1 (vO o.wr s.wr (by omega) (by omega) HR.out HU.out HZ.out) c.out
  exact jo
  all_goals (rintro x d;(repeat rintro _ rfl);intro K c;have hB:=(j.b d).cell;have hC:=(L.b d).cell;go_simp;exact c.out _ _ rfl (br _ _))
 rintro w5 d _ rfl _ ⟨bC,C,V,M,rfl,o,R⟩ _ rfl _ ⟨bD,D,W,N,rfl,p,S⟩ _ ⟨bH,E,X,O,rfl,q,T⟩ _ ⟨bN,F,Y,P,rfl,s,U⟩ _ ⟨Q,I,fH,J,G,l,t,m,k,rfl,fP⟩ -;simp only[Jo.z];replace a:=a.b d;replace e:=ak e d;clear p2 i;have gB:=a.cell
 have y:=a.frozen
 refine jn 7 fun K c=>?_
 go_simp;refine c.out _ _ ?_;clear c K gB y;have SX:=ac.t9 a Q I fH J G l t m k;refine jd ?_;go_wp2;exact bq (by simp[results,results38,go_sem,SX.box.cell]) rfl ⟨_,_,_,_,_,_,_,_,_,rfl,fP,(SX.below e.out (by omega))⟩
theorem Bh{w:World}{D M E:Int}{s:Bool}{x:Int}{Z:Sp}(hM:LQ M)(hx:rk D s M E=x)(x0:0<=x)(x1:x<=al 1)(c1:¬SC < dC x*2)(hZ:eO (dC x) Z):Calls prog 159 #[VQ D s M E] w (PV w Z):=by
 delta VQ
 obtain⟨fb,f0,f1⟩:=bj x0 x1;obtain⟨v,hv⟩:∃v,dC x=v:=⟨_,rfl⟩;rw[hv]at f0 f1 hZ c1;obtain⟨r,r2,hr,Q,hz⟩:=hZ;have hB:=ie (eJ (z:=v) (by have:(0:Int) < SC:=(by decide);omega) f1);obtain⟨u1,u2⟩:=ws f0 f1;obtain⟨u,R⟩:∃u,pU v=u:=⟨_,rfl⟩;obtain⟨a,ha⟩:∃u,pA v=u:=⟨_,rfl⟩;obtain⟨b,hb⟩:∃u,pB v=u:=⟨_,rfl⟩
 obtain⟨S,hS⟩:∃S,aS u 111=S:=⟨_,rfl⟩;rw[R]at u1 u2
 have sp:(3:Int) < SC:=by decide
 have su: -SC<=u/\u<=SC:=by
  generalize SC=Z at *
  omega
 have LG:=ie (eJ su.1 su.2)
 have L:Hid (pK u=S):=ie ((pM su.1 su.2).trans hS)
 have HL:Hid (a+S+ -400=pL v):=ie (by unfold pL;rw[ha,R,hS])
 have HH:Hid (b+S+400=pH v):=ie (by unfold pH;rw[hb,R,hS])
 have HZ:Hid (eH r r2=Z):=ie hz.symm
 obtain⟨σ,hσ⟩:∃σ,ag (v*2) SC=σ:=⟨_,rfl⟩;have e0:=(az hσ).2;rw[df c1]at e0
 have e1:v=u:=by rw[<-R];unfold pU;rw[if_neg c1]
 have e2:0=a:=by rw[<-ha];unfold pA;rw[if_neg c1]
 have e3:0=b:=by rw[<-hb];unfold pB;rw[if_neg c1]
 subst e1;subst e2;subst e3;have HX:=ie hx;have HV:=ie hv;have hA:=ie fb;have HR:=ie hr;have hC:=ie Q;have HS:=ie hσ;have J:=ie e0;clear hx hv fb hr Q hσ e0;clear hz u1 u2 su sp f0 f1 hS x0 x1 c1 R ha hb
 go_enter func159,ntmps159
 go_upto_region 1 with fail
 generalize P:(w.alloc _).alloc _=w1 at *;obtain⟨X1,c,d⟩:=Bo.en2 P;clear P;have HF:=X1.cell
 go_wp2_with fail
 refine(JC hM HX.out HV.out hA.out).mono ?_;rintro G w2 ⟨s3,A3,n3,c3,rfl,k,k3,B⟩;clear HF;replace c:=c.b B;replace d:=ak d B;clear B
 have LP:n3<=7:=k.fits hB.out
 clear k3
 go_upto_region 2 with fail
 have hR:=c.lt;generalize e:w2.alloc _=w3 at *;obtain⟨m,l⟩:=Bo.nw e;clear e;refine aF ?_ c k d l;clear c k d l;intro c k d;clear X1
 go_wp2_with fail
 refine(i9).mono ?_;rintro G w4 ⟨s5,A5,n5,c5,rfl,q,k5,B⟩;refine aR ?_ c m k d B;clear c m k d B;intro c m k d
 go_upto_region 3 with fail
 have hU:=c.lt;have hT:=m.lt;generalize e:w4.alloc _=w5 at *;obtain⟨n,l⟩:=Bo.nw e;clear e;refine dW ?_ c m k q d l;clear c m k q d l;intro c m k q d;have bC:=m.cell
 go_upto_region 4 with fail
 clear bC;have hX:=c.lt;have hV:=m.lt;have hW:=n.lt;generalize e:w5.alloc _=w6 at *;obtain⟨t,l⟩:=Bo.nw e;clear e;refine gv ?_ c m n k q d l;clear c m n k q d l;intro c m n k q d
 go_upto_region 5 with fail
 have lB:=c.lt;have iU:=m.lt;have iV:=n.lt;have lA:=t.lt;generalize e:w6.alloc _=w7 at *;obtain⟨o,l⟩:=Bo.nw e;clear e;refine oG ?_ c m n t k q d l;clear c m n t k q d l;intro c m n t k q d;have HM:=d.out.size
 go_upto_region 6 with fail
 have CD:=c.lt;have qT:=m.lt;have xX:=n.lt;have zX:=t.lt;have BX:=o.lt;generalize e:w7.alloc _=w8 at *;obtain⟨j,l⟩:=Bo.nw e;clear e;refine zo ?_ c m n t o k q d l;clear c m n t o k q d l;intro c m n t o k q d;have HW:=c.lt;have HO:=m.lt;have HP:=n.lt;have HQ:=t.lt;have HT:=o.lt;have HU:=j.lt;refine bF [0,1,2,3,4] [24,25,26,27,28] [[],[0],[],[1,2],[3]] 5 0 [Jo.Fact.eq (.agg #[.bool s3,.slice A3 n3 c3]),Jo.Fact.wn (v*2) (n3+2),Jo.Fact.eq (.agg #[.bool s5,.slice A5 n5 c5]),Jo.qi σ,Jo.qb false] ?_ ?_
 ·refine jm ?_ ?_;rotate_left
  refine jm ?_ ?_
  ·rintro wj p _ rfl K H;go_simp;exact Jo.w1 (ip (k.b p).wr (by omega) (by decide) (by decide) rfl) H.out
  refine jm ?_ ?_;rotate_left
  refine jm ?_ ?_
  ·rintro wj p _ ⟨DS,gP,hQ,hG,rfl,V,hP⟩ _ rfl K H;go_simp;refine(FC (r:=σ) V.wr (q.b p).wr (by omega) (by omega) HS.out).mono ?_;rintro G wk ⟨rfl,B⟩;exact H.out _ _ rfl B
  refine jm ?_ ?_
  ·rintro wj p _ rfl K H;have hI:=J.out;go_simp
   exact H.out _ _ (by first | rfl | (show Value.bool _=Value.bool _;rw[hI]) | simp_all) (br _ _)
  exact jo
  all_goals (rintro wj p;(repeat rintro _ rfl);intro K H;have bC:=(m.b p).cell;have MT:=(n.b p).cell;go_simp;exact H.out _ _ rfl (br _ _))
 rintro w9 p _ rfl _ ⟨DS,gP,hQ,hG,rfl,V,hP⟩ _ rfl _ rfl _ rfl -;simp only[Jo.z];replace c:=c.b p;replace t:=t.b p;replace o:=o.b p;replace j:=j.b p;replace k:=k.b p;replace d:=ak d p;refine jd ?_;clear HS J;clear q n m;have HG:=t.cell
 go_wp2_with fail
 refine(Bc k.wr (by omega) L.out).mono ?_;rintro G HC ⟨MF,HY,LY,LH,rfl,f,LR,B⟩;clear HG;refine aR ?_ c o j d B;clear c o j d B;intro c o j d;clear k;have HN:=d.out.size
 go_upto_region 12 with fail
 have fH:=c.lt;have bH:=o.lt;have bN:=j.lt;generalize e:HC.alloc _=MM at *;obtain⟨h,l⟩:=Bo.nw e;clear e;refine dW ?_ c o j f d l;clear c o j f d l;intro c o j f d;clear t;have HI:=o.cell;have F:=h.cell
 go_wp2_with fail
 refine(gk Wn.zero.wr f.wr (by omega) (by omega) rfl).mono ?_;rintro G MN ⟨MG,LA,LZ,LI,rfl,y,LS,B⟩;clear HI F;refine dW ?_ c j h f d B;clear c j h f d B;intro c j h f d
 go_wp2_with fail
 refine(gy (-400) _ (by decide) (by decide)).mono ?_;rintro G MP ⟨MH,LB,MA,LJ,rfl,W,LT,B⟩;refine gv ?_ c j h f y d B;clear c j h f y d B;intro c j h f y d
 go_wp2_with fail
 refine(gk y.wr W.wr (by omega) (by omega) HL.out).mono ?_;rintro G HD ⟨MI,LC,MB,LK,rfl,g,LU,B⟩;refine dW ?_ c j h f d B;clear c j h f d B;intro c j h f d;clear y W;have hL:=d.out.size
 go_upto_region 13 with fail
 have gB:=c.lt;have fP:=j.lt;have T:=h.lt;generalize e:HD.alloc _=MR at *;obtain⟨i,l⟩:=Bo.nw e;clear e;refine gv ?_ c j h f g d l;clear c j h f g d l;intro c j h f g d;have HJ:=j.cell;have F:=h.cell
 go_wp2_with fail
 refine(gk Wn.zero.wr f.wr (by omega) (by omega) rfl).mono ?_;rintro G MO ⟨MJ,LD,MC,LM,rfl,A,LV,B⟩;clear HJ F;refine aR ?_ c i g d B;clear c i g d B;intro c i g d
 go_wp2_with fail
 refine(gy (400) _ (by decide) (by decide)).mono ?_;rintro G MQ ⟨MK,LE,MD,LN,rfl,X,LW,B⟩;refine dW ?_ c i g A d B;clear c i g A d B;intro c i g A d
 go_wp2_with fail
 refine(gk A.wr X.wr (by omega) (by omega) HH.out).mono ?_;rintro G HE ⟨ML,LF,ME,LO,rfl,C,LX,B⟩;refine aR ?_ c i g d B;clear c i g d B;intro c i g d;clear A X;have hN:=d.out.size
 go_upto_region 14 with fail
 have gO:=c.lt;have U:=i.lt;generalize e:HE.alloc _=MS at *;obtain⟨hF,l⟩:=Bo.nw e;clear e;refine dW ?_ c i g C d l;clear c i g C d l;intro c i g C d;have bA:=i.cell;have bB:=hF.cell
 go_wp2_with fail
 refine(vO g.wr C.wr (by omega) (by omega) HR.out hC.out HZ.out).mono ?_;rintro G wG ⟨hH,hD,ET,hE,gS,N,Y,O,I,rfl,HA,B⟩;clear bA bB;replace c:=c.b B;replace d:=ak d B;clear B;clear f g C;have HK:=c.cell;have bD:=c.frozen;go_wp2;clear HK bD
 have SX:=ac.t9 c hH hD ET hE gS N Y O I;exact bq (by simp[results,results159,go_sem,SX.box.cell]) rfl ⟨_,_,_,_,_,_,_,_,_,rfl,HA,(SX.below d.out (by omega))⟩
theorem Bg{w:World}{D M E:Int}{s:Bool}{x:Int}{Z:Sp}(hM:LQ M)(hx:rk D s M E=x)(x0:0<=x)(x1:x<=al 1)(c1:SC < dC x*2)(hZ:eO (dC x) Z):Calls prog 159 #[VQ D s M E] w (PV w Z):=by
 delta VQ
 obtain⟨fb,f0,f1⟩:=bj x0 x1;obtain⟨v,hv⟩:∃v,dC x=v:=⟨_,rfl⟩;rw[hv]at f0 f1 hZ c1;obtain⟨r,r2,hr,gP,hz⟩:=hZ;have HQ:=ie (eJ (z:=v) (by have:(0:Int) < SC:=(by decide);omega) f1);obtain⟨u1,u2⟩:=ws f0 f1;obtain⟨u,hu⟩:∃u,pU v=u:=⟨_,rfl⟩;obtain⟨a,ha⟩:∃u,pA v=u:=⟨_,rfl⟩;obtain⟨b,hb⟩:∃u,pB v=u:=⟨_,rfl⟩
 obtain⟨S,L⟩:∃S,aS u 111=S:=⟨_,rfl⟩;rw[hu]at u1 u2
 have sp:(3:Int) < SC:=by decide
 have su: -SC<=u/\u<=SC:=by
  generalize SC=Z at *
  omega
 have HP:=ie (eJ su.1 su.2)
 have fH:Hid (pK u=S):=ie ((pM su.1 su.2).trans L)
 have HL:Hid (a+S+ -400=pL v):=ie (by unfold pL;rw[ha,hu,L])
 have HH:Hid (b+S+400=pH v):=ie (by unfold pH;rw[hb,hu,L])
 have HZ:Hid (eH r r2=Z):=ie hz.symm
 obtain⟨σ,hσ⟩:∃σ,ag (v*2) SC=σ:=⟨_,rfl⟩;have e0:=(az hσ).2;rw[dt c1]at e0
 have e1:((v-SC)*SC).fdiv (v+SC)=u:=by
  rw[<-hu]
  unfold pU
  rw[if_pos c1];exact Int.fdiv_eq_ediv_of_nonneg _ (by omega)
 have e2:iP.fdiv 4=a:=by
  rw[<-ha]
  unfold pA
  rw[if_pos c1];exact Int.fdiv_eq_ediv_of_nonneg _ (by decide)
 have e3:iO.fdiv 4=iO/4:=Int.fdiv_eq_ediv_of_nonneg _ (by decide)
 have e4:iO/4+1=b:=by rw[<-hb];unfold pB;rw[if_pos c1]
 have e5:v+SC≠0:=by omega
 have HX:=ie hx;have HV:=ie hv;have HO:=ie fb;have HR:=ie hr;have HU:=ie gP;have HS:=ie hσ;have bN:=ie e0;have HW:=ie e1;have H4:=ie e2;have H5:=ie e3;have H6:=ie e4;have HT:=ie e5;clear hx hv fb hr gP hσ e0 e1 e2 e3 e4 e5;clear hz u1 u2 su sp f0 f1 L x0 x1 c1 hu ha hb
 go_enter func159,ntmps159
 go_upto_region 1 with fail
 generalize gO:(w.alloc _).alloc _=w1 at *;obtain⟨X1,c,d⟩:=Bo.en2 gO;clear gO;have NF:=X1.cell
 go_wp2_with fail
 refine(JC hM HX.out HV.out HO.out).mono ?_;rintro J w2 ⟨s3,A3,n3,c3,rfl,t,k3,B⟩;clear NF;replace c:=c.b B;replace d:=ak d B;clear B
 have OO:n3<=7:=t.fits HQ.out
 clear k3
 go_upto_region 2 with fail
 have LW:=c.lt;generalize f:w2.alloc _=w3 at *;obtain⟨m,H⟩:=Bo.nw f;clear f;refine aF ?_ c t d H;clear c t d H;intro c t d;clear X1
 go_wp2_with fail
 refine(i9).mono ?_;rintro J w4 ⟨s5,A5,n5,c5,rfl,G,k5,B⟩;refine aR ?_ c m t d B;clear c m t d B;intro c m t d
 go_upto_region 3 with fail
 have LY:=c.lt;have LX:=m.lt;generalize f:w4.alloc _=w5 at *;obtain⟨C,H⟩:=Bo.nw f;clear f;refine dW ?_ c m t G d H;clear c m t G d H;intro c m t G d;have bA:=m.cell
 go_upto_region 4 with fail
 clear bA;have MB:=c.lt;have LZ:=m.lt;have MA:=C.lt;generalize f:w5.alloc _=w6 at *;obtain⟨h,H⟩:=Bo.nw f;clear f;refine gv ?_ c m C t G d H;clear c m C t G d H;intro c m C t G d
 go_upto_region 5 with fail
 have MF:=c.lt;have MC:=m.lt;have MD:=C.lt;have ME:=h.lt;generalize f:w6.alloc _=w7 at *;obtain⟨g,H⟩:=Bo.nw f;clear f;refine oG ?_ c m C h t G d H;clear c m C h t G d H;intro c m C h t G d;have NK:=d.out.size
 go_upto_region 6 with fail
 have MK:=c.lt;have MG:=m.lt;have MH:=C.lt;have MI:=h.lt;have MJ:=g.lt;generalize f:w7.alloc _=w8 at *;obtain⟨e,H⟩:=Bo.nw f;clear f;refine zo ?_ c m C h g t G d H;clear c m C h g t G d H;intro c m C h g t G d;have hE:=c.lt;have gS:=m.lt;have hA:=C.lt;have hB:=h.lt;have hC:=g.lt;have hD:=e.lt;refine bF [0,1,2,3,4] [24,25,26,27,28] [[],[0],[],[1,2],[3]] 5 0 [Jo.Fact.eq (.agg #[.bool s3,.slice A3 n3 c3]),Jo.Fact.wn (v*2) (n3+2),Jo.Fact.eq (.agg #[.bool s5,.slice A5 n5 c5]),Jo.qi σ,Jo.qb true] ?_ ?_
 ·refine jm ?_ ?_;rotate_left
  refine jm ?_ ?_
  ·rintro Y l _ rfl K I;go_simp;exact Jo.w1 (ip (t.b l).wr (by omega) (by decide) (by decide) rfl) I.out
  refine jm ?_ ?_;rotate_left
  refine jm ?_ ?_
  ·rintro Y l _ ⟨MR,HI,LR,LC,rfl,hH,LK⟩ _ rfl K I;go_simp;refine(FC (r:=σ) hH.wr (G.b l).wr (by omega) (by omega) HS.out).mono ?_;rintro J wk ⟨rfl,B⟩;exact I.out _ _ rfl B
  refine jm ?_ ?_
  ·rintro Y l _ rfl K I;have LH:=bN.out;go_simp
   exact I.out _ _ (by first | rfl | (show Value.bool _=Value.bool _;rw[LH]) | simp_all) (br _ _)
  exact jo
  all_goals (rintro Y l;(repeat rintro _ rfl);intro K I;have bA:=(m.b l).cell;have NG:=(C.b l).cell;go_simp;exact I.out _ _ rfl (br _ _))
 rintro w9 l _ rfl _ ⟨MR,HI,LR,LC,rfl,hH,LK⟩ _ rfl _ rfl _ rfl -;simp only[Jo.z];replace c:=c.b l;replace m:=m.b l;replace C:=C.b l;replace h:=h.b l;replace g:=g.b l;replace e:=e.b l;replace t:=t.b l;replace G:=G.b l;replace d:=ak d l;refine jd ?_;clear HS bN
 go_wp2_with fail
 refine(o9).mono ?_;rintro J W ⟨s9,A9,n9,c9,PS,NO,PD,OB,rfl,V,q,k9,OP,B⟩;refine GE ?_ c m C h g e t G d B;clear c m C h g e t G d B;intro c m C h g e t G d;have NL:=d.out.size
 go_upto_region 8 with fail
 have P:(World.alloc W (.cells #[.bool s9,.slice A9 n9 c9] 43)).heap.size=W.heap.size+1:=by simp
 have MQ:=c.lt;have ML:=m.lt;have MM:=C.lt;have MN:=h.lt;have MO:=g.lt;have MP:=e.lt;have N:=af W (.cells #[.bool s9,.slice A9 n9 c9] 43);replace c:=c.b N;replace m:=m.b N;replace C:=C.b N;replace h:=h.b N
 replace g:=g.b N;replace e:=e.b N;replace t:=t.b N;replace G:=G.b N;replace V:=V.b N;replace q:=q.b N
 replace d:=ie (bt d.out N);have O:=Bo.new W #[.bool s9,.slice A9 n9 c9] 43;generalize f:World.alloc W (.cells #[.bool s9,.slice A9 n9 c9] 43)=MY at *;clear f;have ET:=c.lt;have lB:=m.lt;have qT:=C.lt;have xX:=h.lt;have zX:=g.lt;have CD:=e.lt;have DS:=O.lt;generalize f:MY.alloc _=QJ at *
 obtain⟨F,H⟩:=Bo.nw f;clear f;refine If ?_ c m C h g e O t G V q d H;clear c m C h g e O t G V q d H;intro c m C h g e O t G V q d;rw[P]at F
 clear P;have hE:=c.lt;have gS:=m.lt;have hA:=C.lt;have hB:=h.lt;have hC:=g.lt;have hD:=e.lt;have NN:=O.lt;have LP:=F.lt;refine bF [0,1,2,3,4,5,6,7,8] [33,34,35,36,37,38,39,40,41,0] [[],[],[0,1],[],[2,3],[],[],[5,6],[4,7],[]] 10 1 [Jo.Fact.eq (.agg #[.bool s3,.slice A3 n3 c3]),Jo.Fact.eq (.agg #[.bool s5,.slice A5 n5 c5]),Jo.Fact.wn (v-SC) (20),Jo.Fact.eq (.agg #[.bool s5,.slice A5 n5 c5]),Jo.Fact.wn ((v-SC)*SC) (60),Jo.Fact.eq (.agg #[.bool s3,.slice A3 n3 c3]),Jo.Fact.eq (.agg #[.bool s5,.slice A5 n5 c5]),Jo.Fact.wn (v+SC) (20),Jo.Fact.wn (u) (100),Jo.Fact.any] ?_ ?_
 ·iterate 2 (refine jm ?_ ?_;rotate_left)
  refine jm ?_ ?_
  ·rintro Y l _ rfl _ rfl K I;go_simp;exact Jo.w1 (FD (t.b l).wr (G.b l).wr (by omega) (by omega) rfl) I.out
  refine jm ?_ ?_;rotate_left
  refine jm ?_ ?_
  ·rintro Y l _ ⟨MT,HJ,LS,LD,rfl,hN,LM⟩ _ rfl K I;go_simp;exact Jo.w1 (Iw hN.wr (G.b l).wr (by omega) (by omega) rfl) I.out
  iterate 2 (refine jm ?_ ?_;rotate_left)
  refine jm ?_ ?_
  ·rintro Y l _ rfl _ rfl K I;go_simp;exact Jo.w1 (gk (t.b l).wr (G.b l).wr (by omega) (by omega) rfl) I.out
  refine jm ?_ ?_
  ·rintro Y l _ ⟨MU,HK,LT,LE,rfl,hP,LN⟩ _ ⟨MW,HM,LU,LF,rfl,hQ,LO⟩ K I;go_simp;exact Jo.w1 (vM hP.wr hQ.wr (by omega) (by omega) HT.out HW.out) I.out
  exact jo
  all_goals (rintro Y l;(repeat rintro _ rfl);intro K I;have bA:=(m.b l).cell;have NG:=(C.b l).cell;go_simp;exact I.out _ _ rfl (br _ _))
 rintro MZ l _ rfl _ rfl _ ⟨MT,HJ,LS,LD,rfl,hN,LM⟩ _ rfl _ ⟨MU,HK,LT,LE,rfl,hP,LN⟩ _ rfl _ rfl _ ⟨MW,HM,LU,LF,rfl,hQ,LO⟩ _ ⟨QC,NW,LV,OJ,rfl,j,OX⟩ -;simp only[Jo.z];replace c:=c.b l;replace h:=h.b l;replace g:=g.b l;replace e:=e.b l;replace O:=O.b l;replace F:=F.b l;replace V:=V.b l
 replace q:=q.b l;replace d:=ak d l;clear t G;have bB:=h.cell;have hX:=h.frozen
 refine jn 9 fun K I=>?_
 go_simp;refine I.out _ _ ?_;clear I K bB hX;generalize L:(MZ.setCell _ _).setCell _ _=QL at *;have o:=ac.of2 h L;replace c:=c.s o;replace g:=g.s o;replace e:=e.s o;replace O:=O.s o;replace F:=F.s o;replace V:=V.s o;replace q:=q.s o
 replace j:=j.s o;replace d:=bi d o (by omega);replace h:=o.box;clear o L;refine jd ?_
 have NJ:LV<=7:=j.fits HP.out
 clear m C;have NH:=O.cell
 go_wp2_with fail
 refine(qR V.wr (by omega) (by decide) (by decide) (by decide) H4.out).mono ?_;rintro J NA ⟨QD,NX,PM,OK,rfl,k,OY,B⟩;clear NH;refine zo ?_ c h g e F q j d B;clear c h g e F q j d B;intro c h g e F q j d;clear V;have bC:=g.cell
 have iU:=g.frozen
 go_upto_region 10 with fail
 clear bC iU;generalize L:(NA.setCell _ _).setCell _ _=QM at *;have o:=ac.of2 g L;replace c:=c.s o;replace h:=h.s o;replace e:=e.s o;replace F:=F.s o;replace q:=q.s o;replace j:=j.s o;replace k:=k.s o;replace d:=bi d o (by omega)
 replace g:=o.box;clear o L;clear O;have hU:=F.cell
 go_wp2_with fail
 refine(qR q.wr (by omega) (by decide) (by decide) (by decide) H5.out).mono ?_;rintro J QN ⟨QE,NY,PO,OL,rfl,U,OZ,B⟩;clear hU;refine oG ?_ c h g e j k d B;clear c h g e j k d B;intro c h g e j k d;clear q
 go_wp2_with fail
 refine(gy 1 _ (by decide) (by decide)).mono ?_;rintro J QO ⟨QG,NZ,PP,OM,rfl,hR,PA,B⟩;refine zo ?_ c h g e j k U d B;clear c h g e j k U d B;intro c h g e j k U d
 go_wp2_with fail
 refine(gk U.wr hR.wr (by omega) (by omega) H6.out).mono ?_;rintro J NB ⟨QI,OA,PQ,ON,rfl,i,PC,B⟩;refine oG ?_ c h g e j k d B;clear c h g e j k d B;intro c h g e j k d;clear U hR;have bD:=e.cell;have iV:=e.frozen
 go_upto_region 11 with fail
 clear bD iV;generalize L:(NB.setCell _ _).setCell _ _=QP at *;have o:=ac.of2 e L;replace c:=c.s o;replace h:=h.s o;replace g:=g.s o;replace j:=j.s o;replace k:=k.s o;replace i:=i.s o;replace d:=bi d o (by omega);replace e:=o.box
 clear o L;clear F;have bB:=h.cell
 go_wp2_with fail
 refine(Bc j.wr (by omega) fH.out).mono ?_;rintro J NC ⟨PT,NP,PE,OC,rfl,n,OQ,B⟩;clear bB;refine gv ?_ c g e k i d B;clear c g e k i d B;intro c g e k i d;clear j;have NM:=d.out.size
 go_upto_region 12 with fail
 have HD:=c.lt;have HA:=g.lt;have HC:=e.lt;generalize f:NC.alloc _=QQ at *;obtain⟨y,H⟩:=Bo.nw f;clear f;refine oG ?_ c g e k i n d H;clear c g e k i n d H;intro c g e k i n d;clear h;have bC:=g.cell
 have X:=y.cell
 go_wp2_with fail
 refine(gk k.wr n.wr (by omega) (by omega) rfl).mono ?_;rintro J QR ⟨PW,NQ,PF,OD,rfl,Q,OR,B⟩;clear bC X;refine gv ?_ c e y i n d B;clear c e y i n d B;intro c e y i n d
 go_wp2_with fail
 refine(gy (-400) _ (by decide) (by decide)).mono ?_;rintro J QT ⟨PX,NR,PG,OE,rfl,hI,OS,B⟩;refine oG ?_ c e y i n Q d B;clear c e y i n Q d B;intro c e y i n Q d
 go_wp2_with fail
 refine(gk Q.wr hI.wr (by omega) (by omega) HL.out).mono ?_;rintro J ND ⟨PY,NS,PH,OF,rfl,p,OT,B⟩;refine gv ?_ c e y i n d B;clear c e y i n d B;intro c e y i n d;clear Q hI;have LI:=d.out.size
 go_upto_region 13 with fail
 have HF:=c.lt;have HE:=e.lt;have hF:=y.lt;generalize f:ND.alloc _=QV at *;obtain⟨A,H⟩:=Bo.nw f;clear f;refine oG ?_ c e y i n p d H;clear c e y i n p d H;intro c e y i n p d;have bD:=e.cell;have X:=y.cell
 go_wp2_with fail
 refine(gk i.wr n.wr (by omega) (by omega) rfl).mono ?_;rintro J QS ⟨PZ,NT,PJ,OG,rfl,R,OU,B⟩;clear bD X;refine aR ?_ c A p d B;clear c A p d B;intro c A p d
 go_wp2_with fail
 refine(gy (400) _ (by decide) (by decide)).mono ?_;rintro J QU ⟨QA,NU,PK,OH,rfl,hL,OV,B⟩;refine dW ?_ c A p R d B;clear c A p R d B;intro c A p R d
 go_wp2_with fail
 refine(gk R.wr hL.wr (by omega) (by omega) HH.out).mono ?_;rintro J NE ⟨QB,NV,PL,OI,rfl,T,OW,B⟩;refine aR ?_ c A p d B;clear c A p d B;intro c A p d;clear R hL;have LJ:=d.out.size
 go_upto_region 14 with fail
 have HG:=c.lt;have hG:=A.lt;generalize f:NE.alloc _=QW at *;obtain⟨LB,H⟩:=Bo.nw f;clear f;refine dW ?_ c A p T d H;clear c A p T d H;intro c A p T d;have hV:=A.cell;have hW:=LB.cell
 go_wp2_with fail
 refine(vO p.wr T.wr (by omega) (by omega) HR.out HU.out HZ.out).mono ?_;rintro J wG ⟨LG,HY,MS,LA,HN,fP,hT,gB,bH,rfl,MX,B⟩;clear hV hW;replace c:=c.b B;replace d:=ak d B;clear B;clear k i n p T;have NI:=c.cell;have lA:=c.frozen;go_wp2;clear NI lA
 have o:=ac.t9 c LG HY MS LA HN fP hT gB bH;exact bq (by simp[results,results159,go_sem,o.box.cell]) rfl ⟨_,_,_,_,_,_,_,_,_,rfl,MX,(o.below d.out (by omega))⟩
theorem sL{w:World}{D M E:Int}{s:Bool}{x:Int}{Z:Sp}(hM:LQ M)(hx:rk D s M E=x)(h:mb x Z):Calls prog 159 #[VQ D s M E] w (PV w Z):=by
 delta VQ
 obtain⟨b,c,a⟩:=h
 by_cases c1:SC < dC x*2
 ·exact Bg hM hx b c c1 a
 ·exact Bh hM hx b c c1 a
theorem mw{D:Int}{s:Bool}{M E x:Int}(k:Fq D s M E x)(x0:0<=x):(D==2)=decide (x=19342822337206103650074625):=by
 rcases k.cases with⟨e0,_,_,_,e⟩ | ⟨e0,_,_,_,_,⟨_,e⟩ | ⟨_,e⟩⟩ | ⟨e0,_,_,⟨_,e⟩ | ⟨_,e⟩⟩
 ·rw[e0,df (by omega)];rfl
 ·rw[e0,df (by omega)];rfl
 ·rw[e0,df (by omega)];rfl
 ·rw[e0,dt (by omega)];rfl
 ·omega
theorem Bj{w:World}{D D' M M' E E':Int}{s s':Bool}{x:Int}{Z:Sp}(k:Fq D s M E x)(k1:Fq D' s' M' E' (al 1))(x0:0<=x)(hx1:x=19342822337206103650074625)(hZ:eB Z):Calls prog 105 #[VQ D s M E,VQ D' s' M' E'] w (PV w Z):=by
 delta VQ
 have f:=mw k x0;rw[dt hx1]at f;have v:=ie f;have y:=ie hZ;clear f hZ;clear hx1
 go_enter func105,ntmps105
 go_upto_region 1 with fail
 generalize g:((w.alloc _).alloc _).alloc _=w1 at *;obtain⟨z,A,e,l⟩:=Bo.en3 g;clear g;have f:=v.out;have r:=z.cell
 go_wp2_with fail
 refine(vN y.out).mono ?_;rintro C F ⟨o,m,p,n,j,c,h,d,a,rfl,q,B⟩;clear r;replace e:=e.b B;replace l:=ak l B;clear B;clear f;have t:=e.cell;have i:=e.frozen;go_wp2;clear t i;have u:=ac.t9 e o m p n j c h d a
 exact bq (by simp[results,results105,go_sem,u.box.cell]) rfl ⟨_,_,_,_,_,_,_,_,_,rfl,q,(u.below l.out (by omega))⟩
theorem xU{w:World}{D D' M M' E E':Int}{s s':Bool}{x:Int}{Z:Sp}(k:Fq D s M E x)(k1:Fq D' s' M' E' (al 1))(x0:0<=x)(x1:x<=al 1)(hx1:x≠19342822337206103650074625)(hZ:eO (dC x) Z):Calls prog 105 #[VQ D s M E,VQ D' s' M' E'] w (PV w Z):=by
 delta VQ
 have i:=mw k x0;obtain⟨ρ,u⟩:∃σ,ag x (al 1)=σ:=⟨_,rfl⟩;have e2:=ju u;rw[df hx1]at i;rw[dt x1]at e2
 have G:mb x Z:=⟨x0,x1,hZ⟩
 have H:=ie i;have o:=ie e2;have p:=ie u;have I:=ie G;clear i e2 u G;clear hx1 hZ x1
 go_enter func105,ntmps105
 go_upto_region 1 with fail
 generalize j:((w.alloc _).alloc _).alloc _=w1 at *;obtain⟨h,J,a,d⟩:=Bo.en3 j;clear j;have i:=H.out;have e2:=o.out;have c:=h.cell;have A:=J.cell
 go_wp2_with fail
 refine(nA (z:=ρ) k.top k1.top (by rw[k.rk,k1.rk];exact p.out)).mono ?_;rintro L N ⟨rfl,B⟩;clear c A;refine aF ?_ h a d B;clear h a d B;intro h a d;have c:=h.cell
 go_wp2_with fail
 refine(sL k.top k.rk I.out).mono ?_;rintro L O ⟨t,q,v,r,n,f,l,g,e,rfl,y,B⟩;clear c;replace a:=a.b B;replace d:=ak d B;clear B;clear i e2;have C:=a.cell;have m:=a.frozen;go_wp2;clear C m;have F:=ac.t9 a t q v r n f l g e
 exact bq (by simp[results,results105,go_sem,F.box.cell]) rfl ⟨_,_,_,_,_,_,_,_,_,rfl,y,(F.below d.out (by omega))⟩
theorem Bi{w:World}{D D' M M' E E':Int}{s s':Bool}{x:Int}{ql qh:Int}{H U V W Z:Sp}(k:Fq D s M E x)(k1:Fq D' s' M' E' (al 1))(x0:0<=x)(x1:¬x<=al 1)(hx1:x≠19342822337206103650074625)(hH:eB H)(hl:Qt false (al 1) x ql)(hh:Qt true (al 1) x qh)(hU:mb ql U)(hV:mb qh V)(hW:bK U V=W)(hZ:kC H W=Z):Calls prog 105 #[VQ D s M E,VQ D' s' M' E'] w (PV w Z):=by
 delta VQ
 have S:=mw k x0;obtain⟨ρ,hρ⟩:∃σ,ag x (al 1)=σ:=⟨_,rfl⟩;have e2:=ju hρ;rw[df hx1]at S;rw[df x1]at e2;have HD:=ie S;have gO:=ie e2;have hA:=ie hρ;have HH:=ie hH;have gS:=ie hl;have gP:=ie hh;have HU:=ie hU;have HV:=ie hV;have HW:=ie hW;have HZ:=ie hZ
 clear S e2 hρ hH hl hh hU hV hW hZ;clear hx1 x1
 go_enter func105,ntmps105
 go_upto_region 1 with fail
 generalize T:((w.alloc _).alloc _).alloc _=w1 at *;obtain⟨d,e,a,c⟩:=Bo.en3 T;clear T;have S:=HD.out;have e2:=gO.out;have h:=d.cell;have i:=e.cell
 go_wp2_with fail
 refine(nA (z:=ρ) k.top k1.top (by rw[k.rk,k1.rk];exact hA.out)).mono ?_;rintro ee w2 ⟨rfl,B⟩;clear h i;refine aR ?_ d e a c B;clear d e a c B;intro d e a c;have h:=d.cell;have i:=e.cell
 go_wp2_with fail
 refine(qQ k1.top k.top k1.rk k.rk gS.out).mono ?_;rintro ee w3 ⟨HK,HO,HM,HI,rfl,o,B⟩;clear h i;refine aR ?_ d e a c B;clear d e a c B;intro d e a c
 go_wp2_with fail
 refine(sL o.top o.rk HU.out).mono ?_;rintro ee w4 ⟨hP,hB,qT,hG,bH,F,X,N,u,rfl,q,B⟩;refine aR ?_ d e a c B;clear d e a c B;intro d e a c;have HA:=c.out.size
 go_upto_region 6 with fail
 clear S e2;have hX:=d.lt;have iU:=e.lt;have iV:=a.lt;generalize g:w4.alloc _=w5 at *;obtain⟨f,t⟩:=Bo.nw g;clear g;refine aR ?_ d e a c t;clear d e a c t;intro d e a c;clear o;have h:=d.cell;have i:=e.cell
 go_wp2_with fail
 refine(qQ k1.top k.top k1.rk k.rk gP.out).mono ?_;rintro ee w6 ⟨HL,HP,HN,HJ,rfl,p,B⟩;clear h i;refine aF ?_ a f c B;clear a f c B;intro a f c
 go_wp2_with fail
 refine(sL p.top p.rk HV.out).mono ?_;rintro ee w7 ⟨hQ,hC,xX,hI,bN,G,Y,O,v,rfl,r,B⟩;refine aF ?_ a f c B;clear a f c B;intro a f c;have HC:=c.out.size
 go_upto_region 7 with fail
 have lB:=a.lt;have lA:=f.lt;generalize g:w7.alloc _=w8 at *;obtain⟨X6,t⟩:=Bo.nw g;clear g;refine aF ?_ a f c t;clear a f c t;intro a f c;clear p;have HG:=a.lt;have HE:=f.lt;have HF:=X6.lt;refine bF [0,1,2,3,4] [26,27,28,29,30,0] [[],[],[],[1,2],[0,3],[]] 6 1 [Jo.Fact.iv H,Jo.q9 hP hB qT hG bH F X N u,Jo.q9 hQ hC xX hI bN G Y O v,Jo.Fact.iv W,Jo.Fact.iv Z,Jo.Fact.any] ?_ ?_
 ·refine jm ?_ ?_
  ·rintro wj n K j;go_simp;exact Jo.v1 (vN HH.out) j.out
  iterate 2 (refine jm ?_ ?_;rotate_left)
  refine jm ?_ ?_
  ·rintro wj n _ rfl _ rfl K j;go_simp;exact Jo.v1 (mB q.top.1 q.top.2 r.top.1 r.top.2 q.rk r.rk HW.out) j.out
  refine jm ?_ ?_
  ·rintro wj n _ ⟨hR,hD,zX,hL,fH,I,bA,P,y,rfl,l⟩ _ ⟨hS,hE,BX,hM,fP,J,bB,Q,A,rfl,m⟩ K j;go_simp;exact Jo.v1 (AR l.top.1 l.top.2 m.top.1 m.top.2 l.rk m.rk HZ.out) j.out
  exact jo
  all_goals (rintro wj n;(repeat rintro _ rfl);intro K j;have HQ:=(f.b n).cell;have HR:=(X6.b n).cell;go_simp;exact j.out _ _ rfl (br _ _))
 rintro w9 n _ ⟨hR,hD,zX,hL,fH,I,bA,P,y,rfl,l⟩ _ rfl _ rfl _ ⟨hS,hE,BX,hM,fP,J,bB,Q,A,rfl,m⟩ _ ⟨hT,hF,CD,hN,gB,L,bC,R,C,rfl,DS⟩ -;simp only[Jo.z];replace a:=a.b n;replace c:=ak c n;have ET:=a.cell;have bD:=a.frozen
 refine jn 5 fun K j=>?_
 go_simp;refine j.out _ _ ?_;clear j K ET bD;have SX:=ac.t9 a hT hF CD hN gB L bC R C;refine jd ?_;go_wp2;exact bq (by simp[results,results105,go_sem,SX.box.cell]) rfl ⟨_,_,_,_,_,_,_,_,_,rfl,DS,(SX.below c.out (by omega))⟩
theorem JE{w:World}{D D' M M' E E':Int}{s s':Bool}{x:Int}{q:Bool->Int->Int->Int}{Z:Sp}(hq:QF q)(k:Fq D s M E x)(k1:Fq D' s' M' E' (al 1))(x0:0<=x)(hZ:nF q x Z):Calls prog 105 #[VQ D s M E,VQ D' s' M' E'] w (PV w Z):=by
 delta VQ
 have g:x<=19342822337206103650074625:=by rw[<-k.rk];exact(C6 k.top).2
 rcases hZ with⟨e,b⟩ | ⟨e,a,f⟩ | ⟨e,a,H,l,h,b,hl,hh,rfl⟩
 ·exact Bj k k1 x0 e b
 ·exact xU k k1 x0 a e f
 ·obtain⟨c,i,d⟩:=jT hq a (by omega);exact Bi k k1 x0 a e b (hq false _ _) (hq true _ _) ⟨c,by omega,hl⟩ ⟨by omega,d,hh⟩ rfl rfl
theorem xS{w:World}{D M E:Int}{s:Bool}{x:Int}{q:Bool->Int->Int->Int}{Y Z:Sp}(hq:QF q)(hM:LQ M)(hx:rk D s M E=x)(x0:x < 0)(hY:nF q (-x) Y)(hZ:ga Y=Z):Calls prog 40 #[VQ D s M E] w (PV w Z):=by
 delta VQ
 obtain⟨σ,hσ⟩:∃σ,ag x 0=σ:=⟨_,rfl⟩;have e0:=jv hσ;rw[dt x0]at e0
 have hp:0<= -x:=by omega
 clear x0;have HX:=ie hx;have HS:=ie hσ;have N:=ie e0;have HY:=ie hY;have HZ:=ie hZ;have HQ:=ie hq;have HP:=ie hp;clear hx hσ e0 hY hZ hq hp
 go_enter func40,ntmps40
 go_upto_region 1 with fail
 generalize v:(w.alloc _).alloc _=w1 at *;obtain⟨X1,a,c⟩:=Bo.en2 v;clear v;have hB:=X1.cell
 go_wp2_with fail
 refine(kj hM HX.out).mono ?_;rintro ee w2 ⟨O,fP,T,G,rfl,g,B⟩;clear hB;replace a:=a.b B;replace c:=ak c B;clear B
 go_upto_region 2 with fail
 have bC:=a.lt;generalize e:w2.alloc _=w3 at *;obtain⟨d,j⟩:=Bo.nw e;clear e;replace a:=a.b j;replace c:=ak c j;clear j
 go_wp2_with fail
 refine(Kk (n:=1) (r:=al 1) _ (by decide) (by decide) rfl).mono ?_;rintro ee w4 ⟨P,gB,U,H,rfl,bN,B⟩;refine aF ?_ a d c B;clear a d c B;intro a d c;have hD:=c.out.size
 go_upto_region 3 with fail
 have bH:=a.lt;have bD:=d.lt;generalize e:w4.alloc _=w5 at *;obtain⟨u,j⟩:=Bo.nw e;clear e;refine aF ?_ a d c j;clear a d c j;intro a d c;have e0:=N.out;have C:=d.cell
 go_wp2_with fail
 refine(iN (σ:=σ) g.top (by rw[g.rk];exact HS.out)).mono ?_;rintro ee w6 ⟨rfl,B⟩;clear C;refine aR ?_ a d u c B;clear a d u c B;intro a d u c
 go_upto_region 4 with fail
 clear e0;have hG:=a.lt;have hE:=d.lt;have hF:=u.lt;refine bF [0,1,2,3,4] [12,13,14,15,16,0] [[],[0],[],[1,2],[3],[]] 6 1 [Jo.q4 O fP T G,Jo.Fact.num (-x),Jo.q4 P gB U H,Jo.Fact.iv Y,Jo.Fact.iv Z,Jo.Fact.any] ?_ ?_
 ·refine jm ?_ ?_;rotate_left
  refine jm ?_ ?_
  ·rintro wj i _ rfl K f;go_simp;exact Jo.n1 (I5 g.top (by rw[g.rk])) f.out
  refine jm ?_ ?_;rotate_left
  refine jm ?_ ?_
  ·rintro wj i _ ⟨Q,gO,V,I,rfl,fH⟩ _ rfl K f;go_simp;exact Jo.v1 (JE HQ.out fH bN HP.out HY.out) f.out
  refine jm ?_ ?_
  ·rintro wj i _ ⟨bA,R,gP,W,J,m,y,p,k,rfl,h⟩ K f;go_simp;exact Jo.v1 (AQ h.top.1 h.top.2 h.rk HZ.out) f.out
  exact jo
  all_goals (rintro wj i;(repeat rintro _ rfl);intro K f;have C:=(d.b i).cell;have hH:=(u.b i).cell;go_simp;exact f.out _ _ rfl (br _ _))
 rintro w7 i _ rfl _ ⟨Q,gO,V,I,rfl,_⟩ _ rfl _ ⟨bA,R,gP,W,J,m,y,p,k,rfl,h⟩ _ ⟨bB,S,gS,X,L,o,A,t,l,rfl,hA⟩ -;simp only[Jo.z];replace a:=a.b i;replace c:=ak c i;have hC:=a.cell;have F:=a.frozen
 refine jn 5 fun K f=>?_
 go_simp;refine f.out _ _ ?_;clear f K hC F;have SX:=ac.t9 a bB S gS X L o A t l;refine jd ?_;go_wp2;exact bq (by simp[results,results40,go_sem,SX.box.cell]) rfl ⟨_,_,_,_,_,_,_,_,_,rfl,hA,(SX.below c.out (by omega))⟩
theorem xT{w:World}{D M E:Int}{s:Bool}{x:Int}{q:Bool->Int->Int->Int}{Z:Sp}(hq:QF q)(hM:LQ M)(hx:rk D s M E=x)(x0:0<=x)(hZ:nF q x Z):Calls prog 40 #[VQ D s M E] w (PV w Z):=by
 delta VQ
 obtain⟨σ,C⟩:∃σ,ag x 0=σ:=⟨_,rfl⟩;have e0:=jv C
 rw[show decide (x < 0)=false from df (by omega)]at e0
 have X:=ie hx;have W:=ie C;have u:=ie e0;have Y:=ie hZ;have V:=ie hq;have U:=ie x0;clear hx C e0 hZ hq x0
 go_enter func40,ntmps40
 go_upto_region 1 with fail
 generalize l:(w.alloc _).alloc _=w1 at *;obtain⟨X1,a,c⟩:=Bo.en2 l;clear l;have N:=X1.cell
 go_wp2_with fail
 refine(kj hM X.out).mono ?_;rintro A w2 ⟨bA,bH,bC,S,rfl,f,B⟩;clear N;replace a:=a.b B;replace c:=ak c B;clear B
 go_upto_region 2 with fail
 have F:=a.lt;generalize e:w2.alloc _=w3 at *;obtain⟨d,h⟩:=Bo.nw e;clear e;replace a:=a.b h;replace c:=ak c h;clear h
 go_wp2_with fail
 refine(Kk (n:=1) (r:=al 1) _ (by decide) (by decide) rfl).mono ?_;rintro A w4 ⟨bB,bN,bD,T,rfl,I,B⟩;refine aF ?_ a d c B;clear a d c B;intro a d c;have R:=c.out.size
 go_upto_region 3 with fail
 have H:=a.lt;have G:=d.lt;generalize e:w4.alloc _=w5 at *;obtain⟨p,h⟩:=Bo.nw e;clear e;refine aF ?_ a d c h;clear a d c h;intro a d c;have e0:=u.out;have g:=d.cell
 go_wp2_with fail
 refine(iN (σ:=σ) f.top (by rw[f.rk];exact W.out)).mono ?_;rintro A w6 ⟨rfl,B⟩;clear g;refine aR ?_ a d p c B;clear a d p c B;intro a d p c;have g:=d.cell;have O:=p.cell
 go_wp2_with fail
 refine(JE V.out f I U.out Y.out).mono ?_;rintro A w7 ⟨z,v,J,y,t,j,m,k,i,rfl,L,B⟩;clear g O;replace a:=a.b B;replace c:=ak c B;clear B;clear e0;have P:=a.cell;have o:=a.frozen;go_wp2;clear P o
 have Q:=ac.t9 a z v J y t j m k i;exact bq (by simp[results,results40,go_sem,Q.box.cell]) rfl ⟨_,_,_,_,_,_,_,_,_,rfl,L,(Q.below c.out (by omega))⟩
theorem lu{w:World}{D M E:Int}{s:Bool}{x:Int}{q:Bool->Int->Int->Int}{Z:Sp}(hq:QF q)(hM:LQ M)(hx:rk D s M E=x)(hZ:gM q x Z):Calls prog 40 #[VQ D s M E] w (PV w Z):=by
 delta VQ
 rcases hZ with⟨a,Y,hY,rfl⟩ | ⟨a,b⟩
 ·exact xS hq hM hx a hY rfl
 ·exact xT hq hM hx (by omega) b
theorem sN{w:World}{e:Bool}{D M E D' M' E':Int}{s s':Bool}{q:Bool->Int->Int->Int}(hq:QF q)(hM:LQ M)(hM':LQ M')(hx:iJ e D s M E D' s' M' E'=none):Calls prog 14 #[VI e D s M E D' s' M' E'] w (PV w none):=by
 delta VI
 have x:=ie hx;clear hx
 go_enter func14,ntmps14
 go_upto_region 1 with fail
 generalize d:(w.alloc _).alloc _=w1 at *;obtain⟨A,a,c⟩:=Bo.en2 d;clear d;have k:=A.cell
 go_wp2_with fail
 refine(ja hM hM' x.out).mono ?_;rintro I H ⟨F,y,G,z,v,o,u,p,n,rfl,g,B⟩;clear k;replace a:=a.b B;replace c:=ak c B;clear B;have t:=c.out.size
 go_upto_region 2 with fail
 have j:=a.lt;generalize f:H.alloc _=J at *;obtain⟨C,i⟩:=Bo.nw f;clear f;replace a:=a.b i;replace c:=ak c i;clear i;obtain⟨rfl,rfl,rfl,rfl,rfl,rfl,rfl,rfl,rfl⟩:=g.uniq Ci.none;clear g;have m:=a.cell;have h:=a.frozen;have l:=C.cell
 go_wp2;clear m h l;have r:=ac.t9 a true 0 false 0 0 0 false 0 0;exact bq (by simp[results,results14,go_sem,r.box.cell]) rfl ⟨_,_,_,_,_,_,_,_,_,rfl,Ci.none,(r.below c.out (by omega))⟩
theorem sO{w:World}{e:Bool}{D M E D' M' E':Int}{s s':Bool}{q:Bool->Int->Int->Int}{a b:Int}{U V Z:Sp}(hq:QF q)(hM:LQ M)(hM':LQ M')(hx:iJ e D s M E D' s' M' E'=(some (a,b)))(hU:gM q a U)(hV:gM q b V)(hZ:bK U V=Z):Calls prog 14 #[VI e D s M E D' s' M' E'] w (PV w Z):=by
 delta VI
 have HX:=ie hx;have HQ:=ie hq;have HU:=ie hU;have HV:=ie hV;have HZ:=ie hZ;clear hx hq hU hV hZ
 go_enter func14,ntmps14
 go_upto_region 1 with fail
 generalize y:(w.alloc _).alloc _=w1 at *;obtain⟨X1,c,h⟩:=Bo.en2 y;clear y;have hB:=X1.cell
 go_wp2_with fail
 refine(ja hM hM' HX.out).mono ?_;rintro ee w2 ⟨bD,S,gB,Y,O,n,C,t,j,rfl,I,B⟩;clear hB;replace c:=c.b B;replace h:=ak h B;clear B;have hD:=h.out.size
 go_upto_region 2 with fail
 have fP:=c.lt;generalize A:w2.alloc _=w3 at *;obtain⟨X3,N⟩:=Bo.nw A;clear A;replace c:=c.b N;replace h:=ak h N;clear N
 obtain rfl:bD=false:=I.1
 obtain⟨_,qa,qb,hG,oa,ob⟩:=I;have J:=X3.cell
 go_upto_region 4 with fail
 clear J;have hF:=c.lt;have hE:=X3.lt;refine bF [0,1,2,3,4,5,6] [10,11,12,13,14,15,16,0] [[],[0],[1],[],[3],[4],[2,5],[]] 8 1 [Jo.qp w2.heap.size 1,Jo.q4 S gB Y O,Jo.Fact.iv U,Jo.qp w2.heap.size 5,Jo.q4 n C t j,Jo.Fact.iv V,Jo.Fact.iv Z,Jo.Fact.any] ?_ ?_
 ·iterate 2 (refine jm ?_ ?_;rotate_left)
  refine jm ?_ ?_
  ·rintro wj i _ rfl K d;go_simp;exact Jo.v1 (lu HQ.out qa.top qa.rk HU.out) d.out
  iterate 2 (refine jm ?_ ?_;rotate_left)
  refine jm ?_ ?_
  ·rintro wj i _ rfl K d;go_simp;exact Jo.v1 (lu HQ.out qb.top qb.rk HV.out) d.out
  refine jm ?_ ?_
  ·rintro wj i _ ⟨bH,T,gO,bA,P,o,F,u,k,rfl,f⟩ _ ⟨bN,W,gP,bB,Q,p,G,v,l,rfl,g⟩ K d;go_simp;exact Jo.v1 (mB f.top.1 f.top.2 g.top.1 g.top.2 f.rk g.rk HZ.out) d.out
  exact jo
  all_goals (rintro wj i;(repeat rintro _ rfl);intro K d;have J:=(X3.b i).cell;go_simp;exact d.out _ _ rfl (br _ _))
 rintro w4 i _ _ _ rfl _ ⟨bH,T,gO,bA,P,o,F,u,k,rfl,f⟩ _ _ _ rfl _ ⟨bN,W,gP,bB,Q,p,G,v,l,rfl,g⟩ _ ⟨fH,X,gS,bC,R,r,H,x,m,rfl,hA⟩ -;simp only[Jo.z];replace c:=c.b i;replace h:=ak h i;have hC:=c.cell;have L:=c.frozen
 refine jn 7 fun K d=>?_
 go_simp;refine d.out _ _ ?_;clear d K hC L;have SX:=ac.t9 c fH X gS bC R r H x m;refine jd ?_;go_wp2;exact bq (by simp[results,results14,go_sem,SX.box.cell]) rfl ⟨_,_,_,_,_,_,_,_,_,rfl,hA,(SX.below h.out (by omega))⟩
theorem JB{w:World}{e:Bool}{D M E D' M' E':Int}{s s':Bool}{q:Bool->Int->Int->Int}{X Z:Sp}(hq:QF q)(hM:LQ M)(hM':LQ M')(hx:iJ e D s M E D' s' M' E'=X)(hZ:tO q X Z):Calls prog 14 #[VI e D s M E D' s' M' E'] w (PV w Z):=by
 delta VI
 rcases X with _ | ⟨a,b⟩
 ·obtain rfl:Z=none:=hZ
  exact sN hq hM hM' hx
 ·obtain⟨U,V,c,d,rfl⟩:=hZ;exact sO hq hM hM' hx c d rfl
theorem dw{D:Int}{s:Bool}{M E:Int}:dc D s M E=true↔decide (au D s M E)=true/\(D==2)=false:=by
 unfold dc
 cases decide (au D s M E) <;> cases (D==2) <;> simp
theorem fF{D:Int}{s:Bool}{M E x:Int}(hM:LQ M)(hx:rk D s M E=x)(hp:decide (au D s M E)=true):(D==0)=decide (x=0):=by
 have k:=eD hM (of_decide_eq_true hp);rw[hx]at k
 rcases k.cases with⟨e0,_,_,_,e⟩ | ⟨e0,a,b,c,d,⟨_,e⟩ | ⟨_,e⟩⟩ | ⟨e0,_,_,⟨_,e⟩ | ⟨_,e⟩⟩
 ·rw[e0,dt e];rfl
 ·rw[e0,df (by omega)];rfl
 ·rw[e0,df (by omega)];rfl
 ·rw[e0,df (by omega)];rfl
 ·rw[e0,df (by omega)];rfl
theorem xN{w:World}{D D' M M' E E':Int}{s s':Bool}{b:Bool}(hp:decide (au D s M E)=false)(hq:decide (au D' s' M' E')=b):Calls prog 12 #[VQ D s M E,VQ D' s' M' E'] w (nY w none false):=by
 delta VQ
 have z:=ie hp;have A:=ie hq;clear hp hq
 go_enter func12,ntmps12
 go_upto_region 1 with fail
 generalize p:((w.alloc _).alloc _).alloc _=w1 at *;obtain⟨g,h,a,c⟩:=Bo.en3 p;clear p;have j:=g.cell
 go_wp2_with fail
 refine(dD z.out).mono ?_;rintro y C ⟨rfl,B⟩;clear j;refine aR ?_ g h a c B;clear g h a c B;intro g h a c;have k:=h.cell
 go_wp2_with fail
 refine(dD A.out).mono ?_;rintro y F ⟨rfl,B⟩;clear k;refine aR ?_ g h a c B;clear g h a c B;intro g h a c;have j:=g.cell;have k:=h.cell
 go_wp2_with fail
 refine(kV).mono ?_;rintro y G ⟨o,m,q,n,l,e,i,f,d,rfl,t,B⟩;clear j k;replace a:=a.b B;replace c:=ak c B;clear B;have u:=a.cell;have r:=a.frozen;go_wp2;clear u r;have x:=ac.t9 a o m q n l e i f d
 exact bq (v:= .tuple #[.agg #[.bool o,.int .i64 m,.bool q,.int .u64 n,.int .i64 l,.int .i64 e,.bool i,.int .u64 f,.int .i64 d],.bool false]) (by simp[results,results12,go_sem,x.box.cell]) rfl ⟨_,_,_,_,_,_,_,_,_,rfl,t,(x.below c.out (by omega))⟩
theorem xO{w:World}{D D' M M' E E':Int}{s s':Bool}(hp:decide (au D s M E)=true)(hq:decide (au D' s' M' E')=false):Calls prog 12 #[VQ D s M E,VQ D' s' M' E'] w (nY w none false):=by
 delta VQ
 have z:=ie hp;have A:=ie hq;clear hp hq
 go_enter func12,ntmps12
 go_upto_region 1 with fail
 generalize p:((w.alloc _).alloc _).alloc _=w1 at *;obtain⟨g,h,a,c⟩:=Bo.en3 p;clear p;have j:=g.cell
 go_wp2_with fail
 refine(dD z.out).mono ?_;rintro y C ⟨rfl,B⟩;clear j;refine aR ?_ g h a c B;clear g h a c B;intro g h a c;have k:=h.cell
 go_wp2_with fail
 refine(dD A.out).mono ?_;rintro y F ⟨rfl,B⟩;clear k;refine aR ?_ g h a c B;clear g h a c B;intro g h a c;have j:=g.cell;have k:=h.cell
 go_wp2_with fail
 refine(kV).mono ?_;rintro y G ⟨o,m,q,n,l,e,i,f,d,rfl,t,B⟩;clear j k;replace a:=a.b B;replace c:=ak c B;clear B;have u:=a.cell;have r:=a.frozen;go_wp2;clear u r;have x:=ac.t9 a o m q n l e i f d
 exact bq (v:= .tuple #[.agg #[.bool o,.int .i64 m,.bool q,.int .u64 n,.int .i64 l,.int .i64 e,.bool i,.int .u64 f,.int .i64 d],.bool false]) (by simp[results,results12,go_sem,x.box.cell]) rfl ⟨_,_,_,_,_,_,_,_,_,rfl,t,(x.below c.out (by omega))⟩
theorem xM{w:World}{D D' M M' E E':Int}{s s':Bool}(hp:decide (au D s M E)=true)(hq:decide (au D' s' M' E')=true)(hd:(D==2)=true):Calls prog 12 #[VQ D s M E,VQ D' s' M' E'] w (nY w none false):=by
 delta VQ
 have A:=ie hp;have C:=ie hq;have z:=ie hd;clear hp hq hd
 go_enter func12,ntmps12
 go_upto_region 1 with fail
 generalize p:((w.alloc _).alloc _).alloc _=w1 at *;obtain⟨g,h,a,c⟩:=Bo.en3 p;clear p;have j:=g.cell
 go_wp2_with fail
 refine(dD A.out).mono ?_;rintro y G ⟨rfl,B⟩;clear j;refine aR ?_ g h a c B;clear g h a c B;intro g h a c;have k:=h.cell
 go_wp2_with fail
 refine(dD C.out).mono ?_;rintro y H ⟨rfl,B⟩;clear k;refine aR ?_ g h a c B;clear g h a c B;intro g h a c;have F:=z.out;have j:=g.cell;have k:=h.cell
 go_wp2_with fail
 refine(kV).mono ?_;rintro y I ⟨o,m,q,n,l,e,i,f,d,rfl,t,B⟩;clear j k;replace a:=a.b B;replace c:=ak c B;clear B;have u:=a.cell;have r:=a.frozen;go_wp2;clear u r;have x:=ac.t9 a o m q n l e i f d
 exact bq (v:= .tuple #[.agg #[.bool o,.int .i64 m,.bool q,.int .u64 n,.int .i64 l,.int .i64 e,.bool i,.int .u64 f,.int .i64 d],.bool false]) (by simp[results,results12,go_sem,x.box.cell]) rfl ⟨_,_,_,_,_,_,_,_,_,rfl,t,(x.below c.out (by omega))⟩
theorem xL{w:World}{D D' M M' E E':Int}{s s':Bool}(hp:decide (au D s M E)=true)(hq:decide (au D' s' M' E')=true)(hd:(D==2)=false)(he:(D'==2)=true):Calls prog 12 #[VQ D s M E,VQ D' s' M' E'] w (nY w none false):=by
 delta VQ
 have C:=ie hp;have F:=ie hq;have z:=ie hd;have A:=ie he;clear hp hq hd he
 go_enter func12,ntmps12
 go_upto_region 1 with fail
 generalize p:((w.alloc _).alloc _).alloc _=w1 at *;obtain⟨g,h,a,c⟩:=Bo.en3 p;clear p;have j:=g.cell
 go_wp2_with fail
 refine(dD C.out).mono ?_;rintro y I ⟨rfl,B⟩;clear j;refine aR ?_ g h a c B;clear g h a c B;intro g h a c;have k:=h.cell
 go_wp2_with fail
 refine(dD F.out).mono ?_;rintro y J ⟨rfl,B⟩;clear k;refine aR ?_ g h a c B;clear g h a c B;intro g h a c;have G:=z.out;have H:=A.out;have j:=g.cell;have k:=h.cell
 go_wp2_with fail
 refine(kV).mono ?_;rintro y L ⟨o,m,q,n,l,e,i,f,d,rfl,t,B⟩;clear j k;replace a:=a.b B;replace c:=ak c B;clear B;have u:=a.cell;have r:=a.frozen;go_wp2;clear u r;have x:=ac.t9 a o m q n l e i f d
 exact bq (v:= .tuple #[.agg #[.bool o,.int .i64 m,.bool q,.int .u64 n,.int .i64 l,.int .i64 e,.bool i,.int .u64 f,.int .i64 d],.bool false]) (by simp[results,results12,go_sem,x.box.cell]) rfl ⟨_,_,_,_,_,_,_,_,_,rfl,t,(x.below c.out (by omega))⟩
theorem xR{w:World}{D D' M M' E E':Int}{s s':Bool}(hp:decide (au D s M E)=true)(hq:decide (au D' s' M' E')=true)(hd:(D==2)=false)(he:(D'==2)=false)(hf:(D==0)=true)(hg:(D'==0)=true):Calls prog 12 #[VQ D s M E,VQ D' s' M' E'] w (nY w none false):=by
 delta VQ
 have G:=ie hp;have H:=ie hq;have z:=ie hd;have A:=ie he;have C:=ie hf;have F:=ie hg;clear hp hq hd he hf hg
 go_enter func12,ntmps12
 go_upto_region 1 with fail
 generalize p:((w.alloc _).alloc _).alloc _=w1 at *;obtain⟨g,h,a,c⟩:=Bo.en3 p;clear p;have j:=g.cell
 go_wp2_with fail
 refine(dD G.out).mono ?_;rintro y O ⟨rfl,B⟩;clear j;refine aR ?_ g h a c B;clear g h a c B;intro g h a c;have k:=h.cell
 go_wp2_with fail
 refine(dD H.out).mono ?_;rintro y P ⟨rfl,B⟩;clear k;refine aR ?_ g h a c B;clear g h a c B;intro g h a c;have I:=z.out;have J:=A.out;have L:=C.out;have N:=F.out;have j:=g.cell;have k:=h.cell
 go_wp2_with fail
 refine(kV).mono ?_;rintro y Q ⟨o,m,q,n,l,e,i,f,d,rfl,t,B⟩;clear j k;replace a:=a.b B;replace c:=ak c B;clear B;have u:=a.cell;have r:=a.frozen;go_wp2;clear u r;have x:=ac.t9 a o m q n l e i f d
 exact bq (v:= .tuple #[.agg #[.bool o,.int .i64 m,.bool q,.int .u64 n,.int .i64 l,.int .i64 e,.bool i,.int .u64 f,.int .i64 d],.bool false]) (by simp[results,results12,go_sem,x.box.cell]) rfl ⟨_,_,_,_,_,_,_,_,_,rfl,t,(x.below c.out (by omega))⟩
theorem xK{w:World}{D D' M M' E E':Int}{s s':Bool}(hf:(dc D s M E && dc D' s' M' E')=false):Calls prog 12 #[VQ D s M E,VQ D' s' M' E'] w (nY w none false):=by
 delta VQ
 cases hp:decide (au D s M E)
 ·exact xN hp rfl
 ·cases hq:decide (au D' s' M' E')
  ·exact xO hp hq
  ·cases hd:(D==2)
   ·cases he:(D'==2)
    ·rw[i6 hp hd,i6 hq he]at hf
     cases hf
    ·exact xL hp hq hd he
   ·exact xM hp hq hd
theorem qP{w:World}{D D' M M' E E':Int}{s s':Bool}{x y:Int}(hM:LQ M)(hM':LQ M')(hy:rk D s M E=y)(hx:rk D' s' M' E'=x)(hf:(dc D s M E && dc D' s' M' E')=true)(y0:y=0)(x0:x=0):Calls prog 12 #[VQ D s M E,VQ D' s' M' E'] w (nY w none false):=by
 delta VQ
 rw[Bool.and_eq_true]at hf;obtain⟨hp,hd⟩:=dw.1 hf.1;obtain⟨hq,he⟩:=dw.1 hf.2;exact xR hp hq hd he ((fF hM hy hp).trans (dt y0)) ((fF hM' hx hq).trans (dt x0))
theorem xP{w:World}{D D' M M' E E':Int}{s s':Bool}{x y:Int}{q:Bool->Int->Int->Int}{H:Sp}(hq:QF q)(hM:LQ M)(hM':LQ M')(hy:rk D s M E=y)(hx:rk D' s' M' E'=x)(hf:(dc D s M E && dc D' s' M' E')=true)(h0:¬(y=0/\x=0))(x0:x=0)(cy:y < 0)(hH:eB H):Calls prog 12 #[VQ D s M E,VQ D' s' M' E'] w (nY w (ga H) true):=by
 delta VQ
 rw[Bool.and_eq_true]at hf;obtain⟨hp,hd⟩:=dw.1 hf.1;obtain⟨n,he⟩:=dw.1 hf.2;have Z:=fF hM hy hp;have g1:=fF hM' hx n;obtain⟨σ,Q⟩:∃σ,ag y 0=σ:=⟨_,rfl⟩;obtain⟨τ,R⟩:∃σ,ag x 0=σ:=⟨_,rfl⟩;have e0:=(az Q).1;have e2:=(az R).2
 have e3:decide (0<=σ)=!decide (y < 0):=by
  rw[<-e0]
  by_cases c:σ < 0
  ·rw[dt c,df (by omega)];rfl
  ·rw[df c,dt (by omega)];rfl
 rw[dt x0]at g1;rw[dt cy]at e0;clear e2 e3;have HP:=ie hp;have L:=ie n;have HD:=ie hd;have HE:=ie he;have HY:=ie hy;have HX:=ie hx;have HS:=ie Q;have HT:=ie R;have m:=ie Z;have J:=ie g1;have I:=ie e0;have HH:=ie hH;have N:=ie x0;have HQ:=ie hq
 have V:=ie h0;clear hp n hd he hy hx Q R Z g1 e0 hH x0 hq h0;clear hf
 go_enter func12,ntmps12
 go_upto_region 1 with fail
 generalize z:((w.alloc _).alloc _).alloc _=w1 at *;obtain⟨f,e,a,d⟩:=Bo.en3 z;clear z;have g:=f.cell
 go_wp2_with fail
 refine(dD HP.out).mono ?_;rintro G w2 ⟨rfl,B⟩;clear g;refine aR ?_ f e a d B;clear f e a d B;intro f e a d;have h:=e.cell
 go_wp2_with fail
 refine(dD L.out).mono ?_;rintro G w3 ⟨rfl,B⟩;clear h;refine aR ?_ f e a d B;clear f e a d B;intro f e a d;have O:=HD.out;have P:=HE.out;have g:=f.cell;have h:=e.cell
 go_upto_region 3 with fail
 go_cut [39] (fun v wx=>v= .bool false/\Bo wx (w.heap.size) #[.int .i64 D,.bool s,.int .u64 M,.int .i64 E] 24/\Bo wx (w.heap.size+1) #[.int .i64 D',.bool s',.int .u64 M',.int .i64 E'] 24/\Bo wx (w.heap.size+1+1) #[.bool false,.int .i64 0,.bool false,.int .u64 0,.int .i64 0,.int .i64 0,.bool false,.int .u64 0,.int .i64 0] 26/\Below w.heap.size w wx)
 case first=>
  by_cases F:y=0
  ·have z0:(D==0)=true:=m.out.trans (dt F)
   exact absurd ⟨F,N.out⟩ V.out
  ·have z0:(D==0)=false:=m.out.trans (df F)
   clear F
   go_wp2_with fail
   go_meet
   exact⟨rfl,f,e,a,d.out⟩
 case rest=>
  clear g h;clear f e a d O P;obtain⟨rfl,f,e,a,hB⟩:=hcut;have d:=ie hB;clear hB m V;have g:=f.cell
  go_wp2_with fail
  refine(iN (σ:=σ) hM (by rw[HY.out];exact HS.out)).mono ?_;rintro G wd ⟨rfl,B⟩;clear g;refine aF ?_ e a d B;clear e a d B;intro e a d;have g1:=J.out;have e0:=I.out;have h:=e.cell
  go_wp2_with fail
  refine(vN HH.out).mono ?_;rintro G we ⟨bH,bC,bN,bD,bB,W,bA,X,U,rfl,o,B⟩;clear h;replace a:=a.b B;replace d:=ak d B;clear B
  go_wp2_with fail
  refine(AQ o.top.1 o.top.2 o.rk rfl).mono ?_;rintro G wf ⟨u,r,A,t,p,j,l,k,i,rfl,S,B⟩;replace a:=a.b B;replace d:=ak d B;clear B;clear g1 e0;have T:=a.cell;have C:=a.frozen;go_wp2;clear T C;have Y:=ac.t9 a u r A t p j l k i
  exact bq (v:= .tuple #[.agg #[.bool u,.int .i64 r,.bool A,.int .u64 t,.int .i64 p,.int .i64 j,.bool l,.int .u64 k,.int .i64 i],.bool true]) (by simp[results,results12,go_sem,Y.box.cell]) rfl ⟨_,_,_,_,_,_,_,_,_,rfl,S,(Y.below d.out (by omega))⟩
theorem xQ{w:World}{D D' M M' E E':Int}{s s':Bool}{x y:Int}{q:Bool->Int->Int->Int}{H:Sp}(hq:QF q)(hM:LQ M)(hM':LQ M')(hy:rk D s M E=y)(hx:rk D' s' M' E'=x)(hf:(dc D s M E && dc D' s' M' E')=true)(h0:¬(y=0/\x=0))(x0:x=0)(cy:¬y < 0)(hH:eB H):Calls prog 12 #[VQ D s M E,VQ D' s' M' E'] w (nY w H true):=by
 delta VQ
 rw[Bool.and_eq_true]at hf;obtain⟨hp,hd⟩:=dw.1 hf.1;obtain⟨n,he⟩:=dw.1 hf.2;have V:=fF hM hy hp;have g1:=fF hM' hx n;obtain⟨σ,P⟩:∃σ,ag y 0=σ:=⟨_,rfl⟩;obtain⟨τ,Q⟩:∃σ,ag x 0=σ:=⟨_,rfl⟩;have e0:=(az P).1;have e2:=(az Q).2
 have e3:decide (0<=σ)=!decide (y < 0):=by
  rw[<-e0]
  by_cases c:σ < 0
  ·rw[dt c,df (by omega)];rfl
  ·rw[df c,dt (by omega)];rfl
 rw[dt x0]at g1;rw[df cy]at e0;clear e2 e3;have HP:=ie hp;have I:=ie n;have X:=ie hd;have Y:=ie he;have HY:=ie hy;have HX:=ie hx;have HS:=ie P;have HT:=ie Q;have m:=ie V;have G:=ie g1;have F:=ie e0;have Z:=ie hH;have J:=ie x0;have HQ:=ie hq
 have T:=ie h0;clear hp n hd he hy hx P Q V g1 e0 hH x0 hq h0;clear hf
 go_enter func12,ntmps12
 go_upto_region 1 with fail
 generalize u:((w.alloc _).alloc _).alloc _=w1 at *;obtain⟨f,e,a,d⟩:=Bo.en3 u;clear u;have g:=f.cell
 go_wp2_with fail
 refine(dD HP.out).mono ?_;rintro L w2 ⟨rfl,B⟩;clear g;refine aR ?_ f e a d B;clear f e a d B;intro f e a d;have h:=e.cell
 go_wp2_with fail
 refine(dD I.out).mono ?_;rintro L w3 ⟨rfl,B⟩;clear h;refine aR ?_ f e a d B;clear f e a d B;intro f e a d;have N:=X.out;have O:=Y.out;have g:=f.cell;have h:=e.cell
 go_upto_region 3 with fail
 go_cut [39] (fun v wx=>v= .bool false/\Bo wx (w.heap.size) #[.int .i64 D,.bool s,.int .u64 M,.int .i64 E] 24/\Bo wx (w.heap.size+1) #[.int .i64 D',.bool s',.int .u64 M',.int .i64 E'] 24/\Bo wx (w.heap.size+1+1) #[.bool false,.int .i64 0,.bool false,.int .u64 0,.int .i64 0,.int .i64 0,.bool false,.int .u64 0,.int .i64 0] 26/\Below w.heap.size w wx)
 case first=>
  by_cases C:y=0
  ·have z0:(D==0)=true:=m.out.trans (dt C)
   exact absurd ⟨C,J.out⟩ T.out
  ·have z0:(D==0)=false:=m.out.trans (df C)
   clear C
   go_wp2_with fail
   go_meet
   exact⟨rfl,f,e,a,d.out⟩
 case rest=>
  clear g h;clear f e a d N O;obtain⟨rfl,f,e,a,W⟩:=hcut;have d:=ie W;clear W m T;have g:=f.cell
  go_wp2_with fail
  refine(iN (σ:=σ) hM (by rw[HY.out];exact HS.out)).mono ?_;rintro L wd ⟨rfl,B⟩;clear g;refine aF ?_ e a d B;clear e a d B;intro e a d;have g1:=G.out;have e0:=F.out;have h:=e.cell
  go_wp2_with fail
  refine(vN Z.out).mono ?_;rintro L we ⟨t,p,z,r,o,j,l,k,i,rfl,R,B⟩;clear h;replace a:=a.b B;replace d:=ak d B;clear B;clear g1 e0;have S:=a.cell;have A:=a.frozen;go_wp2;clear S A;have U:=ac.t9 a t p z r o j l k i
  exact bq (v:= .tuple #[.agg #[.bool t,.int .i64 p,.bool z,.int .u64 r,.int .i64 o,.int .i64 j,.bool l,.int .u64 k,.int .i64 i],.bool true]) (by simp[results,results12,go_sem,U.box.cell]) rfl ⟨_,_,_,_,_,_,_,_,_,rfl,R,(U.below d.out (by omega))⟩
theorem sM{w:World}{D D' M M' E E':Int}{s s':Bool}{x y:Int}{q:Bool->Int->Int->Int}{U V W:Sp}(hq:QF q)(hM:LQ M)(hM':LQ M')(hy:rk D s M E=y)(hx:rk D' s' M' E'=x)(hf:(dc D s M E && dc D' s' M' E')=true)(h0:¬(y=0/\x=0))(x0:x≠0)(hU:gM q (q false y x) U)(hV:gM q (q true y x) V)(hW:bK U V=W)(cx:0 < x):Calls prog 12 #[VQ D s M E,VQ D' s' M' E'] w (nY w W true):=by
 delta VQ
 rw[Bool.and_eq_true]at hf;obtain⟨hp,hd⟩:=dw.1 hf.1;obtain⟨C,he⟩:=dw.1 hf.2;have g0:=fF hM hy hp;have g1:=fF hM' hx C;obtain⟨σ,hσ⟩:∃σ,ag y 0=σ:=⟨_,rfl⟩;obtain⟨τ,hτ⟩:∃σ,ag x 0=σ:=⟨_,rfl⟩;have e0:=(az hσ).1;have e2:=(az hτ).2
 have e3:decide (0<=σ)=!decide (y < 0):=by
  rw[<-e0]
  by_cases c:σ < 0
  ·rw[dt c,df (by omega)];rfl
  ·rw[df c,dt (by omega)];rfl
 rw[df x0]at g1;rw[dt cx]at e2;clear e0;have HP:=ie hp;have gO:=ie C;have HD:=ie hd;have HE:=ie he;have HY:=ie hy;have HX:=ie hx;have HS:=ie hσ;have HT:=ie hτ;have A:=ie g0;have J:=ie g1;have HU:=ie hU;have HV:=ie hV;have HW:=ie hW;have gB:=ie e2;have qT:=ie e3
 have HQ:=ie hq;have H0:=ie h0;clear hp C hd he hy hx hσ hτ g0 g1 hU hV hW e2 e3 hq h0;clear hf
 go_enter func12,ntmps12
 go_upto_region 1 with fail
 generalize T:((w.alloc _).alloc _).alloc _=w1 at *;obtain⟨f,a,d,e⟩:=Bo.en3 T;clear T;have j:=f.cell
 go_wp2_with fail
 refine(dD HP.out).mono ?_;rintro ee w2 ⟨rfl,B⟩;clear j;refine aR ?_ f a d e B;clear f a d e B;intro f a d e;have g:=a.cell
 go_wp2_with fail
 refine(dD gO.out).mono ?_;rintro ee w3 ⟨rfl,B⟩;clear g;refine aR ?_ f a d e B;clear f a d e B;intro f a d e;have hL:=HD.out;have hN:=HE.out;have j:=f.cell;have g:=a.cell
 go_upto_region 3 with fail
 go_cut [39] (fun v wx=>v= .bool false/\Bo wx (w.heap.size) #[.int .i64 D,.bool s,.int .u64 M,.int .i64 E] 24/\Bo wx (w.heap.size+1) #[.int .i64 D',.bool s',.int .u64 M',.int .i64 E'] 24/\Bo wx (w.heap.size+1+1) #[.bool false,.int .i64 0,.bool false,.int .u64 0,.int .i64 0,.int .i64 0,.bool false,.int .u64 0,.int .i64 0] 26/\Below w.heap.size w wx)
 case first=>
  by_cases cz:y=0
  ·have z0:(D==0)=true:=A.out.trans (dt cz)
   have z1:(D'==0)=false:=J.out
   clear cz
   go_wp2_with fail
   go_meet
   exact⟨rfl,f,a,d,e.out⟩
  ·have z0:(D==0)=false:=A.out.trans (df cz)
   clear cz
   go_wp2_with fail
   go_meet
   exact⟨rfl,f,a,d,e.out⟩
 case rest=>
  clear j g;clear f a d e hL hN;obtain⟨rfl,f,a,d,hB⟩:=hcut;have e:=ie hB;clear hB A H0;have j:=f.cell
  go_wp2_with fail
  refine(iN (σ:=σ) hM (by rw[HY.out];exact HS.out)).mono ?_;rintro ee wd ⟨rfl,B⟩;clear j;refine aR ?_ f a d e B;clear f a d e B;intro f a d e;have g1:=J.out;have g:=a.cell
  go_upto_region 10 with fail
  clear g;clear g1;have iV:=f.lt;have lA:=a.lt;have lB:=d.lt;have iU:=e.out.size;refine bF [0,1,2,3,4,5,6,7,8,9] [52,53,54,55,56,57,58,59,60,10,0] [[],[],[0,1],[2],[],[],[4,5],[6],[3,7],[],[]] 11 1 [Jo.q4 D s M E,Jo.q4 D' s' M' E',Jo.Fact.num (q false y x),Jo.Fact.iv U,Jo.q4 D s M E,Jo.q4 D' s' M' E',Jo.Fact.num (q true y x),Jo.Fact.iv V,Jo.Fact.iv W,Jo.Fact.bo wd.heap.size #[.bool false,.int .i64 0,.bool false,.int .u64 0,.int .i64 0,.int .i64 0,.bool false,.int .u64 0,.int .i64 0] 26,Jo.Fact.any] ?_ ?_
  ·iterate 2 (refine jm ?_ ?_;rotate_left)
   refine jm ?_ ?_
   ·rintro F i _ rfl _ rfl K h;go_simp;exact Jo.n1 (qQ hM hM' HY.out HX.out (HQ.out false _ _)) h.out
   refine jm ?_ ?_
   ·rintro F i _ ⟨gP,hP,hD,bH,rfl,X⟩ K h;go_simp;exact Jo.v1 (lu HQ.out X.top X.rk HU.out) h.out
   iterate 2 (refine jm ?_ ?_;rotate_left)
   refine jm ?_ ?_
   ·rintro F i _ rfl _ rfl K h;go_simp;exact Jo.n1 (qQ hM hM' HY.out HX.out (HQ.out true _ _)) h.out
   refine jm ?_ ?_
   ·rintro F i _ ⟨gS,hQ,hE,bN,rfl,Y⟩ K h;go_simp;exact Jo.v1 (lu HQ.out Y.top Y.rk HV.out) h.out
   refine jm ?_ ?_
   ·rintro F i _ ⟨hH,hA,hR,hF,fH,L,Z,P,G,rfl,m⟩ _ ⟨hI,hC,hT,hG,fP,N,bA,Q,H,rfl,n⟩ K h;go_simp;exact Jo.v1 (mB m.top.1 m.top.2 n.top.1 n.top.2 m.rk n.rk HW.out) h.out
   refine jm ?_ ?_
   ·rintro F i K h;go_simp;exact h.out _ _ ⟨_,rfl,i.size,Bo.new _ _ _⟩ (af _ _)
   exact jo
   all_goals (rintro F i;(repeat rintro _ rfl);intro K h;have j:=(f.b i).cell;have g:=(a.b i).cell;go_simp;exact h.out _ _ rfl (br _ _))
  rintro we i _ rfl _ rfl _ ⟨gP,hP,hD,bH,rfl,_⟩ _ ⟨hH,hA,hR,hF,fH,L,Z,P,G,rfl,m⟩ _ rfl _ rfl _ ⟨gS,hQ,hE,bN,rfl,_⟩ _ ⟨hI,hC,hT,hG,fP,N,bA,Q,H,rfl,n⟩ _ ⟨S,O,bB,R,I,p,u,r,o,rfl,hX⟩ _ ⟨g9,rfl,xX,l⟩ -;simp only[Jo.z];replace a:=a.b i;replace d:=d.b i;replace e:=ak e i
  have k:=l.cell;have bC:=l.frozen
  refine jn 10 fun K h=>?_
  go_simp;refine h.out _ _ ?_;clear h K k bC;generalize hS:((((((((we.setCell _ _).setCell _ _).setCell _ _).setCell _ _).setCell _ _).setCell _ _).setCell _ _).setCell _ _).setCell _ _=wf at *;have t:=ac.of9 l hS;replace a:=a.s t;replace d:=d.s t;replace e:=bi e t (by omega);replace l:=t.box
  clear t hS;refine jd ?_;have e2:=gB.out;have g:=a.cell
  go_wp2_with fail
  refine(iN (σ:=τ) hM' (by rw[HX.out];exact HT.out)).mono ?_;rintro ee wg ⟨rfl,B⟩;clear g;refine aF ?_ d l e B;clear d l e B;intro d l e;clear f a;have k:=l.cell;clear k;have hZ:=d.cell
  have bD:=d.frozen;have k:=l.cell;go_wp2;clear hZ bD k;have t:=ac.t9 d S O bB R I p u r o;exact bq (v:= .tuple #[.agg #[.bool S,.int .i64 O,.bool bB,.int .u64 R,.int .i64 I,.int .i64 p,.bool u,.int .u64 r,.int .i64 o],.bool true]) (by simp[results,results12,go_sem,t.box.cell]) rfl ⟨_,_,_,_,_,_,_,_,_,rfl,hX,(t.below e.out (by omega))⟩
theorem nM{w:World}{D D' M M' E E':Int}{s s':Bool}{x y:Int}{q:Bool->Int->Int->Int}{U V W Z:Sp}(hq:QF q)(hM:LQ M)(hM':LQ M')(hy:rk D s M E=y)(hx:rk D' s' M' E'=x)(hf:(dc D s M E && dc D' s' M' E')=true)(h0:¬(y=0/\x=0))(x0:x≠0)(hU:gM q (q false y x) U)(hV:gM q (q true y x) V)(hW:bK U V=W)(cx:¬0 < x)(cy:y < 0)(hZ:kC W (some (eM,eM+1))=Z):Calls prog 12 #[VQ D s M E,VQ D' s' M' E'] w (nY w Z true):=by
 delta VQ
 rw[Bool.and_eq_true]at hf;obtain⟨hp,hd⟩:=dw.1 hf.1;obtain⟨t,he⟩:=dw.1 hf.2;have g0:=fF hM hy hp;have g1:=fF hM' hx t;obtain⟨σ,hσ⟩:∃σ,ag y 0=σ:=⟨_,rfl⟩;obtain⟨τ,hτ⟩:∃σ,ag x 0=σ:=⟨_,rfl⟩;have e0:=(az hσ).1;have e2:=(az hτ).2
 have e3:decide (0<=σ)=!decide (y < 0):=by
  rw[<-e0]
  by_cases c:σ < 0
  ·rw[dt c,df (by omega)];rfl
  ·rw[df c,dt (by omega)];rfl
 rw[df x0]at g1;rw[df cx]at e2;rw[dt cy]at e3;clear e0;have HP:=ie hp;have hN:=ie t;have HD:=ie hd;have HE:=ie he;have HY:=ie hy;have HX:=ie hx;have HS:=ie hσ;have HT:=ie hτ;have r:=ie g0;have I:=ie g1;have HU:=ie hU;have HV:=ie hV;have HW:=ie hW
 have hI:=ie e2;have hL:=ie e3;have HZ:=ie hZ;have HQ:=ie hq;have H0:=ie h0;clear hp t hd he hy hx hσ hτ g0 g1 hU hV hW e2 e3 hZ hq h0;clear hf
 go_enter func12,ntmps12
 go_upto_region 1 with fail
 generalize bA:((w.alloc _).alloc _).alloc _=w1 at *;obtain⟨h,f,a,e⟩:=Bo.en3 bA;clear bA;have j:=h.cell
 go_wp2_with fail
 refine(dD HP.out).mono ?_;rintro ee w2 ⟨rfl,B⟩;clear j;refine aR ?_ h f a e B;clear h f a e B;intro h f a e;have i:=f.cell
 go_wp2_with fail
 refine(dD hN.out).mono ?_;rintro ee w3 ⟨rfl,B⟩;clear i;refine aR ?_ h f a e B;clear h f a e B;intro h f a e;have HF:=HD.out;have HG:=HE.out;have j:=h.cell;have i:=f.cell
 go_upto_region 3 with fail
 go_cut [39] (fun v wx=>v= .bool false/\Bo wx (w.heap.size) #[.int .i64 D,.bool s,.int .u64 M,.int .i64 E] 24/\Bo wx (w.heap.size+1) #[.int .i64 D',.bool s',.int .u64 M',.int .i64 E'] 24/\Bo wx (w.heap.size+1+1) #[.bool false,.int .i64 0,.bool false,.int .u64 0,.int .i64 0,.int .i64 0,.bool false,.int .u64 0,.int .i64 0] 26/\Below w.heap.size w wx)
 case first=>
  by_cases cz:y=0
  ·have z0:(D==0)=true:=r.out.trans (dt cz)
   have z1:(D'==0)=false:=I.out
   clear cz
   go_wp2_with fail
   go_meet
   exact⟨rfl,h,f,a,e.out⟩
  ·have z0:(D==0)=false:=r.out.trans (df cz)
   clear cz
   go_wp2_with fail
   go_meet
   exact⟨rfl,h,f,a,e.out⟩
 case rest=>
  clear j i;clear h f a e HF HG;obtain⟨rfl,h,f,a,hB⟩:=hcut;have e:=ie hB;clear hB r H0;have j:=h.cell
  go_wp2_with fail
  refine(iN (σ:=σ) hM (by rw[HY.out];exact HS.out)).mono ?_;rintro ee wd ⟨rfl,B⟩;clear j;refine aR ?_ h f a e B;clear h f a e B;intro h f a e;have g1:=I.out;have i:=f.cell
  go_upto_region 10 with fail
  clear i;clear g1;have LB:=h.lt;have LC:=f.lt;have bB:=a.lt;have LA:=e.out.size;refine bF [0,1,2,3,4,5,6,7,8,9] [52,53,54,55,56,57,58,59,60,10,0] [[],[],[0,1],[2],[],[],[4,5],[6],[3,7],[],[]] 11 1 [Jo.q4 D s M E,Jo.q4 D' s' M' E',Jo.Fact.num (q false y x),Jo.Fact.iv U,Jo.q4 D s M E,Jo.q4 D' s' M' E',Jo.Fact.num (q true y x),Jo.Fact.iv V,Jo.Fact.iv W,Jo.Fact.bo wd.heap.size #[.bool false,.int .i64 0,.bool false,.int .u64 0,.int .i64 0,.int .i64 0,.bool false,.int .u64 0,.int .i64 0] 26,Jo.Fact.any] ?_ ?_
  ·iterate 2 (refine jm ?_ ?_;rotate_left)
   refine jm ?_ ?_
   ·rintro p g _ rfl _ rfl K d;go_simp;exact Jo.n1 (qQ hM hM' HY.out HX.out (HQ.out false _ _)) d.out
   refine jm ?_ ?_
   ·rintro p g _ ⟨hP,HH,lA,hA,rfl,bC⟩ K d;go_simp;exact Jo.v1 (lu HQ.out bC.top bC.rk HU.out) d.out
   iterate 2 (refine jm ?_ ?_;rotate_left)
   refine jm ?_ ?_
   ·rintro p g _ rfl _ rfl K d;go_simp;exact Jo.n1 (qQ hM hM' HY.out HX.out (HQ.out true _ _)) d.out
   refine jm ?_ ?_
   ·rintro p g _ ⟨hQ,HI,lB,hC,rfl,bD⟩ K d;go_simp;exact Jo.v1 (lu HQ.out bD.top bD.rk HV.out) d.out
   refine jm ?_ ?_
   ·rintro p g _ ⟨CD,hR,HJ,qT,hD,J,bH,Q,A,rfl,m⟩ _ ⟨DS,hT,HK,xX,hE,L,bN,R,C,rfl,n⟩ K d;go_simp;exact Jo.v1 (mB m.top.1 m.top.2 n.top.1 n.top.2 m.rk n.rk HW.out) d.out
   refine jm ?_ ?_
   ·rintro p g K d;go_simp;exact d.out _ _ ⟨_,rfl,g.size,Bo.new _ _ _⟩ (af _ _)
   exact jo
   all_goals (rintro p g;(repeat rintro _ rfl);intro K d;have j:=(h.b g).cell;have i:=(f.b g).cell;go_simp;exact d.out _ _ rfl (br _ _))
  rintro we g _ rfl _ rfl _ ⟨hP,HH,lA,hA,rfl,_⟩ _ ⟨CD,hR,HJ,qT,hD,J,bH,Q,A,rfl,m⟩ _ rfl _ rfl _ ⟨hQ,HI,lB,hC,rfl,_⟩ _ ⟨DS,hT,HK,xX,hE,L,bN,R,C,rfl,n⟩ _ ⟨ET,hX,HL,zX,hF,N,fH,S,F,rfl,u⟩ _ ⟨g9,rfl,LE,l⟩ -;simp only[Jo.z];replace f:=f.b g;replace a:=a.b g;replace e:=ak e g
  have gO:=l.cell;have gP:=l.frozen
  refine jn 10 fun K d=>?_
  go_simp;refine d.out _ _ ?_;clear d K gO gP;generalize Y:((((((((we.setCell _ _).setCell _ _).setCell _ _).setCell _ _).setCell _ _).setCell _ _).setCell _ _).setCell _ _).setCell _ _=wf at *;have k:=ac.of9 l Y;replace f:=f.s k;replace a:=a.s k;replace e:=bi e k (by omega);replace l:=k.box
  clear k Y;refine jd ?_;have e2:=hI.out;have i:=f.cell
  go_wp2_with fail
  refine(iN (σ:=τ) hM' (by rw[HX.out];exact HT.out)).mono ?_;rintro ee wg ⟨rfl,B⟩;clear i;refine aF ?_ a l e B;clear a l e B;intro a l e;have e3:=hL.out
  go_upto_region 15 with fail
  clear e2 e3 h f;have bB:=a.lt;have LD:=l.lt;refine bF [0,1,2] [70,71,72,0,6] [[],[],[0,1],[],[]] 5 2 [Jo.q9 ET hX HL zX hF N fH S F,Jo.Fact.iv (some (eM,eM+1)),Jo.Fact.iv Z,Jo.Fact.any,Jo.Fact.any] ?_ ?_
  ·refine jm ?_ ?_
   ·rintro p g K d;have gO:=(l.b g).cell;go_simp;exact d.out _ _ rfl (br _ _)
   refine jm ?_ ?_
   ·rintro p g K d;go_simp;exact Jo.v1 (K0) d.out
   refine jm ?_ ?_
   ·rintro p g _ rfl _ ⟨HA,iU,HM,BW,hG,O,fP,T,G,rfl,o⟩ K d;go_simp;exact Jo.v1 (AR u.top.1 u.top.2 o.top.1 o.top.2 u.rk o.rk HZ.out) d.out
   exact jo
  rintro wh g _ rfl _ ⟨HA,iU,HM,BW,hG,O,fP,T,G,rfl,o⟩ _ ⟨HC,iV,HN,BX,hH,P,gB,X,H,rfl,HO⟩ -;simp only[Jo.z];replace a:=a.b g;replace e:=ak e g;have HR:=a.cell;have gS:=a.frozen
  refine jn 3 fun K d=>?_
  go_simp;refine d.out _ _ ?_;clear d K HR gS;generalize Y:((((((((wh.setCell _ _).setCell _ _).setCell _ _).setCell _ _).setCell _ _).setCell _ _).setCell _ _).setCell _ _).setCell _ _=wi at *;have k:=ac.of9 a Y;replace e:=bi e k (by omega);replace a:=k.box;clear k Y
  refine jn 4 fun K d=>?_
  go_simp;refine d.out _ _ ?_;clear d K;refine jd ?_;go_wp2;exact bq (v:= .tuple #[.agg #[.bool HC,.int .i64 iV,.bool HN,.int .u64 BX,.int .i64 hH,.int .i64 P,.bool gB,.int .u64 X,.int .i64 H],.bool true]) (by simp[results,results12,go_sem,a.cell]) rfl ⟨_,_,_,_,_,_,_,_,_,rfl,HO,e.out⟩
theorem nN{w:World}{D D' M M' E E':Int}{s s':Bool}{x y:Int}{q:Bool->Int->Int->Int}{U V W Z:Sp}(hq:QF q)(hM:LQ M)(hM':LQ M')(hy:rk D s M E=y)(hx:rk D' s' M' E'=x)(hf:(dc D s M E && dc D' s' M' E')=true)(h0:¬(y=0/\x=0))(x0:x≠0)(hU:gM q (q false y x) U)(hV:gM q (q true y x) V)(hW:bK U V=W)(cx:¬0 < x)(cy:¬y < 0)(hZ:fL (some (eM,eM+1)) W=Z):Calls prog 12 #[VQ D s M E,VQ D' s' M' E'] w (nY w Z true):=by
 delta VQ
 rw[Bool.and_eq_true]at hf;obtain⟨hp,hd⟩:=dw.1 hf.1;obtain⟨t,he⟩:=dw.1 hf.2;have g0:=fF hM hy hp;have g1:=fF hM' hx t;obtain⟨σ,hσ⟩:∃σ,ag y 0=σ:=⟨_,rfl⟩;obtain⟨τ,hτ⟩:∃σ,ag x 0=σ:=⟨_,rfl⟩;have e0:=(az hσ).1;have e2:=(az hτ).2
 have e3:decide (0<=σ)=!decide (y < 0):=by
  rw[<-e0]
  by_cases c:σ < 0
  ·rw[dt c,df (by omega)];rfl
  ·rw[df c,dt (by omega)];rfl
 rw[df x0]at g1;rw[df cx]at e2;rw[df cy]at e3;clear e0;have HP:=ie hp;have hN:=ie t;have HD:=ie hd;have HE:=ie he;have HY:=ie hy;have HX:=ie hx;have HS:=ie hσ;have HT:=ie hτ;have r:=ie g0;have I:=ie g1;have HU:=ie hU;have HV:=ie hV;have HW:=ie hW
 have hI:=ie e2;have hL:=ie e3;have HZ:=ie hZ;have HQ:=ie hq;have H0:=ie h0;clear hp t hd he hy hx hσ hτ g0 g1 hU hV hW e2 e3 hZ hq h0;clear hf
 go_enter func12,ntmps12
 go_upto_region 1 with fail
 generalize bA:((w.alloc _).alloc _).alloc _=w1 at *;obtain⟨h,f,a,e⟩:=Bo.en3 bA;clear bA;have j:=h.cell
 go_wp2_with fail
 refine(dD HP.out).mono ?_;rintro ee w2 ⟨rfl,B⟩;clear j;refine aR ?_ h f a e B;clear h f a e B;intro h f a e;have i:=f.cell
 go_wp2_with fail
 refine(dD hN.out).mono ?_;rintro ee w3 ⟨rfl,B⟩;clear i;refine aR ?_ h f a e B;clear h f a e B;intro h f a e;have HF:=HD.out;have HG:=HE.out;have j:=h.cell;have i:=f.cell
 go_upto_region 3 with fail
 go_cut [39] (fun v wx=>v= .bool false/\Bo wx (w.heap.size) #[.int .i64 D,.bool s,.int .u64 M,.int .i64 E] 24/\Bo wx (w.heap.size+1) #[.int .i64 D',.bool s',.int .u64 M',.int .i64 E'] 24/\Bo wx (w.heap.size+1+1) #[.bool false,.int .i64 0,.bool false,.int .u64 0,.int .i64 0,.int .i64 0,.bool false,.int .u64 0,.int .i64 0] 26/\Below w.heap.size w wx)
 case first=>
  by_cases cz:y=0
  ·have z0:(D==0)=true:=r.out.trans (dt cz)
   have z1:(D'==0)=false:=I.out
   clear cz
   go_wp2_with fail
   go_meet
   exact⟨rfl,h,f,a,e.out⟩
  ·have z0:(D==0)=false:=r.out.trans (df cz)
   clear cz
   go_wp2_with fail
   go_meet
   exact⟨rfl,h,f,a,e.out⟩
 case rest=>
  clear j i;clear h f a e HF HG;obtain⟨rfl,h,f,a,hB⟩:=hcut;have e:=ie hB;clear hB r H0;have j:=h.cell
  go_wp2_with fail
  refine(iN (σ:=σ) hM (by rw[HY.out];exact HS.out)).mono ?_;rintro ee wd ⟨rfl,B⟩;clear j;refine aR ?_ h f a e B;clear h f a e B;intro h f a e;have g1:=I.out;have i:=f.cell
  go_upto_region 10 with fail
  clear i;clear g1;have LB:=h.lt;have LC:=f.lt;have bB:=a.lt;have LA:=e.out.size;refine bF [0,1,2,3,4,5,6,7,8,9] [52,53,54,55,56,57,58,59,60,10,0] [[],[],[0,1],[2],[],[],[4,5],[6],[3,7],[],[]] 11 1 [Jo.q4 D s M E,Jo.q4 D' s' M' E',Jo.Fact.num (q false y x),Jo.Fact.iv U,Jo.q4 D s M E,Jo.q4 D' s' M' E',Jo.Fact.num (q true y x),Jo.Fact.iv V,Jo.Fact.iv W,Jo.Fact.bo wd.heap.size #[.bool false,.int .i64 0,.bool false,.int .u64 0,.int .i64 0,.int .i64 0,.bool false,.int .u64 0,.int .i64 0] 26,Jo.Fact.any] ?_ ?_
  ·iterate 2 (refine jm ?_ ?_;rotate_left)
   refine jm ?_ ?_
   ·rintro p g _ rfl _ rfl K d;go_simp;exact Jo.n1 (qQ hM hM' HY.out HX.out (HQ.out false _ _)) d.out
   refine jm ?_ ?_
   ·rintro p g _ ⟨hP,HH,lA,hA,rfl,bC⟩ K d;go_simp;exact Jo.v1 (lu HQ.out bC.top bC.rk HU.out) d.out
   iterate 2 (refine jm ?_ ?_;rotate_left)
   refine jm ?_ ?_
   ·rintro p g _ rfl _ rfl K d;go_simp;exact Jo.n1 (qQ hM hM' HY.out HX.out (HQ.out true _ _)) d.out
   refine jm ?_ ?_
   ·rintro p g _ ⟨hQ,HI,lB,hC,rfl,bD⟩ K d;go_simp;exact Jo.v1 (lu HQ.out bD.top bD.rk HV.out) d.out
   refine jm ?_ ?_
   ·rintro p g _ ⟨CD,hR,HJ,qT,hD,J,bH,Q,A,rfl,m⟩ _ ⟨DS,hT,HK,xX,hE,L,bN,R,C,rfl,n⟩ K d;go_simp;exact Jo.v1 (mB m.top.1 m.top.2 n.top.1 n.top.2 m.rk n.rk HW.out) d.out
   refine jm ?_ ?_
   ·rintro p g K d;go_simp;exact d.out _ _ ⟨_,rfl,g.size,Bo.new _ _ _⟩ (af _ _)
   exact jo
   all_goals (rintro p g;(repeat rintro _ rfl);intro K d;have j:=(h.b g).cell;have i:=(f.b g).cell;go_simp;exact d.out _ _ rfl (br _ _))
  rintro we g _ rfl _ rfl _ ⟨hP,HH,lA,hA,rfl,_⟩ _ ⟨CD,hR,HJ,qT,hD,J,bH,Q,A,rfl,m⟩ _ rfl _ rfl _ ⟨hQ,HI,lB,hC,rfl,_⟩ _ ⟨DS,hT,HK,xX,hE,L,bN,R,C,rfl,n⟩ _ ⟨ET,hX,HL,zX,hF,N,fH,S,F,rfl,u⟩ _ ⟨g9,rfl,LE,l⟩ -;simp only[Jo.z];replace f:=f.b g;replace a:=a.b g;replace e:=ak e g
  have gO:=l.cell;have gP:=l.frozen
  refine jn 10 fun K d=>?_
  go_simp;refine d.out _ _ ?_;clear d K gO gP;generalize Y:((((((((we.setCell _ _).setCell _ _).setCell _ _).setCell _ _).setCell _ _).setCell _ _).setCell _ _).setCell _ _).setCell _ _=wf at *;have k:=ac.of9 l Y;replace f:=f.s k;replace a:=a.s k;replace e:=bi e k (by omega);replace l:=k.box
  clear k Y;refine jd ?_;have e2:=hI.out;have i:=f.cell
  go_wp2_with fail
  refine(iN (σ:=τ) hM' (by rw[HX.out];exact HT.out)).mono ?_;rintro ee wg ⟨rfl,B⟩;clear i;refine aF ?_ a l e B;clear a l e B;intro a l e;have e3:=hL.out
  go_upto_region 14 with fail
  clear e2 e3 h f;have bB:=a.lt;have LD:=l.lt;refine bF [0,1,2] [67,68,69,0,6] [[],[],[0,1],[],[]] 5 2 [Jo.Fact.iv (some (eM,eM+1)),Jo.q9 ET hX HL zX hF N fH S F,Jo.Fact.iv Z,Jo.Fact.any,Jo.Fact.any] ?_ ?_
  ·refine jm ?_ ?_
   ·rintro p g K d;go_simp;exact Jo.v1 (K0) d.out
   refine jm ?_ ?_
   ·rintro p g K d;have gO:=(l.b g).cell;go_simp;exact d.out _ _ rfl (br _ _)
   refine jm ?_ ?_
   ·rintro p g _ ⟨HA,iU,HM,BW,hG,O,fP,T,G,rfl,o⟩ _ rfl K d;go_simp;exact Jo.v1 (AS o.top.1 o.top.2 u.top.1 u.top.2 o.rk u.rk HZ.out) d.out
   exact jo
  rintro wh g _ ⟨HA,iU,HM,BW,hG,O,fP,T,G,rfl,o⟩ _ rfl _ ⟨HC,iV,HN,BX,hH,P,gB,X,H,rfl,HO⟩ -;simp only[Jo.z];replace a:=a.b g;replace e:=ak e g;have HR:=a.cell;have gS:=a.frozen
  refine jn 3 fun K d=>?_
  go_simp;refine d.out _ _ ?_;clear d K HR gS;generalize Y:((((((((wh.setCell _ _).setCell _ _).setCell _ _).setCell _ _).setCell _ _).setCell _ _).setCell _ _).setCell _ _).setCell _ _=wi at *;have k:=ac.of9 a Y;replace e:=bi e k (by omega);replace a:=k.box;clear k Y
  refine jn 4 fun K d=>?_
  go_simp;refine d.out _ _ ?_;clear d K;refine jd ?_;go_wp2;exact bq (v:= .tuple #[.agg #[.bool HC,.int .i64 iV,.bool HN,.int .u64 BX,.int .i64 hH,.int .i64 P,.bool gB,.int .u64 X,.int .i64 H],.bool true]) (by simp[results,results12,go_sem,a.cell]) rfl ⟨_,_,_,_,_,_,_,_,_,rfl,HO,e.out⟩
theorem Hv{w:World}{D D' M M' E E':Int}{s s':Bool}{x y:Int}{q:Bool->Int->Int->Int}{Z:Sp}(hq:QF q)(hM:LQ M)(hM':LQ M')(hy:rk D s M E=y)(hx:rk D' s' M' E'=x)(hf:(dc D s M E && dc D' s' M' E')=true)(h0:¬(y=0/\x=0))(hZ:nE q y x Z):Calls prog 12 #[VQ D s M E,VQ D' s' M' E'] w (nY w Z true):=by
 delta VQ
 rcases hZ with⟨a,H,f,rfl⟩ | ⟨a,U,V,b,e,rfl⟩
 ·by_cases c:y < 0
  ·rw[if_pos c];exact xP hq hM hM' hy hx hf h0 a c f
  ·rw[if_neg c];exact xQ hq hM hM' hy hx hf h0 a c f
 ·by_cases c:0 < x
  ·rw[if_pos c];exact sM hq hM hM' hy hx hf h0 a b e rfl c
  ·rw[if_neg c]
   by_cases d:y < 0
   ·rw[if_pos d];exact nM hq hM hM' hy hx hf h0 a b e rfl c d rfl
   ·rw[if_neg d];exact nN hq hM hM' hy hx hf h0 a b e rfl c d rfl
