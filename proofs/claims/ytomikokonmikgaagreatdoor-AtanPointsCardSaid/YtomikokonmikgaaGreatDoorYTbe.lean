/-
 Contracts that the proof rests on.
-/
import Derived.Test.YtomikokonmikgaaGreatDoorYTbb
import Derived.Test.YtomikokonmikgaaGreatDoorYTbd
namespace Go.Proofs.YtomikokonmikgaaGreatDoor
open Go.Proofs.Tryz
set_option maxHeartbeats 8000000
open Go.RowKit
set_option linter.unusedVariables false
set_option linter.unusedSimpArgs false
set_option maxRecDepth 100000
theorem GE{w:World}{e:Bool}{D M E D' M' E':Int}{s s':Bool}{e2:Bool}{G P Q G' P' Q':Int}{g g':Bool}{x y z:Sp}(hM:LQ M)(hM':LQ M')(hP:LQ P)(hP':LQ P')(hx:jL e D s M E D' s' M' E'=x)(hy:jL e2 G g P Q G' g' P' Q'=y)(hr:fN x y=z):Calls prog 97 #[VI e D s M E D' s' M' E',VI e2 G g P Q G' g' P' Q'] w (PV w z):=by
 delta VI
 have HX:=ie hx;have HY:=ie hy;clear hx hy
 go_enter func97,ntmps97
 go_upto_region 1 with (fail)
 generalize t:((w.alloc _).alloc _).alloc _=w1 at *;obtain⟨X2,r,a,c⟩:=Bo.en3 t;clear t;have bH:=X2.cell
 go_wp2_with fail
 refine(kF hM hM' HX.out).mono ?_;rintro T w2 ⟨e1,K1,s1,M1,E1,J,bB,O,F,rfl,v1,B⟩;clear bH;replace r:=r.b B;replace a:=a.b B;replace c:=aa c B;clear B
 go_upto_region 2 with (fail)
 have V:=r.lt;have W:=a.lt;generalize k:w2.alloc _=w3 at *;obtain⟨h,n⟩:=Bo.nw k;clear k;replace r:=r.b n;replace a:=a.b n;replace c:=aa c n;clear n;have bN:=r.cell
 go_wp2_with fail
 refine(kF hP hP' HY.out).mono ?_;rintro T w4 ⟨e2,K2,s2,M2,E2,L,bC,R,H,rfl,v2,B⟩;clear bN;replace a:=a.b B;replace h:=h.b B;replace c:=aa c B;clear B
 go_upto_region 3 with (fail)
 have Y:=a.lt;have X:=h.lt;generalize k:w4.alloc _=w5 at *;obtain⟨p,n⟩:=Bo.nw k;clear k;replace a:=a.b n;replace h:=h.b n;replace c:=aa c n;clear n;clear HX HY hM hM' hP hP'
 rcases x with _ | ⟨xa,xb⟩
 ·obtain⟨rfl,y1,fH⟩:=v1
  obtain rfl:none=z:=hr
  have i:=h.cell;have j:=p.cell
  go_wp2_with fail
  refine(ly).mono ?_;rintro T w7 ⟨rfl,B⟩;clear i j;replace a:=a.b B;replace h:=h.b B;replace p:=p.b B;replace c:=aa c B;clear B;have m:=a.cell;have d:=a.frozen;go_wp2;clear m d
  have o:=ae.t9 a true 0 false 0 0 0 false 0 0;exact bq (by simp[results,results97,go_sem,o.box.cell]) rfl ⟨_,_,_,_,_,_,_,_,_,rfl,Ci.none,(o.below c.out (by omega))⟩
 ·obtain⟨rfl,a1,b1,o1,C,A⟩:=v1
  rcases y with _ | ⟨ya,yb⟩
  ·obtain⟨rfl,y2,fP⟩:=v2;clear o1 C A
   obtain rfl:none=z:=hr
   have i:=h.cell;have j:=p.cell
   go_wp2_with fail
   refine(ly).mono ?_;rintro T w7 ⟨rfl,B⟩;clear i j;replace a:=a.b B;replace h:=h.b B;replace p:=p.b B;replace c:=aa c B;clear B;have m:=a.cell;have d:=a.frozen;go_wp2;clear m d
   have o:=ae.t9 a true 0 false 0 0 0 false 0 0;exact bq (by simp[results,results97,go_sem,o.box.cell]) rfl ⟨_,_,_,_,_,_,_,_,_,rfl,Ci.none,(o.below c.out (by omega))⟩
  ·obtain⟨rfl,a2,b2,o2,bA,Z⟩:=v2;obtain⟨u,U⟩:∃u,av false xa ya=u:=⟨_,rfl⟩;obtain⟨l,hl⟩:∃l,av true xb yb=l:=⟨_,rfl⟩
   have v:eB u l=z:=by rw[<-U,<-hl];exact hr
   have HU:=ie U;have HL:=ie hl;have HR:=ie v;clear U hl hr v o1 C A o2 bA Z;have i:=h.cell;have j:=p.cell
   go_upto_region 5 with (fail)
   clear i j;refine jk [0,1,2,3,4,5,6,7,8,9,10] [some 18,some 19,some 20,some 21,some 22,some 23,some 24,some 25,some 26,some 27,some 28,none] [[],[0],[],[2],[1,3],[],[5],[],[7],[6,8],[4,9],[]] 12 1 [Jo.qp w2.heap.size 1,Jo.q4 K1 s1 M1 E1,Jo.qp w4.heap.size 1,Jo.q4 K2 s2 M2 E2,Jo.Fact.num u,Jo.qp w2.heap.size 5,Jo.q4 J bB O F,Jo.qp w4.heap.size 5,Jo.q4 L bC R H,Jo.Fact.num l,Jo.Fact.iv z,Jo.Fact.any] ?_ ?_
   ·iterate 4 (refine jm ?_ ?_;rotate_left)
    refine jm ?_ ?_
    ·rintro wj q _ rfl _ rfl K f;simp only[Jo.z]at f|-;go_simp;exact Jo.n1 (FC a1.top a2.top a1.rk a2.rk HU.out) f.out
    iterate 4 (refine jm ?_ ?_;rotate_left)
    refine jm ?_ ?_
    ·rintro wj q _ rfl _ rfl K f;simp only[Jo.z]at f|-;go_simp;exact Jo.n1 (FC b1.top b2.top b1.rk b2.rk HL.out) f.out
    refine jm ?_ ?_
    ·rintro wj q _ ⟨K3,s3,M3,E3,rfl,q3⟩ _ ⟨K4,s4,M4,E4,rfl,q4⟩ K f;simp only[Jo.z]at f|-;go_simp;exact Jo.v1 (oI q3.top q4.top q3.rk q4.rk HR.out) f.out
    exact jo
    all_goals (rintro wj q;(repeat rintro _ rfl);intro K f;simp only[Jo.z]at f|-;have i:=(h.b q).cell;have j:=(p.b q).cell;go_simp;exact f.out _ _ rfl (br _ _))
   rintro w8 q _ _ _ rfl _ _ _ rfl _ ⟨K3,s3,M3,E3,rfl,q3⟩ _ _ _ rfl _ _ _ rfl _ ⟨K4,s4,M4,E4,rfl,q4⟩ _ ⟨e5,K5,s5,M5,E5,N,bD,S,I,rfl,v5⟩ -;simp only[Jo.z];replace a:=a.b q;replace c:=aa c q;have m:=a.cell;have d:=a.frozen
   refine jn 11 fun K f=>?_
   go_simp;refine f.out _ _ ?_;clear f K m d;have o:=ae.t9 a e5 K5 s5 M5 E5 N bD S I;refine jd ?_;go_wp2;exact bq (by simp[results,results97,go_sem,o.box.cell]) rfl ⟨_,_,_,_,_,_,_,_,_,rfl,v5,(o.below c.out (by omega))⟩
theorem GD{w:World}{e:Bool}{D M E D' M' E':Int}{s s':Bool}{e2:Bool}{G P Q G' P' Q':Int}{g g':Bool}{x y z:Sp}(hM:LQ M)(hM':LQ M')(hP:LQ P)(hP':LQ P')(hx:jL e D s M E D' s' M' E'=x)(hy:jL e2 G g P Q G' g' P' Q'=y)(hr:kM x y=z):Calls prog 99 #[VI e D s M E D' s' M' E',VI e2 G g P Q G' g' P' Q'] w (PV w z):=by
 delta VI
 obtain⟨m,hm⟩:∃m,f7 y=m:=⟨_,rfl⟩
 have h:fN x m=z:=by rw[<-hm];exact hr
 have O:=ie hx;have R:=ie hy;have L:=ie hm;have N:=ie h;clear hx hy hm hr h
 go_enter func99,ntmps99
 go_upto_region 1 with (fail)
 generalize f:((w.alloc _).alloc _).alloc _=w1 at *;obtain⟨F,H,d,p⟩:=Bo.en3 f;clear f;have i:=F.cell;have j:=H.cell
 go_upto_region 1 with (fail)
 clear i j;refine jk [0,1,2,3] [some 5,some 6,some 7,some 8,none] [[],[],[1],[0,2],[]] 5 1 [Jo.q9 e D s M E D' s' M' E',Jo.q9 e2 G g P Q G' g' P' Q',Jo.Fact.iv m,Jo.Fact.iv z,Jo.Fact.any] ?_ ?_
 ·iterate 2 (refine jm ?_ ?_;rotate_left)
  refine jm ?_ ?_
  ·rintro I c _ rfl K a;simp only[Jo.z]at a|-;go_simp;exact Jo.v1 (FA hP hP' R.out L.out) a.out
  refine jm ?_ ?_
  ·rintro I c _ rfl _ ⟨e1,S,s1,T,J,q,v,t,n,rfl,l⟩ K a;simp only[Jo.z]at a|-;go_simp;exact Jo.v1 (GE hM hM' l.top.1 l.top.2 O.out l.rk N.out) a.out
  exact jo
  all_goals (rintro I c;(repeat rintro _ rfl);intro K a;simp only[Jo.z]at a|-;have i:=(F.b c).cell;have j:=(H.b c).cell;go_simp;exact a.out _ _ rfl (br _ _))
 rintro U c _ rfl _ rfl _ ⟨e1,S,s1,T,J,q,v,t,n,rfl,l⟩ _ ⟨e2,K2,s2,M2,E2,r,A,u,o,rfl,v2⟩ -;simp only[Jo.z];replace d:=d.b c;replace p:=aa p c;have B:=d.cell;have k:=d.frozen
 refine jn 4 fun K a=>?_
 go_simp;refine a.out _ _ ?_;clear a K B k;have C:=ae.t9 d e2 K2 s2 M2 E2 r A u o;refine jd ?_;go_wp2;exact bq (by simp[results,results99,go_sem,C.box.cell]) rfl ⟨_,_,_,_,_,_,_,_,_,rfl,v2,(C.below p.out (by omega))⟩
theorem FE{w:World}{H:Sp}(h:eD H):Calls prog 94 #[] w (PV w H):=by
 obtain⟨r,u,hr,hu,hz⟩:=h
 have HZ:Hid (eB r u=H):=ie hz.symm
 have h1:iE.fdiv 2=iE/2:=Int.fdiv_eq_ediv_of_nonneg _ (by decide)
 have h2:iD.fdiv 2=iD/2:=Int.fdiv_eq_ediv_of_nonneg _ (by decide)
 have HR:=ie hr;have HU:=ie hu;have H1:=ie h1;have H2:=ie h2;clear hr hu h1 h2;clear hz
 go_enter func94,ntmps94
 go_upto_region 1 with (fail)
 generalize o:w.alloc _=w1 at *;obtain⟨c,e⟩:=Bo.en1 o;clear o
 go_wp2_with fail
 refine(tR).mono ?_;rintro ee x ⟨s2,A2,n2,c2,s3,A3,n3,c3,rfl,p2,j,k2,k3,B⟩;replace c:=c.b B;replace e:=aa e B;clear B;have hB:=e.out.size
 go_upto_region 2 with (fail)
 have g:(World.alloc x (.cells #[.bool s2,.slice A2 n2 c2] 27)).heap.size=x.heap.size+1:=by simp
 have bA:=c.lt;have C:=af x (.cells #[.bool s2,.slice A2 n2 c2] 27);replace c:=c.b C;replace p2:=p2.b C;replace j:=j.b C;replace e:=ie (bt e.out C);have n:=Bo.new x #[.bool s2,.slice A2 n2 c2] 27;generalize f:World.alloc x (.cells #[.bool s2,.slice A2 n2 c2] 27)=w3 at *
 clear f;have bC:=c.lt;have bB:=n.lt;generalize f:w3.alloc _=w4 at *;obtain⟨M,i⟩:=Bo.nw f;clear f;replace c:=c.b i;replace n:=n.b i;replace p2:=p2.b i;replace j:=j.b i;replace e:=aa e i;clear i;rw[g]at M;clear g;have hA:=c.lt;have gP:=n.lt;have gS:=M.lt;refine jk [0,1,2,3,4,5,6] [some 7,some 8,some 9,some 10,some 11,some 12,some 13,none] [[],[0],[],[2],[],[3,4],[1,5],[]] 8 1 [Jo.Fact.eq (.agg #[.bool s2,.slice A2 n2 c2]),Jo.Fact.wn (iE/2) (20),Jo.Fact.eq (.agg #[.bool s3,.slice A3 n3 c3]),Jo.Fact.wn (iD/2) (20),Jo.Fact.wn (1) (2),Jo.Fact.wn (iD/2+1) (40),Jo.Fact.iv H,Jo.Fact.any] ?_ ?_
 ·refine jm ?_ ?_;rotate_left
  refine jm ?_ ?_
  ·rintro y d _ rfl K a;simp only[Jo.z]at a|-;go_simp;exact Jo.w1 (qm (p2.b d).wr (by omega) (by decide) (by decide) (by decide) H1.out) a.out
  refine jm ?_ ?_;rotate_left
  refine jm ?_ ?_
  ·rintro y d _ rfl K a;simp only[Jo.z]at a|-;go_simp;exact Jo.w1 (qm (j.b d).wr (by omega) (by decide) (by decide) (by decide) H2.out) a.out
  refine jm ?_ ?_
  ·rintro y d K a;simp only[Jo.z]at a|-;go_simp;exact Jo.w1 (gi 1 _ (by decide) (by decide)) a.out
  refine jm ?_ ?_
  ·rintro y d _ ⟨bH,E,X,O,rfl,q,T⟩ _ ⟨bN,F,Y,P,rfl,s,U⟩ K a;simp only[Jo.z]at a|-;go_simp;exact Jo.w1 (f8 q.wr s.wr (by omega) (by omega) rfl) a.out
  refine jm ?_ ?_
  ·rintro y d _ ⟨bD,D,W,N,rfl,p,S⟩ _ ⟨fH,G,Z,Q,rfl,t,V⟩ K a;simp only[Jo.z]at a|-;go_simp;exact Jo.v1 (zY p.wr t.wr (by omega) (by omega) HR.out HU.out HZ.out) a.out
  exact jo
  all_goals (rintro y d;(repeat rintro _ rfl);intro K a;simp only[Jo.z]at a|-;have hC:=(n.b d).cell;have hD:=(M.b d).cell;go_simp;exact a.out _ _ rfl (br _ _))
 rintro w5 d _ rfl _ ⟨bD,D,W,N,rfl,p,S⟩ _ rfl _ ⟨bH,E,X,O,rfl,q,T⟩ _ ⟨bN,F,Y,P,rfl,s,U⟩ _ ⟨fH,G,Z,Q,rfl,t,V⟩ _ ⟨R,J,fP,L,I,l,v,m,k,rfl,gB⟩ -;simp only[Jo.z];replace c:=c.b d;replace e:=aa e d;clear p2 j;have gO:=c.cell
 have A:=c.frozen
 refine jn 7 fun K a=>?_
 go_simp;refine a.out _ _ ?_;clear a K gO A;have SX:=ae.t9 c R J fP L I l v m k;refine jd ?_;go_wp2;exact bq (by simp[results,results94,go_sem,SX.box.cell]) rfl ⟨_,_,_,_,_,_,_,_,_,rfl,gB,(SX.below e.out (by omega))⟩
theorem z7{w:World}{D M E:Int}{s:Bool}{x:Int}{Z:Sp}(hM:LQ M)(hx:rk D s M E=x)(x0:0<=x)(x1:x<=ak 1)(c1:¬SC < du x*2)(hZ:eE (du x) Z):Calls prog 165 #[VQ D s M E] w (PV w Z):=by
 delta VQ
 obtain⟨fb,f0,f1⟩:=aZ x0 x1;obtain⟨v,hv⟩:∃v,du x=v:=⟨_,rfl⟩;rw[hv]at f0 f1 hZ c1;obtain⟨r,r2,hr,Q,hz⟩:=hZ;have hB:=ie (ej (z:=v) (by have:(0:Int) < SC:=(by decide);omega) f1);obtain⟨u1,u2⟩:=vj f0 f1;obtain⟨u,R⟩:∃u,pU v=u:=⟨_,rfl⟩;obtain⟨a,ha⟩:∃u,pA v=u:=⟨_,rfl⟩;obtain⟨b,hb⟩:∃u,pB v=u:=⟨_,rfl⟩
 obtain⟨S,hS⟩:∃S,aS u 111=S:=⟨_,rfl⟩;rw[R]at u1 u2
 have sp:(3:Int) < SC:=by decide
 have su: -SC<=u/\u<=SC:=by
  generalize SC=Z at *
  omega
 have LH:=ie (ej su.1 su.2)
 have L:Hid (nu u=S):=ie ((oY su.1 su.2).trans hS)
 have HL:Hid (a+S+ -400=pL v):=ie (by unfold pL;rw[ha,R,hS])
 have HH:Hid (b+S+400=pH v):=ie (by unfold pH;rw[hb,R,hS])
 have HZ:Hid (eB r r2=Z):=ie hz.symm
 obtain⟨σ,hσ⟩:∃σ,ag (v*2) SC=σ:=⟨_,rfl⟩;have e0:=(aQ hσ).2;rw[df c1]at e0
 have e1:v=u:=by rw[<-R];unfold pU;rw[if_neg c1]
 have e2:0=a:=by rw[<-ha];unfold pA;rw[if_neg c1]
 have e3:0=b:=by rw[<-hb];unfold pB;rw[if_neg c1]
 subst e1;subst e2;subst e3;have HX:=ie hx;have HV:=ie hv;have hA:=ie fb;have HR:=ie hr;have hC:=ie Q;have HS:=ie hσ;have J:=ie e0;clear hx hv fb hr Q hσ e0;clear hz u1 u2 su sp f0 f1 hS x0 x1 c1 R ha hb
 go_enter func165,ntmps165
 go_upto_region 1 with (fail)
 generalize P:(w.alloc _).alloc _=w1 at *;obtain⟨X1,d,f⟩:=Bo.en2 P;clear P;have HG:=X1.cell
 go_wp2_with fail
 refine(IW hM HX.out HV.out hA.out).mono ?_;rintro A w2 ⟨s3,A3,n3,c3,rfl,m,k3,B⟩;clear HG;replace d:=d.b B;replace f:=aa f B;clear B
 have LR:n3<=7:=m.fits hB.out
 clear k3
 go_upto_region 2 with (fail)
 have hR:=d.lt;generalize e:w2.alloc _=w3 at *;obtain⟨k,c⟩:=Bo.nw e;clear e;replace d:=d.b c;replace m:=m.b c;replace f:=aa f c;clear c;clear X1
 go_wp2_with fail
 refine(iP).mono ?_;rintro A w4 ⟨s5,A5,n5,c5,rfl,C,k5,B⟩;replace d:=d.b B;replace k:=k.b B;replace m:=m.b B;replace f:=aa f B;clear B
 go_upto_region 3 with (fail)
 have hU:=d.lt;have hT:=k.lt;generalize e:w4.alloc _=w5 at *;obtain⟨o,c⟩:=Bo.nw e;clear e;replace d:=d.b c;replace k:=k.b c;replace m:=m.b c;replace C:=C.b c;replace f:=aa f c;clear c;have bC:=k.cell
 go_upto_region 4 with (fail)
 clear bC;have hX:=d.lt;have hV:=k.lt;have hW:=o.lt;generalize e:w5.alloc _=w6 at *;obtain⟨q,c⟩:=Bo.nw e;clear e;replace d:=d.b c;replace k:=k.b c;replace o:=o.b c;replace m:=m.b c;replace C:=C.b c;replace f:=aa f c;clear c
 go_upto_region 5 with (fail)
 have lB:=d.lt;have iU:=k.lt;have iV:=o.lt;have lA:=q.lt;generalize e:w6.alloc _=w7 at *;obtain⟨p,c⟩:=Bo.nw e;clear e;replace d:=d.b c;replace k:=k.b c;replace o:=o.b c;replace q:=q.b c;replace m:=m.b c;replace C:=C.b c;replace f:=aa f c;clear c;have HN:=f.out.size
 go_upto_region 6 with (fail)
 have CD:=d.lt;have qT:=k.lt;have xX:=o.lt;have zX:=q.lt;have BX:=p.lt;generalize e:w7.alloc _=w8 at *;obtain⟨l,c⟩:=Bo.nw e;clear e;replace d:=d.b c;replace k:=k.b c;replace o:=o.b c;replace q:=q.b c;replace p:=p.b c;replace m:=m.b c;replace C:=C.b c;replace f:=aa f c
 clear c;have HY:=d.lt;have HP:=k.lt;have HQ:=o.lt;have HT:=q.lt;have HU:=p.lt;have HW:=l.lt;refine jk [0,1,2,3,4] [some 23,some 24,some 25,some 26,some 27] [[],[0],[],[1,2],[3]] 5 0 [Jo.Fact.eq (.agg #[.bool s3,.slice A3 n3 c3]),Jo.Fact.wn (v*2) (n3+2),Jo.Fact.eq (.agg #[.bool s5,.slice A5 n5 c5]),Jo.qi σ,Jo.qb false] ?_ ?_
 ·refine jm ?_ ?_;rotate_left
  refine jm ?_ ?_
  ·rintro wj n _ rfl K t;simp only[Jo.z]at t|-;go_simp;exact Jo.w1 (hO (m.b n).wr (by omega) (by decide) (by decide) rfl) t.out
  refine jm ?_ ?_;rotate_left
  refine jm ?_ ?_
  ·rintro wj n _ ⟨ET,gP,hQ,hG,rfl,V,hP⟩ _ rfl K t;simp only[Jo.z]at t|-;go_simp;refine(Ex (r:=σ) V.wr (C.b n).wr (by omega) (by omega) HS.out).mono ?_;rintro A wk ⟨rfl,B⟩;exact t.out _ _ rfl B
  refine jm ?_ ?_
  ·rintro wj n _ rfl K t;simp only[Jo.z]at t|-;have hI:=J.out;go_simp
   exact t.out _ _ (by first | rfl | (show Value.bool _=Value.bool _;rw[hI]) | simp_all) (br _ _)
  exact jo
  all_goals (rintro wj n;(repeat rintro _ rfl);intro K t;simp only[Jo.z]at t|-;have bC:=(k.b n).cell;have MU:=(o.b n).cell;go_simp;exact t.out _ _ rfl (br _ _))
 rintro w9 n _ rfl _ ⟨ET,gP,hQ,hG,rfl,V,hP⟩ _ rfl _ rfl _ rfl -;simp only[Jo.z];replace d:=d.b n;replace q:=q.b n;replace p:=p.b n;replace l:=l.b n;replace m:=m.b n;replace f:=aa f n;refine jd ?_;clear HS J;clear C o k;have HI:=q.cell
 go_wp2_with fail
 refine(rT m.wr (by omega) L.out).mono ?_;rintro A HD ⟨MG,LA,LZ,LI,rfl,g,LS,B⟩;clear HI;replace d:=d.b B;replace p:=p.b B;replace l:=l.b B;replace f:=aa f B;clear B;clear m;have HO:=f.out.size
 go_upto_region 12 with (fail)
 have fH:=d.lt;have bH:=p.lt;have bN:=l.lt;generalize e:HD.alloc _=MN at *;obtain⟨i,c⟩:=Bo.nw e;clear e;replace d:=d.b c;replace p:=p.b c;replace l:=l.b c;replace g:=g.b c;replace f:=aa f c;clear c;clear q;have HJ:=p.cell;have y:=i.cell
 go_wp2_with fail
 refine(f8 Wn.zero.wr g.wr (by omega) (by omega) rfl).mono ?_;rintro A MO ⟨MH,LB,MA,LJ,rfl,F,LT,B⟩;clear HJ y;replace d:=d.b B;replace l:=l.b B;replace i:=i.b B;replace g:=g.b B;replace f:=aa f B;clear B
 go_wp2_with fail
 refine(gi (-400) _ (by decide) (by decide)).mono ?_;rintro A MQ ⟨MI,LC,MB,LK,rfl,W,LU,B⟩;replace d:=d.b B;replace l:=l.b B;replace i:=i.b B;replace g:=g.b B;replace F:=F.b B;replace f:=aa f B;clear B
 go_wp2_with fail
 refine(f8 F.wr W.wr (by omega) (by omega) HL.out).mono ?_;rintro A HE ⟨MJ,LD,MC,LM,rfl,h,LV,B⟩;replace d:=d.b B;replace l:=l.b B;replace i:=i.b B;replace g:=g.b B;replace f:=aa f B;clear B;clear F W;have hL:=f.out.size
 go_upto_region 13 with (fail)
 have gB:=d.lt;have fP:=l.lt;have T:=i.lt;generalize e:HE.alloc _=MS at *;obtain⟨j,c⟩:=Bo.nw e;clear e;replace d:=d.b c;replace l:=l.b c;replace i:=i.b c;replace g:=g.b c;replace h:=h.b c;replace f:=aa f c;clear c;have HK:=l.cell;have y:=i.cell
 go_wp2_with fail
 refine(f8 Wn.zero.wr g.wr (by omega) (by omega) rfl).mono ?_;rintro A MP ⟨MK,LE,MD,LN,rfl,G,LW,B⟩;clear HK y;replace d:=d.b B;replace j:=j.b B;replace h:=h.b B;replace f:=aa f B;clear B
 go_wp2_with fail
 refine(gi (400) _ (by decide) (by decide)).mono ?_;rintro A MR ⟨ML,LF,ME,LO,rfl,X,LX,B⟩;replace d:=d.b B;replace j:=j.b B;replace h:=h.b B;replace G:=G.b B;replace f:=aa f B;clear B
 go_wp2_with fail
 refine(f8 G.wr X.wr (by omega) (by omega) HH.out).mono ?_;rintro A HF ⟨MM,LG,MF,LP,rfl,H,LY,B⟩;replace d:=d.b B;replace j:=j.b B;replace h:=h.b B;replace f:=aa f B;clear B;clear G X;have hN:=f.out.size
 go_upto_region 14 with (fail)
 have gO:=d.lt;have U:=j.lt;generalize e:HF.alloc _=MT at *;obtain⟨hF,c⟩:=Bo.nw e;clear e;replace d:=d.b c;replace j:=j.b c;replace h:=h.b c;replace H:=H.b c;replace f:=aa f c;clear c;have bA:=j.cell;have bB:=hF.cell
 go_wp2_with fail
 refine(zY h.wr H.wr (by omega) (by omega) HR.out hC.out HZ.out).mono ?_;rintro A wG ⟨hH,hD,HA,hE,gS,N,Y,O,I,rfl,HC,B⟩;clear bA bB;replace d:=d.b B;replace f:=aa f B;clear B;clear g h H;have HM:=d.cell;have bD:=d.frozen;go_wp2;clear HM bD
 have SX:=ae.t9 d hH hD HA hE gS N Y O I;exact bq (by simp[results,results165,go_sem,SX.box.cell]) rfl ⟨_,_,_,_,_,_,_,_,_,rfl,HC,(SX.below f.out (by omega))⟩
theorem z6{w:World}{D M E:Int}{s:Bool}{x:Int}{Z:Sp}(hM:LQ M)(hx:rk D s M E=x)(x0:0<=x)(x1:x<=ak 1)(c1:SC < du x*2)(hZ:eE (du x) Z):Calls prog 165 #[VQ D s M E] w (PV w Z):=by
 delta VQ
 obtain⟨fb,f0,f1⟩:=aZ x0 x1;obtain⟨v,hv⟩:∃v,du x=v:=⟨_,rfl⟩;rw[hv]at f0 f1 hZ c1;obtain⟨r,r2,hr,gP,hz⟩:=hZ;have HT:=ie (ej (z:=v) (by have:(0:Int) < SC:=(by decide);omega) f1);obtain⟨u1,u2⟩:=vj f0 f1;obtain⟨u,hu⟩:∃u,pU v=u:=⟨_,rfl⟩;obtain⟨a,ha⟩:∃u,pA v=u:=⟨_,rfl⟩;obtain⟨b,hb⟩:∃u,pB v=u:=⟨_,rfl⟩
 obtain⟨S,L⟩:∃S,aS u 111=S:=⟨_,rfl⟩;rw[hu]at u1 u2
 have sp:(3:Int) < SC:=by decide
 have su: -SC<=u/\u<=SC:=by
  generalize SC=Z at *
  omega
 have HQ:=ie (ej su.1 su.2)
 have fH:Hid (nu u=S):=ie ((oY su.1 su.2).trans L)
 have HL:Hid (a+S+ -400=pL v):=ie (by unfold pL;rw[ha,hu,L])
 have HH:Hid (b+S+400=pH v):=ie (by unfold pH;rw[hb,hu,L])
 have HZ:Hid (eB r r2=Z):=ie hz.symm
 obtain⟨σ,hσ⟩:∃σ,ag (v*2) SC=σ:=⟨_,rfl⟩;have e0:=(aQ hσ).2;rw[dt c1]at e0
 have e1:((v-SC)*SC).fdiv (v+SC)=u:=by
  rw[<-hu]
  unfold pU
  rw[if_pos c1];exact Int.fdiv_eq_ediv_of_nonneg _ (by omega)
 have e2:iE.fdiv 4=a:=by
  rw[<-ha]
  unfold pA
  rw[if_pos c1];exact Int.fdiv_eq_ediv_of_nonneg _ (by decide)
 have e3:iD.fdiv 4=iD/4:=Int.fdiv_eq_ediv_of_nonneg _ (by decide)
 have e4:iD/4+1=b:=by rw[<-hb];unfold pB;rw[if_pos c1]
 have e5:v+SC≠0:=by omega
 have HX:=ie hx;have HV:=ie hv;have HP:=ie fb;have HR:=ie hr;have HW:=ie gP;have HS:=ie hσ;have bN:=ie e0;have HY:=ie e1;have H4:=ie e2;have H5:=ie e3;have H6:=ie e4;have HU:=ie e5;clear hx hv fb hr gP hσ e0 e1 e2 e3 e4 e5;clear hz u1 u2 su sp f0 f1 L x0 x1 c1 hu ha hb
 go_enter func165,ntmps165
 go_upto_region 1 with (fail)
 generalize gO:(w.alloc _).alloc _=w1 at *;obtain⟨X1,d,e⟩:=Bo.en2 gO;clear gO;have NG:=X1.cell
 go_wp2_with fail
 refine(IW hM HX.out HV.out HP.out).mono ?_;rintro J w2 ⟨s3,A3,n3,c3,rfl,C,k3,B⟩;clear NG;replace d:=d.b B;replace e:=aa e B;clear B
 have OP:n3<=7:=C.fits HT.out
 clear k3
 go_upto_region 2 with (fail)
 have LX:=d.lt;generalize f:w2.alloc _=w3 at *;obtain⟨o,c⟩:=Bo.nw f;clear f;replace d:=d.b c;replace C:=C.b c;replace e:=aa e c;clear c;clear X1
 go_wp2_with fail
 refine(iP).mono ?_;rintro J w4 ⟨s5,A5,n5,c5,rfl,I,k5,B⟩;replace d:=d.b B;replace o:=o.b B;replace C:=C.b B;replace e:=aa e B;clear B
 go_upto_region 3 with (fail)
 have LZ:=d.lt;have LY:=o.lt;generalize f:w4.alloc _=w5 at *;obtain⟨F,c⟩:=Bo.nw f;clear f;replace d:=d.b c;replace o:=o.b c;replace C:=C.b c;replace I:=I.b c;replace e:=aa e c;clear c;have bA:=o.cell
 go_upto_region 4 with (fail)
 clear bA;have MC:=d.lt;have MA:=o.lt;have MB:=F.lt;generalize f:w5.alloc _=w6 at *;obtain⟨j,c⟩:=Bo.nw f;clear f;replace d:=d.b c;replace o:=o.b c;replace F:=F.b c;replace C:=C.b c;replace I:=I.b c;replace e:=aa e c;clear c
 go_upto_region 5 with (fail)
 have MG:=d.lt;have MD:=o.lt;have ME:=F.lt;have MF:=j.lt;generalize f:w6.alloc _=w7 at *;obtain⟨h,c⟩:=Bo.nw f;clear f;replace d:=d.b c;replace o:=o.b c;replace F:=F.b c;replace j:=j.b c;replace C:=C.b c;replace I:=I.b c;replace e:=aa e c;clear c;have NL:=e.out.size
 go_upto_region 6 with (fail)
 have ML:=d.lt;have MH:=o.lt;have MI:=F.lt;have MJ:=j.lt;have MK:=h.lt;generalize f:w7.alloc _=w8 at *;obtain⟨g,c⟩:=Bo.nw f;clear f;replace d:=d.b c;replace o:=o.b c;replace F:=F.b c;replace j:=j.b c;replace h:=h.b c;replace C:=C.b c;replace I:=I.b c;replace e:=aa e c
 clear c;have hE:=d.lt;have gS:=o.lt;have hA:=F.lt;have hB:=j.lt;have hC:=h.lt;have hD:=g.lt;refine jk [0,1,2,3,4] [some 23,some 24,some 25,some 26,some 27] [[],[0],[],[1,2],[3]] 5 0 [Jo.Fact.eq (.agg #[.bool s3,.slice A3 n3 c3]),Jo.Fact.wn (v*2) (n3+2),Jo.Fact.eq (.agg #[.bool s5,.slice A5 n5 c5]),Jo.qi σ,Jo.qb true] ?_ ?_
 ·refine jm ?_ ?_;rotate_left
  refine jm ?_ ?_
  ·rintro Y i _ rfl K p;simp only[Jo.z]at p|-;go_simp;exact Jo.w1 (hO (C.b i).wr (by omega) (by decide) (by decide) rfl) p.out
  refine jm ?_ ?_;rotate_left
  refine jm ?_ ?_
  ·rintro Y i _ ⟨MS,HJ,LS,LD,rfl,hH,LM⟩ _ rfl K p;simp only[Jo.z]at p|-;go_simp;refine(Ex (r:=σ) hH.wr (I.b i).wr (by omega) (by omega) HS.out).mono ?_;rintro J wk ⟨rfl,B⟩;exact p.out _ _ rfl B
  refine jm ?_ ?_
  ·rintro Y i _ rfl K p;simp only[Jo.z]at p|-;have LI:=bN.out;go_simp
   exact p.out _ _ (by first | rfl | (show Value.bool _=Value.bool _;rw[LI]) | simp_all) (br _ _)
  exact jo
  all_goals (rintro Y i;(repeat rintro _ rfl);intro K p;simp only[Jo.z]at p|-;have bA:=(o.b i).cell;have NH:=(F.b i).cell;go_simp;exact p.out _ _ rfl (br _ _))
 rintro w9 i _ rfl _ ⟨MS,HJ,LS,LD,rfl,hH,LM⟩ _ rfl _ rfl _ rfl -;simp only[Jo.z];replace d:=d.b i;replace o:=o.b i;replace F:=F.b i;replace j:=j.b i;replace h:=h.b i;replace g:=g.b i;replace C:=C.b i;replace I:=I.b i;replace e:=aa e i;refine jd ?_;clear HS bN
 go_wp2_with fail
 refine(tR).mono ?_;rintro J P ⟨s9,A9,n9,c9,PT,NP,PE,OC,rfl,T,q,k9,OQ,B⟩;replace d:=d.b B;replace o:=o.b B;replace F:=F.b B;replace j:=j.b B;replace h:=h.b B;replace g:=g.b B;replace C:=C.b B;replace I:=I.b B;replace e:=aa e B;clear B;have NM:=e.out.size
 go_upto_region 8 with (fail)
 have O:(World.alloc P (.cells #[.bool s9,.slice A9 n9 c9] 27)).heap.size=P.heap.size+1:=by simp
 have MR:=d.lt;have MM:=o.lt;have MN:=F.lt;have MO:=j.lt;have MP:=h.lt;have MQ:=g.lt;have N:=af P (.cells #[.bool s9,.slice A9 n9 c9] 27);replace d:=d.b N;replace o:=o.b N;replace F:=F.b N;replace j:=j.b N
 replace h:=h.b N;replace g:=g.b N;replace C:=C.b N;replace I:=I.b N;replace T:=T.b N;replace q:=q.b N
 replace e:=ie (bt e.out N);have R:=Bo.new P #[.bool s9,.slice A9 n9 c9] 27;generalize f:World.alloc P (.cells #[.bool s9,.slice A9 n9 c9] 27)=MZ at *;clear f;have HA:=d.lt;have lB:=o.lt;have qT:=F.lt;have xX:=j.lt;have zX:=h.lt;have CD:=g.lt;have ET:=R.lt;generalize f:MZ.alloc _=QL at *
 obtain⟨y,c⟩:=Bo.nw f;clear f;replace d:=d.b c;replace o:=o.b c;replace F:=F.b c;replace j:=j.b c;replace h:=h.b c;replace g:=g.b c;replace R:=R.b c;replace C:=C.b c;replace I:=I.b c;replace T:=T.b c;replace q:=q.b c;replace e:=aa e c;clear c;rw[O]at y
 clear O;have hE:=d.lt;have gS:=o.lt;have hA:=F.lt;have hB:=j.lt;have hC:=h.lt;have hD:=g.lt;have NO:=R.lt;have LR:=y.lt;refine jk [0,1,2,3,4,5,6,7,8] [some 32,some 33,some 34,some 35,some 36,some 37,some 38,some 39,some 40,none] [[],[],[0,1],[],[2,3],[],[],[5,6],[4,7],[]] 10 1 [Jo.Fact.eq (.agg #[.bool s3,.slice A3 n3 c3]),Jo.Fact.eq (.agg #[.bool s5,.slice A5 n5 c5]),Jo.Fact.wn (v-SC) (20),Jo.Fact.eq (.agg #[.bool s5,.slice A5 n5 c5]),Jo.Fact.wn ((v-SC)*SC) (60),Jo.Fact.eq (.agg #[.bool s3,.slice A3 n3 c3]),Jo.Fact.eq (.agg #[.bool s5,.slice A5 n5 c5]),Jo.Fact.wn (v+SC) (20),Jo.Fact.wn (u) (100),Jo.Fact.any] ?_ ?_
 ·iterate 2 (refine jm ?_ ?_;rotate_left)
  refine jm ?_ ?_
  ·rintro Y i _ rfl _ rfl K p;simp only[Jo.z]at p|-;go_simp;exact Jo.w1 (Ey (C.b i).wr (I.b i).wr (by omega) (by omega) rfl) p.out
  refine jm ?_ ?_;rotate_left
  refine jm ?_ ?_
  ·rintro Y i _ ⟨MU,HK,LT,LE,rfl,hN,LN⟩ _ rfl K p;simp only[Jo.z]at p|-;go_simp;exact Jo.w1 (Hh hN.wr (I.b i).wr (by omega) (by omega) rfl) p.out
  iterate 2 (refine jm ?_ ?_;rotate_left)
  refine jm ?_ ?_
  ·rintro Y i _ rfl _ rfl K p;simp only[Jo.z]at p|-;go_simp;exact Jo.w1 (f8 (C.b i).wr (I.b i).wr (by omega) (by omega) rfl) p.out
  refine jm ?_ ?_
  ·rintro Y i _ ⟨MW,HM,LU,LF,rfl,hP,LO⟩ _ ⟨MX,HN,LV,LG,rfl,hQ,LP⟩ K p;simp only[Jo.z]at p|-;go_simp;exact Jo.w1 (tS hP.wr hQ.wr (by omega) (by omega) HU.out HY.out) p.out
  exact jo
  all_goals (rintro Y i;(repeat rintro _ rfl);intro K p;simp only[Jo.z]at p|-;have bA:=(o.b i).cell;have NH:=(F.b i).cell;go_simp;exact p.out _ _ rfl (br _ _))
 rintro NA i _ rfl _ rfl _ ⟨MU,HK,LT,LE,rfl,hN,LN⟩ _ rfl _ ⟨MW,HM,LU,LF,rfl,hP,LO⟩ _ rfl _ rfl _ ⟨MX,HN,LV,LG,rfl,hQ,LP⟩ _ ⟨QD,NX,LW,OK,rfl,l,OY⟩ -;simp only[Jo.z];replace d:=d.b i;replace j:=j.b i;replace h:=h.b i;replace g:=g.b i;replace R:=R.b i;replace y:=y.b i;replace T:=T.b i
 replace q:=q.b i;replace e:=aa e i;clear C I;have bB:=j.cell;have hX:=j.frozen
 refine jn 9 fun K p=>?_
 go_simp;refine p.out _ _ ?_;clear p K bB hX;generalize L:(NA.setCell _ _).setCell _ _=QM at *;have k:=ae.of2 j L;replace d:=d.s k;replace h:=h.s k;replace g:=g.s k;replace R:=R.s k;replace y:=y.s k;replace T:=T.s k;replace q:=q.s k
 replace l:=l.s k;replace e:=bn e k (by omega);replace j:=k.box;clear k L;refine jd ?_
 have NK:LW<=7:=l.fits HQ.out
 clear o F;have NI:=R.cell
 go_wp2_with fail
 refine(qm T.wr (by omega) (by decide) (by decide) (by decide) H4.out).mono ?_;rintro J NB ⟨QE,NY,PO,OL,rfl,m,OZ,B⟩;clear NI;replace d:=d.b B;replace j:=j.b B;replace h:=h.b B;replace g:=g.b B;replace y:=y.b B;replace q:=q.b B;replace l:=l.b B;replace e:=aa e B;clear B;clear T;have bC:=h.cell
 have iU:=h.frozen
 go_upto_region 10 with (fail)
 clear bC iU;generalize L:(NB.setCell _ _).setCell _ _=QN at *;have k:=ae.of2 h L;replace d:=d.s k;replace j:=j.s k;replace g:=g.s k;replace y:=y.s k;replace q:=q.s k;replace l:=l.s k;replace m:=m.s k;replace e:=bn e k (by omega)
 replace h:=k.box;clear k L;clear R;have hU:=y.cell
 go_wp2_with fail
 refine(qm q.wr (by omega) (by decide) (by decide) (by decide) H5.out).mono ?_;rintro J QO ⟨QG,NZ,PP,OM,rfl,X,PA,B⟩;clear hU;replace d:=d.b B;replace j:=j.b B;replace h:=h.b B;replace g:=g.b B;replace l:=l.b B;replace m:=m.b B;replace e:=aa e B;clear B;clear q
 go_wp2_with fail
 refine(gi 1 _ (by decide) (by decide)).mono ?_;rintro J QP ⟨QI,OA,PQ,ON,rfl,hR,PC,B⟩;replace d:=d.b B;replace j:=j.b B;replace h:=h.b B;replace g:=g.b B;replace l:=l.b B;replace m:=m.b B;replace X:=X.b B;replace e:=aa e B;clear B
 go_wp2_with fail
 refine(f8 X.wr hR.wr (by omega) (by omega) H6.out).mono ?_;rintro J NC ⟨QJ,OB,PS,OO,rfl,n,PD,B⟩;replace d:=d.b B;replace j:=j.b B;replace h:=h.b B;replace g:=g.b B;replace l:=l.b B;replace m:=m.b B;replace e:=aa e B;clear B;clear X hR;have bD:=g.cell;have iV:=g.frozen
 go_upto_region 11 with (fail)
 clear bD iV;generalize L:(NC.setCell _ _).setCell _ _=QQ at *;have k:=ae.of2 g L;replace d:=d.s k;replace j:=j.s k;replace h:=h.s k;replace l:=l.s k;replace m:=m.s k;replace n:=n.s k;replace e:=bn e k (by omega);replace g:=k.box
 clear k L;clear y;have bB:=j.cell
 go_wp2_with fail
 refine(rT l.wr (by omega) fH.out).mono ?_;rintro J ND ⟨PW,NQ,PF,OD,rfl,t,OR,B⟩;clear bB;replace d:=d.b B;replace h:=h.b B;replace g:=g.b B;replace m:=m.b B;replace n:=n.b B;replace e:=aa e B;clear B;clear l;have NN:=e.out.size
 go_upto_region 12 with (fail)
 have HE:=d.lt;have HC:=h.lt;have HD:=g.lt;generalize f:ND.alloc _=QR at *;obtain⟨G,c⟩:=Bo.nw f;clear f;replace d:=d.b c;replace h:=h.b c;replace g:=g.b c;replace m:=m.b c;replace n:=n.b c;replace t:=t.b c;replace e:=aa e c;clear c;clear j;have bC:=h.cell
 have Q:=G.cell
 go_wp2_with fail
 refine(f8 m.wr t.wr (by omega) (by omega) rfl).mono ?_;rintro J QS ⟨PX,NR,PG,OE,rfl,U,OS,B⟩;clear bC Q;replace d:=d.b B;replace g:=g.b B;replace G:=G.b B;replace n:=n.b B;replace t:=t.b B;replace e:=aa e B;clear B
 go_wp2_with fail
 refine(gi (-400) _ (by decide) (by decide)).mono ?_;rintro J QU ⟨PY,NS,PH,OF,rfl,hI,OT,B⟩;replace d:=d.b B;replace g:=g.b B;replace G:=G.b B;replace n:=n.b B;replace t:=t.b B;replace U:=U.b B;replace e:=aa e B;clear B
 go_wp2_with fail
 refine(f8 U.wr hI.wr (by omega) (by omega) HL.out).mono ?_;rintro J NE ⟨PZ,NT,PJ,OG,rfl,A,OU,B⟩;replace d:=d.b B;replace g:=g.b B;replace G:=G.b B;replace n:=n.b B;replace t:=t.b B;replace e:=aa e B;clear B;clear U hI;have LJ:=e.out.size
 go_upto_region 13 with (fail)
 have HG:=d.lt;have HF:=g.lt;have hF:=G.lt;generalize f:NE.alloc _=QW at *;obtain⟨H,c⟩:=Bo.nw f;clear f;replace d:=d.b c;replace g:=g.b c;replace G:=G.b c;replace n:=n.b c;replace t:=t.b c;replace A:=A.b c;replace e:=aa e c;clear c;have bD:=g.cell;have Q:=G.cell
 go_wp2_with fail
 refine(f8 n.wr t.wr (by omega) (by omega) rfl).mono ?_;rintro J QT ⟨QA,NU,PK,OH,rfl,V,OV,B⟩;clear bD Q;replace d:=d.b B;replace H:=H.b B;replace A:=A.b B;replace e:=aa e B;clear B
 go_wp2_with fail
 refine(gi (400) _ (by decide) (by decide)).mono ?_;rintro J QV ⟨QB,NV,PL,OI,rfl,hL,OW,B⟩;replace d:=d.b B;replace H:=H.b B;replace A:=A.b B;replace V:=V.b B;replace e:=aa e B;clear B
 go_wp2_with fail
 refine(f8 V.wr hL.wr (by omega) (by omega) HH.out).mono ?_;rintro J NF ⟨QC,NW,PM,OJ,rfl,W,OX,B⟩;replace d:=d.b B;replace H:=H.b B;replace A:=A.b B;replace e:=aa e B;clear B;clear V hL;have LK:=e.out.size
 go_upto_region 14 with (fail)
 have HI:=d.lt;have hG:=H.lt;generalize f:NF.alloc _=QX at *;obtain⟨LC,c⟩:=Bo.nw f;clear f;replace d:=d.b c;replace H:=H.b c;replace A:=A.b c;replace W:=W.b c;replace e:=aa e c;clear c;have hV:=H.cell;have hW:=LC.cell
 go_wp2_with fail
 refine(zY A.wr W.wr (by omega) (by omega) HR.out HW.out HZ.out).mono ?_;rintro J wG ⟨LH,LA,MT,LB,HO,fP,hT,gB,bH,rfl,MY,B⟩;clear hV hW;replace d:=d.b B;replace e:=aa e B;clear B;clear m n t A W;have NJ:=d.cell;have lA:=d.frozen;go_wp2;clear NJ lA
 have k:=ae.t9 d LH LA MT LB HO fP hT gB bH;exact bq (by simp[results,results165,go_sem,k.box.cell]) rfl ⟨_,_,_,_,_,_,_,_,_,rfl,MY,(k.below e.out (by omega))⟩
theorem rU{w:World}{D M E:Int}{s:Bool}{x:Int}{Z:Sp}(hM:LQ M)(hx:rk D s M E=x)(h:lN x Z):Calls prog 165 #[VQ D s M E] w (PV w Z):=by
 delta VQ
 obtain⟨b,c,a⟩:=h
 by_cases c1:SC < du x*2
 ·exact z6 hM hx b c c1 a
 ·exact z7 hM hx b c c1 a
theorem lZ{D:Int}{s:Bool}{M E x:Int}(k:Fq D s M E x)(x0:0<=x):(D==2)=decide (x=19342822337206103650074625):=by
 rcases k.cases with⟨e0,_,_,_,e⟩ | ⟨e0,_,_,_,_,⟨_,e⟩ | ⟨_,e⟩⟩ | ⟨e0,_,_,⟨_,e⟩ | ⟨_,e⟩⟩
 ·rw[e0,df (by omega)];rfl
 ·rw[e0,df (by omega)];rfl
 ·rw[e0,df (by omega)];rfl
 ·rw[e0,dt (by omega)];rfl
 ·omega
theorem z9{w:World}{D D' M M' E E':Int}{s s':Bool}{x:Int}{Z:Sp}(k:Fq D s M E x)(k1:Fq D' s' M' E' (ak 1))(x0:0<=x)(hx1:x=19342822337206103650074625)(hZ:eD Z):Calls prog 87 #[VQ D s M E,VQ D' s' M' E'] w (PV w Z):=by
 delta VQ
 have f:=lZ k x0;rw[dt hx1]at f;have v:=ie f;have y:=ie hZ;clear f hZ;clear hx1
 go_enter func87,ntmps87
 go_upto_region 1 with (fail)
 generalize g:((w.alloc _).alloc _).alloc _=w1 at *;obtain⟨z,A,e,l⟩:=Bo.en3 g;clear g;have f:=v.out;have r:=z.cell
 go_wp2_with fail
 refine(FE y.out).mono ?_;rintro C F ⟨o,m,p,n,j,c,h,d,a,rfl,q,B⟩;clear r;replace e:=e.b B;replace l:=aa l B;clear B;clear f;have t:=e.cell;have i:=e.frozen;go_wp2;clear t i;have u:=ae.t9 e o m p n j c h d a
 exact bq (by simp[results,results87,go_sem,u.box.cell]) rfl ⟨_,_,_,_,_,_,_,_,_,rfl,q,(u.below l.out (by omega))⟩
theorem wS{w:World}{D D' M M' E E':Int}{s s':Bool}{x:Int}{Z:Sp}(k:Fq D s M E x)(k1:Fq D' s' M' E' (ak 1))(x0:0<=x)(x1:x<=ak 1)(hx1:x≠19342822337206103650074625)(hZ:eE (du x) Z):Calls prog 87 #[VQ D s M E,VQ D' s' M' E'] w (PV w Z):=by
 delta VQ
 have h:=lZ k x0;obtain⟨ρ,u⟩:∃σ,ag x (ak 1)=σ:=⟨_,rfl⟩;have e2:=ja u;rw[df hx1]at h;rw[dt x1]at e2
 have G:lN x Z:=⟨x0,x1,hZ⟩
 have H:=ie h;have o:=ie e2;have p:=ie u;have I:=ie G;clear h e2 u G;clear hx1 hZ x1
 go_enter func87,ntmps87
 go_upto_region 1 with (fail)
 generalize i:((w.alloc _).alloc _).alloc _=w1 at *;obtain⟨m,J,a,e⟩:=Bo.en3 i;clear i;have h:=H.out;have e2:=o.out;have c:=m.cell;have A:=J.cell
 go_wp2_with fail
 refine(mT (z:=ρ) k.top k1.top (by rw[k.rk,k1.rk];exact p.out)).mono ?_;rintro L N ⟨rfl,B⟩;clear c A;replace m:=m.b B;replace a:=a.b B;replace e:=aa e B;clear B;have c:=m.cell
 go_wp2_with fail
 refine(rU k.top k.rk I.out).mono ?_;rintro L O ⟨t,q,v,r,n,f,j,g,d,rfl,y,B⟩;clear c;replace a:=a.b B;replace e:=aa e B;clear B;clear h e2;have C:=a.cell;have l:=a.frozen;go_wp2;clear C l;have F:=ae.t9 a t q v r n f j g d
 exact bq (by simp[results,results87,go_sem,F.box.cell]) rfl ⟨_,_,_,_,_,_,_,_,_,rfl,y,(F.below e.out (by omega))⟩
theorem z8{w:World}{D D' M M' E E':Int}{s s':Bool}{x:Int}{ql qh:Int}{H U V W Z:Sp}(k:Fq D s M E x)(k1:Fq D' s' M' E' (ak 1))(x0:0<=x)(x1:¬x<=ak 1)(hx1:x≠19342822337206103650074625)(hH:eD H)(hl:Qt false (ak 1) x ql)(hh:Qt true (ak 1) x qh)(hU:lN ql U)(hV:lN qh V)(hW:bY U V=W)(hZ:kM H W=Z):Calls prog 87 #[VQ D s M E,VQ D' s' M' E'] w (PV w Z):=by
 delta VQ
 have S:=lZ k x0;obtain⟨ρ,hρ⟩:∃σ,ag x (ak 1)=σ:=⟨_,rfl⟩;have e2:=ja hρ;rw[df hx1]at S;rw[df x1]at e2;have HD:=ie S;have gO:=ie e2;have hA:=ie hρ;have HH:=ie hH;have gS:=ie hl;have gP:=ie hh;have HU:=ie hU;have HV:=ie hV;have HW:=ie hW;have HZ:=ie hZ
 clear S e2 hρ hH hl hh hU hV hW hZ;clear hx1 x1
 go_enter func87,ntmps87
 go_upto_region 1 with (fail)
 generalize T:((w.alloc _).alloc _).alloc _=w1 at *;obtain⟨e,f,a,c⟩:=Bo.en3 T;clear T;have S:=HD.out;have e2:=gO.out;have h:=e.cell;have i:=f.cell
 go_wp2_with fail
 refine(mT (z:=ρ) k.top k1.top (by rw[k.rk,k1.rk];exact hA.out)).mono ?_;rintro ee w2 ⟨rfl,B⟩;clear h i;replace e:=e.b B;replace f:=f.b B;replace a:=a.b B;replace c:=aa c B;clear B;have h:=e.cell;have i:=f.cell
 go_wp2_with fail
 refine(IV k1.top k.top k1.rk k.rk gS.out).mono ?_;rintro ee w3 ⟨HL,HP,HN,HJ,rfl,p,B⟩;clear h i;replace e:=e.b B;replace f:=f.b B;replace a:=a.b B;replace c:=aa c B;clear B
 go_wp2_with fail
 refine(rU p.top p.rk HU.out).mono ?_;rintro ee w4 ⟨hP,hB,qT,hG,bH,F,X,N,u,rfl,r,B⟩;replace e:=e.b B;replace f:=f.b B;replace a:=a.b B;replace c:=aa c B;clear B;have HC:=c.out.size
 go_upto_region 6 with (fail)
 clear S e2;have hX:=e.lt;have iU:=f.lt;have iV:=a.lt;generalize g:w4.alloc _=w5 at *;obtain⟨l,j⟩:=Bo.nw g;clear g;replace e:=e.b j;replace f:=f.b j;replace a:=a.b j;replace c:=aa c j;clear j;clear p;have h:=e.cell;have i:=f.cell
 go_wp2_with fail
 refine(IV k1.top k.top k1.rk k.rk gP.out).mono ?_;rintro ee w6 ⟨HM,HQ,HO,HK,rfl,q,B⟩;clear h i;replace a:=a.b B;replace l:=l.b B;replace c:=aa c B;clear B
 go_wp2_with fail
 refine(rU q.top q.rk HV.out).mono ?_;rintro ee w7 ⟨hQ,hC,xX,hI,bN,G,Y,O,v,rfl,t,B⟩;replace a:=a.b B;replace l:=l.b B;replace c:=aa c B;clear B;have HE:=c.out.size
 go_upto_region 7 with (fail)
 have lB:=a.lt;have lA:=l.lt;generalize g:w7.alloc _=w8 at *;obtain⟨X6,j⟩:=Bo.nw g;clear g;replace a:=a.b j;replace l:=l.b j;replace c:=aa c j;clear j;clear q;have HI:=a.lt;have HF:=l.lt;have HG:=X6.lt;refine jk [0,1,2,3,4] [some 25,some 26,some 27,some 28,some 29,none] [[],[],[],[1,2],[0,3],[]] 6 1 [Jo.Fact.iv H,Jo.q9 hP hB qT hG bH F X N u,Jo.q9 hQ hC xX hI bN G Y O v,Jo.Fact.iv W,Jo.Fact.iv Z,Jo.Fact.any] ?_ ?_
 ·refine jm ?_ ?_
  ·rintro wj o K d;simp only[Jo.z]at d|-;go_simp;exact Jo.v1 (FE HH.out) d.out
  iterate 2 (refine jm ?_ ?_;rotate_left)
  refine jm ?_ ?_
  ·rintro wj o _ rfl _ rfl K d;simp only[Jo.z]at d|-;go_simp;exact Jo.v1 (GI r.top.1 r.top.2 t.top.1 t.top.2 r.rk t.rk HW.out) d.out
  refine jm ?_ ?_
  ·rintro wj o _ ⟨hR,hD,zX,hL,fH,I,bA,P,y,rfl,m⟩ _ ⟨hS,hE,BX,hM,fP,J,bB,Q,A,rfl,n⟩ K d;simp only[Jo.z]at d|-;go_simp;exact Jo.v1 (GD m.top.1 m.top.2 n.top.1 n.top.2 m.rk n.rk HZ.out) d.out
  exact jo
  all_goals (rintro wj o;(repeat rintro _ rfl);intro K d;simp only[Jo.z]at d|-;have HR:=(l.b o).cell;have HS:=(X6.b o).cell;go_simp;exact d.out _ _ rfl (br _ _))
 rintro w9 o _ ⟨hR,hD,zX,hL,fH,I,bA,P,y,rfl,m⟩ _ rfl _ rfl _ ⟨hS,hE,BX,hM,fP,J,bB,Q,A,rfl,n⟩ _ ⟨hT,hF,CD,hN,gB,L,bC,R,C,rfl,ET⟩ -;simp only[Jo.z];replace a:=a.b o;replace c:=aa c o;have HA:=a.cell;have bD:=a.frozen
 refine jn 5 fun K d=>?_
 go_simp;refine d.out _ _ ?_;clear d K HA bD;have SX:=ae.t9 a hT hF CD hN gB L bC R C;refine jd ?_;go_wp2;exact bq (by simp[results,results87,go_sem,SX.box.cell]) rfl ⟨_,_,_,_,_,_,_,_,_,rfl,ET,(SX.below c.out (by omega))⟩
theorem IY{w:World}{D D' M M' E E':Int}{s s':Bool}{x:Int}{q:Bool->Int->Int->Int}{Z:Sp}(hq:QF q)(k:Fq D s M E x)(k1:Fq D' s' M' E' (ak 1))(x0:0<=x)(hZ:mX q x Z):Calls prog 87 #[VQ D s M E,VQ D' s' M' E'] w (PV w Z):=by
 delta VQ
 have g:x<=19342822337206103650074625:=by rw[<-k.rk];exact(BY k.top).2
 rcases hZ with⟨e,b⟩ | ⟨e,a,f⟩ | ⟨e,a,H,l,h,b,hl,hh,rfl⟩
 ·exact z9 k k1 x0 e b
 ·exact wS k k1 x0 a e f
 ·obtain⟨c,i,d⟩:=jC hq a (by omega);exact z8 k k1 x0 a e b (hq false _ _) (hq true _ _) ⟨c,by omega,hl⟩ ⟨by omega,d,hh⟩ rfl rfl
theorem wQ{w:World}{D M E:Int}{s:Bool}{x:Int}{q:Bool->Int->Int->Int}{Y Z:Sp}(hq:QF q)(hM:LQ M)(hx:rk D s M E=x)(x0:x < 0)(hY:mX q (-x) Y)(hZ:f7 Y=Z):Calls prog 27 #[VQ D s M E] w (PV w Z):=by
 delta VQ
 obtain⟨σ,hσ⟩:∃σ,ag x 0=σ:=⟨_,rfl⟩;have e0:=jb hσ;rw[dt x0]at e0
 have hp:0<= -x:=by omega
 clear x0;have HX:=ie hx;have HS:=ie hσ;have N:=ie e0;have HY:=ie hY;have HZ:=ie hZ;have HQ:=ie hq;have HP:=ie hp;clear hx hσ e0 hY hZ hq hp
 go_enter func27,ntmps27
 go_upto_region 1 with (fail)
 generalize u:(w.alloc _).alloc _=w1 at *;obtain⟨X1,a,c⟩:=Bo.en2 u;clear u;have hB:=X1.cell
 go_wp2_with fail
 refine(jW hM HX.out).mono ?_;rintro ee w2 ⟨O,fP,T,G,rfl,g,B⟩;clear hB;replace a:=a.b B;replace c:=aa c B;clear B
 go_upto_region 2 with (fail)
 have bC:=a.lt;generalize e:w2.alloc _=w3 at *;obtain⟨f,i⟩:=Bo.nw e;clear e;replace a:=a.b i;replace c:=aa c i;clear i
 go_wp2_with fail
 refine(JG (n:=1) (r:=ak 1) _ (by decide) (by decide) rfl).mono ?_;rintro ee w4 ⟨P,gB,U,H,rfl,bN,B⟩;replace a:=a.b B;replace f:=f.b B;replace c:=aa c B;clear B;have hD:=c.out.size
 go_upto_region 3 with (fail)
 have bH:=a.lt;have bD:=f.lt;generalize e:w4.alloc _=w5 at *;obtain⟨F,i⟩:=Bo.nw e;clear e;replace a:=a.b i;replace f:=f.b i;replace c:=aa c i;clear i;have e0:=N.out;have A:=f.cell
 go_wp2_with fail
 refine(vU (σ:=σ) g.top (by rw[g.rk];exact HS.out)).mono ?_;rintro ee w6 ⟨rfl,B⟩;clear A;replace a:=a.b B;replace f:=f.b B;replace F:=F.b B;replace c:=aa c B;clear B
 go_upto_region 4 with (fail)
 clear e0;have hG:=a.lt;have hE:=f.lt;have hF:=F.lt;refine jk [0,1,2,3,4] [some 11,some 12,some 13,some 14,some 15,none] [[],[0],[],[1,2],[3],[]] 6 1 [Jo.q4 O fP T G,Jo.Fact.num (-x),Jo.q4 P gB U H,Jo.Fact.iv Y,Jo.Fact.iv Z,Jo.Fact.any] ?_ ?_
 ·refine jm ?_ ?_;rotate_left
  refine jm ?_ ?_
  ·rintro wj j _ rfl K d;simp only[Jo.z]at d|-;go_simp;exact Jo.n1 (Iq g.top (by rw[g.rk])) d.out
  refine jm ?_ ?_;rotate_left
  refine jm ?_ ?_
  ·rintro wj j _ ⟨Q,gO,V,I,rfl,fH⟩ _ rfl K d;simp only[Jo.z]at d|-;go_simp;exact Jo.v1 (IY HQ.out fH bN HP.out HY.out) d.out
  refine jm ?_ ?_
  ·rintro wj j _ ⟨bA,R,gP,W,J,m,v,p,k,rfl,h⟩ K d;simp only[Jo.z]at d|-;go_simp;exact Jo.v1 (FA h.top.1 h.top.2 h.rk HZ.out) d.out
  exact jo
  all_goals (rintro wj j;(repeat rintro _ rfl);intro K d;simp only[Jo.z]at d|-;have A:=(f.b j).cell;have hH:=(F.b j).cell;go_simp;exact d.out _ _ rfl (br _ _))
 rintro w7 j _ rfl _ ⟨Q,gO,V,I,rfl,_⟩ _ rfl _ ⟨bA,R,gP,W,J,m,v,p,k,rfl,h⟩ _ ⟨bB,S,gS,X,L,o,y,t,l,rfl,hA⟩ -;simp only[Jo.z];replace a:=a.b j;replace c:=aa c j;have hC:=a.cell;have C:=a.frozen
 refine jn 5 fun K d=>?_
 go_simp;refine d.out _ _ ?_;clear d K hC C;have SX:=ae.t9 a bB S gS X L o y t l;refine jd ?_;go_wp2;exact bq (by simp[results,results27,go_sem,SX.box.cell]) rfl ⟨_,_,_,_,_,_,_,_,_,rfl,hA,(SX.below c.out (by omega))⟩
theorem wR{w:World}{D M E:Int}{s:Bool}{x:Int}{q:Bool->Int->Int->Int}{Z:Sp}(hq:QF q)(hM:LQ M)(hx:rk D s M E=x)(x0:0<=x)(hZ:mX q x Z):Calls prog 27 #[VQ D s M E] w (PV w Z):=by
 delta VQ
 obtain⟨σ,C⟩:∃σ,ag x 0=σ:=⟨_,rfl⟩;have e0:=jb C
 rw[show decide (x < 0)=false from df (by omega)]at e0
 have X:=ie hx;have W:=ie C;have t:=ie e0;have Y:=ie hZ;have V:=ie hq;have U:=ie x0;clear hx C e0 hZ hq x0
 go_enter func27,ntmps27
 go_upto_region 1 with (fail)
 generalize l:(w.alloc _).alloc _=w1 at *;obtain⟨X1,a,c⟩:=Bo.en2 l;clear l;have N:=X1.cell
 go_wp2_with fail
 refine(jW hM X.out).mono ?_;rintro A w2 ⟨bA,bH,bC,S,rfl,g,B⟩;clear N;replace a:=a.b B;replace c:=aa c B;clear B
 go_upto_region 2 with (fail)
 have F:=a.lt;generalize d:w2.alloc _=w3 at *;obtain⟨e,f⟩:=Bo.nw d;clear d;replace a:=a.b f;replace c:=aa c f;clear f
 go_wp2_with fail
 refine(JG (n:=1) (r:=ak 1) _ (by decide) (by decide) rfl).mono ?_;rintro A w4 ⟨bB,bN,bD,T,rfl,I,B⟩;replace a:=a.b B;replace e:=e.b B;replace c:=aa c B;clear B;have R:=c.out.size
 go_upto_region 3 with (fail)
 have H:=a.lt;have G:=e.lt;generalize d:w4.alloc _=w5 at *;obtain⟨y,f⟩:=Bo.nw d;clear d;replace a:=a.b f;replace e:=e.b f;replace c:=aa c f;clear f;have e0:=t.out;have h:=e.cell
 go_wp2_with fail
 refine(vU (σ:=σ) g.top (by rw[g.rk];exact W.out)).mono ?_;rintro A w6 ⟨rfl,B⟩;clear h;replace a:=a.b B;replace e:=e.b B;replace y:=y.b B;replace c:=aa c B;clear B;have h:=e.cell;have O:=y.cell
 go_wp2_with fail
 refine(IY V.out g I U.out Y.out).mono ?_;rintro A w7 ⟨z,u,J,v,p,j,m,k,i,rfl,L,B⟩;clear h O;replace a:=a.b B;replace c:=aa c B;clear B;clear e0;have P:=a.cell;have o:=a.frozen;go_wp2;clear P o
 have Q:=ae.t9 a z u J v p j m k i;exact bq (by simp[results,results27,go_sem,Q.box.cell]) rfl ⟨_,_,_,_,_,_,_,_,_,rfl,L,(Q.below c.out (by omega))⟩
theorem IU{w:World}{D M E:Int}{s:Bool}{x:Int}{q:Bool->Int->Int->Int}{Z:Sp}(hq:QF q)(hM:LQ M)(hx:rk D s M E=x)(hZ:jM q x Z):Calls prog 27 #[VQ D s M E] w (PV w Z):=by
 delta VQ
 rcases hZ with⟨a,Y,hY,rfl⟩ | ⟨a,b⟩
 ·exact wQ hq hM hx a hY rfl
 ·exact wR hq hM hx (by omega) b
