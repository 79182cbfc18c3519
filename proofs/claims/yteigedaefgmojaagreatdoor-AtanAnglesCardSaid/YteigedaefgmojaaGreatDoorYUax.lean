/-
 Contracts that the proof rests on.
-/
import Derived.Test.YteigedaefgmojaaGreatDoorYUaw
namespace Go.Proofs.YteigedaefgmojaaGreatDoor
open Go.Proofs.Tryz
set_option maxHeartbeats 8000000
open Go.RowKit
set_option linter.unusedVariables false
set_option linter.unusedSimpArgs false
set_option maxRecDepth 100000
theorem En{w:World}{n:Int}(h:n < 2):Calls prog 154 #[.int .i64 n] w (W2 w 1000000 0 0):=by
 have m:decide (n < 2)=true:=dt h
 go_enter func154,ntmps154
 go_upto_region 1 with fail
 generalize f:(w.alloc _).alloc _=w1 at *;obtain⟨b,c,d⟩:=Bo.en2 f;clear f;have j:=b.cell;have g:=b.frozen;have k:=c.cell;have i:=c.frozen;go_wp2;clear j g k i;generalize e:(w1.setCell _ _).setCell _ _=l at *;have a:=ac.of2 b e;replace c:=c.s a;replace d:=bi d a (by omega)
 replace b:=a.box;clear a e;generalize e:(l.setCell _ _).setCell _ _=o at *;have a:=ac.of2 c e;replace b:=b.s a;replace d:=bi d a (by omega);replace c:=a.box;clear a e;exact bq (v:= .tuple #[.agg #[.bool false,.slice none 0 0],.agg #[.bool false,.slice none 0 0]]) (by simp[results,results154,go_sem,b.cell,c.cell]) rfl ⟨_,_,_,_,_,_,_,_,rfl,⟨Nm.zero,rfl⟩,⟨Nm.zero,rfl⟩,Nat.zero_le _,Nat.zero_le _,d.out⟩
theorem El{w:World}{n:Int}(h:1000 < n):Calls prog 154 #[.int .i64 n] w (W2 w 1000000 0 0):=by
 have m:decide (n < 2)=false:=df (by omega)
 have o:decide (1000 < n)=true:=dt h
 go_enter func154,ntmps154
 go_upto_region 1 with fail
 generalize f:(w.alloc _).alloc _=w1 at *;obtain⟨b,c,d⟩:=Bo.en2 f;clear f;have j:=b.cell;have g:=b.frozen;have k:=c.cell;have i:=c.frozen;go_wp2;clear j g k i;generalize e:(w1.setCell _ _).setCell _ _=l at *;have a:=ac.of2 b e;replace c:=c.s a;replace d:=bi d a (by omega)
 replace b:=a.box;clear a e;generalize e:(l.setCell _ _).setCell _ _=p at *;have a:=ac.of2 c e;replace b:=b.s a;replace d:=bi d a (by omega);replace c:=a.box;clear a e;exact bq (v:= .tuple #[.agg #[.bool false,.slice none 0 0],.agg #[.bool false,.slice none 0 0]]) (by simp[results,results154,go_sem,b.cell,c.cell]) rfl ⟨_,_,_,_,_,_,_,_,rfl,⟨Nm.zero,rfl⟩,⟨Nm.zero,rfl⟩,Nat.zero_le _,Nat.zero_le _,d.out⟩
theorem Em{w:World}{n:Int}(h1:2<=n)(h2:n<=1000){a b:Int}(hr:gU n=(a,b)):Calls prog 154 #[.int .i64 n] w (W2 w 1000000 a b):=by
 have t1:decide (n < 2)=false:=df (by omega)
 have t2:decide (1000 < n)=false:=df (by omega)
 obtain⟨R,U⟩:∃R,io n 200 0 0 n=R:=⟨_,rfl⟩
 have k:R.1-((R.2:Int)+1)=a/\R.1+((R.2:Int)+1)=b:=by
  unfold gU at hr
  rw[if_neg (by omega),U]at hr
  injection hr with e1 e2
  exact⟨by omega,e2⟩
 have HR:=ie U;have HA:=ie k.1;have x:=ie k.2;clear hr U k
 go_enter func154,ntmps154
 go_upto_region 1 with fail
 generalize F:(w.alloc _).alloc _=w1 at *;obtain⟨d,c,e⟩:=Bo.en2 F;clear F;have G0:=c.lt
 go_wp2_with fail
 refine(He h1 h2).mono ?_;rintro ee w2 ⟨gp,go,gb,s6,A6,n6,c6,s7,A7,n7,c7,rfl,XP,XO,XB,p6,p7,k6,k7,I,H,G,V,W,B⟩;refine aF ?_ d c e B;clear d c e B;intro d c e;clear t1 t2;have J:=e.out.size;have p:=d.lt;have q:=c.lt
 go_wp2_with fail
 refine(KC XP XO XB p6 p7 k6 k7 I H G h1 h2 HR.out).mono ?_;rintro ee w3 ⟨s4,A4,n4,c4,rfl,h,k4,hk,B⟩;replace d:=d.duo B (by omega) (by omega);replace c:=c.duo B (by omega) (by omega);replace e:=ie (B.below e.out (by omega) (by omega) (by omega));clear B XP XO XB p6 p7 HR;clear V W I H G p q J G0;obtain⟨R1,T⟩:=R;simp only at h hk HA x|-
 go_upto_region 4 with fail
 have bB:=d.lt;have bC:=c.lt;generalize j:w3.alloc _=w4 at *;obtain⟨o,u⟩:=Bo.nw j;clear j;refine aR ?_ d c h e u;clear d c h e u;intro d c h e;have y:=iw ((T:Int)+1);have A:=jw ((T:Int)+1);have X:=y.out;have Y:=A.out
 go_wp2_with fail
 refine(iL ((T:Int)+1) _ (by omega) (by omega)).mono ?_;rintro ee w5 ⟨s5,A5,n5,c5,rfl,N,k5,B⟩;refine dW ?_ d c o h e B;clear d c o h e B;intro d c o h e;clear X Y y A;have J:=e.out.size
 go_upto_region 5 with fail
 have bH:=d.lt;have bN:=c.lt;have bD:=o.lt;generalize j:w5.alloc _=w6 at *;obtain⟨X6,u⟩:=Bo.nw j;clear j;refine gv ?_ d c o h N e u;clear d c o h N e u;intro d c o h N e;have p:=d.lt;have q:=c.lt;have gB:=o.lt;have gO:=X6.lt
 refine bF [0,1,2,3,4,5] [25,26,27,28,29,30,0,0] [[],[],[0,1],[],[],[3,4],[],[]] 8 2 [Jo.Fact.eq (.agg #[.bool s4,.slice A4 n4 c4]),Jo.Fact.eq (.agg #[.bool s5,.slice A5 n5 c5]),Jo.Fact.wn (a) (1000000),Jo.Fact.eq (.agg #[.bool s4,.slice A4 n4 c4]),Jo.Fact.eq (.agg #[.bool s5,.slice A5 n5 c5]),Jo.Fact.wn (b) (1000000),Jo.Fact.any,Jo.Fact.any] ?_ ?_
 ·iterate 2 (refine jm ?_ ?_;rotate_left)
  refine jm ?_ ?_
  ·rintro wj g _ rfl _ rfl K i;go_simp;exact Jo.w1 (DW (h.b g).wr (N.b g).wr (by omega) (by omega) HA.out) i.out
  iterate 2 (refine jm ?_ ?_;rotate_left)
  refine jm ?_ ?_
  ·rintro wj g _ rfl _ rfl K i;go_simp;exact Jo.w1 (pZ (h.b g).wr (N.b g).wr (by omega) (by omega) x.out) i.out
  exact jo
  all_goals (rintro wj g;(repeat rintro _ rfl);intro K i;have gP:=(o.b g).cell;have gS:=(X6.b g).cell;go_simp;exact i.out _ _ rfl (br _ _))
 rintro w9 g _ rfl _ rfl _ ⟨O,r,L,C,rfl,l,Z⟩ _ rfl _ rfl _ ⟨P,t,M,D,rfl,m,bA⟩ -;simp only[Jo.z];replace d:=d.b g;replace c:=c.b g;replace e:=ak e g;have fH:=d.cell;have Q:=d.frozen
 refine jn 6 fun K i=>?_
 go_simp;refine i.out _ _ ?_;clear i K fH Q;generalize E:(w9.setCell _ _).setCell _ _=wA at *;have f:=ac.of2 d E;replace c:=c.s f;replace l:=l.s f;replace m:=m.s f;replace e:=bi e f (by omega);replace d:=f.box;clear f E;have fP:=c.cell;have S:=c.frozen
 refine jn 7 fun K i=>?_
 go_simp;refine i.out _ _ ?_;clear i K fP S;generalize E:(wA.setCell _ _).setCell _ _=wB at *;have f:=ac.of2 c E;replace d:=d.s f;replace l:=l.s f;replace m:=m.s f;replace e:=bi e f (by omega);replace c:=f.box;clear f E;refine jd ?_;go_wp2;exact bq (v:= .tuple #[.agg #[.bool O,.slice r L C],.agg #[.bool P,.slice t M D]]) (by simp[results,results154,go_sem,d.cell,c.cell]) rfl ⟨O,r,L,C,P,t,M,D,rfl,l,m,Z,bA,e.out⟩
theorem Js{w:World}{n a b:Int}(hr:gU n=(a,b)):Calls prog 154 #[.int .i64 n] w (W2 w 1000000 a b):=by
 by_cases h1:n < 2
 ·unfold gU at hr
  rw[if_pos (.inl h1)]at hr
  injection hr with e1 e2
  subst e1;subst e2;exact En h1
 ·by_cases h2:1000 < n
  ·unfold gU at hr
   rw[if_pos (.inr h2)]at hr
   injection hr with e1 e2
   subst e1;subst e2;exact El h2
  ·exact Em (by omega) (by omega) hr
theorem Gl{w:World}{A:Option Addr}{n c:Nat}{s:Bool}{x:Int}{B:Option Addr}{m d:Nat}{t:Bool}{y:Int}{r:Int}(h:Wr w s A n c x)(k:Wr w t B m d y)(hn:n<=1000000)(hm:m<=1000000)(hr:16*x-4*y=r):Calls prog 155 #[.agg #[.bool s,.slice A n c],.agg #[.bool t,.slice B m d]] w (W1 w 10000000 r):=by
 have HR:=ie hr
 have H1:Hid (tj [16,x]=16*x):=ie (by show 1*16*x=_;rw[Int.one_mul])
 have H2:Hid (tj [4,y]=4*y):=ie (by show 1*4*y=_;rw[Int.one_mul])
 clear hr
 go_enter func155,ntmps155
 go_upto_region 1 with fail
 generalize u:((w.alloc _).alloc _).alloc _=w1 at *;obtain⟨X2,X3,p,q⟩:=Bo.en3 u;replace h:=h.below q.out;replace k:=k.below q.out;clear u;have fP:=X2.lt;have gB:=X3.lt;have gO:=p.lt;refine bF [0,1,2,3,4,5,6,7,8] [6,7,8,9,10,11,12,13,14,0] [[],[],[0,1],[2],[],[],[4,5],[6],[3,7],[]] 10 1 [Jo.Fact.wn (16) (2),Jo.Fact.eq (.agg #[.bool s,.slice A n c]),Jo.Fact.wl 1000000 2 [16,x],Jo.Fact.wn (16*x) (2000001),Jo.Fact.wn (4) (2),Jo.Fact.eq (.agg #[.bool t,.slice B m d]),Jo.Fact.wl 1000000 2 [4,y],Jo.Fact.wn (4*y) (2000001),Jo.Fact.wn (r) (10000000),Jo.Fact.any] ?_ ?_
 ·refine jm ?_ ?_
  ·rintro o e K a;go_simp;exact Jo.w1 (iL 16 _ (by decide) (by decide)) a.out
  refine jm ?_ ?_;rotate_left
  refine jm ?_ ?_
  ·rintro o e _ ⟨bC,H,Y,N,rfl,C,T⟩ _ rfl K a;go_simp;exact a.out _ _ ⟨_,_,rfl,Wl.lit2 rfl C.wr (h.b e) (by omega) (by omega)⟩ (af _ _)
  refine jm ?_ ?_
  ·rintro o e _ ⟨gP,hA,rfl,R⟩ K a;go_simp;exact Jo.w1 (ny R (by decide) H1.out) a.out
  refine jm ?_ ?_
  ·rintro o e K a;go_simp;exact Jo.w1 (iL 4 _ (by decide) (by decide)) a.out
  refine jm ?_ ?_;rotate_left
  refine jm ?_ ?_
  ·rintro o e _ ⟨bH,J,bA,P,rfl,E,V⟩ _ rfl K a;go_simp;exact a.out _ _ ⟨_,_,rfl,Wl.lit2 rfl E.wr (k.b e) (by omega) (by omega)⟩ (af _ _)
  refine jm ?_ ?_
  ·rintro o e _ ⟨gS,hB,rfl,S⟩ K a;go_simp;exact Jo.w1 (ny S (by decide) H2.out) a.out
  refine jm ?_ ?_
  ·rintro o e _ ⟨bD,I,Z,O,rfl,D,U⟩ _ ⟨bN,L,bB,Q,rfl,F,W⟩ K a;go_simp;exact Jo.w1 (DW D.wr F.wr (by omega) (by omega) HR.out) a.out
  exact jo
  all_goals (rintro o e;(repeat rintro _ rfl);intro K a;have hC:=(X2.b e).cell;have hD:=(X3.b e).cell;go_simp;exact a.out _ _ rfl (br _ _))
 rintro w2 e _ ⟨bC,H,Y,N,rfl,C,T⟩ _ rfl _ ⟨_,_,rfl,_⟩ _ ⟨bD,I,Z,O,rfl,D,U⟩ _ ⟨bH,J,bA,P,rfl,E,V⟩ _ rfl _ ⟨_,_,rfl,_⟩ _ ⟨bN,L,bB,Q,rfl,F,W⟩ _ ⟨l,f,i,g,rfl,j,X⟩ -;simp only[Jo.z];replace p:=p.b e;replace q:=ak q e;clear h k;have fH:=p.cell;have G:=p.frozen
 refine jn 9 fun K a=>?_
 go_simp;refine a.out _ _ ?_;clear a K fH G;have M:=ac.t2 p l f i g;replace j:=j.s M;refine jd ?_;go_wp2;exact bq (v:= .agg #[.bool l,.slice f i g]) (by simp[results,results155,go_sem,M.box.cell]) rfl ⟨l,f,i,g,rfl,j,X,(M.below q.out (by omega))⟩
theorem vj{w:World}:Calls prog 93 #[] w (W2 w 7 iP iO):=by
 obtain⟨Y,Z⟩:=mj;obtain⟨a,b,h5⟩:∃a b,gU 5=(a,b):=⟨_,_,rfl⟩;obtain⟨c,d,q⟩:∃a b,gU 239=(a,b):=⟨_,_,rfl⟩;rw[h5,q]at Y Z;have H5:=ie h5;have M:=ie q
 have V:Hid (16*a-4*d=iP):=ie (by rw[<-Y];omega)
 have W:Hid (16*b-4*c=iO):=ie (by rw[<-Z];omega)
 clear h5 q Y Z
 go_enter func93,ntmps93
 go_upto_region 1 with fail
 generalize O:(w.alloc _).alloc _=w1 at *;obtain⟨e,f,g⟩:=Bo.en2 O;clear O
 go_wp2_with fail
 refine(Js H5.out).mono ?_;rintro ee R ⟨s2,A2,n2,c2,s3,A3,n3,c3,rfl,p2,m,k2,k3,B⟩;refine aF ?_ e f g B;clear e f g B;intro e f g;have hE:=g.out.size
 go_upto_region 2 with fail
 have F:(World.alloc R (.cells #[.bool s2,.slice A2 n2 c2] 43)).heap.size=R.heap.size+1:=by simp
 have bA:=e.lt;have bB:=f.lt;have l:=af R (.cells #[.bool s2,.slice A2 n2 c2] 43);replace e:=e.b l;replace f:=f.b l;replace p2:=p2.b l;replace m:=m.b l;replace g:=ie (bt g.out l)
 have k:=Bo.new R #[.bool s2,.slice A2 n2 c2] 43;generalize h:World.alloc R (.cells #[.bool s2,.slice A2 n2 c2] 43)=w3 at *;clear h;have bD:=e.lt;have bH:=f.lt;have bC:=k.lt;generalize h:w3.alloc _=w4 at *;obtain⟨p,L⟩:=Bo.nw h;clear h;refine gv ?_ e f k p2 m g L;clear e f k p2 m g L;intro e f k p2 m g;rw[F]at p;clear F
 go_wp2_with fail
 refine(Js M.out).mono ?_;rintro ee S ⟨s4,A4,n4,c4,s5,A5,n5,c5,rfl,H,I,k4,k5,B⟩;refine oG ?_ e f k p p2 m g B;clear e f k p p2 m g B;intro e f k p p2 m g;have hF:=g.out.size
 go_upto_region 3 with fail
 have G:(World.alloc S (.cells #[.bool s4,.slice A4 n4 c4] 43)).heap.size=S.heap.size+1:=by simp
 have fP:=e.lt;have gB:=f.lt;have bN:=k.lt;have fH:=p.lt;have l:=af S (.cells #[.bool s4,.slice A4 n4 c4] 43);replace e:=e.b l;replace f:=f.b l;replace k:=k.b l;replace p:=p.b l;replace p2:=p2.b l
 replace m:=m.b l;replace H:=H.b l;replace I:=I.b l;replace g:=ie (bt g.out l);have J:=Bo.new S #[.bool s4,.slice A4 n4 c4] 43;generalize h:World.alloc S (.cells #[.bool s4,.slice A4 n4 c4] 43)=w6 at *
 clear h;have hA:=e.lt;have hB:=f.lt;have gO:=k.lt;have gP:=p.lt;have gS:=J.lt;generalize h:w6.alloc _=w7 at *;obtain⟨X,L⟩:=Bo.nw h;clear h;refine sX ?_ e f k p J p2 m H I g L;clear e f k p J p2 m H I g L;intro e f k p J p2 m H I g;rw[G]at X;clear G;have hM:=e.lt;have hN:=f.lt;have hG:=k.lt;have hH:=p.lt;have hI:=J.lt;have hL:=X.lt;refine bF [0,1,2,3,4,5] [15,16,17,18,19,20,0,0] [[],[],[0,1],[],[],[3,4],[],[]] 8 2 [Jo.Fact.eq (.agg #[.bool s2,.slice A2 n2 c2]),Jo.Fact.eq (.agg #[.bool s5,.slice A5 n5 c5]),Jo.Fact.wn (iP) (7),Jo.Fact.eq (.agg #[.bool s3,.slice A3 n3 c3]),Jo.Fact.eq (.agg #[.bool s4,.slice A4 n4 c4]),Jo.Fact.wn (iO) (7),Jo.Fact.any,Jo.Fact.any] ?_ ?_
 ·iterate 2 (refine jm ?_ ?_;rotate_left)
  refine jm ?_ ?_
  ·rintro wj n _ rfl _ rfl K r;go_simp;refine(Gl (p2.b n).wr (I.b n).wr k2 k5 V.out).mono ?_;rintro ee wk ⟨D,t,A,x,rfl,i,P,B⟩;exact r.out _ _ ⟨D,t,A,x,rfl,i,i.fits (by decide)⟩ B
  iterate 2 (refine jm ?_ ?_;rotate_left)
  refine jm ?_ ?_
  ·rintro wj n _ rfl _ rfl K r;go_simp;refine(Gl (m.b n).wr (H.b n).wr k3 k4 W.out).mono ?_;rintro ee wk ⟨E,u,C,y,rfl,j,Q,B⟩;exact r.out _ _ ⟨E,u,C,y,rfl,j,j.fits (by decide)⟩ B
  exact jo
  all_goals (rintro wj n;(repeat rintro _ rfl);intro K r;have hP:=(k.b n).cell;have hT:=(X.b n).cell;have hQ:=(p.b n).cell;have hR:=(J.b n).cell;go_simp;exact r.out _ _ rfl (br _ _))
 rintro w8 n _ rfl _ rfl _ ⟨D,t,A,x,rfl,i,P⟩ _ rfl _ rfl _ ⟨E,u,C,y,rfl,j,Q⟩ -;simp only[Jo.z];replace e:=e.b n;replace f:=f.b n;replace g:=ak g n;clear p2 m H I;have hC:=e.cell;have T:=e.frozen
 refine jn 6 fun K r=>?_
 go_simp;refine r.out _ _ ?_;clear r K hC T;generalize N:(w8.setCell _ _).setCell _ _=w9 at *;have o:=ac.of2 e N;replace f:=f.s o;replace i:=i.s o;replace j:=j.s o;replace g:=bi g o (by omega);replace e:=o.box;clear o N;have hD:=f.cell;have U:=f.frozen
 refine jn 7 fun K r=>?_
 go_simp;refine r.out _ _ ?_;clear r K hD U;generalize N:(w9.setCell _ _).setCell _ _=wA at *;have o:=ac.of2 f N;replace e:=e.s o;replace i:=i.s o;replace j:=j.s o;replace g:=bi g o (by omega);replace f:=o.box;clear o N;refine jd ?_;go_wp2;exact bq (v:= .tuple #[.agg #[.bool D,.slice t A x],.agg #[.bool E,.slice u C y]]) (by simp[results,results93,go_sem,e.cell,f.cell]) rfl ⟨D,t,A,x,E,u,C,y,rfl,i,j,P,Q,g.out⟩
theorem z8{w:World}{A:Option Addr}{n c:Nat}{s:Bool}{x:Int}{B:Option Addr}{m d:Nat}{t:Bool}{y:Int}{r u:Int}{z:Sp}(hT:dL w)(h:Wr w s A n c x)(k:Wr w t B m d y)(hn:n<=20)(hm:m<=20)(hr:Rq false x SC r)(hu:Rq true y SC u)(hz:eH r u=z):Calls prog 92 #[.agg #[.bool s,.slice A n c],.agg #[.bool t,.slice B m d]] w (PV w z):=by
 have HR:=ie hr;have HU:=ie hu;have HZ:=ie hz;clear hr hu hz
 go_enter func92,ntmps92
 go_upto_region 1 with fail
 generalize q:((w.alloc _).alloc _).alloc _=w1 at *;obtain⟨X2,X3,j,i⟩:=Bo.en3 q;replace hT:=hT.below i.out;replace h:=h.below i.out;replace k:=k.below i.out;clear q;have fH:=X2.lt;have fP:=X3.lt;have gB:=j.lt;refine bF [0,1,2,3,4,5,6] [6,7,8,9,10,11,12,0] [[],[],[0,1],[],[],[3,4],[2,5],[]] 8 1 [Jo.Fact.eq (.agg #[.bool s,.slice A n c]),Jo.Fact.wn (SC) (8),Jo.Fact.num r,Jo.Fact.eq (.agg #[.bool t,.slice B m d]),Jo.Fact.wn (SC) (8),Jo.Fact.num u,Jo.Fact.iv z,Jo.Fact.any] ?_ ?_
 ·refine jm ?_ ?_;rotate_left
  refine jm ?_ ?_
  ·rintro E a K e;go_simp;exact Jo.w1 (i5) e.out
  refine jm ?_ ?_
  ·rintro E a _ rfl _ ⟨Z,G,X,S,rfl,v,V⟩ K e;go_simp;exact Jo.n1 (Bu (hT.b a) (h.b a) v.wr hn (by omega) HR.out) e.out
  refine jm ?_ ?_;rotate_left
  refine jm ?_ ?_
  ·rintro E a K e;go_simp;exact Jo.w1 (i5) e.out
  refine jm ?_ ?_
  ·rintro E a _ rfl _ ⟨bB,H,Y,T,rfl,C,W⟩ K e;go_simp;exact Jo.n1 (Bu (hT.b a) (k.b a) C.wr hm (by omega) HU.out) e.out
  refine jm ?_ ?_
  ·rintro E a _ ⟨M,bA,P,I,rfl,f⟩ _ ⟨N,bC,Q,J,rfl,g⟩ K e;go_simp;exact Jo.v1 (iq f.top g.top f.rk g.rk HZ.out) e.out
  exact jo
  all_goals (rintro E a;(repeat rintro _ rfl);intro K e;have gO:=(X2.b a).cell;have gP:=(X3.b a).cell;go_simp;exact e.out _ _ rfl (br _ _))
 rintro w2 a _ rfl _ ⟨Z,G,X,S,rfl,v,V⟩ _ ⟨M,bA,P,I,rfl,f⟩ _ rfl _ ⟨bB,H,Y,T,rfl,C,W⟩ _ ⟨N,bC,Q,J,rfl,g⟩ _ ⟨U,O,bD,R,L,o,D,p,l,rfl,bH⟩ -;simp only[Jo.z];replace j:=j.b a;replace i:=ak i a;clear h k hT;have bN:=j.cell
 have F:=j.frozen
 refine jn 7 fun K e=>?_
 go_simp;refine e.out _ _ ?_;clear e K bN F;have SX:=ac.t9 j U O bD R L o D p l;refine jd ?_;go_wp2;exact bq (by simp[results,results92,go_sem,SX.box.cell]) rfl ⟨_,_,_,_,_,_,_,_,_,rfl,bH,(SX.below i.out (by omega))⟩
theorem Kr{w:World}(hT:dL w):Calls prog 29 #[] w (PV w (some (eM,eM+1))):=by
 have m:Hid (eH eM (eM+1)=some (eM,eM+1)):=ie (aI (by omega) (by decide) (by decide))
 go_enter func29,ntmps29
 go_upto_region 1 with fail
 generalize d:w.alloc _=w1 at *;obtain⟨a,c⟩:=Bo.en1 d;replace hT:=hT.below c.out;clear d
 go_wp2_with fail
 refine(vj).mono ?_;rintro q u ⟨s2,A2,n2,c2,s3,A3,n3,c3,rfl,p2,l,s,t,B⟩;refine aF ?_ a hT c B;clear a hT c B;intro a hT c
 go_wp2_with fail
 refine(z8 hT p2.wr l.wr (by omega) (by omega) CE CC m.out).mono ?_;rintro q v ⟨p,n,s4,o,E4,g,i,h,f,rfl,r,B⟩;replace a:=a.b B;replace c:=ak c B;clear B;clear p2 l hT;have j:=a.cell;have e:=a.frozen;go_wp2;clear j e;have k:=ac.t9 a p n s4 o E4 g i h f
 exact bq (by simp[results,results29,go_sem,k.box.cell]) rfl ⟨_,_,_,_,_,_,_,_,_,rfl,r,(k.below c.out (by omega))⟩
theorem KD{w:World}{D M E:Int}{s:Bool}{x z:Int}{t:Bool}(hT:dL w)(h0:0<=M)(hM:LQ M)(hx:rk D s M E=x)(hz:dC x=z)(ht:gG x=t):Calls prog 119 #[VQ D s M E] w (WB w 140000 z t):=by
 delta VQ
 obtain⟨m,hm⟩:∃m,nD [x,-x]=m:=⟨_,rfl⟩;obtain⟨σ,hσ⟩:∃σ,ag m (al 1073741824)=σ:=⟨_,rfl⟩;have f:=AE ((Fj (hx▸(C6 hM).1)).symm.trans hm) hσ;rw[ht]at f;have W:=ie hx;have HZ:=ie hz;have i:=ie ht;have p:=ie hm;have HC:=ie hσ;have o:=ie f;clear hx hz ht hm hσ f
 go_enter func119,ntmps119
 go_upto_region 1 with fail
 generalize bD:(w.alloc _).alloc _=w1 at *;obtain⟨q,d,e⟩:=Bo.en2 bD;replace hT:=hT.below e.out;clear bD;have hC:=q.lt;have hD:=d.lt
 cases t
 ·obtain rfl:0=z:=by rw[<-HZ.out,o6 i.out]
  clear HZ i;refine bF [0,1,2,3,4,5,6,7] [7,8,9,10,11,12,13,14] [[],[],[1],[0,2],[3],[],[4,5],[6]] 8 0 [Jo.q4 D s M E,Jo.q4 D s M E,Jo.Fact.num (-x),Jo.Fact.nl 2 [x,-x],Jo.Fact.num m,Jo.Fact.num (al 1073741824),Jo.qi σ,Jo.qb true] ?_ ?_
  ·iterate 2 (refine jm ?_ ?_;rotate_left)
   refine jm ?_ ?_
   ·rintro h c _ rfl K a;go_simp;exact Jo.n1 (yA hM (by rw[W.out])) a.out
   refine jm ?_ ?_
   ·rintro h c _ rfl _ ⟨A,g,H,r,rfl,j⟩ K a;go_simp;exact a.out _ _ ⟨_,2,rfl,Nl.lit2 rfl hM j.top W.out j.rk⟩ (af _ _)
   refine jm ?_ ?_
   ·rintro h c _ ⟨fP,gS,rfl,L⟩ K a;go_simp;exact Jo.n1 (rg L p.out) a.out
   refine jm ?_ ?_
   ·rintro h c K a;go_simp;exact Jo.n1 (Cb _ (by decide) (by decide) rfl) a.out
   refine jm ?_ ?_
   ·rintro h c _ ⟨C,S,I,u,rfl,k⟩ _ ⟨F,T,J,y,rfl,l⟩ K a;go_simp;refine(kq (z:=σ) k.top l.top (by rw[k.rk,l.rk];exact HC.out)).mono ?_;rintro ee wk ⟨rfl,B⟩;exact a.out _ _ rfl B
   refine jm ?_ ?_
   ·rintro h c _ rfl K a;have f:=o.out;go_simp
    exact a.out _ _ (by first | rfl | (show Value.bool _=Value.bool _;rw[f];rfl) | simp_all) (br _ _)
   exact jo
   all_goals (rintro h c;(repeat rintro _ rfl);intro K a;have U:=(q.b c).cell;go_simp;exact a.out _ _ rfl (br _ _))
  rintro w2 c _ rfl _ rfl _ ⟨A,g,H,r,rfl,_⟩ _ ⟨_,_,rfl,_⟩ _ ⟨C,S,I,u,rfl,_⟩ _ ⟨F,T,J,y,rfl,_⟩ _ rfl _ rfl -;simp only[Jo.z];replace q:=q.b c;replace d:=d.b c;replace hT:=hT.b c;replace e:=ak e c;refine jd ?_;clear HC o p;clear hT;have V:=d.cell;have n:=d.frozen
  go_wp2;clear V n;have X:=ac.t2 d false none 0 0;exact bq (v:= .tuple #[.agg #[.bool false,.slice none 0 0],.bool false]) (by simp[results,results119,go_sem,X.box.cell]) rfl ⟨_,_,_,_,rfl,⟨Nm.zero,rfl⟩,Nat.zero_le _,(X.below e.out (by omega))⟩
 ·obtain⟨N,G,hN,hG,nf,hv,fH,g1,g2⟩:=Ey hM W.out i.out;obtain⟨bb,hb⟩:∃b,mt D s M E=b:=⟨_,rfl⟩;obtain⟨P,hP⟩:∃P,(Ii (mk N G) 192).1=P:=⟨_,rfl⟩;obtain⟨Q,hQ⟩:∃P,(Ii (mk N G) 192).2=P:=⟨_,rfl⟩;have O:=AF nf hv fH g1 g2 i.out hP hQ;rw[HZ.out]at O;have gB:=ie O;have gO:=ie hP;have gP:=ie hQ;have Z:=ie hb
  have bB:=ie hN;have bA:=ie hG;clear O hP hQ hb hN hG nf hv fH g1 g2 HZ i;refine bF [0,1,2,3,4,5,6,7] [7,8,9,10,11,12,13,14] [[],[],[1],[0,2],[3],[],[4,5],[6]] 8 0 [Jo.q4 D s M E,Jo.q4 D s M E,Jo.Fact.num (-x),Jo.Fact.nl 2 [x,-x],Jo.Fact.num m,Jo.Fact.num (al 1073741824),Jo.qi σ,Jo.qb false] ?_ ?_
  ·iterate 2 (refine jm ?_ ?_;rotate_left)
   refine jm ?_ ?_
   ·rintro h c _ rfl K a;go_simp;exact Jo.n1 (yA hM (by rw[W.out])) a.out
   refine jm ?_ ?_
   ·rintro h c _ rfl _ ⟨A,g,H,r,rfl,j⟩ K a;go_simp;exact a.out _ _ ⟨_,2,rfl,Nl.lit2 rfl hM j.top W.out j.rk⟩ (af _ _)
   refine jm ?_ ?_
   ·rintro h c _ ⟨fP,gS,rfl,L⟩ K a;go_simp;exact Jo.n1 (rg L p.out) a.out
   refine jm ?_ ?_
   ·rintro h c K a;go_simp;exact Jo.n1 (Cb _ (by decide) (by decide) rfl) a.out
   refine jm ?_ ?_
   ·rintro h c _ ⟨C,S,I,u,rfl,k⟩ _ ⟨F,T,J,y,rfl,l⟩ K a;go_simp;refine(kq (z:=σ) k.top l.top (by rw[k.rk,l.rk];exact HC.out)).mono ?_;rintro ee wk ⟨rfl,B⟩;exact a.out _ _ rfl B
   refine jm ?_ ?_
   ·rintro h c _ rfl K a;have f:=o.out;go_simp
    exact a.out _ _ (by first | rfl | (show Value.bool _=Value.bool _;rw[f];rfl) | simp_all) (br _ _)
   exact jo
   all_goals (rintro h c;(repeat rintro _ rfl);intro K a;have U:=(q.b c).cell;go_simp;exact a.out _ _ rfl (br _ _))
  rintro w2 c _ rfl _ rfl _ ⟨A,g,H,r,rfl,_⟩ _ ⟨_,_,rfl,_⟩ _ ⟨C,S,I,u,rfl,_⟩ _ ⟨F,T,J,y,rfl,_⟩ _ rfl _ rfl -;simp only[Jo.z];replace q:=q.b c;replace d:=d.b c;replace hT:=hT.b c;replace e:=ak e c;refine jd ?_;clear HC o p;have U:=q.cell
  go_wp2_with fail
  refine(Ij hT h0 hM Z.out bB.out bA.out).mono ?_;rintro ee w3 ⟨s5,A5,n5,c5,rfl,p5,k5,B⟩;clear U;refine aF ?_ d hT e B;clear d hT e B;intro d hT e
  go_upto_region 4 with fail
  have hA:=d.lt;generalize bH:w3.alloc _=w4 at *;obtain⟨X5,BW⟩:=Bo.nw bH;clear bH;refine aR ?_ d hT p5 e BW;clear d hT p5 e BW;intro d hT p5 e;clear Z bB bA W;have hB:=X5.cell
  go_wp2_with fail
  refine(Jt hT p5.wr (by omega) (by decide) (by decide) gO.out gP.out).mono ?_;rintro ee w5 ⟨s6,A6,n6,c6,rfl,p6,k6,B⟩;clear hB;refine aF ?_ d hT e B;clear d hT e B;intro d hT e;clear p5
  go_wp2_with fail
  refine(Hi hT p6.wr (by omega) gB.out).mono ?_;rintro ee w6 ⟨g,Y,bN,bC,rfl,R,hE,B⟩;replace d:=d.b B;replace e:=ak e B;clear B;clear p6 hT;have V:=d.cell;have n:=d.frozen;go_wp2;clear V n;have X:=ac.t2 d g Y bN bC;replace R:=R.s X;exact bq (v:= .tuple #[.agg #[.bool g,.slice Y bN bC],.bool true]) (by simp[results,results119,go_sem,X.box.cell]) rfl ⟨_,_,_,_,rfl,R,by omega,(X.below e.out (by omega))⟩
def Jo.TFact.wn (x:Int)(K:Nat):Jo.TFact #[.bool false,.slice none 0 0] 43:=⟨fun v w=>∃s1 A1 n1 c1,v= .agg #[.bool s1,.slice A1 n1 c1]/\Wn w s1 A1 n1 c1 x/\n1<=K,fun v w w' h b=>by
 obtain⟨s1,A1,n1,c1,e,p,k⟩:=h
 exact⟨s1,A1,n1,c1,e,p.below b,k⟩,fun v w w' g cs h S=>by
 obtain⟨s1,A1,n1,c1,e,p,k⟩:=h;exact⟨s1,A1,n1,c1,e,p.stn S (by simp[no32]),k⟩⟩
end Go.Proofs.YteigedaefgmojaaGreatDoor
namespace Go.Proofs.YteigedaefgmojaaGreatDoor
open Go.Proofs.Tryz
open Go Go.RowKit
set_option linter.unusedVariables false
theorem kT:(iP:Rat)<=2*qt*SR/\2*qt*SR<=(iO:Rat):=by decide +kernel
def qI (x:Int):Int:=(2*x+iP) / (2*iP)
def rI (x:Int):Int:=if qI x < 0 then x-qI x*iP else x-qI x*iO
def tI (x y:Int):Int:=if qI x < 0 then y-qI x*iO else y-qI x*iP
end Go.Proofs.YteigedaefgmojaaGreatDoor
namespace Go.Proofs.YteigedaefgmojaaGreatDoor
open Go.Proofs.Tryz
open Go.RowKit
set_option linter.unusedVariables false
set_option linter.unusedSimpArgs false
set_option maxRecDepth 100000
def Li (cos:Bool)(g:Int):Int:=if cos then g+iP/2 else g
theorem ac.mk6{w:World}{g:Nat}{T:TypeId}{a0 a1 a2 a3 a4 a5:Value}(X:Bo w g #[a0,a1,a2,a3,a4,a5] T)(v0 v1 v2 v3 v4 v5:Value):
  ac w ((((((w.setCell ⟨g,0,none⟩ v0).setCell ⟨g,1,none⟩ v1).setCell ⟨g,2,none⟩ v2).setCell ⟨g,3,none⟩ v3).setCell ⟨g,4,none⟩ v4).setCell ⟨g,5,none⟩ v5) g #[a0,a1,a2,a3,a4,a5] #[v0,v1,v2,v3,v4,v5] T:=by
 have b:ac w (w.setCell ⟨g,0,none⟩ v0) g #[a0,a1,a2,a3,a4,a5] #[v0,a1,a2,a3,a4,a5] T:=ac.at4 X 0 v0
 have a:=b
 have c:ac (w.setCell ⟨g,0,none⟩ v0) ((w.setCell ⟨g,0,none⟩ v0).setCell ⟨g,1,none⟩ v1) g #[v0,a1,a2,a3,a4,a5] #[v0,v1,a2,a3,a4,a5] T:=ac.at4 a.box 1 v1
 have s1:=a.trans c
 have d:ac ((w.setCell ⟨g,0,none⟩ v0).setCell ⟨g,1,none⟩ v1) (((w.setCell ⟨g,0,none⟩ v0).setCell ⟨g,1,none⟩ v1).setCell ⟨g,2,none⟩ v2) g #[v0,v1,a2,a3,a4,a5] #[v0,v1,v2,a3,a4,a5] T:=ac.at4 s1.box 2 v2
 have s2:=s1.trans d
 have e:ac (((w.setCell ⟨g,0,none⟩ v0).setCell ⟨g,1,none⟩ v1).setCell ⟨g,2,none⟩ v2) ((((w.setCell ⟨g,0,none⟩ v0).setCell ⟨g,1,none⟩ v1).setCell ⟨g,2,none⟩ v2).setCell ⟨g,3,none⟩ v3) g #[v0,v1,v2,a3,a4,a5] #[v0,v1,v2,v3,a4,a5] T:=ac.at4 s2.box 3 v3
 have s3:=s2.trans e
 have f:ac ((((w.setCell ⟨g,0,none⟩ v0).setCell ⟨g,1,none⟩ v1).setCell ⟨g,2,none⟩ v2).setCell ⟨g,3,none⟩ v3) (((((w.setCell ⟨g,0,none⟩ v0).setCell ⟨g,1,none⟩ v1).setCell ⟨g,2,none⟩ v2).setCell ⟨g,3,none⟩ v3).setCell ⟨g,4,none⟩ v4) g #[v0,v1,v2,v3,a4,a5] #[v0,v1,v2,v3,v4,a5] T:=ac.at4 s3.box 4 v4
 have s4:=s3.trans f
 have h:ac (((((w.setCell ⟨g,0,none⟩ v0).setCell ⟨g,1,none⟩ v1).setCell ⟨g,2,none⟩ v2).setCell ⟨g,3,none⟩ v3).setCell ⟨g,4,none⟩ v4) ((((((w.setCell ⟨g,0,none⟩ v0).setCell ⟨g,1,none⟩ v1).setCell ⟨g,2,none⟩ v2).setCell ⟨g,3,none⟩ v3).setCell ⟨g,4,none⟩ v4).setCell ⟨g,5,none⟩ v5) g #[v0,v1,v2,v3,v4,a5] #[v0,v1,v2,v3,v4,v5] T:=ac.at4 s4.box 5 v5
 have s5:=s4.trans h;exact s5
theorem ac.mk10{w:World}{g:Nat}{T:TypeId}{a0 a1 a2 a3 a4 a5 a6 a7 a8 a9:Value}(X:Bo w g #[a0,a1,a2,a3,a4,a5,a6,a7,a8,a9] T)(v0 v1 v2 v3 v4 v5 v6 v7 v8 v9:Value):
  ac w ((((((((((w.setCell ⟨g,0,none⟩ v0).setCell ⟨g,1,none⟩ v1).setCell ⟨g,2,none⟩ v2).setCell ⟨g,3,none⟩ v3).setCell ⟨g,4,none⟩ v4).setCell ⟨g,5,none⟩ v5).setCell ⟨g,6,none⟩ v6).setCell ⟨g,7,none⟩ v7).setCell ⟨g,8,none⟩ v8).setCell ⟨g,9,none⟩ v9) g #[a0,a1,a2,a3,a4,a5,a6,a7,a8,a9] #[v0,v1,v2,v3,v4,v5,v6,v7,v8,v9] T:=by
 have c:ac w (w.setCell ⟨g,0,none⟩ v0) g #[a0,a1,a2,a3,a4,a5,a6,a7,a8,a9] #[v0,a1,a2,a3,a4,a5,a6,a7,a8,a9] T:=ac.at4 X 0 v0
 have a:=c
 have d:ac (w.setCell ⟨g,0,none⟩ v0) ((w.setCell ⟨g,0,none⟩ v0).setCell ⟨g,1,none⟩ v1) g #[v0,a1,a2,a3,a4,a5,a6,a7,a8,a9] #[v0,v1,a2,a3,a4,a5,a6,a7,a8,a9] T:=ac.at4 a.box 1 v1
 have s1:=a.trans d
 have e:ac ((w.setCell ⟨g,0,none⟩ v0).setCell ⟨g,1,none⟩ v1) (((w.setCell ⟨g,0,none⟩ v0).setCell ⟨g,1,none⟩ v1).setCell ⟨g,2,none⟩ v2) g #[v0,v1,a2,a3,a4,a5,a6,a7,a8,a9] #[v0,v1,v2,a3,a4,a5,a6,a7,a8,a9] T:=ac.at4 s1.box 2 v2
 have s2:=s1.trans e
 have f:ac (((w.setCell ⟨g,0,none⟩ v0).setCell ⟨g,1,none⟩ v1).setCell ⟨g,2,none⟩ v2) ((((w.setCell ⟨g,0,none⟩ v0).setCell ⟨g,1,none⟩ v1).setCell ⟨g,2,none⟩ v2).setCell ⟨g,3,none⟩ v3) g #[v0,v1,v2,a3,a4,a5,a6,a7,a8,a9] #[v0,v1,v2,v3,a4,a5,a6,a7,a8,a9] T:=ac.at4 s2.box 3 v3
 have s3:=s2.trans f
 have h:ac ((((w.setCell ⟨g,0,none⟩ v0).setCell ⟨g,1,none⟩ v1).setCell ⟨g,2,none⟩ v2).setCell ⟨g,3,none⟩ v3) (((((w.setCell ⟨g,0,none⟩ v0).setCell ⟨g,1,none⟩ v1).setCell ⟨g,2,none⟩ v2).setCell ⟨g,3,none⟩ v3).setCell ⟨g,4,none⟩ v4) g #[v0,v1,v2,v3,a4,a5,a6,a7,a8,a9] #[v0,v1,v2,v3,v4,a5,a6,a7,a8,a9] T:=ac.at4 s3.box 4 v4
 have s4:=s3.trans h
 have i:ac (((((w.setCell ⟨g,0,none⟩ v0).setCell ⟨g,1,none⟩ v1).setCell ⟨g,2,none⟩ v2).setCell ⟨g,3,none⟩ v3).setCell ⟨g,4,none⟩ v4) ((((((w.setCell ⟨g,0,none⟩ v0).setCell ⟨g,1,none⟩ v1).setCell ⟨g,2,none⟩ v2).setCell ⟨g,3,none⟩ v3).setCell ⟨g,4,none⟩ v4).setCell ⟨g,5,none⟩ v5) g #[v0,v1,v2,v3,v4,a5,a6,a7,a8,a9] #[v0,v1,v2,v3,v4,v5,a6,a7,a8,a9] T:=ac.at4 s4.box 5 v5
 have s5:=s4.trans i
 have j:ac ((((((w.setCell ⟨g,0,none⟩ v0).setCell ⟨g,1,none⟩ v1).setCell ⟨g,2,none⟩ v2).setCell ⟨g,3,none⟩ v3).setCell ⟨g,4,none⟩ v4).setCell ⟨g,5,none⟩ v5) (((((((w.setCell ⟨g,0,none⟩ v0).setCell ⟨g,1,none⟩ v1).setCell ⟨g,2,none⟩ v2).setCell ⟨g,3,none⟩ v3).setCell ⟨g,4,none⟩ v4).setCell ⟨g,5,none⟩ v5).setCell ⟨g,6,none⟩ v6) g #[v0,v1,v2,v3,v4,v5,a6,a7,a8,a9] #[v0,v1,v2,v3,v4,v5,v6,a7,a8,a9] T:=ac.at4 s5.box 6 v6
 have s6:=s5.trans j
 have k:ac (((((((w.setCell ⟨g,0,none⟩ v0).setCell ⟨g,1,none⟩ v1).setCell ⟨g,2,none⟩ v2).setCell ⟨g,3,none⟩ v3).setCell ⟨g,4,none⟩ v4).setCell ⟨g,5,none⟩ v5).setCell ⟨g,6,none⟩ v6) ((((((((w.setCell ⟨g,0,none⟩ v0).setCell ⟨g,1,none⟩ v1).setCell ⟨g,2,none⟩ v2).setCell ⟨g,3,none⟩ v3).setCell ⟨g,4,none⟩ v4).setCell ⟨g,5,none⟩ v5).setCell ⟨g,6,none⟩ v6).setCell ⟨g,7,none⟩ v7) g #[v0,v1,v2,v3,v4,v5,v6,a7,a8,a9] #[v0,v1,v2,v3,v4,v5,v6,v7,a8,a9] T:=ac.at4 s6.box 7 v7
 have s7:=s6.trans k
 have l:ac ((((((((w.setCell ⟨g,0,none⟩ v0).setCell ⟨g,1,none⟩ v1).setCell ⟨g,2,none⟩ v2).setCell ⟨g,3,none⟩ v3).setCell ⟨g,4,none⟩ v4).setCell ⟨g,5,none⟩ v5).setCell ⟨g,6,none⟩ v6).setCell ⟨g,7,none⟩ v7) (((((((((w.setCell ⟨g,0,none⟩ v0).setCell ⟨g,1,none⟩ v1).setCell ⟨g,2,none⟩ v2).setCell ⟨g,3,none⟩ v3).setCell ⟨g,4,none⟩ v4).setCell ⟨g,5,none⟩ v5).setCell ⟨g,6,none⟩ v6).setCell ⟨g,7,none⟩ v7).setCell ⟨g,8,none⟩ v8) g #[v0,v1,v2,v3,v4,v5,v6,v7,a8,a9] #[v0,v1,v2,v3,v4,v5,v6,v7,v8,a9] T:=ac.at4 s7.box 8 v8
 have b:=s7.trans l
 have m:ac (((((((((w.setCell ⟨g,0,none⟩ v0).setCell ⟨g,1,none⟩ v1).setCell ⟨g,2,none⟩ v2).setCell ⟨g,3,none⟩ v3).setCell ⟨g,4,none⟩ v4).setCell ⟨g,5,none⟩ v5).setCell ⟨g,6,none⟩ v6).setCell ⟨g,7,none⟩ v7).setCell ⟨g,8,none⟩ v8) ((((((((((w.setCell ⟨g,0,none⟩ v0).setCell ⟨g,1,none⟩ v1).setCell ⟨g,2,none⟩ v2).setCell ⟨g,3,none⟩ v3).setCell ⟨g,4,none⟩ v4).setCell ⟨g,5,none⟩ v5).setCell ⟨g,6,none⟩ v6).setCell ⟨g,7,none⟩ v7).setCell ⟨g,8,none⟩ v8).setCell ⟨g,9,none⟩ v9) g #[v0,v1,v2,v3,v4,v5,v6,v7,v8,a9] #[v0,v1,v2,v3,v4,v5,v6,v7,v8,v9] T:=ac.at4 b.box 9 v9
 have s9:=b.trans m;exact s9
theorem ac.of6{w w1:World}{g:Nat}{T:TypeId}{a0 a1 a2 a3 a4 a5 v0 v1 v2 v3 v4 v5:Value}(X:Bo w g #[a0,a1,a2,a3,a4,a5] T)(h:(((((w.setCell ⟨g,0,none⟩ v0).setCell ⟨g,1,none⟩ v1).setCell ⟨g,2,none⟩ v2).setCell ⟨g,3,none⟩ v3).setCell ⟨g,4,none⟩ v4).setCell ⟨g,5,none⟩ v5=w1):ac w w1 g #[a0,a1,a2,a3,a4,a5] #[v0,v1,v2,v3,v4,v5] T:=h▸ac.mk6 X v0 v1 v2 v3 v4 v5
theorem ac.of10{w w1:World}{g:Nat}{T:TypeId}{a0 a1 a2 a3 a4 a5 a6 a7 a8 a9 v0 v1 v2 v3 v4 v5 v6 v7 v8 v9:Value}(X:Bo w g #[a0,a1,a2,a3,a4,a5,a6,a7,a8,a9] T)(h:((((((((((w.setCell ⟨g,0,none⟩ v0).setCell ⟨g,1,none⟩ v1).setCell ⟨g,2,none⟩ v2).setCell ⟨g,3,none⟩ v3).setCell ⟨g,4,none⟩ v4).setCell ⟨g,5,none⟩ v5).setCell ⟨g,6,none⟩ v6).setCell ⟨g,7,none⟩ v7).setCell ⟨g,8,none⟩ v8).setCell ⟨g,9,none⟩ v9)=w1):ac w w1 g #[a0,a1,a2,a3,a4,a5,a6,a7,a8,a9] #[v0,v1,v2,v3,v4,v5,v6,v7,v8,v9] T:=h▸ac.mk10 X v0 v1 v2 v3 v4 v5 v6 v7 v8 v9
end Go.Proofs.YteigedaefgmojaaGreatDoor
namespace Go.Proofs.YteigedaefgmojaaGreatDoor
open Go.Proofs.Tryz
open Go Go.RowKit
set_option linter.unusedVariables false
def KV (x y:Int):Int × Int:=if qI x%2=0 then (si (rI x) 40-(tI x y-rI x+200),si (rI x) 40+(tI x y-rI x+200))else (-(si (rI x) 40+(tI x y-rI x+200)),-(si (rI x) 40-(tI x y-rI x+200)))
def KL (x:Int)(z:Rat):Rat:=if qI x%2=0 then ao ((z-(qI x:Rat)*(2*qt*SR)) /SR)else -ao ((z-(qI x:Rat)*(2*qt*SR)) /SR)
def TG:List Int:=Ir (2*QH) QK TL
def E6:List Int:=fN TG (tk (QK^82) TL)
theorem Au:gX 2 E6*2^190<=(DD*QK^82).natAbs:=Nat.le_of_ble_eq_true (by decide +kernel)
theorem ED{x:Rat}(h1: -2<=x)(h2:x<=2): -1<=(ao (x+2*qt)+ao x)*2^190/\(ao (x+2*qt)+ao x)*2^190<=1:=by
 obtain⟨a,b⟩:=gI (B:=2) (x:=x) h1 h2 E6;refine gi (m:=DD*QK^82) (by decide +kernel) Au a b ?_
 have e:bO TG x=ao (x+2*qt)*((DD:Int):Rat)*((QK:Int):Rat)^82:=by
  unfold TG
  rw[th (2*QH) QK (Rat.ne_of_gt CT),DE,ft]
  have q:((2*QH:Int):Rat) / ((QK:Int):Rat)=2*qt:=by
   unfold qt
   rw[Rat.intCast_mul,Rat.div_def,Rat.div_def,Rat.mul_assoc]
   rfl
  rw[q]
 unfold E6
 rw[dH,iB,e,<-ft,Rat.intCast_mul,Rat.intCast_pow];generalize ((QK:Int):Rat)^82=k;generalize ((DD:Int):Rat)=d;generalize ao x=s;generalize ao (x+2*qt)=c
 grind
theorem iI:(157/100:Rat)<=qt/\qt<=158/100:=by decide +kernel
theorem c1:((1:Int):Rat)=1:=rfl
theorem c0:((0:Int):Rat)=0:=rfl
theorem cm:((-1:Int):Rat)= -1:=rfl
def fe:List (List Int)->Rat->Rat->Rat
 | [],_,_=>0
 | p::P,m,h=>bO p m+h*fe P m h
def jc:List (List Int)->List (List Int)->List (List Int)
 | [],Q=>Q
 | p::P,[]=>p::P
 | p::P,q::Q=>fN p q::jc P Q
def nP (c:Int):List (List Int)->List (List Int)
 | []=>[]
 | p::P=>tk c p::nP c P
def BT:List (List Int)->List (List Int)
 | []=>[]
 | p::P=>(0::p)::BT P
def GL:List Int->List (List Int)
 | []=>[]
 | a::q=>jc [[a]] (jc (BT (GL q)) ([]::GL q))
def qH:List (List Int)->List (List Int)
 | []=>[]
 | p::P=>p::nP (-1) (qH P)
def mL:List Int->List Int->List (List Int)
 | [],_=>[]
 | a::p,q=>tk a q::mL p q
def mM (B:Nat):List (List Int)->Nat
 | []=>0
 | p::P=>gX B p+B*mM B P
theorem gc:∀(P Q:List (List Int)) (m h:Rat),fe (jc P Q) m h=fe P m h+fe Q m h
 | [],Q,m,h=>by simp only[jc,fe];grind
 | p::P,[],m,h=>by simp only[jc,fe];grind
 | p::P,q::Q,m,h=>by
  simp only[jc,fe];rw[gc P Q m h,dH]
  grind
theorem iA (c:Int):∀(P:List (List Int)) (m h:Rat),fe (nP c P) m h=(c:Rat)*fe P m h
 | [],m,h=>by simp only[nP,fe];grind
 | p::P,m,h=>by
  simp only[nP,fe];rw[iA c P m h,iB]
  grind
theorem CB:∀(P:List (List Int)) (m h:Rat),fe (BT P) m h=m*fe P m h
 | [],m,h=>by simp only[BT,fe];grind
 | p::P,m,h=>by
  simp only[BT,fe,bO];rw[CB P m h,c0]
  grind
theorem lX:∀(p:List Int) (m h:Rat),fe (GL p) m h=bO p (m+h)
 | [],m,h=>by simp only[GL,fe,bO]
 | a::q,m,h=>by
  simp only[GL];rw[gc,gc,CB];simp only[fe,bO];rw[lX q m h]
  grind
theorem oH:∀(P:List (List Int)) (m h:Rat),fe (qH P) m h=fe P m (-h)
 | [],m,h=>by simp only[qH,fe]
 | p::P,m,h=>by
  simp only[qH,fe];rw[iA,oH P m h,cm]
  grind
theorem iz:∀(p q:List Int) (m h:Rat),fe (mL p q) m h=bO p h*bO q m
 | [],q,m,h=>by simp only[mL,fe,bO];grind
 | a::p,q,m,h=>by
  simp only[mL,fe,bO];rw[iz p q m h,iB]
  grind
theorem py{B:Nat}{m h:Rat}(m1: -(B:Rat)<=m)(m2:m<=(B:Rat))(h1: -(B:Rat)<=h)(h2:h<=(B:Rat)):∀P:List (List Int),-((mM B P:Nat):Rat)<=fe P m h/\fe P m h<=((mM B P:Nat):Rat)
 | []=>by simp only[mM,fe];constructor <;> grind
 | p::P=>by
  obtain⟨i1,i2⟩:=py m1 m2 h1 h2 P;obtain⟨a,b⟩:=aA h1 h2 i1 i2;obtain⟨a1,a2⟩:=gI m1 m2 p;simp only[mM,fe];rw[Rat.natCast_add,Rat.natCast_mul]
  constructor <;> grind
def E7:List (List Int):=jc (nP DD (jc (GL TL) (nP (-1) (qH (GL TL))))) (nP (-2) (mL TL (dm TL)))
theorem Av:mM 2 E7*2^200<=(DD*DD).natAbs:=Nat.le_of_ble_eq_true (by decide +kernel)
theorem nj{m h:Rat}(m1: -2<=m)(m2:m<=2)(h1: -2<=h)(h2:h<=2): -1<=(ao (m+h)-ao (m-h)-2*(ao h*bl m))*2^200/\(ao (m+h)-ao (m-h)-2*(ao h*bl m))*2^200<=1:=by
 obtain⟨a,b⟩:=py (B:=2) (m:=m) (h:=h) m1 m2 h1 h2 E7;refine gi (m:=DD*DD) (by decide +kernel) Av a b ?_
 have e2:((-2:Int):Rat)= -2:=rfl
 unfold E7
 rw[gc,iA,iA,gc,iA,oH,lX,lX,iz,<-ft,<-ft,<-ft,<-kO,Rat.intCast_mul,cm,e2,show m+ -h=m-h by grind]
 generalize ((DD:Int):Rat)=d;generalize ao h=s;generalize bl m=c;generalize ao (m+h)=u;generalize ao (m-h)=v
 grind
theorem wQ{y:Rat}(y0:0<=y)(y2:y<=2)(k:Nat):∃f:Rat,0<=f/\f<=1/\tt 1 y (k+1)= -(f*tt 1 y k):=by
 have d:(0:Rat) < ((((2*((k:Int)+1))*(2*((k:Int)+1)+1):Int)):Rat):=Rat.intCast_lt_intCast.2 (Cn k)
 have n6:(6:Int)<=(2*((k:Int)+1))*(2*((k:Int)+1)+1):=by
  have:=Int.mul_le_mul (show (2:Int)<=2*((k:Int)+1) by omega) (show (3:Int)<=2*((k:Int)+1)+1 by omega) (by decide) (by omega)
  omega
 have g:(6:Rat)<=((((2*((k:Int)+1))*(2*((k:Int)+1)+1):Int)):Rat):=Rat.intCast_le_intCast.2 n6
 obtain⟨_,s⟩:=aA (b:=2) (a:=2) (x:=y) (e:=y) (by grind) y2 (by grind) y2;have h:=ib y;simp only[tt];generalize ((((2*((k:Int)+1))*(2*((k:Int)+1)+1):Int)):Rat)=n at *
 have e:y*y/n*n=y*y:=Rat.div_mul_cancel (Rat.ne_of_gt d)
 refine⟨y*y/n,?_,?_,?_⟩
 ·exact Rat.le_of_mul_le_mul_right (c:=n) (by rw[e];grind) d
 ·exact Rat.le_of_mul_le_mul_right (c:=n) (by rw[e];grind) d
 ·rw[Rat.div_def,Rat.div_def]
  grind
theorem GP{y:Rat}(y0:0<=y)(y2:y<=2):∀j:Nat,0<=tt 1 y (2*j)/\tt 1 y (2*j)<=ss 1 y (2*j)
 | 0=>by
  simp only[tt,ss]
  constructor <;> grind
 | j+1=>by
  obtain⟨a,b⟩:=GP y0 y2 j;obtain⟨f,e,k,c⟩:=wQ y0 y2 (2*j);obtain⟨g,h,g1,d⟩:=wQ y0 y2 (2*j+1);have i:=Rat.mul_nonneg e a;have l:=Rat.mul_nonneg (a:=1-f) (b:=tt 1 y (2*j)) (by grind) a;have m:=Rat.mul_nonneg h i
  have e1:tt 1 y (2*(j+1))=g*(f*tt 1 y (2*j)):=by
   show tt 1 y (2*j+1+1)=_
   rw[d,c]
   grind
  have e2:ss 1 y (2*(j+1))=ss 1 y (2*j)+tt 1 y (2*j+1)+tt 1 y (2*(j+1)):=rfl
  rw[e2,e1,c]
  constructor <;> grind
theorem tD{y:Rat}(y0:0<=y)(y2:y<=2):0<=ao y:=by
 rw[IF];obtain⟨a,b⟩:=GP y0 y2 20;exact Rat.le_trans a b
def Df (B:Rat)(f g:Rat->Rat):Prop:=∃C:Rat,0<=C/\(∀x,-B<=x->x<=B->(-C<=f x/\f x<=C)/\(-C<=g x/\g x<=C))/\
 ∀x h,-B<=x->x<=B-> -B<=x+h->x+h<=B-> -(C*(h*h))<=f (x+h)-f x-h*g x/\f (x+h)-f x-h*g x<=C*(h*h)
theorem I1{C D h e:Rat}(hC:C<=D)(h1: -(C*(h*h))<=e)(h2:e<=C*(h*h)): -(D*(h*h))<=e/\e<=D*(h*h):=by
 have:=Rat.mul_le_mul_of_nonneg_right hC (ib h)
 constructor <;> grind
theorem Df.poly (p:List Int)(B:Nat):Df (B:Rat) (bO p) (bO (dm p)):=by
 have n1:(0:Rat)<=((gX B p:Nat):Rat):=Rat.natCast_nonneg
 have n2:(0:Rat)<=((gX B (dm p):Nat):Rat):=Rat.natCast_nonneg
 have n3:(0:Rat)<=((po B p:Nat):Rat):=Rat.natCast_nonneg
 refine⟨((gX B p:Nat):Rat)+((gX B (dm p):Nat):Rat)+((po B p:Nat):Rat),by grind,fun x x1 x2=>?_,fun x h x1 x2 y1 y2=>?_⟩
 ·obtain⟨a,b⟩:=gI x1 x2 p;obtain⟨c,d⟩:=gI x1 x2 (dm p);refine⟨⟨?_,?_⟩,?_,?_⟩ <;> grind
 ·obtain⟨a,b⟩:=wv x1 x2 y1 y2 p
  unfold rn at a b
  exact I1 (C:=((po B p:Nat):Rat)) (by grind) (by grind) (by grind)
theorem Df.scale{B:Rat}{f g:Rat->Rat}(c:Rat)(H:Df B f g):Df B (fun x=>f x*c) (fun x=>g x*c):=by
 obtain⟨C,e,b,l⟩:=H
 obtain⟨k,a,d,j⟩:∃k,-k<=c/\c<=k/\0<=k:=by
  by_cases h:0<=c
  ·exact⟨c,by grind,by grind,h⟩
  ·exact⟨-c,by grind,by grind,by grind⟩
 refine⟨C*k,Rat.mul_nonneg e j,fun x x1 x2=>?_,fun x h x1 x2 y1 y2=>?_⟩
 ·obtain⟨⟨a1,a2⟩,a3,i⟩:=b x x1 x2;exact⟨aA a1 a2 a d,aA a3 i a d⟩
 ·obtain⟨a1,a2⟩:=l x h x1 x2 y1 y2;have m:=aA a1 a2 a d
  constructor <;> grind
theorem Df.sub{B:Rat}{f g f' g':Rat->Rat}(H:Df B f g)(K:Df B f' g'):Df B (fun x=>f x-f' x) (fun x=>g x-g' x):=by
 obtain⟨C,d,b,l⟩:=H;obtain⟨D,e,a,c⟩:=K
 refine⟨C+D,by grind,fun x x1 x2=>?_,fun x h x1 x2 y1 y2=>?_⟩
 ·obtain⟨⟨a1,a2⟩,a3,i⟩:=b x x1 x2;obtain⟨⟨e1,e2⟩,e3,j⟩:=a x x1 x2;refine⟨⟨?_,?_⟩,?_,?_⟩ <;> grind
 ·obtain⟨a1,a2⟩:=l x h x1 x2 y1 y2;obtain⟨e1,e2⟩:=c x h x1 x2 y1 y2
  constructor <;> grind
theorem Df.id (B:Rat)(hB:0<=B):Df B (fun x=>x) (fun _=>1):=by
 refine⟨B+1,by grind,fun x x1 x2=>?_,fun x h x1 x2 y1 y2=>?_⟩
 ·refine⟨⟨?_,?_⟩,?_,?_⟩ <;> grind
 ·have:=Rat.mul_nonneg (show 0<=B+1 by grind) (ib h)
  constructor <;> grind
theorem Df.mul{B:Rat}{f g f' g':Rat->Rat}(hB:0<=B)(H:Df B f g)(K:Df B f' g'):Df B (fun x=>f x*f' x) (fun x=>g x*f' x+f x*g' x):=by
 obtain⟨C,m,b,l⟩:=H;obtain⟨D,o,c,t⟩:=K;have e:=Rat.mul_nonneg m o;have n:=Rat.mul_nonneg e hB
 refine⟨C*D*(3+2*B),Rat.mul_nonneg e (by grind),fun x x1 x2=>?_,fun x h x1 x2 y1 y2=>?_⟩
 ·obtain⟨⟨a1,a2⟩,a3,a⟩:=b x x1 x2;obtain⟨⟨e1,e2⟩,e3,d⟩:=c x x1 x2;have u:=aA a1 a2 e1 e2;have v:=aA a3 a e1 e2;have w:=aA a1 a2 e3 d;refine⟨⟨?_,?_⟩,?_,?_⟩ <;> grind
 ·obtain⟨⟨a1,a2⟩,a3,a⟩:=b x x1 x2;obtain⟨⟨e1,e2⟩,e3,d⟩:=c x x1 x2;obtain⟨⟨A,E⟩,_,_⟩:=c (x+h) y1 y2;obtain⟨y,z⟩:=l x h x1 x2 y1 y2;obtain⟨j,k⟩:=t x h x1 x2 y1 y2
  have r:f (x+h)*f' (x+h)-f x*f' x-h*(g x*f' x+f x*g' x)=f x*(f' (x+h)-f' x-h*g' x)+f' (x+h)*(f (x+h)-f x-h*g x)+h*h*(g x*g' x)+h*g x*(f' (x+h)-f' x-h*g' x):=by grind
  show -(C*D*(3+2*B)*(h*h))<=f (x+h)*f' (x+h)-f x*f' x-h*(g x*f' x+f x*g' x)/\f (x+h)*f' (x+h)-f x*f' x-h*(g x*f' x+f x*g' x)<=C*D*(3+2*B)*(h*h)
  rw[r];have u:=aA a1 a2 j k;have v:=aA A E y z;have w:=aA a3 a e3 d;have s:=ib h;have i:=aA (b:=2*B) (x:=h) (by grind) (by grind) a3 a;have J:=aA i.1 i.2 j k
  have G:=Rat.mul_nonneg s (show 0<=C*D-g x*g' x by grind)
  have I:=Rat.mul_nonneg s (show 0<=C*D+g x*g' x by grind)
  generalize f' (x+h)-f' x-h*g' x=E2 at *;generalize f (x+h)-f x-h*g x=p at *;generalize h*h=q at *;generalize g x*g' x=F at *;generalize h*g x=hg at *;generalize f x*E2=A1 at *;generalize f' (x+h)*p=A2 at *;generalize hg*E2=A3 at *
  constructor <;> grind
theorem Df.comp{B B':Rat}{f g F G:Rat->Rat}(hB:0<=B)(H:Df B f g)(K:Df B' F G)(hin:∀x,-B<=x->x<=B-> -B'<=f x/\f x<=B'):Df B (fun x=>F (f x)) (fun x=>g x*G (f x)):=by
 obtain⟨C,a,b,l⟩:=H;obtain⟨D,d,n,y⟩:=K;obtain⟨Q,j⟩:∃Q,Q=C*(1+2*B):=⟨_,rfl⟩
 have m:0<=Q:=by rw[j];exact Rat.mul_nonneg a (by grind)
 have I:=Rat.mul_nonneg d (Rat.mul_nonneg m m);have A:=Rat.mul_nonneg a d
 refine⟨D*(Q*Q)+C*D+D,by grind,fun x x1 x2=>?_,fun x h x1 x2 y1 y2=>?_⟩
 ·obtain⟨⟨a1,a2⟩,a3,e⟩:=b x x1 x2;obtain⟨i1,i2⟩:=hin x x1 x2;obtain⟨⟨e1,e2⟩,e3,i⟩:=n (f x) i1 i2;have R:=aA a3 e e3 i;refine⟨⟨?_,?_⟩,?_,?_⟩ <;> grind
 ·obtain⟨⟨a1,a2⟩,a3,e⟩:=b x x1 x2;obtain⟨i1,i2⟩:=hin x x1 x2;obtain⟨o,p⟩:=hin (x+h) y1 y2;obtain⟨⟨e1,e2⟩,e3,i⟩:=n (f x) i1 i2;obtain⟨r,t⟩:=l x h x1 x2 y1 y2;obtain⟨k,w⟩:∃k,f (x+h)=f x+k:=⟨f (x+h)-f x,by grind⟩
  show -((D*(Q*Q)+C*D+D)*(h*h))<=F (f (x+h))-F (f x)-h*(g x*G (f x))/\F (f (x+h))-F (f x)-h*(g x*G (f x))<=(D*(Q*Q)+C*D+D)*(h*h)
  rw[w]at o p r t|-;obtain⟨T,U⟩:=y (f x) k i1 i2 o p;have s:=ib h
  -- k is of first order
  have M:k*k<=Q*Q*(h*h):=by
   have S:(-(2*B)<=h/\h<=2*B):=⟨by grind,by grind⟩
   have L:=Rat.mul_nonneg a s
   by_cases c:0<=h
   ·have z:=aA (b:=h) (x:=h) (by grind) (by grind) a3 e
    have p2:=Rat.mul_nonneg (Rat.mul_nonneg a c) (show 0<=2*B-h by grind)
    have q: -(Q*h)<=k/\k<=Q*h:=by
     rw[j]
     constructor <;> grind
    have n1:=Rat.mul_nonneg (show 0<=Q*h-k by grind) (show 0<=Q*h+k by grind)
    grind
   ·have u:0<= -h:=by grind
    have z:=aA (b:= -h) (x:=h) (by grind) (by grind) a3 e
    have p2:=Rat.mul_nonneg (Rat.mul_nonneg a u) (show 0<=2*B+h by grind)
    have q: -(Q* -h)<=k/\k<=Q* -h:=by
     rw[j]
     constructor <;> grind
    have n1:=Rat.mul_nonneg (show 0<=Q* -h-k by grind) (show 0<=Q* -h+k by grind)
    grind
  have N:=Rat.mul_nonneg d (show 0<=Q*Q*(h*h)-k*k by grind)
  have v:F (f x+k)-F (f x)-h*(g x*G (f x))=(F (f x+k)-F (f x)-k*G (f x))+G (f x)*(f x+k-f x-h*g x):=by grind
  rw[v];have P:=aA e3 i r t;have J:=Rat.mul_nonneg d s;generalize F (f x+k)-F (f x)-k*G (f x)=E at *;generalize G (f x)*(f x+k-f x-h*g x)=W at *;generalize h*h=q at *;generalize k*k=O at *
  constructor <;> grind
theorem lV{d K:Rat}(h:∀n:Nat,d*2^n<=K):d<=0:=by
 by_cases c:d<=0
 ·exact c
 ·exfalso
  have f:0 < d:=Rat.not_le.1 c
  obtain⟨n,g⟩:∃n:Nat,K/d < (n:Rat):=by
   have a:= @Rat.le_ceil (K/d);refine⟨((K/d).ceil).natAbs+1,?_⟩
   have b:(((K/d).ceil:Int):Rat)<=((((K/d).ceil).natAbs:Int):Rat):=Rat.intCast_le_intCast.2 (by omega)
   have e:(((((K/d).ceil).natAbs+1:Nat)):Rat)=((((K/d).ceil).natAbs:Int):Rat)+1:=by
    rw[Rat.natCast_add]
    rfl
   rw[e]
   grind
  have two:∀m:Nat,(m:Rat)<=2^m:=fun m=>by
   induction m with
   | zero=>exact (by decide:((0:Nat):Rat)<=2^0)
   | succ k ih=>
    have p:(1:Rat)<=2^k:=by
     have:∀j:Nat,(1:Rat)<=2^j:=fun j=>by
      induction j with
      | zero=>exact (by decide:(1:Rat)<=2^0)
      | succ j ij=>rw [Rat.pow_succ];grind
     exact this k
    rw[Rat.natCast_add,Rat.pow_succ]
    have e1:((1:Nat):Rat)=1:=rfl
    rw[e1]
    grind
  have q:=h n;have r:=Rat.mul_le_mul_of_nonneg_right (two n) (Rat.le_of_lt f)
  have s:K < (n:Rat)*d:=by
   have m:=Rat.mul_lt_mul_of_pos_right g f;rw[Rat.div_mul_cancel (Rat.ne_of_gt f)]at m;exact m
  grind
theorem Df.grow{B M:Rat}{f g:Rat->Rat}(H:Df B f g)(hg:∀x,-B<=x->x<=B-> -M<=g x/\g x<=M){x h:Rat}(h0:0<=h)(x1: -B<=x)(x2:x+h<=B): -(M*h)<=f (x+h)-f x/\f (x+h)-f x<=M*h:=by
 obtain⟨C,m,_,l⟩:=H
 have i:∀n:Nat,∀x h:Rat,0<=h-> -B<=x->x+h<=B->(f (x+h)-f x-M*h)*2^n<=C*(h*h)/\(-(f (x+h)-f x)-M*h)*2^n<=C*(h*h):=fun n=>by
  induction n with
  | zero=>
   intro x h h0 x1 x2
   obtain⟨a,b⟩:=l x h x1 (by grind) (by grind) x2;obtain⟨c,d⟩:=hg x x1 (by grind)
   have s:=Rat.mul_nonneg h0 (show 0<=M-g x by grind)
   have t:=Rat.mul_nonneg h0 (show 0<=M+g x by grind)
   rw[Rat.pow_zero]
   constructor <;> grind
  | succ n ih=>
   intro x h h0 x1 x2
   have e:x+h/2+h/2=x+h:=by grind
   obtain⟨a1,a2⟩:=ih x (h/2) (by grind) x1 (by grind);obtain⟨j,k⟩:=ih (x+h/2) (h/2) (by grind) (by grind) (by grind);rw[e]at j k;rw[Rat.pow_succ];generalize (2:Rat)^n=p at *;generalize f (x+h/2)=o at *;generalize f (x+h)=r at *;generalize f x=q at *
   constructor <;> grind
 constructor
 ·have:=lV (fun n=>(i n x h h0 x1 x2).2)
  grind
 ·have:=lV (fun n=>(i n x h h0 x1 x2).1)
  grind
def E8:List Int:=fN TH (tk (-(QK^82)) (dm TL))
theorem Aw:gX 2 E8*2^200<=(DD*QK^82).natAbs:=Nat.le_of_ble_eq_true (by decide +kernel)
theorem Eq{x:Rat}(h1: -2<=x)(h2:x<=2): -1<=(ao (x+qt)-bl x)*2^200/\(ao (x+qt)-bl x)*2^200<=1:=by
 obtain⟨a,b⟩:=gI (B:=2) (x:=x) h1 h2 E8;refine gi (m:=DD*QK^82) (by decide +kernel) Aw a b ?_
 unfold E8
 rw[dH,iB,GQ,<-kO,Rat.intCast_neg,Rat.intCast_mul,Rat.intCast_pow];generalize ((QK:Int):Rat)^82=k;generalize ((DD:Int):Rat)=d;generalize bl x=s;generalize ao (x+qt)=c
 grind
theorem pw (n:Nat):(0:Rat) < 2^n:=Rat.pow_pos (by decide)
theorem eL{v:Rat}{n:Nat}(h: -1<=v*2^n): -(1/2^n)<=v:=by
 have e:(1/2^n:Rat)*2^n=1:=Rat.div_mul_cancel (Rat.ne_of_gt (pw n))
 exact Rat.le_of_mul_le_mul_right (c:=2^n) (by grind) (pw n)
theorem eK{v:Rat}{n:Nat}(h:v*2^n<=1):v<=1/2^n:=by
 have e:(1/2^n:Rat)*2^n=1:=Rat.div_mul_cancel (Rat.ne_of_gt (pw n))
 exact Rat.le_of_mul_le_mul_right (c:=2^n) (by grind) (pw n)
theorem pT{x:Rat}(h1: -2<=x)(h2:x<=2): -(1+1/2^240)<=ao x/\ao x<=1+1/2^240:=by
 obtain⟨_,b⟩:=Hf h1 h2;have c:=eK b;have s:=ib (ao (x+qt));refine nZ (by decide +kernel) (by grind)
theorem FV{w:Rat}(h1:0<=w)(h2:w<=2*qt): -(1/2^190)<=ao w:=by
 obtain⟨e,f⟩:=iI
 by_cases c:w<=2
 ·have:=tD h1 c
  have p:(0:Rat)<=1/2^190:=by decide +kernel
  grind
 ·have d:=Rat.not_le.1 c
  obtain⟨a,b⟩:=ED (x:=w-2*qt) (by grind) (by grind);have n:=tD (y:= -(w-2*qt)) (by grind) (by grind);rw[pV]at n
  rw[show w-2*qt+2*qt=w by grind]at a
  have:=eL a
  grind
theorem sf{m:Rat}(h1: -qt<=m)(h2:m<=qt): -(1/2^189)<=bl m:=by
 obtain⟨d,f⟩:=iI;have a:=FV (w:=m+qt) (by grind) (by grind);obtain⟨_,b⟩:=Eq (x:=m) (by grind) (by grind);have c:=eK b
 have e:(1/2^190:Rat)+1/2^200<=1/2^189:=by decide +kernel
 grind
theorem Dp{a b:Rat}(h1: -qt<=a)(h2:a<=b)(h3:b<=qt): -(1/2^186)<=ao b-ao a:=by
 obtain⟨j,l⟩:=iI;obtain⟨m,hm⟩:∃m,m=(a+b) /2:=⟨_,rfl⟩;obtain⟨h,hh⟩:∃h,h=(b-a) /2:=⟨_,rfl⟩
 have e1:m*2=a+b:=by rw[hm];exact Rat.div_mul_cancel (by decide)
 have e2:h*2=b-a:=by rw[hh];exact Rat.div_mul_cancel (by decide)
 obtain⟨d,_⟩:=nj (m:=m) (h:=h) (by grind) (by grind) (by grind) (by grind)
 have f:=eL d
 rw[show m+h=b by grind,show m-h=a by grind]at f
 have c:=sf (m:=m) (by grind) (by grind);have n:=tD (y:=h) (by grind) (by grind);obtain⟨_,n2⟩:=pT (x:=h) (by grind) (by grind);have k:=Rat.mul_nonneg n (b:=bl m+1/2^189) (by grind)
 have g:(0:Rat)<=1/2^189:=by decide +kernel
 have i:=Rat.mul_le_mul_of_nonneg_right n2 g
 have e:2*((1+1/2^240)*(1/2^189):Rat)+1/2^200<=1/2^186:=by decide +kernel
 generalize (1/2^189:Rat)=u at *;generalize (1/2^240:Rat)=v at *;generalize (1/2^200:Rat)=t at *;generalize (1/2^186:Rat)=r at *
 grind
abbrev LL:Int:=556007400341776889366619349950871382564337615372407628299115012691690451646897885188557125
def an:Nat->Nat->List Int
 | 0,_=>[]
 | f+1,j=>0::(if j%2=0 then LL/ (2*j+1)else -(LL/ (2*j+1)))::an f (j+1)
def AL:List Int:=an 111 0
def jq (u:Rat):Rat:=bO AL u*(1/ (LL:Int))
def zJ (u:Rat):Rat:=bO (dm AL) u*(1/ (LL:Int))
def GT:Nat->Int->List Int
 | 0,c=>[c]
 | n+1,c=>0::GT n c
theorem pC (c:Int)(u:Rat):∀n,bO (GT n c) u=u^n*(c:Rat)
 | 0=>by simp only[GT,bO];rw[Rat.pow_zero];grind
 | n+1=>by
  simp only[GT,bO];rw[pC c u n,Rat.pow_succ,Rat.intCast_zero]
  grind
theorem G5:fN (mN [1,0,1] (dm AL)) [-LL]=fN (GT 222 LL) (GT 223 0):=by decide +kernel
theorem sS:(0:Rat) < ((LL:Int):Rat):=by
 have h:(0:Int) < LL:=by decide
 exact Rat.intCast_lt_intCast.2 h
theorem qv (u:Rat):(1+u*u)*zJ u=1+u^222:=by
 have h:=congrArg (fun p=>bO p u) G5
 have a:bO (fN (mN [1,0,1] (dm AL)) [-LL]) u=bO (fN (GT 222 LL) (GT 223 0)) u:=h
 rw[dH,jB,dH,pC,pC,Rat.intCast_zero,Rat.mul_zero,Rat.add_zero]at a
 have e1:bO [1,0,1] u=1+u*u:=by
  simp only[bO]
  rw[Rat.intCast_zero,show ((1:Int):Rat)=1 from rfl]
  grind
 have e2:bO [-LL] u= -((LL:Int):Rat):=by
  simp only[bO];rw[Rat.intCast_neg]
  grind
 rw[e1,e2]at a
 have e3:(1/ ((LL:Int):Rat))*((LL:Int):Rat)=1:=Rat.div_mul_cancel (Rat.ne_of_gt sS)
 have p:=sS
 unfold zJ
 generalize bO (dm AL) u=d at *;generalize ((LL:Int):Rat)=l at *;generalize (1/l:Rat)=i at *;generalize u^222=q at *
 have k:((1+u*u)*(d*i)-(1+q))*l=0:=by grind
 rcases Rat.mul_eq_zero.1 k with g | g
 ·grind
 ·exact absurd g (Rat.ne_of_gt p)
theorem CK{v:Rat}(h0:0<=v)(h1:v<=1/4):∀n:Nat,0<=v^n/\v^n<=(1/4)^n
 | 0=>by rw[Rat.pow_zero,Rat.pow_zero];constructor <;> grind
 | n+1=>by
  obtain⟨a,b⟩:=CK h0 h1 n;rw[Rat.pow_succ,Rat.pow_succ];have d:=Rat.mul_nonneg a h0;have e:=Rat.mul_le_mul_of_nonneg_right b h0
  have c:(0:Rat)<=(1/4)^n:=Rat.le_trans a b
  have f:=Rat.mul_nonneg c (show 0<=1/4-v by grind)
  constructor <;> grind
theorem wu (u:Rat):∀n:Nat,u^(2*n)=(u*u)^n
 | 0=>by rw[Nat.mul_zero,Rat.pow_zero,Rat.pow_zero]
 | n+1=>by
  rw[show 2*(n+1)=2*n+1+1 by omega,Rat.pow_succ,Rat.pow_succ,Rat.pow_succ,wu u n]
  grind
theorem CW:((1:Rat) /4)^111<=1/2^222:=by decide +kernel
theorem wt{u:Rat}(h1: -(1/2)<=u)(h2:u<=1/2):0<=u^222/\u^222<=1/2^222:=by
 have s:0<=u*u:=ib u
 have t:u*u<=1/4:=by
  have:=Rat.mul_nonneg (show 0<=1/2-u by grind) (show 0<=1/2+u by grind)
  grind
 have e:u^222=(u*u)^111:=wu u 111
 rw[e];obtain⟨a,b⟩:=CK s t 111;exact⟨a,Rat.le_trans b CW⟩
theorem Df.le{B B':Rat}{f g:Rat->Rat}(H:Df B f g)(h:B'<=B):Df B' f g:=by
 obtain⟨C,a,b,l⟩:=H
 exact⟨C,a,fun x x1 x2=>b x (by grind) (by grind),fun x y x1 x2 y1 y2=>l x y (by grind) (by grind) (by grind) (by grind)⟩
theorem qr:Df (1/2) jq zJ:=by
 have h:=(Df.poly AL 1).scale (1/ (LL:Int))
 have e:((1:Nat):Rat)=1:=rfl
 rw[e]at h;exact h.le (by grind)
theorem jr:jq 0=0:=by
 have e:bO AL 0=0:=by
  show bO (an 111 0) 0=0
  unfold an
  simp only[bO];rw[Rat.intCast_zero]
  grind
 unfold jq
 rw[e]
 grind
theorem zK{u:Rat}(h1: -(1/2)<=u)(h2:u<=1/2):0<=zJ u/\zJ u<=1+1/2^222:=by
 have e:=qv u;obtain⟨a,b⟩:=wt h1 h2;have s:=ib u;generalize u^222=q at *;generalize (1/2^222:Rat)=t at *;generalize zJ u=d at *
 have f:0<=d:=by
  by_cases c:0<=d
  ·exact c
  ·exfalso
   have:=Rat.mul_nonneg s (show 0<= -d by grind)
   grind
 have m:=Rat.mul_nonneg s f
 constructor <;> grind
theorem zP{u:Rat}(h1: -(1/2)<=u)(h2:u<=1/2): -(2/3)<=jq u/\jq u<=2/3:=by
 have g:=fun x (x1: -(1/2:Rat)<=x) (x2:x<=1/2)=>(show -(4/3)<=zJ x/\zJ x<=4/3 by
  obtain⟨a,b⟩:=zK x1 x2
  have e:(1/2^222:Rat)<=1/3:=by decide +kernel
  generalize (1/2^222:Rat)=t at *
  constructor <;> grind)
 have z:=jr
 by_cases c:0<=u
 ·have k:=qr.grow g (x:=0) (h:=u) c (by grind) (by grind)
  rw[show (0:Rat)+u=u by grind,z]at k
  constructor <;> grind
 ·have k:=qr.grow g (x:=u) (h:= -u) (by grind) (by grind) (by grind)
  rw[show u+ -u=0 by grind,z]at k
  constructor <;> grind
def Ek (x:Rat):Rat:=bO (dm (dm TL)) x*(1/ (DD:Int))
theorem Ax:gX 2 (fN (dm (dm TL)) TL)*2^280<=DD.natAbs:=Nat.le_of_ble_eq_true (by decide +kernel)
theorem ni:Df 2 ao bl:=by
 have h:=(Df.poly TL 2).scale (1/ (DD:Int))
 have e:((2:Nat):Rat)=2:=rfl
 rw[e]at h
 have a:(fun x=>bO TL x*(1/ ((DD:Int):Rat)))=ao:=by
  funext x
  unfold ao
  grind
 have b:(fun x=>bO (dm TL) x*(1/ ((DD:Int):Rat)))=bl:=by
  funext x
  unfold bl
  grind
 rw[a,b]at h;exact h
theorem se:Df 2 bl Ek:=by
 have h:=(Df.poly (dm TL) 2).scale (1/ (DD:Int))
 have e:((2:Nat):Rat)=2:=rfl
 rw[e]at h
 have a:(fun x=>bO (dm TL) x*(1/ ((DD:Int):Rat)))=bl:=by
  funext x
  unfold bl
  grind
 rw[a]at h;exact h
theorem vi{x:Rat}(h1: -2<=x)(h2:x<=2): -1<=(Ek x+ao x)*2^280/\(Ek x+ao x)*2^280<=1:=by
 have e2:((2:Nat):Rat)=2:=rfl
 obtain⟨a,b⟩:=gI (B:=2) (x:=x) (by rw[e2];exact h1) (by rw[e2];exact h2) (fN (dm (dm TL)) TL);refine gi (n:=gX 2 (fN (dm (dm TL)) TL)) (m:=DD) (by decide) Ax a b ?_;rw[dH];have s:=ft x
 have c:(1/ ((DD:Int):Rat))*((DD:Int):Rat)=1:=Rat.div_mul_cancel (Rat.ne_of_gt mn)
 unfold Ek
 generalize (1/ ((DD:Int):Rat))=i at *;generalize ((DD:Int):Rat)=d at *
 grind
def fz (u:Rat):Rat:=ao (jq u)-u*bl (jq u)
def gz (u:Rat):Rat:=zJ u*bl (jq u)-(1*bl (jq u)+u*(zJ u*Ek (jq u)))
theorem vg{x:Rat}(x1: -(1/2)<=x)(x2:x<=1/2): -2<=jq x/\jq x<=2:=by
 obtain⟨a,b⟩:=zP x1 x2
 constructor <;> grind
theorem Gt:Df (1/2) fz gz:=by
 have s:=Df.comp (B:=1/2) (B':=2) (by grind) qr ni (fun x x1 x2=>vg x1 x2)
 have c:=Df.comp (B:=1/2) (B':=2) (by grind) qr se (fun x x1 x2=>vg x1 x2)
 have m:=Df.mul (B:=1/2) (by grind) (Df.id (1/2) (by grind)) c;exact s.sub m
theorem lL{x:Rat}(h1: -2<=x)(h2:x<=2): -(1+1/2^200)<=bl x/\bl x<=1+1/2^200:=by
 obtain⟨a,b⟩:=vk h1 h2;have c:=eK b;have s:=ib (ao x);refine nZ (by decide +kernel) (by grind)
theorem Az:(1/2^222:Rat)*2+1/2^280*2+(1/2^222:Rat)<=1/2^220/\(1/2^200:Rat)<=1/3/\(1/2^240:Rat)<=1/3/\(0:Rat)<=1/2^220/\(0:Rat)<=1/2^280/\(0:Rat)<=1/2^222/\(1/2^222:Rat)<=1/4:=by decide +kernel
theorem Jz{u M:Rat}(u1: -(1/2)<=u)(u2:u<=1/2)(f1: -M<=fz u)(f2:fz u<=M): -(M/2+1/2^220)<=gz u/\gz u<=M/2+1/2^220:=by
 have sl:=qv u;obtain⟨N,t⟩:=wt u1 u2;obtain⟨a1,a2⟩:=vg u1 u2;obtain⟨n,o⟩:=vi a1 a2
 have f:=eL n
 have h:=eK o
 obtain⟨y,B⟩:=lL a1 a2;obtain⟨s1,s2⟩:=pT a1 a2;obtain⟨e1,e2,e3,D,E,F,H⟩:=Az
 unfold fz at f1 f2
 unfold gz
 generalize jq u=A at *;generalize zJ u=p at *;generalize u^222=q at *;obtain⟨τ,l⟩:∃τ,τ=Ek A+ao A:=⟨_,rfl⟩
 have k:Ek A=τ-ao A:=by grind
 rw[<-l]at f h;rw[k];generalize ao A=s at *;generalize bl A=c at *;clear n o l k;generalize (1/2^222:Rat)=d at *;generalize (1/2^280:Rat)=e at *;generalize (1/2^220:Rat)=g at *;generalize (1/2^200:Rat)=v at *;generalize (1/2^240:Rat)=z at *
 -- (1+u u) times the slope
 obtain⟨G,j⟩:∃G,G=p*c-(1*c+u*(p*(τ-s))):=⟨_,rfl⟩;rw[<-j]
 have i:(1+u*u)*G=u*(s-u*c)+(q*(c+u*s)-u*(1+q)*τ):=by
  rw[j]
  have:(1+u*u)*(p*c-(1*c+u*(p*(τ-s))))=((1+u*u)*p)*c-(1+u*u)*c-u*((1+u*u)*p)*(τ-s):=by grind
  rw[this,sl]
  grind
 have w:0<=M:=by grind
 have I:=aA u1 u2 f1 f2
 have cs: -2<=c+u*s/\c+u*s<=2:=by
  have:=aA u1 u2 s1 s2
  constructor <;> grind
 have J:=aA (b:=d) (x:=q) (by grind) t cs.1 cs.2;have m:=aA (b:=1/2) (x:=u) (a:=5/4) (e:=1+q) u1 u2 (by grind) (by grind);have L:=aA m.1 m.2 f h
 have C: -(M/2+g)<=(1+u*u)*G/\(1+u*u)*G<=M/2+g:=by
  rw[i];generalize u*(s-u*c)=W1 at *;generalize q*(c+u*s)=W2 at *;generalize u*(1+q)*τ=W3 at *
  constructor <;> grind
 have r:=ib u
 constructor
 ·by_cases c0:0<=G
  ·grind
  ·have:=Rat.mul_nonneg r (show 0<= -G by grind)
   grind
 ·by_cases c0:0<=G
  ·have:=Rat.mul_nonneg r c0
   grind
  ·grind
theorem kA:ao 0=0:=by
 have h:=pV 0
 rw[show (-0:Rat)=0 from by decide]at h
 grind
theorem EC:fz 0=0:=by
 unfold fz
 rw[jr,kA]
 grind
theorem rE{u:Rat}(u1: -(1/2)<=u)(u2:u<=1/2): -(1/2^220)<=ao (jq u)-u*bl (jq u)/\ao (jq u)-u*bl (jq u)<=1/2^220:=by
 obtain⟨e1,e2,e3,s,C,D,E⟩:=Az
 have d:∀n:Nat,∀x:Rat,-(1/2)<=x->x<=1/2->(fz x-1/2^220)*2^n<=2/\(-fz x-1/2^220)*2^n<=2:=fun n=>by
  induction n with
  | zero=>
   intro x i x2
   obtain⟨a1,a2⟩:=vg i x2;obtain⟨o,q⟩:=lL a1 a2;obtain⟨s1,s2⟩:=pT a1 a2;have m:=aA i x2 o q;generalize (1/2^220:Rat)=g at *;rw[Rat.pow_zero]
   unfold fz
   generalize (1/2^200:Rat)=v at *;generalize (1/2^240:Rat)=z at *
   constructor <;> grind
  | succ n ih=>
   intro x i x2
   -- all are bounded by M
   obtain⟨M,l⟩:∃M:Rat,(M-1/2^220)*2^n=2:=by
    refine⟨2/2^n+1/2^220,?_⟩
    have:=Rat.div_mul_cancel (a:=2) (Rat.ne_of_gt (pw n))
    generalize (2:Rat) /2^n=t at *
    grind
   have e:=pw n
   have j:∀y:Rat,-(1/2)<=y->y<=1/2-> -M<=fz y/\fz y<=M:=fun y y1 y2=>by
    obtain⟨w,A⟩:=ih y y1 y2
    have h1:fz y-1/2^220<=M-1/2^220:=Rat.le_of_mul_le_mul_right (c:=2^n) (by rw[l];exact w) e
    have h2: -fz y-1/2^220<=M-1/2^220:=Rat.le_of_mul_le_mul_right (c:=2^n) (by rw[l];exact A) e
    generalize (1/2^220:Rat)=g at *
    constructor <;> grind
   have gb:∀y:Rat,-(1/2)<=y->y<=1/2-> -(M/2+1/2^220)<=gz y/\gz y<=M/2+1/2^220:=fun y y1 y2=>Jz y1 y2 (j y y1 y2).1 (j y y1 y2).2
   have z:=EC
   have B:0<=M:=by
    have:=j x i x2
    grind
   have r: -(M/4+1/2^220/2)<=fz x/\fz x<=M/4+1/2^220/2:=by
    by_cases c:0<=x
    ·have k:=Gt.grow gb (x:=0) (h:=x) c (by grind) (by grind)
     rw[show (0:Rat)+x=x by grind,z]at k
     have m:=Rat.mul_nonneg (show 0<=M/2+1/2^220 by grind) (show 0<=1/2-x by grind)
     generalize (1/2^220:Rat)=g at *
     constructor <;> grind
    ·have k:=Gt.grow gb (x:=x) (h:= -x) (by grind) (by grind) (by grind)
     rw[show x+ -x=0 by grind,z]at k
     have m:=Rat.mul_nonneg (show 0<=M/2+1/2^220 by grind) (show 0<=1/2+x by grind)
     generalize (1/2^220:Rat)=g at *
     constructor <;> grind
   generalize (1/2^220:Rat)=g at *;rw[Rat.pow_succ];generalize (2:Rat)^n=p at *;generalize fz x=f at *
   have F:=Rat.mul_nonneg (Rat.le_of_lt e) (show 0<=M/4+g/2-f by grind)
   have G:=Rat.mul_nonneg (Rat.le_of_lt e) (show 0<=M/4+g/2+f by grind)
   have H:=Rat.mul_nonneg (Rat.le_of_lt e) s
   constructor <;> grind
 have a:=lV (fun n=>(d n u u1 u2).1)
 have b:=lV (fun n=>(d n u u1 u2).2)
 unfold fz at a b
 constructor <;> grind
def aT (m:Int):Nat->Int
 | 0=>m
 | k+1=>aT m k*m/SC*m/SC
def aS (m:Int):Nat->Int
 | 0=>0
 | k+1=>aS m k+(if k%2=1 then -(aT m k/ (2*(k:Int)+1))else aT m k/ (2*(k:Int)+1))
def eT (y:Rat):Nat->Rat
 | 0=>y
 | k+1=>eT y k*y*y
def eS (y:Rat):Nat->Rat
 | 0=>0
 | k+1=>eS y k+(if k%2=1 then -(eT y k/ ((2*(k:Int)+1:Int):Rat))else eT y k/ ((2*(k:Int)+1:Int):Rat))
theorem Hz:∀j:Fin 111,LL%(2*(j.val:Int)+1)=0:=by decide +kernel
theorem zI (y:Rat):∀f j:Nat,j+f<=111->eT y j*bO (an f j) y=(eS y (j+f)-eS y j)*((LL:Int):Rat)*y
 | 0,j,_=>by
  simp only[an,bO,Nat.add_zero]
  grind
 | f+1,j,hj=>by
  have ih:=zI y f (j+1) (by omega);have o:=Hz ⟨j,by omega⟩
  simp only at o;obtain⟨L,b⟩:∃L,LL/ (2*(j:Int)+1)=L:=⟨_,rfl⟩
  have m:L*(2*(j:Int)+1)=LL:=by
   rw[<-b];exact Int.ediv_mul_cancel (Int.dvd_of_emod_eq_zero o)
  have i:=congrArg (fun z:Int=>(z:Rat)) m
  have e:((L*(2*(j:Int)+1):Int):Rat)=((LL:Int):Rat):=i
  rw[Rat.intCast_mul]at e
  have p:(0:Rat) < ((2*(j:Int)+1:Int):Rat):=Rat.intCast_lt_intCast.2 (show (0:Int) < 2*(j:Int)+1 by omega)
  have d:=Rat.div_mul_cancel (a:=eT y j) (Rat.ne_of_gt p)
  rw[show j+1+f=j+(f+1) by omega]at ih
  have g:eS y (j+1)=eS y j+(if j%2=1 then -(eT y j/ ((2*(j:Int)+1:Int):Rat))else eT y j/ ((2*(j:Int)+1:Int):Rat)):=rfl
  have h:eT y (j+1)=eT y j*y*y:=rfl
  rw[g,h]at ih;simp only[an,bO];rw[b,Rat.intCast_zero];generalize eS y (j+(f+1))=n at *;generalize eS y j=k at *;generalize bO (an f (j+1)) y=R at *;generalize ((2*(j:Int)+1:Int):Rat)=q at *;generalize ((LL:Int):Rat)=l at *;generalize eT y j=t at *;generalize t/q=w at *;clear g h m i o b hj
  by_cases c:j%2=1
  ·rw[if_pos c]at ih
   rw[if_neg (show ¬j%2=0 by omega),Rat.intCast_neg]
   generalize ((L:Int):Rat)=v at *;rw[<-e]at ih|-;rw[<-d]at ih|-
   grind
  ·rw[if_neg c]at ih
   rw[if_pos (show j%2=0 by omega)]
   generalize ((L:Int):Rat)=v at *;rw[<-e]at ih|-;rw[<-d]at ih|-
   grind
theorem G8 (y:Rat)(h:y≠0):eS y 111=jq y:=by
 have k:=zI y 111 0 (by omega)
 have e0:eS y 0=0:=rfl
 have a:eT y 0=y:=rfl
 rw[Nat.zero_add,e0,a]at k
 have c:(1/ ((LL:Int):Rat))*((LL:Int):Rat)=1:=Rat.div_mul_cancel (Rat.ne_of_gt sS)
 unfold jq AL
 generalize bO (an 111 0) y=P at *;generalize eS y 111=S at *;generalize (1/ ((LL:Int):Rat))=i at *;generalize ((LL:Int):Rat)=l at *
 have z:y*(P*i-S)=0:=by grind
 rcases Rat.mul_eq_zero.1 z with g | g
 ·exact absurd g h
 ·grind
theorem zQ{m:Int}{y:Rat}(hy:y*SR=(m:Rat))(y1: -(1/2)<=y)(y2:y<=1/2):∀k:Nat,(-2<=((aT m k:Int):Rat)-eT y k*SR/\((aT m k:Int):Rat)-eT y k*SR<=2)/\
  (-(5/3*(k:Rat))<=((aS m k:Int):Rat)-eS y k*SR/\((aS m k:Int):Rat)-eS y k*SR<=5/3*(k:Rat))
 | 0=>by
  have e0:aT m 0=m:=rfl
  have e1:eT y 0=y:=rfl
  have e2:aS m 0=0:=rfl
  have e3:eS y 0=0:=rfl
  rw[e0,e1,e2,e3,Rat.intCast_zero,show ((0:Nat):Rat)=0 from rfl,hy]
  refine⟨⟨?_,?_⟩,?_,?_⟩ <;> grind
 | k+1=>by
  obtain⟨⟨a1,a2⟩,h,i⟩:=zQ hy y1 y2 k
  have u:aT m (k+1)=aT m k*m/SC*m/SC:=rfl
  have B:eT y (k+1)=eT y k*y*y:=rfl
  have A:aS m (k+1)=aS m k+(if k%2=1 then -(aT m k/ (2*(k:Int)+1))else aT m k/ (2*(k:Int)+1)):=rfl
  have w:eS y (k+1)=eS y k+(if k%2=1 then -(eT y k/ ((2*(k:Int)+1:Int):Rat))else eT y k/ ((2*(k:Int)+1:Int):Rat)):=rfl
  obtain⟨v,n⟩:∃v,aT m k*m/SC=v:=⟨_,rfl⟩;obtain⟨s,v2⟩:=sC (aT m k*m) SC (by decide) (z:=((aT m k:Int):Rat)*y) (by rw[Rat.intCast_mul,<-hy];grind);rw[n]at s v2;obtain⟨F,G⟩:=sC (v*m) SC (by decide) (z:=(v:Rat)*y) (by rw[Rat.intCast_mul,<-hy];grind)
  have g:(0:Rat) < ((2*(k:Int)+1:Int):Rat):=Rat.intCast_lt_intCast.2 (show (0:Int) < 2*(k:Int)+1 by omega)
  obtain⟨w1,d⟩:=sC (aT m k) (2*(k:Int)+1) (by omega) (z:=((aT m k:Int):Rat) / ((2*(k:Int)+1:Int):Rat)) (Rat.div_mul_cancel (Rat.ne_of_gt g));rw[u,B,n]
  have t:0<=y*y/\y*y<=1/4:=by
   have:=Rat.mul_nonneg (show 0<=1/2-y by grind) (show 0<=1/2+y by grind)
   exact⟨ib y,by grind⟩
  have E:=aA (b:=2) (x:=((aT m k:Int):Rat)-eT y k*SR) (a:=1/4) (e:=y*y) a1 a2 (by grind) t.2
  -- the term
  have f:∀q:Int,aT m k/ (2*(k:Int)+1)=q-> -(5/3)<=(q:Rat)-eT y k/ ((2*(k:Int)+1:Int):Rat)*SR/\(q:Rat)-eT y k/ ((2*(k:Int)+1:Int):Rat)*SR<=5/3:=fun q hq=>by
   rw[hq]at w1 d;have j:=Rat.div_mul_cancel (a:=((aT m k:Int):Rat)) (Rat.ne_of_gt g);have l:=Rat.div_mul_cancel (a:=eT y k) (Rat.ne_of_gt g)
   by_cases C:k=0
   ·subst C
    have e0:aT m 0=m:=rfl
    have e1:eT y 0=y:=rfl
    have c1:((2*((0:Nat):Int)+1:Int):Rat)=1:=rfl
    rw[c1]at j l w1 d|-;rw[e0]at j w1 d;rw[e1]at l|-;generalize (m:Rat) /1=g1 at *;generalize y/1=g2 at *
    rw[show g2=y by grind,hy]
    constructor <;> grind
   ·have I:(3:Rat)<=((2*(k:Int)+1:Int):Rat):=Rat.intCast_le_intCast.2 (show (3:Int)<=2*(k:Int)+1 by omega)
    generalize ((2*(k:Int)+1:Int):Rat)=p at *;generalize ((aT m k:Int):Rat) /p=g1 at *;generalize eT y k/p=g2 at *
    have H:(g1-g2*SR)*p=((aT m k:Int):Rat)-eT y k*SR:=by grind
    have n1:g1-g2*SR<=2/3:=by
     by_cases c:g1-g2*SR<=2/3
     ·exact c
     ·exfalso
      have:=Rat.mul_nonneg (show 0<=p-3 by grind) (show 0<=g1-g2*SR by grind)
      grind
    have n2: -(2/3)<=g1-g2*SR:=by
     by_cases c: -(2/3)<=g1-g2*SR
     ·exact c
     ·exfalso
      have:=Rat.mul_nonneg (show 0<=p-3 by grind) (show 0<= -(g1-g2*SR) by grind)
      grind
    constructor <;> grind
  obtain⟨o,r⟩:=f _ rfl;refine⟨⟨?_,?_⟩,?_⟩
  ·generalize ((aT m k:Int):Rat)=T at *;generalize eT y k=e at *;generalize (((v*m/SC:Int)):Rat)=z at *;generalize (v:Rat)=V at *;have D:=aA (b:=1/2) (x:=y) (a:=1) (e:=T*y-V) y1 y2 (by grind) (by grind);clear f w1 d o r h i
   grind
  ·generalize ((aT m k:Int):Rat)=T at *;generalize eT y k=e at *;generalize (((v*m/SC:Int)):Rat)=z at *;generalize (v:Rat)=V at *;have D:=aA (b:=1/2) (x:=y) (a:=1) (e:=T*y-V) y1 y2 (by grind) (by grind);clear f w1 d o r h i
   grind
  ·rw[A,w,Rat.natCast_add,show ((1:Nat):Rat)=1 from rfl]
   clear f E t F G s v2 w1 d a1 a2
   by_cases c:k%2=1
   ·rw[if_pos c,if_pos c,Rat.intCast_add,Rat.intCast_neg]
    constructor <;> grind
   ·rw[if_neg c,if_neg c,Rat.intCast_add]
    constructor <;> grind
theorem zS{m:Int}{y:Rat}(hy:y*SR=(m:Rat))(y1: -(1/2)<=y)(y2:y<=1/2): -185<=((aS m 111:Int):Rat)-jq y*SR/\((aS m 111:Int):Rat)-jq y*SR<=185:=by
 by_cases h:y=0
 ·subst h
  have c:m=0:=by
   rw[Rat.zero_mul]at hy;exact Rat.intCast_inj.1 (hy.symm.trans rfl)
  subst c
  have z:aS 0 111=0:=by decide +kernel
  rw[z,jr];rw[Rat.intCast_zero]
  constructor <;> grind
 ·obtain⟨_,a,b⟩:=zQ hy y1 y2 111;rw[G8 y h]at a b
  have e:((111:Nat):Rat)=111:=rfl
  rw[e]at a b
  constructor <;> grind
def Km:List (List Int):=jc (nP DD (GL (dm TL))) (jc (nP (-1) (mL (dm TL) (dm TL))) (mL TL TL))
theorem xB:mM 2 Km*2^200<=(DD*DD).natAbs:=Nat.le_of_ble_eq_true (by decide +kernel)
theorem oX{m h:Rat}(m1: -2<=m)(m2:m<=2)(h1: -2<=h)(h2:h<=2): -1<=(bl (m+h)-(bl m*bl h-ao m*ao h))*2^200/\(bl (m+h)-(bl m*bl h-ao m*ao h))*2^200<=1:=by
 obtain⟨a,b⟩:=py (B:=2) (m:=m) (h:=h) m1 m2 h1 h2 Km;refine gi (m:=DD*DD) (by decide +kernel) xB a b ?_
 unfold Km
 rw[gc,iA,gc,iA,iz,iz,lX,<-ft,<-ft,<-kO,<-kO,<-kO,Rat.intCast_mul,cm];generalize ((DD:Int):Rat)=d;generalize ao h=s;generalize bl m=c;generalize ao m=u;generalize bl h=v;generalize bl (m+h)=w
 grind
theorem pS{m h:Rat}(m1: -2<=m)(m2:m<=2)(h1: -2<=h)(h2:h<=2): -1<=(ao (m+h)-(ao m*bl h+bl m*ao h))*2^200/\(ao (m+h)-(ao m*bl h+bl m*ao h))*2^200<=1:=by
 obtain⟨a1,a2⟩:=nj m1 m2 h1 h2;obtain⟨a,b⟩:=nj h1 h2 m1 m2
 have e:ao (h-m)= -ao (m-h):=by
  rw[show h-m= -(m-h) by grind,pV]
 rw[e,show h+m=m+h by grind]at a b
 generalize (2:Rat)^200=p at *;generalize ao (m+h)=x at *;generalize ao (m-h)=y at *;generalize ao h=s at *;generalize bl m=c at *;generalize ao m=u at *;generalize bl h=v at *
 constructor <;> grind
theorem Df.rise{B k:Rat}{f g:Rat->Rat}(hB:0<=B)(H:Df B f g){a x h:Rat}(h0:0<=h)(x1: -B<=x)(x2:x+h<=B)(hx:x+h<=a)(hax: -a<=x)(ha:a<=B)(hg:∀y,-a<=y->y<=a->k<=g y):k*h<=f (x+h)-f x:=by
 obtain⟨C,d,b,l⟩:=H.le ha
 have K:∃M,∀y,-a<=y->y<=a->g y<=M:=⟨C,fun y y1 y2=>(b y y1 y2).2.2⟩
 obtain⟨M,c⟩:=K
 have a0:0<=a:=by grind
 have I:=(Df.id a a0).scale ((M+k) /2);have D:=(H.le ha).sub I
 have s:=D.grow (M:=(M-k) /2) (fun y y1 y2=>by
  have p:=hg y y1 y2;have q:=c y y1 y2
  constructor <;> grind) h0 hax hx
 have s1:=s.1
 grind
theorem vm{x:Rat}(h1: -(1/2)<=x)(h2:x<=1/2):2/3<=bl x:=by
 have j:99/100<=bl 0:=by decide +kernel
 have f:∀y:Rat,-(1/2)<=y->y<=1/2-> -(51/100)<=ao y/\ao y<=51/100:=fun y y1 y2=>by
  have g:∀z:Rat,-(1/2)<=z->z<=1/2-> -(101/100)<=bl z/\bl z<=101/100:=fun z z1 z2=>by
   obtain⟨a,b⟩:=lL (x:=z) (by grind) (by grind)
   have e:(1/2^200:Rat)<=1/100:=by decide +kernel
   generalize (1/2^200:Rat)=t at *
   constructor <;> grind
  have z:=kA
  by_cases c:0<=y
  ·have k:=(ni.le (show (1/2:Rat)<=2 by grind)).grow g (x:=0) (h:=y) c (by grind) (by grind)
   rw[show (0:Rat)+y=y by grind,z]at k
   constructor <;> grind
  ·have k:=(ni.le (show (1/2:Rat)<=2 by grind)).grow g (x:=y) (h:= -y) (by grind) (by grind) (by grind)
   rw[show y+ -y=0 by grind,z]at k
   constructor <;> grind
 have g:∀z:Rat,-(1/2)<=z->z<=1/2-> -(6/10)<=Ek z/\Ek z<=6/10:=fun z z1 z2=>by
  obtain⟨a,b⟩:=f z z1 z2;obtain⟨c,d⟩:=vi (x:=z) (by grind) (by grind)
  have i:=eL c
  have l:=eK d
  have e:(1/2^280:Rat)<=1/100:=by decide +kernel
  generalize (1/2^280:Rat)=t at *
  constructor <;> grind
 by_cases c:0<=x
 ·have k:=(se.le (show (1/2:Rat)<=2 by grind)).grow g (x:=0) (h:=x) c (by grind) (by grind)
  rw[show (0:Rat)+x=x by grind]at k
  grind
 ·have k:=(se.le (show (1/2:Rat)<=2 by grind)).grow g (x:=x) (h:= -x) (by grind) (by grind) (by grind)
  rw[show x+ -x=0 by grind]at k
  grind
theorem wO{x:Rat}(h1:0<=x)(h2:x<=qt):x/5<=ao x:=by
 obtain⟨d,f⟩:=iI;have z:=kA
 have base:∀y:Rat,0<=y->y<=1/2->2/3*y<=ao y:=fun y y0 y2=>by
  have k:=Df.rise (B:=2) (k:=2/3) (by grind) ni (a:=1/2) (x:=0) (h:=y) y0 (by grind) (by grind) (by grind) (by grind) (by grind) (fun z z1 z2=>vm z1 z2)
  rw[show (0:Rat)+y=y by grind,z]at k
  grind
 by_cases c:x<=1/2
 ·have:=base x h1 c
  grind
 ·have a:=base (1/2) (by grind) (by grind);have m:=Dp (a:=1/2) (b:=x) (by grind) (by grind) h2
  have e:(1/2^186:Rat)<=1/300:=by decide +kernel
  generalize (1/2^186:Rat)=t at *
  grind
def pU (v:Int):Int:=if SC < v*2 then (v-SC)*SC/ (v+SC)else v
def pA (v:Int):Int:=if SC < v*2 then iP/4 else 0
def pB (v:Int):Int:=if SC < v*2 then iO/4+1 else 0
def pL (v:Int):Int:=pA v+aS (pU v) 111+ -400
def pH (v:Int):Int:=pB v+aS (pU v) 111+400
def bk (v:Int):Rat:=(if SC < v*2 then qt/2 else 0)+jq ((pU v:Rat) /SR)
theorem ed (u:Int):(u:Rat) /SR*SR=(u:Rat):=Rat.div_mul_cancel (Rat.ne_of_gt bZ)
theorem ws{v:Int}(h0:0<=v)(h1:v<=SC): -(SC/3+1)<=pU v/\2*pU v<=SC:=by
 unfold pU
 by_cases c:SC < v*2
 ·rw[if_pos c]
  have d:(0:Int) < SC:=by decide
  have hd:0 < v+SC:=by omega
  have a:=Int.ediv_mul_le ((v-SC)*SC) (Int.ne_of_gt hd);have b:=Int.lt_ediv_add_one_mul_self ((v-SC)*SC) hd;generalize (v-SC)*SC/ (v+SC)=u at *
  constructor
  ·rcases Int.lt_or_le u (-(SC/3+1))with k | k
   ·exfalso
    have m:=Int.mul_le_mul_of_nonneg_right (show u+1<= -(SC/3+1) by omega) (Int.le_of_lt hd)
    have n:(SC/3+1)*(v+SC)≥(SC-v)*SC:=by
     have e:3*(SC/3+1)≥SC:=by omega
     have f:=Int.mul_le_mul_of_nonneg_right e (Int.le_of_lt hd)
     have g:=Int.mul_le_mul_of_nonneg_right (show 3*(SC-v)<=v+SC by omega) (Int.le_of_lt d)
     grind
    grind
   ·exact k
  ·rcases Int.lt_or_le 0 u with k | k
   ·exfalso
    have m:=Int.mul_le_mul_of_nonneg_right (show 1<=u by omega) (Int.le_of_lt hd)
    have n:(v-SC)*SC<=0:=by
     have:=Int.mul_nonneg (show 0<=SC-v by omega) (Int.le_of_lt d)
     grind
    omega
   ·omega
 ·rw[if_neg c]
  omega
theorem lN{v:Int}(h0:0<=v)(h1:v<=SC): -(1/2)<=(pU v:Rat) /SR/\(pU v:Rat) /SR<=1/2:=by
 obtain⟨a,b⟩:=ws h0 h1;have d:=bZ;have e:=ed (pU v)
 have a': -(SC:Int)<=2*pU v:=by
  unfold SC at *
  omega
 have a2:=Rat.intCast_le_intCast.2 a';have f:=Rat.intCast_le_intCast.2 b
 rw[Rat.intCast_mul,Rat.intCast_neg,show ((2:Int):Rat)=2 from rfl]at a2
 rw[Rat.intCast_mul,show ((2:Int):Rat)=2 from rfl]at f
 generalize (pU v:Rat) /SR=w at *
 constructor
 ·refine Rat.le_of_mul_le_mul_right (c:=SR) ?_ d
  grind
 ·refine Rat.le_of_mul_le_mul_right (c:=SR) ?_ d
  grind
theorem jQ{v:Int}(h0:0<=v)(h1:v<=SC):((pL v+214:Int):Rat)<=bk v*SR/\bk v*SR<=((pH v-214:Int):Rat):=by
 obtain⟨a,b⟩:=lN h0 h1;obtain⟨s1,s2⟩:=zS (ed (pU v)) a b;obtain⟨g,p2⟩:=kT
 have f:((pA v:Int):Rat)<=(if SC < v*2 then qt/2 else 0)*SR/\(if SC < v*2 then qt/2 else 0)*SR<=((pB v:Int):Rat):=by
  unfold pA pB
  by_cases c:SC < v*2
  ·rw[if_pos c,if_pos c,if_pos c]
   have d:=Rat.intCast_le_intCast.2 (show iP/4*4<=iP by decide)
   have e:=Rat.intCast_le_intCast.2 (show iO<=(iO/4+1)*4 by decide)
   rw[Rat.intCast_mul,show ((4:Int):Rat)=4 from rfl]at d e
   constructor <;> grind
  ·rw[if_neg c,if_neg c,if_neg c,Rat.intCast_zero]
   constructor <;> grind
 unfold pL pH bk
 have e1:((pA v+aS (pU v) 111+ -400+214:Int):Rat)=((pA v:Int):Rat)+((aS (pU v) 111:Int):Rat)-186:=by
  rw[show pA v+aS (pU v) 111+ -400+214=pA v+aS (pU v) 111-186 by omega,Rat.intCast_sub,Rat.intCast_add]
  rfl
 have e2:((pB v+aS (pU v) 111+400-214:Int):Rat)=((pB v:Int):Rat)+((aS (pU v) 111:Int):Rat)+186:=by
  rw[show pB v+aS (pU v) 111+400-214=pB v+aS (pU v) 111+186 by omega,Rat.intCast_add,Rat.intCast_add]
  rfl
 rw[e1,e2];generalize (if SC < v*2 then qt/2 else 0)=k at *;generalize jq ((pU v:Rat) /SR)=t at *
 constructor <;> grind
theorem Hl:(ao (qt/2)-bl (qt/2))*2^200<=1/\ -1<=(ao (qt/2)-bl (qt/2))*2^200/\ao (qt/2)<=3/4/\2/3<=ao (qt/2):=by decide +kernel
end Go.Proofs.YteigedaefgmojaaGreatDoor
namespace Go.Proofs.YteigedaefgmojaaGreatDoor
open Go.Proofs.Tryz
set_option maxHeartbeats 2000000
open Go.RowKit
set_option linter.unusedVariables false
set_option linter.unusedSimpArgs false
set_option maxRecDepth 100000
def pK (m:Int):Int:=if SC < (m.natAbs:Int)then 0 else aS m 111
theorem wF{t m:Int}(t1: -SC<=t)(t2:t<=SC)(m1: -SC<=m)(m2:m<=SC): -SC<=t*m/SC/\t*m/SC<=SC:=by
 have a:=Int.mul_nonneg (show 0<=SC-t by omega) (show 0<=SC+m by omega)
 have b:=Int.mul_nonneg (show 0<=SC+t by omega) (show 0<=SC-m by omega)
 have c:=Int.mul_nonneg (show 0<=SC-t by omega) (show 0<=SC-m by omega)
 have d:=Int.mul_nonneg (show 0<=SC+t by omega) (show 0<=SC+m by omega)
 have e:(0:Int) < SC:=by decide
 constructor
 ·refine(Int.le_ediv_iff_mul_le e).2 ?_
  grind
 ·refine Int.le_of_lt_add_one ((Int.ediv_lt_iff_lt_mul e).2 ?_)
  grind
theorem mc{m:Int}(m1: -SC<=m)(m2:m<=SC):∀j:Nat,-SC<=aT m j/\aT m j<=SC
 | 0=>⟨m1,m2⟩
 | j+1=>by
  obtain⟨a,b⟩:=mc m1 m2 j;obtain⟨c,d⟩:=wF a b m1 m2;exact wF c d m1 m2
theorem eJ{z:Int}(h1: -SC<=z)(h2:z<=SC):z.natAbs < 4294967296^7:=by
 have e:(4294967296:Nat)^7=26959946667150639794667015087019630673637144422540572481103610249216:=by decide
 rw[e]
 unfold SC at *
 omega
theorem qR{w:World}{A:Option Addr}{n c:Nat}{s:Bool}{x:Int}{z r:Int}(h:Wr w s A n c x)(hn:n<=100000000)(h0:z≠0)(h1: -9223372036854775808<=z)(h2:z<=9223372036854775807)(hr:x.fdiv z=r):Calls prog 101 #[.agg #[.bool s,.slice A n c],.int .i64 z] w (W1 w (n+6) r):=by
 go_enter func101,ntmps101
 go_upto_region 1 with fail
 generalize f:(w.alloc _).alloc _=w1 at *;obtain⟨p,e,i⟩:=Bo.en2 f;replace h:=h.below i.out;clear f;refine bF [0,1,2,3] [6,7,8,9,0] [[],[],[1],[0,2],[]] 5 1 [Jo.Fact.eq (.agg #[.bool s,.slice A n c]),Jo.qi z,Jo.Fact.wn (z) (2),Jo.Fact.wn (r) (n+6),Jo.Fact.any] ?_ ?_
 ·iterate 2 (refine jm ?_ ?_;rotate_left)
  refine jm ?_ ?_
  ·rintro o d _ rfl K a;go_simp;exact Jo.w1 (gy z _ h1 h2) a.out
  refine jm ?_ ?_
  ·rintro o d _ rfl _ ⟨s3,A3,n3,c3,rfl,m,q⟩ K a;go_simp;exact Jo.w1 (vM (h.b d) m.wr (by omega) (by omega) h0 hr) a.out
  exact jo
  all_goals (rintro o d;(repeat rintro _ rfl);intro K a;have u:=(p.b d).cell;go_simp;exact a.out _ _ rfl (br _ _))
 rintro y d _ rfl _ rfl _ ⟨s3,A3,n3,c3,rfl,m,q⟩ _ ⟨s4,A4,n4,c4,rfl,k,t⟩ -;simp only[Jo.z];replace e:=e.b d;replace i:=ak i d;clear h;have l:=e.cell;have g:=e.frozen
 refine jn 4 fun K a=>?_
 go_simp;refine a.out _ _ ?_;clear a K l g;have j:=ac.t2 e s4 A4 n4 c4;replace k:=k.s j;refine jd ?_;go_wp2;exact bq (v:= .agg #[.bool s4,.slice A4 n4 c4]) (by simp[results,results101,go_sem,j.box.cell]) rfl ⟨s4,A4,n4,c4,rfl,k,t,(j.below i.out (by omega))⟩
theorem EI{w:World}{A:Option Addr}{n c:Nat}{s:Bool}{x:Int}{B:Option Addr}{m d:Nat}{t:Bool}{y:Int}{r:Int}(h:Wr w s A n c x)(k:Wr w t B m d y)(hn:n<=100000)(hm:m<=100000)(hr:x*y/SC=r):Calls prog 239 #[.agg #[.bool s,.slice A n c],.agg #[.bool t,.slice B m d]] w (W1 w (n+m+12) r):=by
 have G:Hid ((x*y).fdiv SC=r):=ie (by rw[Int.fdiv_eq_ediv_of_nonneg _ (by decide)];exact hr)
 clear hr
 go_enter func239,ntmps239
 go_upto_region 1 with fail
 generalize o:((w.alloc _).alloc _).alloc _=w1 at *;obtain⟨H,I,e,a⟩:=Bo.en3 o;replace h:=h.below a.out;replace k:=k.below a.out;clear o;have z:=H.cell;have C:=I.cell
 go_wp2_with fail
 refine(Iw h k (by omega) (by omega) rfl).mono ?_;rintro E R ⟨Q,L,P,M,rfl,p,N,B⟩;clear z C;replace e:=e.b B;replace a:=ak a B;clear B;clear h k
 go_wp2_with fail
 refine(i9).mono ?_;rintro E S ⟨s9,A9,n9,c9,rfl,F,O,B⟩;refine aF ?_ e p a B;clear e p a B;intro e p a
 go_wp2_with fail
 refine(vM p.wr F.wr (by omega) (by omega) (by decide) G.out).mono ?_;rintro E T ⟨l,f,i,g,rfl,j,J,B⟩;replace e:=e.b B;replace a:=ak a B;clear B;clear p F;have D:=e.cell;have q:=e.frozen;go_wp2;clear D q;have u:=ac.t2 e l f i g;replace j:=j.s u;exact bq (v:= .agg #[.bool l,.slice f i g]) (by simp[results,results239,go_sem,u.box.cell]) rfl ⟨l,f,i,g,rfl,j,by omega,(u.below a.out (by omega))⟩
end Go.Proofs.YteigedaefgmojaaGreatDoor
namespace Go.Proofs.YteigedaefgmojaaGreatDoor
open Go.Proofs.Tryz
open Go Go.RowKit
set_option linter.unusedVariables false
theorem Ju:(1/2^220:Rat)*SR<=1/100/\(1/2^200:Rat)*SR<=1/100/\(0:Rat)<=1/2^220/\(0:Rat)<=1/2^200/\(1/2^200:Rat)<=1/100/\(1/2^220:Rat)<=1/100:=by decide +kernel
theorem IP{w y s c s0 c0 S C d e r:Rat}(y0:0<=y)(y1:y<=1)(hs1: -e<=s-w*c)(hs2:s-w*c<=e)(he:0<=e)(cb1: -(101/100)<=c)(cb2:c<=101/100)(sb1: -(101/100)<=s)(sb2:s<=101/100)
  (a1: -d<=S-(s0*c+c0*s)) (a2:S-(s0*c+c0*s)<=d) (b1: -d<=C-(c0*c-s0*s)) (b2:C-(c0*c-s0*s)<=d) (hd:0<=d) (z1: -d<=s0-c0) (z2:s0-c0<=d) (g1:2/3<=s0) (g2:s0<=3/4)
  (r1: -r<=1-y+w*(1+y)) (r2:1-y+w*(1+y)<=0) (r0:0<=r): -(r+2*e+5*d)<=S-y*C/\S-y*C<=r+2*e+5*d:=by
 obtain⟨q,hq⟩:∃q,q=1-y+w*(1+y):=⟨_,rfl⟩;rw[<-hq]at r1 r2;have f:=aA (b:=101/100) (x:=c) (a:=r) (e:=q) cb1 cb2 r1 (by grind);have i:=aA (b:=3/4) (x:=s0) (by grind) g2 f.1 f.2;have g:=aA (b:=2) (x:=1+y) (by grind) (by grind) hs1 hs2;have j:=aA (b:=3/4) (x:=s0) (by grind) g2 g.1 g.2;have k:=aA (b:=1) (x:=y) (by grind) y1 cb1 cb2
 have l:=aA (b:=1*(101/100)+101/100) (x:=s-y*c) (by grind) (by grind) z1 z2;have m:=aA (b:=1) (x:=y) (by grind) y1 b1 b2
 have h:S-y*C=(S-(s0*c+c0*s))-y*(C-(c0*c-s0*s))+(s0*(c*q)+s0*((1+y)*(s-w*c))-(s-y*c)*(s0-c0)):=by
  rw[hq]
  grind
 rw[h];generalize S-(s0*c+c0*s)=A1 at *;generalize y*(C-(c0*c-s0*s))=A2 at *;generalize s0*(c*q)=A3 at *;generalize s0*((1+y)*(s-w*c))=A4 at *;generalize (s-y*c)*(s0-c0)=A5 at *
 constructor <;> grind
theorem qy{x:Rat}(h1: -2<=x)(h2:x<=2):(-(101/100)<=bl x/\bl x<=101/100)/\ -(101/100)<=ao x/\ao x<=101/100:=by
 obtain⟨a,b⟩:=lL h1 h2;obtain⟨c,d⟩:=pT h1 h2
 have e:(1/2^200:Rat)<=1/100:=by decide +kernel
 have f:(1/2^240:Rat)<=1/100:=by decide +kernel
 generalize (1/2^200:Rat)=t at *;generalize (1/2^240:Rat)=u at *;refine⟨⟨?_,?_⟩,?_,?_⟩ <;> grind
theorem xe{v:Int}(h0:0<=v)(h1:v<=SC): -3<=(ao (bk v)-(v:Rat) /SR*bl (bk v))*SR/\(ao (bk v)-(v:Rat) /SR*bl (bk v))*SR<=3:=by
 obtain⟨l,n⟩:=lN h0 h1;obtain⟨e1,e2,e3,u,I,J⟩:=Ju;have sl:=rE l n;have a:=bZ
 unfold bk
 by_cases c:SC < v*2
 ·rw[if_pos c];obtain⟨L,M⟩:=iI;obtain⟨i1,i2⟩:=zP l n;have k:=ed v;have z:=ed (pU v);have j:=Rat.intCast_le_intCast.2 h0;have s:=Rat.intCast_le_intCast.2 h1;rw[Rat.intCast_zero]at j
  have i:pU v=(v-SC)*SC/ (v+SC):=if_pos c
  have hd:0 < v+SC:=by
   have:(0:Int) < SC:=by decide
   omega
  have p:=Int.ediv_mul_le ((v-SC)*SC) (Int.ne_of_gt hd);have q:=Int.lt_ediv_add_one_mul_self ((v-SC)*SC) hd;rw[<-i]at p q
  have f:=Rat.intCast_le_intCast.2 p
  have g:=Rat.intCast_le_intCast.2 (Int.le_of_lt q)
  rw[Rat.intCast_mul,Rat.intCast_mul,Rat.intCast_sub,Rat.intCast_add]at f
  rw[Rat.intCast_mul,Rat.intCast_mul,Rat.intCast_sub,Rat.intCast_add,Rat.intCast_add,show ((1:Int):Rat)=1 from rfl]at g
  rw[<-k,<-z]at f g;rw[<-k]at j s;generalize (v:Rat) /SR=y at *;generalize (pU v:Rat) /SR=w at *
  have G:0<=y:=Rat.le_of_mul_le_mul_right (c:=SR) (by rw[Rat.zero_mul];exact j) a
  have H:y<=1:=Rat.le_of_mul_le_mul_right (c:=SR) (by rw[Rat.one_mul];exact s) a
  obtain⟨r,o⟩:∃r,r*SR=2:=⟨2/SR,Rat.div_mul_cancel (Rat.ne_of_gt a)⟩
  have F:1-y+w*(1+y)<=0:=by
   refine Rat.le_of_mul_le_mul_right (c:=SR) (Rat.le_of_mul_le_mul_right (c:=SR) ?_ a) a
   grind
  have E: -r<=1-y+w*(1+y):=by
   have N:=Rat.mul_nonneg (show 0<=1-y by grind) (Rat.le_of_lt a)
   refine Rat.le_of_mul_le_mul_right (c:=SR) (Rat.le_of_mul_le_mul_right (c:=SR) ?_ a) a
   have:r*SR*SR=2*SR:=by rw[o]
   grind
  have D:0<=r:=Rat.le_of_mul_le_mul_right (c:=SR) (by rw[o];grind) a
  have b:=qy (x:=jq w) (by grind) (by grind);obtain⟨A,p2⟩:=pS (m:=qt/2) (h:=jq w) (by grind) (by grind) (by grind) (by grind);obtain⟨B,C⟩:=oX (m:=qt/2) (h:=jq w) (by grind) (by grind) (by grind) (by grind);obtain⟨g1,g2,g3,g4⟩:=Hl;have t:=IP G H sl.1 sl.2 e3 b.1.1 b.1.2 b.2.1 b.2.2 (eL A) (eK p2) (eL B) (eK C) u (eL g2) (eK g1) g4 g3 E F D
  generalize ao (qt/2+jq w)-y*bl (qt/2+jq w)=X at *;generalize (1/2^220:Rat)=e at *;generalize (1/2^200:Rat)=d at *;have n1:=Rat.mul_le_mul_of_nonneg_right t.1 (Rat.le_of_lt a);have n2:=Rat.mul_le_mul_of_nonneg_right t.2 (Rat.le_of_lt a)
  constructor <;> grind
 ·rw[if_neg c]
  have i:pU v=v:=if_neg c
  rw[i]at sl|-
  rw[show (0:Rat)+jq ((v:Rat) /SR)=jq ((v:Rat) /SR) by grind]
  generalize ao (jq ((v:Rat) /SR))-(v:Rat) /SR*bl (jq ((v:Rat) /SR))=X at *;have n1:=Rat.mul_le_mul_of_nonneg_right sl.1 (Rat.le_of_lt a);have n2:=Rat.mul_le_mul_of_nonneg_right sl.2 (Rat.le_of_lt a);generalize (1/2^220:Rat)=e at *
  constructor <;> grind
theorem dJ{v:Int}(h0:0<=v)(h1:v<=SC):0<=bk v/\bk v<=3/2:=by
 obtain⟨b,d⟩:=lN h0 h1;obtain⟨i,j⟩:=iI;obtain⟨i1,i2⟩:=zP b d
 unfold bk
 by_cases c:SC < v*2
 ·rw[if_pos c]
  constructor <;> grind
 ·rw[if_neg c]
  have f:pU v=v:=if_neg c
  have z:=jr;have e:=ed v;have g:=bZ
  have w0:0<=(v:Rat) /SR:=Rat.le_of_mul_le_mul_right (c:=SR) (by rw[e,Rat.zero_mul];exact Rat.intCast_le_intCast.2 h0) g
  rw[f]at i1 i2 b d|-
  have k:=Df.rise (B:=1/2) (k:=0) (by grind) qr (a:=1/2) (x:=0) (h:=(v:Rat) /SR) w0 (by grind) (by grind) (by grind) (by grind) (by grind) (fun y y1 y2=>(zK y1 y2).1)
  rw[show (0:Rat)+(v:Rat) /SR=(v:Rat) /SR by grind,z]at k
  generalize jq ((v:Rat) /SR)=t at *
  constructor <;> grind
