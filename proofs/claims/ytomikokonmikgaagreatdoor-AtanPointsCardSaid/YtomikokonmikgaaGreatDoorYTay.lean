/-
 Contracts that the proof rests on.
-/
import Derived.Test.YtomikokonmikgaaGreatDoorYTax
namespace Go.Proofs.YtomikokonmikgaaGreatDoor
open Go.Proofs.Tryz
set_option maxHeartbeats 8000000
open Go.RowKit
set_option linter.unusedVariables false
set_option linter.unusedSimpArgs false
set_option maxRecDepth 100000
theorem Ds{w:World}{n:Int}(h:n < 2):Calls prog 174 #[.int .i64 n] w (W2 w 1000000 0 0):=by
 have m:decide (n < 2)=true:=dt h
 go_enter func174,ntmps174
 go_upto_region 1 with (fail)
 generalize f:(w.alloc _).alloc _=w1 at *;obtain⟨b,c,d⟩:=Bo.en2 f;clear f;have j:=b.cell;have g:=b.frozen;have k:=c.cell;have i:=c.frozen;go_wp2;clear j g k i;generalize e:(w1.setCell _ _).setCell _ _=l at *;have a:=ae.of2 b e;replace c:=c.s a;replace d:=bn d a (by omega)
 replace b:=a.box;clear a e;generalize e:(l.setCell _ _).setCell _ _=o at *;have a:=ae.of2 c e;replace b:=b.s a;replace d:=bn d a (by omega);replace c:=a.box;clear a e;exact bq (v:= .tuple #[.agg #[.bool false,.slice none 0 0],.agg #[.bool false,.slice none 0 0]]) (by simp[results,results174,go_sem,b.cell,c.cell]) rfl ⟨_,_,_,_,_,_,_,_,rfl,⟨Nm.zero,rfl⟩,⟨Nm.zero,rfl⟩,Nat.zero_le _,Nat.zero_le _,d.out⟩
theorem Dq{w:World}{n:Int}(h:1000 < n):Calls prog 174 #[.int .i64 n] w (W2 w 1000000 0 0):=by
 have m:decide (n < 2)=false:=df (by omega)
 have o:decide (1000 < n)=true:=dt h
 go_enter func174,ntmps174
 go_upto_region 1 with (fail)
 generalize f:(w.alloc _).alloc _=w1 at *;obtain⟨b,c,d⟩:=Bo.en2 f;clear f;have j:=b.cell;have g:=b.frozen;have k:=c.cell;have i:=c.frozen;go_wp2;clear j g k i;generalize e:(w1.setCell _ _).setCell _ _=l at *;have a:=ae.of2 b e;replace c:=c.s a;replace d:=bn d a (by omega)
 replace b:=a.box;clear a e;generalize e:(l.setCell _ _).setCell _ _=p at *;have a:=ae.of2 c e;replace b:=b.s a;replace d:=bn d a (by omega);replace c:=a.box;clear a e;exact bq (v:= .tuple #[.agg #[.bool false,.slice none 0 0],.agg #[.bool false,.slice none 0 0]]) (by simp[results,results174,go_sem,b.cell,c.cell]) rfl ⟨_,_,_,_,_,_,_,_,rfl,⟨Nm.zero,rfl⟩,⟨Nm.zero,rfl⟩,Nat.zero_le _,Nat.zero_le _,d.out⟩
theorem Dr{w:World}{n:Int}(h1:2<=n)(h2:n<=1000){a b:Int}(hr:gH n=(a,b)):Calls prog 174 #[.int .i64 n] w (W2 w 1000000 a b):=by
 have t1:decide (n < 2)=false:=df (by omega)
 have t2:decide (1000 < n)=false:=df (by omega)
 obtain⟨R,U⟩:∃R,gZ n 200 0 0 n=R:=⟨_,rfl⟩
 have k:R.1-((R.2:Int)+1)=a/\R.1+((R.2:Int)+1)=b:=by
  unfold gH at hr
  rw[if_neg (by omega),U]at hr
  injection hr with e1 e2
  exact⟨by omega,e2⟩
 have HR:=ie U;have HA:=ie k.1;have x:=ie k.2;clear hr U k
 go_enter func174,ntmps174
 go_upto_region 1 with (fail)
 generalize F:(w.alloc _).alloc _=w1 at *;obtain⟨d,c,e⟩:=Bo.en2 F;clear F;have G0:=c.lt
 go_wp2_with fail
 refine(Gp h1 h2).mono ?_;rintro ee w2 ⟨gp,go,gb,s6,A6,n6,c6,s7,A7,n7,c7,rfl,XP,XO,XB,p6,p7,k6,k7,I,H,G,V,W,B⟩;replace d:=d.b B;replace c:=c.b B;replace e:=aa e B;clear B;clear t1 t2;have J:=e.out.size;have p:=d.lt;have q:=c.lt
 go_wp2_with fail
 refine(JY XP XO XB p6 p7 k6 k7 I H G h1 h2 HR.out).mono ?_;rintro ee w3 ⟨s4,A4,n4,c4,rfl,o,k4,hk,B⟩;replace d:=d.duo B (by omega) (by omega);replace c:=c.duo B (by omega) (by omega);replace e:=ie (B.below e.out (by omega) (by omega) (by omega));clear B XP XO XB p6 p7 HR;clear V W I H G p q J G0;obtain⟨R1,T⟩:=R;simp only at o hk HA x|-
 go_upto_region 4 with (fail)
 have bB:=d.lt;have bC:=c.lt;generalize j:w3.alloc _=w4 at *;obtain⟨r,g⟩:=Bo.nw j;clear j;replace d:=d.b g;replace c:=c.b g;replace o:=o.b g;replace e:=aa e g;clear g;have y:=iw ((T:Int)+1);have A:=jw ((T:Int)+1);have X:=y.out;have Y:=A.out
 go_wp2_with fail
 refine(iB ((T:Int)+1) _ (by omega) (by omega)).mono ?_;rintro ee w5 ⟨s5,A5,n5,c5,rfl,S,k5,B⟩;replace d:=d.b B;replace c:=c.b B;replace r:=r.b B;replace o:=o.b B;replace e:=aa e B;clear B;clear X Y y A;have J:=e.out.size
 go_upto_region 5 with (fail)
 have bH:=d.lt;have bN:=c.lt;have bD:=r.lt;generalize j:w5.alloc _=w6 at *;obtain⟨X6,g⟩:=Bo.nw j;clear j;replace d:=d.b g;replace c:=c.b g;replace r:=r.b g;replace o:=o.b g;replace S:=S.b g;replace e:=aa e g;clear g;have p:=d.lt;have q:=c.lt;have gB:=r.lt;have gO:=X6.lt
 refine jk [0,1,2,3,4,5] [some 24,some 25,some 26,some 27,some 28,some 29,none,none] [[],[],[0,1],[],[],[3,4],[],[]] 8 2 [Jo.Fact.eq (.agg #[.bool s4,.slice A4 n4 c4]),Jo.Fact.eq (.agg #[.bool s5,.slice A5 n5 c5]),Jo.Fact.wn (a) (1000000),Jo.Fact.eq (.agg #[.bool s4,.slice A4 n4 c4]),Jo.Fact.eq (.agg #[.bool s5,.slice A5 n5 c5]),Jo.Fact.wn (b) (1000000),Jo.Fact.any,Jo.Fact.any] ?_ ?_
 ·iterate 2 (refine jm ?_ ?_;rotate_left)
  refine jm ?_ ?_
  ·rintro wj i _ rfl _ rfl K f;simp only[Jo.z]at f|-;go_simp;exact Jo.w1 (CV (o.b i).wr (S.b i).wr (by omega) (by omega) HA.out) f.out
  iterate 2 (refine jm ?_ ?_;rotate_left)
  refine jm ?_ ?_
  ·rintro wj i _ rfl _ rfl K f;simp only[Jo.z]at f|-;go_simp;exact Jo.w1 (pm (o.b i).wr (S.b i).wr (by omega) (by omega) x.out) f.out
  exact jo
  all_goals (rintro wj i;(repeat rintro _ rfl);intro K f;simp only[Jo.z]at f|-;have gP:=(r.b i).cell;have gS:=(X6.b i).cell;go_simp;exact f.out _ _ rfl (br _ _))
 rintro w9 i _ rfl _ rfl _ ⟨N,t,L,C,rfl,l,Z⟩ _ rfl _ rfl _ ⟨O,u,M,D,rfl,m,bA⟩ -;simp only[Jo.z];replace d:=d.b i;replace c:=c.b i;replace e:=aa e i;have fH:=d.cell;have P:=d.frozen
 refine jn 6 fun K f=>?_
 go_simp;refine f.out _ _ ?_;clear f K fH P;generalize E:(w9.setCell _ _).setCell _ _=wA at *;have h:=ae.of2 d E;replace c:=c.s h;replace l:=l.s h;replace m:=m.s h;replace e:=bn e h (by omega);replace d:=h.box;clear h E;have fP:=c.cell;have Q:=c.frozen
 refine jn 7 fun K f=>?_
 go_simp;refine f.out _ _ ?_;clear f K fP Q;generalize E:(wA.setCell _ _).setCell _ _=wB at *;have h:=ae.of2 c E;replace d:=d.s h;replace l:=l.s h;replace m:=m.s h;replace e:=bn e h (by omega);replace c:=h.box;clear h E;refine jd ?_;go_wp2;exact bq (v:= .tuple #[.agg #[.bool N,.slice t L C],.agg #[.bool O,.slice u M D]]) (by simp[results,results174,go_sem,d.cell,c.cell]) rfl ⟨N,t,L,C,O,u,M,D,rfl,l,m,Z,bA,e.out⟩
theorem IL{w:World}{n a b:Int}(hr:gH n=(a,b)):Calls prog 174 #[.int .i64 n] w (W2 w 1000000 a b):=by
 by_cases h1:n < 2
 ·unfold gH at hr
  rw[if_pos (.inl h1)]at hr
  injection hr with e1 e2
  subst e1;subst e2;exact Ds h1
 ·by_cases h2:1000 < n
  ·unfold gH at hr
   rw[if_pos (.inr h2)]at hr
   injection hr with e1 e2
   subst e1;subst e2;exact Dq h2
  ·exact Dr (by omega) (by omega) hr
theorem Fs{w:World}{A:Option Addr}{n c:Nat}{s:Bool}{x:Int}{B:Option Addr}{m d:Nat}{t:Bool}{y:Int}{r:Int}(h:Wr w s A n c x)(k:Wr w t B m d y)(hn:n<=1000000)(hm:m<=1000000)(hr:16*x-4*y=r):Calls prog 175 #[.agg #[.bool s,.slice A n c],.agg #[.bool t,.slice B m d]] w (W1 w 10000000 r):=by
 have HR:=ie hr
 have H1:Hid (sA [16,x]=16*x):=ie (by show 1*16*x=_;rw[Int.one_mul])
 have H2:Hid (sA [4,y]=4*y):=ie (by show 1*4*y=_;rw[Int.one_mul])
 clear hr
 go_enter func175,ntmps175
 go_upto_region 1 with (fail)
 generalize u:((w.alloc _).alloc _).alloc _=w1 at *;obtain⟨X2,X3,p,q⟩:=Bo.en3 u;replace h:=h.below q.out;replace k:=k.below q.out;clear u;have fP:=X2.lt;have gB:=X3.lt;have gO:=p.lt;refine jk [0,1,2,3,4,5,6,7,8] [some 5,some 6,some 7,some 8,some 9,some 10,some 11,some 12,some 13,none] [[],[],[0,1],[2],[],[],[4,5],[6],[3,7],[]] 10 1 [Jo.Fact.wn (16) (2),Jo.Fact.eq (.agg #[.bool s,.slice A n c]),Jo.Fact.wl 1000000 2 [16,x],Jo.Fact.wn (16*x) (2000001),Jo.Fact.wn (4) (2),Jo.Fact.eq (.agg #[.bool t,.slice B m d]),Jo.Fact.wl 1000000 2 [4,y],Jo.Fact.wn (4*y) (2000001),Jo.Fact.wn (r) (10000000),Jo.Fact.any] ?_ ?_
 ·refine jm ?_ ?_
  ·rintro o e K a;simp only[Jo.z]at a|-;go_simp;exact Jo.w1 (iB 16 _ (by decide) (by decide)) a.out
  refine jm ?_ ?_;rotate_left
  refine jm ?_ ?_
  ·rintro o e _ ⟨bC,H,Y,N,rfl,C,T⟩ _ rfl K a;simp only[Jo.z]at a|-;go_simp;exact a.out _ _ ⟨_,_,rfl,Wl.lit2 rfl C.wr (h.b e) (by omega) (by omega)⟩ (af _ _)
  refine jm ?_ ?_
  ·rintro o e _ ⟨gP,hA,rfl,R⟩ K a;simp only[Jo.z]at a|-;go_simp;exact Jo.w1 (mR R (by decide) H1.out) a.out
  refine jm ?_ ?_
  ·rintro o e K a;simp only[Jo.z]at a|-;go_simp;exact Jo.w1 (iB 4 _ (by decide) (by decide)) a.out
  refine jm ?_ ?_;rotate_left
  refine jm ?_ ?_
  ·rintro o e _ ⟨bH,J,bA,P,rfl,E,V⟩ _ rfl K a;simp only[Jo.z]at a|-;go_simp;exact a.out _ _ ⟨_,_,rfl,Wl.lit2 rfl E.wr (k.b e) (by omega) (by omega)⟩ (af _ _)
  refine jm ?_ ?_
  ·rintro o e _ ⟨gS,hB,rfl,S⟩ K a;simp only[Jo.z]at a|-;go_simp;exact Jo.w1 (mR S (by decide) H2.out) a.out
  refine jm ?_ ?_
  ·rintro o e _ ⟨bD,I,Z,O,rfl,D,U⟩ _ ⟨bN,L,bB,Q,rfl,F,W⟩ K a;simp only[Jo.z]at a|-;go_simp;exact Jo.w1 (CV D.wr F.wr (by omega) (by omega) HR.out) a.out
  exact jo
  all_goals (rintro o e;(repeat rintro _ rfl);intro K a;simp only[Jo.z]at a|-;have hC:=(X2.b e).cell;have hD:=(X3.b e).cell;go_simp;exact a.out _ _ rfl (br _ _))
 rintro w2 e _ ⟨bC,H,Y,N,rfl,C,T⟩ _ rfl _ ⟨_,_,rfl,_⟩ _ ⟨bD,I,Z,O,rfl,D,U⟩ _ ⟨bH,J,bA,P,rfl,E,V⟩ _ rfl _ ⟨_,_,rfl,_⟩ _ ⟨bN,L,bB,Q,rfl,F,W⟩ _ ⟨l,f,i,g,rfl,j,X⟩ -;simp only[Jo.z];replace p:=p.b e;replace q:=aa q e;clear h k;have fH:=p.cell;have G:=p.frozen
 refine jn 9 fun K a=>?_
 go_simp;refine a.out _ _ ?_;clear a K fH G;have M:=ae.t2 p l f i g;replace j:=j.s M;refine jd ?_;go_wp2;exact bq (v:= .agg #[.bool l,.slice f i g]) (by simp[results,results175,go_sem,M.box.cell]) rfl ⟨l,f,i,g,rfl,j,X,(M.below q.out (by omega))⟩
theorem tv{w:World}:Calls prog 103 #[] w (W2 w 7 iE iD):=by
 obtain⟨Y,Z⟩:=lT;obtain⟨a,b,h5⟩:∃a b,gH 5=(a,b):=⟨_,_,rfl⟩;obtain⟨c,d,t⟩:∃a b,gH 239=(a,b):=⟨_,_,rfl⟩;rw[h5,t]at Y Z;have H5:=ie h5;have L:=ie t
 have V:Hid (16*a-4*d=iE):=ie (by rw[<-Y];omega)
 have W:Hid (16*b-4*c=iD):=ie (by rw[<-Z];omega)
 clear h5 t Y Z
 go_enter func103,ntmps103
 go_upto_region 1 with (fail)
 generalize O:(w.alloc _).alloc _=w1 at *;obtain⟨e,f,g⟩:=Bo.en2 O;clear O
 go_wp2_with fail
 refine(IL H5.out).mono ?_;rintro ee R ⟨s2,A2,n2,c2,s3,A3,n3,c3,rfl,p2,q,k2,k3,B⟩;replace e:=e.b B;replace f:=f.b B;replace g:=aa g B;clear B;have hE:=g.out.size
 go_upto_region 2 with (fail)
 have G:(World.alloc R (.cells #[.bool s2,.slice A2 n2 c2] 27)).heap.size=R.heap.size+1:=by simp
 have bA:=e.lt;have bB:=f.lt;have l:=af R (.cells #[.bool s2,.slice A2 n2 c2] 27);replace e:=e.b l;replace f:=f.b l;replace p2:=p2.b l;replace q:=q.b l;replace g:=ie (bt g.out l)
 have p:=Bo.new R #[.bool s2,.slice A2 n2 c2] 27;generalize i:World.alloc R (.cells #[.bool s2,.slice A2 n2 c2] 27)=w3 at *;clear i;have bD:=e.lt;have bH:=f.lt;have bC:=p.lt;generalize i:w3.alloc _=w4 at *;obtain⟨r,h⟩:=Bo.nw i;clear i;replace e:=e.b h;replace f:=f.b h;replace p:=p.b h;replace p2:=p2.b h
 replace q:=q.b h;replace g:=aa g h;clear h;rw[G]at r;clear G
 go_wp2_with fail
 refine(IL L.out).mono ?_;rintro ee S ⟨s4,A4,n4,c4,s5,A5,n5,c5,rfl,I,J,k4,k5,B⟩;replace e:=e.b B;replace f:=f.b B;replace p:=p.b B;replace r:=r.b B;replace p2:=p2.b B;replace q:=q.b B;replace g:=aa g B;clear B;have hF:=g.out.size
 go_upto_region 3 with (fail)
 have H:(World.alloc S (.cells #[.bool s4,.slice A4 n4 c4] 27)).heap.size=S.heap.size+1:=by simp
 have fP:=e.lt;have gB:=f.lt;have bN:=p.lt;have fH:=r.lt;have l:=af S (.cells #[.bool s4,.slice A4 n4 c4] 27);replace e:=e.b l;replace f:=f.b l;replace p:=p.b l;replace r:=r.b l;replace p2:=p2.b l
 replace q:=q.b l;replace I:=I.b l;replace J:=J.b l;replace g:=ie (bt g.out l);have M:=Bo.new S #[.bool s4,.slice A4 n4 c4] 27;generalize i:World.alloc S (.cells #[.bool s4,.slice A4 n4 c4] 27)=w6 at *
 clear i;have hA:=e.lt;have hB:=f.lt;have gO:=p.lt;have gP:=r.lt;have gS:=M.lt;generalize i:w6.alloc _=w7 at *;obtain⟨X,h⟩:=Bo.nw i;clear i;replace e:=e.b h;replace f:=f.b h;replace p:=p.b h;replace r:=r.b h;replace M:=M.b h;replace p2:=p2.b h;replace q:=q.b h;replace I:=I.b h
 replace J:=J.b h;replace g:=aa g h;clear h;rw[H]at X;clear H;have hM:=e.lt;have hN:=f.lt;have hG:=p.lt;have hH:=r.lt;have hI:=M.lt;have hL:=X.lt;refine jk [0,1,2,3,4,5] [some 14,some 15,some 16,some 17,some 18,some 19,none,none] [[],[],[0,1],[],[],[3,4],[],[]] 8 2 [Jo.Fact.eq (.agg #[.bool s2,.slice A2 n2 c2]),Jo.Fact.eq (.agg #[.bool s5,.slice A5 n5 c5]),Jo.Fact.wn (iE) (7),Jo.Fact.eq (.agg #[.bool s3,.slice A3 n3 c3]),Jo.Fact.eq (.agg #[.bool s4,.slice A4 n4 c4]),Jo.Fact.wn (iD) (7),Jo.Fact.any,Jo.Fact.any] ?_ ?_
 ·iterate 2 (refine jm ?_ ?_;rotate_left)
  refine jm ?_ ?_
  ·rintro wj m _ rfl _ rfl K n;simp only[Jo.z]at n|-;go_simp;refine(Fs (p2.b m).wr (J.b m).wr k2 k5 V.out).mono ?_;rintro ee wk ⟨E,u,C,y,rfl,j,P,B⟩;exact n.out _ _ ⟨E,u,C,y,rfl,j,j.fits (by decide)⟩ B
  iterate 2 (refine jm ?_ ?_;rotate_left)
  refine jm ?_ ?_
  ·rintro wj m _ rfl _ rfl K n;simp only[Jo.z]at n|-;go_simp;refine(Fs (q.b m).wr (I.b m).wr k3 k4 W.out).mono ?_;rintro ee wk ⟨F,x,D,A,rfl,k,Q,B⟩;exact n.out _ _ ⟨F,x,D,A,rfl,k,k.fits (by decide)⟩ B
  exact jo
  all_goals (rintro wj m;(repeat rintro _ rfl);intro K n;simp only[Jo.z]at n|-;have hP:=(p.b m).cell;have hT:=(X.b m).cell;have hQ:=(r.b m).cell;have hR:=(M.b m).cell;go_simp;exact n.out _ _ rfl (br _ _))
 rintro w8 m _ rfl _ rfl _ ⟨E,u,C,y,rfl,j,P⟩ _ rfl _ rfl _ ⟨F,x,D,A,rfl,k,Q⟩ -;simp only[Jo.z];replace e:=e.b m;replace f:=f.b m;replace g:=aa g m;clear p2 q I J;have hC:=e.cell;have T:=e.frozen
 refine jn 6 fun K n=>?_
 go_simp;refine n.out _ _ ?_;clear n K hC T;generalize N:(w8.setCell _ _).setCell _ _=w9 at *;have o:=ae.of2 e N;replace f:=f.s o;replace j:=j.s o;replace k:=k.s o;replace g:=bn g o (by omega);replace e:=o.box;clear o N;have hD:=f.cell;have U:=f.frozen
 refine jn 7 fun K n=>?_
 go_simp;refine n.out _ _ ?_;clear n K hD U;generalize N:(w9.setCell _ _).setCell _ _=wA at *;have o:=ae.of2 f N;replace e:=e.s o;replace j:=j.s o;replace k:=k.s o;replace g:=bn g o (by omega);replace f:=o.box;clear o N;refine jd ?_;go_wp2;exact bq (v:= .tuple #[.agg #[.bool E,.slice u C y],.agg #[.bool F,.slice x D A]]) (by simp[results,results103,go_sem,e.cell,f.cell]) rfl ⟨E,u,C,y,F,x,D,A,rfl,j,k,P,Q,g.out⟩
theorem yY{w:World}{A:Option Addr}{n c:Nat}{s:Bool}{x:Int}{B:Option Addr}{m d:Nat}{t:Bool}{y:Int}{r u:Int}{z:Sp}(hT:dQ w)(h:Wr w s A n c x)(k:Wr w t B m d y)(hn:n<=20)(hm:m<=20)(hr:Rq false x SC r)(hu:Rq true y SC u)(hz:eB r u=z):Calls prog 102 #[.agg #[.bool s,.slice A n c],.agg #[.bool t,.slice B m d]] w (PV w z):=by
 have HR:=ie hr;have HU:=ie hu;have HZ:=ie hz;clear hr hu hz
 go_enter func102,ntmps102
 go_upto_region 1 with (fail)
 generalize q:((w.alloc _).alloc _).alloc _=w1 at *;obtain⟨X2,X3,j,i⟩:=Bo.en3 q;replace hT:=hT.below i.out;replace h:=h.below i.out;replace k:=k.below i.out;clear q;have fH:=X2.lt;have fP:=X3.lt;have gB:=j.lt;refine jk [0,1,2,3,4,5,6] [some 5,some 6,some 7,some 8,some 9,some 10,some 11,none] [[],[],[0,1],[],[],[3,4],[2,5],[]] 8 1 [Jo.Fact.eq (.agg #[.bool s,.slice A n c]),Jo.Fact.wn (SC) (8),Jo.Fact.num r,Jo.Fact.eq (.agg #[.bool t,.slice B m d]),Jo.Fact.wn (SC) (8),Jo.Fact.num u,Jo.Fact.iv z,Jo.Fact.any] ?_ ?_
 ·refine jm ?_ ?_;rotate_left
  refine jm ?_ ?_
  ·rintro E e K a;simp only[Jo.z]at a|-;go_simp;exact Jo.w1 (iN) a.out
  refine jm ?_ ?_
  ·rintro E e _ rfl _ ⟨Z,G,X,S,rfl,v,V⟩ K a;simp only[Jo.z]at a|-;go_simp;exact Jo.n1 (An (hT.b e) (h.b e) v.wr hn (by omega) HR.out) a.out
  refine jm ?_ ?_;rotate_left
  refine jm ?_ ?_
  ·rintro E e K a;simp only[Jo.z]at a|-;go_simp;exact Jo.w1 (iN) a.out
  refine jm ?_ ?_
  ·rintro E e _ rfl _ ⟨bB,H,Y,T,rfl,C,W⟩ K a;simp only[Jo.z]at a|-;go_simp;exact Jo.n1 (An (hT.b e) (k.b e) C.wr hm (by omega) HU.out) a.out
  refine jm ?_ ?_
  ·rintro E e _ ⟨M,bA,P,I,rfl,f⟩ _ ⟨N,bC,Q,J,rfl,g⟩ K a;simp only[Jo.z]at a|-;go_simp;exact Jo.v1 (ia f.top g.top f.rk g.rk HZ.out) a.out
  exact jo
  all_goals (rintro E e;(repeat rintro _ rfl);intro K a;simp only[Jo.z]at a|-;have gO:=(X2.b e).cell;have gP:=(X3.b e).cell;go_simp;exact a.out _ _ rfl (br _ _))
 rintro w2 e _ rfl _ ⟨Z,G,X,S,rfl,v,V⟩ _ ⟨M,bA,P,I,rfl,f⟩ _ rfl _ ⟨bB,H,Y,T,rfl,C,W⟩ _ ⟨N,bC,Q,J,rfl,g⟩ _ ⟨U,O,bD,R,L,o,D,p,l,rfl,bH⟩ -;simp only[Jo.z];replace j:=j.b e;replace i:=aa i e;clear h k hT;have bN:=j.cell
 have F:=j.frozen
 refine jn 7 fun K a=>?_
 go_simp;refine a.out _ _ ?_;clear a K bN F;have SX:=ae.t9 j U O bD R L o D p l;refine jd ?_;go_wp2;exact bq (by simp[results,results102,go_sem,SX.box.cell]) rfl ⟨_,_,_,_,_,_,_,_,_,rfl,bH,(SX.below i.out (by omega))⟩
theorem JN{w:World}(hT:dQ w):Calls prog 33 #[] w (PV w (some (fw,fw+1))):=by
 have m:Hid (eB fw (fw+1)=some (fw,fw+1)):=ie (aK (by omega) (by decide) (by decide))
 go_enter func33,ntmps33
 go_upto_region 1 with (fail)
 generalize d:w.alloc _=w1 at *;obtain⟨a,c⟩:=Bo.en1 d;replace hT:=hT.below c.out;clear d
 go_wp2_with fail
 refine(tv).mono ?_;rintro q u ⟨s2,A2,n2,c2,s3,A3,n3,c3,rfl,p2,l,s,t,B⟩;replace a:=a.b B;replace hT:=hT.b B;replace c:=aa c B;clear B
 go_wp2_with fail
 refine(yY hT p2.wr l.wr (by omega) (by omega) FQ FP m.out).mono ?_;rintro q v ⟨p,n,s4,o,E4,g,i,h,f,rfl,r,B⟩;replace a:=a.b B;replace c:=aa c B;clear B;clear p2 l hT;have j:=a.cell;have e:=a.frozen;go_wp2;clear j e;have k:=ae.t9 a p n s4 o E4 g i h f
 exact bq (by simp[results,results33,go_sem,k.box.cell]) rfl ⟨_,_,_,_,_,_,_,_,_,rfl,r,(k.below c.out (by omega))⟩
theorem JZ{w:World}{D M E:Int}{s:Bool}{x z:Int}{t:Bool}(hT:dQ w)(h0:0<=M)(hM:LQ M)(hx:rk D s M E=x)(hz:du x=z)(ht:gq x=t):Calls prog 157 #[VQ D s M E] w (WB w 140000 z t):=by
 delta VQ
 obtain⟨m,hm⟩:∃m,mW [x,-x]=m:=⟨_,rfl⟩;obtain⟨σ,hσ⟩:∃σ,ag m (ak 1073741824)=σ:=⟨_,rfl⟩;have f:=zC ((Ei (hx▸(BY hM).1)).symm.trans hm) hσ;rw[ht]at f;have W:=ie hx;have HZ:=ie hz;have i:=ie ht;have p:=ie hm;have HC:=ie hσ;have o:=ie f;clear hx hz ht hm hσ f
 go_enter func157,ntmps157
 go_upto_region 1 with (fail)
 generalize bH:(w.alloc _).alloc _=w1 at *;obtain⟨q,d,e⟩:=Bo.en2 bH;replace hT:=hT.below e.out;clear bH;have hD:=q.lt;have hE:=d.lt
 cases t
 ·obtain rfl:0=z:=by rw[<-HZ.out,oF i.out]
  clear HZ i;refine jk [0,1,2,3,4,5,6,7] [some 6,some 7,some 8,some 9,some 10,some 11,some 12,some 13] [[],[],[1],[0,2],[3],[],[4,5],[6]] 8 0 [Jo.q4 D s M E,Jo.q4 D s M E,Jo.Fact.num (-x),Jo.Fact.nl 2 [x,-x],Jo.Fact.num m,Jo.Fact.num (ak 1073741824),Jo.qi σ,Jo.qb true] ?_ ?_
  ·iterate 2 (refine jm ?_ ?_;rotate_left)
   refine jm ?_ ?_
   ·rintro h c _ rfl K a;simp only[Jo.z]at a|-;go_simp;exact Jo.n1 (xv hM (by rw[W.out])) a.out
   refine jm ?_ ?_
   ·rintro h c _ rfl _ ⟨A,g,H,r,rfl,j⟩ K a;simp only[Jo.z]at a|-;go_simp;exact a.out _ _ ⟨_,2,rfl,Nl.lit2 rfl hM j.top W.out j.rk⟩ (af _ _)
   refine jm ?_ ?_
   ·rintro h c _ ⟨gB,hA,rfl,L⟩ K a;simp only[Jo.z]at a|-;go_simp;exact Jo.n1 (qD L p.out) a.out
   refine jm ?_ ?_
   ·rintro h c K a;simp only[Jo.z]at a|-;go_simp;exact Jo.n1 (AW _ (by decide) (by decide) rfl) a.out
   refine jm ?_ ?_
   ·rintro h c _ ⟨C,S,I,u,rfl,k⟩ _ ⟨F,T,J,y,rfl,l⟩ K a;simp only[Jo.z]at a|-;go_simp;refine(j5 (z:=σ) k.top l.top (by rw[k.rk,l.rk];exact HC.out)).mono ?_;rintro ee wk ⟨rfl,B⟩;exact a.out _ _ rfl B
   refine jm ?_ ?_
   ·rintro h c _ rfl K a;simp only[Jo.z]at a|-;have f:=o.out;go_simp
    exact a.out _ _ (by first | rfl | (show Value.bool _=Value.bool _;rw[f];rfl) | simp_all) (br _ _)
   exact jo
   all_goals (rintro h c;(repeat rintro _ rfl);intro K a;simp only[Jo.z]at a|-;have U:=(q.b c).cell;go_simp;exact a.out _ _ rfl (br _ _))
  rintro w2 c _ rfl _ rfl _ ⟨A,g,H,r,rfl,_⟩ _ ⟨_,_,rfl,_⟩ _ ⟨C,S,I,u,rfl,_⟩ _ ⟨F,T,J,y,rfl,_⟩ _ rfl _ rfl -;simp only[Jo.z];replace q:=q.b c;replace d:=d.b c;replace hT:=hT.b c;replace e:=aa e c;refine jd ?_;clear HC o p;clear hT;have V:=d.cell;have n:=d.frozen
  go_wp2;clear V n;have X:=ae.t2 d false none 0 0;exact bq (v:= .tuple #[.agg #[.bool false,.slice none 0 0],.bool false]) (by simp[results,results157,go_sem,X.box.cell]) rfl ⟨_,_,_,_,rfl,⟨Nm.zero,rfl⟩,Nat.zero_le _,(X.below e.out (by omega))⟩
 ·obtain⟨N,G,hN,hG,nf,hv,fP,g1,g2⟩:=DE hM W.out i.out;obtain⟨bb,hb⟩:∃b,lW D s M E=b:=⟨_,rfl⟩;obtain⟨P,hP⟩:∃P,(GY (mk N G) 192).1=P:=⟨_,rfl⟩;obtain⟨Q,hQ⟩:∃P,(GY (mk N G) 192).2=P:=⟨_,rfl⟩;have O:=zD nf hv fP g1 g2 i.out hP hQ;rw[HZ.out]at O;have gO:=ie O;have gP:=ie hP;have gS:=ie hQ;have bA:=ie hb
  have bC:=ie hN;have bB:=ie hG;clear O hP hQ hb hN hG nf hv fP g1 g2 HZ i;refine jk [0,1,2,3,4,5,6,7] [some 6,some 7,some 8,some 9,some 10,some 11,some 12,some 13] [[],[],[1],[0,2],[3],[],[4,5],[6]] 8 0 [Jo.q4 D s M E,Jo.q4 D s M E,Jo.Fact.num (-x),Jo.Fact.nl 2 [x,-x],Jo.Fact.num m,Jo.Fact.num (ak 1073741824),Jo.qi σ,Jo.qb false] ?_ ?_
  ·iterate 2 (refine jm ?_ ?_;rotate_left)
   refine jm ?_ ?_
   ·rintro h c _ rfl K a;simp only[Jo.z]at a|-;go_simp;exact Jo.n1 (xv hM (by rw[W.out])) a.out
   refine jm ?_ ?_
   ·rintro h c _ rfl _ ⟨A,g,H,r,rfl,j⟩ K a;simp only[Jo.z]at a|-;go_simp;exact a.out _ _ ⟨_,2,rfl,Nl.lit2 rfl hM j.top W.out j.rk⟩ (af _ _)
   refine jm ?_ ?_
   ·rintro h c _ ⟨gB,hA,rfl,L⟩ K a;simp only[Jo.z]at a|-;go_simp;exact Jo.n1 (qD L p.out) a.out
   refine jm ?_ ?_
   ·rintro h c K a;simp only[Jo.z]at a|-;go_simp;exact Jo.n1 (AW _ (by decide) (by decide) rfl) a.out
   refine jm ?_ ?_
   ·rintro h c _ ⟨C,S,I,u,rfl,k⟩ _ ⟨F,T,J,y,rfl,l⟩ K a;simp only[Jo.z]at a|-;go_simp;refine(j5 (z:=σ) k.top l.top (by rw[k.rk,l.rk];exact HC.out)).mono ?_;rintro ee wk ⟨rfl,B⟩;exact a.out _ _ rfl B
   refine jm ?_ ?_
   ·rintro h c _ rfl K a;simp only[Jo.z]at a|-;have f:=o.out;go_simp
    exact a.out _ _ (by first | rfl | (show Value.bool _=Value.bool _;rw[f];rfl) | simp_all) (br _ _)
   exact jo
   all_goals (rintro h c;(repeat rintro _ rfl);intro K a;simp only[Jo.z]at a|-;have U:=(q.b c).cell;go_simp;exact a.out _ _ rfl (br _ _))
  rintro w2 c _ rfl _ rfl _ ⟨A,g,H,r,rfl,_⟩ _ ⟨_,_,rfl,_⟩ _ ⟨C,S,I,u,rfl,_⟩ _ ⟨F,T,J,y,rfl,_⟩ _ rfl _ rfl -;simp only[Jo.z];replace q:=q.b c;replace d:=d.b c;replace hT:=hT.b c;replace e:=aa e c;refine jd ?_;clear HC o p;have U:=q.cell
  go_wp2_with fail
  refine(GZ hT h0 hM bA.out bC.out bB.out).mono ?_;rintro ee w3 ⟨s5,A5,n5,c5,rfl,p5,k5,B⟩;clear U;replace d:=d.b B;replace hT:=hT.b B;replace e:=aa e B;clear B
  go_upto_region 4 with (fail)
  have hB:=d.lt;generalize bN:w3.alloc _=w4 at *;obtain⟨X5,Z⟩:=Bo.nw bN;clear bN;replace d:=d.b Z;replace hT:=hT.b Z;replace p5:=p5.b Z;replace e:=aa e Z;clear Z;clear bA bC bB W;have hC:=X5.cell
  go_wp2_with fail
  refine(IM hT p5.wr (by omega) (by decide) (by decide) gP.out gS.out).mono ?_;rintro ee w5 ⟨s6,A6,n6,c6,rfl,p6,k6,B⟩;clear hC;replace d:=d.b B;replace hT:=hT.b B;replace e:=aa e B;clear B;clear p5
  go_wp2_with fail
  refine(Gt hT p6.wr (by omega) gO.out).mono ?_;rintro ee w6 ⟨g,Y,fH,bD,rfl,R,hF,B⟩;replace d:=d.b B;replace e:=aa e B;clear B;clear p6 hT;have V:=d.cell;have n:=d.frozen;go_wp2;clear V n;have X:=ae.t2 d g Y fH bD;replace R:=R.s X;exact bq (v:= .tuple #[.agg #[.bool g,.slice Y fH bD],.bool true]) (by simp[results,results157,go_sem,X.box.cell]) rfl ⟨_,_,_,_,rfl,R,by omega,(X.below e.out (by omega))⟩
def Jo.TFact.wn (x:Int)(K:Nat):Jo.TFact #[.bool false,.slice none 0 0] 27:=⟨fun v w=>∃s1 A1 n1 c1,v= .agg #[.bool s1,.slice A1 n1 c1]/\Wn w s1 A1 n1 c1 x/\n1<=K,fun v w w' h b=>by
 obtain⟨s1,A1,n1,c1,e,p,k⟩:=h
 exact⟨s1,A1,n1,c1,e,p.below b,k⟩,fun v w w' g cs h S=>by
 obtain⟨s1,A1,n1,c1,e,p,k⟩:=h;exact⟨s1,A1,n1,c1,e,p.stn S (by simp[no32]),k⟩⟩
end Go.Proofs.YtomikokonmikgaaGreatDoor
namespace Go.Proofs.YtomikokonmikgaaGreatDoor
open Go.Proofs.Tryz
open Go Go.RowKit
set_option linter.unusedVariables false
theorem kD:(iE:Rat)<=2*qt*SR/\2*qt*SR<=(iD:Rat):=by decide +kernel
def qI (x:Int):Int:=(2*x+iE) / (2*iE)
def rI (x:Int):Int:=if qI x < 0 then x-qI x*iE else x-qI x*iD
def tI (x y:Int):Int:=if qI x < 0 then y-qI x*iD else y-qI x*iE
end Go.Proofs.YtomikokonmikgaaGreatDoor
namespace Go.Proofs.YtomikokonmikgaaGreatDoor
open Go.Proofs.Tryz
open Go.RowKit
set_option linter.unusedVariables false
set_option linter.unusedSimpArgs false
set_option maxRecDepth 100000
def Kr (cos:Bool)(g:Int):Int:=if cos then g+iE/2 else g
theorem ae.mk6{w:World}{g:Nat}{T:TypeId}{a0 a1 a2 a3 a4 a5:Value}(X:Bo w g #[a0,a1,a2,a3,a4,a5] T)(v0 v1 v2 v3 v4 v5:Value):
  ae w ((((((w.setCell ⟨g,0,none⟩ v0).setCell ⟨g,1,none⟩ v1).setCell ⟨g,2,none⟩ v2).setCell ⟨g,3,none⟩ v3).setCell ⟨g,4,none⟩ v4).setCell ⟨g,5,none⟩ v5) g #[a0,a1,a2,a3,a4,a5] #[v0,v1,v2,v3,v4,v5] T:=by
 have b:ae w (w.setCell ⟨g,0,none⟩ v0) g #[a0,a1,a2,a3,a4,a5] #[v0,a1,a2,a3,a4,a5] T:=ae.at4 X 0 v0
 have a:=b
 have c:ae (w.setCell ⟨g,0,none⟩ v0) ((w.setCell ⟨g,0,none⟩ v0).setCell ⟨g,1,none⟩ v1) g #[v0,a1,a2,a3,a4,a5] #[v0,v1,a2,a3,a4,a5] T:=ae.at4 a.box 1 v1
 have s1:=a.trans c
 have d:ae ((w.setCell ⟨g,0,none⟩ v0).setCell ⟨g,1,none⟩ v1) (((w.setCell ⟨g,0,none⟩ v0).setCell ⟨g,1,none⟩ v1).setCell ⟨g,2,none⟩ v2) g #[v0,v1,a2,a3,a4,a5] #[v0,v1,v2,a3,a4,a5] T:=ae.at4 s1.box 2 v2
 have s2:=s1.trans d
 have e:ae (((w.setCell ⟨g,0,none⟩ v0).setCell ⟨g,1,none⟩ v1).setCell ⟨g,2,none⟩ v2) ((((w.setCell ⟨g,0,none⟩ v0).setCell ⟨g,1,none⟩ v1).setCell ⟨g,2,none⟩ v2).setCell ⟨g,3,none⟩ v3) g #[v0,v1,v2,a3,a4,a5] #[v0,v1,v2,v3,a4,a5] T:=ae.at4 s2.box 3 v3
 have s3:=s2.trans e
 have f:ae ((((w.setCell ⟨g,0,none⟩ v0).setCell ⟨g,1,none⟩ v1).setCell ⟨g,2,none⟩ v2).setCell ⟨g,3,none⟩ v3) (((((w.setCell ⟨g,0,none⟩ v0).setCell ⟨g,1,none⟩ v1).setCell ⟨g,2,none⟩ v2).setCell ⟨g,3,none⟩ v3).setCell ⟨g,4,none⟩ v4) g #[v0,v1,v2,v3,a4,a5] #[v0,v1,v2,v3,v4,a5] T:=ae.at4 s3.box 4 v4
 have s4:=s3.trans f
 have h:ae (((((w.setCell ⟨g,0,none⟩ v0).setCell ⟨g,1,none⟩ v1).setCell ⟨g,2,none⟩ v2).setCell ⟨g,3,none⟩ v3).setCell ⟨g,4,none⟩ v4) ((((((w.setCell ⟨g,0,none⟩ v0).setCell ⟨g,1,none⟩ v1).setCell ⟨g,2,none⟩ v2).setCell ⟨g,3,none⟩ v3).setCell ⟨g,4,none⟩ v4).setCell ⟨g,5,none⟩ v5) g #[v0,v1,v2,v3,v4,a5] #[v0,v1,v2,v3,v4,v5] T:=ae.at4 s4.box 5 v5
 have s5:=s4.trans h;exact s5
theorem ae.mk10{w:World}{g:Nat}{T:TypeId}{a0 a1 a2 a3 a4 a5 a6 a7 a8 a9:Value}(X:Bo w g #[a0,a1,a2,a3,a4,a5,a6,a7,a8,a9] T)(v0 v1 v2 v3 v4 v5 v6 v7 v8 v9:Value):
  ae w ((((((((((w.setCell ⟨g,0,none⟩ v0).setCell ⟨g,1,none⟩ v1).setCell ⟨g,2,none⟩ v2).setCell ⟨g,3,none⟩ v3).setCell ⟨g,4,none⟩ v4).setCell ⟨g,5,none⟩ v5).setCell ⟨g,6,none⟩ v6).setCell ⟨g,7,none⟩ v7).setCell ⟨g,8,none⟩ v8).setCell ⟨g,9,none⟩ v9) g #[a0,a1,a2,a3,a4,a5,a6,a7,a8,a9] #[v0,v1,v2,v3,v4,v5,v6,v7,v8,v9] T:=by
 have c:ae w (w.setCell ⟨g,0,none⟩ v0) g #[a0,a1,a2,a3,a4,a5,a6,a7,a8,a9] #[v0,a1,a2,a3,a4,a5,a6,a7,a8,a9] T:=ae.at4 X 0 v0
 have a:=c
 have d:ae (w.setCell ⟨g,0,none⟩ v0) ((w.setCell ⟨g,0,none⟩ v0).setCell ⟨g,1,none⟩ v1) g #[v0,a1,a2,a3,a4,a5,a6,a7,a8,a9] #[v0,v1,a2,a3,a4,a5,a6,a7,a8,a9] T:=ae.at4 a.box 1 v1
 have s1:=a.trans d
 have e:ae ((w.setCell ⟨g,0,none⟩ v0).setCell ⟨g,1,none⟩ v1) (((w.setCell ⟨g,0,none⟩ v0).setCell ⟨g,1,none⟩ v1).setCell ⟨g,2,none⟩ v2) g #[v0,v1,a2,a3,a4,a5,a6,a7,a8,a9] #[v0,v1,v2,a3,a4,a5,a6,a7,a8,a9] T:=ae.at4 s1.box 2 v2
 have s2:=s1.trans e
 have f:ae (((w.setCell ⟨g,0,none⟩ v0).setCell ⟨g,1,none⟩ v1).setCell ⟨g,2,none⟩ v2) ((((w.setCell ⟨g,0,none⟩ v0).setCell ⟨g,1,none⟩ v1).setCell ⟨g,2,none⟩ v2).setCell ⟨g,3,none⟩ v3) g #[v0,v1,v2,a3,a4,a5,a6,a7,a8,a9] #[v0,v1,v2,v3,a4,a5,a6,a7,a8,a9] T:=ae.at4 s2.box 3 v3
 have s3:=s2.trans f
 have h:ae ((((w.setCell ⟨g,0,none⟩ v0).setCell ⟨g,1,none⟩ v1).setCell ⟨g,2,none⟩ v2).setCell ⟨g,3,none⟩ v3) (((((w.setCell ⟨g,0,none⟩ v0).setCell ⟨g,1,none⟩ v1).setCell ⟨g,2,none⟩ v2).setCell ⟨g,3,none⟩ v3).setCell ⟨g,4,none⟩ v4) g #[v0,v1,v2,v3,a4,a5,a6,a7,a8,a9] #[v0,v1,v2,v3,v4,a5,a6,a7,a8,a9] T:=ae.at4 s3.box 4 v4
 have s4:=s3.trans h
 have i:ae (((((w.setCell ⟨g,0,none⟩ v0).setCell ⟨g,1,none⟩ v1).setCell ⟨g,2,none⟩ v2).setCell ⟨g,3,none⟩ v3).setCell ⟨g,4,none⟩ v4) ((((((w.setCell ⟨g,0,none⟩ v0).setCell ⟨g,1,none⟩ v1).setCell ⟨g,2,none⟩ v2).setCell ⟨g,3,none⟩ v3).setCell ⟨g,4,none⟩ v4).setCell ⟨g,5,none⟩ v5) g #[v0,v1,v2,v3,v4,a5,a6,a7,a8,a9] #[v0,v1,v2,v3,v4,v5,a6,a7,a8,a9] T:=ae.at4 s4.box 5 v5
 have s5:=s4.trans i
 have j:ae ((((((w.setCell ⟨g,0,none⟩ v0).setCell ⟨g,1,none⟩ v1).setCell ⟨g,2,none⟩ v2).setCell ⟨g,3,none⟩ v3).setCell ⟨g,4,none⟩ v4).setCell ⟨g,5,none⟩ v5) (((((((w.setCell ⟨g,0,none⟩ v0).setCell ⟨g,1,none⟩ v1).setCell ⟨g,2,none⟩ v2).setCell ⟨g,3,none⟩ v3).setCell ⟨g,4,none⟩ v4).setCell ⟨g,5,none⟩ v5).setCell ⟨g,6,none⟩ v6) g #[v0,v1,v2,v3,v4,v5,a6,a7,a8,a9] #[v0,v1,v2,v3,v4,v5,v6,a7,a8,a9] T:=ae.at4 s5.box 6 v6
 have s6:=s5.trans j
 have k:ae (((((((w.setCell ⟨g,0,none⟩ v0).setCell ⟨g,1,none⟩ v1).setCell ⟨g,2,none⟩ v2).setCell ⟨g,3,none⟩ v3).setCell ⟨g,4,none⟩ v4).setCell ⟨g,5,none⟩ v5).setCell ⟨g,6,none⟩ v6) ((((((((w.setCell ⟨g,0,none⟩ v0).setCell ⟨g,1,none⟩ v1).setCell ⟨g,2,none⟩ v2).setCell ⟨g,3,none⟩ v3).setCell ⟨g,4,none⟩ v4).setCell ⟨g,5,none⟩ v5).setCell ⟨g,6,none⟩ v6).setCell ⟨g,7,none⟩ v7) g #[v0,v1,v2,v3,v4,v5,v6,a7,a8,a9] #[v0,v1,v2,v3,v4,v5,v6,v7,a8,a9] T:=ae.at4 s6.box 7 v7
 have s7:=s6.trans k
 have l:ae ((((((((w.setCell ⟨g,0,none⟩ v0).setCell ⟨g,1,none⟩ v1).setCell ⟨g,2,none⟩ v2).setCell ⟨g,3,none⟩ v3).setCell ⟨g,4,none⟩ v4).setCell ⟨g,5,none⟩ v5).setCell ⟨g,6,none⟩ v6).setCell ⟨g,7,none⟩ v7) (((((((((w.setCell ⟨g,0,none⟩ v0).setCell ⟨g,1,none⟩ v1).setCell ⟨g,2,none⟩ v2).setCell ⟨g,3,none⟩ v3).setCell ⟨g,4,none⟩ v4).setCell ⟨g,5,none⟩ v5).setCell ⟨g,6,none⟩ v6).setCell ⟨g,7,none⟩ v7).setCell ⟨g,8,none⟩ v8) g #[v0,v1,v2,v3,v4,v5,v6,v7,a8,a9] #[v0,v1,v2,v3,v4,v5,v6,v7,v8,a9] T:=ae.at4 s7.box 8 v8
 have b:=s7.trans l
 have m:ae (((((((((w.setCell ⟨g,0,none⟩ v0).setCell ⟨g,1,none⟩ v1).setCell ⟨g,2,none⟩ v2).setCell ⟨g,3,none⟩ v3).setCell ⟨g,4,none⟩ v4).setCell ⟨g,5,none⟩ v5).setCell ⟨g,6,none⟩ v6).setCell ⟨g,7,none⟩ v7).setCell ⟨g,8,none⟩ v8) ((((((((((w.setCell ⟨g,0,none⟩ v0).setCell ⟨g,1,none⟩ v1).setCell ⟨g,2,none⟩ v2).setCell ⟨g,3,none⟩ v3).setCell ⟨g,4,none⟩ v4).setCell ⟨g,5,none⟩ v5).setCell ⟨g,6,none⟩ v6).setCell ⟨g,7,none⟩ v7).setCell ⟨g,8,none⟩ v8).setCell ⟨g,9,none⟩ v9) g #[v0,v1,v2,v3,v4,v5,v6,v7,v8,a9] #[v0,v1,v2,v3,v4,v5,v6,v7,v8,v9] T:=ae.at4 b.box 9 v9
 have s9:=b.trans m;exact s9
theorem ae.of6{w w1:World}{g:Nat}{T:TypeId}{a0 a1 a2 a3 a4 a5 v0 v1 v2 v3 v4 v5:Value}(X:Bo w g #[a0,a1,a2,a3,a4,a5] T)(h:(((((w.setCell ⟨g,0,none⟩ v0).setCell ⟨g,1,none⟩ v1).setCell ⟨g,2,none⟩ v2).setCell ⟨g,3,none⟩ v3).setCell ⟨g,4,none⟩ v4).setCell ⟨g,5,none⟩ v5=w1):ae w w1 g #[a0,a1,a2,a3,a4,a5] #[v0,v1,v2,v3,v4,v5] T:=h▸ae.mk6 X v0 v1 v2 v3 v4 v5
theorem ae.of10{w w1:World}{g:Nat}{T:TypeId}{a0 a1 a2 a3 a4 a5 a6 a7 a8 a9 v0 v1 v2 v3 v4 v5 v6 v7 v8 v9:Value}(X:Bo w g #[a0,a1,a2,a3,a4,a5,a6,a7,a8,a9] T)(h:((((((((((w.setCell ⟨g,0,none⟩ v0).setCell ⟨g,1,none⟩ v1).setCell ⟨g,2,none⟩ v2).setCell ⟨g,3,none⟩ v3).setCell ⟨g,4,none⟩ v4).setCell ⟨g,5,none⟩ v5).setCell ⟨g,6,none⟩ v6).setCell ⟨g,7,none⟩ v7).setCell ⟨g,8,none⟩ v8).setCell ⟨g,9,none⟩ v9)=w1):ae w w1 g #[a0,a1,a2,a3,a4,a5,a6,a7,a8,a9] #[v0,v1,v2,v3,v4,v5,v6,v7,v8,v9] T:=h▸ae.mk10 X v0 v1 v2 v3 v4 v5 v6 v7 v8 v9
end Go.Proofs.YtomikokonmikgaaGreatDoor
namespace Go.Proofs.YtomikokonmikgaaGreatDoor
open Go.Proofs.Tryz
open Go Go.RowKit
set_option linter.unusedVariables false
def Kg (x y:Int):Int × Int:=if qI x%2=0 then (si (rI x) 40-(tI x y-rI x+200),si (rI x) 40+(tI x y-rI x+200))else (-(si (rI x) 40+(tI x y-rI x+200)),-(si (rI x) 40-(tI x y-rI x+200)))
def J6 (x:Int)(z:Rat):Rat:=if qI x%2=0 then am ((z-(qI x:Rat)*(2*qt*SR)) /SR)else -am ((z-(qI x:Rat)*(2*qt*SR)) /SR)
def TG:List Int:=Hb (2*QH) QK TL
def E6:List Int:=fD TG (sB (QK^82) TL)
theorem zo:gK 2 E6*2^190<=(DD*QK^82).natAbs:=Nat.le_of_ble_eq_true (by decide +kernel)
theorem DJ{x:Rat}(h1: -2<=x)(h2:x<=2): -1<=(am (x+2*qt)+am x)*2^190/\(am (x+2*qt)+am x)*2^190<=1:=by
 obtain⟨a,b⟩:=gx (B:=2) (x:=x) h1 h2 E6;refine fY (m:=DD*QK^82) (by decide +kernel) zo a b ?_
 have e:bJ TG x=am (x+2*qt)*((DD:Int):Rat)*((QK:Int):Rat)^82:=by
  unfold TG
  rw[sw (2*QH) QK (Rat.ne_of_gt BN),CE,fc]
  have q:((2*QH:Int):Rat) / ((QK:Int):Rat)=2*qt:=by
   unfold qt
   rw[Rat.intCast_mul,Rat.div_def,Rat.div_def,Rat.mul_assoc]
   rfl
  rw[q]
 unfold E6
 rw[dA,ii,e,<-fc,Rat.intCast_mul,Rat.intCast_pow];generalize ((QK:Int):Rat)^82=k;generalize ((DD:Int):Rat)=d;generalize am x=s;generalize am (x+2*qt)=c
 grind
theorem iz:(157/100:Rat)<=qt/\qt<=158/100:=by decide +kernel
theorem c1:((1:Int):Rat)=1:=rfl
theorem c0:((0:Int):Rat)=0:=rfl
theorem cm:((-1:Int):Rat)= -1:=rfl
def eO:List (List Int)->Rat->Rat->Rat
 | [],_,_=>0
 | p::P,m,h=>bJ p m+h*eO P m h
def iR:List (List Int)->List (List Int)->List (List Int)
 | [],Q=>Q
 | p::P,[]=>p::P
 | p::P,q::Q=>fD p q::iR P Q
def nj (c:Int):List (List Int)->List (List Int)
 | []=>[]
 | p::P=>sB c p::nj c P
def AP:List (List Int)->List (List Int)
 | []=>[]
 | p::P=>(0::p)::AP P
def FV:List Int->List (List Int)
 | []=>[]
 | a::q=>iR [[a]] (iR (AP (FV q)) ([]::FV q))
def qc:List (List Int)->List (List Int)
 | []=>[]
 | p::P=>p::nj (-1) (qc P)
def mt:List Int->List Int->List (List Int)
 | [],_=>[]
 | a::p,q=>sB a q::mt p q
def mu (B:Nat):List (List Int)->Nat
 | []=>0
 | p::P=>gK B p+B*mu B P
theorem fV:∀(P Q:List (List Int)) (m h:Rat),eO (iR P Q) m h=eO P m h+eO Q m h
 | [],Q,m,h=>by simp only[iR,eO];grind
 | p::P,[],m,h=>by simp only[iR,eO];grind
 | p::P,q::Q,m,h=>by
  simp only[iR,eO];rw[fV P Q m h,dA]
  grind
theorem ig (c:Int):∀(P:List (List Int)) (m h:Rat),eO (nj c P) m h=(c:Rat)*eO P m h
 | [],m,h=>by simp only[nj,eO];grind
 | p::P,m,h=>by
  simp only[nj,eO];rw[ig c P m h,ii]
  grind
theorem By:∀(P:List (List Int)) (m h:Rat),eO (AP P) m h=m*eO P m h
 | [],m,h=>by simp only[AP,eO];grind
 | p::P,m,h=>by
  simp only[AP,eO,bJ];rw[By P m h,c0]
  grind
theorem lH:∀(p:List Int) (m h:Rat),eO (FV p) m h=bJ p (m+h)
 | [],m,h=>by simp only[FV,eO,bJ]
 | a::q,m,h=>by
  simp only[FV];rw[fV,fV,By];simp only[eO,bJ];rw[lH q m h]
  grind
theorem oe:∀(P:List (List Int)) (m h:Rat),eO (qc P) m h=eO P m (-h)
 | [],m,h=>by simp only[qc,eO]
 | p::P,m,h=>by
  simp only[qc,eO];rw[ig,oe P m h,cm]
  grind
theorem ic:∀(p q:List Int) (m h:Rat),eO (mt p q) m h=bJ p h*bJ q m
 | [],q,m,h=>by simp only[mt,eO,bJ];grind
 | a::p,q,m,h=>by
  simp only[mt,eO,bJ];rw[ic p q m h,ii]
  grind
theorem oQ{B:Nat}{m h:Rat}(m1: -(B:Rat)<=m)(m2:m<=(B:Rat))(h1: -(B:Rat)<=h)(h2:h<=(B:Rat)):∀P:List (List Int),-((mu B P:Nat):Rat)<=eO P m h/\eO P m h<=((mu B P:Nat):Rat)
 | []=>by simp only[mu,eO];constructor <;> grind
 | p::P=>by
  obtain⟨i1,i2⟩:=oQ m1 m2 h1 h2 P;obtain⟨a,b⟩:=ax h1 h2 i1 i2;obtain⟨a1,a2⟩:=gx m1 m2 p;simp only[mu,eO];rw[Rat.natCast_add,Rat.natCast_mul]
  constructor <;> grind
def E7:List (List Int):=iR (nj DD (iR (FV TL) (nj (-1) (qc (FV TL))))) (nj (-2) (mt TL (de TL)))
theorem zr:mu 2 E7*2^200<=(DD*DD).natAbs:=Nat.le_of_ble_eq_true (by decide +kernel)
theorem mN{m h:Rat}(m1: -2<=m)(m2:m<=2)(h1: -2<=h)(h2:h<=2): -1<=(am (m+h)-am (m-h)-2*(am h*bg m))*2^200/\(am (m+h)-am (m-h)-2*(am h*bg m))*2^200<=1:=by
 obtain⟨a,b⟩:=oQ (B:=2) (m:=m) (h:=h) m1 m2 h1 h2 E7;refine fY (m:=DD*DD) (by decide +kernel) zr a b ?_
 have e2:((-2:Int):Rat)= -2:=rfl
 unfold E7
 rw[fV,ig,ig,fV,ig,oe,lH,lH,ic,<-fc,<-fc,<-fc,<-ky,Rat.intCast_mul,cm,e2,show m+ -h=m-h by grind]
 generalize ((DD:Int):Rat)=d;generalize am h=s;generalize bg m=c;generalize am (m+h)=u;generalize am (m-h)=v
 grind
theorem vK{y:Rat}(y0:0<=y)(y2:y<=2)(k:Nat):∃f:Rat,0<=f/\f<=1/\tt 1 y (k+1)= -(f*tt 1 y k):=by
 have d:(0:Rat) < ((((2*((k:Int)+1))*(2*((k:Int)+1)+1):Int)):Rat):=Rat.intCast_lt_intCast.2 (Bh k)
 have n6:(6:Int)<=(2*((k:Int)+1))*(2*((k:Int)+1)+1):=by
  have:=Int.mul_le_mul (show (2:Int)<=2*((k:Int)+1) by omega) (show (3:Int)<=2*((k:Int)+1)+1 by omega) (by decide) (by omega)
  omega
 have g:(6:Rat)<=((((2*((k:Int)+1))*(2*((k:Int)+1)+1):Int)):Rat):=Rat.intCast_le_intCast.2 n6
 obtain⟨_,s⟩:=ax (b:=2) (a:=2) (x:=y) (e:=y) (by grind) y2 (by grind) y2;have h:=gR y;simp only[tt];generalize ((((2*((k:Int)+1))*(2*((k:Int)+1)+1):Int)):Rat)=n at *
 have e:y*y/n*n=y*y:=Rat.div_mul_cancel (Rat.ne_of_gt d)
 refine⟨y*y/n,?_,?_,?_⟩
 ·exact Rat.le_of_mul_le_mul_right (c:=n) (by rw[e];grind) d
 ·exact Rat.le_of_mul_le_mul_right (c:=n) (by rw[e];grind) d
 ·rw[Rat.div_def,Rat.div_def]
  grind
theorem FZ{y:Rat}(y0:0<=y)(y2:y<=2):∀j:Nat,0<=tt 1 y (2*j)/\tt 1 y (2*j)<=ss 1 y (2*j)
 | 0=>by
  simp only[tt,ss]
  constructor <;> grind
 | j+1=>by
  obtain⟨a,b⟩:=FZ y0 y2 j;obtain⟨f,e,k,c⟩:=vK y0 y2 (2*j);obtain⟨g,h,g1,d⟩:=vK y0 y2 (2*j+1);have i:=Rat.mul_nonneg e a;have l:=Rat.mul_nonneg (a:=1-f) (b:=tt 1 y (2*j)) (by grind) a;have m:=Rat.mul_nonneg h i
  have e1:tt 1 y (2*(j+1))=g*(f*tt 1 y (2*j)):=by
   show tt 1 y (2*j+1+1)=_
   rw[d,c]
   grind
  have e2:ss 1 y (2*(j+1))=ss 1 y (2*j)+tt 1 y (2*j+1)+tt 1 y (2*(j+1)):=rfl
  rw[e2,e1,c]
  constructor <;> grind
theorem sO{y:Rat}(y0:0<=y)(y2:y<=2):0<=am y:=by
 rw[Hs];obtain⟨a,b⟩:=FZ y0 y2 20;exact Rat.le_trans a b
def Df (B:Rat)(f g:Rat->Rat):Prop:=∃C:Rat,0<=C/\(∀x,-B<=x->x<=B->(-C<=f x/\f x<=C)/\(-C<=g x/\g x<=C))/\
 ∀x h,-B<=x->x<=B-> -B<=x+h->x+h<=B-> -(C*(h*h))<=f (x+h)-f x-h*g x/\f (x+h)-f x-h*g x<=C*(h*h)
theorem Il{C D h e:Rat}(hC:C<=D)(h1: -(C*(h*h))<=e)(h2:e<=C*(h*h)): -(D*(h*h))<=e/\e<=D*(h*h):=by
 have:=Rat.mul_le_mul_of_nonneg_right hC (gR h)
 constructor <;> grind
theorem Df.poly (p:List Int)(B:Nat):Df (B:Rat) (bJ p) (bJ (de p)):=by
 have n1:(0:Rat)<=((gK B p:Nat):Rat):=Rat.natCast_nonneg
 have n2:(0:Rat)<=((gK B (de p):Nat):Rat):=Rat.natCast_nonneg
 have n3:(0:Rat)<=((oN B p:Nat):Rat):=Rat.natCast_nonneg
 refine⟨((gK B p:Nat):Rat)+((gK B (de p):Nat):Rat)+((oN B p:Nat):Rat),by grind,fun x x1 x2=>?_,fun x h x1 x2 y1 y2=>?_⟩
 ·obtain⟨a,b⟩:=gx x1 x2 p;obtain⟨c,d⟩:=gx x1 x2 (de p);refine⟨⟨?_,?_⟩,?_,?_⟩ <;> grind
 ·obtain⟨a,b⟩:=vn x1 x2 y1 y2 p
  unfold qG at a b
  exact Il (C:=((oN B p:Nat):Rat)) (by grind) (by grind) (by grind)
theorem Df.scale{B:Rat}{f g:Rat->Rat}(c:Rat)(H:Df B f g):Df B (fun x=>f x*c) (fun x=>g x*c):=by
 obtain⟨C,e,b,l⟩:=H
 obtain⟨k,a,d,j⟩:∃k,-k<=c/\c<=k/\0<=k:=by
  by_cases h:0<=c
  ·exact⟨c,by grind,by grind,h⟩
  ·exact⟨-c,by grind,by grind,by grind⟩
 refine⟨C*k,Rat.mul_nonneg e j,fun x x1 x2=>?_,fun x h x1 x2 y1 y2=>?_⟩
 ·obtain⟨⟨a1,a2⟩,a3,i⟩:=b x x1 x2;exact⟨ax a1 a2 a d,ax a3 i a d⟩
 ·obtain⟨a1,a2⟩:=l x h x1 x2 y1 y2;have m:=ax a1 a2 a d
  constructor <;> grind
theorem Df.sub{B:Rat}{f g f' g':Rat->Rat}(H:Df B f g)(K:Df B f' g'):Df B (fun x=>f x-f' x) (fun x=>g x-g' x):=by
 obtain⟨C,d,b,l⟩:=H;obtain⟨D,e,a,c⟩:=K
 refine⟨C+D,by grind,fun x x1 x2=>?_,fun x h x1 x2 y1 y2=>?_⟩
 ·obtain⟨⟨a1,a2⟩,a3,i⟩:=b x x1 x2;obtain⟨⟨e1,e2⟩,e3,j⟩:=a x x1 x2;refine⟨⟨?_,?_⟩,?_,?_⟩ <;> grind
 ·obtain⟨a1,a2⟩:=l x h x1 x2 y1 y2;obtain⟨e1,e2⟩:=c x h x1 x2 y1 y2
  constructor <;> grind
theorem Df.id (B:Rat)(hB:0<=B):Df B (fun x=>x) (fun _=>1):=by
 refine⟨B+1,by grind,fun x x1 x2=>?_,fun x h x1 x2 y1 y2=>?_⟩
 ·refine⟨⟨?_,?_⟩,?_,?_⟩ <;> grind
 ·have:=Rat.mul_nonneg (show 0<=B+1 by grind) (gR h)
  constructor <;> grind
theorem Df.mul{B:Rat}{f g f' g':Rat->Rat}(hB:0<=B)(H:Df B f g)(K:Df B f' g'):Df B (fun x=>f x*f' x) (fun x=>g x*f' x+f x*g' x):=by
 obtain⟨C,m,b,l⟩:=H;obtain⟨D,o,c,t⟩:=K;have e:=Rat.mul_nonneg m o;have n:=Rat.mul_nonneg e hB
 refine⟨C*D*(3+2*B),Rat.mul_nonneg e (by grind),fun x x1 x2=>?_,fun x h x1 x2 y1 y2=>?_⟩
 ·obtain⟨⟨a1,a2⟩,a3,a⟩:=b x x1 x2;obtain⟨⟨e1,e2⟩,e3,d⟩:=c x x1 x2;have u:=ax a1 a2 e1 e2;have v:=ax a3 a e1 e2;have w:=ax a1 a2 e3 d;refine⟨⟨?_,?_⟩,?_,?_⟩ <;> grind
 ·obtain⟨⟨a1,a2⟩,a3,a⟩:=b x x1 x2;obtain⟨⟨e1,e2⟩,e3,d⟩:=c x x1 x2;obtain⟨⟨A,E⟩,_,_⟩:=c (x+h) y1 y2;obtain⟨y,z⟩:=l x h x1 x2 y1 y2;obtain⟨j,k⟩:=t x h x1 x2 y1 y2
  have r:f (x+h)*f' (x+h)-f x*f' x-h*(g x*f' x+f x*g' x)=f x*(f' (x+h)-f' x-h*g' x)+f' (x+h)*(f (x+h)-f x-h*g x)+h*h*(g x*g' x)+h*g x*(f' (x+h)-f' x-h*g' x):=by grind
  show -(C*D*(3+2*B)*(h*h))<=f (x+h)*f' (x+h)-f x*f' x-h*(g x*f' x+f x*g' x)/\f (x+h)*f' (x+h)-f x*f' x-h*(g x*f' x+f x*g' x)<=C*D*(3+2*B)*(h*h)
  rw[r];have u:=ax a1 a2 j k;have v:=ax A E y z;have w:=ax a3 a e3 d;have s:=gR h;have i:=ax (b:=2*B) (x:=h) (by grind) (by grind) a3 a;have J:=ax i.1 i.2 j k
  have G:=Rat.mul_nonneg s (show 0<=C*D-g x*g' x by grind)
  have I:=Rat.mul_nonneg s (show 0<=C*D+g x*g' x by grind)
  generalize f' (x+h)-f' x-h*g' x=E2 at *;generalize f (x+h)-f x-h*g x=p at *;generalize h*h=q at *;generalize g x*g' x=F at *;generalize h*g x=hg at *;generalize f x*E2=A1 at *;generalize f' (x+h)*p=A2 at *;generalize hg*E2=A3 at *
  constructor <;> grind
theorem Df.comp{B B':Rat}{f g F G:Rat->Rat}(hB:0<=B)(H:Df B f g)(K:Df B' F G)(hin:∀x,-B<=x->x<=B-> -B'<=f x/\f x<=B'):Df B (fun x=>F (f x)) (fun x=>g x*G (f x)):=by
 obtain⟨C,a,b,l⟩:=H;obtain⟨D,d,n,y⟩:=K;obtain⟨Q,j⟩:∃Q,Q=C*(1+2*B):=⟨_,rfl⟩
 have m:0<=Q:=by rw[j];exact Rat.mul_nonneg a (by grind)
 have I:=Rat.mul_nonneg d (Rat.mul_nonneg m m);have A:=Rat.mul_nonneg a d
 refine⟨D*(Q*Q)+C*D+D,by grind,fun x x1 x2=>?_,fun x h x1 x2 y1 y2=>?_⟩
 ·obtain⟨⟨a1,a2⟩,a3,e⟩:=b x x1 x2;obtain⟨i1,i2⟩:=hin x x1 x2;obtain⟨⟨e1,e2⟩,e3,i⟩:=n (f x) i1 i2;have R:=ax a3 e e3 i;refine⟨⟨?_,?_⟩,?_,?_⟩ <;> grind
 ·obtain⟨⟨a1,a2⟩,a3,e⟩:=b x x1 x2;obtain⟨i1,i2⟩:=hin x x1 x2;obtain⟨o,p⟩:=hin (x+h) y1 y2;obtain⟨⟨e1,e2⟩,e3,i⟩:=n (f x) i1 i2;obtain⟨r,t⟩:=l x h x1 x2 y1 y2;obtain⟨k,w⟩:∃k,f (x+h)=f x+k:=⟨f (x+h)-f x,by grind⟩
  show -((D*(Q*Q)+C*D+D)*(h*h))<=F (f (x+h))-F (f x)-h*(g x*G (f x))/\F (f (x+h))-F (f x)-h*(g x*G (f x))<=(D*(Q*Q)+C*D+D)*(h*h)
  rw[w]at o p r t|-;obtain⟨T,U⟩:=y (f x) k i1 i2 o p;have s:=gR h
  -- k is of first order
  have M:k*k<=Q*Q*(h*h):=by
   have S:(-(2*B)<=h/\h<=2*B):=⟨by grind,by grind⟩
   have L:=Rat.mul_nonneg a s
   by_cases c:0<=h
   ·have z:=ax (b:=h) (x:=h) (by grind) (by grind) a3 e
    have p2:=Rat.mul_nonneg (Rat.mul_nonneg a c) (show 0<=2*B-h by grind)
    have q: -(Q*h)<=k/\k<=Q*h:=by
     rw[j]
     constructor <;> grind
    have n1:=Rat.mul_nonneg (show 0<=Q*h-k by grind) (show 0<=Q*h+k by grind)
    grind
   ·have u:0<= -h:=by grind
    have z:=ax (b:= -h) (x:=h) (by grind) (by grind) a3 e
    have p2:=Rat.mul_nonneg (Rat.mul_nonneg a u) (show 0<=2*B+h by grind)
    have q: -(Q* -h)<=k/\k<=Q* -h:=by
     rw[j]
     constructor <;> grind
    have n1:=Rat.mul_nonneg (show 0<=Q* -h-k by grind) (show 0<=Q* -h+k by grind)
    grind
  have N:=Rat.mul_nonneg d (show 0<=Q*Q*(h*h)-k*k by grind)
  have v:F (f x+k)-F (f x)-h*(g x*G (f x))=(F (f x+k)-F (f x)-k*G (f x))+G (f x)*(f x+k-f x-h*g x):=by grind
  rw[v];have P:=ax e3 i r t;have J:=Rat.mul_nonneg d s;generalize F (f x+k)-F (f x)-k*G (f x)=E at *;generalize G (f x)*(f x+k-f x-h*g x)=W at *;generalize h*h=q at *;generalize k*k=O at *
  constructor <;> grind
theorem lF{d K:Rat}(h:∀n:Nat,d*2^n<=K):d<=0:=by
 by_cases c:d<=0
 ·exact c
 ·exfalso
  have f:0 < d:=Rat.not_le.1 c
  obtain⟨n,g⟩:∃n:Nat,K/d < (n:Rat):=by
   have a:= @Rat.le_ceil (K/d);refine⟨((K/d).ceil).natAbs+1,?_⟩
   have b:(((K/d).ceil:Int):Rat)<=((((K/d).ceil).natAbs:Int):Rat):=Rat.intCast_le_intCast.2 (by omega)
   have e:(((((K/d).ceil).natAbs+1:Nat)):Rat)=((((K/d).ceil).natAbs:Int):Rat)+1:=by
    rw[Rat.natCast_add]
    rfl
   rw[e]
   grind
  have two:∀m:Nat,(m:Rat)<=2^m:=fun m=>by
   induction m with
   | zero=>exact (by decide:((0:Nat):Rat)<=2^0)
   | succ k ih=>
    have p:(1:Rat)<=2^k:=by
     have:∀j:Nat,(1:Rat)<=2^j:=fun j=>by
      induction j with
      | zero=>exact (by decide:(1:Rat)<=2^0)
      | succ j ij=>rw [Rat.pow_succ];grind
     exact this k
    rw[Rat.natCast_add,Rat.pow_succ]
    have e1:((1:Nat):Rat)=1:=rfl
    rw[e1]
    grind
  have q:=h n;have r:=Rat.mul_le_mul_of_nonneg_right (two n) (Rat.le_of_lt f)
  have s:K < (n:Rat)*d:=by
   have m:=Rat.mul_lt_mul_of_pos_right g f;rw[Rat.div_mul_cancel (Rat.ne_of_gt f)]at m;exact m
  grind
theorem Df.grow{B M:Rat}{f g:Rat->Rat}(H:Df B f g)(hg:∀x,-B<=x->x<=B-> -M<=g x/\g x<=M){x h:Rat}(h0:0<=h)(x1: -B<=x)(x2:x+h<=B): -(M*h)<=f (x+h)-f x/\f (x+h)-f x<=M*h:=by
 obtain⟨C,m,_,l⟩:=H
 have i:∀n:Nat,∀x h:Rat,0<=h-> -B<=x->x+h<=B->(f (x+h)-f x-M*h)*2^n<=C*(h*h)/\(-(f (x+h)-f x)-M*h)*2^n<=C*(h*h):=fun n=>by
  induction n with
  | zero=>
   intro x h h0 x1 x2
   obtain⟨a,b⟩:=l x h x1 (by grind) (by grind) x2;obtain⟨c,d⟩:=hg x x1 (by grind)
   have s:=Rat.mul_nonneg h0 (show 0<=M-g x by grind)
   have t:=Rat.mul_nonneg h0 (show 0<=M+g x by grind)
   rw[Rat.pow_zero]
   constructor <;> grind
  | succ n ih=>
   intro x h h0 x1 x2
   have e:x+h/2+h/2=x+h:=by grind
   obtain⟨a1,a2⟩:=ih x (h/2) (by grind) x1 (by grind);obtain⟨j,k⟩:=ih (x+h/2) (h/2) (by grind) (by grind) (by grind);rw[e]at j k;rw[Rat.pow_succ];generalize (2:Rat)^n=p at *;generalize f (x+h/2)=o at *;generalize f (x+h)=r at *;generalize f x=q at *
   constructor <;> grind
 constructor
 ·have:=lF (fun n=>(i n x h h0 x1 x2).2)
  grind
 ·have:=lF (fun n=>(i n x h h0 x1 x2).1)
  grind
def E8:List Int:=fD TH (sB (-(QK^82)) (de TL))
theorem zt:gK 2 E8*2^200<=(DD*QK^82).natAbs:=Nat.le_of_ble_eq_true (by decide +kernel)
theorem Dv{x:Rat}(h1: -2<=x)(h2:x<=2): -1<=(am (x+qt)-bg x)*2^200/\(am (x+qt)-bg x)*2^200<=1:=by
 obtain⟨a,b⟩:=gx (B:=2) (x:=x) h1 h2 E8;refine fY (m:=DD*QK^82) (by decide +kernel) zt a b ?_
 unfold E8
 rw[dA,ii,F3,<-ky,Rat.intCast_neg,Rat.intCast_mul,Rat.intCast_pow];generalize ((QK:Int):Rat)^82=k;generalize ((DD:Int):Rat)=d;generalize bg x=s;generalize am (x+qt)=c
 grind
theorem pw (n:Nat):(0:Rat) < 2^n:=Rat.pow_pos (by decide)
theorem ew{v:Rat}{n:Nat}(h: -1<=v*2^n): -(1/2^n)<=v:=by
 have e:(1/2^n:Rat)*2^n=1:=Rat.div_mul_cancel (Rat.ne_of_gt (pw n))
 exact Rat.le_of_mul_le_mul_right (c:=2^n) (by grind) (pw n)
theorem er{v:Rat}{n:Nat}(h:v*2^n<=1):v<=1/2^n:=by
 have e:(1/2^n:Rat)*2^n=1:=Rat.div_mul_cancel (Rat.ne_of_gt (pw n))
 exact Rat.le_of_mul_le_mul_right (c:=2^n) (by grind) (pw n)
theorem pd{x:Rat}(h1: -2<=x)(h2:x<=2): -(1+1/2^240)<=am x/\am x<=1+1/2^240:=by
 obtain⟨_,b⟩:=Gq h1 h2;have c:=er b;have s:=gR (am (x+qt));refine nE (by decide +kernel) (by grind)
theorem EQ{w:Rat}(h1:0<=w)(h2:w<=2*qt): -(1/2^190)<=am w:=by
 obtain⟨e,f⟩:=iz
 by_cases c:w<=2
 ·have:=sO h1 c
  have p:(0:Rat)<=1/2^190:=by decide +kernel
  grind
 ·have d:=Rat.not_le.1 c
  obtain⟨a,b⟩:=DJ (x:=w-2*qt) (by grind) (by grind);have n:=sO (y:= -(w-2*qt)) (by grind) (by grind);rw[pe]at n
  rw[show w-2*qt+2*qt=w by grind]at a
  have:=ew a
  grind
theorem rB{m:Rat}(h1: -qt<=m)(h2:m<=qt): -(1/2^189)<=bg m:=by
 obtain⟨d,f⟩:=iz;have a:=EQ (w:=m+qt) (by grind) (by grind);obtain⟨_,b⟩:=Dv (x:=m) (by grind) (by grind);have c:=er b
 have e:(1/2^190:Rat)+1/2^200<=1/2^189:=by decide +kernel
 grind
theorem Cp{a b:Rat}(h1: -qt<=a)(h2:a<=b)(h3:b<=qt): -(1/2^186)<=am b-am a:=by
 obtain⟨j,l⟩:=iz;obtain⟨m,hm⟩:∃m,m=(a+b) /2:=⟨_,rfl⟩;obtain⟨h,hh⟩:∃h,h=(b-a) /2:=⟨_,rfl⟩
 have e1:m*2=a+b:=by rw[hm];exact Rat.div_mul_cancel (by decide)
 have e2:h*2=b-a:=by rw[hh];exact Rat.div_mul_cancel (by decide)
 obtain⟨d,_⟩:=mN (m:=m) (h:=h) (by grind) (by grind) (by grind) (by grind)
 have f:=ew d
 rw[show m+h=b by grind,show m-h=a by grind]at f
 have c:=rB (m:=m) (by grind) (by grind);have n:=sO (y:=h) (by grind) (by grind);obtain⟨_,n2⟩:=pd (x:=h) (by grind) (by grind);have k:=Rat.mul_nonneg n (b:=bg m+1/2^189) (by grind)
 have g:(0:Rat)<=1/2^189:=by decide +kernel
 have i:=Rat.mul_le_mul_of_nonneg_right n2 g
 have e:2*((1+1/2^240)*(1/2^189):Rat)+1/2^200<=1/2^186:=by decide +kernel
 generalize (1/2^189:Rat)=u at *;generalize (1/2^240:Rat)=v at *;generalize (1/2^200:Rat)=t at *;generalize (1/2^186:Rat)=r at *
 grind
abbrev LL:Int:=556007400341776889366619349950871382564337615372407628299115012691690451646897885188557125
def an:Nat->Nat->List Int
 | 0,_=>[]
 | f+1,j=>0::(if j%2=0 then LL/ (2*j+1)else -(LL/ (2*j+1)))::an f (j+1)
def AL:List Int:=an 111 0
def i6 (u:Rat):Rat:=bJ AL u*(1/ (LL:Int))
def yG (u:Rat):Rat:=bJ (de AL) u*(1/ (LL:Int))
def F6:Nat->Int->List Int
 | 0,c=>[c]
 | n+1,c=>0::F6 n c
theorem oR (c:Int)(u:Rat):∀n,bJ (F6 n c) u=u^n*(c:Rat)
 | 0=>by simp only[F6,bJ];rw[Rat.pow_zero];grind
 | n+1=>by
  simp only[F6,bJ];rw[oR c u n,Rat.pow_succ,Rat.intCast_zero]
  grind
theorem Ge:fD (mw [1,0,1] (de AL)) [-LL]=fD (F6 222 LL) (F6 223 0):=by decide +kernel
theorem rX:(0:Rat) < ((LL:Int):Rat):=by
 have h:(0:Int) < LL:=by decide
 exact Rat.intCast_lt_intCast.2 h
theorem pK (u:Rat):(1+u*u)*yG u=1+u^222:=by
 have h:=congrArg (fun p=>bJ p u) Ge
 have a:bJ (fD (mw [1,0,1] (de AL)) [-LL]) u=bJ (fD (F6 222 LL) (F6 223 0)) u:=h
 rw[dA,jh,dA,oR,oR,Rat.intCast_zero,Rat.mul_zero,Rat.add_zero]at a
 have e1:bJ [1,0,1] u=1+u*u:=by
  simp only[bJ]
  rw[Rat.intCast_zero,show ((1:Int):Rat)=1 from rfl]
  grind
 have e2:bJ [-LL] u= -((LL:Int):Rat):=by
  simp only[bJ];rw[Rat.intCast_neg]
  grind
 rw[e1,e2]at a
 have e3:(1/ ((LL:Int):Rat))*((LL:Int):Rat)=1:=Rat.div_mul_cancel (Rat.ne_of_gt rX)
 have p:=rX
 unfold yG
 generalize bJ (de AL) u=d at *;generalize ((LL:Int):Rat)=l at *;generalize (1/l:Rat)=i at *;generalize u^222=q at *
 have k:((1+u*u)*(d*i)-(1+q))*l=0:=by grind
 rcases Rat.mul_eq_zero.1 k with g | g
 ·grind
 ·exact absurd g (Rat.ne_of_gt p)
theorem BE{v:Rat}(h0:0<=v)(h1:v<=1/4):∀n:Nat,0<=v^n/\v^n<=(1/4)^n
 | 0=>by rw[Rat.pow_zero,Rat.pow_zero];constructor <;> grind
 | n+1=>by
  obtain⟨a,b⟩:=BE h0 h1 n;rw[Rat.pow_succ,Rat.pow_succ];have d:=Rat.mul_nonneg a h0;have e:=Rat.mul_le_mul_of_nonneg_right b h0
  have c:(0:Rat)<=(1/4)^n:=Rat.le_trans a b
  have f:=Rat.mul_nonneg c (show 0<=1/4-v by grind)
  constructor <;> grind
theorem vm (u:Rat):∀n:Nat,u^(2*n)=(u*u)^n
 | 0=>by rw[Nat.mul_zero,Rat.pow_zero,Rat.pow_zero]
 | n+1=>by
  rw[show 2*(n+1)=2*n+1+1 by omega,Rat.pow_succ,Rat.pow_succ,Rat.pow_succ,vm u n]
  grind
theorem BQ:((1:Rat) /4)^111<=1/2^222:=by decide +kernel
theorem vk{u:Rat}(h1: -(1/2)<=u)(h2:u<=1/2):0<=u^222/\u^222<=1/2^222:=by
 have s:0<=u*u:=gR u
 have t:u*u<=1/4:=by
  have:=Rat.mul_nonneg (show 0<=1/2-u by grind) (show 0<=1/2+u by grind)
  grind
 have e:u^222=(u*u)^111:=vm u 111
 rw[e];obtain⟨a,b⟩:=BE s t 111;exact⟨a,Rat.le_trans b BQ⟩
theorem Df.le{B B':Rat}{f g:Rat->Rat}(H:Df B f g)(h:B'<=B):Df B' f g:=by
 obtain⟨C,a,b,l⟩:=H
 exact⟨C,a,fun x x1 x2=>b x (by grind) (by grind),fun x y x1 x2 y1 y2=>l x y (by grind) (by grind) (by grind) (by grind)⟩
theorem pJ:Df (1/2) i6 yG:=by
 have h:=(Df.poly AL 1).scale (1/ (LL:Int))
 have e:((1:Nat):Rat)=1:=rfl
 rw[e]at h;exact h.le (by grind)
theorem i7:i6 0=0:=by
 have e:bJ AL 0=0:=by
  show bJ (an 111 0) 0=0
  unfold an
  simp only[bJ];rw[Rat.intCast_zero]
  grind
 unfold i6
 rw[e]
 grind
theorem yH{u:Rat}(h1: -(1/2)<=u)(h2:u<=1/2):0<=yG u/\yG u<=1+1/2^222:=by
 have e:=pK u;obtain⟨a,b⟩:=vk h1 h2;have s:=gR u;generalize u^222=q at *;generalize (1/2^222:Rat)=t at *;generalize yG u=d at *
 have f:0<=d:=by
  by_cases c:0<=d
  ·exact c
  ·exfalso
   have:=Rat.mul_nonneg s (show 0<= -d by grind)
   grind
 have m:=Rat.mul_nonneg s f
 constructor <;> grind
theorem yL{u:Rat}(h1: -(1/2)<=u)(h2:u<=1/2): -(2/3)<=i6 u/\i6 u<=2/3:=by
 have g:=fun x (x1: -(1/2:Rat)<=x) (x2:x<=1/2)=>(show -(4/3)<=yG x/\yG x<=4/3 by
  obtain⟨a,b⟩:=yH x1 x2
  have e:(1/2^222:Rat)<=1/3:=by decide +kernel
  generalize (1/2^222:Rat)=t at *
  constructor <;> grind)
 have z:=i7
 by_cases c:0<=u
 ·have k:=pJ.grow g (x:=0) (h:=u) c (by grind) (by grind)
  rw[show (0:Rat)+u=u by grind,z]at k
  constructor <;> grind
 ·have k:=pJ.grow g (x:=u) (h:= -u) (by grind) (by grind) (by grind)
  rw[show u+ -u=0 by grind,z]at k
  constructor <;> grind
def Dp (x:Rat):Rat:=bJ (de (de TL)) x*(1/ (DD:Int))
theorem zu:gK 2 (fD (de (de TL)) TL)*2^280<=DD.natAbs:=Nat.le_of_ble_eq_true (by decide +kernel)
theorem mM:Df 2 am bg:=by
 have h:=(Df.poly TL 2).scale (1/ (DD:Int))
 have e:((2:Nat):Rat)=2:=rfl
 rw[e]at h
 have a:(fun x=>bJ TL x*(1/ ((DD:Int):Rat)))=am:=by
  funext x
  unfold am
  grind
 have b:(fun x=>bJ (de TL) x*(1/ ((DD:Int):Rat)))=bg:=by
  funext x
  unfold bg
  grind
 rw[a,b]at h;exact h
theorem rA:Df 2 bg Dp:=by
 have h:=(Df.poly (de TL) 2).scale (1/ (DD:Int))
 have e:((2:Nat):Rat)=2:=rfl
 rw[e]at h
 have a:(fun x=>bJ (de TL) x*(1/ ((DD:Int):Rat)))=bg:=by
  funext x
  unfold bg
  grind
 rw[a]at h;exact h
theorem tu{x:Rat}(h1: -2<=x)(h2:x<=2): -1<=(Dp x+am x)*2^280/\(Dp x+am x)*2^280<=1:=by
 have e2:((2:Nat):Rat)=2:=rfl
 obtain⟨a,b⟩:=gx (B:=2) (x:=x) (by rw[e2];exact h1) (by rw[e2];exact h2) (fD (de (de TL)) TL);refine fY (n:=gK 2 (fD (de (de TL)) TL)) (m:=DD) (by decide) zu a b ?_;rw[dA];have s:=fc x
 have c:(1/ ((DD:Int):Rat))*((DD:Int):Rat)=1:=Rat.div_mul_cancel (Rat.ne_of_gt lU)
 unfold Dp
 generalize (1/ ((DD:Int):Rat))=i at *;generalize ((DD:Int):Rat)=d at *
 grind
def fz (u:Rat):Rat:=am (i6 u)-u*bg (i6 u)
def gz (u:Rat):Rat:=yG u*bg (i6 u)-(1*bg (i6 u)+u*(yG u*Dp (i6 u)))
theorem tq{x:Rat}(x1: -(1/2)<=x)(x2:x<=1/2): -2<=i6 x/\i6 x<=2:=by
 obtain⟨a,b⟩:=yL x1 x2
 constructor <;> grind
theorem FB:Df (1/2) fz gz:=by
 have s:=Df.comp (B:=1/2) (B':=2) (by grind) pJ mM (fun x x1 x2=>tq x1 x2)
 have c:=Df.comp (B:=1/2) (B':=2) (by grind) pJ rA (fun x x1 x2=>tq x1 x2)
 have m:=Df.mul (B:=1/2) (by grind) (Df.id (1/2) (by grind)) c;exact s.sub m
theorem ln{x:Rat}(h1: -2<=x)(h2:x<=2): -(1+1/2^200)<=bg x/\bg x<=1+1/2^200:=by
 obtain⟨a,b⟩:=tw h1 h2;have c:=er b;have s:=gR (am x);refine nE (by decide +kernel) (by grind)
theorem zx:(1/2^222:Rat)*2+1/2^280*2+(1/2^222:Rat)<=1/2^220/\(1/2^200:Rat)<=1/3/\(1/2^240:Rat)<=1/3/\(0:Rat)<=1/2^220/\(0:Rat)<=1/2^280/\(0:Rat)<=1/2^222/\(1/2^222:Rat)<=1/4:=by decide +kernel
theorem IT{u M:Rat}(u1: -(1/2)<=u)(u2:u<=1/2)(f1: -M<=fz u)(f2:fz u<=M): -(M/2+1/2^220)<=gz u/\gz u<=M/2+1/2^220:=by
 have sl:=pK u;obtain⟨N,t⟩:=vk u1 u2;obtain⟨a1,a2⟩:=tq u1 u2;obtain⟨n,o⟩:=tu a1 a2
 have f:=ew n
 have h:=er o
 obtain⟨y,B⟩:=ln a1 a2;obtain⟨s1,s2⟩:=pd a1 a2;obtain⟨e1,e2,e3,D,E,F,H⟩:=zx
 unfold fz at f1 f2
 unfold gz
 generalize i6 u=A at *;generalize yG u=p at *;generalize u^222=q at *;obtain⟨τ,l⟩:∃τ,τ=Dp A+am A:=⟨_,rfl⟩
 have k:Dp A=τ-am A:=by grind
 rw[<-l]at f h;rw[k];generalize am A=s at *;generalize bg A=c at *;clear n o l k;generalize (1/2^222:Rat)=d at *;generalize (1/2^280:Rat)=e at *;generalize (1/2^220:Rat)=g at *;generalize (1/2^200:Rat)=v at *;generalize (1/2^240:Rat)=z at *
 -- (1+u u) times the slope
 obtain⟨G,j⟩:∃G,G=p*c-(1*c+u*(p*(τ-s))):=⟨_,rfl⟩;rw[<-j]
 have i:(1+u*u)*G=u*(s-u*c)+(q*(c+u*s)-u*(1+q)*τ):=by
  rw[j]
  have:(1+u*u)*(p*c-(1*c+u*(p*(τ-s))))=((1+u*u)*p)*c-(1+u*u)*c-u*((1+u*u)*p)*(τ-s):=by grind
  rw[this,sl]
  grind
 have w:0<=M:=by grind
 have I:=ax u1 u2 f1 f2
 have cs: -2<=c+u*s/\c+u*s<=2:=by
  have:=ax u1 u2 s1 s2
  constructor <;> grind
 have J:=ax (b:=d) (x:=q) (by grind) t cs.1 cs.2;have m:=ax (b:=1/2) (x:=u) (a:=5/4) (e:=1+q) u1 u2 (by grind) (by grind);have L:=ax m.1 m.2 f h
 have C: -(M/2+g)<=(1+u*u)*G/\(1+u*u)*G<=M/2+g:=by
  rw[i];generalize u*(s-u*c)=W1 at *;generalize q*(c+u*s)=W2 at *;generalize u*(1+q)*τ=W3 at *
  constructor <;> grind
 have r:=gR u
 constructor
 ·by_cases c0:0<=G
  ·grind
  ·have:=Rat.mul_nonneg r (show 0<= -G by grind)
   grind
 ·by_cases c0:0<=G
  ·have:=Rat.mul_nonneg r c0
   grind
  ·grind
theorem ki:am 0=0:=by
 have h:=pe 0
 rw[show (-0:Rat)=0 from by decide]at h
 grind
theorem DI:fz 0=0:=by
 unfold fz
 rw[i7,ki]
 grind
theorem qU{u:Rat}(u1: -(1/2)<=u)(u2:u<=1/2): -(1/2^220)<=am (i6 u)-u*bg (i6 u)/\am (i6 u)-u*bg (i6 u)<=1/2^220:=by
 obtain⟨e1,e2,e3,s,C,D,E⟩:=zx
 have d:∀n:Nat,∀x:Rat,-(1/2)<=x->x<=1/2->(fz x-1/2^220)*2^n<=2/\(-fz x-1/2^220)*2^n<=2:=fun n=>by
  induction n with
  | zero=>
   intro x i x2
   obtain⟨a1,a2⟩:=tq i x2;obtain⟨o,q⟩:=ln a1 a2;obtain⟨s1,s2⟩:=pd a1 a2;have m:=ax i x2 o q;generalize (1/2^220:Rat)=g at *;rw[Rat.pow_zero]
   unfold fz
   generalize (1/2^200:Rat)=v at *;generalize (1/2^240:Rat)=z at *
   constructor <;> grind
  | succ n ih=>
   intro x i x2
   -- all are bounded by M
   obtain⟨M,l⟩:∃M:Rat,(M-1/2^220)*2^n=2:=by
    refine⟨2/2^n+1/2^220,?_⟩
    have:=Rat.div_mul_cancel (a:=2) (Rat.ne_of_gt (pw n))
    generalize (2:Rat) /2^n=t at *
    grind
   have e:=pw n
   have j:∀y:Rat,-(1/2)<=y->y<=1/2-> -M<=fz y/\fz y<=M:=fun y y1 y2=>by
    obtain⟨w,A⟩:=ih y y1 y2
    have h1:fz y-1/2^220<=M-1/2^220:=Rat.le_of_mul_le_mul_right (c:=2^n) (by rw[l];exact w) e
    have h2: -fz y-1/2^220<=M-1/2^220:=Rat.le_of_mul_le_mul_right (c:=2^n) (by rw[l];exact A) e
    generalize (1/2^220:Rat)=g at *
    constructor <;> grind
   have gb:∀y:Rat,-(1/2)<=y->y<=1/2-> -(M/2+1/2^220)<=gz y/\gz y<=M/2+1/2^220:=fun y y1 y2=>IT y1 y2 (j y y1 y2).1 (j y y1 y2).2
   have z:=DI
   have B:0<=M:=by
    have:=j x i x2
    grind
   have r: -(M/4+1/2^220/2)<=fz x/\fz x<=M/4+1/2^220/2:=by
    by_cases c:0<=x
    ·have k:=FB.grow gb (x:=0) (h:=x) c (by grind) (by grind)
     rw[show (0:Rat)+x=x by grind,z]at k
     have m:=Rat.mul_nonneg (show 0<=M/2+1/2^220 by grind) (show 0<=1/2-x by grind)
     generalize (1/2^220:Rat)=g at *
     constructor <;> grind
    ·have k:=FB.grow gb (x:=x) (h:= -x) (by grind) (by grind) (by grind)
     rw[show x+ -x=0 by grind,z]at k
     have m:=Rat.mul_nonneg (show 0<=M/2+1/2^220 by grind) (show 0<=1/2+x by grind)
     generalize (1/2^220:Rat)=g at *
     constructor <;> grind
   generalize (1/2^220:Rat)=g at *;rw[Rat.pow_succ];generalize (2:Rat)^n=p at *;generalize fz x=f at *
   have F:=Rat.mul_nonneg (Rat.le_of_lt e) (show 0<=M/4+g/2-f by grind)
   have G:=Rat.mul_nonneg (Rat.le_of_lt e) (show 0<=M/4+g/2+f by grind)
   have H:=Rat.mul_nonneg (Rat.le_of_lt e) s
   constructor <;> grind
 have a:=lF (fun n=>(d n u u1 u2).1)
 have b:=lF (fun n=>(d n u u1 u2).2)
 unfold fz at a b
 constructor <;> grind
def aT (m:Int):Nat->Int
 | 0=>m
 | k+1=>aT m k*m/SC*m/SC
def aS (m:Int):Nat->Int
 | 0=>0
 | k+1=>aS m k+(if k%2=1 then -(aT m k/ (2*(k:Int)+1))else aT m k/ (2*(k:Int)+1))
def eT (y:Rat):Nat->Rat
 | 0=>y
 | k+1=>eT y k*y*y
def eS (y:Rat):Nat->Rat
 | 0=>0
 | k+1=>eS y k+(if k%2=1 then -(eT y k/ ((2*(k:Int)+1:Int):Rat))else eT y k/ ((2*(k:Int)+1:Int):Rat))
theorem GO:∀j:Fin 111,LL%(2*(j.val:Int)+1)=0:=by decide +kernel
theorem yF (y:Rat):∀f j:Nat,j+f<=111->eT y j*bJ (an f j) y=(eS y (j+f)-eS y j)*((LL:Int):Rat)*y
 | 0,j,_=>by
  simp only[an,bJ,Nat.add_zero]
  grind
 | f+1,j,hj=>by
  have ih:=yF y f (j+1) (by omega);have o:=GO ⟨j,by omega⟩
  simp only at o;obtain⟨L,b⟩:∃L,LL/ (2*(j:Int)+1)=L:=⟨_,rfl⟩
  have m:L*(2*(j:Int)+1)=LL:=by
   rw[<-b];exact Int.ediv_mul_cancel (Int.dvd_of_emod_eq_zero o)
  have i:=congrArg (fun z:Int=>(z:Rat)) m
  have e:((L*(2*(j:Int)+1):Int):Rat)=((LL:Int):Rat):=i
  rw[Rat.intCast_mul]at e
  have p:(0:Rat) < ((2*(j:Int)+1:Int):Rat):=Rat.intCast_lt_intCast.2 (show (0:Int) < 2*(j:Int)+1 by omega)
  have d:=Rat.div_mul_cancel (a:=eT y j) (Rat.ne_of_gt p)
  rw[show j+1+f=j+(f+1) by omega]at ih
  have g:eS y (j+1)=eS y j+(if j%2=1 then -(eT y j/ ((2*(j:Int)+1:Int):Rat))else eT y j/ ((2*(j:Int)+1:Int):Rat)):=rfl
  have h:eT y (j+1)=eT y j*y*y:=rfl
  rw[g,h]at ih;simp only[an,bJ];rw[b,Rat.intCast_zero];generalize eS y (j+(f+1))=n at *;generalize eS y j=k at *;generalize bJ (an f (j+1)) y=R at *;generalize ((2*(j:Int)+1:Int):Rat)=q at *;generalize ((LL:Int):Rat)=l at *;generalize eT y j=t at *;generalize t/q=w at *;clear g h m i o b hj
  by_cases c:j%2=1
  ·rw[if_pos c]at ih
   rw[if_neg (show ¬j%2=0 by omega),Rat.intCast_neg]
   generalize ((L:Int):Rat)=v at *;rw[<-e]at ih|-;rw[<-d]at ih|-
   grind
  ·rw[if_neg c]at ih
   rw[if_pos (show j%2=0 by omega)]
   generalize ((L:Int):Rat)=v at *;rw[<-e]at ih|-;rw[<-d]at ih|-
   grind
theorem Gi (y:Rat)(h:y≠0):eS y 111=i6 y:=by
 have k:=yF y 111 0 (by omega)
 have e0:eS y 0=0:=rfl
 have a:eT y 0=y:=rfl
 rw[Nat.zero_add,e0,a]at k
 have c:(1/ ((LL:Int):Rat))*((LL:Int):Rat)=1:=Rat.div_mul_cancel (Rat.ne_of_gt rX)
 unfold i6 AL
 generalize bJ (an 111 0) y=P at *;generalize eS y 111=S at *;generalize (1/ ((LL:Int):Rat))=i at *;generalize ((LL:Int):Rat)=l at *
 have z:y*(P*i-S)=0:=by grind
 rcases Rat.mul_eq_zero.1 z with g | g
 ·exact absurd g h
 ·grind
theorem yM{m:Int}{y:Rat}(hy:y*SR=(m:Rat))(y1: -(1/2)<=y)(y2:y<=1/2):∀k:Nat,(-2<=((aT m k:Int):Rat)-eT y k*SR/\((aT m k:Int):Rat)-eT y k*SR<=2)/\
  (-(5/3*(k:Rat))<=((aS m k:Int):Rat)-eS y k*SR/\((aS m k:Int):Rat)-eS y k*SR<=5/3*(k:Rat))
 | 0=>by
  have e0:aT m 0=m:=rfl
  have e1:eT y 0=y:=rfl
  have e2:aS m 0=0:=rfl
  have e3:eS y 0=0:=rfl
  rw[e0,e1,e2,e3,Rat.intCast_zero,show ((0:Nat):Rat)=0 from rfl,hy]
  refine⟨⟨?_,?_⟩,?_,?_⟩ <;> grind
 | k+1=>by
  obtain⟨⟨a1,a2⟩,h,i⟩:=yM hy y1 y2 k
  have u:aT m (k+1)=aT m k*m/SC*m/SC:=rfl
  have B:eT y (k+1)=eT y k*y*y:=rfl
  have A:aS m (k+1)=aS m k+(if k%2=1 then -(aT m k/ (2*(k:Int)+1))else aT m k/ (2*(k:Int)+1)):=rfl
  have w:eS y (k+1)=eS y k+(if k%2=1 then -(eT y k/ ((2*(k:Int)+1:Int):Rat))else eT y k/ ((2*(k:Int)+1:Int):Rat)):=rfl
  obtain⟨v,n⟩:∃v,aT m k*m/SC=v:=⟨_,rfl⟩;obtain⟨s,v2⟩:=rK (aT m k*m) SC (by decide) (z:=((aT m k:Int):Rat)*y) (by rw[Rat.intCast_mul,<-hy];grind);rw[n]at s v2;obtain⟨F,G⟩:=rK (v*m) SC (by decide) (z:=(v:Rat)*y) (by rw[Rat.intCast_mul,<-hy];grind)
  have g:(0:Rat) < ((2*(k:Int)+1:Int):Rat):=Rat.intCast_lt_intCast.2 (show (0:Int) < 2*(k:Int)+1 by omega)
  obtain⟨w1,d⟩:=rK (aT m k) (2*(k:Int)+1) (by omega) (z:=((aT m k:Int):Rat) / ((2*(k:Int)+1:Int):Rat)) (Rat.div_mul_cancel (Rat.ne_of_gt g));rw[u,B,n]
  have t:0<=y*y/\y*y<=1/4:=by
   have:=Rat.mul_nonneg (show 0<=1/2-y by grind) (show 0<=1/2+y by grind)
   exact⟨gR y,by grind⟩
  have E:=ax (b:=2) (x:=((aT m k:Int):Rat)-eT y k*SR) (a:=1/4) (e:=y*y) a1 a2 (by grind) t.2
  -- the term
  have f:∀q:Int,aT m k/ (2*(k:Int)+1)=q-> -(5/3)<=(q:Rat)-eT y k/ ((2*(k:Int)+1:Int):Rat)*SR/\(q:Rat)-eT y k/ ((2*(k:Int)+1:Int):Rat)*SR<=5/3:=fun q hq=>by
   rw[hq]at w1 d;have j:=Rat.div_mul_cancel (a:=((aT m k:Int):Rat)) (Rat.ne_of_gt g);have l:=Rat.div_mul_cancel (a:=eT y k) (Rat.ne_of_gt g)
   by_cases C:k=0
   ·subst C
    have e0:aT m 0=m:=rfl
    have e1:eT y 0=y:=rfl
    have c1:((2*((0:Nat):Int)+1:Int):Rat)=1:=rfl
    rw[c1]at j l w1 d|-;rw[e0]at j w1 d;rw[e1]at l|-;generalize (m:Rat) /1=g1 at *;generalize y/1=g2 at *
    rw[show g2=y by grind,hy]
    constructor <;> grind
   ·have I:(3:Rat)<=((2*(k:Int)+1:Int):Rat):=Rat.intCast_le_intCast.2 (show (3:Int)<=2*(k:Int)+1 by omega)
    generalize ((2*(k:Int)+1:Int):Rat)=p at *;generalize ((aT m k:Int):Rat) /p=g1 at *;generalize eT y k/p=g2 at *
    have H:(g1-g2*SR)*p=((aT m k:Int):Rat)-eT y k*SR:=by grind
    have n1:g1-g2*SR<=2/3:=by
     by_cases c:g1-g2*SR<=2/3
     ·exact c
     ·exfalso
      have:=Rat.mul_nonneg (show 0<=p-3 by grind) (show 0<=g1-g2*SR by grind)
      grind
    have n2: -(2/3)<=g1-g2*SR:=by
     by_cases c: -(2/3)<=g1-g2*SR
     ·exact c
     ·exfalso
      have:=Rat.mul_nonneg (show 0<=p-3 by grind) (show 0<= -(g1-g2*SR) by grind)
      grind
    constructor <;> grind
  obtain⟨o,r⟩:=f _ rfl;refine⟨⟨?_,?_⟩,?_⟩
  ·generalize ((aT m k:Int):Rat)=T at *;generalize eT y k=e at *;generalize (((v*m/SC:Int)):Rat)=z at *;generalize (v:Rat)=V at *;have D:=ax (b:=1/2) (x:=y) (a:=1) (e:=T*y-V) y1 y2 (by grind) (by grind);clear f w1 d o r h i
   grind
  ·generalize ((aT m k:Int):Rat)=T at *;generalize eT y k=e at *;generalize (((v*m/SC:Int)):Rat)=z at *;generalize (v:Rat)=V at *;have D:=ax (b:=1/2) (x:=y) (a:=1) (e:=T*y-V) y1 y2 (by grind) (by grind);clear f w1 d o r h i
   grind
  ·rw[A,w,Rat.natCast_add,show ((1:Nat):Rat)=1 from rfl]
   clear f E t F G s v2 w1 d a1 a2
   by_cases c:k%2=1
   ·rw[if_pos c,if_pos c,Rat.intCast_add,Rat.intCast_neg]
    constructor <;> grind
   ·rw[if_neg c,if_neg c,Rat.intCast_add]
    constructor <;> grind
theorem yO{m:Int}{y:Rat}(hy:y*SR=(m:Rat))(y1: -(1/2)<=y)(y2:y<=1/2): -185<=((aS m 111:Int):Rat)-i6 y*SR/\((aS m 111:Int):Rat)-i6 y*SR<=185:=by
 by_cases h:y=0
 ·subst h
  have c:m=0:=by
   rw[Rat.zero_mul]at hy;exact Rat.intCast_inj.1 (hy.symm.trans rfl)
  subst c
  have z:aS 0 111=0:=by decide +kernel
  rw[z,i7];rw[Rat.intCast_zero]
  constructor <;> grind
 ·obtain⟨_,a,b⟩:=yM hy y1 y2 111;rw[Gi y h]at a b
  have e:((111:Nat):Rat)=111:=rfl
  rw[e]at a b
  constructor <;> grind
def JI:List (List Int):=iR (nj DD (FV (de TL))) (iR (nj (-1) (mt (de TL) (de TL))) (mt TL TL))
theorem wH:mu 2 JI*2^200<=(DD*DD).natAbs:=Nat.le_of_ble_eq_true (by decide +kernel)
theorem oB{m h:Rat}(m1: -2<=m)(m2:m<=2)(h1: -2<=h)(h2:h<=2): -1<=(bg (m+h)-(bg m*bg h-am m*am h))*2^200/\(bg (m+h)-(bg m*bg h-am m*am h))*2^200<=1:=by
 obtain⟨a,b⟩:=oQ (B:=2) (m:=m) (h:=h) m1 m2 h1 h2 JI;refine fY (m:=DD*DD) (by decide +kernel) wH a b ?_
 unfold JI
 rw[fV,ig,fV,ig,ic,ic,lH,<-fc,<-fc,<-ky,<-ky,<-ky,Rat.intCast_mul,cm];generalize ((DD:Int):Rat)=d;generalize am h=s;generalize bg m=c;generalize am m=u;generalize bg h=v;generalize bg (m+h)=w
 grind
theorem o9{m h:Rat}(m1: -2<=m)(m2:m<=2)(h1: -2<=h)(h2:h<=2): -1<=(am (m+h)-(am m*bg h+bg m*am h))*2^200/\(am (m+h)-(am m*bg h+bg m*am h))*2^200<=1:=by
 obtain⟨a1,a2⟩:=mN m1 m2 h1 h2;obtain⟨a,b⟩:=mN h1 h2 m1 m2
 have e:am (h-m)= -am (m-h):=by
  rw[show h-m= -(m-h) by grind,pe]
 rw[e,show h+m=m+h by grind]at a b
 generalize (2:Rat)^200=p at *;generalize am (m+h)=x at *;generalize am (m-h)=y at *;generalize am h=s at *;generalize bg m=c at *;generalize am m=u at *;generalize bg h=v at *
 constructor <;> grind
theorem Df.rise{B k:Rat}{f g:Rat->Rat}(hB:0<=B)(H:Df B f g){a x h:Rat}(h0:0<=h)(x1: -B<=x)(x2:x+h<=B)(hx:x+h<=a)(hax: -a<=x)(ha:a<=B)(hg:∀y,-a<=y->y<=a->k<=g y):k*h<=f (x+h)-f x:=by
 obtain⟨C,d,b,l⟩:=H.le ha
 have K:∃M,∀y,-a<=y->y<=a->g y<=M:=⟨C,fun y y1 y2=>(b y y1 y2).2.2⟩
 obtain⟨M,c⟩:=K
 have a0:0<=a:=by grind
 have I:=(Df.id a a0).scale ((M+k) /2);have D:=(H.le ha).sub I
 have s:=D.grow (M:=(M-k) /2) (fun y y1 y2=>by
  have p:=hg y y1 y2;have q:=c y y1 y2
  constructor <;> grind) h0 hax hx
 have s1:=s.1
 grind
theorem tx{x:Rat}(h1: -(1/2)<=x)(h2:x<=1/2):2/3<=bg x:=by
 have j:99/100<=bg 0:=by decide +kernel
 have f:∀y:Rat,-(1/2)<=y->y<=1/2-> -(51/100)<=am y/\am y<=51/100:=fun y y1 y2=>by
  have g:∀z:Rat,-(1/2)<=z->z<=1/2-> -(101/100)<=bg z/\bg z<=101/100:=fun z z1 z2=>by
   obtain⟨a,b⟩:=ln (x:=z) (by grind) (by grind)
   have e:(1/2^200:Rat)<=1/100:=by decide +kernel
   generalize (1/2^200:Rat)=t at *
   constructor <;> grind
  have z:=ki
  by_cases c:0<=y
  ·have k:=(mM.le (show (1/2:Rat)<=2 by grind)).grow g (x:=0) (h:=y) c (by grind) (by grind)
   rw[show (0:Rat)+y=y by grind,z]at k
   constructor <;> grind
  ·have k:=(mM.le (show (1/2:Rat)<=2 by grind)).grow g (x:=y) (h:= -y) (by grind) (by grind) (by grind)
   rw[show y+ -y=0 by grind,z]at k
   constructor <;> grind
 have g:∀z:Rat,-(1/2)<=z->z<=1/2-> -(6/10)<=Dp z/\Dp z<=6/10:=fun z z1 z2=>by
  obtain⟨a,b⟩:=f z z1 z2;obtain⟨c,d⟩:=tu (x:=z) (by grind) (by grind)
  have i:=ew c
  have l:=er d
  have e:(1/2^280:Rat)<=1/100:=by decide +kernel
  generalize (1/2^280:Rat)=t at *
  constructor <;> grind
 by_cases c:0<=x
 ·have k:=(rA.le (show (1/2:Rat)<=2 by grind)).grow g (x:=0) (h:=x) c (by grind) (by grind)
  rw[show (0:Rat)+x=x by grind]at k
  grind
 ·have k:=(rA.le (show (1/2:Rat)<=2 by grind)).grow g (x:=x) (h:= -x) (by grind) (by grind) (by grind)
  rw[show x+ -x=0 by grind]at k
  grind
theorem vI{x:Rat}(h1:0<=x)(h2:x<=qt):x/5<=am x:=by
 obtain⟨d,f⟩:=iz;have z:=ki
 have base:∀y:Rat,0<=y->y<=1/2->2/3*y<=am y:=fun y y0 y2=>by
  have k:=Df.rise (B:=2) (k:=2/3) (by grind) mM (a:=1/2) (x:=0) (h:=y) y0 (by grind) (by grind) (by grind) (by grind) (by grind) (fun z z1 z2=>tx z1 z2)
  rw[show (0:Rat)+y=y by grind,z]at k
  grind
 by_cases c:x<=1/2
 ·have:=base x h1 c
  grind
 ·have a:=base (1/2) (by grind) (by grind);have m:=Cp (a:=1/2) (b:=x) (by grind) (by grind) h2
  have e:(1/2^186:Rat)<=1/300:=by decide +kernel
  generalize (1/2^186:Rat)=t at *
  grind
def pU (v:Int):Int:=if SC < v*2 then (v-SC)*SC/ (v+SC)else v
def pA (v:Int):Int:=if SC < v*2 then iE/4 else 0
def pB (v:Int):Int:=if SC < v*2 then iD/4+1 else 0
def pL (v:Int):Int:=pA v+aS (pU v) 111+ -400
def pH (v:Int):Int:=pB v+aS (pU v) 111+400
def be (v:Int):Rat:=(if SC < v*2 then qt/2 else 0)+i6 ((pU v:Rat) /SR)
theorem dT (u:Int):(u:Rat) /SR*SR=(u:Rat):=Rat.div_mul_cancel (Rat.ne_of_gt bV)
theorem vj{v:Int}(h0:0<=v)(h1:v<=SC): -(SC/3+1)<=pU v/\2*pU v<=SC:=by
 unfold pU
 by_cases c:SC < v*2
 ·rw[if_pos c]
  have d:(0:Int) < SC:=by decide
  have hd:0 < v+SC:=by omega
  have a:=Int.ediv_mul_le ((v-SC)*SC) (Int.ne_of_gt hd);have b:=Int.lt_ediv_add_one_mul_self ((v-SC)*SC) hd;generalize (v-SC)*SC/ (v+SC)=u at *
  constructor
  ·rcases Int.lt_or_le u (-(SC/3+1))with k | k
   ·exfalso
    have m:=Int.mul_le_mul_of_nonneg_right (show u+1<= -(SC/3+1) by omega) (Int.le_of_lt hd)
    have n:(SC/3+1)*(v+SC)≥(SC-v)*SC:=by
     have e:3*(SC/3+1)≥SC:=by omega
     have f:=Int.mul_le_mul_of_nonneg_right e (Int.le_of_lt hd)
     have g:=Int.mul_le_mul_of_nonneg_right (show 3*(SC-v)<=v+SC by omega) (Int.le_of_lt d)
     grind
    grind
   ·exact k
  ·rcases Int.lt_or_le 0 u with k | k
   ·exfalso
    have m:=Int.mul_le_mul_of_nonneg_right (show 1<=u by omega) (Int.le_of_lt hd)
    have n:(v-SC)*SC<=0:=by
     have:=Int.mul_nonneg (show 0<=SC-v by omega) (Int.le_of_lt d)
     grind
    omega
   ·omega
 ·rw[if_neg c]
  omega
theorem lv{v:Int}(h0:0<=v)(h1:v<=SC): -(1/2)<=(pU v:Rat) /SR/\(pU v:Rat) /SR<=1/2:=by
 obtain⟨a,b⟩:=vj h0 h1;have d:=bV;have e:=dT (pU v)
 have a': -(SC:Int)<=2*pU v:=by
  unfold SC at *
  omega
 have a2:=Rat.intCast_le_intCast.2 a';have f:=Rat.intCast_le_intCast.2 b
 rw[Rat.intCast_mul,Rat.intCast_neg,show ((2:Int):Rat)=2 from rfl]at a2
 rw[Rat.intCast_mul,show ((2:Int):Rat)=2 from rfl]at f
 generalize (pU v:Rat) /SR=w at *
 constructor
 ·refine Rat.le_of_mul_le_mul_right (c:=SR) ?_ d
  grind
 ·refine Rat.le_of_mul_le_mul_right (c:=SR) ?_ d
  grind
theorem jz{v:Int}(h0:0<=v)(h1:v<=SC):((pL v+214:Int):Rat)<=be v*SR/\be v*SR<=((pH v-214:Int):Rat):=by
 obtain⟨a,b⟩:=lv h0 h1;obtain⟨s1,s2⟩:=yO (dT (pU v)) a b;obtain⟨g,p2⟩:=kD
 have f:((pA v:Int):Rat)<=(if SC < v*2 then qt/2 else 0)*SR/\(if SC < v*2 then qt/2 else 0)*SR<=((pB v:Int):Rat):=by
  unfold pA pB
  by_cases c:SC < v*2
  ·rw[if_pos c,if_pos c,if_pos c]
   have d:=Rat.intCast_le_intCast.2 (show iE/4*4<=iE by decide)
   have e:=Rat.intCast_le_intCast.2 (show iD<=(iD/4+1)*4 by decide)
   rw[Rat.intCast_mul,show ((4:Int):Rat)=4 from rfl]at d e
   constructor <;> grind
  ·rw[if_neg c,if_neg c,if_neg c,Rat.intCast_zero]
   constructor <;> grind
 unfold pL pH be
 have e1:((pA v+aS (pU v) 111+ -400+214:Int):Rat)=((pA v:Int):Rat)+((aS (pU v) 111:Int):Rat)-186:=by
  rw[show pA v+aS (pU v) 111+ -400+214=pA v+aS (pU v) 111-186 by omega,Rat.intCast_sub,Rat.intCast_add]
  rfl
 have e2:((pB v+aS (pU v) 111+400-214:Int):Rat)=((pB v:Int):Rat)+((aS (pU v) 111:Int):Rat)+186:=by
  rw[show pB v+aS (pU v) 111+400-214=pB v+aS (pU v) 111+186 by omega,Rat.intCast_add,Rat.intCast_add]
  rfl
 rw[e1,e2];generalize (if SC < v*2 then qt/2 else 0)=k at *;generalize i6 ((pU v:Rat) /SR)=t at *
 constructor <;> grind
theorem Gw:(am (qt/2)-bg (qt/2))*2^200<=1/\ -1<=(am (qt/2)-bg (qt/2))*2^200/\am (qt/2)<=3/4/\2/3<=am (qt/2):=by decide +kernel
end Go.Proofs.YtomikokonmikgaaGreatDoor
namespace Go.Proofs.YtomikokonmikgaaGreatDoor
open Go.Proofs.Tryz
set_option maxHeartbeats 2000000
open Go.RowKit
set_option linter.unusedVariables false
set_option linter.unusedSimpArgs false
set_option maxRecDepth 100000
def nu (m:Int):Int:=if SC < (m.natAbs:Int)then 0 else aS m 111
theorem vA{t m:Int}(t1: -SC<=t)(t2:t<=SC)(m1: -SC<=m)(m2:m<=SC): -SC<=t*m/SC/\t*m/SC<=SC:=by
 have a:=Int.mul_nonneg (show 0<=SC-t by omega) (show 0<=SC+m by omega)
 have b:=Int.mul_nonneg (show 0<=SC+t by omega) (show 0<=SC-m by omega)
 have c:=Int.mul_nonneg (show 0<=SC-t by omega) (show 0<=SC-m by omega)
 have d:=Int.mul_nonneg (show 0<=SC+t by omega) (show 0<=SC+m by omega)
 have e:(0:Int) < SC:=by decide
 constructor
 ·refine(Int.le_ediv_iff_mul_le e).2 ?_
  grind
 ·refine Int.le_of_lt_add_one ((Int.ediv_lt_iff_lt_mul e).2 ?_)
  grind
theorem lO{m:Int}(m1: -SC<=m)(m2:m<=SC):∀j:Nat,-SC<=aT m j/\aT m j<=SC
 | 0=>⟨m1,m2⟩
 | j+1=>by
  obtain⟨a,b⟩:=lO m1 m2 j;obtain⟨c,d⟩:=vA a b m1 m2;exact vA c d m1 m2
theorem ej{z:Int}(h1: -SC<=z)(h2:z<=SC):z.natAbs < 4294967296^7:=by
 have e:(4294967296:Nat)^7=26959946667150639794667015087019630673637144422540572481103610249216:=by decide
 rw[e]
 unfold SC at *
 omega
theorem qm{w:World}{A:Option Addr}{n c:Nat}{s:Bool}{x:Int}{z r:Int}(h:Wr w s A n c x)(hn:n<=100000000)(h0:z≠0)(h1: -9223372036854775808<=z)(h2:z<=9223372036854775807)(hr:x.fdiv z=r):Calls prog 77 #[.agg #[.bool s,.slice A n c],.int .i64 z] w (W1 w (n+6) r):=by
 go_enter func77,ntmps77
 go_upto_region 1 with (fail)
 generalize f:(w.alloc _).alloc _=w1 at *;obtain⟨p,e,i⟩:=Bo.en2 f;replace h:=h.below i.out;clear f;refine jk [0,1,2,3] [some 5,some 6,some 7,some 8,none] [[],[],[1],[0,2],[]] 5 1 [Jo.Fact.eq (.agg #[.bool s,.slice A n c]),Jo.qi z,Jo.Fact.wn (z) (2),Jo.Fact.wn (r) (n+6),Jo.Fact.any] ?_ ?_
 ·iterate 2 (refine jm ?_ ?_;rotate_left)
  refine jm ?_ ?_
  ·rintro o d _ rfl K a;simp only[Jo.z]at a|-;go_simp;exact Jo.w1 (gi z _ h1 h2) a.out
  refine jm ?_ ?_
  ·rintro o d _ rfl _ ⟨s3,A3,n3,c3,rfl,m,q⟩ K a;simp only[Jo.z]at a|-;go_simp;exact Jo.w1 (tS (h.b d) m.wr (by omega) (by omega) h0 hr) a.out
  exact jo
  all_goals (rintro o d;(repeat rintro _ rfl);intro K a;simp only[Jo.z]at a|-;have u:=(p.b d).cell;go_simp;exact a.out _ _ rfl (br _ _))
 rintro y d _ rfl _ rfl _ ⟨s3,A3,n3,c3,rfl,m,q⟩ _ ⟨s4,A4,n4,c4,rfl,k,t⟩ -;simp only[Jo.z];replace e:=e.b d;replace i:=aa i d;clear h;have l:=e.cell;have g:=e.frozen
 refine jn 4 fun K a=>?_
 go_simp;refine a.out _ _ ?_;clear a K l g;have j:=ae.t2 e s4 A4 n4 c4;replace k:=k.s j;refine jd ?_;go_wp2;exact bq (v:= .agg #[.bool s4,.slice A4 n4 c4]) (by simp[results,results77,go_sem,j.box.cell]) rfl ⟨s4,A4,n4,c4,rfl,k,t,(j.below i.out (by omega))⟩
theorem DP{w:World}{A:Option Addr}{n c:Nat}{s:Bool}{x:Int}{B:Option Addr}{m d:Nat}{t:Bool}{y:Int}{r:Int}(h:Wr w s A n c x)(k:Wr w t B m d y)(hn:n<=100000)(hm:m<=100000)(hr:x*y/SC=r):Calls prog 78 #[.agg #[.bool s,.slice A n c],.agg #[.bool t,.slice B m d]] w (W1 w (n+m+12) r):=by
 have G:Hid ((x*y).fdiv SC=r):=ie (by rw[Int.fdiv_eq_ediv_of_nonneg _ (by decide)];exact hr)
 clear hr
 go_enter func78,ntmps78
 go_upto_region 1 with (fail)
 generalize o:((w.alloc _).alloc _).alloc _=w1 at *;obtain⟨H,I,e,a⟩:=Bo.en3 o;replace h:=h.below a.out;replace k:=k.below a.out;clear o;have z:=H.cell;have C:=I.cell
 go_wp2_with fail
 refine(Hh h k (by omega) (by omega) rfl).mono ?_;rintro E R ⟨Q,L,P,M,rfl,q,N,B⟩;clear z C;replace e:=e.b B;replace a:=aa a B;clear B;clear h k
 go_wp2_with fail
 refine(iP).mono ?_;rintro E S ⟨s9,A9,n9,c9,rfl,F,O,B⟩;replace e:=e.b B;replace q:=q.b B;replace a:=aa a B;clear B
 go_wp2_with fail
 refine(tS q.wr F.wr (by omega) (by omega) (by decide) G.out).mono ?_;rintro E T ⟨l,f,i,g,rfl,j,J,B⟩;replace e:=e.b B;replace a:=aa a B;clear B;clear q F;have D:=e.cell;have p:=e.frozen;go_wp2;clear D p;have u:=ae.t2 e l f i g;replace j:=j.s u;exact bq (v:= .agg #[.bool l,.slice f i g]) (by simp[results,results78,go_sem,u.box.cell]) rfl ⟨l,f,i,g,rfl,j,by omega,(u.below a.out (by omega))⟩
end Go.Proofs.YtomikokonmikgaaGreatDoor
namespace Go.Proofs.YtomikokonmikgaaGreatDoor
open Go.Proofs.Tryz
open Go Go.RowKit
set_option linter.unusedVariables false
theorem IN:(1/2^220:Rat)*SR<=1/100/\(1/2^200:Rat)*SR<=1/100/\(0:Rat)<=1/2^220/\(0:Rat)<=1/2^200/\(1/2^200:Rat)<=1/100/\(1/2^220:Rat)<=1/100:=by decide +kernel
theorem H8{w y s c s0 c0 S C d e r:Rat}(y0:0<=y)(y1:y<=1)(hs1: -e<=s-w*c)(hs2:s-w*c<=e)(he:0<=e)(cb1: -(101/100)<=c)(cb2:c<=101/100)(sb1: -(101/100)<=s)(sb2:s<=101/100)
  (a1: -d<=S-(s0*c+c0*s)) (a2:S-(s0*c+c0*s)<=d) (b1: -d<=C-(c0*c-s0*s)) (b2:C-(c0*c-s0*s)<=d) (hd:0<=d) (z1: -d<=s0-c0) (z2:s0-c0<=d) (g1:2/3<=s0) (g2:s0<=3/4)
  (r1: -r<=1-y+w*(1+y)) (r2:1-y+w*(1+y)<=0) (r0:0<=r): -(r+2*e+5*d)<=S-y*C/\S-y*C<=r+2*e+5*d:=by
 obtain⟨q,hq⟩:∃q,q=1-y+w*(1+y):=⟨_,rfl⟩;rw[<-hq]at r1 r2;have f:=ax (b:=101/100) (x:=c) (a:=r) (e:=q) cb1 cb2 r1 (by grind);have i:=ax (b:=3/4) (x:=s0) (by grind) g2 f.1 f.2;have g:=ax (b:=2) (x:=1+y) (by grind) (by grind) hs1 hs2;have j:=ax (b:=3/4) (x:=s0) (by grind) g2 g.1 g.2;have k:=ax (b:=1) (x:=y) (by grind) y1 cb1 cb2
 have l:=ax (b:=1*(101/100)+101/100) (x:=s-y*c) (by grind) (by grind) z1 z2;have m:=ax (b:=1) (x:=y) (by grind) y1 b1 b2
 have h:S-y*C=(S-(s0*c+c0*s))-y*(C-(c0*c-s0*s))+(s0*(c*q)+s0*((1+y)*(s-w*c))-(s-y*c)*(s0-c0)):=by
  rw[hq]
  grind
 rw[h];generalize S-(s0*c+c0*s)=A1 at *;generalize y*(C-(c0*c-s0*s))=A2 at *;generalize s0*(c*q)=A3 at *;generalize s0*((1+y)*(s-w*c))=A4 at *;generalize (s-y*c)*(s0-c0)=A5 at *
 constructor <;> grind
theorem pQ{x:Rat}(h1: -2<=x)(h2:x<=2):(-(101/100)<=bg x/\bg x<=101/100)/\ -(101/100)<=am x/\am x<=101/100:=by
 obtain⟨a,b⟩:=ln h1 h2;obtain⟨c,d⟩:=pd h1 h2
 have e:(1/2^200:Rat)<=1/100:=by decide +kernel
 have f:(1/2^240:Rat)<=1/100:=by decide +kernel
 generalize (1/2^200:Rat)=t at *;generalize (1/2^240:Rat)=u at *;refine⟨⟨?_,?_⟩,?_,?_⟩ <;> grind
theorem vX{v:Int}(h0:0<=v)(h1:v<=SC): -3<=(am (be v)-(v:Rat) /SR*bg (be v))*SR/\(am (be v)-(v:Rat) /SR*bg (be v))*SR<=3:=by
 obtain⟨l,n⟩:=lv h0 h1;obtain⟨e1,e2,e3,u,I,J⟩:=IN;have sl:=qU l n;have a:=bV
 unfold be
 by_cases c:SC < v*2
 ·rw[if_pos c];obtain⟨L,M⟩:=iz;obtain⟨i1,i2⟩:=yL l n;have k:=dT v;have z:=dT (pU v);have j:=Rat.intCast_le_intCast.2 h0;have s:=Rat.intCast_le_intCast.2 h1;rw[Rat.intCast_zero]at j
  have i:pU v=(v-SC)*SC/ (v+SC):=if_pos c
  have hd:0 < v+SC:=by
   have:(0:Int) < SC:=by decide
   omega
  have p:=Int.ediv_mul_le ((v-SC)*SC) (Int.ne_of_gt hd);have q:=Int.lt_ediv_add_one_mul_self ((v-SC)*SC) hd;rw[<-i]at p q
  have f:=Rat.intCast_le_intCast.2 p
  have g:=Rat.intCast_le_intCast.2 (Int.le_of_lt q)
  rw[Rat.intCast_mul,Rat.intCast_mul,Rat.intCast_sub,Rat.intCast_add]at f
  rw[Rat.intCast_mul,Rat.intCast_mul,Rat.intCast_sub,Rat.intCast_add,Rat.intCast_add,show ((1:Int):Rat)=1 from rfl]at g
  rw[<-k,<-z]at f g;rw[<-k]at j s;generalize (v:Rat) /SR=y at *;generalize (pU v:Rat) /SR=w at *
  have G:0<=y:=Rat.le_of_mul_le_mul_right (c:=SR) (by rw[Rat.zero_mul];exact j) a
  have H:y<=1:=Rat.le_of_mul_le_mul_right (c:=SR) (by rw[Rat.one_mul];exact s) a
  obtain⟨r,o⟩:∃r,r*SR=2:=⟨2/SR,Rat.div_mul_cancel (Rat.ne_of_gt a)⟩
  have F:1-y+w*(1+y)<=0:=by
   refine Rat.le_of_mul_le_mul_right (c:=SR) (Rat.le_of_mul_le_mul_right (c:=SR) ?_ a) a
   grind
  have E: -r<=1-y+w*(1+y):=by
   have N:=Rat.mul_nonneg (show 0<=1-y by grind) (Rat.le_of_lt a)
   refine Rat.le_of_mul_le_mul_right (c:=SR) (Rat.le_of_mul_le_mul_right (c:=SR) ?_ a) a
   have:r*SR*SR=2*SR:=by rw[o]
   grind
  have D:0<=r:=Rat.le_of_mul_le_mul_right (c:=SR) (by rw[o];grind) a
  have b:=pQ (x:=i6 w) (by grind) (by grind);obtain⟨A,p2⟩:=o9 (m:=qt/2) (h:=i6 w) (by grind) (by grind) (by grind) (by grind);obtain⟨B,C⟩:=oB (m:=qt/2) (h:=i6 w) (by grind) (by grind) (by grind) (by grind);obtain⟨g1,g2,g3,g4⟩:=Gw;have t:=H8 G H sl.1 sl.2 e3 b.1.1 b.1.2 b.2.1 b.2.2 (ew A) (er p2) (ew B) (er C) u (ew g2) (er g1) g4 g3 E F D
  generalize am (qt/2+i6 w)-y*bg (qt/2+i6 w)=X at *;generalize (1/2^220:Rat)=e at *;generalize (1/2^200:Rat)=d at *;have n1:=Rat.mul_le_mul_of_nonneg_right t.1 (Rat.le_of_lt a);have n2:=Rat.mul_le_mul_of_nonneg_right t.2 (Rat.le_of_lt a)
  constructor <;> grind
 ·rw[if_neg c]
  have i:pU v=v:=if_neg c
  rw[i]at sl|-
  rw[show (0:Rat)+i6 ((v:Rat) /SR)=i6 ((v:Rat) /SR) by grind]
  generalize am (i6 ((v:Rat) /SR))-(v:Rat) /SR*bg (i6 ((v:Rat) /SR))=X at *;have n1:=Rat.mul_le_mul_of_nonneg_right sl.1 (Rat.le_of_lt a);have n2:=Rat.mul_le_mul_of_nonneg_right sl.2 (Rat.le_of_lt a);generalize (1/2^220:Rat)=e at *
  constructor <;> grind
theorem dC{v:Int}(h0:0<=v)(h1:v<=SC):0<=be v/\be v<=3/2:=by
 obtain⟨b,d⟩:=lv h0 h1;obtain⟨i,j⟩:=iz;obtain⟨i1,i2⟩:=yL b d
 unfold be
 by_cases c:SC < v*2
 ·rw[if_pos c]
  constructor <;> grind
 ·rw[if_neg c]
  have f:pU v=v:=if_neg c
  have z:=i7;have e:=dT v;have g:=bV
  have w0:0<=(v:Rat) /SR:=Rat.le_of_mul_le_mul_right (c:=SR) (by rw[e,Rat.zero_mul];exact Rat.intCast_le_intCast.2 h0) g
  rw[f]at i1 i2 b d|-
  have k:=Df.rise (B:=1/2) (k:=0) (by grind) pJ (a:=1/2) (x:=0) (h:=(v:Rat) /SR) w0 (by grind) (by grind) (by grind) (by grind) (by grind) (fun y y1 y2=>(yH y1 y2).1)
  rw[show (0:Rat)+(v:Rat) /SR=(v:Rat) /SR by grind,z]at k
  generalize i6 ((v:Rat) /SR)=t at *
  constructor <;> grind
