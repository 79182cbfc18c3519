/-
 Contracts that the proof rests on.
-/
import Derived.Laws.EntriesVeiled
import Derived.Test.YtomikokonmikgaaGreatDoorYTaz
namespace Go.Proofs.YtomikokonmikgaaGreatDoor
open Go.Proofs.Tryz
set_option maxHeartbeats 16000000
open Go.RowKit
set_option linter.unusedVariables false
set_option linter.unusedSimpArgs false
set_option maxRecDepth 100000
theorem Wn.off{w w':World}{g:Nat}{old new:Array Value}{R:TypeId}{s:Bool}{A:Option Addr}{n c:Nat}{z:Int}(h:Wn w s A n c z)(X:Bo w g old R)(hn:old.all no32=true)(O:Jo.Off g new R w w'):Wn w' s A n c z:=⟨h.1.off X hn O,h.2⟩
theorem iL{w:World}{A:Option Addr}{n c:Nat}{s:Bool}{x:Int}{B:Option Addr}{m d:Nat}{t:Bool}{y:Int}{q:Int}(h:Wr w s A n c x)(k:Wr w t B m d y)(hn:n<=268435456)(hm:m<=268435456)(h0:y≠0)(hq:x.fdiv y=q):Calls prog 76 #[.agg #[.bool s,.slice A n c],.agg #[.bool t,.slice B m d]] w (W1 w (n+m+4) q):=by
 go_enter func76,ntmps76
 go_upto_region 1 with (fail)
 generalize u:((w.alloc _).alloc _).alloc _=w1 at *;obtain⟨O,P,a,e⟩:=Bo.en3 u;replace h:=h.below e.out;replace k:=k.below e.out;clear u;have J:=O.cell;have L:=P.cell
 go_wp2_with fail
 refine(JD h k (by omega) (by omega) h0 hq rfl).mono ?_;rintro T z ⟨p,i,l,j,s9,A9,n9,c9,rfl,o,R,U,V,B⟩;clear J L;replace a:=a.b B;replace e:=aa e B;clear B;clear h k;clear O P
 go_upto_region 2 with (fail)
 have g:(World.alloc z (.cells #[.bool p,.slice i l j] 27)).heap.size=z.heap.size+1:=by simp
 have G:=a.lt;have E:=af z (.cells #[.bool p,.slice i l j] 27);replace a:=a.b E;replace o:=o.b E;replace e:=ie (bt e.out E);have D:=Bo.new z #[.bool p,.slice i l j] 27;generalize f:World.alloc z (.cells #[.bool p,.slice i l j] 27)=S at *;clear f
 have I:=a.lt;have H:=D.lt;generalize f:S.alloc _=W at *;obtain⟨Q,r⟩:=Bo.nw f;clear f;replace a:=a.b r;replace D:=D.b r;replace o:=o.b r;replace e:=aa e r;clear r;rw[g]at Q;clear g;clear R;have N:=a.cell;have C:=a.frozen;have M:=D.cell;go_wp2;clear N C M
 have F:=ae.t2 a p i l j;replace o:=o.s F;exact bq (v:= .agg #[.bool p,.slice i l j]) (by simp[results,results76,go_sem,F.box.cell]) rfl ⟨p,i,l,j,rfl,o,by omega,(F.below e.out (by omega))⟩
theorem tn{w:World}{z lo hi:Int}(h0:0 < z)(h1:z<=1000)(hlo:iE/z=lo)(hhi:iD/z+1=hi):Calls prog 156 #[.int .i64 z] w (W2 w 60 lo hi):=by
 have HL:Hid (iE.fdiv z=lo):=ie (by rw[Int.fdiv_eq_ediv_of_nonneg _ (by omega)];exact hlo)
 obtain⟨v,R⟩:∃v,iD.fdiv z=v:=⟨_,rfl⟩;have HV:=ie R
 have HH:Hid (v+1=hi):=ie (by rw[<-R,Int.fdiv_eq_ediv_of_nonneg _ (by omega)];exact hhi)
 have H0:Hid (z≠0):=ie (by omega)
 clear hlo hhi R
 go_enter func156,ntmps156
 go_upto_region 1 with (fail)
 generalize y:(w.alloc _).alloc _=w1 at *;obtain⟨a,c,e⟩:=Bo.en2 y;clear y
 go_wp2_with fail
 refine(tv).mono ?_;rintro ee I ⟨s2,A2,n2,c2,s3,A3,n3,c3,rfl,p2,m,k2,k3,B⟩;replace a:=a.b B;replace c:=c.b B;replace e:=aa e B;clear B;have gS:=e.out.size
 go_upto_region 2 with (fail)
 have o:(World.alloc I (.cells #[.bool s2,.slice A2 n2 c2] 27)).heap.size=I.heap.size+1:=by simp
 have Y:=a.lt;have Z:=c.lt;have r:=af I (.cells #[.bool s2,.slice A2 n2 c2] 27);replace a:=a.b r;replace c:=c.b r;replace p2:=p2.b r;replace m:=m.b r;replace e:=ie (bt e.out r)
 have l:=Bo.new I #[.bool s2,.slice A2 n2 c2] 27;generalize h:World.alloc I (.cells #[.bool s2,.slice A2 n2 c2] 27)=w3 at *;clear h;have bB:=a.lt;have bC:=c.lt;have bA:=l.lt;generalize h:w3.alloc _=w4 at *;obtain⟨n,f⟩:=Bo.nw h;clear h;replace a:=a.b f;replace c:=c.b f;replace l:=l.b f;replace p2:=p2.b f
 replace m:=m.b f;replace e:=aa e f;clear f;rw[o]at n;clear o
 go_wp2_with fail
 refine(iB z _ (by omega) (by omega)).mono ?_;rintro ee w5 ⟨s6,A6,n6,c6,rfl,F,k6,B⟩;replace a:=a.b B;replace c:=c.b B;replace l:=l.b B;replace n:=n.b B;replace p2:=p2.b B;replace m:=m.b B;replace e:=aa e B;clear B;have hA:=e.out.size
 go_upto_region 3 with (fail)
 have bN:=a.lt;have fH:=c.lt;have bD:=l.lt;have bH:=n.lt;generalize h:w5.alloc _=w6 at *;obtain⟨X6,f⟩:=Bo.nw h;clear h;replace a:=a.b f;replace c:=c.b f;replace l:=l.b f;replace n:=n.b f;replace p2:=p2.b f;replace m:=m.b f;replace F:=F.b f;replace e:=aa e f;clear f
 have hE:=a.lt;have hF:=c.lt;have hB:=l.lt;have hC:=n.lt;have hD:=X6.lt;refine jk [0,1,2,3,4,5,6,7] [some 13,some 14,some 15,some 16,some 17,some 18,some 19,some 20,none,none] [[],[],[0,1],[],[],[3,4],[],[5,6],[],[]] 10 2 [Jo.Fact.eq (.agg #[.bool s2,.slice A2 n2 c2]),Jo.Fact.eq (.agg #[.bool s6,.slice A6 n6 c6]),Jo.Fact.wn (lo) (60),Jo.Fact.eq (.agg #[.bool s3,.slice A3 n3 c3]),Jo.Fact.eq (.agg #[.bool s6,.slice A6 n6 c6]),Jo.Fact.wn (v) (50),Jo.Fact.wn (1) (2),Jo.Fact.wn (hi) (60),Jo.Fact.any,Jo.Fact.any] ?_ ?_
 ·iterate 2 (refine jm ?_ ?_;rotate_left)
  refine jm ?_ ?_
  ·rintro M g _ rfl _ rfl K d;simp only[Jo.z]at d|-;go_simp;exact Jo.w1 (iL (p2.b g).wr (F.b g).wr (by omega) (by omega) H0.out HL.out) d.out
  iterate 2 (refine jm ?_ ?_;rotate_left)
  refine jm ?_ ?_
  ·rintro M g _ rfl _ rfl K d;simp only[Jo.z]at d|-;go_simp;exact Jo.w1 (iL (m.b g).wr (F.b g).wr (by omega) (by omega) H0.out HV.out) d.out
  refine jm ?_ ?_
  ·rintro M g K d;simp only[Jo.z]at d|-;go_simp;exact Jo.w1 (iB 1 _ (by decide) (by decide)) d.out
  refine jm ?_ ?_
  ·rintro M g _ ⟨fP,N,W,P,rfl,D,T⟩ _ ⟨gB,O,X,Q,rfl,E,U⟩ K d;simp only[Jo.z]at d|-;go_simp;exact Jo.w1 (pm D.wr E.wr (by omega) (by omega) HH.out) d.out
  exact jo
  all_goals (rintro M g;(repeat rintro _ rfl);intro K d;simp only[Jo.z]at d|-;have hG:=(l.b g).cell;have hI:=(X6.b g).cell;have hH:=(n.b g).cell;go_simp;exact d.out _ _ rfl (br _ _))
 rintro w8 g _ rfl _ rfl _ ⟨G,p,A,t,rfl,j,S⟩ _ rfl _ rfl _ ⟨fP,N,W,P,rfl,D,T⟩ _ ⟨gB,O,X,Q,rfl,E,U⟩ _ ⟨H,q,C,u,rfl,k,V⟩ -;simp only[Jo.z];replace a:=a.b g;replace c:=c.b g;replace e:=aa e g;clear p2 m F;have gO:=a.cell;have J:=a.frozen
 refine jn 8 fun K d=>?_
 go_simp;refine d.out _ _ ?_;clear d K gO J;generalize x:(w8.setCell _ _).setCell _ _=w9 at *;have i:=ae.of2 a x;replace c:=c.s i;replace j:=j.s i;replace k:=k.s i;replace e:=bn e i (by omega);replace a:=i.box;clear i x;have gP:=c.cell;have L:=c.frozen
 refine jn 9 fun K d=>?_
 go_simp;refine d.out _ _ ?_;clear d K gP L;generalize x:(w9.setCell _ _).setCell _ _=wA at *;have i:=ae.of2 c x;replace a:=a.s i;replace j:=j.s i;replace k:=k.s i;replace e:=bn e i (by omega);replace c:=i.box;clear i x;refine jd ?_;go_wp2;exact bq (v:= .tuple #[.agg #[.bool G,.slice p A t],.agg #[.bool H,.slice q C u]]) (by simp[results,results156,go_sem,a.cell,c.cell]) rfl ⟨G,p,A,t,H,q,C,u,rfl,j,k,S,V,e.out⟩
def JV (w:World)(K:Nat)(x y z:Int)(e:Ending)(w':World):Prop:=∃s1 A1 n1 c1 s2 A2 n2 c2 s3 A3 n3 c3,e= .returned (.tuple #[.agg #[.bool s1,.slice A1 n1 c1],.agg #[.bool s2,.slice A2 n2 c2],.agg #[.bool s3,.slice A3 n3 c3]])/\Wn w' s1 A1 n1 c1 x/\Wn w' s2 A2 n2 c2 y/\Wn w' s3 A3 n3 c3 z/\n1<=K/\n2<=K/\n3<=K/\Below w.heap.size w w'
theorem Wl.st2{w w':World}{g:Nat}{cs:Array Value}{R:TypeId}{a b:Value}{A:Option Addr}{c K:Nat}{zs:List Int}(h:Wl w A 2 c K zs)(S:ae w w' g #[a,b] cs R)(hn:(#[a,b]:Array Value).all no32=true):Wl w' A 2 c K zs:=by
 obtain⟨h1,h2,n,h4⟩:=h
 refine⟨h1,h2,n,fun _=>?_⟩
 obtain⟨f,o,e,l⟩:=h4 (by decide)
 have j:f≠g:=by
  rintro rfl;obtain⟨s,B,m,d,c0,_⟩:=l 1 (by decide);rw[S.1.cell]at c0
  have:(#[a,b]:Array Value)[o+1*2]?=none:=Array.getElem?_eq_none (by simp)
  rw[this]at c0
  cases c0
 refine⟨f,o,e,fun k hk=>?_⟩
 obtain⟨s,B,m,d,c0,c1,p,hm⟩:=l k hk
 have t:∀{i:Nat} {v:Value},w.cell? ⟨f,i,none⟩=some v->w'.cell? ⟨f,i,none⟩=some v:=fun hv=>by
  unfold World.cell? at hv|-
  rw[S.2.2.1 f j];exact hv
 exact⟨s,B,m,d,t c0,t c1,p.stn S hn,hm⟩
def Jo.TFact.wl (K n:Nat)(zs:List Int):Jo.TFact #[.bool false,.slice none 0 0] 27:=⟨fun v w=>∃A c,v= .slice A 2 c/\Wl w A 2 c K zs,fun v w w' h b=>by
 obtain⟨A,c,e,h⟩:=h
 exact⟨A,c,e,h.below b⟩,fun v w w' g cs h S=>by
 obtain⟨A,c,e,h⟩:=h;exact⟨A,c,e,h.st2 S (by simp[no32])⟩⟩
theorem Bo.same2{w:World}{g:Nat}{T:TypeId}{a b:Value}(h:Bo w g #[a,b] T):(w.setCell ⟨g,0,none⟩ a).setCell ⟨g,1,none⟩ b=w:=by
 unfold Bo at h
 have e:∀(u:World) (i:Nat) (v:Value),u.heap[g]?=some (.cells #[a,b] T (0,0))->(#[a,b]:Array Value)[i]?=some v->u.setCell ⟨g,i,none⟩ v=u:=by
  intro u i v f d
  have hs:(#[a,b]:Array Value).setIfInBounds i v= #[a,b]:=by
   apply Array.ext_getElem?
   intro j
   rw[Array.getElem?_setIfInBounds]
   by_cases c:i=j
   ·subst c;rw[if_pos rfl,d]
    simp
    obtain⟨hl,_⟩:=Array.getElem?_eq_some_iff.1 d
    simpa using hl
   ·rw[if_neg c]
  unfold World.setCell
  have hh:u.heap.modify g (fun x=>match x with
   | .cells c elem frozen=> .cells (c.setIfInBounds i v) elem frozen
   | o=>o)=u.heap:=by
   apply Array.ext_getElem?
   intro j
   rw[Array.getElem?_modify]
   by_cases c:g=j
   ·subst c;rw[if_pos rfl,f]
    simp[hs]
   ·rw[if_neg c]
  cases u
  simp only at hh|-
  congr 1
 rw[e w 0 a h rfl,e w 1 b h rfl]
theorem ja{x y c:Int}(h:ag x y=c):decide (c<=0)=decide (x<=y):=by
 rw[<-h]
 unfold ag
 by_cases c1:x < y
 ·rw[if_pos c1]
  simp
  omega
 ·rw[if_neg c1]
  by_cases c2:y < x
  ·rw[if_pos c2]
   simp
   omega
  ·rw[if_neg c2]
   simp
   omega
theorem pI{w:World}{A:Option Addr}{n c:Nat}{s:Bool}{v:Int}(h:Wn w s A n c v)(hn:n<=20)(hc:2*v<=SC):Calls prog 158 #[.agg #[.bool s,.slice A n c]] w (JV w 60 v 0 0):=by
 obtain⟨σ,N⟩:∃σ,ag (2*v) SC=σ:=⟨_,rfl⟩;have e0:=ja N
 have HP:Hid (sA [2,v]=2*v):=ie (by show 1*2*v=_;rw[Int.one_mul])
 have HS:=ie N;clear N;rw[dt hc]at e0;have q:=ie e0;clear e0 hc
 go_enter func158,ntmps158
 go_upto_region 1 with (fail)
 generalize t:(((w.alloc _).alloc _).alloc _).alloc _=w1 at *;obtain⟨k,e,f,d,j⟩:=Bo.en4 t;replace h:=h.below j.out;clear t
 go_wp2_with fail
 refine(iN).mono ?_;rintro ee w2 ⟨s9,A9,n9,c9,rfl,F,k9,B⟩;replace k:=k.b B;replace e:=e.b B;replace f:=f.b B;replace d:=d.b B;replace h:=h.b B;replace j:=aa j B;clear B;have bB:=j.out.size
 go_upto_region 2 with (fail)
 have S:=k.lt;have U:=e.lt;have V:=f.lt;have T:=d.lt;generalize u:w2.alloc _=w3 at *;obtain⟨X5,l⟩:=Bo.nw u;clear u;replace k:=k.b l;replace e:=e.b l;replace f:=f.b l;replace d:=d.b l;replace h:=h.b l;replace F:=F.b l;replace j:=aa j l;clear l;have bC:=k.lt;have bN:=e.lt
 have fH:=f.lt;have bH:=d.lt;have bD:=X5.lt;refine jk [0,1,2,3,4,5,6] [some 7,some 8,some 9,some 10,some 11,some 12,some 13] [[],[],[0,1],[2],[],[3,4],[5]] 7 0 [Jo.Fact.wn (2) (2),Jo.Fact.eq (.agg #[.bool s,.slice A n c]),Jo.Fact.wl 20 2 [2,v],Jo.Fact.wn (2*v) (41),Jo.Fact.eq (.agg #[.bool s9,.slice A9 n9 c9]),Jo.qi σ,Jo.qb true] ?_ ?_
 ·refine jm ?_ ?_
  ·rintro x i K g;simp only[Jo.z]at g|-;go_simp;exact Jo.w1 (iB 2 _ (by decide) (by decide)) g.out
  refine jm ?_ ?_;rotate_left
  refine jm ?_ ?_
  ·rintro x i _ ⟨W,G,Q,I,rfl,o,O⟩ _ rfl K g;simp only[Jo.z]at g|-;go_simp;exact g.out _ _ ⟨_,_,rfl,Wl.lit2 rfl o.wr (h.b i).wr (by omega) (by omega)⟩ (af _ _)
  refine jm ?_ ?_
  ·rintro x i _ ⟨fP,gB,rfl,L⟩ K g;simp only[Jo.z]at g|-;go_simp;exact Jo.w1 (mR L (by decide) HP.out) g.out
  refine jm ?_ ?_;rotate_left
  refine jm ?_ ?_
  ·rintro x i _ ⟨X,H,R,J,rfl,p,P⟩ _ rfl K g;simp only[Jo.z]at g|-;go_simp;refine(sW (r:=σ) p.wr (F.b i).wr HS.out).mono ?_;rintro ee wk ⟨rfl,B⟩;exact g.out _ _ rfl B
  refine jm ?_ ?_
  ·rintro x i _ rfl K g;simp only[Jo.z]at g|-;have M:=q.out;go_simp
   exact g.out _ _ (by first | rfl | (show Value.bool _=Value.bool _;rw[M]) | simp_all) (br _ _)
  exact jo
  all_goals (rintro x i;(repeat rintro _ rfl);intro K g;simp only[Jo.z]at g|-;have y:=(k.b i).cell;have gO:=(X5.b i).cell;go_simp;exact g.out _ _ rfl (br _ _))
 rintro w4 i _ ⟨W,G,Q,I,rfl,o,O⟩ _ rfl _ ⟨_,_,rfl,_⟩ _ ⟨X,H,R,J,rfl,p,P⟩ _ rfl _ rfl _ rfl -;simp only[Jo.z];replace k:=k.b i;replace e:=e.b i;replace f:=f.b i;replace d:=d.b i;replace h:=h.b i;replace j:=aa j i;refine jd ?_;clear o p HS q HP;clear F;have y:=k.cell
 have Z:=e.cell;have D:=e.frozen;have bA:=f.cell;have E:=f.frozen;have Y:=d.cell;have C:=d.frozen;go_wp2;clear y Z D bA E Y C;generalize m:(w4.setCell _ _).setCell _ _=w5 at *;have a:=ae.of2 e m;replace f:=f.s a;replace d:=d.s a;replace h:=h.s a
 replace j:=bn j a (by omega);replace e:=a.box;clear a m;generalize m:(w5.setCell _ _).setCell _ _=w6 at *;have a:=ae.of2 f m;replace e:=e.s a;replace d:=d.s a;replace h:=h.s a;replace j:=bn j a (by omega);replace f:=a.box;clear a m;generalize m:(w6.setCell _ _).setCell _ _=w7 at *
 have a:=ae.of2 d m;replace e:=e.s a;replace f:=f.s a;replace h:=h.s a;replace j:=bn j a (by omega);replace d:=a.box;clear a m;exact bq (v:= .tuple #[.agg #[.bool s,.slice A n c],.agg #[.bool false,.slice none 0 0],.agg #[.bool false,.slice none 0 0]]) (by simp[results,results158,go_sem,e.cell,f.cell,d.cell]) rfl ⟨_,_,_,_,_,_,_,_,_,_,_,_,rfl,h,⟨Nm.zero,rfl⟩,⟨Nm.zero,rfl⟩,by omega,Nat.zero_le _,Nat.zero_le _,j.out⟩
theorem pG{w:World}{A:Option Addr}{n c:Nat}{s:Bool}{v:Int}{u lo hi:Int}(h:Wn w s A n c v)(hn:n<=20)(h0:0<=v)(hc:¬2*v<=SC)(hu:(v-SC)*SC/ (v+SC)=u)(hlo:iE/4=lo)(hhi:iD/4+1=hi):Calls prog 158 #[.agg #[.bool s,.slice A n c]] w (JV w 100 u lo hi):=by
 obtain⟨σ,hσ⟩:∃σ,ag (2*v) SC=σ:=⟨_,rfl⟩;have e0:=ja hσ
 have HP:Hid (sA [2,v]=2*v):=ie (by show 1*2*v=_;rw[Int.one_mul])
 have HS:=ie hσ;clear hσ;rw[df hc]at e0;have hE:=ie e0
 have sp:(0:Int) < SC:=by decide
 have iU:Hid (v+SC≠0):=ie (by omega)
 have HU:Hid (((v-SC)*SC).fdiv (v+SC)=u):=ie (by rw[Int.fdiv_eq_ediv_of_nonneg _ (by omega)];exact hu)
 have iV:Hid (sA [v-SC,SC]=(v-SC)*SC):=ie (by show 1*(v-SC)*SC=_;rw[Int.one_mul])
 have hG:=ie hlo;have hF:=ie hhi;clear e0 hc hu hlo hhi h0 sp
 go_enter func158,ntmps158
 go_upto_region 1 with (fail)
 generalize hH:(((w.alloc _).alloc _).alloc _).alloc _=w1 at *;obtain⟨t,p,l,q,x⟩:=Bo.en4 hH;replace h:=h.below x.out;clear hH
 go_wp2_with fail
 refine(iN).mono ?_;rintro ee w2 ⟨s9,A9,n9,c9,rfl,G,k9,B⟩;replace t:=t.b B;replace p:=p.b B;replace l:=l.b B;replace q:=q.b B;replace h:=h.b B;replace x:=aa x B;clear B;have LB:=x.out.size
 go_upto_region 2 with (fail)
 have HO:=t.lt;have HR:=p.lt;have HT:=l.lt;have HQ:=q.lt;generalize hI:w2.alloc _=w3 at *;obtain⟨y,BW⟩:=Bo.nw hI;clear hI;replace t:=t.b BW;replace p:=p.b BW;replace l:=l.b BW;replace q:=q.b BW;replace h:=h.b BW;replace G:=G.b BW;replace x:=aa x BW;clear BW;have hL:=t.lt;have hP:=p.lt
 have hQ:=l.lt;have hN:=q.lt;have hM:=y.lt;refine jk [0,1,2,3,4,5,6] [some 7,some 8,some 9,some 10,some 11,some 12,some 13] [[],[],[0,1],[2],[],[3,4],[5]] 7 0 [Jo.Fact.wn (2) (2),Jo.Fact.eq (.agg #[.bool s,.slice A n c]),Jo.Fact.wl 20 2 [2,v],Jo.Fact.wn (2*v) (41),Jo.Fact.eq (.agg #[.bool s9,.slice A9 n9 c9]),Jo.qi σ,Jo.qb false] ?_ ?_
 ·refine jm ?_ ?_
  ·rintro m d K a;simp only[Jo.z]at a|-;go_simp;exact Jo.w1 (iB 2 _ (by decide) (by decide)) a.out
  refine jm ?_ ?_;rotate_left
  refine jm ?_ ?_
  ·rintro m d _ ⟨HV,hU,HJ,lA,rfl,fP,HD⟩ _ rfl K a;simp only[Jo.z]at a|-;go_simp;exact a.out _ _ ⟨_,_,rfl,Wl.lit2 rfl fP.wr (h.b d).wr (by omega) (by omega)⟩ (af _ _)
  refine jm ?_ ?_
  ·rintro m d _ ⟨LD,LF,rfl,ET⟩ K a;simp only[Jo.z]at a|-;go_simp;exact Jo.w1 (mR ET (by decide) HP.out) a.out
  refine jm ?_ ?_;rotate_left
  refine jm ?_ ?_
  ·rintro m d _ ⟨HW,hV,HK,lB,rfl,gB,HE⟩ _ rfl K a;simp only[Jo.z]at a|-;go_simp;refine(sW (r:=σ) gB.wr (G.b d).wr HS.out).mono ?_;rintro ee wk ⟨rfl,B⟩;exact a.out _ _ rfl B
  refine jm ?_ ?_
  ·rintro m d _ rfl K a;simp only[Jo.z]at a|-;have HC:=hE.out;go_simp
   exact a.out _ _ (by first | rfl | (show Value.bool _=Value.bool _;rw[HC]) | simp_all) (br _ _)
  exact jo
  all_goals (rintro m d;(repeat rintro _ rfl);intro K a;simp only[Jo.z]at a|-;have hR:=(t.b d).cell;have hC:=(y.b d).cell;go_simp;exact a.out _ _ rfl (br _ _))
 rintro w4 d _ ⟨HV,hU,HJ,lA,rfl,fP,HD⟩ _ rfl _ ⟨_,_,rfl,_⟩ _ ⟨HW,hV,HK,lB,rfl,gB,HE⟩ _ rfl _ rfl _ rfl -;simp only[Jo.z];replace t:=t.b d;replace p:=p.b d;replace l:=l.b d;replace q:=q.b d;replace y:=y.b d;replace h:=h.b d;replace G:=G.b d;replace x:=aa x d;refine jd ?_
 clear fP gB HS hE HP
 go_wp2_with fail
 refine(tn (by decide) (by decide) hG.out hF.out).mono ?_;rintro ee w5 ⟨M,H,J,I,bC,O,bA,Q,rfl,D,E,LH,LI,B⟩;replace t:=t.b B;replace p:=p.b B;replace l:=l.b B;replace q:=q.b B;replace y:=y.b B;replace h:=h.b B;replace G:=G.b B;replace x:=aa x B;clear B;clear hG hF;have hD:=l.cell
 have hT:=l.frozen;have bD:=q.cell;have N:=q.frozen
 go_upto_region 5 with (fail)
 clear hD hT bD N;generalize hS:(w5.setCell _ _).setCell _ _=w6 at *;have j:=ae.of2 l hS;replace t:=t.s j;replace p:=p.s j;replace q:=q.s j;replace y:=y.s j;replace h:=h.s j;replace G:=G.s j;replace D:=D.s j;replace E:=E.s j
 replace x:=bn x j (by omega);replace l:=j.box;clear j hS;generalize hS:(w6.setCell _ _).setCell _ _=w7 at *;have j:=ae.of2 q hS;replace t:=t.s j;replace p:=p.s j;replace l:=l.s j;replace y:=y.s j;replace h:=h.s j;replace G:=G.s j;replace D:=D.s j
 replace E:=E.s j;replace x:=bn x j (by omega);replace q:=j.box;clear j hS;have hL:=t.lt;have hP:=p.lt;have hQ:=l.lt;have hN:=q.lt;have hM:=y.lt;have LC:=x.out.size
 refine Jo.region_lone (old:= #[.bool false,.slice none 0 0]) (R:=27) (T:=[0,1,2,3,4,5,6,7,8,9,10,11,12,13]) (ds:=[some 21,some 22,some 23,some 24,some 25,some 26,some 27,some 28,some 29,some 30,some 31,some 32,none,none,none]) (ls:=[[],[],[0,1],[],[2,3],[4],[],[],[6,7],[5,8],[],[],[9],[10],[]]) (k:=15) (L:=[(some 21,0),(some 22,1),(some 23,2),(some 24,3),(some 25,4),(some 26,5),(some 27,6),(some 28,7),(some 29,8),(some 30,9),(some 31,10),(some 32,11),(none,12),(none,13)]) (fuel:=1) (w1:=w7) (g:=w.heap.size+1) (s:=12) (e:=9)
  (F:=[Jo.TFact.eq (.agg #[.bool s,.slice A n c]),Jo.TFact.eq (.agg #[.bool s9,.slice A9 n9 c9]),Jo.TFact.wn (v-SC) (30),Jo.TFact.eq (.agg #[.bool s9,.slice A9 n9 c9]),Jo.TFact.wl 30 2 [v-SC,SC],Jo.TFact.wn ((v-SC)*SC) (61),Jo.TFact.eq (.agg #[.bool s,.slice A n c]),Jo.TFact.eq (.agg #[.bool s9,.slice A9 n9 c9]),Jo.TFact.wn (v+SC) (30),Jo.TFact.wn (u) (100),Jo.TFact.eq (.agg #[.bool M,.slice H J I]),Jo.TFact.eq (.agg #[.bool bC,.slice O bA Q]),Jo.TFact.any,Jo.TFact.any,Jo.TFact.any])
  p (by decide) (by kernel_rfl) (by kernel_rfl) (by decide) rfl rfl ?_ (fun vs w8 csp d hd ee Xn=>?_)
 ·refine Jo.ocons (i:=0) (o:=⟨some 21,_,_,_,_,_⟩) (di:=some 21) (L:=[]) (f:=Jo.TFact.eq (.agg #[.bool s,.slice A n c])) (by decide) rfl rfl rfl rfl (fun vs m nw d hd K a=>?_) ?_
  ·clear hd;simp only[Jo.putl,Jo.ze,Act.put,Jo.za,Jo.zb,Jo.zc]at a|-;replace t:=t.off (by omega) d;have hR:=t.cell;go_simp;exact a.out _ _ rfl (br _ _)
  refine Jo.ocons (i:=1) (o:=⟨some 22,_,_,_,_,_⟩) (di:=some 22) (L:=[]) (f:=Jo.TFact.eq (.agg #[.bool s9,.slice A9 n9 c9])) (by decide) rfl rfl rfl rfl (fun vs m nw d hd K a=>?_) ?_
  ·clear hd;simp only[Jo.putl,Jo.ze,Act.put,Jo.za,Jo.zb,Jo.zc]at a|-;replace y:=y.off (by omega) d;have hC:=y.cell;go_simp;exact a.out _ _ rfl (br _ _)
  refine Jo.ocons (i:=2) (o:=⟨some 23,_,_,_,_,_⟩) (di:=some 23) (L:=[(some 21,0),(some 22,1)]) (f:=Jo.TFact.wn (v-SC) (30)) (by decide) rfl rfl rfl rfl (fun vs m nw d hd K a=>?_) ?_
  ·have S:(Jo.TFact.eq (.agg #[.bool s,.slice A n c]):Jo.TFact #[.bool false,.slice none 0 0] 27).P (vs 0) m:=hd 0 (by decide)
   have U:(Jo.TFact.eq (.agg #[.bool s9,.slice A9 n9 c9]):Jo.TFact #[.bool false,.slice none 0 0] 27).P (vs 1) m:=hd 1 (by decide)
   simp only[Jo.putl,Jo.zd,Jo.ze,Act.put,Jo.za,Jo.zb,Jo.zc]at a|-;clear hd;generalize vs 0=u0 at a S|-;generalize vs 1=u1 at a U|-
   replace S:u0=_:=S
   subst S
   replace U:u1=_:=U
   subst U;go_simp;exact Jo.w1 (CV (h.off p (by simp[no32]) d).wr (G.off p (by simp[no32]) d).wr (by omega) (by omega) rfl) a.out
  refine Jo.ocons (i:=3) (o:=⟨some 24,_,_,_,_,_⟩) (di:=some 24) (L:=[]) (f:=Jo.TFact.eq (.agg #[.bool s9,.slice A9 n9 c9])) (by decide) rfl rfl rfl rfl (fun vs m nw d hd K a=>?_) ?_
  ·clear hd;simp only[Jo.putl,Jo.ze,Act.put,Jo.za,Jo.zb,Jo.zc]at a|-;replace y:=y.off (by omega) d;have hC:=y.cell;go_simp;exact a.out _ _ rfl (br _ _)
  refine Jo.ocons (i:=4) (o:=⟨some 25,_,_,_,_,_⟩) (di:=some 25) (L:=[(some 23,2),(some 24,3)]) (f:=Jo.TFact.wl 30 2 [v-SC,SC]) (by decide) rfl rfl rfl rfl (fun vs m nw d hd K a=>?_) ?_
  ·have d2:(Jo.TFact.wn (v-SC) (30):Jo.TFact #[.bool false,.slice none 0 0] 27).P (vs 2) m:=hd 2 (by decide)
   have W:(Jo.TFact.eq (.agg #[.bool s9,.slice A9 n9 c9]):Jo.TFact #[.bool false,.slice none 0 0] 27).P (vs 3) m:=hd 3 (by decide)
   simp only[Jo.putl,Jo.zd,Jo.ze,Act.put,Jo.za,Jo.zb,Jo.zc]at a|-;clear hd;generalize vs 2=u2 at a d2|-;generalize vs 3=u3 at a W|-;obtain⟨HX,hW,HL,qT,rfl,gO,HF⟩:=d2
   replace W:u3=_:=W
   subst W;go_simp;exact a.out _ _ ⟨_,_,rfl,Wl.lit2 rfl gO.wr (G.off p (by simp[no32]) d).wr (by omega) (by omega)⟩ (af _ _)
  refine Jo.ocons (i:=5) (o:=⟨some 26,_,_,_,_,_⟩) (di:=some 26) (L:=[(some 25,4)]) (f:=Jo.TFact.wn ((v-SC)*SC) (61)) (by decide) rfl rfl rfl rfl (fun vs m nw d hd K a=>?_) ?_
  ·have d4:(Jo.TFact.wl 30 2 [v-SC,SC]:Jo.TFact #[.bool false,.slice none 0 0] 27).P (vs 4) m:=hd 4 (by decide)
   clear hd;simp only[Jo.putl,Jo.zd,Jo.ze,Act.put,Jo.za,Jo.zb,Jo.zc]at a|-;generalize vs 4=u4 at a d4|-;obtain⟨LE,LG,rfl,HA⟩:=d4;go_simp;exact Jo.w1 (mR HA (by decide) iV.out) a.out
  refine Jo.ocons (i:=6) (o:=⟨some 27,_,_,_,_,_⟩) (di:=some 27) (L:=[]) (f:=Jo.TFact.eq (.agg #[.bool s,.slice A n c])) (by decide) rfl rfl rfl rfl (fun vs m nw d hd K a=>?_) ?_
  ·clear hd;simp only[Jo.putl,Jo.ze,Act.put,Jo.za,Jo.zb,Jo.zc]at a|-;replace t:=t.off (by omega) d;have hR:=t.cell;go_simp;exact a.out _ _ rfl (br _ _)
  refine Jo.ocons (i:=7) (o:=⟨some 28,_,_,_,_,_⟩) (di:=some 28) (L:=[]) (f:=Jo.TFact.eq (.agg #[.bool s9,.slice A9 n9 c9])) (by decide) rfl rfl rfl rfl (fun vs m nw d hd K a=>?_) ?_
  ·clear hd;simp only[Jo.putl,Jo.ze,Act.put,Jo.za,Jo.zb,Jo.zc]at a|-;replace y:=y.off (by omega) d;have hC:=y.cell;go_simp;exact a.out _ _ rfl (br _ _)
  refine Jo.ocons (i:=8) (o:=⟨some 29,_,_,_,_,_⟩) (di:=some 29) (L:=[(some 27,6),(some 28,7)]) (f:=Jo.TFact.wn (v+SC) (30)) (by decide) rfl rfl rfl rfl (fun vs m nw d hd K a=>?_) ?_
  ·have Y:(Jo.TFact.eq (.agg #[.bool s,.slice A n c]):Jo.TFact #[.bool false,.slice none 0 0] 27).P (vs 6) m:=hd 6 (by decide)
   have Z:(Jo.TFact.eq (.agg #[.bool s9,.slice A9 n9 c9]):Jo.TFact #[.bool false,.slice none 0 0] 27).P (vs 7) m:=hd 7 (by decide)
   simp only[Jo.putl,Jo.zd,Jo.ze,Act.put,Jo.za,Jo.zb,Jo.zc]at a|-;clear hd;generalize vs 6=u6 at a Y|-;generalize vs 7=u7 at a Z|-
   replace Y:u6=_:=Y
   subst Y
   replace Z:u7=_:=Z
   subst Z;go_simp;exact Jo.w1 (pm (h.off p (by simp[no32]) d).wr (G.off p (by simp[no32]) d).wr (by omega) (by omega) rfl) a.out
  refine Jo.ocons (i:=9) (o:=⟨some 30,_,_,_,_,_⟩) (di:=some 30) (L:=[(some 26,5),(some 29,8)]) (f:=Jo.TFact.wn (u) (100)) (by decide) rfl rfl rfl rfl (fun vs m nw d hd K a=>?_) ?_
  ·have d5:(Jo.TFact.wn ((v-SC)*SC) (61):Jo.TFact #[.bool false,.slice none 0 0] 27).P (vs 5) m:=hd 5 (by decide)
   have d8:(Jo.TFact.wn (v+SC) (30):Jo.TFact #[.bool false,.slice none 0 0] 27).P (vs 8) m:=hd 8 (by decide)
   simp only[Jo.putl,Jo.zd,Jo.ze,Act.put,Jo.za,Jo.zb,Jo.zc]at a|-;clear hd;generalize vs 5=u5 at a d5|-;generalize vs 8=u8 at a d8|-;obtain⟨HY,hX,HM,BX,rfl,gP,HG⟩:=d5;obtain⟨HZ,hZ,HN,CD,rfl,gS,HH⟩:=d8;go_simp;exact Jo.w1 (iL gP.wr gS.wr (by omega) (by omega) iU.out HU.out) a.out
  refine Jo.ocons (i:=10) (o:=⟨some 31,_,_,_,_,_⟩) (di:=some 31) (L:=[]) (f:=Jo.TFact.eq (.agg #[.bool M,.slice H J I])) (by decide) rfl rfl rfl rfl (fun vs m nw d hd K a=>?_) ?_
  ·clear hd;simp only[Jo.putl,Jo.ze,Act.put,Jo.za,Jo.zb,Jo.zc]at a|-;replace l:=l.off (by omega) d;have hD:=l.cell;go_simp;exact a.out _ _ rfl (br _ _)
  refine Jo.ocons (i:=11) (o:=⟨some 32,_,_,_,_,_⟩) (di:=some 32) (L:=[]) (f:=Jo.TFact.eq (.agg #[.bool bC,.slice O bA Q])) (by decide) rfl rfl rfl rfl (fun vs m nw d hd K a=>?_) ?_
  ·clear hd;simp only[Jo.putl,Jo.ze,Act.put,Jo.za,Jo.zb,Jo.zc]at a|-;replace q:=q.off (by omega) d;have bD:=q.cell;go_simp;exact a.out _ _ rfl (br _ _)
  refine Jo.osto (o:=⟨none,_,_,_,_,_⟩) (di:=none) (L:=[(some 30,9)]) (by decide) rfl rfl rfl rfl (fun vs m hd X K a=>?_) ?_
  ·have d9:(Jo.TFact.wn (u) (100):Jo.TFact #[.bool false,.slice none 0 0] 27).P (vs 9) m:=hd 9 (by decide)
   clear hd;simp only[Jo.putl,Jo.zd,Jo.ze,Act.put,Jo.za,Jo.zb,Jo.zc]at a|-;generalize vs 9=u9 at a d9|-;obtain⟨hA,bH,fH,bN,rfl,bB,HI⟩:=d9;have xX:=X.cell;have zX:=X.frozen;go_simp;have j:=ae.t2 X hA bH fH bN;exact a.out undef _ _ rfl j
  refine Jo.ocons (i:=13) (o:=⟨none,_,_,_,_,_⟩) (di:=none) (L:=[(some 31,10)]) (f:=Jo.TFact.any) (by decide) rfl rfl rfl rfl (fun vs m nw d hd K a=>?_) ?_
  ·have C:(Jo.TFact.eq (.agg #[.bool M,.slice H J I]):Jo.TFact #[.bool false,.slice none 0 0] 27).P (vs 10) m:=hd 10 (by decide)
   clear hd;simp only[Jo.putl,Jo.zd,Jo.ze,Act.put,Jo.za,Jo.zb,Jo.zc]at a|-;generalize vs 10=hB at a C|-
   replace C:hB=_:=C
   subst C;replace l:=l.off (by omega) d;have hD:=l.cell;have LM:=l.frozen;go_simp;rw[l.same2];exact a.out undef _ trivial (br _ _)
  exact Jo.StepsI.nil
 have S:(Jo.TFact.eq (.agg #[.bool s,.slice A n c]):Jo.TFact #[.bool false,.slice none 0 0] 27).P (vs 0) w8:=hd 0 (by decide)
 have U:(Jo.TFact.eq (.agg #[.bool s9,.slice A9 n9 c9]):Jo.TFact #[.bool false,.slice none 0 0] 27).P (vs 1) w8:=hd 1 (by decide)
 have d2:(Jo.TFact.wn (v-SC) (30):Jo.TFact #[.bool false,.slice none 0 0] 27).P (vs 2) w8:=hd 2 (by decide)
 have W:(Jo.TFact.eq (.agg #[.bool s9,.slice A9 n9 c9]):Jo.TFact #[.bool false,.slice none 0 0] 27).P (vs 3) w8:=hd 3 (by decide)
 have d4:(Jo.TFact.wl 30 2 [v-SC,SC]:Jo.TFact #[.bool false,.slice none 0 0] 27).P (vs 4) w8:=hd 4 (by decide)
 have d5:(Jo.TFact.wn ((v-SC)*SC) (61):Jo.TFact #[.bool false,.slice none 0 0] 27).P (vs 5) w8:=hd 5 (by decide)
 have Y:(Jo.TFact.eq (.agg #[.bool s,.slice A n c]):Jo.TFact #[.bool false,.slice none 0 0] 27).P (vs 6) w8:=hd 6 (by decide)
 have Z:(Jo.TFact.eq (.agg #[.bool s9,.slice A9 n9 c9]):Jo.TFact #[.bool false,.slice none 0 0] 27).P (vs 7) w8:=hd 7 (by decide)
 have d8:(Jo.TFact.wn (v+SC) (30):Jo.TFact #[.bool false,.slice none 0 0] 27).P (vs 8) w8:=hd 8 (by decide)
 have d9:(Jo.TFact.wn (u) (100):Jo.TFact #[.bool false,.slice none 0 0] 27).P (vs 9) w8:=hd 9 (by decide)
 have C:(Jo.TFact.eq (.agg #[.bool M,.slice H J I]):Jo.TFact #[.bool false,.slice none 0 0] 27).P (vs 10) w8:=hd 10 (by decide)
 have V:(Jo.TFact.eq (.agg #[.bool bC,.slice O bA Q]):Jo.TFact #[.bool false,.slice none 0 0] 27).P (vs 11) w8:=hd 11 (by decide)
 simp only[Jo.putl,Jo.zd,Jo.ze,Act.put,Jo.za,Jo.zb,Jo.zc];clear hd;generalize vs 0=u0 at S|-;generalize vs 1=u1 at U|-;generalize vs 2=u2 at d2|-;generalize vs 3=u3 at W|-;generalize vs 4=u4 at d4|-;generalize vs 5=u5 at d5|-;generalize vs 6=u6 at Y|-;generalize vs 7=u7 at Z|-;generalize vs 8=u8 at d8|-;generalize vs 9=u9 at d9 ee|-;generalize vs 10=hB at C|-
 generalize vs 11=LA at V|-;generalize vs 12=LJ at|-;generalize vs 13=LK at|-;clear vs
 replace S:u0=_:=S
 subst S
 replace U:u1=_:=U
 subst U;obtain⟨HX,hW,HL,qT,rfl,gO,HF⟩:=d2
 replace W:u3=_:=W
 subst W;obtain⟨_,_,rfl,_⟩:=d4;obtain⟨HY,hX,HM,BX,rfl,gP,HG⟩:=d5
 replace Y:u6=_:=Y
 subst Y
 replace Z:u7=_:=Z
 subst Z;obtain⟨HZ,hZ,HN,CD,rfl,gS,HH⟩:=d8;obtain⟨hA,bH,fH,bN,rfl,bB,HI⟩:=d9
 replace C:hB=_:=C
 subst C
 replace V:LA=_:=V
 subst V
 injection ee with ee
 subst ee;replace D:=D.off p (by simp[no32]) d;replace E:=E.off p (by simp[no32]) d;replace x:=ie (d.below x.out (by omega) p.lt);replace l:=l.off (by omega) d;replace q:=q.off (by omega) d;clear p d;have p:=Xn;clear Xn;clear h G gO gP gS;have bD:=q.cell;have N:=q.frozen
 refine jn 14 fun K a=>?_
 go_simp;refine a.out _ _ ?_;clear a K bD N;generalize hS:(w8.setCell _ _).setCell _ _=w9 at *;have j:=ae.of2 q hS;replace p:=p.s j;replace l:=l.s j;replace D:=D.s j;replace E:=E.s j;replace bB:=bB.s j;replace x:=bn x j (by omega);replace q:=j.box
 clear j hS;refine jd ?_;go_wp2;exact bq (v:= .tuple #[.agg #[.bool hA,.slice bH fH bN],.agg #[.bool M,.slice H J I],.agg #[.bool bC,.slice O bA Q]]) (by simp[results,results158,go_sem,p.cell,l.cell,q.cell]) rfl ⟨_,_,_,_,_,_,_,_,_,_,_,_,rfl,bB,D,E,by omega,by omega,by omega,x.out⟩
def Fh (w:World)(x:Int)(s:Bool)(A:Option Addr)(n c:Nat)(g3 g4 g5:Nat)(s9:Bool)(A9:Option Addr)(n9 c9:Nat)(j:Nat)(wr:World):Prop:=∃(s4:Bool) (A4:Option Addr) (n4 c4:Nat) (s5:Bool) (A5:Option Addr) (n5 c5:Nat),Bo wr w.heap.size #[.bool s,.slice A n c] 27/\Bo wr (w.heap.size+1) #[.bool false,.slice none 0 0] 27/\Bo wr g3 #[.bool s9,.slice A9 n9 c9] 27/\Bo wr g4 #[.bool s4,.slice A4 n4 c4] 27/\Bo wr g5 #[.bool s5,.slice A5 n5 c5] 27/\Wr wr s A n c x/\Wn wr s9 A9 n9 c9 SC/\Wn wr s4 A4 n4 c4 (aS x j)/\Wr wr s5 A5 n5 c5 (aT x j)/\n4<=20*j/\n5<=20/\j<=111/\Below w.heap.size w wr
theorem FI{a b c j:Nat}(h:a<=b+c+1)(k:b<=20*j)(l:c<=13):a<=20*(j+1):=by omega
theorem wJ (z:Int)(j:Nat):z.fdiv (2*(j:Int)+1)=z/ (2*(j:Int)+1):=Int.fdiv_eq_ediv_of_nonneg _ (by omega)
theorem xL{z:Int}(h1: -SC<=z)(h2:z<=SC)(j:Nat): -SC<=z/ (2*(j:Int)+1)/\z/ (2*(j:Int)+1)<=SC:=by
 have f:(z/ (2*(j:Int)+1)).natAbs<=z.natAbs:=Int.natAbs_ediv_le_natAbs _ _
 have a:(0:Int) < SC:=by decide
 generalize z/ (2*(j:Int)+1)=q at *
 omega
theorem Dk{w:World}{A:Option Addr}{n c:Nat}{s:Bool}{x:Int}(h:Wr w s A n c x)(hn:n<=20)(hf:SC < x):Calls prog 24 #[.agg #[.bool s,.slice A n c]] w (W1 w 2300 0):=by
 obtain⟨σ,t⟩:∃σ,ag x SC=σ:=⟨_,rfl⟩;obtain⟨τ,u⟩:∃σ,ag x (-SC)=σ:=⟨_,rfl⟩;have e0:=(aQ t).2;have e1:=(aQ u).1;have E:=ie t;have N:=ie u;clear t u;rw[dt hf]at e0
 have j:=ie e0;have p:=ie e1;clear e0 e1
 go_enter func24,ntmps24
 go_upto_region 1 with (fail)
 generalize k:(w.alloc _).alloc _=w1 at *;obtain⟨g,a,d⟩:=Bo.en2 k;replace h:=h.below d.out;clear k
 go_wp2_with fail
 refine(iN).mono ?_;rintro O P ⟨s9,A9,n9,c9,rfl,o,S,B⟩;replace g:=g.b B;replace a:=a.b B;replace h:=h.b B;replace d:=aa d B;clear B
 go_upto_region 2 with (fail)
 have y:=g.lt;have C:=a.lt;generalize l:P.alloc _=T at *;obtain⟨G,i⟩:=Bo.nw l;clear l;replace g:=g.b i;replace a:=a.b i;replace h:=h.b i;replace o:=o.b i;replace d:=aa d i;clear i;have I:=g.lt;have L:=a.lt;have J:=G.lt;have H:=d.out.size;refine jk [0,1,2,3,4,5,6,7,8,9,10] [some 9,some 10,some 11,some 12,some 13,some 14,some 15,some 16,some 17,some 18,some 19] [[],[],[0,1],[2],[3],[4],[4],[4,6],[4,5,7],[4,8],[4,9]] 11 0 [Jo.Fact.eq (.agg #[.bool s,.slice A n c]),Jo.Fact.eq (.agg #[.bool s9,.slice A9 n9 c9]),Jo.qi σ,Jo.qb true,Jo.qb true,Jo.qu,Jo.qu,Jo.qu,Jo.qu,Jo.qu,Jo.qb true] ?_ ?_
 ·iterate 2 (refine jm ?_ ?_;rotate_left)
  refine jm ?_ ?_
  ·rintro M e _ rfl _ rfl K f;simp only[Jo.z]at f|-;go_simp;refine(sW (r:=σ) (h.b e) (o.b e).wr E.out).mono ?_;rintro O V ⟨rfl,B⟩;exact f.out _ _ rfl B
  refine jm ?_ ?_
  ·rintro M e _ rfl K f;simp only[Jo.z]at f|-;have q:=j.out;go_simp
   exact f.out _ _ (by first | rfl | (show Value.bool _=Value.bool _;rw[q]) | simp_all) (br _ _)
  iterate 7 (refine jm ?_ ?_;rotate_left)
  exact jo
  all_goals (rintro M e;(repeat rintro _ rfl);intro K f;simp only[Jo.z]at f|-;have Q:=(g.b e).cell;have R:=(G.b e).cell;go_simp;exact f.out _ _ rfl (br _ _))
 rintro U e _ rfl _ rfl _ rfl _ rfl _ rfl _ rfl _ rfl _ rfl _ rfl _ rfl _ rfl -;simp only[Jo.z];replace a:=a.b e;replace d:=aa d e;refine jd ?_;clear E j N p;clear h o;have D:=a.cell;have m:=a.frozen;go_wp2;clear D m;have F:=ae.t2 a false none 0 0;exact bq (v:= .agg #[.bool false,.slice none 0 0]) (by simp[results,results24,go_sem,F.box.cell]) rfl ⟨_,_,_,_,rfl,⟨Nm.zero,rfl⟩,Nat.zero_le _,(F.below d.out (by omega))⟩
theorem Dl{w:World}{A:Option Addr}{n c:Nat}{s:Bool}{x:Int}(h:Wr w s A n c x)(hn:n<=20)(hf0:¬SC < x)(hf:x < -SC):Calls prog 24 #[.agg #[.bool s,.slice A n c]] w (W1 w 2300 0):=by
 obtain⟨σ,D⟩:∃σ,ag x SC=σ:=⟨_,rfl⟩;obtain⟨τ,E⟩:∃σ,ag x (-SC)=σ:=⟨_,rfl⟩;have e0:=(aQ D).2;have e1:=(aQ E).1;have M:=ie D;have N:=ie E;clear D E;rw[df hf0]at e0;rw[dt hf]at e1;have k:=ie e0;have l:=ie e1;clear e0 e1
 go_enter func24,ntmps24
 go_upto_region 1 with (fail)
 generalize m:(w.alloc _).alloc _=w1 at *;obtain⟨g,e,f⟩:=Bo.en2 m;replace h:=h.below f.out;clear m
 go_wp2_with fail
 refine(iN).mono ?_;rintro Q V ⟨s9,A9,n9,c9,rfl,q,Z,B⟩;replace g:=g.b B;replace e:=e.b B;replace h:=h.b B;replace f:=aa f B;clear B
 go_upto_region 2 with (fail)
 have H:=g.lt;have I:=e.lt;generalize o:V.alloc _=w3 at *;obtain⟨P,j⟩:=Bo.nw o;clear o;replace g:=g.b j;replace e:=e.b j;replace h:=h.b j;replace q:=q.b j;replace f:=aa f j;clear j;have S:=g.lt;have U:=e.lt;have T:=P.lt;have R:=f.out.size;refine jk [0,1,2,3,4,5,6,7,8,9,10] [some 9,some 10,some 11,some 12,some 13,some 14,some 15,some 16,some 17,some 18,some 19] [[],[],[0,1],[2],[3],[4],[4],[4,6],[4,5,7],[4,8],[4,9]] 11 0 [Jo.Fact.eq (.agg #[.bool s,.slice A n c]),Jo.Fact.eq (.agg #[.bool s9,.slice A9 n9 c9]),Jo.qi σ,Jo.qb false,Jo.qb false,Jo.Fact.eq (.agg #[.bool s,.slice A n c]),Jo.Fact.eq (.agg #[.bool s9,.slice A9 n9 c9]),Jo.Fact.wn (-SC) (8),Jo.qi τ,Jo.qb true,Jo.qb true] ?_ ?_
 ·iterate 2 (refine jm ?_ ?_;rotate_left)
  refine jm ?_ ?_
  ·rintro t d _ rfl _ rfl K a;simp only[Jo.z]at a|-;go_simp;refine(sW (r:=σ) (h.b d) (q.b d).wr M.out).mono ?_;rintro Q W ⟨rfl,B⟩;exact a.out _ _ rfl B
  refine jm ?_ ?_
  ·rintro t d _ rfl K a;simp only[Jo.z]at a|-;have i:=k.out;go_simp
   exact a.out _ _ (by first | rfl | (show Value.bool _=Value.bool _;rw[i]) | simp_all) (br _ _)
  iterate 3 (refine jm ?_ ?_;rotate_left)
  refine jm ?_ ?_
  ·rintro t d _ rfl _ rfl K a;simp only[Jo.z]at a|-;go_simp;exact Jo.w1 (Ij (q.b d).wr rfl) a.out
  refine jm ?_ ?_
  ·rintro t d _ rfl _ rfl _ ⟨J,y,G,C,rfl,p,F⟩ K a;simp only[Jo.z]at a|-;go_simp;refine(sW (r:=τ) (h.b d) p.wr N.out).mono ?_;rintro Q W ⟨rfl,B⟩;exact a.out _ _ rfl B
  refine jm ?_ ?_
  ·rintro t d _ rfl _ rfl K a;simp only[Jo.z]at a|-;have i:=l.out;go_simp
   exact a.out _ _ (by first | rfl | (show Value.bool _=Value.bool _;rw[i]) | simp_all) (br _ _)
  refine jm ?_ ?_;rotate_left
  exact jo
  all_goals (rintro t d;(repeat rintro _ rfl);intro K a;simp only[Jo.z]at a|-;have X:=(g.b d).cell;have Y:=(P.b d).cell;go_simp;exact a.out _ _ rfl (br _ _))
 rintro w4 d _ rfl _ rfl _ rfl _ rfl _ rfl _ rfl _ rfl _ ⟨J,y,G,C,rfl,p,F⟩ _ rfl _ rfl _ rfl -;simp only[Jo.z];replace e:=e.b d;replace f:=aa f d;refine jd ?_;clear M k N l;clear h q;have L:=e.cell;have u:=e.frozen;go_wp2;clear L u;have O:=ae.t2 e false none 0 0
 exact bq (v:= .agg #[.bool false,.slice none 0 0]) (by simp[results,results24,go_sem,O.box.cell]) rfl ⟨_,_,_,_,rfl,⟨Nm.zero,rfl⟩,Nat.zero_le _,(O.below f.out (by omega))⟩
theorem vY{w:World}{A:Option Addr}{n c:Nat}{s:Bool}{x:Int}(h:Wr w s A n c x)(hn:n<=20)(hf0:¬SC < x)(hf:¬x < -SC):Calls prog 24 #[.agg #[.bool s,.slice A n c]] w (W1 w 2300 (aS x 111)):=by
 have hF:=ie (lO (m:=x) (by omega) (by omega));obtain⟨σ,hσ⟩:∃σ,ag x SC=σ:=⟨_,rfl⟩;obtain⟨τ,hτ⟩:∃σ,ag x (-SC)=σ:=⟨_,rfl⟩;have e0:=(aQ hσ).2;have e1:=(aQ hτ).1;have HS:=ie hσ;have HT:=ie hτ;clear hσ hτ;rw[df hf0]at e0;rw[df hf]at e1;have HJ:=ie e0;have HK:=ie e1;clear e0 e1 hf hf0
 go_enter func24,ntmps24
 go_upto_region 1 with (fail)
 generalize HZ:(w.alloc _).alloc _=w1 at *;obtain⟨t,u,y⟩:=Bo.en2 HZ;replace h:=h.below y.out;clear HZ
 go_wp2_with fail
 refine(iN).mono ?_;rintro ee w2 ⟨s9,A9,n9,c9,rfl,C,k9,B⟩;replace t:=t.b B;replace u:=u.b B;replace h:=h.b B;replace y:=aa y B;clear B
 go_upto_region 2 with (fail)
 have MA:=t.lt;have MB:=u.lt;generalize LA:w2.alloc _=w3 at *;obtain⟨D,BW⟩:=Bo.nw LA;clear LA;replace t:=t.b BW;replace u:=u.b BW;replace h:=h.b BW;replace C:=C.b BW;replace y:=aa y BW;clear BW;have bH:=t.lt;have fH:=u.lt;have bN:=D.lt;have MJ:=y.out.size;refine jk [0,1,2,3,4,5,6,7,8,9,10] [some 9,some 10,some 11,some 12,some 13,some 14,some 15,some 16,some 17,some 18,some 19] [[],[],[0,1],[2],[3],[4],[4],[4,6],[4,5,7],[4,8],[4,9]] 11 0 [Jo.Fact.eq (.agg #[.bool s,.slice A n c]),Jo.Fact.eq (.agg #[.bool s9,.slice A9 n9 c9]),Jo.qi σ,Jo.qb false,Jo.qb false,Jo.Fact.eq (.agg #[.bool s,.slice A n c]),Jo.Fact.eq (.agg #[.bool s9,.slice A9 n9 c9]),Jo.Fact.wn (-SC) (8),Jo.qi τ,Jo.qb false,Jo.qb false] ?_ ?_
 ·iterate 2 (refine jm ?_ ?_;rotate_left)
  refine jm ?_ ?_
  ·rintro H d _ rfl _ rfl K a;simp only[Jo.z]at a|-;go_simp;refine(sW (r:=σ) (h.b d) (C.b d).wr HS.out).mono ?_;rintro ee wk ⟨rfl,B⟩;exact a.out _ _ rfl B
  refine jm ?_ ?_
  ·rintro H d _ rfl K a;simp only[Jo.z]at a|-;have hU:=HJ.out;go_simp
   exact a.out _ _ (by first | rfl | (show Value.bool _=Value.bool _;rw[hU]) | simp_all) (br _ _)
  iterate 3 (refine jm ?_ ?_;rotate_left)
  refine jm ?_ ?_
  ·rintro H d _ rfl _ rfl K a;simp only[Jo.z]at a|-;go_simp;exact Jo.w1 (Ij (C.b d).wr rfl) a.out
  refine jm ?_ ?_
  ·rintro H d _ rfl _ rfl _ ⟨ME,hA,LZ,hL,rfl,LD,LV⟩ K a;simp only[Jo.z]at a|-;go_simp;refine(sW (r:=τ) (h.b d) LD.wr HT.out).mono ?_;rintro ee wk ⟨rfl,B⟩;exact a.out _ _ rfl B
  refine jm ?_ ?_
  ·rintro H d _ rfl _ rfl K a;simp only[Jo.z]at a|-;have hU:=HK.out;go_simp
   exact a.out _ _ (by first | rfl | (show Value.bool _=Value.bool _;rw[hU]) | simp_all) (br _ _)
  refine jm ?_ ?_;rotate_left
  exact jo
  all_goals (rintro H d;(repeat rintro _ rfl);intro K a;simp only[Jo.z]at a|-;have LF:=(t.b d).cell;have LG:=(D.b d).cell;go_simp;exact a.out _ _ rfl (br _ _))
 rintro w4 d _ rfl _ rfl _ rfl _ rfl _ rfl _ rfl _ rfl _ ⟨ME,hA,LZ,hL,rfl,LD,LV⟩ _ rfl _ rfl _ rfl -;simp only[Jo.z];replace t:=t.b d;replace u:=u.b d;replace D:=D.b d;replace h:=h.b d;replace C:=C.b d;replace y:=aa y d;refine jd ?_;clear HS HJ HT HK;go_wp2;have bH:=t.lt;have fH:=u.lt
 have bN:=D.lt;have ML:=y.out.size
 refine Jo.region_trip (old:= #[.bool false,.slice none 0 0]) (R:=27) (T:=[0,1,2,3,4]) (ds:=[some 21,some 22,some 4,some 5,none,none]) (ls:=[[],[],[],[],[0,2,3],[]]) (k:=6) (L:=[(some 21,0),(some 22,1),(some 4,2),(some 5,3),(none,4)]) (fuel:=1) (w1:=w4) (p:=2) (q:=3) (s:=4) (e:=0) (s2:=999) (e2:=999)
  (F:=[Jo.TFact.eq (.agg #[.bool false,.slice none 0 0]),Jo.TFact.eq (.agg #[.bool s,.slice A n c]),Jo.TFact.any,Jo.TFact.any,Jo.TFact.any,Jo.TFact.any])
  (by decide) (by decide) (by decide) (by decide) (by kernel_rfl) (by kernel_rfl) (by decide) rfl rfl ?_ (fun vs w9 d hd hpq=>?_)
 ·refine Jo.xcons (i:=0) (o:=⟨some 21,_,_,_,_,_⟩) (di:=some 21) (L:=[]) (f:=Jo.TFact.eq (.agg #[.bool false,.slice none 0 0])) (by decide) (by decide) (by decide) (by decide) rfl rfl rfl rfl (fun vs H d hd K a=>?_) ?_
  ·clear hd;simp only[Jo.putl,Jo.ze,Act.put,Jo.za,Jo.zb,Jo.zc]at a|-;go_simp;exact a.out _ _ rfl (br _ _)
  refine Jo.xcons (i:=1) (o:=⟨some 22,_,_,_,_,_⟩) (di:=some 22) (L:=[]) (f:=Jo.TFact.eq (.agg #[.bool s,.slice A n c])) (by decide) (by decide) (by decide) (by decide) rfl rfl rfl rfl (fun vs H d hd K a=>?_) ?_
  ·clear hd;simp only[Jo.putl,Jo.ze,Act.put,Jo.za,Jo.zb,Jo.zc]at a|-
   have MN:World.cell? H ⟨w.heap.size,0,none⟩=some (.bool s):=(t.b d).cell 0
   have MO:World.cell? H ⟨w.heap.size,1,none⟩=some (.slice A n c):=(t.b d).cell 1
   go_simp;exact a.out _ _ rfl (br _ _)
  refine Jo.xnew (i:=2) (o:=⟨some 4,_,_,_,_,_⟩) (di:=some 4) (L:=[]) (by decide) (by decide) (by decide) (by decide) rfl rfl rfl rfl (fun vs H K a=>?_) ?_
  ·simp only[Jo.putl,Jo.ze,Act.put,Jo.za,Jo.zb,Jo.zc]at a|-;go_simp;exact a.out
  refine Jo.xnew (i:=3) (o:=⟨some 5,_,_,_,_,_⟩) (di:=some 5) (L:=[]) (by decide) (by decide) (by decide) (by decide) rfl rfl rfl rfl (fun vs H K a=>?_) ?_
  ·simp only[Jo.putl,Jo.ze,Act.put,Jo.za,Jo.zb,Jo.zc]at a|-;go_simp;exact a.out
  refine Jo.xsto (o:=⟨none,_,_,_,_,_⟩) (di:=none) (L:=[(some 21,0),(some 4,2),(some 5,3)]) (by decide) (by decide) (by decide) (by decide) rfl rfl rfl rfl (fun vs H d hd g hg X K a=>?_) ?_
  ·have d0:(Jo.TFact.eq (.agg #[.bool false,.slice none 0 0]):Jo.TFact #[.bool false,.slice none 0 0] 27).P (vs 0) H:=hd 0 (by decide)
   clear hd;simp only[Jo.putl,Jo.zd,Jo.ze,Act.put,Jo.za,Jo.zb,Jo.zc]at a|-;simp only[hg]at a|-;clear hg;generalize vs 0=u0 at a d0|-;generalize vs 3=u3 at a|-
   replace d0:u0=_:=d0
   subst d0;have xX:=X.cell;have zX:=X.frozen;go_simp;have l:=ae.t2 X false none 0 0;exact a.out undef _ _ rfl l
  exact Jo.StepsI.nil
 have d0:(Jo.TFact.eq (.agg #[.bool false,.slice none 0 0]):Jo.TFact #[.bool false,.slice none 0 0] 27).P (vs 0) w9:=hd 0 (by decide)
 have d1:(Jo.TFact.eq (.agg #[.bool s,.slice A n c]):Jo.TFact #[.bool false,.slice none 0 0] 27).P (vs 1) w9:=hd 1 (by decide)
 clear hd;obtain⟨g4,g5,MT,ep,HX,MW,MX,hW,ee,G,E⟩:=hpq;simp only[Jo.putl,Jo.zd,Jo.ze,Act.put,Jo.za,Jo.zb,Jo.zc];simp only[ep,HX];clear ep HX;generalize vs 0=u0 at d0 ee|-;generalize vs 1=u1 at d1|-;generalize vs 4=u4 at|-;clear vs
 replace d0:u0=_:=d0
 subst d0
 replace d1:u1=_:=d1
 subst d1
 injection ee with ee
 subst ee;replace t:=t.b d;replace u:=u.b d;replace D:=D.b d;replace h:=h.b d;replace C:=C.b d;replace y:=aa y d;have Y:=E.cell;have Z:=E.frozen
 refine jn 5 fun K a=>?_
 go_simp;refine a.out _ _ ?_;clear a K Y Z;generalize N:(w9.setCell _ _).setCell _ _=wB at *;have l:=ae.of2 E N;replace t:=t.s l;replace u:=u.s l;replace D:=D.s l;replace G:=G.s l;replace h:=h.s l;replace C:=C.s l;replace y:=bn y l (by omega)
 replace E:=l.box;clear l N;refine jd ?_;generalize MU:w2.heap.size=g3 at *
 have G1:w.heap.size+1 < g3/\g3 < g4/\g3 < g5/\g4≠g5:=⟨by omega,by omega,by omega,hW⟩
 have HY:Fh w x s A n c g3 g4 g5 s9 A9 n9 c9 0 wB:=⟨_,_,_,_,_,_,_,_,t,u,D,G,E,h,C,⟨Nm.zero,rfl⟩,h,Nat.zero_le _,hn,by decide,y.out⟩
 have HO:=ie HY;clear HY u t D G E h C y;go_wp2
 go_loopw [23] (fun i wr=>∃j:Nat,i= .int .i64 (j:Int)/\Fh w x s A n c g3 g4 g5 s9 A9 n9 c9 j wr) (fun i _=>112-(intOf i).toNat)
 case atStart=>exact ⟨0,rfl,HO.out⟩
 case round=>
  obtain⟨j,rfl,s4,A4,n4,c4,s5,A5,n5,c5,t,u,D,G,E,h,C,U,J,k4,k5,hj,hB⟩:=hrel;have y:=ie hB;clear hB HO
  by_cases hlt:j < 111
  ·have LE:decide ((j:Int) < 111)=true:=dt (by omega)
   have HU:=iw (2*(j:Int));have HV:=iw (2*(j:Int)+1);have HW:=jw (2*(j:Int)+1);have sm:=hF.out j;have HQ:=ie (xL sm.1 sm.2 j)
   have fP:Hid (aS x j+(if j%2=1 then -(aT x j/ (2*(j:Int)+1))else aT x j/ (2*(j:Int)+1))=aS x (j+1)):=ie rfl
   have HI:Hid (aT x j*x/SC*x/SC=aT x (j+1)):=ie rfl
   clear sm;obtain⟨T,hT⟩:∃T,aT x j/ (2*(j:Int)+1)=T:=⟨_,rfl⟩
   have HN:Hid ((aT x j).fdiv (2*(j:Int)+1)=T):=ie (by rw[wJ];exact hT)
   rw[hT]at HQ fP;clear hT;obtain⟨v,hv⟩:∃v,aT x j*x/SC=v:=⟨_,rfl⟩
   have HP:Hid (sA [aT x j,x]=aT x j*x):=ie (by show 1*aT x j*x=_;rw[Int.one_mul])
   have HR:Hid (sA [v,x]=v*x):=ie (by show 1*v*x=_;rw[Int.one_mul])
   have HL:Hid ((aT x j*x).fdiv SC=v):=ie (by rw[Int.fdiv_eq_ediv_of_nonneg _ (by decide)];exact hv)
   have HM:Hid ((v*x).fdiv SC=aT x (j+1)):=ie (by rw[Int.fdiv_eq_ediv_of_nonneg _ (by decide),<-hv];exact HI.out)
   clear hv HI
   go_upto_region 8 with (fail)
   clear LE;have bH:=t.lt;have fH:=u.lt;have bN:=D.lt;have gP:=G.lt;have gS:=E.lt;have MK:=y.out.size;refine jk [0,1,2,3,4,5,6] [some 26,some 27,some 28,some 29,some 30,some 31,some 7,none] [[],[],[1],[2],[3],[0,4],[],[]] 8 1 [Jo.Fact.eq (.agg #[.bool s5,.slice A5 n5 c5]),Jo.Fact.eq (.int .i64 (j:Int)),Jo.Fact.eq (.int .i64 (2*(j:Int))),Jo.Fact.eq (.int .i64 (2*(j:Int)+1)),Jo.Fact.wn (2*(j:Int)+1) (2),Jo.Fact.wn (T) (30),Jo.Fact.bo wr.heap.size #[.bool false,.slice none 0 0] 27,Jo.Fact.any] ?_ ?_
   ·iterate 2 (refine jm ?_ ?_;rotate_left)
    refine jm ?_ ?_
    ·rintro H d _ rfl K a;simp only[Jo.z]at a|-;have hw:=HU.out;go_simp
     exact a.out _ _ (by first | rfl | (show Value.int _ _=Value.int _ _;simp_all)) (br _ _)
    refine jm ?_ ?_
    ·rintro H d _ rfl K a;simp only[Jo.z]at a|-;have hw:=HV.out;have MZ:=HW.out;go_simp
     exact a.out _ _ (by first | rfl | (show Value.int _ _=Value.int _ _;simp_all)) (br _ _)
    refine jm ?_ ?_
    ·rintro H d _ rfl K a;simp only[Jo.z]at a|-;go_simp;exact Jo.w1 (iB _ _ (by omega) (by omega)) a.out
    refine jm ?_ ?_
    ·rintro H d _ rfl _ ⟨MC,LI,LX,LN,rfl,HC,LT⟩ K a;simp only[Jo.z]at a|-;go_simp;exact Jo.w1 (iL (J.b d) HC.wr (by omega) (by omega) (by omega) HN.out) a.out
    refine jm ?_ ?_
    ·rintro H d K a;simp only[Jo.z]at a|-;go_simp;exact a.out _ _ ⟨_,rfl,d.size,Bo.new _ _ _⟩ (af _ _)
    exact jo
    all_goals (rintro H d;(repeat rintro _ rfl);intro K a;simp only[Jo.z]at a|-;have Y:=(E.b d).cell;go_simp;exact a.out _ _ rfl (br _ _))
   rintro wb d _ rfl _ rfl _ rfl _ rfl _ ⟨MC,LI,LX,LN,rfl,HC,LT⟩ _ ⟨NB,MP,LY,MR,rfl,O,LC⟩ _ ⟨g7,rfl,MY,M⟩ -;simp only[Jo.z];replace t:=t.b d;replace u:=u.b d;replace D:=D.b d;replace G:=G.b d;replace E:=E.b d;replace h:=h.b d;replace C:=C.b d;replace U:=U.b d;replace J:=J.b d
   replace y:=aa y d;clear HC HN HU HV HW
   replace LC:LY<=7:=O.fits (ej HQ.out.1 HQ.out.2)
   clear HQ;have W:=M.cell;have gO:=M.frozen
   refine jn 7 fun K a=>?_
   go_simp;refine a.out _ _ ?_;clear a K W gO;generalize N:(wb.setCell _ _).setCell _ _=wc at *;have l:=ae.of2 M N;replace t:=t.s l;replace u:=u.s l;replace D:=D.s l;replace G:=G.s l;replace E:=E.s l;replace h:=h.s l;replace C:=C.s l
   replace U:=U.s l;replace J:=J.s l;replace O:=O.s l;replace y:=bn y l (by omega);replace M:=l.box;clear l N;refine jd ?_
   by_cases bD:j%2=1
   ·have hG:Hid (aS x j+ -T=aS x (j+1)):=ie (by have q:=fP.out;rw[if_pos bD]at q;exact q)
    clear fP
    have t9:(Int.tmod (j:Int) 2==1)=true:=by
     rw[show Int.tmod (j:Int) 2=1 by rw[Int.tmod_eq_emod_of_nonneg (by omega)];omega]
     rfl
    have t8:(((j:Int)%2)==1)=true:=by
     rw[show (j:Int)%2=1 by omega]
     rfl
    clear bD;have W:=M.cell
    go_wp2_with fail
    refine(Ij O.wr rfl).mono ?_;rintro ee w9 ⟨NC,MQ,NA,MS,rfl,Q,LU,B⟩;clear W;replace t:=t.b B;replace u:=u.b B;replace D:=D.b B;replace G:=G.b B;replace E:=E.b B;replace M:=M.b B;replace h:=h.b B;replace C:=C.b B;replace U:=U.b B;replace J:=J.b B;replace O:=O.b B;replace y:=aa y B
    clear B;clear O;have W:=M.cell;have gO:=M.frozen
    go_upto_region 11 with (fail)
    clear W gO;generalize N:(w9.setCell _ _).setCell _ _=wA at *;have l:=ae.of2 M N;replace t:=t.s l;replace u:=u.s l;replace D:=D.s l;replace G:=G.s l;replace E:=E.s l;replace h:=h.s l;replace C:=C.s l;replace U:=U.s l
    replace J:=J.s l;replace Q:=Q.s l;replace y:=bn y l (by omega);replace M:=l.box;clear l N;clear t9 t8;have V:=G.cell;have W:=M.cell
    go_wp2_with fail
    refine(pm U.wr Q.wr (by omega) (by omega) hG.out).mono ?_;rintro ee HG ⟨MD,LJ,qT,LO,rfl,I,iU,B⟩;clear V W;replace t:=t.b B;replace u:=u.b B;replace D:=D.b B;replace G:=G.b B;replace E:=E.b B;replace M:=M.b B;replace h:=h.b B;replace C:=C.b B;replace U:=U.b B;replace J:=J.b B
    replace Q:=Q.b B;replace y:=aa y B;clear B;clear U Q;have V:=G.cell;have gB:=G.frozen
    go_upto_region 12 with (fail)
    clear V gB;generalize N:(HG.setCell _ _).setCell _ _=MG at *;have l:=ae.of2 G N;replace t:=t.s l;replace u:=u.s l;replace D:=D.s l;replace E:=E.s l;replace M:=M.s l;replace h:=h.s l;replace C:=C.s l;replace J:=J.s l
    replace I:=I.s l;replace y:=bn y l (by omega);replace G:=l.box;clear l N;have bH:=t.lt;have fH:=u.lt;have bN:=D.lt;have gP:=G.lt;have gS:=E.lt;have MM:=M.lt;have LB:=y.out.size;refine jk [0,1,2,3,4,5,6,7,8,9,10] [some 40,some 41,some 42,some 43,some 44,some 45,some 46,some 47,some 48,some 49,some 50,none] [[],[],[0,1],[2],[],[3,4],[],[5,6],[7],[],[8,9],[]] 12 1 [Jo.Fact.eq (.agg #[.bool s5,.slice A5 n5 c5]),Jo.Fact.eq (.agg #[.bool s,.slice A n c]),Jo.Fact.wl 20 2 [aT x j,x],Jo.Fact.wn (aT x j*x) (41),Jo.Fact.eq (.agg #[.bool s9,.slice A9 n9 c9]),Jo.Fact.wn (v) (60),Jo.Fact.eq (.agg #[.bool s,.slice A n c]),Jo.Fact.wl 60 2 [v,x],Jo.Fact.wn (v*x) (121),Jo.Fact.eq (.agg #[.bool s9,.slice A9 n9 c9]),Jo.Fact.wn (aT x (j+1)) (140),Jo.Fact.any] ?_ ?_
    ·iterate 2 (refine jm ?_ ?_;rotate_left)
     refine jm ?_ ?_
     ·rintro H d _ rfl _ rfl K a;simp only[Jo.z]at a|-;go_simp;exact a.out _ _ ⟨_,_,rfl,Wl.lit2 rfl (J.b d) (h.b d) (by omega) (by omega)⟩ (af _ _)
     refine jm ?_ ?_
     ·rintro H d _ ⟨hA,hL,rfl,hQ⟩ K a;simp only[Jo.z]at a|-;go_simp;exact Jo.w1 (mR hQ (by decide) HP.out) a.out
     refine jm ?_ ?_;rotate_left
     refine jm ?_ ?_
     ·rintro H d _ ⟨HD,hC,BX,hM,rfl,bA,iV⟩ _ rfl K a;simp only[Jo.z]at a|-;go_simp;exact Jo.w1 (iL bA.wr (C.b d).wr (by omega) (by omega) (by decide) HL.out) a.out
     refine jm ?_ ?_;rotate_left
     refine jm ?_ ?_
     ·rintro H d _ ⟨HE,hD,CD,hN,rfl,bB,lA⟩ _ rfl K a;simp only[Jo.z]at a|-;go_simp;exact a.out _ _ ⟨_,_,rfl,Wl.lit2 rfl bB.wr (h.b d) (by omega) (by omega)⟩ (af _ _)
     refine jm ?_ ?_
     ·rintro H d _ ⟨LK,LP,rfl,hR⟩ K a;simp only[Jo.z]at a|-;go_simp;exact Jo.w1 (mR hR (by decide) HR.out) a.out
     refine jm ?_ ?_;rotate_left
     refine jm ?_ ?_
     ·rintro H d _ ⟨HF,hE,ET,hP,rfl,bC,lB⟩ _ rfl K a;simp only[Jo.z]at a|-;go_simp;exact Jo.w1 (iL bC.wr (C.b d).wr (by omega) (by omega) (by decide) HM.out) a.out
     exact jo
     all_goals (rintro H d;(repeat rintro _ rfl);intro K a;simp only[Jo.z]at a|-;have Y:=(E.b d).cell;have LF:=(t.b d).cell;have LG:=(D.b d).cell;go_simp;exact a.out _ _ rfl (br _ _))
    rintro HH d _ rfl _ rfl _ ⟨_,_,rfl,_⟩ _ ⟨HD,hC,BX,hM,rfl,bA,iV⟩ _ rfl _ ⟨HE,hD,CD,hN,rfl,bB,lA⟩ _ rfl _ ⟨_,_,rfl,_⟩ _ ⟨HF,hE,ET,hP,rfl,bC,lB⟩ _ rfl _ ⟨MF,LM,HA,LR,rfl,S,LW⟩ -;simp only[Jo.z];replace t:=t.b d;replace u:=u.b d;replace D:=D.b d;replace G:=G.b d;replace E:=E.b d;replace M:=M.b d
    replace h:=h.b d;replace C:=C.b d;replace J:=J.b d;replace I:=I.b d;replace y:=aa y d;clear bA bB bC J;have sm:=hF.out (j+1)
    have LS:HA<=7:=S.fits (ej sm.1 sm.2)
    clear sm;have Y:=E.cell;have Z:=E.frozen
    refine jn 11 fun K a=>?_
    go_simp;refine a.out _ _ ?_;clear a K Y Z;generalize N:(HH.setCell _ _).setCell _ _=MH at *;have l:=ae.of2 E N;replace t:=t.s l;replace u:=u.s l;replace D:=D.s l;replace G:=G.s l;replace M:=M.s l;replace h:=h.s l;replace C:=C.s l
    replace I:=I.s l;replace S:=S.s l;replace y:=bn y l (by omega);replace E:=l.box;clear l N;refine jd ?_;have hH:=iw ((j:Int)+1);have hI:=jw ((j:Int)+1);have hX:=hH.out;have hZ:=hI.out
    have hV:qT<=20*(j+1):=FI iU k4 (by omega)
    go_wp2;clear hX hZ
    go_roundw
    case rel=>exact ⟨j+1,by go_num,_,_,_,_,_,_,_,_,t,u,D,G,E,h,C,I,S.wr,hV,by omega,by omega,y.out⟩
    case measure=>simp [intOf];omega
   ·have hG:Hid (aS x j+T=aS x (j+1)):=ie (by have q:=fP.out;rw[if_neg bD]at q;exact q)
    clear fP
    have t9:(Int.tmod (j:Int) 2==1)=false:=by
     rw[show Int.tmod (j:Int) 2=0 by rw[Int.tmod_eq_emod_of_nonneg (by omega)];omega]
     rfl
    have t8:(((j:Int)%2)==1)=false:=by
     rw[show (j:Int)%2=0 by omega]
     rfl
    clear bD;have Q:=O;have LU:=LC;clear O
    go_upto_region 11 with (fail)
    clear t9 t8;have V:=G.cell;have W:=M.cell
    go_wp2_with fail
    refine(pm U.wr Q.wr (by omega) (by omega) hG.out).mono ?_;rintro ee HG ⟨MD,LJ,qT,LO,rfl,I,iU,B⟩;clear V W;replace t:=t.b B;replace u:=u.b B;replace D:=D.b B;replace G:=G.b B;replace E:=E.b B;replace h:=h.b B;replace C:=C.b B;replace U:=U.b B;replace J:=J.b B;replace y:=aa y B
    clear B;clear U Q;have V:=G.cell;have gB:=G.frozen
    go_upto_region 12 with (fail)
    clear V gB;generalize N:(HG.setCell _ _).setCell _ _=MG at *;have l:=ae.of2 G N;replace t:=t.s l;replace u:=u.s l;replace D:=D.s l;replace E:=E.s l;replace h:=h.s l;replace C:=C.s l;replace J:=J.s l;replace I:=I.s l
    replace y:=bn y l (by omega);replace G:=l.box;clear l N;have bH:=t.lt;have fH:=u.lt;have bN:=D.lt;have gP:=G.lt;have gS:=E.lt;have LB:=y.out.size;refine jk [0,1,2,3,4,5,6,7,8,9,10] [some 40,some 41,some 42,some 43,some 44,some 45,some 46,some 47,some 48,some 49,some 50,none] [[],[],[0,1],[2],[],[3,4],[],[5,6],[7],[],[8,9],[]] 12 1 [Jo.Fact.eq (.agg #[.bool s5,.slice A5 n5 c5]),Jo.Fact.eq (.agg #[.bool s,.slice A n c]),Jo.Fact.wl 20 2 [aT x j,x],Jo.Fact.wn (aT x j*x) (41),Jo.Fact.eq (.agg #[.bool s9,.slice A9 n9 c9]),Jo.Fact.wn (v) (60),Jo.Fact.eq (.agg #[.bool s,.slice A n c]),Jo.Fact.wl 60 2 [v,x],Jo.Fact.wn (v*x) (121),Jo.Fact.eq (.agg #[.bool s9,.slice A9 n9 c9]),Jo.Fact.wn (aT x (j+1)) (140),Jo.Fact.any] ?_ ?_
    ·iterate 2 (refine jm ?_ ?_;rotate_left)
     refine jm ?_ ?_
     ·rintro H d _ rfl _ rfl K a;simp only[Jo.z]at a|-;go_simp;exact a.out _ _ ⟨_,_,rfl,Wl.lit2 rfl (J.b d) (h.b d) (by omega) (by omega)⟩ (af _ _)
     refine jm ?_ ?_
     ·rintro H d _ ⟨hA,hL,rfl,hQ⟩ K a;simp only[Jo.z]at a|-;go_simp;exact Jo.w1 (mR hQ (by decide) HP.out) a.out
     refine jm ?_ ?_;rotate_left
     refine jm ?_ ?_
     ·rintro H d _ ⟨HD,hC,BX,hM,rfl,bA,iV⟩ _ rfl K a;simp only[Jo.z]at a|-;go_simp;exact Jo.w1 (iL bA.wr (C.b d).wr (by omega) (by omega) (by decide) HL.out) a.out
     refine jm ?_ ?_;rotate_left
     refine jm ?_ ?_
     ·rintro H d _ ⟨HE,hD,CD,hN,rfl,bB,lA⟩ _ rfl K a;simp only[Jo.z]at a|-;go_simp;exact a.out _ _ ⟨_,_,rfl,Wl.lit2 rfl bB.wr (h.b d) (by omega) (by omega)⟩ (af _ _)
     refine jm ?_ ?_
     ·rintro H d _ ⟨LK,LP,rfl,hR⟩ K a;simp only[Jo.z]at a|-;go_simp;exact Jo.w1 (mR hR (by decide) HR.out) a.out
     refine jm ?_ ?_;rotate_left
     refine jm ?_ ?_
     ·rintro H d _ ⟨HF,hE,ET,hP,rfl,bC,lB⟩ _ rfl K a;simp only[Jo.z]at a|-;go_simp;exact Jo.w1 (iL bC.wr (C.b d).wr (by omega) (by omega) (by decide) HM.out) a.out
     exact jo
     all_goals (rintro H d;(repeat rintro _ rfl);intro K a;simp only[Jo.z]at a|-;have Y:=(E.b d).cell;have LF:=(t.b d).cell;have LG:=(D.b d).cell;go_simp;exact a.out _ _ rfl (br _ _))
    rintro HH d _ rfl _ rfl _ ⟨_,_,rfl,_⟩ _ ⟨HD,hC,BX,hM,rfl,bA,iV⟩ _ rfl _ ⟨HE,hD,CD,hN,rfl,bB,lA⟩ _ rfl _ ⟨_,_,rfl,_⟩ _ ⟨HF,hE,ET,hP,rfl,bC,lB⟩ _ rfl _ ⟨MF,LM,HA,LR,rfl,S,LW⟩ -;simp only[Jo.z];replace t:=t.b d;replace u:=u.b d;replace D:=D.b d;replace G:=G.b d;replace E:=E.b d;replace h:=h.b d
    replace C:=C.b d;replace I:=I.b d;replace y:=aa y d;clear bA bB bC J;have sm:=hF.out (j+1)
    have LS:HA<=7:=S.fits (ej sm.1 sm.2)
    clear sm;have Y:=E.cell;have Z:=E.frozen
    refine jn 11 fun K a=>?_
    go_simp;refine a.out _ _ ?_;clear a K Y Z;generalize N:(HH.setCell _ _).setCell _ _=MH at *;have l:=ae.of2 E N;replace t:=t.s l;replace u:=u.s l;replace D:=D.s l;replace G:=G.s l;replace h:=h.s l;replace C:=C.s l;replace I:=I.s l
    replace S:=S.s l;replace y:=bn y l (by omega);replace E:=l.box;clear l N;refine jd ?_;have hH:=iw ((j:Int)+1);have hI:=jw ((j:Int)+1);have hX:=hH.out;have hZ:=hI.out
    have hV:qT<=20*(j+1):=FI iU k4 (by omega)
    go_wp2;clear hX hZ
    go_roundw
    case rel=>exact ⟨j+1,by go_num,_,_,_,_,_,_,_,_,t,u,D,G,E,h,C,I,S.wr,hV,by omega,by omega,y.out⟩
    case measure=>simp [intOf];omega
  ·obtain rfl:j=111:=by omega
   have LE:decide (((111:Nat):Int) < 111)=false:=by decide
   clear h C J;have MI:=u.cell;have LH:=u.frozen;have V:=G.cell;go_wp2;clear MI LH V;have l:=ae.t2 u s4 A4 n4 c4;replace U:=U.s l;exact bq (v:= .agg #[.bool s4,.slice A4 n4 c4]) (by simp[results,results24,go_sem,l.box.cell]) rfl ⟨_,_,_,_,rfl,U,by omega,(l.below y.out (by omega))⟩
theorem Fr{w:World}{A:Option Addr}{n c:Nat}{s:Bool}{x r:Int}(h:Wr w s A n c x)(hn:n<=20)(hr:nu x=r):Calls prog 24 #[.agg #[.bool s,.slice A n c]] w (W1 w 2300 r):=by
 unfold nu at hr
 by_cases h1:SC < x
 ·rw[if_pos (by omega)]at hr;subst hr;exact Dk h hn h1
 ·by_cases h2:x < -SC
  ·rw[if_pos (by omega)]at hr;subst hr;exact Dl h hn h1 h2
  ·rw[if_neg (by omega)]at hr;subst hr;exact vY h hn h1 h2
theorem yK{w:World}{A:Option Addr}{n c:Nat}{s:Bool}{v u lo hi:Int}(h:Wn w s A n c v)(hn:n<=20)(h0:0<=v)(hu:pU v=u)(hlo:pA v=lo)(hhi:pB v=hi):Calls prog 158 #[.agg #[.bool s,.slice A n c]] w (JV w 100 u lo hi):=by
 unfold pU at hu
 unfold pA at hlo
 unfold pB at hhi
 by_cases c1:SC < v*2
 ·rw[if_pos c1]at hu hlo hhi;exact pG h hn h0 (by omega) hu hlo hhi
 ·rw[if_neg c1]at hu hlo hhi;subst hu;subst hlo;subst hhi;refine(pI h hn (by omega)).mono ?_;rintro e w' ⟨s1,A1,n1,c1,s2,A2,n2,c2,s3,A3,n3,c3,e1,a,p2,b,d,f,g,B⟩;exact⟨s1,A1,n1,c1,s2,A2,n2,c2,s3,A3,n3,c3,e1,a,p2,b,by omega,by omega,by omega,B⟩
theorem yI{w:World}{H:Sp}(hT:dQ w)(h:eD H):Calls prog 80 #[] w (PV w H):=by
 obtain⟨r,u,p,q,hz⟩:=h
 have v:Hid (eB r u=H):=ie hz.symm
 have s:=ie p;have t:=ie q;clear p q;clear hz
 go_enter func80,ntmps80
 go_upto_region 1 with (fail)
 generalize d:w.alloc _=w1 at *;obtain⟨a,c⟩:=Bo.en1 d;replace hT:=hT.below c.out;clear d
 go_wp2_with fail
 refine(tn (z:=2) (by decide) (by decide) rfl rfl).mono ?_;rintro C G ⟨s2,A2,n2,c2,s3,A3,n3,c3,rfl,p2,l,E,F,B⟩;replace a:=a.b B;replace hT:=hT.b B;replace c:=aa c B;clear B
 have j:n2<=20:=p2.fits (by decide)
 have k:n3<=20:=l.fits (by decide)
 go_wp2_with fail
 refine(yY hT p2.wr l.wr j k s.out t.out v.out).mono ?_;rintro C I ⟨A,x,s4,y,E4,g,m,i,f,rfl,D,B⟩;replace a:=a.b B;replace c:=aa c B;clear B;clear p2 l hT;have n:=a.cell;have e:=a.frozen;go_wp2;clear n e;have o:=ae.t9 a A x s4 y E4 g m i f
 exact bq (by simp[results,results80,go_sem,o.box.cell]) rfl ⟨_,_,_,_,_,_,_,_,_,rfl,D,(o.below c.out (by omega))⟩
theorem xB{v:Int}(h0:0<=v)(h1:v<=SC): -(2*SC)<=pL v/\pL v<=2*SC/\ -(2*SC)<=pH v/\pH v<=2*SC:=by
 obtain⟨w1,e⟩:=jz h0 h1;obtain⟨f,g⟩:=ou h0 h1;obtain⟨b,c⟩:=dC h0 h1;have a:=bV;have n1:=Rat.mul_le_mul_of_nonneg_right b (Rat.le_of_lt a);have n2:=Rat.mul_le_mul_of_nonneg_right c (Rat.le_of_lt a)
 rw[Rat.intCast_add,show ((214:Int):Rat)=214 from rfl]at w1
 rw[Rat.intCast_sub,show ((214:Int):Rat)=214 from rfl]at e
 have d:(3000:Rat)<=SR:=by decide +kernel
 have h:pL v<=pH v:=Rat.intCast_le_intCast.1 (by grind)
 have lo: -(2*SC)<=pL v:=Rat.intCast_le_intCast.1 (by
  rw[Rat.intCast_neg,Rat.intCast_mul,show ((2:Int):Rat)=2 from rfl]
  grind)
 have hi:pH v<=2*SC:=Rat.intCast_le_intCast.1 (by
  rw[Rat.intCast_mul,show ((2:Int):Rat)=2 from rfl]
  grind)
 exact⟨lo,by omega,by omega,hi⟩
theorem qW{z:Int}(h1: -(2*SC)<=z)(h2:z<=2*SC):z.natAbs < 4294967296^20:=by
 have e:(2*SC).natAbs < 4294967296^20:=by decide
 have a:(0:Int) < SC:=by decide
 generalize (4294967296:Nat)^20=Z at *
 omega
theorem oY{u:Int}(h1: -SC<=u)(h2:u<=SC):nu u=aS u 111:=by
 have a:(0:Int) < SC:=by decide
 unfold nu
 rw[if_neg (by omega)]
theorem yJ{w:World}{D M E:Int}{s:Bool}{x:Int}{Z:Sp}(hT:dQ w)(h0:0<=M)(hM:LQ M)(hx:rk D s M E=x)(x0:0<=x)(x1:x<=ak 1)(hZ:eE (du x) Z):Calls prog 81 #[VQ D s M E] w (PV w Z):=by
 delta VQ
 obtain⟨fb,V,W⟩:=aZ x0 x1;obtain⟨v,hv⟩:∃v,du x=v:=⟨_,rfl⟩;rw[hv]at V W hZ;obtain⟨r,r2,hr,Y,hz⟩:=hZ;obtain⟨g1,g2,g3,g4⟩:=xB V W;have gS:=ie (qW g1 g2);have gP:=ie (qW g3 g4);have hB:=ie (ej (z:=v) (by have:(0:Int) < SC:=(by decide);omega) W);obtain⟨u1,u2⟩:=vj V W;obtain⟨u,hu⟩:∃u,pU v=u:=⟨_,rfl⟩
 obtain⟨a,ha⟩:∃u,pA v=u:=⟨_,rfl⟩;obtain⟨b,hb⟩:∃u,pB v=u:=⟨_,rfl⟩;obtain⟨S,hS⟩:∃S,aS u 111=S:=⟨_,rfl⟩;rw[hu]at u1 u2
 have sp:(3:Int) < SC:=by decide
 have su: -SC<=u/\u<=SC:=by
  generalize SC=Z at *
  omega
 have hA:=ie (ej su.1 su.2)
 have O:Hid (nu u=S):=ie ((oY su.1 su.2).trans hS)
 have HL:Hid (a+S-400=pL v):=ie (by unfold pL;rw[ha,hu,hS];omega)
 have HH:Hid (b+S+400=pH v):=ie (by unfold pH;rw[hb,hu,hS])
 have HZ:Hid (eB r r2=Z):=ie hz.symm
 have HX:=ie hx;have HV:=ie hv;have gO:=ie fb;have HR:=ie hr;have hC:=ie Y;have HU:=ie hu;have HA:=ie ha;have fP:=ie hb;have gB:=ie V;clear hx hv fb hr Y hu ha hb V;clear hz g1 g2 g3 g4 u1 u2 su sp W hS x0 x1
 go_enter func81,ntmps81
 go_upto_region 1 with (fail)
 generalize X:(w.alloc _).alloc _=w1 at *;obtain⟨X1,d,f⟩:=Bo.en2 X;replace hT:=hT.below f.out;clear X;have HP:=X1.cell
 go_wp2_with fail
 refine(JZ hT h0 hM HX.out HV.out gO.out).mono ?_;rintro ee w2 ⟨s3,A3,n3,c3,rfl,p3,k3,B⟩;clear HP;replace d:=d.b B;replace hT:=hT.b B;replace f:=aa f B;clear B
 have LE:n3<=7:=p3.fits hB.out
 clear k3
 go_upto_region 2 with (fail)
 have iU:=d.lt;generalize e:w2.alloc _=w3 at *;obtain⟨X3,c⟩:=Bo.nw e;clear e;replace d:=d.b c;replace hT:=hT.b c;replace p3:=p3.b c;replace f:=aa f c;clear c;clear X1;have HQ:=X3.cell
 go_wp2_with fail
 refine(yK p3 (by omega) gB.out HU.out HA.out fP.out).mono ?_;rintro ee G ⟨s5,A5,n5,c5,s6,A6,n6,c6,s7,A7,n7,c7,rfl,p,k,l,k5,k6,k7,B⟩;clear HQ;replace d:=d.b B;replace hT:=hT.b B;replace f:=aa f B;clear B;clear p3
 have LF:n5<=7:=p.fits hA.out
 go_upto_region 3 with (fail)
 have T:(World.alloc G (.cells #[.bool s5,.slice A5 n5 c5] 27)).heap.size=G.heap.size+1:=by simp
 have U:(World.alloc (World.alloc G (.cells #[.bool s5,.slice A5 n5 c5] 27)) (.cells #[.bool s6,.slice A6 n6 c6] 27)).heap.size=G.heap.size+1+1:=by simp
 have iV:=d.lt;have i:=af G (.cells #[.bool s5,.slice A5 n5 c5] 27);replace d:=d.b i;replace hT:=hT.b i;replace p:=p.b i;replace k:=k.b i;replace l:=l.b i;replace f:=ie (bt f.out i)
 have y:=Bo.new G #[.bool s5,.slice A5 n5 c5] 27;generalize e:World.alloc G (.cells #[.bool s5,.slice A5 n5 c5] 27)=w5 at *;clear e;have lB:=d.lt;have lA:=y.lt;generalize e:w5.alloc _=w6 at *;obtain⟨j,c⟩:=Bo.nw e;clear e;replace d:=d.b c;replace y:=y.b c;replace hT:=hT.b c;replace p:=p.b c;replace k:=k.b c
 replace l:=l.b c;replace f:=aa f c;clear c;have zX:=d.lt;have qT:=y.lt;have xX:=j.lt;generalize e:w6.alloc _=w7 at *;obtain⟨m,c⟩:=Bo.nw e;clear e;replace d:=d.b c;replace y:=y.b c;replace j:=j.b c;replace hT:=hT.b c;replace p:=p.b c;replace k:=k.b c;replace l:=l.b c
 replace f:=aa f c;clear c;rw[T]at j;rw[U]at m;clear X3;have HS:=y.cell
 go_wp2_with fail
 refine(Fr p.wr (by omega) O.out).mono ?_;rintro ee w8 ⟨L,H,J,I,rfl,q,k8,B⟩;clear HS;replace d:=d.b B;replace j:=j.b B;replace m:=m.b B;replace hT:=hT.b B;replace k:=k.b B;replace l:=l.b B;replace f:=aa f B;clear B;clear p
 go_wp2_with fail
 refine(iB 400 _ (by decide) (by decide)).mono ?_;rintro ee w9 ⟨s9,A9,n9,c9,rfl,F,k9,B⟩;replace d:=d.b B;replace j:=j.b B;replace m:=m.b B;replace hT:=hT.b B;replace k:=k.b B;replace l:=l.b B;replace q:=q.b B;replace f:=aa f B;clear B;have HW:=f.out.size
 go_upto_region 4 with (fail)
 have t:(World.alloc w9 (.cells #[.bool L,.slice H J I] 27)).heap.size=w9.heap.size+1:=by simp
 have HC:=d.lt;have CD:=j.lt;have ET:=m.lt;have i:=af w9 (.cells #[.bool L,.slice H J I] 27);replace d:=d.b i;replace j:=j.b i;replace m:=m.b i;replace hT:=hT.b i;replace k:=k.b i
 replace l:=l.b i;replace q:=q.b i;replace F:=F.b i;replace f:=ie (bt f.out i);have R:=Bo.new w9 #[.bool L,.slice H J I] 27;generalize e:World.alloc w9 (.cells #[.bool L,.slice H J I] 27)=wA at *
 clear e;have HG:=d.lt;have HD:=j.lt;have HE:=m.lt;have HF:=R.lt;generalize e:wA.alloc _=wB at *;obtain⟨X9,c⟩:=Bo.nw e;clear e;replace d:=d.b c;replace j:=j.b c;replace m:=m.b c;replace R:=R.b c;replace hT:=hT.b c;replace k:=k.b c;replace l:=l.b c;replace q:=q.b c;replace F:=F.b c
 replace f:=aa f c;clear c;rw[t]at X9;clear t;have LD:=d.lt;have HY:=j.lt;have LA:=m.lt;have LB:=R.lt;have LC:=X9.lt;refine jk [0,1,2,3,4,5,6,7,8,9,10] [some 24,some 25,some 26,some 27,some 28,some 29,some 30,some 31,some 32,some 33,some 34,none] [[],[],[0,1],[],[2,3],[],[],[5,6],[],[7,8],[4,9],[]] 12 1 [Jo.Fact.eq (.agg #[.bool s6,.slice A6 n6 c6]),Jo.Fact.eq (.agg #[.bool L,.slice H J I]),Jo.Fact.wn (a+S) (2500),Jo.Fact.eq (.agg #[.bool s9,.slice A9 n9 c9]),Jo.Fact.wn (pL v) (2600),Jo.Fact.eq (.agg #[.bool s7,.slice A7 n7 c7]),Jo.Fact.eq (.agg #[.bool L,.slice H J I]),Jo.Fact.wn (b+S) (2500),Jo.Fact.eq (.agg #[.bool s9,.slice A9 n9 c9]),Jo.Fact.wn (pH v) (2600),Jo.Fact.iv Z,Jo.Fact.any] ?_ ?_
 ·iterate 2 (refine jm ?_ ?_;rotate_left)
  refine jm ?_ ?_
  ·rintro wj h _ rfl _ rfl K g;simp only[Jo.z]at g|-;go_simp;exact Jo.w1 (pm (k.b h).wr (q.b h).wr (by omega) (by omega) rfl) g.out
  refine jm ?_ ?_;rotate_left
  refine jm ?_ ?_
  ·rintro wj h _ ⟨HI,bC,hU,hF,rfl,A,hN⟩ _ rfl K g;simp only[Jo.z]at g|-;go_simp;exact Jo.w1 (CV A.wr (F.b h).wr (by omega) (by omega) HL.out) g.out
  iterate 2 (refine jm ?_ ?_;rotate_left)
  refine jm ?_ ?_
  ·rintro wj h _ rfl _ rfl K g;simp only[Jo.z]at g|-;go_simp;exact Jo.w1 (pm (l.b h).wr (q.b h).wr (by omega) (by omega) rfl) g.out
  refine jm ?_ ?_;rotate_left
  refine jm ?_ ?_
  ·rintro wj h _ ⟨HK,bH,hW,hH,rfl,C,hQ⟩ _ rfl K g;simp only[Jo.z]at g|-;go_simp;exact Jo.w1 (pm C.wr (F.b h).wr (by omega) (by omega) HH.out) g.out
  refine jm ?_ ?_
  ·rintro wj h _ ⟨HJ,bD,hV,hG,rfl,n,hP⟩ _ ⟨HM,bN,hX,hI,rfl,o,hR⟩ K g;simp only[Jo.z]at g|-;go_simp;exact Jo.v1 (yY (hT.b h) n.wr o.wr (n.fits gS.out) (o.fits gP.out) HR.out hC.out HZ.out) g.out
  exact jo
  all_goals (rintro wj h;(repeat rintro _ rfl);intro K g;simp only[Jo.z]at g|-;have LG:=(j.b h).cell;have LI:=(R.b h).cell;have LJ:=(X9.b h).cell;have LH:=(m.b h).cell;go_simp;exact g.out _ _ rfl (br _ _))
 rintro wC h _ rfl _ rfl _ ⟨HI,bC,hU,hF,rfl,A,hN⟩ _ rfl _ ⟨HJ,bD,hV,hG,rfl,n,hP⟩ _ rfl _ rfl _ ⟨HK,bH,hW,hH,rfl,C,hQ⟩ _ rfl _ ⟨HM,bN,hX,hI,rfl,o,hR⟩ _ ⟨hL,hD,HN,hE,fH,P,bA,Q,N,rfl,HO⟩ -;simp only[Jo.z];replace d:=d.b h;replace f:=aa f h;clear hT k l q F A n C o;have HT:=d.cell
 have bB:=d.frozen
 refine jn 11 fun K g=>?_
 go_simp;refine g.out _ _ ?_;clear g K HT bB;have SX:=ae.t9 d hL hD HN hE fH P bA Q N;refine jd ?_;go_wp2;exact bq (by simp[results,results81,go_sem,SX.box.cell]) rfl ⟨_,_,_,_,_,_,_,_,_,rfl,HO,(SX.below f.out (by omega))⟩
def Nq (w:World)(A:Option Addr)(n c:Nat)(l:List Int):Prop:=
 l.length=n/\n<=c/\n<=1000/\(0 < n->∃b o,A=some ⟨b,o,none⟩/\∀k,k < n->∃D s M E,w.cell? ⟨b,o+k*4,none⟩=some (.int .i64 D)/\w.cell? ⟨b,o+k*4+1,none⟩=some (.bool s)/\w.cell? ⟨b,o+k*4+2,none⟩=some (.int .u64 M)/\w.cell? ⟨b,o+k*4+3,none⟩=some (.int .i64 E)/\Fq D s M E (l.getD k 0))
theorem Nq.below{w w':World}{A:Option Addr}{n c:Nat}{l:List Int}(h:Nq w A n c l)(hb:Below w.heap.size w w'):Nq w' A n c l:=by
 obtain⟨h1,h2,a,h4⟩:=h
 refine⟨h1,h2,a,fun hn=>?_⟩
 obtain⟨b,o,e,d⟩:=h4 hn
 refine⟨b,o,e,fun k hk=>?_⟩
 obtain⟨K,s,M,E,c0,c1,c2,c3,q⟩:=d k hk
 have t:∀{i:Nat} {v:Value},w.cell? ⟨b,i,none⟩=some v->w'.cell? ⟨b,i,none⟩=some v:=fun c=>(hb.cell (p:=⟨b,_,none⟩) (block_lt_of_cell c)).trans c
 exact⟨K,s,M,E,t c0,t c1,t c2,t c3,q⟩
abbrev Nq.b:= @Nq.below
theorem Nq.of2{w:World}{g:Nat}{K1 K2 M1 M2 E1 E2 r1 r2:Int}{s1 s2:Bool}(X:Bo w g #[.int .i64 K1,.bool s1,.int .u64 M1,.int .i64 E1,.int .i64 K2,.bool s2,.int .u64 M2,.int .i64 E2] 24)
  (q1:Fq K1 s1 M1 E1 r1) (q2:Fq K2 s2 M2 E2 r2):Nq w (some ⟨g,0,none⟩) 2 2 [r1,r2]:=by
 refine⟨rfl,Nat.le_refl _,by decide,fun _=>⟨_,0,rfl,fun k hk=>?_⟩⟩
 rcases (by omega:k=0\/k=1)with rfl | rfl
 ·exact⟨K1,s1,M1,E1,X.at rfl,X.at rfl,X.at rfl,X.at rfl,q1⟩
 ·exact⟨K2,s2,M2,E2,X.at rfl,X.at rfl,X.at rfl,X.at rfl,q2⟩
def Jo.Fact.nq (n:Nat)(l:List Int):Jo.Fact:=⟨fun v w=>∃A c,v= .slice A n c/\Nq w A n c l,fun v w w' h b=>by
 obtain⟨A,c,e,h⟩:=h;exact⟨A,c,e,h.below b⟩⟩
theorem Fq.nn{K:Int}{s:Bool}{M E r:Int}(h:Fq K s M E r):0<=M:=by
 rcases h.1 with⟨_,_,rfl,_⟩ | h | ⟨_,rfl,_⟩
 ·exact Int.le_refl _
 ·have:=h
  omega
 ·exact Int.le_refl _
theorem Js{l:List Sp}{k:Nat}{z:Sp}(h:k < l.length)(hz:l.getD k none=z):l.take (k+1)=l.take k ++[z]:=by
 rw[List.take_succ_eq_append_getElem h,<-hz]
 simp[List.getD_eq_getElem?_getD,h]
