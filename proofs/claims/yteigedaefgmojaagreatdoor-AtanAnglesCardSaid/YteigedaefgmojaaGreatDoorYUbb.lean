/-
 Contracts that the proof rests on.
-/
import Derived.Laws.EntriesVeiled
import Derived.Test.YteigedaefgmojaaGreatDoorYUay
namespace Go.Proofs.YteigedaefgmojaaGreatDoor
open Go.Proofs.Tryz
set_option maxHeartbeats 16000000
open Go.RowKit
set_option linter.unusedVariables false
set_option linter.unusedSimpArgs false
set_option maxRecDepth 100000
theorem Wn.off{w w':World}{g:Nat}{old new:Array Value}{R:TypeId}{s:Bool}{A:Option Addr}{n c:Nat}{z:Int}(h:Wn w s A n c z)(X:Bo w g old R)(hn:old.all no32=true)(O:Jo.Off g new R w w'):Wn w' s A n c z:=⟨h.1.off X hn O,h.2⟩
theorem iY{w:World}{A:Option Addr}{n c:Nat}{s:Bool}{x:Int}{B:Option Addr}{m d:Nat}{t:Bool}{y:Int}{q:Int}(h:Wr w s A n c x)(k:Wr w t B m d y)(hn:n<=268435456)(hm:m<=268435456)(h0:y≠0)(hq:x.fdiv y=q):Calls prog 199 #[.agg #[.bool s,.slice A n c],.agg #[.bool t,.slice B m d]] w (W1 w (n+m+4) q):=by
 go_enter func199,ntmps199
 go_upto_region 1 with fail
 generalize u:((w.alloc _).alloc _).alloc _=w1 at *;obtain⟨O,P,a,e⟩:=Bo.en3 u;replace h:=h.below e.out;replace k:=k.below e.out;clear u;have I:=O.cell;have J:=P.cell
 go_wp2_with fail
 refine(Kh h k (by omega) (by omega) h0 hq rfl).mono ?_;rintro T z ⟨p,j,o,l,s9,A9,n9,c9,rfl,i,R,U,V,B⟩;clear I J;replace a:=a.b B;replace e:=ak e B;clear B;clear h k;clear O P
 go_upto_region 2 with fail
 have g:(World.alloc z (.cells #[.bool p,.slice j o l] 43)).heap.size=z.heap.size+1:=by simp
 have F:=a.lt;have D:=af z (.cells #[.bool p,.slice j o l] 43);replace a:=a.b D;replace i:=i.b D;replace e:=ie (bt e.out D);have r:=Bo.new z #[.bool p,.slice j o l] 43;generalize f:World.alloc z (.cells #[.bool p,.slice j o l] 43)=S at *;clear f
 have H:=a.lt;have G:=r.lt;generalize f:S.alloc _=W at *;obtain⟨Q,N⟩:=Bo.nw f;clear f;refine aR ?_ a r i e N;clear a r i e N;intro a r i e;rw[g]at Q;clear g;clear R;have M:=a.cell;have C:=a.frozen;have L:=r.cell;go_wp2;clear M C L
 have E:=ac.t2 a p j o l;replace i:=i.s E;exact bq (v:= .agg #[.bool p,.slice j o l]) (by simp[results,results199,go_sem,E.box.cell]) rfl ⟨p,j,o,l,rfl,i,by omega,(E.below e.out (by omega))⟩
theorem vf{w:World}{z lo hi:Int}(h0:0 < z)(h1:z<=1000)(hlo:iP/z=lo)(hhi:iO/z+1=hi):Calls prog 147 #[.int .i64 z] w (W2 w 60 lo hi):=by
 have HL:Hid (iP.fdiv z=lo):=ie (by rw[Int.fdiv_eq_ediv_of_nonneg _ (by omega)];exact hlo)
 obtain⟨v,R⟩:∃v,iO.fdiv z=v:=⟨_,rfl⟩;have HV:=ie R
 have HH:Hid (v+1=hi):=ie (by rw[<-R,Int.fdiv_eq_ediv_of_nonneg _ (by omega)];exact hhi)
 have H0:Hid (z≠0):=ie (by omega)
 clear hlo hhi R
 go_enter func147,ntmps147
 go_upto_region 1 with fail
 generalize A:(w.alloc _).alloc _=w1 at *;obtain⟨a,c,d⟩:=Bo.en2 A;clear A
 go_wp2_with fail
 refine(vj).mono ?_;rintro ee I ⟨s2,A2,n2,c2,s3,A3,n3,c3,rfl,p2,j,k2,k3,B⟩;refine aF ?_ a c d B;clear a c d B;intro a c d;have gS:=d.out.size
 go_upto_region 2 with fail
 have n:(World.alloc I (.cells #[.bool s2,.slice A2 n2 c2] 43)).heap.size=I.heap.size+1:=by simp
 have Y:=a.lt;have Z:=c.lt;have t:=af I (.cells #[.bool s2,.slice A2 n2 c2] 43);replace a:=a.b t;replace c:=c.b t;replace p2:=p2.b t;replace j:=j.b t;replace d:=ie (bt d.out t)
 have i:=Bo.new I #[.bool s2,.slice A2 n2 c2] 43;generalize g:World.alloc I (.cells #[.bool s2,.slice A2 n2 c2] 43)=w3 at *;clear g;have bB:=a.lt;have bC:=c.lt;have bA:=i.lt;generalize g:w3.alloc _=w4 at *;obtain⟨m,r⟩:=Bo.nw g;clear g;refine gv ?_ a c i p2 j d r;clear a c i p2 j d r;intro a c i p2 j d;rw[n]at m;clear n
 go_wp2_with fail
 refine(iL z _ (by omega) (by omega)).mono ?_;rintro ee w5 ⟨s6,A6,n6,c6,rfl,o,k6,B⟩;refine oG ?_ a c i m p2 j d B;clear a c i m p2 j d B;intro a c i m p2 j d;have hA:=d.out.size
 go_upto_region 3 with fail
 have bN:=a.lt;have fH:=c.lt;have bD:=i.lt;have bH:=m.lt;generalize g:w5.alloc _=w6 at *;obtain⟨X6,r⟩:=Bo.nw g;clear g;refine zo ?_ a c i m p2 j o d r;clear a c i m p2 j o d r;intro a c i m p2 j o d
 have hE:=a.lt;have hF:=c.lt;have hB:=i.lt;have hC:=m.lt;have hD:=X6.lt;refine bF [0,1,2,3,4,5,6,7] [14,15,16,17,18,19,20,21,0,0] [[],[],[0,1],[],[],[3,4],[],[5,6],[],[]] 10 2 [Jo.Fact.eq (.agg #[.bool s2,.slice A2 n2 c2]),Jo.Fact.eq (.agg #[.bool s6,.slice A6 n6 c6]),Jo.Fact.wn (lo) (60),Jo.Fact.eq (.agg #[.bool s3,.slice A3 n3 c3]),Jo.Fact.eq (.agg #[.bool s6,.slice A6 n6 c6]),Jo.Fact.wn (v) (50),Jo.Fact.wn (1) (2),Jo.Fact.wn (hi) (60),Jo.Fact.any,Jo.Fact.any] ?_ ?_
 ·iterate 2 (refine jm ?_ ?_;rotate_left)
  refine jm ?_ ?_
  ·rintro M e _ rfl _ rfl K f;go_simp;exact Jo.w1 (iY (p2.b e).wr (o.b e).wr (by omega) (by omega) H0.out HL.out) f.out
  iterate 2 (refine jm ?_ ?_;rotate_left)
  refine jm ?_ ?_
  ·rintro M e _ rfl _ rfl K f;go_simp;exact Jo.w1 (iY (j.b e).wr (o.b e).wr (by omega) (by omega) H0.out HV.out) f.out
  refine jm ?_ ?_
  ·rintro M e K f;go_simp;exact Jo.w1 (iL 1 _ (by decide) (by decide)) f.out
  refine jm ?_ ?_
  ·rintro M e _ ⟨fP,N,W,P,rfl,E,T⟩ _ ⟨gB,O,X,Q,rfl,F,U⟩ K f;go_simp;exact Jo.w1 (pZ E.wr F.wr (by omega) (by omega) HH.out) f.out
  exact jo
  all_goals (rintro M e;(repeat rintro _ rfl);intro K f;have hG:=(i.b e).cell;have hI:=(X6.b e).cell;have hH:=(m.b e).cell;go_simp;exact f.out _ _ rfl (br _ _))
 rintro w8 e _ rfl _ rfl _ ⟨G,p,C,u,rfl,k,S⟩ _ rfl _ rfl _ ⟨fP,N,W,P,rfl,E,T⟩ _ ⟨gB,O,X,Q,rfl,F,U⟩ _ ⟨H,q,D,x,rfl,l,V⟩ -;simp only[Jo.z];replace a:=a.b e;replace c:=c.b e;replace d:=ak d e;clear p2 j o;have gO:=a.cell;have J:=a.frozen
 refine jn 8 fun K f=>?_
 go_simp;refine f.out _ _ ?_;clear f K gO J;generalize y:(w8.setCell _ _).setCell _ _=w9 at *;have h:=ac.of2 a y;replace c:=c.s h;replace k:=k.s h;replace l:=l.s h;replace d:=bi d h (by omega);replace a:=h.box;clear h y;have gP:=c.cell;have L:=c.frozen
 refine jn 9 fun K f=>?_
 go_simp;refine f.out _ _ ?_;clear f K gP L;generalize y:(w9.setCell _ _).setCell _ _=wA at *;have h:=ac.of2 c y;replace a:=a.s h;replace k:=k.s h;replace l:=l.s h;replace d:=bi d h (by omega);replace c:=h.box;clear h y;refine jd ?_;go_wp2;exact bq (v:= .tuple #[.agg #[.bool G,.slice p C u],.agg #[.bool H,.slice q D x]]) (by simp[results,results147,go_sem,a.cell,c.cell]) rfl ⟨G,p,C,u,H,q,D,x,rfl,k,l,S,V,d.out⟩
def Ky (w:World)(K:Nat)(x y z:Int)(e:Ending)(w':World):Prop:=∃s1 A1 n1 c1 s2 A2 n2 c2 s3 A3 n3 c3,e= .returned (.tuple #[.agg #[.bool s1,.slice A1 n1 c1],.agg #[.bool s2,.slice A2 n2 c2],.agg #[.bool s3,.slice A3 n3 c3]])/\Wn w' s1 A1 n1 c1 x/\Wn w' s2 A2 n2 c2 y/\Wn w' s3 A3 n3 c3 z/\n1<=K/\n2<=K/\n3<=K/\Below w.heap.size w w'
theorem Wl.st2{w w':World}{g:Nat}{cs:Array Value}{R:TypeId}{a b:Value}{A:Option Addr}{c K:Nat}{zs:List Int}(h:Wl w A 2 c K zs)(S:ac w w' g #[a,b] cs R)(hn:(#[a,b]:Array Value).all no32=true):Wl w' A 2 c K zs:=by
 obtain⟨h1,h2,n,h4⟩:=h
 refine⟨h1,h2,n,fun _=>?_⟩
 obtain⟨f,o,e,l⟩:=h4 (by decide)
 have j:f≠g:=by
  rintro rfl;obtain⟨s,B,m,d,c0,_⟩:=l 1 (by decide);rw[S.1.cell]at c0
  have:(#[a,b]:Array Value)[o+1*2]?=none:=Array.getElem?_eq_none (by simp)
  rw[this]at c0
  cases c0
 refine⟨f,o,e,fun k hk=>?_⟩
 obtain⟨s,B,m,d,c0,c1,p,hm⟩:=l k hk
 have t:∀{i:Nat} {v:Value},w.cell? ⟨f,i,none⟩=some v->w'.cell? ⟨f,i,none⟩=some v:=fun hv=>by
  unfold World.cell? at hv|-
  rw[S.2.2.1 f j];exact hv
 exact⟨s,B,m,d,t c0,t c1,p.stn S hn,hm⟩
def Jo.TFact.wl (K n:Nat)(zs:List Int):Jo.TFact #[.bool false,.slice none 0 0] 43:=⟨fun v w=>∃A c,v= .slice A 2 c/\Wl w A 2 c K zs,fun v w w' h b=>by
 obtain⟨A,c,e,h⟩:=h
 exact⟨A,c,e,h.below b⟩,fun v w w' g cs h S=>by
 obtain⟨A,c,e,h⟩:=h;exact⟨A,c,e,h.st2 S (by simp[no32])⟩⟩
theorem Bo.same2{w:World}{g:Nat}{T:TypeId}{a b:Value}(h:Bo w g #[a,b] T):(w.setCell ⟨g,0,none⟩ a).setCell ⟨g,1,none⟩ b=w:=by
 unfold Bo at h
 have e:∀(u:World) (i:Nat) (v:Value),u.heap[g]?=some (.cells #[a,b] T (0,0))->(#[a,b]:Array Value)[i]?=some v->u.setCell ⟨g,i,none⟩ v=u:=by
  intro u i v f d
  have hs:(#[a,b]:Array Value).setIfInBounds i v= #[a,b]:=by
   apply Array.ext_getElem?
   intro j
   rw[Array.getElem?_setIfInBounds]
   by_cases c:i=j
   ·subst c;rw[if_pos rfl,d]
    simp
    obtain⟨hl,_⟩:=Array.getElem?_eq_some_iff.1 d
    simpa using hl
   ·rw[if_neg c]
  unfold World.setCell
  have hh:u.heap.modify g (fun x=>match x with
   | .cells c elem frozen=> .cells (c.setIfInBounds i v) elem frozen
   | o=>o)=u.heap:=by
   apply Array.ext_getElem?
   intro j
   rw[Array.getElem?_modify]
   by_cases c:g=j
   ·subst c;rw[if_pos rfl,f]
    simp[hs]
   ·rw[if_neg c]
  cases u
  simp only at hh|-
  congr 1
 rw[e w 0 a h rfl,e w 1 b h rfl]
theorem ju{x y c:Int}(h:ag x y=c):decide (c<=0)=decide (x<=y):=by
 rw[<-h]
 unfold ag
 by_cases c1:x < y
 ·rw[if_pos c1]
  simp
  omega
 ·rw[if_neg c1]
  by_cases c2:y < x
  ·rw[if_pos c2]
   simp
   omega
  ·rw[if_neg c2]
   simp
   omega
theorem qo{w:World}{A:Option Addr}{n c:Nat}{s:Bool}{v:Int}(h:Wn w s A n c v)(hn:n<=20)(hc:2*v<=SC):Calls prog 148 #[.agg #[.bool s,.slice A n c]] w (Ky w 60 v 0 0):=by
 obtain⟨σ,M⟩:∃σ,ag (2*v) SC=σ:=⟨_,rfl⟩;have e0:=ju M
 have HP:Hid (tj [2,v]=2*v):=ie (by show 1*2*v=_;rw[Int.one_mul])
 have HS:=ie M;clear M;rw[dt hc]at e0;have p:=ie e0;clear e0 hc
 go_enter func148,ntmps148
 go_upto_region 1 with fail
 generalize q:(((w.alloc _).alloc _).alloc _).alloc _=w1 at *;obtain⟨j,e,f,d,g⟩:=Bo.en4 q;replace h:=h.below g.out;clear q
 go_wp2_with fail
 refine(i5).mono ?_;rintro ee w2 ⟨s9,A9,n9,c9,rfl,u,k9,B⟩;refine gv ?_ j e f d h g B;clear j e f d h g B;intro j e f d h g;have bA:=g.out.size
 go_upto_region 2 with fail
 have R:=j.lt;have T:=e.lt;have U:=f.lt;have S:=d.lt;generalize t:w2.alloc _=w3 at *;obtain⟨X5,BW⟩:=Bo.nw t;clear t;refine oG ?_ j e f d h u g BW;clear j e f d h u g BW;intro j e f d h u g;have bB:=j.lt;have bH:=e.lt
 have bN:=f.lt;have bD:=d.lt;have bC:=X5.lt;refine bF [0,1,2,3,4,5,6] [8,9,10,11,12,13,14] [[],[],[0,1],[2],[],[3,4],[5]] 7 0 [Jo.Fact.wn (2) (2),Jo.Fact.eq (.agg #[.bool s,.slice A n c]),Jo.Fact.wl 20 2 [2,v],Jo.Fact.wn (2*v) (41),Jo.Fact.eq (.agg #[.bool s9,.slice A9 n9 c9]),Jo.qi σ,Jo.qb true] ?_ ?_
 ·refine jm ?_ ?_
  ·rintro x i K k;go_simp;exact Jo.w1 (iL 2 _ (by decide) (by decide)) k.out
  refine jm ?_ ?_;rotate_left
  refine jm ?_ ?_
  ·rintro x i _ ⟨V,F,P,H,rfl,m,N⟩ _ rfl K k;go_simp;exact k.out _ _ ⟨_,_,rfl,Wl.lit2 rfl m.wr (h.b i).wr (by omega) (by omega)⟩ (af _ _)
  refine jm ?_ ?_
  ·rintro x i _ ⟨fH,fP,rfl,J⟩ K k;go_simp;exact Jo.w1 (ny J (by decide) HP.out) k.out
  refine jm ?_ ?_;rotate_left
  refine jm ?_ ?_
  ·rintro x i _ ⟨W,G,Q,I,rfl,o,O⟩ _ rfl K k;go_simp;refine(tM (r:=σ) o.wr (u.b i).wr HS.out).mono ?_;rintro ee wk ⟨rfl,B⟩;exact k.out _ _ rfl B
  refine jm ?_ ?_
  ·rintro x i _ rfl K k;have L:=p.out;go_simp
   exact k.out _ _ (by first | rfl | (show Value.bool _=Value.bool _;rw[L]) | simp_all) (br _ _)
  exact jo
  all_goals (rintro x i;(repeat rintro _ rfl);intro K k;have y:=(j.b i).cell;have gB:=(X5.b i).cell;go_simp;exact k.out _ _ rfl (br _ _))
 rintro w4 i _ ⟨V,F,P,H,rfl,m,N⟩ _ rfl _ ⟨_,_,rfl,_⟩ _ ⟨W,G,Q,I,rfl,o,O⟩ _ rfl _ rfl _ rfl -;simp only[Jo.z];replace j:=j.b i;replace e:=e.b i;replace f:=f.b i;replace d:=d.b i;replace h:=h.b i;replace g:=ak g i;refine jd ?_;clear m o HS p HP;clear u;have y:=j.cell
 have Y:=e.cell;have D:=e.frozen;have Z:=f.cell;have E:=f.frozen;have X:=d.cell;have C:=d.frozen;go_wp2;clear y Y D Z E X C;generalize l:(w4.setCell _ _).setCell _ _=w5 at *;have a:=ac.of2 e l;replace f:=f.s a;replace d:=d.s a;replace h:=h.s a
 replace g:=bi g a (by omega);replace e:=a.box;clear a l;generalize l:(w5.setCell _ _).setCell _ _=w6 at *;have a:=ac.of2 f l;replace e:=e.s a;replace d:=d.s a;replace h:=h.s a;replace g:=bi g a (by omega);replace f:=a.box;clear a l;generalize l:(w6.setCell _ _).setCell _ _=w7 at *
 have a:=ac.of2 d l;replace e:=e.s a;replace f:=f.s a;replace h:=h.s a;replace g:=bi g a (by omega);replace d:=a.box;clear a l;exact bq (v:= .tuple #[.agg #[.bool s,.slice A n c],.agg #[.bool false,.slice none 0 0],.agg #[.bool false,.slice none 0 0]]) (by simp[results,results148,go_sem,e.cell,f.cell,d.cell]) rfl ⟨_,_,_,_,_,_,_,_,_,_,_,_,rfl,h,⟨Nm.zero,rfl⟩,⟨Nm.zero,rfl⟩,by omega,Nat.zero_le _,Nat.zero_le _,g.out⟩
theorem qn{w:World}{A:Option Addr}{n c:Nat}{s:Bool}{v:Int}{u lo hi:Int}(h:Wn w s A n c v)(hn:n<=20)(h0:0<=v)(hc:¬2*v<=SC)(hu:(v-SC)*SC/ (v+SC)=u)(hlo:iP/4=lo)(hhi:iO/4+1=hi):Calls prog 148 #[.agg #[.bool s,.slice A n c]] w (Ky w 100 u lo hi):=by
 obtain⟨σ,hσ⟩:∃σ,ag (2*v) SC=σ:=⟨_,rfl⟩;have e0:=ju hσ
 have HP:Hid (tj [2,v]=2*v):=ie (by show 1*2*v=_;rw[Int.one_mul])
 have HS:=ie hσ;clear hσ;rw[df hc]at e0;have hE:=ie e0
 have sp:(0:Int) < SC:=by decide
 have iU:Hid (v+SC≠0):=ie (by omega)
 have HU:Hid (((v-SC)*SC).fdiv (v+SC)=u):=ie (by rw[Int.fdiv_eq_ediv_of_nonneg _ (by omega)];exact hu)
 have iV:Hid (tj [v-SC,SC]=(v-SC)*SC):=ie (by show 1*(v-SC)*SC=_;rw[Int.one_mul])
 have hG:=ie hlo;have hF:=ie hhi;clear e0 hc hu hlo hhi h0 sp
 go_enter func148,ntmps148
 go_upto_region 1 with fail
 generalize hH:(((w.alloc _).alloc _).alloc _).alloc _=w1 at *;obtain⟨t,m,l,p,x⟩:=Bo.en4 hH;replace h:=h.below x.out;clear hH
 go_wp2_with fail
 refine(i5).mono ?_;rintro ee w2 ⟨s9,A9,n9,c9,rfl,G,k9,B⟩;refine gv ?_ t m l p h x B;clear t m l p h x B;intro t m l p h x;have LA:=x.out.size
 go_upto_region 2 with fail
 have HN:=t.lt;have HQ:=m.lt;have HR:=l.lt;have HO:=p.lt;generalize hI:w2.alloc _=w3 at *;obtain⟨y,BW⟩:=Bo.nw hI;clear hI;refine oG ?_ t m l p h G x BW;clear t m l p h G x BW;intro t m l p h G x;have hL:=t.lt;have hP:=m.lt
 have hQ:=l.lt;have hN:=p.lt;have hM:=y.lt;refine bF [0,1,2,3,4,5,6] [8,9,10,11,12,13,14] [[],[],[0,1],[2],[],[3,4],[5]] 7 0 [Jo.Fact.wn (2) (2),Jo.Fact.eq (.agg #[.bool s,.slice A n c]),Jo.Fact.wl 20 2 [2,v],Jo.Fact.wn (2*v) (41),Jo.Fact.eq (.agg #[.bool s9,.slice A9 n9 c9]),Jo.qi σ,Jo.qb false] ?_ ?_
 ·refine jm ?_ ?_
  ·rintro q d K a;go_simp;exact Jo.w1 (iL 2 _ (by decide) (by decide)) a.out
  refine jm ?_ ?_;rotate_left
  refine jm ?_ ?_
  ·rintro q d _ ⟨HT,hU,HI,lA,rfl,fP,HC⟩ _ rfl K a;go_simp;exact a.out _ _ ⟨_,_,rfl,Wl.lit2 rfl fP.wr (h.b d).wr (by omega) (by omega)⟩ (af _ _)
  refine jm ?_ ?_
  ·rintro q d _ ⟨LC,LE,rfl,DS⟩ K a;go_simp;exact Jo.w1 (ny DS (by decide) HP.out) a.out
  refine jm ?_ ?_;rotate_left
  refine jm ?_ ?_
  ·rintro q d _ ⟨HV,hV,HJ,lB,rfl,gB,HD⟩ _ rfl K a;go_simp;refine(tM (r:=σ) gB.wr (G.b d).wr HS.out).mono ?_;rintro ee wk ⟨rfl,B⟩;exact a.out _ _ rfl B
  refine jm ?_ ?_
  ·rintro q d _ rfl K a;have HA:=hE.out;go_simp
   exact a.out _ _ (by first | rfl | (show Value.bool _=Value.bool _;rw[HA]) | simp_all) (br _ _)
  exact jo
  all_goals (rintro q d;(repeat rintro _ rfl);intro K a;have hR:=(t.b d).cell;have hC:=(y.b d).cell;go_simp;exact a.out _ _ rfl (br _ _))
 rintro w4 d _ ⟨HT,hU,HI,lA,rfl,fP,HC⟩ _ rfl _ ⟨_,_,rfl,_⟩ _ ⟨HV,hV,HJ,lB,rfl,gB,HD⟩ _ rfl _ rfl _ rfl -;simp only[Jo.z];replace t:=t.b d;replace m:=m.b d;replace l:=l.b d;replace p:=p.b d;replace y:=y.b d;replace h:=h.b d;replace G:=G.b d;replace x:=ak x d;refine jd ?_
 clear fP gB HS hE HP
 go_wp2_with fail
 refine(vf (by decide) (by decide) hG.out hF.out).mono ?_;rintro ee w5 ⟨M,H,J,I,bC,O,bA,Q,rfl,D,E,LG,LH,B⟩;refine zo ?_ t m l p y h G x B;clear t m l p y h G x B;intro t m l p y h G x;clear hG hF;have hD:=l.cell
 have hT:=l.frozen;have bD:=p.cell;have N:=p.frozen
 go_upto_region 5 with fail
 clear hD hT bD N;generalize hS:(w5.setCell _ _).setCell _ _=w6 at *;have j:=ac.of2 l hS;replace t:=t.s j;replace m:=m.s j;replace p:=p.s j;replace y:=y.s j;replace h:=h.s j;replace G:=G.s j;replace D:=D.s j;replace E:=E.s j
 replace x:=bi x j (by omega);replace l:=j.box;clear j hS;generalize hS:(w6.setCell _ _).setCell _ _=w7 at *;have j:=ac.of2 p hS;replace t:=t.s j;replace m:=m.s j;replace l:=l.s j;replace y:=y.s j;replace h:=h.s j;replace G:=G.s j;replace D:=D.s j
 replace E:=E.s j;replace x:=bi x j (by omega);replace p:=j.box;clear j hS;have hL:=t.lt;have hP:=m.lt;have hQ:=l.lt;have hN:=p.lt;have hM:=y.lt;have LB:=x.out.size
 refine Jo.region_lone (old:= #[.bool false,.slice none 0 0]) (R:=43) (T:=[0,1,2,3,4,5,6,7,8,9,10,11,12,13]) (ds:=[some 21,some 22,some 23,some 24,some 25,some 26,some 27,some 28,some 29,some 30,some 31,some 32,none,none,none]) (ls:=[[],[],[0,1],[],[2,3],[4],[],[],[6,7],[5,8],[],[],[9],[10],[]]) (k:=15) (L:=[(some 21,0),(some 22,1),(some 23,2),(some 24,3),(some 25,4),(some 26,5),(some 27,6),(some 28,7),(some 29,8),(some 30,9),(some 31,10),(some 32,11),(none,12),(none,13)]) (fuel:=1) (w1:=w7) (g:=w.heap.size+1) (s:=12) (e:=9)
  (F:=[Jo.TFact.eq (.agg #[.bool s,.slice A n c]),Jo.TFact.eq (.agg #[.bool s9,.slice A9 n9 c9]),Jo.TFact.wn (v-SC) (30),Jo.TFact.eq (.agg #[.bool s9,.slice A9 n9 c9]),Jo.TFact.wl 30 2 [v-SC,SC],Jo.TFact.wn ((v-SC)*SC) (61),Jo.TFact.eq (.agg #[.bool s,.slice A n c]),Jo.TFact.eq (.agg #[.bool s9,.slice A9 n9 c9]),Jo.TFact.wn (v+SC) (30),Jo.TFact.wn (u) (100),Jo.TFact.eq (.agg #[.bool M,.slice H J I]),Jo.TFact.eq (.agg #[.bool bC,.slice O bA Q]),Jo.TFact.any,Jo.TFact.any,Jo.TFact.any])
  m (by decide) (by kernel_rfl) (by kernel_rfl) (by decide) rfl rfl ?_ (fun vs w8 csp d hd ee Xn=>?_)
 ·refine Jo.ocons (i:=0) (o:=⟨some 21,_,_,_,_,_⟩) (di:=some 21) (L:=[]) (f:=Jo.TFact.eq (.agg #[.bool s,.slice A n c])) (by decide) rfl rfl rfl rfl (fun vs q nw d hd K a=>?_) ?_
  ·clear hd;simp only[Jo.putl,Jo.ze,Act.put,Jo.za,Jo.zb,Jo.zc]at a|-;replace t:=t.off (by omega) d;have hR:=t.cell;go_simp;exact a.out _ _ rfl (br _ _)
  refine Jo.ocons (i:=1) (o:=⟨some 22,_,_,_,_,_⟩) (di:=some 22) (L:=[]) (f:=Jo.TFact.eq (.agg #[.bool s9,.slice A9 n9 c9])) (by decide) rfl rfl rfl rfl (fun vs q nw d hd K a=>?_) ?_
  ·clear hd;simp only[Jo.putl,Jo.ze,Act.put,Jo.za,Jo.zb,Jo.zc]at a|-;replace y:=y.off (by omega) d;have hC:=y.cell;go_simp;exact a.out _ _ rfl (br _ _)
  refine Jo.ocons (i:=2) (o:=⟨some 23,_,_,_,_,_⟩) (di:=some 23) (L:=[(some 21,0),(some 22,1)]) (f:=Jo.TFact.wn (v-SC) (30)) (by decide) rfl rfl rfl rfl (fun vs q nw d hd K a=>?_) ?_
  ·have S:(Jo.TFact.eq (.agg #[.bool s,.slice A n c]):Jo.TFact #[.bool false,.slice none 0 0] 43).P (vs 0) q:=hd 0 (by decide)
   have U:(Jo.TFact.eq (.agg #[.bool s9,.slice A9 n9 c9]):Jo.TFact #[.bool false,.slice none 0 0] 43).P (vs 1) q:=hd 1 (by decide)
   simp only[Jo.putl,Jo.zd,Jo.ze,Act.put,Jo.za,Jo.zb,Jo.zc]at a|-;clear hd;generalize vs 0=u0 at a S|-;generalize vs 1=u1 at a U|-
   replace S:u0=_:=S
   subst S
   replace U:u1=_:=U
   subst U;go_simp;exact Jo.w1 (DW (h.off m (by simp[no32]) d).wr (G.off m (by simp[no32]) d).wr (by omega) (by omega) rfl) a.out
  refine Jo.ocons (i:=3) (o:=⟨some 24,_,_,_,_,_⟩) (di:=some 24) (L:=[]) (f:=Jo.TFact.eq (.agg #[.bool s9,.slice A9 n9 c9])) (by decide) rfl rfl rfl rfl (fun vs q nw d hd K a=>?_) ?_
  ·clear hd;simp only[Jo.putl,Jo.ze,Act.put,Jo.za,Jo.zb,Jo.zc]at a|-;replace y:=y.off (by omega) d;have hC:=y.cell;go_simp;exact a.out _ _ rfl (br _ _)
  refine Jo.ocons (i:=4) (o:=⟨some 25,_,_,_,_,_⟩) (di:=some 25) (L:=[(some 23,2),(some 24,3)]) (f:=Jo.TFact.wl 30 2 [v-SC,SC]) (by decide) rfl rfl rfl rfl (fun vs q nw d hd K a=>?_) ?_
  ·have d2:(Jo.TFact.wn (v-SC) (30):Jo.TFact #[.bool false,.slice none 0 0] 43).P (vs 2) q:=hd 2 (by decide)
   have W:(Jo.TFact.eq (.agg #[.bool s9,.slice A9 n9 c9]):Jo.TFact #[.bool false,.slice none 0 0] 43).P (vs 3) q:=hd 3 (by decide)
   simp only[Jo.putl,Jo.zd,Jo.ze,Act.put,Jo.za,Jo.zb,Jo.zc]at a|-;clear hd;generalize vs 2=u2 at a d2|-;generalize vs 3=u3 at a W|-;obtain⟨HW,hW,HK,qT,rfl,gO,HE⟩:=d2
   replace W:u3=_:=W
   subst W;go_simp;exact a.out _ _ ⟨_,_,rfl,Wl.lit2 rfl gO.wr (G.off m (by simp[no32]) d).wr (by omega) (by omega)⟩ (af _ _)
  refine Jo.ocons (i:=5) (o:=⟨some 26,_,_,_,_,_⟩) (di:=some 26) (L:=[(some 25,4)]) (f:=Jo.TFact.wn ((v-SC)*SC) (61)) (by decide) rfl rfl rfl rfl (fun vs q nw d hd K a=>?_) ?_
  ·have d4:(Jo.TFact.wl 30 2 [v-SC,SC]:Jo.TFact #[.bool false,.slice none 0 0] 43).P (vs 4) q:=hd 4 (by decide)
   clear hd;simp only[Jo.putl,Jo.zd,Jo.ze,Act.put,Jo.za,Jo.zb,Jo.zc]at a|-;generalize vs 4=u4 at a d4|-;obtain⟨LD,LF,rfl,ET⟩:=d4;go_simp;exact Jo.w1 (ny ET (by decide) iV.out) a.out
  refine Jo.ocons (i:=6) (o:=⟨some 27,_,_,_,_,_⟩) (di:=some 27) (L:=[]) (f:=Jo.TFact.eq (.agg #[.bool s,.slice A n c])) (by decide) rfl rfl rfl rfl (fun vs q nw d hd K a=>?_) ?_
  ·clear hd;simp only[Jo.putl,Jo.ze,Act.put,Jo.za,Jo.zb,Jo.zc]at a|-;replace t:=t.off (by omega) d;have hR:=t.cell;go_simp;exact a.out _ _ rfl (br _ _)
  refine Jo.ocons (i:=7) (o:=⟨some 28,_,_,_,_,_⟩) (di:=some 28) (L:=[]) (f:=Jo.TFact.eq (.agg #[.bool s9,.slice A9 n9 c9])) (by decide) rfl rfl rfl rfl (fun vs q nw d hd K a=>?_) ?_
  ·clear hd;simp only[Jo.putl,Jo.ze,Act.put,Jo.za,Jo.zb,Jo.zc]at a|-;replace y:=y.off (by omega) d;have hC:=y.cell;go_simp;exact a.out _ _ rfl (br _ _)
  refine Jo.ocons (i:=8) (o:=⟨some 29,_,_,_,_,_⟩) (di:=some 29) (L:=[(some 27,6),(some 28,7)]) (f:=Jo.TFact.wn (v+SC) (30)) (by decide) rfl rfl rfl rfl (fun vs q nw d hd K a=>?_) ?_
  ·have Y:(Jo.TFact.eq (.agg #[.bool s,.slice A n c]):Jo.TFact #[.bool false,.slice none 0 0] 43).P (vs 6) q:=hd 6 (by decide)
   have Z:(Jo.TFact.eq (.agg #[.bool s9,.slice A9 n9 c9]):Jo.TFact #[.bool false,.slice none 0 0] 43).P (vs 7) q:=hd 7 (by decide)
   simp only[Jo.putl,Jo.zd,Jo.ze,Act.put,Jo.za,Jo.zb,Jo.zc]at a|-;clear hd;generalize vs 6=u6 at a Y|-;generalize vs 7=u7 at a Z|-
   replace Y:u6=_:=Y
   subst Y
   replace Z:u7=_:=Z
   subst Z;go_simp;exact Jo.w1 (pZ (h.off m (by simp[no32]) d).wr (G.off m (by simp[no32]) d).wr (by omega) (by omega) rfl) a.out
  refine Jo.ocons (i:=9) (o:=⟨some 30,_,_,_,_,_⟩) (di:=some 30) (L:=[(some 26,5),(some 29,8)]) (f:=Jo.TFact.wn (u) (100)) (by decide) rfl rfl rfl rfl (fun vs q nw d hd K a=>?_) ?_
  ·have d5:(Jo.TFact.wn ((v-SC)*SC) (61):Jo.TFact #[.bool false,.slice none 0 0] 43).P (vs 5) q:=hd 5 (by decide)
   have d8:(Jo.TFact.wn (v+SC) (30):Jo.TFact #[.bool false,.slice none 0 0] 43).P (vs 8) q:=hd 8 (by decide)
   simp only[Jo.putl,Jo.zd,Jo.ze,Act.put,Jo.za,Jo.zb,Jo.zc]at a|-;clear hd;generalize vs 5=u5 at a d5|-;generalize vs 8=u8 at a d8|-;obtain⟨HX,hX,HL,BX,rfl,gP,HF⟩:=d5;obtain⟨HY,hZ,HM,CD,rfl,gS,HG⟩:=d8;go_simp;exact Jo.w1 (iY gP.wr gS.wr (by omega) (by omega) iU.out HU.out) a.out
  refine Jo.ocons (i:=10) (o:=⟨some 31,_,_,_,_,_⟩) (di:=some 31) (L:=[]) (f:=Jo.TFact.eq (.agg #[.bool M,.slice H J I])) (by decide) rfl rfl rfl rfl (fun vs q nw d hd K a=>?_) ?_
  ·clear hd;simp only[Jo.putl,Jo.ze,Act.put,Jo.za,Jo.zb,Jo.zc]at a|-;replace l:=l.off (by omega) d;have hD:=l.cell;go_simp;exact a.out _ _ rfl (br _ _)
  refine Jo.ocons (i:=11) (o:=⟨some 32,_,_,_,_,_⟩) (di:=some 32) (L:=[]) (f:=Jo.TFact.eq (.agg #[.bool bC,.slice O bA Q])) (by decide) rfl rfl rfl rfl (fun vs q nw d hd K a=>?_) ?_
  ·clear hd;simp only[Jo.putl,Jo.ze,Act.put,Jo.za,Jo.zb,Jo.zc]at a|-;replace p:=p.off (by omega) d;have bD:=p.cell;go_simp;exact a.out _ _ rfl (br _ _)
  refine Jo.osto (o:=⟨none,_,_,_,_,_⟩) (di:=none) (L:=[(some 30,9)]) (by decide) rfl rfl rfl rfl (fun vs q hd X K a=>?_) ?_
  ·have d9:(Jo.TFact.wn (u) (100):Jo.TFact #[.bool false,.slice none 0 0] 43).P (vs 9) q:=hd 9 (by decide)
   clear hd;simp only[Jo.putl,Jo.zd,Jo.ze,Act.put,Jo.za,Jo.zb,Jo.zc]at a|-;generalize vs 9=u9 at a d9|-;obtain⟨hA,bH,fH,bN,rfl,bB,HH⟩:=d9;have xX:=X.cell;have zX:=X.frozen;go_simp;have j:=ac.t2 X hA bH fH bN;exact a.out undef _ _ rfl j
  refine Jo.ocons (i:=13) (o:=⟨none,_,_,_,_,_⟩) (di:=none) (L:=[(some 31,10)]) (f:=Jo.TFact.any) (by decide) rfl rfl rfl rfl (fun vs q nw d hd K a=>?_) ?_
  ·have C:(Jo.TFact.eq (.agg #[.bool M,.slice H J I]):Jo.TFact #[.bool false,.slice none 0 0] 43).P (vs 10) q:=hd 10 (by decide)
   clear hd;simp only[Jo.putl,Jo.zd,Jo.ze,Act.put,Jo.za,Jo.zb,Jo.zc]at a|-;generalize vs 10=hB at a C|-
   replace C:hB=_:=C
   subst C;replace l:=l.off (by omega) d;have hD:=l.cell;have LK:=l.frozen;go_simp;rw[l.same2];exact a.out undef _ trivial (br _ _)
  exact Jo.StepsI.nil
 have S:(Jo.TFact.eq (.agg #[.bool s,.slice A n c]):Jo.TFact #[.bool false,.slice none 0 0] 43).P (vs 0) w8:=hd 0 (by decide)
 have U:(Jo.TFact.eq (.agg #[.bool s9,.slice A9 n9 c9]):Jo.TFact #[.bool false,.slice none 0 0] 43).P (vs 1) w8:=hd 1 (by decide)
 have d2:(Jo.TFact.wn (v-SC) (30):Jo.TFact #[.bool false,.slice none 0 0] 43).P (vs 2) w8:=hd 2 (by decide)
 have W:(Jo.TFact.eq (.agg #[.bool s9,.slice A9 n9 c9]):Jo.TFact #[.bool false,.slice none 0 0] 43).P (vs 3) w8:=hd 3 (by decide)
 have d4:(Jo.TFact.wl 30 2 [v-SC,SC]:Jo.TFact #[.bool false,.slice none 0 0] 43).P (vs 4) w8:=hd 4 (by decide)
 have d5:(Jo.TFact.wn ((v-SC)*SC) (61):Jo.TFact #[.bool false,.slice none 0 0] 43).P (vs 5) w8:=hd 5 (by decide)
 have Y:(Jo.TFact.eq (.agg #[.bool s,.slice A n c]):Jo.TFact #[.bool false,.slice none 0 0] 43).P (vs 6) w8:=hd 6 (by decide)
 have Z:(Jo.TFact.eq (.agg #[.bool s9,.slice A9 n9 c9]):Jo.TFact #[.bool false,.slice none 0 0] 43).P (vs 7) w8:=hd 7 (by decide)
 have d8:(Jo.TFact.wn (v+SC) (30):Jo.TFact #[.bool false,.slice none 0 0] 43).P (vs 8) w8:=hd 8 (by decide)
 have d9:(Jo.TFact.wn (u) (100):Jo.TFact #[.bool false,.slice none 0 0] 43).P (vs 9) w8:=hd 9 (by decide)
 have C:(Jo.TFact.eq (.agg #[.bool M,.slice H J I]):Jo.TFact #[.bool false,.slice none 0 0] 43).P (vs 10) w8:=hd 10 (by decide)
 have V:(Jo.TFact.eq (.agg #[.bool bC,.slice O bA Q]):Jo.TFact #[.bool false,.slice none 0 0] 43).P (vs 11) w8:=hd 11 (by decide)
 simp only[Jo.putl,Jo.zd,Jo.ze,Act.put,Jo.za,Jo.zb,Jo.zc];clear hd;generalize vs 0=u0 at S|-;generalize vs 1=u1 at U|-;generalize vs 2=u2 at d2|-;generalize vs 3=u3 at W|-;generalize vs 4=u4 at d4|-;generalize vs 5=u5 at d5|-;generalize vs 6=u6 at Y|-;generalize vs 7=u7 at Z|-;generalize vs 8=u8 at d8|-;generalize vs 9=u9 at d9 ee|-;generalize vs 10=hB at C|-
 generalize vs 11=HZ at V|-;generalize vs 12=LI at|-;generalize vs 13=LJ at|-;clear vs
 replace S:u0=_:=S
 subst S
 replace U:u1=_:=U
 subst U;obtain⟨HW,hW,HK,qT,rfl,gO,HE⟩:=d2
 replace W:u3=_:=W
 subst W;obtain⟨_,_,rfl,_⟩:=d4;obtain⟨HX,hX,HL,BX,rfl,gP,HF⟩:=d5
 replace Y:u6=_:=Y
 subst Y
 replace Z:u7=_:=Z
 subst Z;obtain⟨HY,hZ,HM,CD,rfl,gS,HG⟩:=d8;obtain⟨hA,bH,fH,bN,rfl,bB,HH⟩:=d9
 replace C:hB=_:=C
 subst C
 replace V:HZ=_:=V
 subst V
 injection ee with ee
 subst ee;replace D:=D.off m (by simp[no32]) d;replace E:=E.off m (by simp[no32]) d;replace x:=ie (d.below x.out (by omega) m.lt);replace l:=l.off (by omega) d;replace p:=p.off (by omega) d;clear m d;have m:=Xn;clear Xn;clear h G gO gP gS;have bD:=p.cell;have N:=p.frozen
 refine jn 14 fun K a=>?_
 go_simp;refine a.out _ _ ?_;clear a K bD N;generalize hS:(w8.setCell _ _).setCell _ _=w9 at *;have j:=ac.of2 p hS;replace m:=m.s j;replace l:=l.s j;replace D:=D.s j;replace E:=E.s j;replace bB:=bB.s j;replace x:=bi x j (by omega);replace p:=j.box
 clear j hS;refine jd ?_;go_wp2;exact bq (v:= .tuple #[.agg #[.bool hA,.slice bH fH bN],.agg #[.bool M,.slice H J I],.agg #[.bool bC,.slice O bA Q]]) (by simp[results,results148,go_sem,m.cell,l.cell,p.cell]) rfl ⟨_,_,_,_,_,_,_,_,_,_,_,_,rfl,bB,D,E,by omega,by omega,by omega,x.out⟩
def Ge (w:World)(x:Int)(s:Bool)(A:Option Addr)(n c:Nat)(g3 g4 g5:Nat)(s9:Bool)(A9:Option Addr)(n9 c9:Nat)(j:Nat)(wr:World):Prop:=∃(s4:Bool) (A4:Option Addr) (n4 c4:Nat) (s5:Bool) (A5:Option Addr) (n5 c5:Nat),Bo wr w.heap.size #[.bool s,.slice A n c] 43/\Bo wr (w.heap.size+1) #[.bool false,.slice none 0 0] 43/\Bo wr g3 #[.bool s9,.slice A9 n9 c9] 43/\Bo wr g4 #[.bool s4,.slice A4 n4 c4] 43/\Bo wr g5 #[.bool s5,.slice A5 n5 c5] 43/\Wr wr s A n c x/\Wn wr s9 A9 n9 c9 SC/\Wn wr s4 A4 n4 c4 (aS x j)/\Wr wr s5 A5 n5 c5 (aT x j)/\n4<=20*j/\n5<=20/\j<=111/\Below w.heap.size w wr
theorem Gz{a b c j:Nat}(h:a<=b+c+1)(k:b<=20*j)(l:c<=13):a<=20*(j+1):=by omega
theorem xD (z:Int)(j:Nat):z.fdiv (2*(j:Int)+1)=z/ (2*(j:Int)+1):=Int.fdiv_eq_ediv_of_nonneg _ (by omega)
theorem yQ{z:Int}(h1: -SC<=z)(h2:z<=SC)(j:Nat): -SC<=z/ (2*(j:Int)+1)/\z/ (2*(j:Int)+1)<=SC:=by
 have f:(z/ (2*(j:Int)+1)).natAbs<=z.natAbs:=Int.natAbs_ediv_le_natAbs _ _
 have a:(0:Int) < SC:=by decide
 generalize z/ (2*(j:Int)+1)=q at *
 omega
theorem Ef{w:World}{A:Option Addr}{n c:Nat}{s:Bool}{x:Int}(h:Wr w s A n c x)(hn:n<=20)(hf:SC < x):Calls prog 149 #[.agg #[.bool s,.slice A n c]] w (W1 w 2300 0):=by
 obtain⟨σ,q⟩:∃σ,ag x SC=σ:=⟨_,rfl⟩;obtain⟨τ,t⟩:∃σ,ag x (-SC)=σ:=⟨_,rfl⟩;have e0:=(az q).2;have e1:=(az t).1;have E:=ie q;have N:=ie t;clear q t;rw[dt hf]at e0
 have g:=ie e0;have o:=ie e1;clear e0 e1
 go_enter func149,ntmps149
 go_upto_region 1 with fail
 generalize j:(w.alloc _).alloc _=w1 at *;obtain⟨e,a,d⟩:=Bo.en2 j;replace h:=h.below d.out;clear j
 go_wp2_with fail
 refine(i5).mono ?_;rintro O P ⟨s9,A9,n9,c9,rfl,l,S,B⟩;refine aR ?_ e a h d B;clear e a h d B;intro e a h d
 go_upto_region 2 with fail
 have u:=e.lt;have y:=a.lt;generalize k:P.alloc _=T at *;obtain⟨G,D⟩:=Bo.nw k;clear k;refine dW ?_ e a h l d D;clear e a h l d D;intro e a h l d;have I:=e.lt;have L:=a.lt;have J:=G.lt;have H:=d.out.size;refine bF [0,1,2,3,4,5,6,7,8,9,10] [10,11,12,13,14,15,16,17,18,19,20] [[],[],[0,1],[2],[3],[4],[4],[4,6],[4,5,7],[4,8],[4,9]] 11 0 [Jo.Fact.eq (.agg #[.bool s,.slice A n c]),Jo.Fact.eq (.agg #[.bool s9,.slice A9 n9 c9]),Jo.qi σ,Jo.qb true,Jo.qb true,Jo.qu,Jo.qu,Jo.qu,Jo.qu,Jo.qu,Jo.qb true] ?_ ?_
 ·iterate 2 (refine jm ?_ ?_;rotate_left)
  refine jm ?_ ?_
  ·rintro M f _ rfl _ rfl K i;go_simp;refine(tM (r:=σ) (h.b f) (l.b f).wr E.out).mono ?_;rintro O V ⟨rfl,B⟩;exact i.out _ _ rfl B
  refine jm ?_ ?_
  ·rintro M f _ rfl K i;have p:=g.out;go_simp
   exact i.out _ _ (by first | rfl | (show Value.bool _=Value.bool _;rw[p]) | simp_all) (br _ _)
  iterate 7 (refine jm ?_ ?_;rotate_left)
  exact jo
  all_goals (rintro M f;(repeat rintro _ rfl);intro K i;have Q:=(e.b f).cell;have R:=(G.b f).cell;go_simp;exact i.out _ _ rfl (br _ _))
 rintro U f _ rfl _ rfl _ rfl _ rfl _ rfl _ rfl _ rfl _ rfl _ rfl _ rfl _ rfl -;simp only[Jo.z];replace a:=a.b f;replace d:=ak d f;refine jd ?_;clear E g N o;clear h l;have C:=a.cell;have m:=a.frozen;go_wp2;clear C m;have F:=ac.t2 a false none 0 0;exact bq (v:= .agg #[.bool false,.slice none 0 0]) (by simp[results,results149,go_sem,F.box.cell]) rfl ⟨_,_,_,_,rfl,⟨Nm.zero,rfl⟩,Nat.zero_le _,(F.below d.out (by omega))⟩
theorem Eg{w:World}{A:Option Addr}{n c:Nat}{s:Bool}{x:Int}(h:Wr w s A n c x)(hn:n<=20)(hf0:¬SC < x)(hf:x < -SC):Calls prog 149 #[.agg #[.bool s,.slice A n c]] w (W1 w 2300 0):=by
 obtain⟨σ,C⟩:∃σ,ag x SC=σ:=⟨_,rfl⟩;obtain⟨τ,D⟩:∃σ,ag x (-SC)=σ:=⟨_,rfl⟩;have e0:=(az C).2;have e1:=(az D).1;have M:=ie C;have N:=ie D;clear C D;rw[df hf0]at e0;rw[dt hf]at e1;have k:=ie e0;have l:=ie e1;clear e0 e1
 go_enter func149,ntmps149
 go_upto_region 1 with fail
 generalize m:(w.alloc _).alloc _=w1 at *;obtain⟨g,d,e⟩:=Bo.en2 m;replace h:=h.below e.out;clear m
 go_wp2_with fail
 refine(i5).mono ?_;rintro Q V ⟨s9,A9,n9,c9,rfl,j,Z,B⟩;refine aR ?_ g d h e B;clear g d h e B;intro g d h e
 go_upto_region 2 with fail
 have G:=g.lt;have H:=d.lt;generalize o:V.alloc _=w3 at *;obtain⟨P,L⟩:=Bo.nw o;clear o;refine dW ?_ g d h j e L;clear g d h j e L;intro g d h j e;have S:=g.lt;have U:=d.lt;have T:=P.lt;have R:=e.out.size;refine bF [0,1,2,3,4,5,6,7,8,9,10] [10,11,12,13,14,15,16,17,18,19,20] [[],[],[0,1],[2],[3],[4],[4],[4,6],[4,5,7],[4,8],[4,9]] 11 0 [Jo.Fact.eq (.agg #[.bool s,.slice A n c]),Jo.Fact.eq (.agg #[.bool s9,.slice A9 n9 c9]),Jo.qi σ,Jo.qb false,Jo.qb false,Jo.Fact.eq (.agg #[.bool s,.slice A n c]),Jo.Fact.eq (.agg #[.bool s9,.slice A9 n9 c9]),Jo.Fact.wn (-SC) (8),Jo.qi τ,Jo.qb true,Jo.qb true] ?_ ?_
 ·iterate 2 (refine jm ?_ ?_;rotate_left)
  refine jm ?_ ?_
  ·rintro q a _ rfl _ rfl K f;go_simp;refine(tM (r:=σ) (h.b a) (j.b a).wr M.out).mono ?_;rintro Q W ⟨rfl,B⟩;exact f.out _ _ rfl B
  refine jm ?_ ?_
  ·rintro q a _ rfl K f;have i:=k.out;go_simp
   exact f.out _ _ (by first | rfl | (show Value.bool _=Value.bool _;rw[i]) | simp_all) (br _ _)
  iterate 3 (refine jm ?_ ?_;rotate_left)
  refine jm ?_ ?_
  ·rintro q a _ rfl _ rfl K f;go_simp;exact Jo.w1 (IZ (j.b a).wr rfl) f.out
  refine jm ?_ ?_
  ·rintro q a _ rfl _ rfl _ ⟨I,u,F,y,rfl,p,E⟩ K f;go_simp;refine(tM (r:=τ) (h.b a) p.wr N.out).mono ?_;rintro Q W ⟨rfl,B⟩;exact f.out _ _ rfl B
  refine jm ?_ ?_
  ·rintro q a _ rfl _ rfl K f;have i:=l.out;go_simp
   exact f.out _ _ (by first | rfl | (show Value.bool _=Value.bool _;rw[i]) | simp_all) (br _ _)
  refine jm ?_ ?_;rotate_left
  exact jo
  all_goals (rintro q a;(repeat rintro _ rfl);intro K f;have X:=(g.b a).cell;have Y:=(P.b a).cell;go_simp;exact f.out _ _ rfl (br _ _))
 rintro w4 a _ rfl _ rfl _ rfl _ rfl _ rfl _ rfl _ rfl _ ⟨I,u,F,y,rfl,p,E⟩ _ rfl _ rfl _ rfl -;simp only[Jo.z];replace d:=d.b a;replace e:=ak e a;refine jd ?_;clear M k N l;clear h j;have J:=d.cell;have t:=d.frozen;go_wp2;clear J t;have O:=ac.t2 d false none 0 0
 exact bq (v:= .agg #[.bool false,.slice none 0 0]) (by simp[results,results149,go_sem,O.box.cell]) rfl ⟨_,_,_,_,rfl,⟨Nm.zero,rfl⟩,Nat.zero_le _,(O.below e.out (by omega))⟩
theorem xf{w:World}{A:Option Addr}{n c:Nat}{s:Bool}{x:Int}(h:Wr w s A n c x)(hn:n<=20)(hf0:¬SC < x)(hf:¬x < -SC):Calls prog 149 #[.agg #[.bool s,.slice A n c]] w (W1 w 2300 (aS x 111)):=by
 have hF:=ie (mc (m:=x) (by omega) (by omega));obtain⟨σ,hσ⟩:∃σ,ag x SC=σ:=⟨_,rfl⟩;obtain⟨τ,hτ⟩:∃σ,ag x (-SC)=σ:=⟨_,rfl⟩;have e0:=(az hσ).2;have e1:=(az hτ).1;have HS:=ie hσ;have HT:=ie hτ;clear hσ hτ;rw[df hf0]at e0;rw[df hf]at e1;have HI:=ie e0;have HJ:=ie e1;clear e0 e1 hf hf0
 go_enter func149,ntmps149
 go_upto_region 1 with fail
 generalize HY:(w.alloc _).alloc _=w1 at *;obtain⟨t,u,y⟩:=Bo.en2 HY;replace h:=h.below y.out;clear HY
 go_wp2_with fail
 refine(i5).mono ?_;rintro ee w2 ⟨s9,A9,n9,c9,rfl,C,k9,B⟩;refine aR ?_ t u h y B;clear t u h y B;intro t u h y
 go_upto_region 2 with fail
 have LZ:=t.lt;have MA:=u.lt;generalize HZ:w2.alloc _=w3 at *;obtain⟨D,BW⟩:=Bo.nw HZ;clear HZ;refine dW ?_ t u h C y BW;clear t u h C y BW;intro t u h C y;have bH:=t.lt;have fH:=u.lt;have bN:=D.lt;have MI:=y.out.size;refine bF [0,1,2,3,4,5,6,7,8,9,10] [10,11,12,13,14,15,16,17,18,19,20] [[],[],[0,1],[2],[3],[4],[4],[4,6],[4,5,7],[4,8],[4,9]] 11 0 [Jo.Fact.eq (.agg #[.bool s,.slice A n c]),Jo.Fact.eq (.agg #[.bool s9,.slice A9 n9 c9]),Jo.qi σ,Jo.qb false,Jo.qb false,Jo.Fact.eq (.agg #[.bool s,.slice A n c]),Jo.Fact.eq (.agg #[.bool s9,.slice A9 n9 c9]),Jo.Fact.wn (-SC) (8),Jo.qi τ,Jo.qb false,Jo.qb false] ?_ ?_
 ·iterate 2 (refine jm ?_ ?_;rotate_left)
  refine jm ?_ ?_
  ·rintro H a _ rfl _ rfl K l;go_simp;refine(tM (r:=σ) (h.b a) (C.b a).wr HS.out).mono ?_;rintro ee wk ⟨rfl,B⟩;exact l.out _ _ rfl B
  refine jm ?_ ?_
  ·rintro H a _ rfl K l;have hU:=HI.out;go_simp
   exact l.out _ _ (by first | rfl | (show Value.bool _=Value.bool _;rw[hU]) | simp_all) (br _ _)
  iterate 3 (refine jm ?_ ?_;rotate_left)
  refine jm ?_ ?_
  ·rintro H a _ rfl _ rfl K l;go_simp;exact Jo.w1 (IZ (C.b a).wr rfl) l.out
  refine jm ?_ ?_
  ·rintro H a _ rfl _ rfl _ ⟨MD,hA,LY,hL,rfl,LC,LU⟩ K l;go_simp;refine(tM (r:=τ) (h.b a) LC.wr HT.out).mono ?_;rintro ee wk ⟨rfl,B⟩;exact l.out _ _ rfl B
  refine jm ?_ ?_
  ·rintro H a _ rfl _ rfl K l;have hU:=HJ.out;go_simp
   exact l.out _ _ (by first | rfl | (show Value.bool _=Value.bool _;rw[hU]) | simp_all) (br _ _)
  refine jm ?_ ?_;rotate_left
  exact jo
  all_goals (rintro H a;(repeat rintro _ rfl);intro K l;have LE:=(t.b a).cell;have LF:=(D.b a).cell;go_simp;exact l.out _ _ rfl (br _ _))
 rintro w4 a _ rfl _ rfl _ rfl _ rfl _ rfl _ rfl _ rfl _ ⟨MD,hA,LY,hL,rfl,LC,LU⟩ _ rfl _ rfl _ rfl -;simp only[Jo.z];replace t:=t.b a;replace u:=u.b a;replace D:=D.b a;replace h:=h.b a;replace C:=C.b a;replace y:=ak y a;refine jd ?_;clear HS HI HT HJ;go_wp2;have bH:=t.lt;have fH:=u.lt
 have bN:=D.lt;have MK:=y.out.size
 refine Jo.region_trip (old:= #[.bool false,.slice none 0 0]) (R:=43) (T:=[0,1,2,3,4]) (ds:=[some 21,some 22,some 4,some 5,none,none]) (ls:=[[],[],[],[],[0,2,3],[]]) (k:=6) (L:=[(some 21,0),(some 22,1),(some 4,2),(some 5,3),(none,4)]) (fuel:=1) (w1:=w4) (p:=2) (q:=3) (s:=4) (e:=0) (s2:=999) (e2:=999)
  (F:=[Jo.TFact.eq (.agg #[.bool false,.slice none 0 0]),Jo.TFact.eq (.agg #[.bool s,.slice A n c]),Jo.TFact.any,Jo.TFact.any,Jo.TFact.any,Jo.TFact.any])
  (by decide) (by decide) (by decide) (by decide) (by kernel_rfl) (by kernel_rfl) (by decide) rfl rfl ?_ (fun vs w9 a hd hpq=>?_)
 ·refine Jo.xcons (i:=0) (o:=⟨some 21,_,_,_,_,_⟩) (di:=some 21) (L:=[]) (f:=Jo.TFact.eq (.agg #[.bool false,.slice none 0 0])) (by decide) (by decide) (by decide) (by decide) rfl rfl rfl rfl (fun vs H a hd K l=>?_) ?_
  ·clear hd;simp only[Jo.putl,Jo.ze,Act.put,Jo.za,Jo.zb,Jo.zc]at l|-;go_simp;exact l.out _ _ rfl (br _ _)
  refine Jo.xcons (i:=1) (o:=⟨some 22,_,_,_,_,_⟩) (di:=some 22) (L:=[]) (f:=Jo.TFact.eq (.agg #[.bool s,.slice A n c])) (by decide) (by decide) (by decide) (by decide) rfl rfl rfl rfl (fun vs H a hd K l=>?_) ?_
  ·clear hd;simp only[Jo.putl,Jo.ze,Act.put,Jo.za,Jo.zb,Jo.zc]at l|-
   have MM:World.cell? H ⟨w.heap.size,0,none⟩=some (.bool s):=(t.b a).cell 0
   have MN:World.cell? H ⟨w.heap.size,1,none⟩=some (.slice A n c):=(t.b a).cell 1
   go_simp;exact l.out _ _ rfl (br _ _)
  refine Jo.xnew (i:=2) (o:=⟨some 4,_,_,_,_,_⟩) (di:=some 4) (L:=[]) (by decide) (by decide) (by decide) (by decide) rfl rfl rfl rfl (fun vs H K l=>?_) ?_
  ·simp only[Jo.putl,Jo.ze,Act.put,Jo.za,Jo.zb,Jo.zc]at l|-;go_simp;exact l.out
  refine Jo.xnew (i:=3) (o:=⟨some 5,_,_,_,_,_⟩) (di:=some 5) (L:=[]) (by decide) (by decide) (by decide) (by decide) rfl rfl rfl rfl (fun vs H K l=>?_) ?_
  ·simp only[Jo.putl,Jo.ze,Act.put,Jo.za,Jo.zb,Jo.zc]at l|-;go_simp;exact l.out
  refine Jo.xsto (o:=⟨none,_,_,_,_,_⟩) (di:=none) (L:=[(some 21,0),(some 4,2),(some 5,3)]) (by decide) (by decide) (by decide) (by decide) rfl rfl rfl rfl (fun vs H a hd g hg X K l=>?_) ?_
  ·have d0:(Jo.TFact.eq (.agg #[.bool false,.slice none 0 0]):Jo.TFact #[.bool false,.slice none 0 0] 43).P (vs 0) H:=hd 0 (by decide)
   clear hd;simp only[Jo.putl,Jo.zd,Jo.ze,Act.put,Jo.za,Jo.zb,Jo.zc]at l|-;simp only[hg]at l|-;clear hg;generalize vs 0=u0 at l d0|-;generalize vs 3=u3 at l|-
   replace d0:u0=_:=d0
   subst d0;have xX:=X.cell;have zX:=X.frozen;go_simp;have d:=ac.t2 X false none 0 0;exact l.out undef _ _ rfl d
  exact Jo.StepsI.nil
 have d0:(Jo.TFact.eq (.agg #[.bool false,.slice none 0 0]):Jo.TFact #[.bool false,.slice none 0 0] 43).P (vs 0) w9:=hd 0 (by decide)
 have d1:(Jo.TFact.eq (.agg #[.bool s,.slice A n c]):Jo.TFact #[.bool false,.slice none 0 0] 43).P (vs 1) w9:=hd 1 (by decide)
 clear hd;obtain⟨g4,g5,MS,ep,HW,MU,MW,hW,ee,G,E⟩:=hpq;simp only[Jo.putl,Jo.zd,Jo.ze,Act.put,Jo.za,Jo.zb,Jo.zc];simp only[ep,HW];clear ep HW;generalize vs 0=u0 at d0 ee|-;generalize vs 1=u1 at d1|-;generalize vs 4=u4 at|-;clear vs
 replace d0:u0=_:=d0
 subst d0
 replace d1:u1=_:=d1
 subst d1
 injection ee with ee
 subst ee;replace t:=t.b a;replace u:=u.b a;replace D:=D.b a;replace h:=h.b a;replace C:=C.b a;replace y:=ak y a;have Y:=E.cell;have Z:=E.frozen
 refine jn 5 fun K l=>?_
 go_simp;refine l.out _ _ ?_;clear l K Y Z;generalize S:(w9.setCell _ _).setCell _ _=wB at *;have d:=ac.of2 E S;replace t:=t.s d;replace u:=u.s d;replace D:=D.s d;replace G:=G.s d;replace h:=h.s d;replace C:=C.s d;replace y:=bi y d (by omega)
 replace E:=d.box;clear d S;refine jd ?_;generalize MT:w2.heap.size=g3 at *
 have G1:w.heap.size+1 < g3/\g3 < g4/\g3 < g5/\g4≠g5:=⟨by omega,by omega,by omega,hW⟩
 have HX:Ge w x s A n c g3 g4 g5 s9 A9 n9 c9 0 wB:=⟨_,_,_,_,_,_,_,_,t,u,D,G,E,h,C,⟨Nm.zero,rfl⟩,h,Nat.zero_le _,hn,by decide,y.out⟩
 have HN:=ie HX;clear HX u t D G E h C y;go_wp2
 go_loopw [23] (fun i wr=>∃j:Nat,i= .int .i64 (j:Int)/\Ge w x s A n c g3 g4 g5 s9 A9 n9 c9 j wr) (fun i _=>112-(intOf i).toNat)
 case atStart=>exact ⟨0,rfl,HN.out⟩
 case round=>
  obtain⟨j,rfl,s4,A4,n4,c4,s5,A5,n5,c5,t,u,D,G,E,h,C,N,J,k4,k5,hj,hB⟩:=hrel;have y:=ie hB;clear hB HN
  by_cases hlt:j < 111
  ·have LD:decide ((j:Int) < 111)=true:=dt (by omega)
   have HR:=iw (2*(j:Int));have HU:=iw (2*(j:Int)+1);have HV:=jw (2*(j:Int)+1);have sm:=hF.out j;have HQ:=ie (yQ sm.1 sm.2 j)
   have fP:Hid (aS x j+(if j%2=1 then -(aT x j/ (2*(j:Int)+1))else aT x j/ (2*(j:Int)+1))=aS x (j+1)):=ie rfl
   have HH:Hid (aT x j*x/SC*x/SC=aT x (j+1)):=ie rfl
   clear sm;obtain⟨T,hT⟩:∃T,aT x j/ (2*(j:Int)+1)=T:=⟨_,rfl⟩
   have HM:Hid ((aT x j).fdiv (2*(j:Int)+1)=T):=ie (by rw[xD];exact hT)
   rw[hT]at HQ fP;clear hT;obtain⟨v,hv⟩:∃v,aT x j*x/SC=v:=⟨_,rfl⟩
   have HO:Hid (tj [aT x j,x]=aT x j*x):=ie (by show 1*aT x j*x=_;rw[Int.one_mul])
   have HP:Hid (tj [v,x]=v*x):=ie (by show 1*v*x=_;rw[Int.one_mul])
   have HK:Hid ((aT x j*x).fdiv SC=v):=ie (by rw[Int.fdiv_eq_ediv_of_nonneg _ (by decide)];exact hv)
   have HL:Hid ((v*x).fdiv SC=aT x (j+1)):=ie (by rw[Int.fdiv_eq_ediv_of_nonneg _ (by decide),<-hv];exact HH.out)
   clear hv HH
   go_upto_region 8 with fail
   clear LD;have bH:=t.lt;have fH:=u.lt;have bN:=D.lt;have gP:=G.lt;have gS:=E.lt;have MJ:=y.out.size;refine bF [0,1,2,3,4,5,6] [27,28,29,30,31,32,8,0] [[],[],[1],[2],[3],[0,4],[],[]] 8 1 [Jo.Fact.eq (.agg #[.bool s5,.slice A5 n5 c5]),Jo.Fact.eq (.int .i64 (j:Int)),Jo.Fact.eq (.int .i64 (2*(j:Int))),Jo.Fact.eq (.int .i64 (2*(j:Int)+1)),Jo.Fact.wn (2*(j:Int)+1) (2),Jo.Fact.wn (T) (30),Jo.Fact.bo wr.heap.size #[.bool false,.slice none 0 0] 43,Jo.Fact.any] ?_ ?_
   ·iterate 2 (refine jm ?_ ?_;rotate_left)
    refine jm ?_ ?_
    ·rintro H a _ rfl K l;have hw:=HR.out;go_simp
     exact l.out _ _ (by first | rfl | (show Value.int _ _=Value.int _ _;simp_all)) (br _ _)
    refine jm ?_ ?_
    ·rintro H a _ rfl K l;have hw:=HU.out;have MY:=HV.out;go_simp
     exact l.out _ _ (by first | rfl | (show Value.int _ _=Value.int _ _;simp_all)) (br _ _)
    refine jm ?_ ?_
    ·rintro H a _ rfl K l;go_simp;exact Jo.w1 (iL _ _ (by omega) (by omega)) l.out
    refine jm ?_ ?_
    ·rintro H a _ rfl _ ⟨MB,LH,LW,LM,rfl,HA,LS⟩ K l;go_simp;exact Jo.w1 (iY (J.b a) HA.wr (by omega) (by omega) (by omega) HM.out) l.out
    refine jm ?_ ?_
    ·rintro H a K l;go_simp;exact l.out _ _ ⟨_,rfl,a.size,Bo.new _ _ _⟩ (af _ _)
    exact jo
    all_goals (rintro H a;(repeat rintro _ rfl);intro K l;have Y:=(E.b a).cell;go_simp;exact l.out _ _ rfl (br _ _))
   rintro wb a _ rfl _ rfl _ rfl _ rfl _ ⟨MB,LH,LW,LM,rfl,HA,LS⟩ _ ⟨NA,MO,LX,MQ,rfl,O,LB⟩ _ ⟨g7,rfl,MX,M⟩ -;simp only[Jo.z];replace t:=t.b a;replace u:=u.b a;replace D:=D.b a;replace G:=G.b a;replace E:=E.b a;replace h:=h.b a;replace C:=C.b a;replace N:=N.b a;replace J:=J.b a
   replace y:=ak y a;clear HA HM HR HU HV
   replace LB:LX<=7:=O.fits (eJ HQ.out.1 HQ.out.2)
   clear HQ;have W:=M.cell;have gO:=M.frozen
   refine jn 7 fun K l=>?_
   go_simp;refine l.out _ _ ?_;clear l K W gO;generalize S:(wb.setCell _ _).setCell _ _=wc at *;have d:=ac.of2 M S;replace t:=t.s d;replace u:=u.s d;replace D:=D.s d;replace G:=G.s d;replace E:=E.s d;replace h:=h.s d;replace C:=C.s d
   replace N:=N.s d;replace J:=J.s d;replace O:=O.s d;replace y:=bi y d (by omega);replace M:=d.box;clear d S;refine jd ?_
   by_cases bD:j%2=1
   ·have hG:Hid (aS x j+ -T=aS x (j+1)):=ie (by have q:=fP.out;rw[if_pos bD]at q;exact q)
    clear fP
    have t9:(Int.tmod (j:Int) 2==1)=true:=by
     rw[show Int.tmod (j:Int) 2=1 by rw[Int.tmod_eq_emod_of_nonneg (by omega)];omega]
     rfl
    have t8:(((j:Int)%2)==1)=true:=by
     rw[show (j:Int)%2=1 by omega]
     rfl
    clear bD;have W:=M.cell
    go_wp2_with fail
    refine(IZ O.wr rfl).mono ?_;rintro ee w9 ⟨NB,MP,MZ,MR,rfl,Q,LT,B⟩;clear W;refine If ?_ t u D G E M h C N J O y B;clear t u D G E M h C N J O y B;intro t u D G E M h C N J O y;clear O;have W:=M.cell;have gO:=M.frozen
    go_upto_region 11 with fail
    clear W gO;generalize S:(w9.setCell _ _).setCell _ _=wA at *;have d:=ac.of2 M S;replace t:=t.s d;replace u:=u.s d;replace D:=D.s d;replace G:=G.s d;replace E:=E.s d;replace h:=h.s d;replace C:=C.s d;replace N:=N.s d
    replace J:=J.s d;replace Q:=Q.s d;replace y:=bi y d (by omega);replace M:=d.box;clear d S;clear t9 t8;have V:=G.cell;have W:=M.cell
    go_wp2_with fail
    refine(pZ N.wr Q.wr (by omega) (by omega) hG.out).mono ?_;rintro ee HF ⟨MC,LI,qT,LN,rfl,I,iU,B⟩;clear V W;refine If ?_ t u D G E M h C N J Q y B;clear t u D G E M h C N J Q y B;intro t u D G E M h C N J Q y;clear N Q;have V:=G.cell;have gB:=G.frozen
    go_upto_region 12 with fail
    clear V gB;generalize S:(HF.setCell _ _).setCell _ _=MF at *;have d:=ac.of2 G S;replace t:=t.s d;replace u:=u.s d;replace D:=D.s d;replace E:=E.s d;replace M:=M.s d;replace h:=h.s d;replace C:=C.s d;replace J:=J.s d
    replace I:=I.s d;replace y:=bi y d (by omega);replace G:=d.box;clear d S;have bH:=t.lt;have fH:=u.lt;have bN:=D.lt;have gP:=G.lt;have gS:=E.lt;have ML:=M.lt;have LA:=y.out.size;refine bF [0,1,2,3,4,5,6,7,8,9,10] [41,42,43,44,45,46,47,48,49,50,51,0] [[],[],[0,1],[2],[],[3,4],[],[5,6],[7],[],[8,9],[]] 12 1 [Jo.Fact.eq (.agg #[.bool s5,.slice A5 n5 c5]),Jo.Fact.eq (.agg #[.bool s,.slice A n c]),Jo.Fact.wl 20 2 [aT x j,x],Jo.Fact.wn (aT x j*x) (41),Jo.Fact.eq (.agg #[.bool s9,.slice A9 n9 c9]),Jo.Fact.wn (v) (60),Jo.Fact.eq (.agg #[.bool s,.slice A n c]),Jo.Fact.wl 60 2 [v,x],Jo.Fact.wn (v*x) (121),Jo.Fact.eq (.agg #[.bool s9,.slice A9 n9 c9]),Jo.Fact.wn (aT x (j+1)) (140),Jo.Fact.any] ?_ ?_
    ·iterate 2 (refine jm ?_ ?_;rotate_left)
     refine jm ?_ ?_
     ·rintro H a _ rfl _ rfl K l;go_simp;exact l.out _ _ ⟨_,_,rfl,Wl.lit2 rfl (J.b a) (h.b a) (by omega) (by omega)⟩ (af _ _)
     refine jm ?_ ?_
     ·rintro H a _ ⟨hA,hL,rfl,hQ⟩ K l;go_simp;exact Jo.w1 (ny hQ (by decide) HO.out) l.out
     refine jm ?_ ?_;rotate_left
     refine jm ?_ ?_
     ·rintro H a _ ⟨HC,hC,BX,hM,rfl,bA,iV⟩ _ rfl K l;go_simp;exact Jo.w1 (iY bA.wr (C.b a).wr (by omega) (by omega) (by decide) HK.out) l.out
     refine jm ?_ ?_;rotate_left
     refine jm ?_ ?_
     ·rintro H a _ ⟨HD,hD,CD,hN,rfl,bB,lA⟩ _ rfl K l;go_simp;exact l.out _ _ ⟨_,_,rfl,Wl.lit2 rfl bB.wr (h.b a) (by omega) (by omega)⟩ (af _ _)
     refine jm ?_ ?_
     ·rintro H a _ ⟨LJ,LO,rfl,hR⟩ K l;go_simp;exact Jo.w1 (ny hR (by decide) HP.out) l.out
     refine jm ?_ ?_;rotate_left
     refine jm ?_ ?_
     ·rintro H a _ ⟨HE,hE,DS,hP,rfl,bC,lB⟩ _ rfl K l;go_simp;exact Jo.w1 (iY bC.wr (C.b a).wr (by omega) (by omega) (by decide) HL.out) l.out
     exact jo
     all_goals (rintro H a;(repeat rintro _ rfl);intro K l;have Y:=(E.b a).cell;have LE:=(t.b a).cell;have LF:=(D.b a).cell;go_simp;exact l.out _ _ rfl (br _ _))
    rintro HG a _ rfl _ rfl _ ⟨_,_,rfl,_⟩ _ ⟨HC,hC,BX,hM,rfl,bA,iV⟩ _ rfl _ ⟨HD,hD,CD,hN,rfl,bB,lA⟩ _ rfl _ ⟨_,_,rfl,_⟩ _ ⟨HE,hE,DS,hP,rfl,bC,lB⟩ _ rfl _ ⟨ME,LK,ET,LP,rfl,U,LV⟩ -;simp only[Jo.z];replace t:=t.b a;replace u:=u.b a;replace D:=D.b a;replace G:=G.b a;replace E:=E.b a;replace M:=M.b a
    replace h:=h.b a;replace C:=C.b a;replace J:=J.b a;replace I:=I.b a;replace y:=ak y a;clear bA bB bC J;have sm:=hF.out (j+1)
    have LR:ET<=7:=U.fits (eJ sm.1 sm.2)
    clear sm;have Y:=E.cell;have Z:=E.frozen
    refine jn 11 fun K l=>?_
    go_simp;refine l.out _ _ ?_;clear l K Y Z;generalize S:(HG.setCell _ _).setCell _ _=MG at *;have d:=ac.of2 E S;replace t:=t.s d;replace u:=u.s d;replace D:=D.s d;replace G:=G.s d;replace M:=M.s d;replace h:=h.s d;replace C:=C.s d
    replace I:=I.s d;replace U:=U.s d;replace y:=bi y d (by omega);replace E:=d.box;clear d S;refine jd ?_;have hH:=iw ((j:Int)+1);have hI:=jw ((j:Int)+1);have hX:=hH.out;have hZ:=hI.out
    have hV:qT<=20*(j+1):=Gz iU k4 (by omega)
    go_wp2;clear hX hZ
    go_roundw
    case rel=>exact ⟨j+1,by go_num,_,_,_,_,_,_,_,_,t,u,D,G,E,h,C,I,U.wr,hV,by omega,by omega,y.out⟩
    case measure=>simp [intOf];omega
   ·have hG:Hid (aS x j+T=aS x (j+1)):=ie (by have q:=fP.out;rw[if_neg bD]at q;exact q)
    clear fP
    have t9:(Int.tmod (j:Int) 2==1)=false:=by
     rw[show Int.tmod (j:Int) 2=0 by rw[Int.tmod_eq_emod_of_nonneg (by omega)];omega]
     rfl
    have t8:(((j:Int)%2)==1)=false:=by
     rw[show (j:Int)%2=0 by omega]
     rfl
    clear bD;have Q:=O;have LT:=LB;clear O
    go_upto_region 11 with fail
    clear t9 t8;have V:=G.cell;have W:=M.cell
    go_wp2_with fail
    refine(pZ N.wr Q.wr (by omega) (by omega) hG.out).mono ?_;rintro ee HF ⟨MC,LI,qT,LN,rfl,I,iU,B⟩;clear V W;refine sX ?_ t u D G E h C N J y B;clear t u D G E h C N J y B;intro t u D G E h C N J y;clear N Q;have V:=G.cell;have gB:=G.frozen
    go_upto_region 12 with fail
    clear V gB;generalize S:(HF.setCell _ _).setCell _ _=MF at *;have d:=ac.of2 G S;replace t:=t.s d;replace u:=u.s d;replace D:=D.s d;replace E:=E.s d;replace h:=h.s d;replace C:=C.s d;replace J:=J.s d;replace I:=I.s d
    replace y:=bi y d (by omega);replace G:=d.box;clear d S;have bH:=t.lt;have fH:=u.lt;have bN:=D.lt;have gP:=G.lt;have gS:=E.lt;have LA:=y.out.size;refine bF [0,1,2,3,4,5,6,7,8,9,10] [41,42,43,44,45,46,47,48,49,50,51,0] [[],[],[0,1],[2],[],[3,4],[],[5,6],[7],[],[8,9],[]] 12 1 [Jo.Fact.eq (.agg #[.bool s5,.slice A5 n5 c5]),Jo.Fact.eq (.agg #[.bool s,.slice A n c]),Jo.Fact.wl 20 2 [aT x j,x],Jo.Fact.wn (aT x j*x) (41),Jo.Fact.eq (.agg #[.bool s9,.slice A9 n9 c9]),Jo.Fact.wn (v) (60),Jo.Fact.eq (.agg #[.bool s,.slice A n c]),Jo.Fact.wl 60 2 [v,x],Jo.Fact.wn (v*x) (121),Jo.Fact.eq (.agg #[.bool s9,.slice A9 n9 c9]),Jo.Fact.wn (aT x (j+1)) (140),Jo.Fact.any] ?_ ?_
    ·iterate 2 (refine jm ?_ ?_;rotate_left)
     refine jm ?_ ?_
     ·rintro H a _ rfl _ rfl K l;go_simp;exact l.out _ _ ⟨_,_,rfl,Wl.lit2 rfl (J.b a) (h.b a) (by omega) (by omega)⟩ (af _ _)
     refine jm ?_ ?_
     ·rintro H a _ ⟨hA,hL,rfl,hQ⟩ K l;go_simp;exact Jo.w1 (ny hQ (by decide) HO.out) l.out
     refine jm ?_ ?_;rotate_left
     refine jm ?_ ?_
     ·rintro H a _ ⟨HC,hC,BX,hM,rfl,bA,iV⟩ _ rfl K l;go_simp;exact Jo.w1 (iY bA.wr (C.b a).wr (by omega) (by omega) (by decide) HK.out) l.out
     refine jm ?_ ?_;rotate_left
     refine jm ?_ ?_
     ·rintro H a _ ⟨HD,hD,CD,hN,rfl,bB,lA⟩ _ rfl K l;go_simp;exact l.out _ _ ⟨_,_,rfl,Wl.lit2 rfl bB.wr (h.b a) (by omega) (by omega)⟩ (af _ _)
     refine jm ?_ ?_
     ·rintro H a _ ⟨LJ,LO,rfl,hR⟩ K l;go_simp;exact Jo.w1 (ny hR (by decide) HP.out) l.out
     refine jm ?_ ?_;rotate_left
     refine jm ?_ ?_
     ·rintro H a _ ⟨HE,hE,DS,hP,rfl,bC,lB⟩ _ rfl K l;go_simp;exact Jo.w1 (iY bC.wr (C.b a).wr (by omega) (by omega) (by decide) HL.out) l.out
     exact jo
     all_goals (rintro H a;(repeat rintro _ rfl);intro K l;have Y:=(E.b a).cell;have LE:=(t.b a).cell;have LF:=(D.b a).cell;go_simp;exact l.out _ _ rfl (br _ _))
    rintro HG a _ rfl _ rfl _ ⟨_,_,rfl,_⟩ _ ⟨HC,hC,BX,hM,rfl,bA,iV⟩ _ rfl _ ⟨HD,hD,CD,hN,rfl,bB,lA⟩ _ rfl _ ⟨_,_,rfl,_⟩ _ ⟨HE,hE,DS,hP,rfl,bC,lB⟩ _ rfl _ ⟨ME,LK,ET,LP,rfl,U,LV⟩ -;simp only[Jo.z];replace t:=t.b a;replace u:=u.b a;replace D:=D.b a;replace G:=G.b a;replace E:=E.b a;replace h:=h.b a
    replace C:=C.b a;replace I:=I.b a;replace y:=ak y a;clear bA bB bC J;have sm:=hF.out (j+1)
    have LR:ET<=7:=U.fits (eJ sm.1 sm.2)
    clear sm;have Y:=E.cell;have Z:=E.frozen
    refine jn 11 fun K l=>?_
    go_simp;refine l.out _ _ ?_;clear l K Y Z;generalize S:(HG.setCell _ _).setCell _ _=MG at *;have d:=ac.of2 E S;replace t:=t.s d;replace u:=u.s d;replace D:=D.s d;replace G:=G.s d;replace h:=h.s d;replace C:=C.s d;replace I:=I.s d
    replace U:=U.s d;replace y:=bi y d (by omega);replace E:=d.box;clear d S;refine jd ?_;have hH:=iw ((j:Int)+1);have hI:=jw ((j:Int)+1);have hX:=hH.out;have hZ:=hI.out
    have hV:qT<=20*(j+1):=Gz iU k4 (by omega)
    go_wp2;clear hX hZ
    go_roundw
    case rel=>exact ⟨j+1,by go_num,_,_,_,_,_,_,_,_,t,u,D,G,E,h,C,I,U.wr,hV,by omega,by omega,y.out⟩
    case measure=>simp [intOf];omega
  ·obtain rfl:j=111:=by omega
   have LD:decide (((111:Nat):Int) < 111)=false:=by decide
   clear h C J;have MH:=u.cell;have LG:=u.frozen;have V:=G.cell;go_wp2;clear MH LG V;have d:=ac.t2 u s4 A4 n4 c4;replace N:=N.s d;exact bq (v:= .agg #[.bool s4,.slice A4 n4 c4]) (by simp[results,results149,go_sem,d.box.cell]) rfl ⟨_,_,_,_,rfl,N,by omega,(d.below y.out (by omega))⟩
theorem Jq{w:World}{A:Option Addr}{n c:Nat}{s:Bool}{x r:Int}(h:Wr w s A n c x)(hn:n<=20)(hr:pK x=r):Calls prog 149 #[.agg #[.bool s,.slice A n c]] w (W1 w 2300 r):=by
 unfold pK at hr
 by_cases h1:SC < x
 ·rw[if_pos (by omega)]at hr;subst hr;exact Ef h hn h1
 ·by_cases h2:x < -SC
  ·rw[if_pos (by omega)]at hr;subst hr;exact Eg h hn h1 h2
  ·rw[if_neg (by omega)]at hr;subst hr;exact xf h hn h1 h2
theorem zO{w:World}{A:Option Addr}{n c:Nat}{s:Bool}{v u lo hi:Int}(h:Wn w s A n c v)(hn:n<=20)(h0:0<=v)(hu:pU v=u)(hlo:pA v=lo)(hhi:pB v=hi):Calls prog 148 #[.agg #[.bool s,.slice A n c]] w (Ky w 100 u lo hi):=by
 unfold pU at hu
 unfold pA at hlo
 unfold pB at hhi
 by_cases c1:SC < v*2
 ·rw[if_pos c1]at hu hlo hhi;exact qn h hn h0 (by omega) hu hlo hhi
 ·rw[if_neg c1]at hu hlo hhi;subst hu;subst hlo;subst hhi;refine(qo h hn (by omega)).mono ?_;rintro e w' ⟨s1,A1,n1,c1,s2,A2,n2,c2,s3,A3,n3,c3,e1,a,p2,b,d,f,g,B⟩;exact⟨s1,A1,n1,c1,s2,A2,n2,c2,s3,A3,n3,c3,e1,a,p2,b,by omega,by omega,by omega,B⟩
theorem zL{w:World}{H:Sp}(hT:dL w)(h:eB H):Calls prog 88 #[] w (PV w H):=by
 obtain⟨r,u,p,q,hz⟩:=h
 have v:Hid (eH r u=H):=ie hz.symm
 have s:=ie p;have t:=ie q;clear p q;clear hz
 go_enter func88,ntmps88
 go_upto_region 1 with fail
 generalize d:w.alloc _=w1 at *;obtain⟨a,c⟩:=Bo.en1 d;replace hT:=hT.below c.out;clear d
 go_wp2_with fail
 refine(vf (z:=2) (by decide) (by decide) rfl rfl).mono ?_;rintro C G ⟨s2,A2,n2,c2,s3,A3,n3,c3,rfl,p2,l,E,F,B⟩;refine aF ?_ a hT c B;clear a hT c B;intro a hT c
 have j:n2<=20:=p2.fits (by decide)
 have k:n3<=20:=l.fits (by decide)
 go_wp2_with fail
 refine(z8 hT p2.wr l.wr j k s.out t.out v.out).mono ?_;rintro C I ⟨A,x,s4,y,E4,g,m,i,f,rfl,D,B⟩;replace a:=a.b B;replace c:=ak c B;clear B;clear p2 l hT;have n:=a.cell;have e:=a.frozen;go_wp2;clear n e;have o:=ac.t9 a A x s4 y E4 g m i f
 exact bq (by simp[results,results88,go_sem,o.box.cell]) rfl ⟨_,_,_,_,_,_,_,_,_,rfl,D,(o.below c.out (by omega))⟩
theorem yG{v:Int}(h0:0<=v)(h1:v<=SC): -(2*SC)<=pL v/\pL v<=2*SC/\ -(2*SC)<=pH v/\pH v<=2*SC:=by
 obtain⟨w1,e⟩:=jQ h0 h1;obtain⟨f,g⟩:=oQ h0 h1;obtain⟨b,c⟩:=dJ h0 h1;have a:=bZ;have n1:=Rat.mul_le_mul_of_nonneg_right b (Rat.le_of_lt a);have n2:=Rat.mul_le_mul_of_nonneg_right c (Rat.le_of_lt a)
 rw[Rat.intCast_add,show ((214:Int):Rat)=214 from rfl]at w1
 rw[Rat.intCast_sub,show ((214:Int):Rat)=214 from rfl]at e
 have d:(3000:Rat)<=SR:=by decide +kernel
 have h:pL v<=pH v:=Rat.intCast_le_intCast.1 (by grind)
 have lo: -(2*SC)<=pL v:=Rat.intCast_le_intCast.1 (by
  rw[Rat.intCast_neg,Rat.intCast_mul,show ((2:Int):Rat)=2 from rfl]
  grind)
 have hi:pH v<=2*SC:=Rat.intCast_le_intCast.1 (by
  rw[Rat.intCast_mul,show ((2:Int):Rat)=2 from rfl]
  grind)
 exact⟨lo,by omega,by omega,hi⟩
theorem rG{z:Int}(h1: -(2*SC)<=z)(h2:z<=2*SC):z.natAbs < 4294967296^20:=by
 have e:(2*SC).natAbs < 4294967296^20:=by decide
 have a:(0:Int) < SC:=by decide
 generalize (4294967296:Nat)^20=Z at *
 omega
theorem pM{u:Int}(h1: -SC<=u)(h2:u<=SC):pK u=aS u 111:=by
 have a:(0:Int) < SC:=by decide
 unfold pK
 rw[if_neg (by omega)]
theorem zN{w:World}{D M E:Int}{s:Bool}{x:Int}{Z:Sp}(hT:dL w)(h0:0<=M)(hM:LQ M)(hx:rk D s M E=x)(x0:0<=x)(x1:x<=al 1)(hZ:eO (dC x) Z):Calls prog 89 #[VQ D s M E] w (PV w Z):=by
 delta VQ
 obtain⟨fb,W,X⟩:=bj x0 x1;obtain⟨v,hv⟩:∃v,dC x=v:=⟨_,rfl⟩;rw[hv]at W X hZ;obtain⟨r,r2,hr,bA,hz⟩:=hZ;obtain⟨g1,g2,g3,g4⟩:=yG W X;have hA:=ie (rG g1 g2);have gS:=ie (rG g3 g4);have hC:=ie (eJ (z:=v) (by have:(0:Int) < SC:=(by decide);omega) X);obtain⟨u1,u2⟩:=ws W X;obtain⟨u,hu⟩:∃u,pU v=u:=⟨_,rfl⟩
 obtain⟨a,ha⟩:∃u,pA v=u:=⟨_,rfl⟩;obtain⟨b,hb⟩:∃u,pB v=u:=⟨_,rfl⟩;obtain⟨S,hS⟩:∃S,aS u 111=S:=⟨_,rfl⟩;rw[hu]at u1 u2
 have sp:(3:Int) < SC:=by decide
 have su: -SC<=u/\u<=SC:=by
  generalize SC=Z at *
  omega
 have hB:=ie (eJ su.1 su.2)
 have Q:Hid (pK u=S):=ie ((pM su.1 su.2).trans hS)
 have HL:Hid (a+S-400=pL v):=ie (by unfold pL;rw[ha,hu,hS];omega)
 have HH:Hid (b+S+400=pH v):=ie (by unfold pH;rw[hb,hu,hS])
 have HZ:Hid (eH r r2=Z):=ie hz.symm
 have HX:=ie hx;have HV:=ie hv;have gP:=ie fb;have HR:=ie hr;have hD:=ie bA;have HU:=ie hu;have HA:=ie ha;have gB:=ie hb;have gO:=ie W;clear hx hv fb hr bA hu ha hb W;clear hz g1 g2 g3 g4 u1 u2 su sp X hS x0 x1
 go_enter func89,ntmps89
 go_upto_region 1 with fail
 generalize Y:(w.alloc _).alloc _=w1 at *;obtain⟨X1,c,d⟩:=Bo.en2 Y;replace hT:=hT.below d.out;clear Y;have HP:=X1.cell
 go_wp2_with fail
 refine(KD hT h0 hM HX.out HV.out gP.out).mono ?_;rintro ee w2 ⟨s3,A3,n3,c3,rfl,N,k3,B⟩;clear HP;refine aF ?_ c hT d B;clear c hT d B;intro c hT d
 have LE:n3<=7:=N.fits hC.out
 clear k3
 go_upto_region 2 with fail
 have iV:=c.lt;generalize e:w2.alloc _=w3 at *;obtain⟨X3,m⟩:=Bo.nw e;clear e;refine aR ?_ c hT N d m;clear c hT N d m;intro c hT N d;clear X1;have HQ:=X3.cell
 go_wp2_with fail
 refine(zO N (by omega) gO.out HU.out HA.out gB.out).mono ?_;rintro ee G ⟨s5,A5,n5,c5,s6,A6,n6,c6,s7,A7,n7,c7,rfl,n,f,g,k5,k6,k7,B⟩;clear HQ;refine aF ?_ c hT d B;clear c hT d B;intro c hT d;clear N
 have LF:n5<=7:=n.fits hB.out
 go_upto_region 3 with fail
 have U:(World.alloc G (.cells #[.bool s5,.slice A5 n5 c5] 43)).heap.size=G.heap.size+1:=by simp
 have V:(World.alloc (World.alloc G (.cells #[.bool s5,.slice A5 n5 c5] 43)) (.cells #[.bool s6,.slice A6 n6 c6] 43)).heap.size=G.heap.size+1+1:=by simp
 have lA:=c.lt;have j:=af G (.cells #[.bool s5,.slice A5 n5 c5] 43);replace c:=c.b j;replace hT:=hT.b j;replace n:=n.b j;replace f:=f.b j;replace g:=g.b j;replace d:=ie (bt d.out j)
 have p:=Bo.new G #[.bool s5,.slice A5 n5 c5] 43;generalize e:World.alloc G (.cells #[.bool s5,.slice A5 n5 c5] 43)=w5 at *;clear e;have qT:=c.lt;have lB:=p.lt;generalize e:w5.alloc _=w6 at *;obtain⟨h,m⟩:=Bo.nw e;clear e;refine oG ?_ c p hT n f g d m;clear c p hT n f g d m;intro c p hT n f g d;have CD:=c.lt;have xX:=p.lt;have zX:=h.lt;generalize e:w6.alloc _=w7 at *;obtain⟨k,m⟩:=Bo.nw e;clear e;refine zo ?_ c p h hT n f g d m;clear c p h hT n f g d m;intro c p h hT n f g d;rw[U]at h;rw[V]at k;clear X3;have HS:=p.cell
 go_wp2_with fail
 refine(Jq n.wr (by omega) Q.out).mono ?_;rintro ee w8 ⟨O,H,L,J,rfl,o,k8,B⟩;clear HS;refine oG ?_ c h k hT f g d B;clear c h k hT f g d B;intro c h k hT f g d;clear n
 go_wp2_with fail
 refine(iL 400 _ (by decide) (by decide)).mono ?_;rintro ee w9 ⟨s9,A9,n9,c9,rfl,A,k9,B⟩;refine zo ?_ c h k hT f g o d B;clear c h k hT f g o d B;intro c h k hT f g o d;have HW:=d.out.size
 go_upto_region 4 with fail
 have y:(World.alloc w9 (.cells #[.bool O,.slice H L J] 43)).heap.size=w9.heap.size+1:=by simp
 have HC:=c.lt;have DS:=h.lt;have ET:=k.lt;have j:=af w9 (.cells #[.bool O,.slice H L J] 43);replace c:=c.b j;replace h:=h.b j;replace k:=k.b j;replace hT:=hT.b j;replace f:=f.b j
 replace g:=g.b j;replace o:=o.b j;replace A:=A.b j;replace d:=ie (bt d.out j);have I:=Bo.new w9 #[.bool O,.slice H L J] 43;generalize e:World.alloc w9 (.cells #[.bool O,.slice H L J] 43)=wA at *
 clear e;have HG:=c.lt;have HD:=h.lt;have HE:=k.lt;have HF:=I.lt;generalize e:wA.alloc _=wB at *;obtain⟨X9,m⟩:=Bo.nw e;clear e;refine sX ?_ c h k I hT f g o A d m;clear c h k I hT f g o A d m;intro c h k I hT f g o A d;rw[y]at X9;clear y;have LD:=c.lt;have HY:=h.lt;have LA:=k.lt;have LB:=I.lt;have LC:=X9.lt;refine bF [0,1,2,3,4,5,6,7,8,9,10] [25,26,27,28,29,30,31,32,33,34,35,0] [[],[],[0,1],[],[2,3],[],[],[5,6],[],[7,8],[4,9],[]] 12 1 [Jo.Fact.eq (.agg #[.bool s6,.slice A6 n6 c6]),Jo.Fact.eq (.agg #[.bool O,.slice H L J]),Jo.Fact.wn (a+S) (2500),Jo.Fact.eq (.agg #[.bool s9,.slice A9 n9 c9]),Jo.Fact.wn (pL v) (2600),Jo.Fact.eq (.agg #[.bool s7,.slice A7 n7 c7]),Jo.Fact.eq (.agg #[.bool O,.slice H L J]),Jo.Fact.wn (b+S) (2500),Jo.Fact.eq (.agg #[.bool s9,.slice A9 n9 c9]),Jo.Fact.wn (pH v) (2600),Jo.Fact.iv Z,Jo.Fact.any] ?_ ?_
 ·iterate 2 (refine jm ?_ ?_;rotate_left)
  refine jm ?_ ?_
  ·rintro wj i _ rfl _ rfl K l;go_simp;exact Jo.w1 (pZ (f.b i).wr (o.b i).wr (by omega) (by omega) rfl) l.out
  refine jm ?_ ?_;rotate_left
  refine jm ?_ ?_
  ·rintro wj i _ ⟨HI,bD,hV,hG,rfl,C,hP⟩ _ rfl K l;go_simp;exact Jo.w1 (DW C.wr (A.b i).wr (by omega) (by omega) HL.out) l.out
  iterate 2 (refine jm ?_ ?_;rotate_left)
  refine jm ?_ ?_
  ·rintro wj i _ rfl _ rfl K l;go_simp;exact Jo.w1 (pZ (g.b i).wr (o.b i).wr (by omega) (by omega) rfl) l.out
  refine jm ?_ ?_;rotate_left
  refine jm ?_ ?_
  ·rintro wj i _ ⟨HK,bN,hX,hI,rfl,F,hR⟩ _ rfl K l;go_simp;exact Jo.w1 (pZ F.wr (A.b i).wr (by omega) (by omega) HH.out) l.out
  refine jm ?_ ?_
  ·rintro wj i _ ⟨HJ,bH,hW,hH,rfl,q,hQ⟩ _ ⟨HM,fH,iU,hL,rfl,t,hU⟩ K l;go_simp;exact Jo.v1 (z8 (hT.b i) q.wr t.wr (q.fits hA.out) (t.fits gS.out) HR.out hD.out HZ.out) l.out
  exact jo
  all_goals (rintro wj i;(repeat rintro _ rfl);intro K l;have LG:=(h.b i).cell;have LI:=(I.b i).cell;have LJ:=(X9.b i).cell;have LH:=(k.b i).cell;go_simp;exact l.out _ _ rfl (br _ _))
 rintro wC i _ rfl _ rfl _ ⟨HI,bD,hV,hG,rfl,C,hP⟩ _ rfl _ ⟨HJ,bH,hW,hH,rfl,q,hQ⟩ _ rfl _ rfl _ ⟨HK,bN,hX,hI,rfl,F,hR⟩ _ rfl _ ⟨HM,fH,iU,hL,rfl,t,hU⟩ _ ⟨hN,hE,HN,hF,fP,R,bB,T,P,rfl,HO⟩ -;simp only[Jo.z];replace c:=c.b i;replace d:=ak d i;clear hT f g o A C q F t;have HT:=c.cell
 have bC:=c.frozen
 refine jn 11 fun K l=>?_
 go_simp;refine l.out _ _ ?_;clear l K HT bC;have SX:=ac.t9 c hN hE HN hF fP R bB T P;refine jd ?_;go_wp2;exact bq (by simp[results,results89,go_sem,SX.box.cell]) rfl ⟨_,_,_,_,_,_,_,_,_,rfl,HO,(SX.below d.out (by omega))⟩
def Nq (w:World)(A:Option Addr)(n c:Nat)(l:List Int):Prop:=
 l.length=n/\n<=c/\n<=1000/\(0 < n->∃b o,A=some ⟨b,o,none⟩/\∀k,k < n->∃D s M E,w.cell? ⟨b,o+k*4,none⟩=some (.int .i64 D)/\w.cell? ⟨b,o+k*4+1,none⟩=some (.bool s)/\w.cell? ⟨b,o+k*4+2,none⟩=some (.int .u64 M)/\w.cell? ⟨b,o+k*4+3,none⟩=some (.int .i64 E)/\Fq D s M E (l.getD k 0))
theorem Nq.below{w w':World}{A:Option Addr}{n c:Nat}{l:List Int}(h:Nq w A n c l)(hb:Below w.heap.size w w'):Nq w' A n c l:=by
 obtain⟨h1,h2,a,h4⟩:=h
 refine⟨h1,h2,a,fun hn=>?_⟩
 obtain⟨b,o,e,d⟩:=h4 hn
 refine⟨b,o,e,fun k hk=>?_⟩
 obtain⟨K,s,M,E,c0,c1,c2,c3,q⟩:=d k hk
 have t:∀{i:Nat} {v:Value},w.cell? ⟨b,i,none⟩=some v->w'.cell? ⟨b,i,none⟩=some v:=fun c=>(hb.cell (p:=⟨b,_,none⟩) (block_lt_of_cell c)).trans c
 exact⟨K,s,M,E,t c0,t c1,t c2,t c3,q⟩
abbrev Nq.b:= @Nq.below
instance {w w':World} {A:Option Addr} {n c:Nat} {l:List Int}:Mv (Nq w A n c l) w w' (Nq w' A n c l):=⟨fun h b=>h.below b⟩
theorem Nq.of2{w:World}{g:Nat}{K1 K2 M1 M2 E1 E2 r1 r2:Int}{s1 s2:Bool}(X:Bo w g #[.int .i64 K1,.bool s1,.int .u64 M1,.int .i64 E1,.int .i64 K2,.bool s2,.int .u64 M2,.int .i64 E2] 24)
  (q1:Fq K1 s1 M1 E1 r1) (q2:Fq K2 s2 M2 E2 r2):Nq w (some ⟨g,0,none⟩) 2 2 [r1,r2]:=by
 refine⟨rfl,Nat.le_refl _,by decide,fun _=>⟨_,0,rfl,fun k hk=>?_⟩⟩
 rcases (by omega:k=0\/k=1)with rfl | rfl
 ·exact⟨K1,s1,M1,E1,X.at rfl,X.at rfl,X.at rfl,X.at rfl,q1⟩
 ·exact⟨K2,s2,M2,E2,X.at rfl,X.at rfl,X.at rfl,X.at rfl,q2⟩
def Jo.Fact.nq (n:Nat)(l:List Int):Jo.Fact:=⟨fun v w=>∃A c,v= .slice A n c/\Nq w A n c l,fun v w w' h b=>by
 obtain⟨A,c,e,h⟩:=h;exact⟨A,c,e,h.below b⟩⟩
theorem Fq.nn{K:Int}{s:Bool}{M E r:Int}(h:Fq K s M E r):0<=M:=by
 rcases h.1 with⟨_,_,rfl,_⟩ | h | ⟨_,rfl,_⟩
 ·exact Int.le_refl _
 ·have:=h
  omega
 ·exact Int.le_refl _
theorem J6{l:List Sp}{k:Nat}{z:Sp}(h:k < l.length)(hz:l.getD k none=z):l.take (k+1)=l.take k ++[z]:=by
 rw[List.take_succ_eq_append_getElem h,<-hz]
 simp[List.getD_eq_getElem?_getD,h]
theorem vT{x:Sp}(hx:aZ x):jJ [x]=x:=qZ hx
