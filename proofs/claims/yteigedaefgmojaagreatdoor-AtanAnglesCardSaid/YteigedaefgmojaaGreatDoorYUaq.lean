/-
 Contracts that the proof rests on.
-/
import Derived.Test.YteigedaefgmojaaGreatDoorYUap
namespace Go.Proofs.YteigedaefgmojaaGreatDoor
open Go.Proofs.Tryz
set_option maxHeartbeats 4000000
open Go.RowKit
set_option linter.unusedVariables false
set_option linter.unusedSimpArgs false
set_option maxRecDepth 100000
theorem Il (s:Bool){x:Int}(h0:0<=x)(h1:x<=19342822337206103650074624):nx (!s) (aj s x)=aj s (x+1):=by
 have:=dq
 unfold nx
 cases s
 ·show min TP (x+1)=x+1
  omega
 ·show max (-TP) (-x-1)= -(x+1)
  omega
theorem Cq{a:Nat}{E:Int}(s:Bool)(h:ext a E=false):nx (!s) (aj s (lo a E))=aj s (hi a E):=by
 obtain⟨h1,h2⟩:=qW a E
 have hh:hi a E=lo a E+1:=by
  unfold hi
  rw[h,if_neg (by decide)]
 rw[hh,Il s h1 h2]
theorem CG (s:Bool)(x y:Int)(b:Bool)(h:b=true):aj s (if b=true then x else y)=aj s x:=by rw[if_pos h]
theorem CF (s:Bool)(x y:Int)(b:Bool)(h:b=false):aj s (if b=true then x else y)=aj s y:=by rw[h,if_neg (by decide)]
theorem gA{up:Bool}{N E:Int}(h:ext N.natAbs E=true):eI up N E=aj (decide (N < 0)) (lo N.natAbs E):=by
 unfold eI hi
 rw[if_pos h]
 cases hb:(up !=decide (N < 0))
 ·exact CF _ _ _ _ rfl
 ·exact CG _ _ _ _ rfl
theorem gZ{up s:Bool}{N E:Int}(hs:s=decide (N < 0))(h:s=up):eI up N E=aj s (lo N.natAbs E):=by
 unfold eI
 rw[<-hs,h]
 exact CF _ _ _ _ (by cases up <;> rfl)
theorem gY{s:Bool}{N E:Int}(hs:s=decide (N < 0)):eI (!s) N E=aj s (hi N.natAbs E):=by
 unfold eI
 rw[<-hs]
 exact CG _ _ _ _ (by cases s <;> rfl)
theorem Cp{w:World}{A:Option Addr}{n c:Nat}{s up:Bool}{z e N E r:Int}(hT:dL w)(h:Wr w s A n c z)(hn:n<=100000)(hN:(mk z e).1=N)(hE:(mk z e).2=E)(hr:eI up N E=r)(hm:qY s n z.natAbs e=true):
  Calls prog 235 #[.agg #[.bool s,.slice A n c,.int .i64 e],.bool up] w (PN w r):=by
 obtain⟨J,L⟩:=f9 z e;rw[hE]at J L;have O:=ie hm;have C:=ie hr;obtain⟨p,o⟩:=oB h hm
 obtain rfl:z=N:=by rw[<-hN,o]
 obtain rfl:e=E:=by rw[<-hE,o]
 have l:=ie p.2;have hd:=p.1.rd;clear hm hr hN hE o p
 go_enter func235,ntmps235
 go_upto_region 1 with fail
 generalize q:(w.alloc _).alloc _=w1 at *;obtain⟨d,b,f⟩:=Bo.en2 q;replace h:=h.below f.out;replace hd:=hd.below f.out;clear q;have a:=d.cell
 go_wp2_with fail
 refine(Er h.rd O.out).mono ?_;rintro M T ⟨rfl,B⟩;clear a;refine aR ?_ d b hd f B;clear d b hd f B;intro d b hd f;obtain⟨x,hx⟩:∃x,aj s (lo z.natAbs e)=x:=⟨_,rfl⟩;obtain⟨t,ht⟩:∃t,ext z.natAbs e=t:=⟨_,rfl⟩;have v:=ie hx;have F:=ie ht;clear hx ht;have a:=d.cell
 go_wp2_with fail
 refine(JL hd hn J L v.out F.out).mono ?_;rintro M S ⟨K2,s2,M2,E2,rfl,y,B⟩;clear a;refine aF ?_ d b f B;clear d b f B;intro d b f;clear hd
 go_upto_region 4 with fail
 have G:=d.lt;have H:=b.lt;generalize u:S.alloc _=U at *;obtain⟨m,I⟩:=Bo.nw u;clear u;refine aF ?_ d b f I;clear d b f I;intro d b f
 by_cases ht:t=true
 ·subst ht
  obtain rfl:x=r:=by rw[<-v.out,<-C.out,gA F.out,l.out]
  have j:=b.cell;have g:=b.frozen;have a:=d.cell;have i:=m.cell;go_wp2;clear j g a i;have k:=ac.t4 b K2 s2 M2 E2;exact bq (by simp[results,results235,go_sem,k.box.cell]) rfl ⟨_,_,_,_,rfl,y,(k.below f.out (by omega))⟩
 ·have ht:t=false:=by simpa using ht
  subst ht
  by_cases hs:s=up
  ·obtain rfl:x=r:=by rw[<-v.out,<-C.out,gZ l.out hs]
   subst hs;have j:=b.cell;have g:=b.frozen;have a:=d.cell;have i:=m.cell;go_wp2;clear j g a i;have k:=ac.t4 b K2 s2 M2 E2;exact bq (by simp[results,results235,go_sem,k.box.cell]) rfl ⟨_,_,_,_,rfl,y,(k.below f.out (by omega))⟩
  ·obtain rfl:(!s)=up:=by cases s <;> cases up <;> first | rfl | exact absurd rfl hs
   clear hs
   have e2:(s==!s)=false:=by cases s <;> rfl
   have D:Hid (nx (!s) (rk K2 s2 M2 E2)=r):=ie (by rw[y.rk,<-v.out,Cq s F.out,<-C.out,gY l.out])
   have a:=d.cell;have i:=m.cell
   go_wp2_with fail
   refine(vZ y.top D.out).mono ?_;rintro M V ⟨P,s3,Q,E3,rfl,R,B⟩;clear a i;refine aR ?_ d b m f B;clear d b m f B;intro d b m f;have j:=b.cell;have g:=b.frozen;have a:=d.cell;have i:=m.cell;go_wp2
   clear j g a i;have k:=ac.t4 b P s3 Q E3;exact bq (by simp[results,results235,go_sem,k.box.cell]) rfl ⟨_,_,_,_,rfl,R,(k.below f.out (by omega))⟩
theorem Co{w:World}{A:Option Addr}{n c:Nat}{s up:Bool}{z e N E r:Int}(hT:dL w)(h:Wr w s A n c z)(hn:n<=100000)(hN:(mk z e).1=N)(hE:(mk z e).2=E)(hr:eI up N E=r)(hm:qY s n z.natAbs e=false):
  Calls prog 235 #[.agg #[.bool s,.slice A n c,.int .i64 e],.bool up] w (PN w r):=by
 obtain⟨M,O⟩:=f9 z e;rw[hE]at M O;have R:=ie hm;have C:=ie hr;have S:=ie hN;have Q:=ie hE;clear hm hr hN hE
 go_enter func235,ntmps235
 go_upto_region 1 with fail
 generalize o:(w.alloc _).alloc _=w1 at *;obtain⟨b,d,f⟩:=Bo.en2 o;replace hT:=hT.below f.out;replace h:=h.below f.out;clear o;have a:=b.cell
 go_wp2_with fail
 refine(Er h.rd R.out).mono ?_;rintro G Z ⟨rfl,B⟩;clear a;refine dW ?_ b d hT h f B;clear b d hT h f B;intro b d hT h f;have a:=b.cell
 go_wp2_with fail
 refine(vo hT h hn S.out Q.out).mono ?_;rintro G W ⟨s1,A1,n1,c1,rfl,q,Y,B⟩;clear a;refine aF ?_ b d f B;clear b d f B;intro b d f;have a:=b.cell;have u:=b.frozen
 go_upto_region 3 with fail
 clear a u;generalize P:((W.setCell _ _).setCell _ _).setCell _ _=w4 at *;have j:=ac.of3 b P;replace d:=d.s j;replace q:=q.s j;replace f:=bi f j (by omega);replace b:=j.box;clear j P;have l:=ie q.2;have hd:=q.1.rd
 have H:n1<=100000:=by omega
 clear q;obtain⟨x,hx⟩:∃x,aj s1 (lo N.natAbs E)=x:=⟨_,rfl⟩;obtain⟨t,ht⟩:∃t,ext N.natAbs E=t:=⟨_,rfl⟩;have v:=ie hx;have F:=ie ht;clear hx ht;have a:=b.cell
 go_wp2_with fail
 refine(JL hd H M O v.out F.out).mono ?_;rintro G X ⟨K2,s2,M2,E2,rfl,y,B⟩;clear a;refine aF ?_ b d f B;clear b d f B;intro b d f;clear hd
 go_upto_region 4 with fail
 have I:=b.lt;have J:=d.lt;generalize p:X.alloc _=w6 at *;obtain⟨m,L⟩:=Bo.nw p;clear p;refine aF ?_ b d f L;clear b d f L;intro b d f
 by_cases ht:t=true
 ·subst ht
  obtain rfl:x=r:=by rw[<-v.out,<-C.out,gA F.out,l.out]
  have k:=d.cell;have g:=d.frozen;have a:=b.cell;have i:=m.cell;go_wp2;clear k g a i;have j:=ac.t4 d K2 s2 M2 E2;exact bq (by simp[results,results235,go_sem,j.box.cell]) rfl ⟨_,_,_,_,rfl,y,(j.below f.out (by omega))⟩
 ·have ht:t=false:=by simpa using ht
  subst ht
  by_cases hs:s1=up
  ·obtain rfl:x=r:=by rw[<-v.out,<-C.out,gZ l.out hs]
   subst hs;have k:=d.cell;have g:=d.frozen;have a:=b.cell;have i:=m.cell;go_wp2;clear k g a i;have j:=ac.t4 d K2 s2 M2 E2;exact bq (by simp[results,results235,go_sem,j.box.cell]) rfl ⟨_,_,_,_,rfl,y,(j.below f.out (by omega))⟩
  ·obtain rfl:(!s1)=up:=by cases s1 <;> cases up <;> first | rfl | exact absurd rfl hs
   clear hs
   have e2:(s1==!s1)=false:=by cases s1 <;> rfl
   have D:Hid (nx (!s1) (rk K2 s2 M2 E2)=r):=ie (by rw[y.rk,<-v.out,Cq s1 F.out,<-C.out,gY l.out])
   have a:=b.cell;have i:=m.cell
   go_wp2_with fail
   refine(vZ y.top D.out).mono ?_;rintro G w7 ⟨T,s3,U,E3,rfl,V,B⟩;clear a i;refine aR ?_ b d m f B;clear b d m f B;intro b d m f;have k:=d.cell;have g:=d.frozen;have a:=b.cell;have i:=m.cell;go_wp2
   clear k g a i;have j:=ac.t4 d T s3 U E3;exact bq (by simp[results,results235,go_sem,j.box.cell]) rfl ⟨_,_,_,_,rfl,V,(j.below f.out (by omega))⟩
theorem Cd{w:World}{A:Option Addr}{n c:Nat}{s up:Bool}{z e N E r:Int}(hT:dL w)(h:Wr w s A n c z)(hn:n<=100000)(hN:(mk z e).1=N)(hE:(mk z e).2=E)(hr:eI up N E=r):
  Calls prog 235 #[.agg #[.bool s,.slice A n c,.int .i64 e],.bool up] w (PN w r):=by
 cases hm:qY s n z.natAbs e
 ·exact Co hT h hn hN hE hr hm
 ·exact Cp hT h hn hN hE hr hm
def D6 (w:World)(N E:Int)(t:Bool)(e:Ending)(w':World):Prop:=∃s A n c,e= .returned (.tuple #[.agg #[.bool s,.slice A n c,.int .i64 E],.bool t])/\Wn w' s A n c N/\n<=2/\Below w.heap.size w w'
def mt (D:Int)(s:Bool)(M E:Int):Bool:=decide (au D s M E) && !(D==2)
def jG (D:Int)(s:Bool)(M E:Int):Int × Int:=if mt D s M E=true then mk (aj s M) E else (0,0)
def Jo.Fact.rd (a K:Nat):Jo.Fact:=⟨fun v w=>∃A n c,v= .slice A n c/\Rd w A n c a/\n<=K,fun v w w' h b=>by
 obtain⟨A,n,c,e,h,k⟩:=h;exact⟨A,n,c,e,h.below b,k⟩⟩
theorem vS (W:World){X Y a:Nat}(hX:X < 4294967296)(hY:Y < 4294967296)(ha:Y+4294967296*X=a):Rd (W.alloc (.cells #[.int .u32 (Y:Int),.int .u32 (X:Int)] 103)) (some ⟨W.heap.size,0,none⟩) 2 2 a:=
 ⟨_,_,lit2 W Y X hY hX,by simp[val];omega⟩
theorem rD{s:Bool}{M:Int}(h:0<=M):sg s M.toNat=aj s M:=by
 have:((M.toNat:Nat):Int)=M:=by omega
 unfold sg aj
 rw[this]
theorem Ck{w:World}{D M E:Int}{s:Bool}(hm:decide (au D s M E)=false):Calls prog 174 #[VQ D s M E] w (D6 w 0 0 false):=by
 delta VQ
 have i:=ie hm;clear hm
 go_enter func174,ntmps174
 go_upto_region 1 with fail
 generalize d:(w.alloc _).alloc _=w1 at *;obtain⟨c,b,f⟩:=Bo.en2 d;clear d;have a:=c.cell
 go_wp2_with fail
 refine(kY i.out).mono ?_;rintro j k ⟨rfl,B⟩;clear a;refine aF ?_ c b f B;clear c b f B;intro c b f;have g:=b.cell;have e:=b.frozen;have a:=c.cell;go_wp2;clear g e a;have h:=ac.mk3 b (.bool false) (.slice none 0 0) (.int .i64 0)
 exact bq (v:= .tuple #[.agg #[.bool false,.slice none 0 0,.int .i64 0],.bool false]) (by simp[results,results174,go_sem,h.box.cell]) rfl ⟨_,_,_,_,rfl,Wn.zero,by decide,(h.below f.out (by omega))⟩
theorem Cl{w:World}{D M E:Int}{s:Bool}(hm:decide (au D s M E)=true)(hd:D=2):Calls prog 174 #[VQ D s M E] w (D6 w 0 0 false):=by
 delta VQ
 have i:=ie hm;clear hm;subst hd
 go_enter func174,ntmps174
 go_upto_region 1 with fail
 generalize d:(w.alloc _).alloc _=w1 at *;obtain⟨c,b,f⟩:=Bo.en2 d;clear d;have a:=c.cell
 go_wp2_with fail
 refine(kY i.out).mono ?_;rintro j k ⟨rfl,B⟩;clear a;refine aF ?_ c b f B;clear c b f B;intro c b f;have g:=b.cell;have e:=b.frozen;have a:=c.cell;go_wp2;clear g e a;have h:=ac.mk3 b (.bool false) (.slice none 0 0) (.int .i64 0)
 exact bq (v:= .tuple #[.agg #[.bool false,.slice none 0 0,.int .i64 0],.bool false]) (by simp[results,results174,go_sem,h.box.cell]) rfl ⟨_,_,_,_,rfl,Wn.zero,by decide,(h.below f.out (by omega))⟩
theorem Cm{w:World}{D M E:Int}{s:Bool}{N F:Int}(hT:dL w)(h0:0<=M)(hM:LQ M)(hm:decide (au D s M E)=true)(hd:D≠2)(hN:(mk (aj s M) E).1=N)(hE:(mk (aj s M) E).2=F):Calls prog 174 #[VQ D s M E] w (D6 w N F true):=by
 delta VQ
 have C:=ie hm;have G:=ie hN;have A:=ie hE
 have e2:(D==2)=false:=by simpa using hd
 obtain⟨X,u⟩:∃X:Nat,M/4294967296=X:=⟨(M/4294967296).toNat,by omega⟩
 obtain⟨Y,hY⟩:∃Y:Nat,M%4294967296=Y:=⟨(M%4294967296).toNat,by omega⟩
 have hx:X < 4294967296:=by omega
 have hy:Y < 4294967296:=by omega
 have O:Y+4294967296*X=M.toNat:=by omega
 have I:=ie u
 have J:Hid (IntKind.u32.wrap M=(Y:Int)):=ie (by
  show M%4294967296=(Y:Int)
  exact hY)
 have n:Hid (IntKind.u32.wrap (X:Int)=(X:Int)):=ie (IntWalk.u32_in _ (by omega))
 have H:Hid (sg s M.toNat=aj s M):=ie (rD h0)
 clear hm hN hE u hY
 go_enter func174,ntmps174
 go_upto_region 1 with fail
 generalize j:(w.alloc _).alloc _=w1 at *;obtain⟨h,e,g⟩:=Bo.en2 j;replace hT:=hT.below g.out;clear j;have i:=h.cell
 go_wp2_with fail
 refine(kY C.out).mono ?_;rintro L V ⟨rfl,B⟩;clear i;refine aR ?_ h e hT g B;clear h e hT g B;intro h e hT g;have i:=h.cell
 go_upto_region 3 with fail
 clear i;refine bF [0,1,2,3,4,5,6,7,8,9,10,11,12,13] [14,15,16,17,18,19,20,21,22,23,24,25,26,27,0,4] [[],[0],[],[2],[3],[],[5],[6],[7],[4,8],[1,9],[],[11],[10,12],[],[]] 16 2 [Jo.qp w.heap.size 1,Jo.qb s,Jo.qp w.heap.size 2,Jo.Fact.eq (.int .u64 M),Jo.Fact.eq (.int .u32 (Y:Int)),Jo.qp w.heap.size 2,Jo.Fact.eq (.int .u64 M),Jo.Fact.eq (.int .u64 (X:Int)),Jo.Fact.eq (.int .u32 (X:Int)),Jo.Fact.rd M.toNat 2,Jo.Fact.wn (aj s M) 2,Jo.qp w.heap.size 3,Jo.qi E,Jo.Fact.dy N F 2,Jo.Fact.any,Jo.Fact.any] ?_ ?_
 ·refine jm ?_ ?_;rotate_left
  refine jm ?_ ?_
  ·rintro f d _ rfl K c;have x:=(h.b d).a 1 (.bool s) rfl;go_simp;exact c.out _ _ rfl (br _ _)
  refine jm ?_ ?_;rotate_left
  refine jm ?_ ?_
  ·rintro f d _ rfl K c;have k:=(h.b d).a 2 (.int .u64 M) rfl;go_simp;exact c.out _ _ rfl (br _ _)
  refine jm ?_ ?_
  ·rintro f d _ rfl K c;have P:=J.out;go_simp;exact c.out _ _ rfl (br _ _)
  refine jm ?_ ?_;rotate_left
  refine jm ?_ ?_
  ·rintro f d _ rfl K c;have k:=(h.b d).a 2 (.int .u64 M) rfl;go_simp;exact c.out _ _ rfl (br _ _)
  refine jm ?_ ?_
  ·rintro f d _ rfl K c;have o:=I.out;go_simp;exact c.out _ _ rfl (br _ _)
  refine jm ?_ ?_
  ·rintro f d _ rfl K c;have o:=n.out;go_simp;exact c.out _ _ rfl (br _ _)
  refine jm ?_ ?_
  ·rintro f d _ rfl _ rfl K c;go_simp;exact c.out _ _ ⟨_,2,2,rfl,vS _ hx hy O,by decide⟩ (af _ _)
  refine jm ?_ ?_
  ·rintro f d _ rfl _ ⟨A3,n3,c3,rfl,S,U⟩ K c;go_simp;refine(kH s S).mono ?_;rintro L Z ⟨s4,A4,n4,c4,rfl,p,Q,B⟩;exact c.out _ _ ⟨s4,A4,n4,c4,rfl,H.out▸p,by omega⟩ B
  refine jm ?_ ?_;rotate_left
  refine jm ?_ ?_
  ·rintro f d _ rfl K c;have y:=(h.b d).a 3 (.int .i64 E) rfl;go_simp;exact c.out _ _ rfl (br _ _)
  refine jm ?_ ?_
  ·rintro f d _ ⟨s4,A4,n4,c4,rfl,p,Q⟩ _ rfl K c;go_simp;exact Jo.d1 (vo (hT.b d) p.wr (by omega) G.out A.out) c.out
  exact jo
  all_goals (rintro f d;(repeat rintro _ rfl);intro K c;go_simp;exact c.out _ _ rfl (br _ _))
 rintro T d _ _ _ rfl _ _ _ rfl _ rfl _ _ _ rfl _ rfl _ rfl _ ⟨A3,n3,c3,rfl,_,_⟩ _ ⟨s4,A4,n4,c4,rfl,_,_⟩ _ _ _ rfl _ ⟨s5,A5,n5,c5,rfl,q,R⟩ -;simp only[Jo.z];replace e:=e.b d;replace g:=ak g d;have r:=e.cell;have l:=e.frozen
 refine jn 14 fun K c=>?_
 go_simp;refine c.out _ _ ?_;clear c K r l;generalize t:((T.setCell _ _).setCell _ _).setCell _ _=W at *;have m:=ac.of3 e t;replace q:=q.s m;replace g:=bi g m (by omega);replace e:=m.box;clear m t
 refine jn 15 fun K c=>?_
 go_simp;refine c.out _ _ ?_;clear c K;refine jd ?_;go_wp2;exact bq (v:= .tuple #[.agg #[.bool s5,.slice A5 n5 c5,.int .i64 F],.bool true]) (by simp[results,results174,go_sem,e.cell]) rfl ⟨_,_,_,_,rfl,q,R,g.out⟩
theorem Ij{w:World}{t:Bool}{D M E:Int}{s:Bool}{N F:Int}(hT:dL w)(h0:0<=M)(hM:LQ M)(hq:mt D s M E=t)(hN:(jG D s M E).1=N)(hE:(jG D s M E).2=F):Calls prog 174 #[VQ D s M E] w (D6 w N F t):=by
 delta VQ
 unfold jG at hN hE
 rw[hq]at hN hE
 unfold mt at hq
 cases hm:decide (au D s M E)
 ·rw[hm,Bool.false_and]at hq;subst hq;subst hN;subst hE;exact Ck hm
 ·rw[hm,Bool.true_and]at hq
  by_cases hd:D=2
  ·have e:(D==2)=true:=by simpa using hd
   rw[e]at hq;subst hq;subst hN;subst hE;exact Cl hm hd
  ·have e:(D==2)=false:=by simpa using hd
   rw[e]at hq
   obtain rfl:true=t:=hq
   rw[if_pos rfl]at hN hE;exact Cm hT h0 hM hm hd hN hE
theorem DZ{w:World}{D M E:Int}{s:Bool}(hm:decide (au D s M E)=false):Calls prog 107 #[VQ D s M E] w (D6 w 0 0 false):=by
 delta VQ
 have i:=ie hm;clear hm
 go_enter func107,ntmps107
 go_upto_region 1 with fail
 generalize d:(w.alloc _).alloc _=w1 at *;obtain⟨c,b,f⟩:=Bo.en2 d;clear d;have a:=c.cell
 go_wp2_with fail
 refine(dD i.out).mono ?_;rintro j k ⟨rfl,B⟩;clear a;refine aF ?_ c b f B;clear c b f B;intro c b f;have g:=b.cell;have e:=b.frozen;have a:=c.cell;go_wp2;clear g e a;have h:=ac.mk3 b (.bool false) (.slice none 0 0) (.int .i64 0)
 exact bq (v:= .tuple #[.agg #[.bool false,.slice none 0 0,.int .i64 0],.bool false]) (by simp[results,results107,go_sem,h.box.cell]) rfl ⟨_,_,_,_,rfl,Wn.zero,by decide,(h.below f.out (by omega))⟩
theorem D3{w:World}{D M E:Int}{s:Bool}(hm:decide (au D s M E)=true)(hd:D=2):Calls prog 107 #[VQ D s M E] w (D6 w 0 0 false):=by
 delta VQ
 have i:=ie hm;clear hm;subst hd
 go_enter func107,ntmps107
 go_upto_region 1 with fail
 generalize d:(w.alloc _).alloc _=w1 at *;obtain⟨c,b,f⟩:=Bo.en2 d;clear d;have a:=c.cell
 go_wp2_with fail
 refine(dD i.out).mono ?_;rintro j k ⟨rfl,B⟩;clear a;refine aF ?_ c b f B;clear c b f B;intro c b f;have g:=b.cell;have e:=b.frozen;have a:=c.cell;go_wp2;clear g e a;have h:=ac.mk3 b (.bool false) (.slice none 0 0) (.int .i64 0)
 exact bq (v:= .tuple #[.agg #[.bool false,.slice none 0 0,.int .i64 0],.bool false]) (by simp[results,results107,go_sem,h.box.cell]) rfl ⟨_,_,_,_,rfl,Wn.zero,by decide,(h.below f.out (by omega))⟩
theorem D5{w:World}{s:Bool}{M E:Int}(hm:decide (au 0 s M E)=true):Calls prog 107 #[VQ 0 s M E] w (D6 w 0 0 true):=by
 delta VQ
 have i:=ie hm;clear hm
 go_enter func107,ntmps107
 go_upto_region 1 with fail
 generalize d:(w.alloc _).alloc _=w1 at *;obtain⟨c,b,f⟩:=Bo.en2 d;clear d;have a:=c.cell
 go_wp2_with fail
 refine(dD i.out).mono ?_;rintro j k ⟨rfl,B⟩;clear a;refine aF ?_ c b f B;clear c b f B;intro c b f;have g:=b.cell;have e:=b.frozen;have a:=c.cell;go_wp2;clear g e a;have h:=ac.mk3 b (.bool false) (.slice none 0 0) (.int .i64 0)
 exact bq (v:= .tuple #[.agg #[.bool false,.slice none 0 0,.int .i64 0],.bool true]) (by simp[results,results107,go_sem,h.box.cell]) rfl ⟨_,_,_,_,rfl,Wn.zero,by decide,(h.below f.out (by omega))⟩
def PR (w:World)(a:Nat)(e:Ending)(w':World):Prop:=∃A n c,e= .returned (.slice A n c)/\Rd w' A n c a/\n<=2/\Below w.heap.size w w'
theorem I4{w:World}{M:Int}(h0:0<=M)(hM:LQ M):Calls prog 160 #[.int .u64 M] w (PR w M.toNat):=by
 obtain⟨X,b⟩:∃X:Nat,M/4294967296=X:=⟨(M/4294967296).toNat,by omega⟩
 obtain⟨Y,hY⟩:∃Y:Nat,M%4294967296=Y:=⟨(M%4294967296).toNat,by omega⟩
 have hx:X < 4294967296:=by omega
 have hy:Y < 4294967296:=by omega
 have a:Y+4294967296*X=M.toNat:=by omega
 have w1:IntKind.u32.wrap (X:Int)=X:=IntWalk.u32_in _ (by omega)
 have c:IntKind.u32.wrap (Y:Int)=Y:=IntWalk.u32_in _ (by omega)
 go_enter func160,ntmps160
 go_wp2
 go_ret
 exact⟨_,2,2,rfl,vS w hx hy a,by decide,af _ _⟩
theorem D4{w:World}{D M E:Int}{s:Bool}{N F:Int}(h0:0<=M)(hM:LQ M)(hm:decide (au D s M E)=true)(hd:D≠2)(hz:D≠0)(hN:(mk (aj s M) E).1=N)(hE:(mk (aj s M) E).2=F):Calls prog 107 #[VQ D s M E] w (D6 w N F true):=by
 delta VQ
 have G:=ie hm;have H:=ie hN;have C:=ie hE
 have e2:(D==2)=false:=by simpa using hd
 have e0:(D==0)=false:=by simpa using hz
 obtain⟨X,t⟩:∃X:Nat,M/4294967296=X:=⟨(M/4294967296).toNat,by omega⟩
 obtain⟨Y,hY⟩:∃Y:Nat,M%4294967296=Y:=⟨(M%4294967296).toNat,by omega⟩
 have hx:X < 4294967296:=by omega
 have hy:Y < 4294967296:=by omega
 have T:Y+4294967296*X=M.toNat:=by omega
 have R:=ie t
 have S:Hid (IntKind.u32.wrap M=(Y:Int)):=ie (by
  show M%4294967296=(Y:Int)
  exact hY)
 have J:Hid (IntKind.u32.wrap (X:Int)=(X:Int)):=ie (IntWalk.u32_in _ (by omega))
 have I:Hid (sg s M.toNat=aj s M):=ie (rD h0)
 clear hm hN hE t hY
 go_enter func107,ntmps107
 go_upto_region 1 with fail
 generalize j:(w.alloc _).alloc _=w1 at *;obtain⟨g,e,f⟩:=Bo.en2 j;clear j;have h:=g.cell
 go_wp2_with fail
 refine(dD G.out).mono ?_;rintro q U ⟨rfl,B⟩;clear h;refine aF ?_ g e f B;clear g e f B;intro g e f;have h:=g.cell
 go_upto_region 6 with fail
 clear h;refine bF [0,1,2,3,4,5,6,7,8] [20,21,22,23,24,25,26,27,28,0,4] [[],[0],[],[2],[3],[1,4],[],[6],[5,7],[],[]] 11 2 [Jo.qp w.heap.size 1,Jo.qb s,Jo.qp w.heap.size 2,Jo.Fact.eq (.int .u64 M),Jo.Fact.rd M.toNat 2,Jo.Fact.wn (aj s M) 2,Jo.qp w.heap.size 3,Jo.qi E,Jo.Fact.dy N F 2,Jo.Fact.any,Jo.Fact.any] ?_ ?_
 ·refine jm ?_ ?_;rotate_left
  refine jm ?_ ?_
  ·rintro i d _ rfl K c;have x:=(g.b d).a 1 (.bool s) rfl;go_simp;exact c.out _ _ rfl (br _ _)
  refine jm ?_ ?_;rotate_left
  refine jm ?_ ?_
  ·rintro i d _ rfl K c;have y:=(g.b d).a 2 (.int .u64 M) rfl;go_simp;exact c.out _ _ rfl (br _ _)
  refine jm ?_ ?_
  ·rintro i d _ rfl K c;go_simp;refine(I4 h0 hM).mono ?_;rintro q Q ⟨A3,n3,c3,rfl,m,u,B⟩;exact c.out _ _ ⟨A3,n3,c3,rfl,m,u⟩ B
  refine jm ?_ ?_
  ·rintro i d _ rfl _ ⟨A3,n3,c3,rfl,m,u⟩ K c;go_simp;refine(dk s m).mono ?_;rintro q Q ⟨s4,A4,n4,c4,rfl,n,L,B⟩;exact c.out _ _ ⟨s4,A4,n4,c4,rfl,I.out▸n,by omega⟩ B
  refine jm ?_ ?_;rotate_left
  refine jm ?_ ?_
  ·rintro i d _ rfl K c;have A:=(g.b d).a 3 (.int .i64 E) rfl;go_simp;exact c.out _ _ rfl (br _ _)
  refine jm ?_ ?_
  ·rintro i d _ ⟨s4,A4,n4,c4,rfl,n,L⟩ _ rfl K c;go_simp;exact Jo.d1 (bT n.wr (by omega) H.out C.out) c.out
  exact jo
  all_goals (rintro i d;(repeat rintro _ rfl);intro K c;go_simp;exact c.out _ _ rfl (br _ _))
 rintro P d _ _ _ rfl _ _ _ rfl _ ⟨A3,n3,c3,rfl,_,_⟩ _ ⟨s4,A4,n4,c4,rfl,_,_⟩ _ _ _ rfl _ ⟨s5,A5,n5,c5,rfl,o,O⟩ -;simp only[Jo.z];replace e:=e.b d;replace f:=ak f d;have p:=e.cell;have k:=e.frozen
 refine jn 9 fun K c=>?_
 go_simp;refine c.out _ _ ?_;clear c K p k;generalize r:((P.setCell _ _).setCell _ _).setCell _ _=V at *;have l:=ac.of3 e r;replace o:=o.s l;replace f:=bi f l (by omega);replace e:=l.box;clear l r
 refine jn 10 fun K c=>?_
 go_simp;refine c.out _ _ ?_;clear c K;refine jd ?_;go_wp2;exact bq (v:= .tuple #[.agg #[.bool s5,.slice A5 n5 c5,.int .i64 F],.bool true]) (by simp[results,results107,go_sem,e.cell]) rfl ⟨_,_,_,_,rfl,o,O,f.out⟩
theorem iG{w:World}{t:Bool}{D M E:Int}{s:Bool}{N F:Int}(h0:0<=M)(hM:LQ M)(hq:mt D s M E=t)(hN:(jG D s M E).1=N)(hE:(jG D s M E).2=F):Calls prog 107 #[VQ D s M E] w (D6 w N F t):=by
 delta VQ
 unfold jG at hN hE
 rw[hq]at hN hE
 unfold mt at hq
 cases hm:decide (au D s M E)
 ·rw[hm,Bool.false_and]at hq;subst hq;subst hN;subst hE;exact DZ hm
 ·rw[hm,Bool.true_and]at hq
  by_cases hd:D=2
  ·have e:(D==2)=true:=by simpa using hd
   rw[e]at hq;subst hq;subst hN;subst hE;exact D3 hm hd
  ·have e:(D==2)=false:=by simpa using hd
   rw[e]at hq
   obtain rfl:true=t:=hq
   rw[if_pos rfl]at hN hE
   by_cases hz:D=0
   ·subst hz
    have e1:s=false/\M=0/\E=0:=by
     have:=of_decide_eq_true hm
     unfold au at this
     simpa using this
    obtain⟨rfl,rfl,rfl⟩:=e1
    have e2:mk (aj false 0) 0=(0,0):=dg 0
    rw[e2]at hN hE;subst hN;subst hE;exact D5 hm
   ·exact D4 h0 hM hm hd hz hN hE
theorem Ho{a:Nat}{E:Int}(s:Bool)(h:a≠0):fin s (tp a) (xp a E) false=aj s (lo a E):=by
 have:=dq
 unfold fin lo
 rw[if_neg h];refine congrArg (aj s) ?_
 by_cases c1:1048576 < xp a E
 ·rw[if_pos c1,if_pos c1,if_neg (by decide)]
  omega
 ·rw[if_neg c1,if_neg c1]
  by_cases c2:xp a E < -1048576
  ·rw[if_pos c2,if_pos c2,if_neg (by decide)]
  ·rw[if_neg c2,if_neg c2]
theorem xF{a:Nat}{E:Int}(s:Bool)(h:a≠0)(hl:ae a<=64):fin s (tp a) (xp a E) true=aj s (hi a E):=by
 have:=dq
 have e0:(a==0)=false:=by simpa using h
 unfold fin hi ext lo
 rw[if_neg h,e0,Bool.false_or,dt hl,Bool.and_true]
 congr 1
 by_cases c1:1048576 < xp a E
 ·rw[if_pos c1,if_pos rfl,df (show ¬xp a E<=1048576 by omega),Bool.false_and,if_neg (by decide),if_pos c1]
  omega
 ·rw[if_neg c1,if_neg c1,dt (show xp a E<=1048576 by omega),Bool.true_and]
  by_cases c2:xp a E < -1048576
  ·rw[if_pos c2,if_pos rfl,df (show ¬ -1048576<=xp a E by omega),if_neg (by decide),if_pos c2]
   rfl
  ·rw[if_neg c2,dt (show -1048576<=xp a E by omega),if_pos rfl,if_neg c2]
theorem AW{a:Nat}{E:Int}(hl:64 < ae a):hi a E=lo a E+1:=by
 have b:a≠0:=fun e=>by rw[e]at hl;exact absurd hl (by decide)
 have e0:(a==0)=false:=by simpa using b
 have:ext a E=false:=by
  unfold ext
  rw[e0,df (show ¬ae a<=64 by omega)]
  simp
 unfold hi
 rw[this,if_neg (by decide)]
theorem Hp{a:Nat}{E:Int}(s:Bool)(hl:64 < ae a)(ht:tp a+1 < 2^64):fin s ((tp a+1:Nat):Int) (xp a E) true=aj s (hi a E):=by
 have:=dq
 have b:a≠0:=fun e=>by rw[e]at hl;exact absurd hl (by decide)
 rw[AW hl]
 unfold fin lo
 rw[if_neg b]
 congr 1
 by_cases c1:1048576 < xp a E
 ·rw[if_pos c1,if_pos c1,if_pos rfl]
  omega
 ·rw[if_neg c1,if_neg c1]
  by_cases c2:xp a E < -1048576
  ·rw[if_pos c2,if_pos c2,if_pos rfl]
   rfl
  ·rw[if_neg c2,if_neg c2]
   omega
theorem xE{a:Nat}{E:Int}(s:Bool)(hl:64 < ae a)(ht:tp a+1=2^64):fin s 9223372036854775808 (xp a E+1) true=aj s (hi a E):=by
 have:=dq
 have b:a≠0:=fun e=>by rw[e]at hl;exact absurd hl (by decide)
 rw[AW hl]
 unfold fin lo
 rw[if_neg b]
 congr 1
 by_cases c1:1048576 < xp a E
 ·rw[if_pos (show 1048576 < xp a E+1 by omega),if_pos c1,if_pos rfl]
  omega
 ·rw[if_neg c1]
  by_cases c3:1048576 < xp a E+1
  ·rw[if_pos c3,if_pos rfl,if_neg (show ¬xp a E < -1048576 by omega)]
   omega
  ·rw[if_neg c3]
   by_cases c2:xp a E < -1048576
   ·rw[if_pos c2]
    by_cases c4:xp a E+1 < -1048576
    ·rw[if_pos c4,if_pos rfl]
     rfl
    ·rw[if_neg c4]
     omega
   ·rw[if_neg c2,if_neg (by omega)]
    omega
theorem tK{a:Nat}(h:64 < ae a):a/2^((ae a:Int)-64).toNat=tp a:=by
 rw[tJ (by omega),show ((ae a:Int)-64).toNat=ae a-64 by omega]
theorem DG{a:Nat}(h:ae a<=64):a*2^(64-(ae a:Int)).toNat=tp a:=by
 rw[fE h,show (64-(ae a:Int)).toNat=64-ae a by omega]
theorem rS{w:World}{A:Option Addr}{n c a:Nat}{s sg0 up:Bool}{z e N E:Int}(h:Wr w s A n c z)(hn:n<=100000)(hN:(mk z e).1=N)(hE:(mk z e).2=E)(ha:N.natAbs=a)(hs:decide (N < 0)=sg0)(h0:a=0):
  Calls prog 131 #[.agg #[.bool s,.slice A n c,.int .i64 e],.bool up] w (PN w 0):=by
 obtain⟨D,F⟩:=f9 z e;rw[hE]at D F;have v:=ie hN;have u:=ie hE;have t:=ie ha;have x:=ie hs;clear hN hE ha hs;subst h0
 go_enter func131,ntmps131
 go_upto_region 1 with fail
 generalize g:(w.alloc _).alloc _=w1 at *;obtain⟨y,d,f⟩:=Bo.en2 g;replace h:=h.below f.out;clear g;have m:=y.cell
 go_wp2_with fail
 refine(bT h hn v.out u.out).mono ?_;rintro H G ⟨s1,A1,n1,c1,rfl,j,I,B⟩;clear m;replace d:=d.b B;replace f:=ak f B;clear B
 go_upto_region 2 with fail
 have l:=d.lt;generalize i:G.alloc _=J at *;obtain⟨C,q⟩:=Bo.nw i;clear i;refine aF ?_ d j f q;clear d j f q;intro d j f
 have hz:n1=0:=by have:=j.1.pos;have:=t.out;omega
 subst hz;clear j;have p:=d.cell;have k:=d.frozen;have o:=C.cell;go_wp2;clear p k o;have r:=ac.t4 d 0 false 0 0;exact bq (by simp[results,results131,go_sem,r.box.cell]) rfl ⟨_,_,_,_,rfl,Fq.nought,(r.below f.out (by omega))⟩
theorem zl{w:World}{A:Option Addr}{n c a:Nat}{s sg0:Bool}{z e N E L x r:Int}(h:Wr w s A n c z)(hn:n<=100000)(hN:(mk z e).1=N)(hE:(mk z e).2=E)(ha:N.natAbs=a)(hs:decide (N < 0)=sg0)(h0:a≠0)(hL:((ae a:Nat):Int)=L)(hl:L<=64)(hx:E+L-64=x)(hb:L<=3200000)(hr:fin sg0 (tp a) x false=r):
  Calls prog 131 #[.agg #[.bool s,.slice A n c,.int .i64 e],.bool sg0] w (PN w r):=by
 obtain⟨b1,b2⟩:=f9 z e;rw[hE]at b1 b2;have HN:=ie hN;have HE:=ie hE;have HA:=ie ha;have p:=ie hs;have HL:=ie hL
 have O:ae a≠0:=fun e=>h0 (aL.1 e)
 have g1:=je h0;have g2:=gj a;have F:=iw (E+L)
 have G:Hid (IntKind.i64.wrap (E+L-64)=x):=ie (by rw[hx];exact IntWalk.i64_in _ (by omega))
 obtain⟨T,I⟩:∃T,((tp a:Nat):Int)=T:=⟨_,rfl⟩;rw[I]at hr;have HT:=ie I;have HR:=ie hr;obtain⟨v,y⟩:∃v,64-L=v:=⟨_,rfl⟩
 have HV:Hid (IntKind.i64.wrap (64-L)=v):=ie (by rw[y];exact IntWalk.i64_in _ (by omega))
 have D:Hid (a*2^v.toNat=tp a):=ie (by rw[<-y,<-hL];exact DG (by omega))
 have P:0<=v:=by omega
 have bH:v<=64:=by omega
 have J:9223372036854775808<=T:=by omega
 have M:T < 18446744073709551616:=by omega
 have C:=ie g2;clear hN hE ha hs hL hx hr I y g1 g2 O
 go_enter func131,ntmps131
 go_upto_region 1 with fail
 generalize q:(w.alloc _).alloc _=w1 at *;obtain⟨X1,g,i⟩:=Bo.en2 q;replace h:=h.below i.out;clear q;have S:=X1.cell
 go_wp2_with fail
 refine(bT h hn HN.out HE.out).mono ?_;rintro H o ⟨s1,A1,n1,c1,rfl,m,k1,B⟩;clear S;refine aF ?_ g h i B;clear g h i B;intro g h i
 go_upto_region 2 with fail
 have Q:=g.lt;generalize t:o.alloc _=w3 at *;obtain⟨k,V⟩:=Bo.nw t;clear t;refine aF ?_ g m i V;clear g m i V;intro g m i
 obtain rfl:s1=sg0:=m.2.trans p.out
 have p2:Nm w3 A1 n1 c1 a:=HA.out▸m.1
 have bC:=p2.rd.blen_le
 have bD:n1<=100000:=by omega
 have X:0 < n1:=p2.pos.2 (by omega)
 clear m p
 have e0:((n1:Int)==0)=false:=by
  have:(n1:Int)≠0:=by omega
  simpa using this
 have bB:n1<=1099511627776:=by omega
 have f1:(s1 !=s1)=false:=by cases s1 <;> rfl
 have f2:(!s1 !=s1)=true:=by cases s1 <;> rfl
 have f3:(s1==s1)=true:=by cases s1 <;> rfl
 have f4:((!s1)==s1)=false:=by cases s1 <;> rfl
 have l:=k.cell
 go_wp2_with fail
 refine(nQ p2.rd HL.out).mono ?_;rintro H w4 ⟨rfl,B⟩;clear l;refine aR ?_ g k p2 i B;clear g k p2 i B;intro g k p2 i;have l:=k.cell
 go_upto_region 7 with fail
 clear l;refine bF [0,1,2,3,4,5,6,7,8,9,10,11,12,13,14,15,16] [33,34,35,36,37,38,39,40,41,42,43,44,45,46,47,48,49,0] [[],[0],[1],[],[3],[4],[],[6],[5,7],[8],[],[10],[],[11,12],[13],[],[2,9,14,15],[]] 18 1 [Jo.qp o.heap.size 0,Jo.qp o.heap.size 0,Jo.qb s1,Jo.qp o.heap.size 0,Jo.qp o.heap.size 1,Jo.Fact.eq (.slice A1 n1 c1),Jo.qi L,Jo.qi v,Jo.Fact.nm (tp a) 100100,Jo.Fact.eq (.int .u64 T),Jo.qp o.heap.size 2,Jo.qi E,Jo.qi L,Jo.Fact.eq (.int .i64 (E+L)),Jo.qi x,Jo.qb false,Jo.Fact.num r,Jo.Fact.any] ?_ ?_
 ·iterate 2 (refine jm ?_ ?_;rotate_left)
  refine jm ?_ ?_
  ·rintro j f _ rfl K d;have Y:=(k.b f).a 0 (.bool s1) rfl;go_simp;exact d.out _ _ rfl (br _ _)
  iterate 2 (refine jm ?_ ?_;rotate_left)
  refine jm ?_ ?_
  ·rintro j f _ rfl K d;have Z:=(k.b f).a 1 (.slice A1 n1 c1) rfl;go_simp;exact d.out _ _ rfl (br _ _)
  refine jm ?_ ?_;rotate_left
  refine jm ?_ ?_
  ·rintro j f _ rfl K d;have y:=HV.out;go_simp;exact d.out _ _ rfl (br _ _)
  refine jm ?_ ?_
  ·rintro j f _ rfl _ rfl K d;go_simp;refine(jL (p2.b f).rd (by omega) P (by omega) D.out).mono ?_;rintro H wk ⟨A3,n3,c3,rfl,R,k3,B⟩;exact d.out _ _ ⟨A3,n3,c3,rfl,R,by omega⟩ B
  refine jm ?_ ?_
  ·rintro j f _ ⟨A3,n3,c3,rfl,R,k3⟩ K d;go_simp;refine(rR R C.out HT.out).mono ?_;rintro H wk ⟨rfl,B⟩;exact d.out _ _ rfl B
  refine jm ?_ ?_;rotate_left
  refine jm ?_ ?_
  ·rintro j f _ rfl K d;have bA:=(k.b f).a 2 (.int .i64 E) rfl;go_simp;exact d.out _ _ rfl (br _ _)
  refine jm ?_ ?_;rotate_left
  refine jm ?_ ?_
  ·rintro j f _ rfl _ rfl K d;have bN:=F.out;go_simp;exact d.out _ _ rfl (br _ _)
  refine jm ?_ ?_
  ·rintro j f _ rfl K d;have fH:=G.out;go_simp;exact d.out _ _ rfl (br _ _)
  refine jm ?_ ?_;rotate_left
  refine jm ?_ ?_
  ·rintro j f _ rfl _ rfl _ rfl _ rfl K d;go_simp;exact Jo.n1 (DY J M HR.out) d.out
  exact jo
  all_goals (rintro j f;(repeat rintro _ rfl);intro K d;go_simp;exact d.out _ _ rfl (br _ _))
 rintro w5 f _ _ _ _ _ rfl _ _ _ _ _ rfl _ rfl _ rfl _ ⟨A3,n3,c3,rfl,_,_⟩ _ rfl _ _ _ rfl _ rfl _ rfl _ rfl _ rfl _ ⟨K4,s4,M4,E4,rfl,q4⟩ -;simp only[Jo.z];replace g:=g.b f;replace i:=ak i f;have U:=g.cell;have u:=g.frozen
 refine jn 17 fun K d=>?_
 go_simp;refine d.out _ _ ?_;clear d K U u;have W:=ac.t4 g K4 s4 M4 E4;refine jd ?_;go_wp2;exact bq (by simp[results,results131,go_sem,W.box.cell]) rfl ⟨_,_,_,_,rfl,q4,(W.below i.out (by omega))⟩
theorem zj{w:World}{A:Option Addr}{n c a:Nat}{s sg0:Bool}{z e N E L x r:Int}(h:Wr w s A n c z)(hn:n<=100000)(hN:(mk z e).1=N)(hE:(mk z e).2=E)(ha:N.natAbs=a)(hs:decide (N < 0)=sg0)(h0:a≠0)(hL:((ae a:Nat):Int)=L)(hl:L<=64)(hx:E+L-64=x)(hb:L<=3200000)(hr:fin sg0 (tp a) x true=r):
  Calls prog 131 #[.agg #[.bool s,.slice A n c,.int .i64 e],.bool (!sg0)] w (PN w r):=by
 obtain⟨b1,b2⟩:=f9 z e;rw[hE]at b1 b2;have HN:=ie hN;have HE:=ie hE;have HA:=ie ha;have p:=ie hs;have HL:=ie hL
 have O:ae a≠0:=fun e=>h0 (aL.1 e)
 have g1:=je h0;have g2:=gj a;have F:=iw (E+L)
 have G:Hid (IntKind.i64.wrap (E+L-64)=x):=ie (by rw[hx];exact IntWalk.i64_in _ (by omega))
 obtain⟨T,I⟩:∃T,((tp a:Nat):Int)=T:=⟨_,rfl⟩;rw[I]at hr;have HT:=ie I;have HR:=ie hr;obtain⟨v,y⟩:∃v,64-L=v:=⟨_,rfl⟩
 have HV:Hid (IntKind.i64.wrap (64-L)=v):=ie (by rw[y];exact IntWalk.i64_in _ (by omega))
 have D:Hid (a*2^v.toNat=tp a):=ie (by rw[<-y,<-hL];exact DG (by omega))
 have P:0<=v:=by omega
 have bH:v<=64:=by omega
 have J:9223372036854775808<=T:=by omega
 have M:T < 18446744073709551616:=by omega
 have C:=ie g2;clear hN hE ha hs hL hx hr I y g1 g2 O
 go_enter func131,ntmps131
 go_upto_region 1 with fail
 generalize q:(w.alloc _).alloc _=w1 at *;obtain⟨X1,g,i⟩:=Bo.en2 q;replace h:=h.below i.out;clear q;have S:=X1.cell
 go_wp2_with fail
 refine(bT h hn HN.out HE.out).mono ?_;rintro H o ⟨s1,A1,n1,c1,rfl,m,k1,B⟩;clear S;refine aF ?_ g h i B;clear g h i B;intro g h i
 go_upto_region 2 with fail
 have Q:=g.lt;generalize t:o.alloc _=w3 at *;obtain⟨k,V⟩:=Bo.nw t;clear t;refine aF ?_ g m i V;clear g m i V;intro g m i
 obtain rfl:s1=sg0:=m.2.trans p.out
 have p2:Nm w3 A1 n1 c1 a:=HA.out▸m.1
 have bC:=p2.rd.blen_le
 have bD:n1<=100000:=by omega
 have X:0 < n1:=p2.pos.2 (by omega)
 clear m p
 have e0:((n1:Int)==0)=false:=by
  have:(n1:Int)≠0:=by omega
  simpa using this
 have bB:n1<=1099511627776:=by omega
 have f1:(s1 !=s1)=false:=by cases s1 <;> rfl
 have f2:(!s1 !=s1)=true:=by cases s1 <;> rfl
 have f3:(s1==s1)=true:=by cases s1 <;> rfl
 have f4:((!s1)==s1)=false:=by cases s1 <;> rfl
 have l:=k.cell
 go_wp2_with fail
 refine(nQ p2.rd HL.out).mono ?_;rintro H w4 ⟨rfl,B⟩;clear l;refine aR ?_ g k p2 i B;clear g k p2 i B;intro g k p2 i;have l:=k.cell
 go_upto_region 7 with fail
 clear l;refine bF [0,1,2,3,4,5,6,7,8,9,10,11,12,13,14,15,16] [33,34,35,36,37,38,39,40,41,42,43,44,45,46,47,48,49,0] [[],[0],[1],[],[3],[4],[],[6],[5,7],[8],[],[10],[],[11,12],[13],[],[2,9,14,15],[]] 18 1 [Jo.qp o.heap.size 0,Jo.qp o.heap.size 0,Jo.qb s1,Jo.qp o.heap.size 0,Jo.qp o.heap.size 1,Jo.Fact.eq (.slice A1 n1 c1),Jo.qi L,Jo.qi v,Jo.Fact.nm (tp a) 100100,Jo.Fact.eq (.int .u64 T),Jo.qp o.heap.size 2,Jo.qi E,Jo.qi L,Jo.Fact.eq (.int .i64 (E+L)),Jo.qi x,Jo.qb true,Jo.Fact.num r,Jo.Fact.any] ?_ ?_
 ·iterate 2 (refine jm ?_ ?_;rotate_left)
  refine jm ?_ ?_
  ·rintro j f _ rfl K d;have Y:=(k.b f).a 0 (.bool s1) rfl;go_simp;exact d.out _ _ rfl (br _ _)
  iterate 2 (refine jm ?_ ?_;rotate_left)
  refine jm ?_ ?_
  ·rintro j f _ rfl K d;have Z:=(k.b f).a 1 (.slice A1 n1 c1) rfl;go_simp;exact d.out _ _ rfl (br _ _)
  refine jm ?_ ?_;rotate_left
  refine jm ?_ ?_
  ·rintro j f _ rfl K d;have y:=HV.out;go_simp;exact d.out _ _ rfl (br _ _)
  refine jm ?_ ?_
  ·rintro j f _ rfl _ rfl K d;go_simp;refine(jL (p2.b f).rd (by omega) P (by omega) D.out).mono ?_;rintro H wk ⟨A3,n3,c3,rfl,R,k3,B⟩;exact d.out _ _ ⟨A3,n3,c3,rfl,R,by omega⟩ B
  refine jm ?_ ?_
  ·rintro j f _ ⟨A3,n3,c3,rfl,R,k3⟩ K d;go_simp;refine(rR R C.out HT.out).mono ?_;rintro H wk ⟨rfl,B⟩;exact d.out _ _ rfl B
  refine jm ?_ ?_;rotate_left
  refine jm ?_ ?_
  ·rintro j f _ rfl K d;have bA:=(k.b f).a 2 (.int .i64 E) rfl;go_simp;exact d.out _ _ rfl (br _ _)
  refine jm ?_ ?_;rotate_left
  refine jm ?_ ?_
  ·rintro j f _ rfl _ rfl K d;have bN:=F.out;go_simp;exact d.out _ _ rfl (br _ _)
  refine jm ?_ ?_
  ·rintro j f _ rfl K d;have fH:=G.out;go_simp;exact d.out _ _ rfl (br _ _)
  refine jm ?_ ?_;rotate_left
  refine jm ?_ ?_
  ·rintro j f _ rfl _ rfl _ rfl _ rfl K d;go_simp;exact Jo.n1 (DY J M HR.out) d.out
  exact jo
  all_goals (rintro j f;(repeat rintro _ rfl);intro K d;go_simp;exact d.out _ _ rfl (br _ _))
 rintro w5 f _ _ _ _ _ rfl _ _ _ _ _ rfl _ rfl _ rfl _ ⟨A3,n3,c3,rfl,_,_⟩ _ rfl _ _ _ rfl _ rfl _ rfl _ rfl _ rfl _ ⟨K4,s4,M4,E4,rfl,q4⟩ -;simp only[Jo.z];replace g:=g.b f;replace i:=ak i f;have U:=g.cell;have u:=g.frozen
 refine jn 17 fun K d=>?_
 go_simp;refine d.out _ _ ?_;clear d K U u;have W:=ac.t4 g K4 s4 M4 E4;refine jd ?_;go_wp2;exact bq (by simp[results,results131,go_sem,W.box.cell]) rfl ⟨_,_,_,_,rfl,q4,(W.below i.out (by omega))⟩
theorem zi{w:World}{A:Option Addr}{n c a:Nat}{s sg0:Bool}{z e N E L x r:Int}(h:Wr w s A n c z)(hn:n<=100000)(hN:(mk z e).1=N)(hE:(mk z e).2=E)(ha:N.natAbs=a)(hs:decide (N < 0)=sg0)(h0:a≠0)(hL:((ae a:Nat):Int)=L)(hl:64 < L)(hx:E+L-64=x)(hb:L<=3200000)(hr:fin sg0 (tp a) x false=r):
  Calls prog 131 #[.agg #[.bool s,.slice A n c,.int .i64 e],.bool sg0] w (PN w r):=by
 obtain⟨b1,b2⟩:=f9 z e;rw[hE]at b1 b2;have HN:=ie hN;have HE:=ie hE;have HA:=ie ha;have m:=ie hs;have HL:=ie hL
 have J:ae a≠0:=fun e=>h0 (aL.1 e)
 have g1:=je h0;have g2:=gj a;have C:=iw (E+L)
 have D:Hid (IntKind.i64.wrap (E+L-64)=x):=ie (by rw[hx];exact IntWalk.i64_in _ (by omega))
 obtain⟨v,q⟩:∃v,L-64=v:=⟨_,rfl⟩
 have HV:Hid (IntKind.i64.wrap (L-64)=v):=ie (by rw[q];exact IntWalk.i64_in _ (by omega))
 have y:Hid (a/2^v.toNat=tp a):=ie (by rw[<-q,<-hL];exact tK (by omega))
 obtain⟨T,G⟩:∃T,((tp a:Nat):Int)=T:=⟨_,rfl⟩;rw[G]at hr;have HT:=ie G;have HR:=ie hr
 have H:9223372036854775808<=T:=by omega
 have I:T < 18446744073709551616:=by omega
 have u:=ie g2;clear hN hE ha hs hL hx hr G q g1 g2 J
 go_enter func131,ntmps131
 go_upto_region 1 with fail
 generalize o:(w.alloc _).alloc _=w1 at *;obtain⟨X1,d,f⟩:=Bo.en2 o;replace h:=h.below f.out;clear o;have S:=X1.cell
 go_wp2_with fail
 refine(bT h hn HN.out HE.out).mono ?_;rintro F Q ⟨s1,A1,n1,c1,rfl,l,k1,B⟩;clear S;refine aF ?_ d h f B;clear d h f B;intro d h f
 go_upto_region 2 with fail
 have P:=d.lt;generalize p:Q.alloc _=w3 at *;obtain⟨j,V⟩:=Bo.nw p;clear p;refine aF ?_ d l f V;clear d l f V;intro d l f
 obtain rfl:s1=sg0:=l.2.trans m.out
 have p2:Nm w3 A1 n1 c1 a:=HA.out▸l.1
 have bB:=p2.rd.blen_le
 have bC:n1<=100000:=by omega
 have X:0 < n1:=p2.pos.2 (by omega)
 clear l m
 have e0:((n1:Int)==0)=false:=by
  have:(n1:Int)≠0:=by omega
  simpa using this
 have bA:n1<=1099511627776:=by omega
 have f1:(s1 !=s1)=false:=by cases s1 <;> rfl
 have f2:(!s1 !=s1)=true:=by cases s1 <;> rfl
 have f3:(s1==s1)=true:=by cases s1 <;> rfl
 have f4:((!s1)==s1)=false:=by cases s1 <;> rfl
 have g:=j.cell
 go_wp2_with fail
 refine(nQ p2.rd HL.out).mono ?_;rintro F w4 ⟨rfl,B⟩;clear g;refine aR ?_ d j p2 f B;clear d j p2 f B;intro d j p2 f;have g:=j.cell;have q:=HV.out
 go_wp2_with fail
 refine(rr v p2.rd (by omega)).mono ?_;rintro F w5 ⟨A3,n3,c3,rfl,Y,k3,B⟩;clear g;replace d:=d.b B;replace j:=j.b B;replace f:=ak f B;clear B q;rw[y.out]at Y;have g:=j.cell;have M:=C.out;have O:=D.out
 go_upto_region 15 with fail
 clear M O;clear g;have p9:=Y;refine bF [0,1,2,3,4,5,6,7] [72,73,74,75,76,77,78,79,0] [[],[0],[1],[],[3],[],[],[2,4,5,6],[]] 9 1 [Jo.qp Q.heap.size 0,Jo.qp Q.heap.size 0,Jo.qb s1,Jo.Fact.eq (.slice A3 n3 c3),Jo.Fact.eq (.int .u64 T),Jo.qi x,Jo.qb false,Jo.Fact.num r,Jo.Fact.any] ?_ ?_
 ·iterate 2 (refine jm ?_ ?_;rotate_left)
  refine jm ?_ ?_
  ·rintro R k _ rfl K i;have Z:=(j.b k).a 0 (.bool s1) rfl;go_simp;exact i.out _ _ rfl (br _ _)
  refine jm ?_ ?_;rotate_left
  refine jm ?_ ?_
  ·rintro R k _ rfl K i;go_simp;refine(rR (p9.b k) u.out HT.out).mono ?_;rintro F wk ⟨rfl,B⟩;exact i.out _ _ rfl B
  iterate 2 (refine jm ?_ ?_;rotate_left)
  refine jm ?_ ?_
  ·rintro R k _ rfl _ rfl _ rfl _ rfl K i;go_simp;exact Jo.n1 (DY H I HR.out) i.out
  exact jo
  all_goals (rintro R k;(repeat rintro _ rfl);intro K i;go_simp;exact i.out _ _ rfl (br _ _))
 rintro w8 k _ _ _ _ _ rfl _ rfl _ rfl _ rfl _ rfl _ ⟨K4,s4,M4,E4,rfl,q4⟩ -;simp only[Jo.z];replace d:=d.b k;replace f:=ak f k;have U:=d.cell;have t:=d.frozen
 refine jn 8 fun K i=>?_
 go_simp;refine i.out _ _ ?_;clear i K U t;have W:=ac.t4 d K4 s4 M4 E4;refine jd ?_;go_wp2;exact bq (by simp[results,results131,go_sem,W.box.cell]) rfl ⟨_,_,_,_,rfl,q4,(W.below f.out (by omega))⟩
theorem zh{w:World}{A:Option Addr}{n c a:Nat}{s sg0:Bool}{z e N E L x r:Int}(h:Wr w s A n c z)(hn:n<=100000)(hN:(mk z e).1=N)(hE:(mk z e).2=E)(ha:N.natAbs=a)(hs:decide (N < 0)=sg0)(h0:a≠0)(hL:((ae a:Nat):Int)=L)(hl:64 < L)(hx:E+L-64=x)(hb:L<=3200000)(hc:tp a+1 < 2^64)(hr:fin sg0 ((tp a+1:Nat):Int) x true=r):
  Calls prog 131 #[.agg #[.bool s,.slice A n c,.int .i64 e],.bool (!sg0)] w (PN w r):=by
 obtain⟨b1,b2⟩:=f9 z e;rw[hE]at b1 b2;have HN:=ie hN;have HE:=ie hE;have HA:=ie ha;have m:=ie hs;have HL:=ie hL
 have P:ae a≠0:=fun e=>h0 (aL.1 e)
 have g1:=je h0;have g2:=gj a;have G:=iw (E+L)
 have H:Hid (IntKind.i64.wrap (E+L-64)=x):=ie (by rw[hx];exact IntWalk.i64_in _ (by omega))
 obtain⟨v,t⟩:∃v,L-64=v:=⟨_,rfl⟩
 have HV:Hid (IntKind.i64.wrap (L-64)=v):=ie (by rw[t];exact IntWalk.i64_in _ (by omega))
 have F:Hid (a/2^v.toNat=tp a):=ie (by rw[<-t,<-hL];exact tK (by omega))
 obtain⟨U,O⟩:∃U,tp a+1=U:=⟨_,rfl⟩;have HU:=ie O;rw[O]at hr hc;obtain⟨T,I⟩:∃T,((U:Nat):Int)=T:=⟨_,rfl⟩;rw[I]at hr;have HT:=ie I;have HR:=ie hr
 have J:9223372036854775808<=T:=by omega
 have M:T < 18446744073709551616:=by omega
 have C:=ie hc;obtain⟨ℓ,hℓ⟩:∃ℓ,((ae U:Nat):Int)=ℓ:=⟨_,rfl⟩
 have fH:ℓ<=64:=by
  have:=ai hc
  omega
 have D:=ie hℓ;clear hN hE ha hs hL hx hr I t g1 g2 P hc O hℓ
 go_enter func131,ntmps131
 go_upto_region 1 with fail
 generalize p:(w.alloc _).alloc _=w1 at *;obtain⟨X1,d,f⟩:=Bo.en2 p;replace h:=h.below f.out;clear p;have X:=X1.cell
 go_wp2_with fail
 refine(bT h hn HN.out HE.out).mono ?_;rintro o V ⟨s1,A1,n1,c1,rfl,l,k1,B⟩;clear X;refine aF ?_ d h f B;clear d h f B;intro d h f
 go_upto_region 2 with fail
 have S:=d.lt;generalize q:V.alloc _=w3 at *;obtain⟨g,Z⟩:=Bo.nw q;clear q;refine aF ?_ d l f Z;clear d l f Z;intro d l f
 obtain rfl:s1=sg0:=l.2.trans m.out
 have p2:Nm w3 A1 n1 c1 a:=HA.out▸l.1
 have bD:=p2.rd.blen_le
 have bH:n1<=100000:=by omega
 have bA:0 < n1:=p2.pos.2 (by omega)
 clear l m
 have e0:((n1:Int)==0)=false:=by
  have:(n1:Int)≠0:=by omega
  simpa using this
 have bC:n1<=1099511627776:=by omega
 have f1:(s1 !=s1)=false:=by cases s1 <;> rfl
 have f2:(!s1 !=s1)=true:=by cases s1 <;> rfl
 have f3:(s1==s1)=true:=by cases s1 <;> rfl
 have f4:((!s1)==s1)=false:=by cases s1 <;> rfl
 have i:=g.cell
 go_wp2_with fail
 refine(nQ p2.rd HL.out).mono ?_;rintro o w4 ⟨rfl,B⟩;clear i;refine aR ?_ d g p2 f B;clear d g p2 f B;intro d g p2 f;have i:=g.cell;have t:=HV.out
 go_wp2_with fail
 refine(rr v p2.rd (by omega)).mono ?_;rintro o w5 ⟨A3,n3,c3,rfl,p3,k3,B⟩;clear i;replace d:=d.b B;replace g:=g.b B;replace f:=ak f B;clear B t;rw[F.out]at p3;have i:=g.cell;have Q:=G.out;have R:=H.out
 go_wp2_with fail
 clear Q R;refine(kx (p3.rd.below (af _ _)) (jW _) (by omega) (by omega) HU.out).mono ?_;rintro o w6 ⟨A4,n4,c4,rfl,u,k4,B⟩;replace B:=bt (af _ _) B;clear i;refine aF ?_ d g f B;clear d g f B;intro d g f
 have bN:n3<=100000:=by omega
 go_wp2_with fail
 refine(nQ u.rd D.out).mono ?_;rintro o w7 ⟨rfl,B⟩;refine aR ?_ d g u f B;clear d g u f B;intro d g u f
 go_upto_region 15 with fail
 have p9:=u;refine bF [0,1,2,3,4,5,6,7] [72,73,74,75,76,77,78,79,0] [[],[0],[1],[],[3],[],[],[2,4,5,6],[]] 9 1 [Jo.qp V.heap.size 0,Jo.qp V.heap.size 0,Jo.qb s1,Jo.Fact.eq (.slice A4 n4 c4),Jo.Fact.eq (.int .u64 T),Jo.qi x,Jo.qb true,Jo.Fact.num r,Jo.Fact.any] ?_ ?_
 ·iterate 2 (refine jm ?_ ?_;rotate_left)
  refine jm ?_ ?_
  ·rintro W k _ rfl K j;have bB:=(g.b k).a 0 (.bool s1) rfl;go_simp;exact j.out _ _ rfl (br _ _)
  refine jm ?_ ?_;rotate_left
  refine jm ?_ ?_
  ·rintro W k _ rfl K j;go_simp;refine(rR (p9.b k) C.out HT.out).mono ?_;rintro o wk ⟨rfl,B⟩;exact j.out _ _ rfl B
  iterate 2 (refine jm ?_ ?_;rotate_left)
  refine jm ?_ ?_
  ·rintro W k _ rfl _ rfl _ rfl _ rfl K j;go_simp;exact Jo.n1 (DY J M HR.out) j.out
  exact jo
  all_goals (rintro W k;(repeat rintro _ rfl);intro K j;go_simp;exact j.out _ _ rfl (br _ _))
 rintro w8 k _ _ _ _ _ rfl _ rfl _ rfl _ rfl _ rfl _ ⟨K4,s4,M4,E4,rfl,q4⟩ -;simp only[Jo.z];replace d:=d.b k;replace f:=ak f k;have Y:=d.cell;have y:=d.frozen
 refine jn 8 fun K j=>?_
 go_simp;refine j.out _ _ ?_;clear j K Y y;have SX:=ac.t4 d K4 s4 M4 E4;refine jd ?_;go_wp2;exact bq (by simp[results,results131,go_sem,SX.box.cell]) rfl ⟨_,_,_,_,rfl,q4,(SX.below f.out (by omega))⟩
theorem zg{w:World}{A:Option Addr}{n c a:Nat}{s sg0:Bool}{z e N E L x r:Int}(h:Wr w s A n c z)(hn:n<=100000)(hN:(mk z e).1=N)(hE:(mk z e).2=E)(ha:N.natAbs=a)(hs:decide (N < 0)=sg0)(h0:a≠0)(hL:((ae a:Nat):Int)=L)(hl:64 < L)(hx:E+L-64=x)(hb:L<=3200000)(hc:tp a+1=2^64)(hr:fin sg0 9223372036854775808 (x+1) true=r):
  Calls prog 131 #[.agg #[.bool s,.slice A n c,.int .i64 e],.bool (!sg0)] w (PN w r):=by
 obtain⟨b1,b2⟩:=f9 z e;rw[hE]at b1 b2;have HN:=ie hN;have HE:=ie hE;have HA:=ie ha;have o:=ie hs;have HL:=ie hL
 have R:ae a≠0:=fun e=>h0 (aL.1 e)
 have g1:=je h0;have g2:=gj a;have J:=iw (E+L)
 have M:Hid (IntKind.i64.wrap (E+L-64)=x):=ie (by rw[hx];exact IntWalk.i64_in _ (by omega))
 obtain⟨v,u⟩:∃v,L-64=v:=⟨_,rfl⟩
 have HV:Hid (IntKind.i64.wrap (L-64)=v):=ie (by rw[u];exact IntWalk.i64_in _ (by omega))
 have H:Hid (a/2^v.toNat=tp a):=ie (by rw[<-u,<-hL];exact tK (by omega))
 obtain⟨U,Q⟩:∃U,tp a+1=U:=⟨_,rfl⟩;have HU:=ie Q;rw[Q]at hc;have HR:=ie hr
 have O:(9223372036854775808:Int)<=9223372036854775808:=by decide
 have P:(9223372036854775808:Int) < 18446744073709551616:=by decide
 have t:U=18446744073709551616:=hc
 have F:Hid (9223372036854775808 < 18446744073709551616):=ie (by decide)
 have I:=iw (x+1)
 have G:Hid (((ae U:Nat):Int)=65):=ie (by rw[hc,z5];rfl)
 have D:Hid (U/2^(1:Int).toNat=9223372036854775808):=ie (by rw[t];decide)
 clear hN hE ha hs hL hx hr u g1 g2 R hc Q t
 go_enter func131,ntmps131
 go_upto_region 1 with fail
 generalize p:(w.alloc _).alloc _=w1 at *;obtain⟨X1,d,f⟩:=Bo.en2 p;replace h:=h.below f.out;clear p;have Z:=X1.cell
 go_wp2_with fail
 refine(bT h hn HN.out HE.out).mono ?_;rintro l X ⟨s1,A1,n1,c1,rfl,m,k1,B⟩;clear Z;refine aF ?_ d h f B;clear d h f B;intro d h f
 go_upto_region 2 with fail
 have W:=d.lt;generalize q:X.alloc _=w3 at *;obtain⟨g,BW⟩:=Bo.nw q;clear q;refine aF ?_ d m f BW;clear d m f BW;intro d m f
 obtain rfl:s1=sg0:=m.2.trans o.out
 have p2:Nm w3 A1 n1 c1 a:=HA.out▸m.1
 have bH:=p2.rd.blen_le
 have bN:n1<=100000:=by omega
 have bB:0 < n1:=p2.pos.2 (by omega)
 clear m o
 have e0:((n1:Int)==0)=false:=by
  have:(n1:Int)≠0:=by omega
  simpa using this
 have bD:n1<=1099511627776:=by omega
 have f1:(s1 !=s1)=false:=by cases s1 <;> rfl
 have f2:(!s1 !=s1)=true:=by cases s1 <;> rfl
 have f3:(s1==s1)=true:=by cases s1 <;> rfl
 have f4:((!s1)==s1)=false:=by cases s1 <;> rfl
 have i:=g.cell
 go_wp2_with fail
 refine(nQ p2.rd HL.out).mono ?_;rintro l w4 ⟨rfl,B⟩;clear i;refine aR ?_ d g p2 f B;clear d g p2 f B;intro d g p2 f;have i:=g.cell;have u:=HV.out
 go_wp2_with fail
 refine(rr v p2.rd (by omega)).mono ?_;rintro l w5 ⟨A3,n3,c3,rfl,p3,k3,B⟩;clear i;replace d:=d.b B;replace g:=g.b B;replace f:=ak f B;clear B u;rw[H.out]at p3;have i:=g.cell;have T:=J.out;have V:=M.out
 go_wp2_with fail
 clear T V;refine(kx (p3.rd.below (af _ _)) (jW _) (by omega) (by omega) HU.out).mono ?_;rintro l w6 ⟨A4,n4,c4,rfl,y,k4,B⟩;replace B:=bt (af _ _) B;clear i;refine aF ?_ d g f B;clear d g f B;intro d g f
 have fH:n3<=100000:=by omega
 go_wp2_with fail
 refine(nQ y.rd G.out).mono ?_;rintro l w7 ⟨rfl,B⟩;refine aR ?_ d g y f B;clear d g y f B;intro d g y f
 go_wp2_with fail
 refine(rr 1 y.rd (by omega)).mono ?_;rintro l fP ⟨A5,n5,c5,rfl,p5,k5,B⟩;refine aF ?_ d g f B;clear d g f B;intro d g f;rw[D.out]at p5;have S:=I.out
 go_upto_region 15 with fail
 clear S;have p9:=p5;refine bF [0,1,2,3,4,5,6,7] [72,73,74,75,76,77,78,79,0] [[],[0],[1],[],[3],[],[],[2,4,5,6],[]] 9 1 [Jo.qp X.heap.size 0,Jo.qp X.heap.size 0,Jo.qb s1,Jo.Fact.eq (.slice A5 n5 c5),Jo.Fact.eq (.int .u64 9223372036854775808),Jo.Fact.eq (.int .i64 (x+1)),Jo.qb true,Jo.Fact.num r,Jo.Fact.any] ?_ ?_
 ·iterate 2 (refine jm ?_ ?_;rotate_left)
  refine jm ?_ ?_
  ·rintro Y k _ rfl K j;have bC:=(g.b k).a 0 (.bool s1) rfl;go_simp;exact j.out _ _ rfl (br _ _)
  refine jm ?_ ?_;rotate_left
  refine jm ?_ ?_
  ·rintro Y k _ rfl K j;go_simp;refine(rR (p9.b k) F.out rfl).mono ?_;rintro l wk ⟨rfl,B⟩;exact j.out _ _ rfl B
  iterate 2 (refine jm ?_ ?_;rotate_left)
  refine jm ?_ ?_
  ·rintro Y k _ rfl _ rfl _ rfl _ rfl K j;go_simp;exact Jo.n1 (DY O P HR.out) j.out
  exact jo
  all_goals (rintro Y k;(repeat rintro _ rfl);intro K j;go_simp;exact j.out _ _ rfl (br _ _))
 rintro w8 k _ _ _ _ _ rfl _ rfl _ rfl _ rfl _ rfl _ ⟨K4,s4,M4,E4,rfl,q4⟩ -;simp only[Jo.z];replace d:=d.b k;replace f:=ak f k;have bA:=d.cell;have C:=d.frozen
 refine jn 8 fun K j=>?_
 go_simp;refine j.out _ _ ?_;clear j K bA C;have SX:=ac.t4 d K4 s4 M4 E4;refine jd ?_;go_wp2;exact bq (by simp[results,results131,go_sem,SX.box.cell]) rfl ⟨_,_,_,_,rfl,q4,(SX.below f.out (by omega))⟩
theorem qc{w:World}{A:Option Addr}{n c:Nat}{s up:Bool}{z e N E r:Int}(h:Wr w s A n c z)(hn:n<=100000)(hN:(mk z e).1=N)(hE:(mk z e).2=E)(hr:eI up N E=r):
  Calls prog 131 #[.agg #[.bool s,.slice A n c,.int .i64 e],.bool up] w (PN w r):=by
 obtain⟨σ,b⟩:∃σ,decide (N < 0)=σ:=⟨_,rfl⟩
 have j:ae N.natAbs<=3200000:=by
  have hb:=h.rd.blen_le
  have:ae N.natAbs<=ae z.natAbs:=by
   rcases ko z e with a | ⟨a,h1,h2,k,h4,l,f⟩
   ·rw[a]at hN;rw[<-hN];exact Nat.zero_le _
   ·rw[hN]at f h4;rw[f,bY,fZ (by omega)]
    omega
  omega
 by_cases a:N.natAbs=0
 ·have d:N=0:=by omega
  have:r=0:=by
   rw[<-hr,d,gA rfl]
   rfl
  rw[this];exact rS h hn hN hE rfl b a
 ·by_cases hs:σ=up
  ·subst hs;rw[gZ b.symm rfl,<-Ho σ a]at hr
   by_cases hl:ae N.natAbs<=64
   ·exact zl h hn hN hE rfl b a rfl (by omega) rfl (by omega) hr
   ·exact zi h hn hN hE rfl b a rfl (by omega) rfl (by omega) hr
  ·obtain rfl:(!σ)=up:=by cases σ <;> cases up <;> first | rfl | exact absurd rfl hs
   rw[gY b.symm]at hr
   by_cases hl:ae N.natAbs<=64
   ·rw[<-xF σ a hl]at hr;exact zj h hn hN hE rfl b a rfl (by omega) rfl (by omega) hr
   ·have g:=gj N.natAbs
    by_cases i:tp N.natAbs+1 < 2^64
    ·rw[<-Hp σ (by omega) i]at hr;exact zh h hn hN hE rfl b a rfl (by omega) rfl (by omega) i hr
    ·rw[<-xE σ (by omega) (by omega)]at hr;exact zg h hn hN hE rfl b a rfl (by omega) rfl (by omega) (by omega) hr
theorem Im{n:Int}(h1: -9223372036854775808<=n)(h2:n<=9223372036854775807):eI true (mk n 0).1 (mk n 0).2=aj (decide (n < 0)) (lo n.natAbs 0):=by
 by_cases g:n=0
 ·subst g;rw[dg];rw[gA rfl]
 ·have m:=eX (n:=n.natAbs) (by omega)
  have j:v2 n.natAbs < 64:=by
   have:2^v2 n.natAbs < 2^64:=by omega
   exact(Nat.pow_lt_pow_iff_right (a:=2) (by decide)).1 this
  obtain⟨e1,e2,e3,d,c⟩:=iH (z:=n) (e:=0) g (by decide) (by omega)
  revert e1 e3 d c
  generalize mk n 0=p;obtain⟨N,E⟩:=p
  intro e1 e3 d c
  simp only at e1 e3 d c|-
  have f:n.natAbs=N.natAbs*2^v2 n.natAbs:=by
   have:=congrArg Int.natAbs c
   rwa [bY]at this
  have b:N.natAbs≠0:=by omega
  have i:ae N.natAbs+v2 n.natAbs<=64:=by
   have h:=fZ b (v2 n.natAbs);have l:=ai (n:=n.natAbs) (k:=64) (by omega);rw[<-f]at h
   omega
  have hx:ext N.natAbs E=true:=by
   have e0:(N.natAbs==0)=false:=by simpa using b
   unfold ext xp
   rw[e0,Bool.false_or,dt (by omega),dt (by omega),dt (by omega)]
   rfl
  rw[gA hx,show decide (N < 0)=decide (n < 0) by simp only[e3]]
  congr 1
  have:=sT b (v2 n.natAbs) 0
  rw[<-f]at this;rw[this,e1]
theorem Kk{n r:Int}(w:World)(h1: -9223372036854775808<=n)(h2:n<=9223372036854775807)(hr:aj (decide (n < 0)) (lo n.natAbs 0)=r):Calls prog 67 #[.int .i64 n] w (PN w r):=by
 have f:=ie ((Im h1 h2).trans hr);clear hr;obtain⟨N,h⟩:∃N,(mk n 0).1=N:=⟨_,rfl⟩;obtain⟨E,g⟩:∃E,(mk n 0).2=E:=⟨_,rfl⟩
 have f:=ie (show eI true (mk N E).1 (mk N E).2=r by
  have:=f.out
  rw[<-h,<-g,show mk (mk n 0).1 (mk n 0).2=mk n 0 from fJ n 0]
  exact this)
 have m:=ie h;have l:=ie g;clear h g
 go_enter func67,ntmps67
 go_upto_region 1 with fail
 generalize d:w.alloc _=w1 at *;obtain⟨a,c⟩:=Bo.en1 d;clear d
 go_wp2_with fail
 refine(gy n _ h1 h2).mono ?_;rintro k v ⟨s1,A1,n1,c1,rfl,q,t,B⟩;replace a:=a.b B;replace c:=ak c B;clear B
 go_wp2_with fail
 refine(bT q.wr (by omega) m.out l.out).mono ?_;rintro k x ⟨s2,A2,n2,c2,rfl,p2,u,B⟩;replace a:=a.b B;replace c:=ak c B;clear B
 go_wp2_with fail
 refine(qc p2.wr (by omega) rfl rfl f.out).mono ?_;rintro k y ⟨o,s3,p,E3,rfl,s,B⟩;replace a:=a.b B;replace c:=ak c B;clear B;have i:=a.cell;have e:=a.frozen;go_wp2;clear i e;have j:=ac.t4 a o s3 p E3;exact bq (by simp[results,results67,go_sem,j.box.cell]) rfl ⟨_,_,_,_,rfl,s,(j.below c.out (by omega))⟩
theorem FA{w:World}{A B:Option Addr}{n c m d:Nat}{s t:Bool}{z e y f N1 E1 N2 E2:Int}(h:Wr w s A n c z)(k:Wr w t B m d y)(hn:n<=20000)(hm:m<=20000)
  (HN1:Hid ((mk z e).1=N1)) (HE1:Hid ((mk z e).2=E1)) (HN2:Hid ((mk y f).1=N2)) (HE2:Hid ((mk y f).2=E2)) (h1:N1=0):
  Calls prog 166 #[.agg #[.bool s,.slice A n c,.int .i64 e],.agg #[.bool t,.slice B m d,.int .i64 f]] w (D1 w m N2 E2):=by
 go_enter func166,ntmps166
 go_upto_region 1 with fail
 generalize q:((w.alloc _).alloc _).alloc _=w1 at *;obtain⟨L,j,a,b⟩:=Bo.en3 q;replace h:=h.below b.out;replace k:=k.below b.out;clear q;have F:=L.cell
 go_wp2_with fail
 refine(bT h (by omega) HN1.out HE1.out).mono ?_;rintro N J ⟨s1,A1,n1,c1,rfl,i,R,B⟩;clear F;refine aR ?_ j a k b B;clear j a k b B;intro j a k b;have o:=j.cell
 go_upto_region 2 with fail
 clear o;have P:=Nat.le_refl (World.heap J).size;have x:=j.lt;have C:=a.lt;generalize g:J.alloc _=S at *;obtain⟨l,p⟩:=Bo.nw g;clear g;refine dW ?_ j a k i b p;clear j a k i b p;intro j a k i b;have o:=j.cell
 go_wp2_with fail
 refine(bT k (by omega) HN2.out HE2.out).mono ?_;rintro N Q ⟨s2,A2,n2,c2,rfl,p2,O,B⟩;clear o;refine aR ?_ a l i b B;clear a l i b B;intro a l i b
 go_upto_region 3 with fail
 have E:=a.lt;have D:=l.lt;generalize g:Q.alloc _=T at *;obtain⟨M,p⟩:=Bo.nw g;clear g;refine dW ?_ a l i p2 b p;clear a l i p2 b p;intro a l i p2 b
 have hz:n1=0:=by have:=i.1.pos;omega
 subst hz;have G:=l.cell;have H:=M.cell;have I:=a.cell;have r:=a.frozen;go_wp2;clear G H I r;have u:=ac.mk3 a (.bool s2) (.slice A2 n2 c2) (.int .i64 E2);replace p2:=p2.s u;exact bq (v:= .agg #[.bool s2,.slice A2 n2 c2,.int .i64 E2]) (by simp[results,results166,go_sem,u.box.cell]) rfl ⟨s2,_,_,_,rfl,p2,O,(u.below b.out (by omega))⟩
theorem FB{w:World}{A B:Option Addr}{n c m d:Nat}{s t:Bool}{z e y f N1 E1 N2 E2:Int}(h:Wr w s A n c z)(k:Wr w t B m d y)(hn:n<=20000)(hm:m<=20000)
  (HN1:Hid ((mk z e).1=N1)) (HE1:Hid ((mk z e).2=E1)) (HN2:Hid ((mk y f).1=N2)) (HE2:Hid ((mk y f).2=E2)) (h1:N1≠0) (h2:N2=0):
  Calls prog 166 #[.agg #[.bool s,.slice A n c,.int .i64 e],.agg #[.bool t,.slice B m d,.int .i64 f]] w (D1 w n N1 E1):=by
 go_enter func166,ntmps166
 go_upto_region 1 with fail
 generalize q:((w.alloc _).alloc _).alloc _=w1 at *;obtain⟨L,j,a,b⟩:=Bo.en3 q;replace h:=h.below b.out;replace k:=k.below b.out;clear q;have F:=L.cell
 go_wp2_with fail
 refine(bT h (by omega) HN1.out HE1.out).mono ?_;rintro N J ⟨s1,A1,n1,c1,rfl,g,P,B⟩;clear F;refine aR ?_ j a k b B;clear j a k b B;intro j a k b;have o:=j.cell
 go_upto_region 2 with fail
 clear o;have Q:=Nat.le_refl (World.heap J).size;have x:=j.lt;have C:=a.lt;generalize i:J.alloc _=U at *;obtain⟨l,p⟩:=Bo.nw i;clear i;refine dW ?_ j a k g b p;clear j a k g b p;intro j a k g b;have o:=j.cell
 go_wp2_with fail
 refine(bT k (by omega) HN2.out HE2.out).mono ?_;rintro N R ⟨s2,A2,n2,c2,rfl,p2,S,B⟩;clear o;refine aR ?_ a l g b B;clear a l g b B;intro a l g b
 go_upto_region 3 with fail
 have E:=a.lt;have D:=l.lt;generalize i:R.alloc _=V at *;obtain⟨M,p⟩:=Bo.nw i;clear i;refine dW ?_ a l g p2 b p;clear a l g p2 b p;intro a l g p2 b
 have O:0 < n1:=by have:=g.1.pos;omega
 have T:((n1:Int)==0)=false:=by
  have:(n1:Int)≠0:=by omega
  simpa using this
 have la:=g.1.rd.big
 have hz:n2=0:=by have:=p2.1.pos;omega
 subst hz;have G:=l.cell;have H:=M.cell;have I:=a.cell;have r:=a.frozen;go_wp2;clear G H I r;have u:=ac.mk3 a (.bool s1) (.slice A1 n1 c1) (.int .i64 E1);replace g:=g.s u;exact bq (v:= .agg #[.bool s1,.slice A1 n1 c1,.int .i64 E1]) (by simp[results,results166,go_sem,u.box.cell]) rfl ⟨s1,_,_,_,rfl,g,P,(u.below b.out (by omega))⟩
theorem Ew (N:Int){P:Int}(hP:0 < P):N.fdiv P*P<=N/\N < (N.fdiv P+1)*P:=by
 have h1:=Int.mul_fdiv_add_fmod N P;have h2:=Int.fmod_nonneg_of_pos N hP;have a:=Int.fmod_lt_of_pos N hP;rw[Int.mul_comm]at h1;rw[Int.add_mul,Int.one_mul]
 omega
theorem Ce (k:Nat):((2^k:Nat):Int)=2^k:=by simp
theorem Hq{p:Int × Int}(hp:Nf p):sD p.1 p.2*2^KK<=vl p/\vl p < (sD p.1 p.2+1)*2^KK:=by
 have b:=hp.bd
 unfold sD vl
 by_cases a:0<=p.2
 ·rw[if_pos a,Ce,Int.mul_assoc,<-Int.pow_add,show p.2.toNat+KK=(p.2+KK).toNat by omega,Int.add_mul,Int.mul_assoc,<-Int.pow_add,show p.2.toNat+KK=(p.2+KK).toNat by omega]
  have:=aE KK
  omega
 ·rw[if_neg a,Ce];obtain⟨h1,h2⟩:=Ew p.1 (aE (-p.2).toNat)
  have c:KK=(-p.2).toNat+(p.2+KK).toNat:=by rw[dT];omega
  have hq:=aE (p.2+KK).toNat
  have e:(2:Int)^KK=2^(-p.2).toNat*2^(p.2+KK).toNat:=by rw[<-Int.pow_add,<-c]
  rw[e,<-Int.mul_assoc,<-Int.mul_assoc];exact⟨Int.mul_le_mul_of_nonneg_right h1 (by omega),Int.mul_lt_mul_of_pos_right h2 hq⟩
theorem gC (s:Bool)(x y:Int):aj s x*y=aj s (x*y):=by
 cases s
 ·rfl
 ·exact Int.neg_mul _ _
theorem DR{x:Int}(s:Bool)(h:0 < x):vr (aj s x)=aj s (vp x):=by
 rw[IY]
 congr 1
 unfold vr
 rw[if_neg (by omega)]
theorem sB{D:Int}{s:Bool}{M E r:Int}(q:Fq D s M E r)(h1: -19342822337206103650074625 < r)(h2:r < 19342822337206103650074625):mt D s M E=true/\vl (jG D s M E)=vr r:=by
 have hb:mt D s M E=true:=by
  unfold mt
  rw[dt q.1,Bool.true_and]
  rcases q.cases with⟨rfl,rfl,rfl,rfl,g⟩ | ⟨rfl,_⟩ | ⟨rfl,rfl,rfl,⟨rfl,c⟩ | ⟨rfl,c⟩⟩
  ·rfl
  ·rfl
  ·omega
  ·omega
 refine⟨hb,?_⟩
 unfold jG
 rw[if_pos hb];have a:=q.2.2
 rcases q.1 with⟨rfl,rfl,rfl,rfl⟩ | ⟨rfl,g1,g2,g3⟩ | ⟨rfl,rfl,rfl⟩
 ·obtain rfl:0=r:=a
  have e0:aj false 0=0:=if_neg (by decide)
  rw[e0,dg,kG]
  rfl
 ·have d:=q.2.1
  have b:plc 1 M E=M-9223372036854775808+1+(E+1048576)*9223372036854775808:=rfl
  rw[b]at a
  have f:(aj s M).natAbs=M.toNat:=by
   cases s
   ·show M.natAbs=M.toNat;omega
   ·show (-M).natAbs=M.toNat;omega
  obtain⟨η,i⟩:∃η:Nat,4194304=η:=⟨_,rfl⟩
  have hf:=kW (z:=aj s M) (e:=E) (h:=η) (by omega) (by omega) (by
   rw[f]
   have:M.toNat < 2^64:=by omega
   have:=Nat.mul_lt_mul_of_pos_right this (Nat.pow_pos (n:=(E+(η:Int)).toNat) (show 0 < 2 by decide))
   rw[<-Nat.pow_add]at this;exact Nat.lt_of_lt_of_le this (Nat.pow_le_pow_right (by decide) (by omega)))
  rw[hf.2,<-a,DR s (by omega),dS g1 d (by omega),gC]
 ·exfalso
  have:r=aj s TP:=a.symm
  have:=dq
  cases s
  ·have e:aj false TP=TP:=if_neg (by decide)
   omega
  ·have e:aj true TP= -TP:=if_pos rfl
   omega
theorem Fa{m:Nat}{E:Int}(h1:9223372036854775808<=m)(h2:m < 18446744073709551616)(h3: -1048576<=E)(h4:E<=1048576):lo m E=(m:Int)-9223372036854775808+1+(E+1048576)*9223372036854775808:=by
 have hb:ae m=64:=jt (k:=63) (by omega) (by omega) (by omega)
 have hx:xp m E=E:=by unfold xp;rw[hb];omega
 have ht:tp m=m:=by
  rw[fE (by omega),hb,Nat.sub_self,Nat.pow_zero,Nat.mul_one]
 unfold lo
 rw[if_neg (by omega),hx,if_neg (by omega),if_neg (by omega),ht]
theorem zZ{m k t:Nat}{E F:Int}(hm:m=k*2^t)(h1:9223372036854775808<=m)(h2:m < 18446744073709551616)(h3: -1048576<=E)(h4:E<=1048576)(hF:F=E+(t:Nat)):ext k F=true/\lo k F=lo m E:=by
 have hb:ae m=64:=jt (k:=63) (by omega) (by omega) (by omega)
 have a:k≠0:=fun e=>by rw[e,Nat.zero_mul]at hm;omega
 have b:=fZ a t;rw[<-hm,hb]at b;refine⟨?_,?_⟩
 ·have e0:(k==0)=false:=by simpa using a
  unfold ext xp
  rw[e0,Bool.false_or,dt (by omega),dt (by omega),dt (by omega)]
  rfl
 ·rw[hm,sT a,hF]
theorem zY{s:Bool}{M E:Int}(up:Bool)(g1:9223372036854775808<=M)(hM:LQ M)(g2: -1048576<=E)(g3:E<=1048576){z:Int}(hz:z.natAbs=M.toNat)(hs:decide (z < 0)=s):eI up (mk z E).1 (mk z E).2=aj s (M-9223372036854775808+1+(E+1048576)*9223372036854775808):=by
 have f:z≠0:=by omega
 have i:=eX (n:=z.natAbs) (by omega)
 have g:v2 z.natAbs < 64:=(Nat.pow_lt_pow_iff_right (a:=2) (by decide)).1 (show 2^v2 z.natAbs < 2^64 by omega)
 obtain⟨e1,e2,e3,c,b⟩:=iH (z:=z) (e:=E) f (by omega) (by omega)
 revert e1 e3 c b
 generalize mk z E=p;obtain⟨N,F⟩:=p
 intro e1 e3 c b
 simp only at e1 e3 c b|-
 have d:z.natAbs=N.natAbs*2^v2 z.natAbs:=by
  have:=congrArg Int.natAbs b
  rwa [bY]at this
 obtain⟨h,x2⟩:=zZ d (by omega) (by omega) g2 g3 e1
 rw[gA h,x2,Fa (by omega) (by omega) g2 g3,show decide (N < 0)=s by rw[<-hs];simp only[e3],show ((z.natAbs:Nat):Int)=M by omega]
theorem gh (up:Bool):eI up 0 0=0:=by
 rw[gA rfl]
 rfl
theorem C8{D:Int}{s:Bool}{M E r:Int}(up:Bool)(q:Fq D s M E r)(hx:mt D s M E=true):eI up (jG D s M E).1 (jG D s M E).2=r:=by
 unfold jG
 rw[if_pos hx];have b:=q.2.2
 rcases q.1 with⟨rfl,rfl,rfl,rfl⟩ | ⟨rfl,g1,g2,g3⟩ | ⟨rfl,rfl,rfl⟩
 ·obtain rfl:0=r:=b
  have e0:aj false 0=0:=if_neg (by decide)
  rw[e0,dg];exact gh up
 ·have c:=q.2.1
  have a:plc 1 M E=M-9223372036854775808+1+(E+1048576)*9223372036854775808:=rfl
  rw[a]at b;rw[<-b];refine zY up g1 c g2 g3 ?_ ?_
  ·cases s
   ·rw[show aj false M=M from if_neg (by decide)];omega
   ·rw[show aj true M= -M from if_pos rfl];omega
  ·cases s
   ·rw[show aj false M=M from if_neg (by decide)];exact df (by omega)
   ·rw[show aj true M= -M from if_pos rfl];exact dt (by omega)
 ·exact absurd hx (by unfold mt;simp)
def al (n:Int):Int:=aj (decide (n < 0)) (lo n.natAbs 0)
theorem mK:al 0=0:=rfl
theorem fd{n:Int}(h1: -9223372036854775808<=n)(h2:n<=9223372036854775807):vr (al n)=n*2^KK:=by
 by_cases a:n=0
 ·subst a;rw[mK,Int.zero_mul]
  rfl
 ·have q:=GG a h1 h2;have hs:=Cs a h1 h2;have a3:=ai (n:=n.natAbs) (k:=64) (by omega)
  have c:_=al n:=q.2.2
  have g:=q.plc (by decide)
  rcases g with⟨_,g1,g2,g3,g4,g5⟩ | ⟨g,_⟩
  ·rw[<-c,DR _ (by rw[g5];omega),g5,dS g1 g2 (by omega),<-hs,Int.mul_assoc,<-Int.pow_add,show (64-(ae n.natAbs:Int)).toNat+(-(64-(ae n.natAbs:Int))+(KK:Int)).toNat=KK by rw[dT];omega,<-gC]
   congr 1
   by_cases b:n < 0
   ·rw[dt b];show -(n.natAbs:Int)=n;omega
   ·rw[df b];show (n.natAbs:Int)=n;omega
  ·exact absurd g (by decide)
theorem Fp{a b:Int}(h1: -9223372036854775808<=a)(h2:a<=9223372036854775807)(k1: -9223372036854775808<=b)(k2:b<=9223372036854775807):ag (al a) (al b)=ag a b:=by
 rw[<-IW,fd h1 h2,fd k1 k2,r9 (aE KK)]
theorem wK{n:Int}(h0:n≠0)(l:Int):aj (decide (-n < 0)) l= -aj (decide (n < 0)) l:=by
 by_cases hn:n < 0
 ·rw[dt hn,df (show ¬ -n < 0 by omega),show aj false l=l from if_neg (by decide),show aj true l= -l from if_pos rfl,Int.neg_neg]
 ·rw[df hn,dt (show -n < 0 by omega),show aj false l=l from if_neg (by decide),show aj true l= -l from if_pos rfl]
theorem Fs (n:Int):al (-n)= -al n:=by
 by_cases h0:n=0
 ·rw[h0,Int.neg_zero,mK,Int.neg_zero]
 ·unfold al
  rw[Int.natAbs_neg];exact wK h0 _
def Dn (X r:Int):Prop:= -19342822337206103650074625<=r/\r<=19342822337206103650074624/\(-19342822337206103650074625 < r->vr r<=X)/\(r < 19342822337206103650074624->X < vr (r+1))
def Up (X r:Int):Prop:=Dn (-X) (-r)
theorem Dn.mono{X Y r t:Int}(h:Dn X r)(k:Dn Y t)(hXY:X<=Y):r<=t:=by
 obtain⟨h1,h2,c,h4⟩:=h;obtain⟨e,f,g,d⟩:=k
 rcases Int.lt_or_le t r with q | q
 ·exfalso
  have a:=c (by omega);have b:=d (by omega)
  rcases Int.lt_or_eq_of_le (show t+1<=r by omega)with q | q
  ·have:=jl q
   omega
  ·rw[q]at b
   omega
 ·exact q
theorem Dn.uniq{X r t:Int}(h:Dn X r)(k:Dn X t):r=t:=by
 have a:=h.mono k (Int.le_refl _);have b:=k.mono h (Int.le_refl _)
 omega
theorem Up.mono{X Y r t:Int}(h:Up X r)(k:Up Y t)(hXY:X<=Y):r<=t:=by
 have:=Dn.mono k h (by omega)
 omega
theorem Up.uniq{X r t:Int}(h:Up X r)(k:Up X t):r=t:=by
 have:=Dn.uniq h k
 omega
theorem gn{r:Int}(h1: -19342822337206103650074625 < r)(h2:r < 19342822337206103650074625):Dn (vr r) r:=⟨by omega,by omega,fun _=>Int.le_refl _,fun _=>l9 r⟩
theorem gE{r:Int}(h1: -19342822337206103650074625 < r)(h2:r < 19342822337206103650074625):Up (vr r) r:=by
 unfold Up
 rw[<-aJ];exact gn (by omega) (by omega)
theorem KH (m:Nat){a b:Int}(ha:0<=a)(hb:0<=b)(h:(ae m:Int)+a<=b):(m:Int)*2^a.toNat < 2^b.toNat:=by
 have h1:=Nat.mul_lt_mul_of_pos_right (dZ m) (Nat.pow_pos (n:=a.toNat) (show 0 < 2 by decide))
 rw[<-Nat.pow_add]at h1
 have h2:=Nat.lt_of_lt_of_le h1 (Nat.pow_le_pow_right (show 0 < 2 by decide) (show ae m+a.toNat<=b.toNat by omega))
 exact_mod_cast h2
theorem KG{m:Nat}(h0:m≠0){a b:Int}(ha:0<=a)(hb:0<=b)(h:b<=(ae m:Int)-1+a):(2:Int)^b.toNat<=(m:Int)*2^a.toNat:=by
 have hl:ae m≠0:=fun e=>h0 (aL.1 e)
 have h1:=Nat.mul_le_mul_right (2^a.toNat) (blen_le h0);rw[<-Nat.pow_add]at h1
 have h2:=Nat.le_trans (Nat.pow_le_pow_right (show 0 < 2 by decide) (show b.toNat<=ae m-1+a.toNat by omega)) h1
 exact_mod_cast h2
theorem DP:vp 1=2^(63-1048576+(KK:Int)).toNat:=by
 have:=dS (M:=9223372036854775808) (E:= -1048576) (by decide) (by decide) (by decide)
 rw[show (9223372036854775808:Int)-9223372036854775808+1+(-1048576+1048576)*9223372036854775808=1 by decide]at this
 rw[this,show (63-1048576+(KK:Int)).toNat=63+(-1048576+(KK:Int)).toNat by rw[dT];omega,Int.pow_add]
 rfl
theorem IV:vp 19342822337206103650074624 < 2^(64+1048576+(KK:Int)).toNat:=by
 have:=dS (M:=18446744073709551615) (E:=1048576) (by decide) (by decide) (by decide)
 rw[show (18446744073709551615:Int)-9223372036854775808+1+(1048576+1048576)*9223372036854775808=19342822337206103650074624 by decide]at this
 rw[this,show (64+1048576+(KK:Int)).toNat=64+(1048576+(KK:Int)).toNat by rw[dT];omega,Int.pow_add]
 exact Int.mul_lt_mul_of_pos_right (by decide) (aE _)
theorem JH{m:Nat}{E:Int}(h0:m≠0)(hE1: -4194304<=E)(hE2:E<=4194304)(ho:m%2=1):Dn ((m:Int)*2^(E+KK).toNat) (lo m E)/\Up ((m:Int)*2^(E+KK).toNat) (hi m E)/\0<=lo m E/\0<=hi m E:=by
 have u:=dT;obtain⟨c,f⟩:=qW m E
 have hl:ae m≠0:=fun e=>h0 (aL.1 e)
 have hx:xp m E=E+(ae m:Nat)-64:=rfl
 have e0:(m==0)=false:=by simpa using h0
 have p:0 < (m:Int)*2^(E+KK).toNat:=Int.mul_pos (by omega) (aE _)
 by_cases c1:1048576 < xp m E
 ·have n:lo m E=19342822337206103650074624:=by
   unfold lo
   rw[if_neg h0,if_pos c1]
  have o:ext m E=false:=by
   unfold ext
   rw[e0,df (show ¬xp m E<=1048576 by omega)]
   rfl
  have k:hi m E=lo m E+1:=by
   unfold hi
   rw[o,if_neg (by decide)]
  have g:=KG h0 (a:=E+KK) (b:=64+1048576+KK) (by omega) (by omega) (by omega);have ht:=IV
  have r:vr 19342822337206103650074624=vp 19342822337206103650074624:=by
   unfold vr
   rw[if_neg (by decide)]
  rw[k,n]
  refine⟨⟨by decide,by decide,fun _=>by omega,fun h=>absurd h (by decide)⟩,⟨by decide,by decide,fun h=>absurd h (by decide),fun _=>?_⟩,by decide,by decide⟩
  have q:vr (-(19342822337206103650074624+1)+1)= -vr 19342822337206103650074624:=aJ 19342822337206103650074624
  omega
 ·by_cases c2:xp m E < -1048576
  ·have n:lo m E=0:=by
    unfold lo
    rw[if_neg h0,if_neg c1,if_pos c2]
   have o:ext m E=false:=by
    unfold ext
    rw[e0,df (show ¬ -1048576<=xp m E by omega)]
    simp
   have k:hi m E=lo m E+1:=by
    unfold hi
    rw[o,if_neg (by decide)]
   have g:=KH m (a:=E+KK) (b:=63-1048576+KK) (by omega) (by omega) (by omega);have h1:=DP
   have r:vr 1=vp 1:=by
    unfold vr
    rw[if_neg (by decide)]
   have t:vr 0=0:=rfl
   rw[k,n]
   have q:vr (-(0+1))= -vr 1:=aJ 1
   refine⟨⟨by decide,by decide,fun _=>by omega,fun _=>?_⟩,⟨by decide,by decide,fun _=>by omega,fun _=>?_⟩,by decide,by decide⟩
   ·rw[show (0:Int)+1=1 from rfl]
    omega
   ·rw[show (-(0+1)+1:Int)=0 from rfl]
    omega
  ·obtain⟨d,v2,i,j⟩:=JI (m:=m) (E:=E) h0 (by omega) (by omega) (by omega) ho
   revert d v2 i j
   have hh:hi m E=if ext m E=true then lo m E else lo m E+1:=rfl
   cases hx:ext m E
   ·rw[hx,if_neg (by decide)]at hh;rw[hh]
    revert c f
    generalize lo m E=l
    intro c f d v2 i j
    have s:=j rfl;have n1:=aJ (l+1);have n2:=aJ l
    refine⟨⟨by omega,by omega,fun _=>d,fun _=>v2⟩,⟨by omega,by omega,fun _=>by omega,fun _=>?_⟩,c,by omega⟩
    rw[show -(l+1)+1= -l by omega]
    omega
   ·rw[hx,if_pos rfl]at hh;rw[hh]
    revert c f
    generalize lo m E=l
    intro c f d v2 i j
    have s:=i rfl;have n1:=aJ l;have n2:=l9 (-l)
    refine⟨⟨by omega,by omega,fun _=>d,fun _=>v2⟩,⟨by omega,by omega,fun _=>by omega,fun _=>by omega⟩,c,c⟩
theorem rH{X r:Int}(h:Dn X r):Up (-X) (-r):=by
 unfold Up
 rw[Int.neg_neg,Int.neg_neg];exact h
theorem qE{X r:Int}(h:Up X r):Dn (-X) (-r):=h
theorem dl{P:Int × Int}(hP:Nf P):Dn (vl P) (eI false P.1 P.2)/\Up (vl P) (eI true P.1 P.2):=by
 rcases hP.cases with e | ⟨g,j,e1,e2⟩
 ·subst e;rw[gh,gh,kG];have h:=gn (r:=0) (by decide) (by decide);have k:=gE (r:=0) (by decide) (by decide)
  rw[show vr 0=0 from rfl]at h k
  exact⟨h,k⟩
 ·obtain⟨d,u,_,_⟩:=JH (m:=P.1.natAbs) (E:=P.2) (by omega) e1 e2 j
  have a:vl P=P.1*2^(P.2+KK).toNat:=rfl
  rcases Int.lt_or_lt_of_ne g with i | hp
  ·have hs:true=decide (P.1 < 0):=(dt i).symm
   have b:=gY (E:=P.2) hs;have c:=gZ (up:=true) (E:=P.2) hs rfl
   rw[show (!true)=false from rfl]at b
   have f:vl P= -((P.1.natAbs:Int)*2^(P.2+KK).toNat):=by
    rw[a,<-Int.neg_mul]
    congr 1
    omega
   have s1:∀x,aj true x= -x:=fun x=>if_pos rfl
   rw[b,c,f,s1,s1];exact⟨qE u,rH d⟩
  ·have hs:false=decide (P.1 < 0):=(df (by omega)).symm
   have b:=gZ (up:=false) (E:=P.2) hs rfl;have c:=gY (E:=P.2) hs
   rw[show (!false)=true from rfl]at c
   have f:vl P=(P.1.natAbs:Int)*2^(P.2+KK).toNat:=by
    rw[a]
    congr 1
    omega
   have s1:∀x,aj false x=x:=fun x=>if_neg (by decide)
   rw[b,c,f,s1,s1];exact⟨d,u⟩
theorem lc{P Q:Int × Int}(hP:Nf P)(hQ:Nf Q)(h:vl P<=vl Q)(up:Bool):eI up P.1 P.2<=eI up Q.1 Q.2:=by
 cases up
 ·exact(dl hP).1.mono (dl hQ).1 h
 ·exact(dl hP).2.mono (dl hQ).2 h
theorem rz{P:Int × Int}(hP:Nf P)(up:Bool):eI (!up) (-P.1) P.2= -eI up P.1 P.2:=by
 have e:Nf (ng P):=JO hP
 have f:=Kg P;obtain⟨a,b⟩:=dl hP;obtain⟨c,d⟩:=dl e;rw[f]at c d
 cases up
 ·have:=d.uniq (rH a)
  exact this
 ·have:=c.uniq (qE b)
  exact this
def ep (r:Int):Int × Int:=if r=0 then (0,0)else mk (aj (decide (r < 0)) (((r.natAbs:Int)-1)%9223372036854775808+9223372036854775808)) (((r.natAbs:Int)-1) /9223372036854775808-1048576)
theorem sA{D:Int}{s:Bool}{M E r:Int}(q:Fq D s M E r)(hx:mt D s M E=true):jG D s M E=ep r:=by
 unfold jG ep
 rw[if_pos hx]
 rcases q.cases with⟨rfl,rfl,rfl,rfl,a⟩ | ⟨rfl,h1,h2,c,h4,⟨rfl,b⟩ | ⟨rfl,b⟩⟩ | ⟨rfl,_⟩
 ·rw[if_pos a,show aj false 0=0 from if_neg (by decide)]
  exact dg 0
 ·rw[if_neg (by omega),df (show ¬r < 0 by omega)]
  congr 2
  ·omega
  ·omega
 ·rw[if_neg (by omega),dt (show r < 0 by omega)]
  congr 2
  ·omega
  ·omega
 ·exact absurd hx (by unfold mt;simp)
theorem fD (r:Int):Nf (ep r):=by
 unfold ep
 split
 ·exact dg 0
 ·exact fJ _ _
theorem Gs{r:Int}(h1: -19342822337206103650074625 < r)(h2:r < 19342822337206103650074625):∃D s M E,Fq D s M E r:=by
 by_cases h0:r=0
 ·exact⟨0,false,0,0,h0▸Fq.nought⟩
 ·by_cases hn:r < 0
  ·refine⟨1,true,((r.natAbs:Int)-1)%9223372036854775808+9223372036854775808,((r.natAbs:Int)-1) /9223372036854775808-1048576,Fq.fin (by omega) (by omega) (by omega) (by omega) ?_⟩
   rw[show ∀x,aj true x= -x from fun x=>if_pos rfl]
   omega
  ·refine⟨1,false,((r.natAbs:Int)-1)%9223372036854775808+9223372036854775808,((r.natAbs:Int)-1) /9223372036854775808-1048576,Fq.fin (by omega) (by omega) (by omega) (by omega) ?_⟩
   rw[show ∀x,aj false x=x from fun x=>if_neg (by decide)]
   omega
theorem vy{r:Int}(h1: -19342822337206103650074625 < r)(h2:r < 19342822337206103650074625):vl (ep r)=vr r:=by
 obtain⟨D,s,M,E,q⟩:=Gs h1 h2;obtain⟨a,b⟩:=sB q h1 h2;rw[<-sA q a,b]
theorem Ay (r:Int):ep (-r)=ng (ep r):=by
 unfold ep
 by_cases h0:r=0
 ·rw[if_pos (by omega),if_pos h0]
  rfl
 ·rw[if_neg (by omega),if_neg h0,Int.natAbs_neg,wK h0];generalize aj (decide (r < 0)) _=z;exact kX z _
theorem kR (r:Int)(h1: -19342822337206103650074625 < r)(h2:r < 19342822337206103650074625){h:Nat}(hh:1048700<=h)(hh2:h<=4194304):lj h (ep r):=by
 unfold ep
 by_cases a:r=0
 ·rw[if_pos a];exact lj.zero h
 ·rw[if_neg a];obtain⟨M,c⟩:∃M,((r.natAbs:Int)-1)%9223372036854775808+9223372036854775808=M:=⟨_,rfl⟩;obtain⟨E,b⟩:∃E,((r.natAbs:Int)-1) /9223372036854775808-1048576=E:=⟨_,rfl⟩;rw[c,b];refine(kW (z:=aj (decide (r < 0)) M) (e:=E) (h:=h) hh2 (by omega) ?_).1
  have d:(aj (decide (r < 0)) M).natAbs=M.toNat:=by
   cases decide (r < 0)
   ·rw[show aj false M=M from if_neg (by decide)];omega
   ·rw[show aj true M= -M from if_pos rfl];omega
  rw[d]
  have:M.toNat < 2^64:=by omega
  have:=Nat.mul_lt_mul_of_pos_right this (Nat.pow_pos (n:=(E+(h:Int)).toNat) (show 0 < 2 by decide))
  rw[<-Nat.pow_add]at this;exact Nat.lt_of_lt_of_le this (Nat.pow_le_pow_right (by decide) (by omega))
def ax (x:Int):Bool:=x==TP || x== -TP
def ay (up:Bool)(x y:Int):Int:=
 if ax x=true then (if ax y=true/\x≠y then aj (!up) TP else x)else if ax y=true then y else eI up (pl (ep x) (ep y)).1 (pl (ep x) (ep y)).2
def eN (up:Bool)(x y:Int):Int:=
 if x=0\/y=0 then 0 else if ax x=true\/ax y=true then aj (decide (x < 0) !=decide (y < 0)) TP else eI up (ml (ep x) (ep y)).1 (ml (ep x) (ep y)).2
theorem bn{x:Int}(h1: -19342822337206103650074625<=x)(h2:x<=19342822337206103650074625)(h:ax x=false): -19342822337206103650074625 < x/\x < 19342822337206103650074625:=by
 unfold ax at h
 simp[dq]at h
 omega
theorem bP{x:Int}(h:ax x=true):x=19342822337206103650074625\/x= -19342822337206103650074625:=by
 unfold ax at h
 simp[dq]at h
 omega
theorem kD{x y:Int}(x1: -19342822337206103650074625 < x)(x2:x < 19342822337206103650074625)(y1: -19342822337206103650074625 < y)(y2:y < 19342822337206103650074625):Nf (pl (ep x) (ep y))/\vl (pl (ep x) (ep y))=vr x+vr y:=by
 obtain⟨η,c⟩:∃η:Nat,η=2000000:=⟨_,rfl⟩;have f:=kR x x1 x2 (h:=η) (by omega) (by omega);have g:=kR y y1 y2 (h:=η) (by omega) (by omega);obtain⟨a,b⟩:=CI (by omega) f g;exact⟨a.nf,by rw[b,vy x1 x2,vy y1 y2]⟩
theorem mP{x y:Int}(x1: -19342822337206103650074625 < x)(x2:x < 19342822337206103650074625)(y1: -19342822337206103650074625 < y)(y2:y < 19342822337206103650074625):Nf (ml (ep x) (ep y))/\vl (ml (ep x) (ep y))*2^KK=vr x*vr y:=by
 obtain⟨η,c⟩:∃η:Nat,η=2000000:=⟨_,rfl⟩;have f:=kR x x1 x2 (h:=η) (by omega) (by omega);have g:=kR y y1 y2 (h:=η) (by omega) (by omega);obtain⟨a,b⟩:=Ic (by omega) f g;exact⟨a.nf,by rw[b,vy x1 x2,vy y1 y2]⟩
theorem C9{P:Int × Int}(hP:Nf P)(up:Bool): -19342822337206103650074625<=eI up P.1 P.2/\eI up P.1 P.2<=19342822337206103650074625:=by
 obtain⟨a,b⟩:=dl hP
 cases up
 ·have:=a.1;have:=a.2.1;omega
 ·have:=b.1;have:=b.2.1;omega
theorem ff:¬(false=true):=Bool.false_ne_true
theorem eF{x y:Int}(up:Bool)(hx:ax x=false)(hy:ax y=false):ay up x y=eI up (pl (ep x) (ep y)).1 (pl (ep x) (ep y)).2:=by
 unfold ay
 rw[hx,hy,if_neg ff,if_neg ff]
theorem eG{x y:Int}(up:Bool)(hx:ax x=false)(hy:ax y=true):ay up x y=y:=by
 unfold ay
 rw[hx,hy,if_neg ff,if_pos rfl]
theorem dU{x y:Int}(up:Bool)(hx:ax x=true)(hy:ax y=false):ay up x y=x:=by
 unfold ay
 rw[hx,hy,if_pos rfl,if_neg (fun c=>ff c.1)]
theorem dY{x y:Int}(up:Bool)(hx:ax x=true)(h:x=y):ay up x y=x:=by
 unfold ay
 rw[hx,if_pos rfl,if_neg (fun c=>c.2 h)]
theorem dN{x y:Int}(up:Bool)(hx:ax x=true)(hy:ax y=true)(h:x≠y):ay up x y=aj (!up) TP:=by
 unfold ay
 rw[hx,hy,if_pos rfl,if_pos ⟨rfl,h⟩]
theorem dM{x y:Int}(up:Bool):ay up x y=ay up y x:=by
 cases hx:ax x <;> cases hy:ax y
 ·rw[eF up hx hy,eF up hy hx,Fx (fD x) (fD y)]
 ·rw[eG up hx hy,dU up hy hx]
 ·rw[dU up hx hy,eG up hy hx]
 ·by_cases h:x=y
  ·rw[h]
  ·rw[dN up hx hy h,dN up hy hx (fun e=>h e.symm)]
theorem dQ{x y:Int}(up:Bool)(h:x=0\/y=0):eN up x y=0:=by
 unfold eN
 rw[if_pos h]
theorem gW{x y:Int}(up:Bool)(h:¬(x=0\/y=0))(hi:ax x=true\/ax y=true):eN up x y=aj (decide (x < 0) !=decide (y < 0)) TP:=by
 unfold eN
 rw[if_neg h,if_pos hi]
theorem gV{x y:Int}(up:Bool)(h:¬(x=0\/y=0))(hi:¬(ax x=true\/ax y=true)):eN up x y=eI up (ml (ep x) (ep y)).1 (ml (ep x) (ep y)).2:=by
 unfold eN
 rw[if_neg h,if_neg hi]
theorem oF{x y:Int}(up:Bool):eN up x y=eN up y x:=by
 by_cases a:x=0\/y=0
 ·rw[dQ up a,dQ up a.symm]
 ·have b:¬(y=0\/x=0):=fun c=>a c.symm
  by_cases h1:ax x=true\/ax y=true
  ·rw[gW up a h1,gW up b h1.symm]
   cases decide (x < 0) <;> cases decide (y < 0) <;> rfl
  ·rw[gV up a h1,gV up b (fun c=>h1 c.symm),Fg (ep x) (ep y)]
theorem qN (x:Int):ax (-x)=ax x:=by
 unfold ax
 rw[Bool.eq_iff_iff]
 simp
 omega
theorem JR{P Q:Int × Int}(hP:Nf P)(hQ:Nf Q):pl (ng P) (ng Q)=ng (pl P Q):=by
 unfold pl ng
 simp only
 by_cases h1:P.1=0
 ·rw[if_pos (by omega),if_pos h1]
 ·rw[if_neg (by omega),if_neg h1]
  by_cases h2:Q.1=0
  ·rw[if_pos (by omega),if_pos h2]
  ·rw[if_neg (by omega),if_neg h2,Int.neg_mul,Int.neg_mul,<-Int.neg_add];exact kX _ _
theorem FQ (s:Bool)(x:Int):aj (!s) x= -aj s x:=by
 cases s
 ·rw[show (!false)=true from rfl,show aj true x= -x from if_pos rfl,show aj false x=x from if_neg (by decide)]
 ·rw[show (!true)=false from rfl,show aj true x= -x from if_pos rfl,show aj false x=x from if_neg (by decide),Int.neg_neg]
theorem zG{x y:Int}(up:Bool):ay (!up) (-x) (-y)= -ay up x y:=by
 have a:=qN x;have b:=qN y
 cases hx:ax x <;> cases hy:ax y <;> rw[hx]at a <;> rw[hy]at b
 ·rw[eF _ a b,eF up hx hy,Ay,Ay,JR (fD x) (fD y)];exact rz (CJ (fD x) (fD y)) up
 ·rw[eG _ a b,eG up hx hy]
 ·rw[dU _ a b,dU up hx hy]
 ·by_cases h:x=y
  ·rw[dY _ a (by rw[h]),dY up hx h]
  ·rw[dN _ a b (fun e=>h (by omega)),dN up hx hy h]
   exact FQ _ _
theorem lI{x y:Int}(up:Bool)(x1: -19342822337206103650074625<=x)(x2:x<=19342822337206103650074625)(y1: -19342822337206103650074625<=y)(y2:y<=19342822337206103650074625): -19342822337206103650074625<=ay up x y/\ay up x y<=19342822337206103650074625:=by
 have a:=dq
 cases hx:ax x <;> cases hy:ax y
 ·rw[eF up hx hy];exact C9 (CJ (fD x) (fD y)) up
 ·rw[eG up hx hy];exact⟨y1,y2⟩
 ·rw[dU up hx hy];exact⟨x1,x2⟩
 ·by_cases h:x=y
  ·rw[dY up hx h];exact⟨x1,x2⟩
  ·rw[dN up hx hy h]
   cases up
   ·rw[show aj (!false) TP= -TP from if_pos rfl];omega
   ·rw[show aj (!true) TP=TP from if_neg (by decide)];omega
theorem od{x y z:Int}(up:Bool)(x1: -19342822337206103650074625<=x)(x2:x<=19342822337206103650074625)(y1: -19342822337206103650074625<=y)(y2:y<=19342822337206103650074625)(z1: -19342822337206103650074625<=z)(z2:z<=19342822337206103650074625)(h:x<=y):ay up x z<=ay up y z:=by
 have i:=dq;obtain⟨a1,a2⟩:=lI up x1 x2 z1 z2;obtain⟨p,r⟩:=lI up y1 y2 z1 z2
 cases hz:ax z
 ·cases hx:ax x
  ·cases hy:ax y
   ·obtain⟨l,m⟩:=bn x1 x2 hx;obtain⟨n,o⟩:=bn y1 y2 hy;obtain⟨f,g⟩:=bn z1 z2 hz;obtain⟨n1,k⟩:=kD l m f g;obtain⟨n2,v2⟩:=kD n o f g
    have s:vr x<=vr y:=by
     rcases Int.lt_or_eq_of_le h with q | q
     ·exact Int.le_of_lt (jl q)
     ·rw[q];exact Int.le_refl _
    rw[eF up hx hz,eF up hy hz];exact lc n1 n2 (by rw[k,v2];omega) up
   ·have e:ay up y z=y:=dU up hy hz
    rcases bP hy with q | q
    ·omega
    ·have:x=y:=by omega
     rw[this];exact Int.le_refl _
  ·have e:ay up x z=x:=dU up hx hz
   rcases bP hx with q | q
   ·have:x=y:=by omega
    rw[this];exact Int.le_refl _
   ·omega
 ·have e:∀w,ax w=false->ay up w z=z:=fun w hw=>eG up hw hz
  have e2:∀w,ax w=true->w≠z->ay up w z=aj (!up) TP:=fun w hw hn=>dN up hw hz hn
  have e3:ay up z z=z:=dY up hz rfl
  have t:aj (!up) TP=TP\/aj (!up) TP= -TP:=by
   cases up
   ·exact .inr (if_pos rfl)
   ·exact .inl (if_neg (by decide))
  have j:=bP hz
  by_cases b:x=z
  ·rw[b,e3]
   by_cases a:y=z
   ·rw[a,e3];exact Int.le_refl _
   ·cases hy:ax y
    ·rw[e y hy];exact Int.le_refl _
    ·have d:=bP hy;rw[e2 y hy a]
     omega
  ·by_cases a:y=z
   ·rw[a,e3]
    cases hx:ax x
    ·rw[e x hx];exact Int.le_refl _
    ·have c:=bP hx;rw[e2 x hx b]
     omega
   ·cases hx:ax x
    ·have c:=bn x1 x2 hx;rw[e x hx]
     cases hy:ax y
     ·rw[e y hy];exact Int.le_refl _
     ·have d:=bP hy;rw[e2 y hy a]
      omega
    ·have c:=bP hx
     cases hy:ax y
     ·have d:=bn y1 y2 hy;rw[e y hy,e2 x hx b]
      omega
     ·rw[e2 x hx b,e2 y hy a];exact Int.le_refl _
def GV (c:Nat)(z:Int):Prop:=∃L,L<=c/\z.natAbs < 4294967296^L
def nX (p q:Int × Int):Prop:=p.1≠0->q.1≠0->p.2-q.2<=2240000/\q.2-p.2<=2240000
def Kt (l:List (Int × Int)):Prop:=∀k,k < l.length->GV 10 (yV (l.take k)).1/\nX (yV (l.take k)) (mk (l.getD k (0,0)).1 (l.getD k (0,0)).2)/\GV 70030 (yV (l.take (k+1))).1
theorem iF{x:Int}(h:0 < x):0 < vr x:=by
 have:=jl h
 rwa [show vr 0=0 from rfl]at this
theorem DU{x:Int}(h:0<=x):0<=vr x:=by
 rcases Int.lt_or_eq_of_le h with q | q
 ·exact Int.le_of_lt (iF q)
 ·rw[<-q];decide
theorem bM{x y:Int}(h:x<=y):vr x<=vr y:=by
 rcases Int.lt_or_eq_of_le h with q | q
 ·exact Int.le_of_lt (jl q)
 ·rw[q];exact Int.le_refl _
theorem K8 (s:Bool):aj s TP=TP\/aj s TP= -TP:=by
 cases s
 ·exact .inl (if_neg (by decide))
 ·exact .inr (if_pos rfl)
theorem fc{x y:Int}(up:Bool): -19342822337206103650074625<=eN up x y/\eN up x y<=19342822337206103650074625:=by
 have b:=dq
 by_cases a:x=0\/y=0
 ·rw[dQ up a];omega
 ·by_cases h1:ax x=true\/ax y=true
  ·rw[gW up a h1]
   have:=K8 (decide (x < 0) !=decide (y < 0))
   omega
  ·rw[gV up a h1];exact C9 (fJ _ _) up
theorem IA{r:Int}(up:Bool)(h1: -19342822337206103650074625 < r)(h2:r < 19342822337206103650074625):eI up (ep r).1 (ep r).2=r:=by
 obtain⟨D,s,M,E,q⟩:=Gs h1 h2;obtain⟨a,_⟩:=sB q h1 h2;rw[<-sA q a];exact C8 up q a
theorem vz:ep 0=(0,0):=if_pos rfl
theorem ow:ax 0=false:=by decide
theorem fR{x:Int}(up:Bool)(x1: -19342822337206103650074625<=x)(x2:x<=19342822337206103650074625):ay up x 0=x:=by
 cases hx:ax x
 ·obtain⟨a,b⟩:=bn x1 x2 hx;rw[eF up hx ow,vz]
  have:pl (ep x) (0,0)=ep x:=by
   unfold pl
   by_cases h:(ep x).1=0
   ·rw[if_pos h];exact((fD x).zero h).symm
   ·rw[if_neg h,if_pos rfl]
  rw[this];exact IA up a b
 ·exact dU up hx ow
theorem z9{x y:Int}(x1: -19342822337206103650074625 < x)(x2:x < 19342822337206103650074625)(y1: -19342822337206103650074625 < y)(y2:y < 19342822337206103650074625):Kt [ep x,ep y]/\yV [ep x,ep y]=pl (ep x) (ep y):=by
 obtain⟨η,m⟩:∃η:Nat,η=1048700:=⟨_,rfl⟩;have f:=kR x x1 x2 (h:=η) (by omega) (by omega);have g:=kR y y1 y2 (h:=η) (by omega) (by omega);obtain⟨s,_⟩:=CI (by omega) f g
 have b:∀{h:Nat} {p:Int × Int},lj h p->h<=1048701->GV 70030 p.1:=fun {h p} fp hh=>by
  refine⟨h/16+1,by omega,Nat.lt_of_lt_of_le fp.abs ?_⟩
  rw[show (4294967296:Nat)=2^32 by decide,<-Nat.pow_mul]
  exact Nat.pow_le_pow_right (by decide) (by omega)
 have a:∀r,GV 10 (ep r).1:=fun r=>by
  unfold ep
  split
  ·exact⟨0,by decide,by decide⟩
  ·obtain⟨z,hz⟩:∃z,aj (decide (r < 0)) (((r.natAbs:Int)-1)%9223372036854775808+9223372036854775808)=z:=⟨_,rfl⟩
   have hb:z.natAbs < 18446744073709551616:=by
    rw[<-hz]
    cases decide (r < 0)
    ·rw[show ∀q,aj false q=q from fun q=>if_neg (by decide)];omega
    ·rw[show ∀q,aj true q= -q from fun q=>if_pos rfl];omega
   rw[hz];obtain⟨e,he⟩:∃e,((r.natAbs:Int)-1) /9223372036854775808-1048576=e:=⟨_,rfl⟩;rw[he];refine⟨2,by decide,?_⟩
   rcases ko z e with h | ⟨l,_,_,_,_,_,i⟩
   ·rw[h];decide
   ·have:=congrArg Int.natAbs i
    rw[bY]at this
    have hp:1<=2^v2 z.natAbs:=Nat.pow_pos (by decide)
    have:=Nat.le_mul_of_pos_right (mk z e).1.natAbs hp
    omega
 have c:mk (ep x).1 (ep x).2=ep x:=fD x
 have d:mk (ep y).1 (ep y).2=ep y:=fD y
 have p0:pl (0,0) (ep x)=ep x:=by
  unfold pl
  rw[if_pos rfl]
 have e1:yV [ep x]=ep x:=by
  show pl (0,0) (mk (ep x).1 (ep x).2)=ep x
  rw[c,p0]
 have e2:yV [ep x,ep y]=pl (ep x) (ep y):=by
  show pl (pl (0,0) (mk (ep x).1 (ep x).2)) (mk (ep y).1 (ep y).2)=pl (ep x) (ep y)
  rw[c,d,p0]
 refine⟨fun k hk=>?_,e2⟩
 rcases (show k=0\/k=1 by simp at hk;omega)with rfl | rfl
 ·have j:yV (List.take 0 [ep x,ep y])=(0,0):=rfl
  rw[j]
  refine⟨⟨0,by decide,by decide⟩,fun h=>absurd rfl h,?_⟩
  show GV 70030 (yV [ep x]).1
  rw[e1];exact b f (by omega)
 ·refine⟨?_,?_,?_⟩
  ·show GV 10 (yV [ep x]).1
   rw[e1];exact a x
  ·show nX (yV [ep x]) (mk (ep y).1 (ep y).2)
   rw[e1,d]
   intro _ _
   have:=f.lo
   have:=f.hi
   have:=g.lo
   have:=g.hi
   omega
  ·show GV 70030 (yV [ep x,ep y]).1
   rw[e2];exact b s (by omega)
