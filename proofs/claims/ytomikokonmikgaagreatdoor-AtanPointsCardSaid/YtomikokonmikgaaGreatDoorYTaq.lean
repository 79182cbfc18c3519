/-
 Contracts that the proof rests on.
-/
import Derived.Test.YtomikokonmikgaaGreatDoorYTap
namespace Go.Proofs.YtomikokonmikgaaGreatDoor
open Go.Proofs.Tryz
set_option maxHeartbeats 4000000
open Go.RowKit
set_option linter.unusedVariables false
set_option linter.unusedSimpArgs false
set_option maxRecDepth 100000
theorem G5{D:Int}{s:Bool}{M E r:Int}(q:Fq D s M E r)(h0:D≠0):nx (!s) r=aj s (min TP (plc D M E+1)):=by
 rw[<-q.2.2]
 have:=dj
 have h1:=oS q h0
 unfold nx
 cases s
 ·rfl
 ·show max (-TP) (-plc D M E-1)= -min TP (plc D M E+1)
  omega
theorem I9{D:Int}{s:Bool}{M E r:Int}(q:Fq D s M E r)(h0:D≠0):nx s r=aj s (plc D M E-1):=by
 have hb:=q.bd
 have:=dj
 have h1:=oS q h0;rw[<-q.2.2]at hb|-
 unfold nx
 cases s
 ·show max (-TP) (plc D M E-1)=plc D M E-1
  omega
 ·show min TP (-plc D M E+1)= -(plc D M E-1)
  omega
theorem AX{w:World}{s:Bool}{r:Int}(hr:aj s TP=r):Calls prog 258 #[VQ 2 s 0 0] w (PN w r):=by
 delta VQ
 go_enter func258,ntmps258
 go_upto_region 1 with (fail)
 generalize i:(w.alloc _).alloc _=w1 at *;obtain⟨c,d,g⟩:=Bo.en2 i;clear i;refine jk [0,1,2,3,4,5,6,7,8,9] [some 3,some 4,some 5,some 6,some 7,some 8,some 9,some 10,some 11,some 12] [[],[0],[1],[2],[3],[3],[3,5],[3,6],[3,4,7],[3,8]] 10 0 [Jo.qp w.heap.size 0,Jo.qi 2,Jo.qb true,Jo.qb true,Jo.qu,Jo.qu,Jo.qu,Jo.qu,Jo.qu,Jo.qb true] ?_ ?_
 ·refine jm ?_ ?_;rotate_left
  refine jm ?_ ?_
  ·rintro p f _ rfl K h;simp only[Jo.z]at h|-;have m:=(c.b f).a 0 (.int .i64 2) rfl;go_simp;exact h.out _ _ rfl (br _ _)
  iterate 8 (refine jm ?_ ?_;rotate_left)
  exact jo
  all_goals (rintro p f;(repeat rintro _ rfl);intro K h;simp only[Jo.z]at h|-;go_simp;exact h.out _ _ rfl (br _ _))
 rintro t f _ _ _ rfl _ rfl _ rfl _ rfl _ rfl _ rfl _ rfl _ rfl _ rfl -;simp only[Jo.z];replace c:=c.b f;replace d:=d.b f;replace g:=aa g f;refine jd ?_;have e:=c.cell
 go_wp2_with fail
 refine(iQ hr).mono ?_;rintro q u ⟨n,s2,M2,E2,rfl,o,B⟩;clear e;replace c:=c.b B;replace d:=d.b B;replace g:=aa g B;clear B;have k:=d.cell;have j:=d.frozen;have e:=c.cell;go_wp2;clear k j e;have l:=ae.t4 d n s2 M2 E2
 exact bq (by simp[results,results258,go_sem,l.box.cell]) rfl ⟨_,_,_,_,rfl,o,(l.below g.out (by omega))⟩
theorem xw{w:World}{s:Bool}{r:Int}(hr:aj s TP=r):Calls prog 258 #[VQ 1 s 18446744073709551615 1048576] w (PN w r):=by
 delta VQ
 go_enter func258,ntmps258
 go_upto_region 1 with (fail)
 generalize i:(w.alloc _).alloc _=w1 at *;obtain⟨e,g,h⟩:=Bo.en2 i;clear i;refine jk [0,1,2,3,4,5,6,7,8,9] [some 3,some 4,some 5,some 6,some 7,some 8,some 9,some 10,some 11,some 12] [[],[0],[1],[2],[3],[3],[3,5],[3,6],[3,4,7],[3,8]] 10 0 [Jo.qp w.heap.size 0,Jo.qi 1,Jo.qb false,Jo.qb false,Jo.q4 1 s 18446744073709551615 1048576,Jo.qp w.heap.size 1,Jo.qb s,Jo.q4 1 s 18446744073709551615 1048576,Jo.qb true,Jo.qb true] ?_ ?_
 ·refine jm ?_ ?_;rotate_left
  refine jm ?_ ?_
  ·rintro k d _ rfl K c;simp only[Jo.z]at c|-;have n:=(e.b d).a 0 (.int .i64 1) rfl;go_simp;exact c.out _ _ rfl (br _ _)
  iterate 4 (refine jm ?_ ?_;rotate_left)
  refine jm ?_ ?_
  ·rintro k d _ rfl _ rfl K c;simp only[Jo.z]at c|-;have o:=(e.b d).a 1 (.bool s) rfl;go_simp;exact c.out _ _ rfl (br _ _)
  refine jm ?_ ?_
  ·rintro k d _ rfl _ rfl K c;simp only[Jo.z]at c|-;go_simp;refine(nH).mono ?_;rintro q x ⟨rfl,B⟩;exact c.out _ _ rfl B
  refine jm ?_ ?_
  ·rintro k d _ rfl _ rfl _ rfl K c;simp only[Jo.z]at c|-;go_simp
   exact c.out _ _ (by first | rfl | (show Value.bool _=Value.bool _;simp)) (br _ _)
  refine jm ?_ ?_;rotate_left
  exact jo
  all_goals (rintro k d;(repeat rintro _ rfl);intro K c;simp only[Jo.z]at c|-;have f:=(e.b d).cell;go_simp;exact c.out _ _ rfl (br _ _))
 rintro u d _ _ _ rfl _ rfl _ rfl _ rfl _ _ _ rfl _ rfl _ rfl _ rfl -;simp only[Jo.z];replace e:=e.b d;replace g:=g.b d;replace h:=aa h d;refine jd ?_;have f:=e.cell
 go_wp2_with fail
 refine(iQ hr).mono ?_;rintro q v ⟨p,s2,M2,E2,rfl,t,B⟩;clear f;replace e:=e.b B;replace g:=g.b B;replace h:=aa h B;clear B;have l:=g.cell;have j:=g.frozen;have f:=e.cell;go_wp2;clear l j f;have m:=ae.t4 g p s2 M2 E2
 exact bq (by simp[results,results258,go_sem,m.box.cell]) rfl ⟨_,_,_,_,rfl,t,(m.below h.out (by omega))⟩
theorem se{w:World}{s:Bool}{E r:Int}(hF:Fq 1 s 9223372036854775808 (E+1) r)(h1: -1048576<=E)(h2:E < 1048576):Calls prog 258 #[VQ 1 s 18446744073709551615 E] w (PN w r):=by
 delta VQ
 have hq:E≠1048576:=by omega
 have u:=iw (E+1)
 go_enter func258,ntmps258
 go_upto_region 1 with (fail)
 generalize k:(w.alloc _).alloc _=w1 at *;obtain⟨c,i,j⟩:=Bo.en2 k;clear k;refine jk [0,1,2,3,4,5,6,7,8,9] [some 3,some 4,some 5,some 6,some 7,some 8,some 9,some 10,some 11,some 12] [[],[0],[1],[2],[3],[3],[3,5],[3,6],[3,4,7],[3,8]] 10 0 [Jo.qp w.heap.size 0,Jo.qi 1,Jo.qb false,Jo.qb false,Jo.q4 1 s 18446744073709551615 E,Jo.qp w.heap.size 1,Jo.qb s,Jo.q4 1 s 18446744073709551615 1048576,Jo.qb false,Jo.qb false] ?_ ?_
 ·refine jm ?_ ?_;rotate_left
  refine jm ?_ ?_
  ·rintro m g _ rfl K d;simp only[Jo.z]at d|-;have q:=(c.b g).a 0 (.int .i64 1) rfl;go_simp;exact d.out _ _ rfl (br _ _)
  iterate 4 (refine jm ?_ ?_;rotate_left)
  refine jm ?_ ?_
  ·rintro m g _ rfl _ rfl K d;simp only[Jo.z]at d|-;have t:=(c.b g).a 1 (.bool s) rfl;go_simp;exact d.out _ _ rfl (br _ _)
  refine jm ?_ ?_
  ·rintro m g _ rfl _ rfl K d;simp only[Jo.z]at d|-;go_simp;refine(nH).mono ?_;rintro x A ⟨rfl,B⟩;exact d.out _ _ rfl B
  refine jm ?_ ?_
  ·rintro m g _ rfl _ rfl _ rfl K d;simp only[Jo.z]at d|-;go_simp
   exact d.out _ _ (by first | rfl | (show Value.bool _=Value.bool _;simp[hq])) (br _ _)
  refine jm ?_ ?_;rotate_left
  exact jo
  all_goals (rintro m g;(repeat rintro _ rfl);intro K d;simp only[Jo.z]at d|-;have e:=(c.b g).cell;go_simp;exact d.out _ _ rfl (br _ _))
 rintro n g _ _ _ rfl _ rfl _ rfl _ rfl _ _ _ rfl _ rfl _ rfl _ rfl -;simp only[Jo.z];replace c:=c.b g;replace i:=i.b g;replace j:=aa j g;refine jd ?_;have e:=c.cell;have h:=c.frozen
 go_upto_region 5 with (fail)
 clear e h
 have f:ae n (World.setCell n ⟨w.heap.size,2,none⟩ (.int .u64 9223372036854775808)) _ _ #[.int .i64 1,.bool s,.int .u64 9223372036854775808,.int .i64 E] _:=ae.at4 c 2 (.int .u64 9223372036854775808)
 replace i:=i.s f;replace j:=bn j f (by omega);replace c:=f.box;clear f;generalize World.setCell n ⟨w.heap.size,2,none⟩ (.int .u64 9223372036854775808)=o at *;have e:=c.cell;have h:=c.frozen;have v:=u.out
 go_upto_region 6 with (fail)
 clear v;clear e h
 have f:ae o (World.setCell o ⟨w.heap.size,3,none⟩ (.int .i64 (E+1))) _ _ #[.int .i64 1,.bool s,.int .u64 9223372036854775808,.int .i64 (E+1)] _:=ae.at4 c 3 (.int .i64 (E+1))
 replace i:=i.s f;replace j:=bn j f (by omega);replace c:=f.box;clear f;generalize World.setCell o ⟨w.heap.size,3,none⟩ (.int .i64 (E+1))=y at *;have p:=i.cell;have l:=i.frozen;have e:=c.cell;go_wp2;clear p l e;have f:=ae.t4 i 1 s 9223372036854775808 (E+1)
 exact bq (by simp[results,results258,go_sem,f.box.cell]) rfl ⟨_,_,_,_,rfl,hF,(f.below j.out (by omega))⟩
theorem xx{w:World}{s:Bool}{M E r:Int}(hF:Fq 1 s (M+1) E r)(h1:0<=M)(h2:M < 18446744073709551615):Calls prog 258 #[VQ 1 s M E] w (PN w r):=by
 delta VQ
 have hq:M≠18446744073709551615:=by omega
 have e1:(M==18446744073709551615)=false:=by simpa using hq
 have t:Hid (IntKind.u64.wrap (M+1)=M+1):=ie (IntWalk.u64_in _ (by omega))
 go_enter func258,ntmps258
 go_upto_region 1 with (fail)
 generalize j:(w.alloc _).alloc _=w1 at *;obtain⟨e,h,i⟩:=Bo.en2 j;clear j;refine jk [0,1,2,3,4,5,6,7,8,9] [some 3,some 4,some 5,some 6,some 7,some 8,some 9,some 10,some 11,some 12] [[],[0],[1],[2],[3],[3],[3,5],[3,6],[3,4,7],[3,8]] 10 0 [Jo.qp w.heap.size 0,Jo.qi 1,Jo.qb false,Jo.qb false,Jo.q4 1 s M E,Jo.qp w.heap.size 1,Jo.qb s,Jo.q4 1 s 18446744073709551615 1048576,Jo.qb false,Jo.qb false] ?_ ?_
 ·refine jm ?_ ?_;rotate_left
  refine jm ?_ ?_
  ·rintro m d _ rfl K c;simp only[Jo.z]at c|-;have p:=(e.b d).a 0 (.int .i64 1) rfl;go_simp;exact c.out _ _ rfl (br _ _)
  iterate 4 (refine jm ?_ ?_;rotate_left)
  refine jm ?_ ?_
  ·rintro m d _ rfl _ rfl K c;simp only[Jo.z]at c|-;have q:=(e.b d).a 1 (.bool s) rfl;go_simp;exact c.out _ _ rfl (br _ _)
  refine jm ?_ ?_
  ·rintro m d _ rfl _ rfl K c;simp only[Jo.z]at c|-;go_simp;refine(nH).mono ?_;rintro v y ⟨rfl,B⟩;exact c.out _ _ rfl B
  refine jm ?_ ?_
  ·rintro m d _ rfl _ rfl _ rfl K c;simp only[Jo.z]at c|-;go_simp
   exact c.out _ _ (by first | rfl | (show Value.bool _=Value.bool _;simp[hq])) (br _ _)
  refine jm ?_ ?_;rotate_left
  exact jo
  all_goals (rintro m d;(repeat rintro _ rfl);intro K c;simp only[Jo.z]at c|-;have f:=(e.b d).cell;go_simp;exact c.out _ _ rfl (br _ _))
 rintro n d _ _ _ rfl _ rfl _ rfl _ rfl _ _ _ rfl _ rfl _ rfl _ rfl -;simp only[Jo.z];replace e:=e.b d;replace h:=h.b d;replace i:=aa i d;refine jd ?_;have f:=e.cell;have k:=e.frozen;have u:=t.out
 go_upto_region 8 with (fail)
 clear u;clear f k
 have g:ae n (World.setCell n ⟨w.heap.size,2,none⟩ (.int .u64 (M+1))) _ _ #[.int .i64 1,.bool s,.int .u64 (M+1),.int .i64 E] _:=ae.at4 e 2 (.int .u64 (M+1))
 replace h:=h.s g;replace i:=bn i g (by omega);replace e:=g.box;clear g;generalize World.setCell n ⟨w.heap.size,2,none⟩ (.int .u64 (M+1))=x at *;have o:=h.cell;have l:=h.frozen;have f:=e.cell;go_wp2;clear o l f;have g:=ae.t4 h 1 s (M+1) E
 exact bq (by simp[results,results258,go_sem,g.box.cell]) rfl ⟨_,_,_,_,rfl,hF,(g.below i.out (by omega))⟩
theorem J5{w:World}{D:Int}{s:Bool}{M E x r:Int}(q:Fq D s M E x)(h0:D≠0)(hr:nx (!s) x=r):Calls prog 258 #[VQ D s M E] w (PN w r):=by
 delta VQ
 rw[G5 q h0]at hr
 have:=dj
 rcases q.plc h0 with⟨rfl,h1,h2,a,h4,b⟩ | ⟨rfl,rfl,rfl,b⟩ <;> rw[b]at hr
 ·by_cases hm:M=18446744073709551615
  ·subst hm
   by_cases c:E=1048576
   ·subst c;exact xw hr
   ·refine se (Fq.fin (by decide) (by decide) (by omega) (by omega) ?_) a (by omega);rw[<-hr]
    congr 1
    omega
  ·refine xx (Fq.fin (by omega) (by omega) a h4 ?_) (by omega) (by omega);rw[<-hr]
   congr 1
   omega
 ·exact AX hr
theorem Ej{w:World}{s:Bool}{r:Int}(hF:Fq 1 s 18446744073709551615 1048576 r):Calls prog 257 #[VQ 2 s 0 0] w (PN w r):=by
 delta VQ
 go_enter func257,ntmps257
 go_upto_region 1 with (fail)
 generalize d:(w.alloc _).alloc _=w1 at *;obtain⟨f,c,g⟩:=Bo.en2 d;clear d;have a:=f.cell
 go_wp2_with fail
 refine(nH (s:=s)).mono ?_;rintro j k ⟨rfl,B⟩;clear a;replace f:=f.b B;replace c:=c.b B;replace g:=aa g B;clear B;have h:=c.cell;have e:=c.frozen;have a:=f.cell;go_wp2;clear h e a;have i:=ae.t4 c 1 s 18446744073709551615 1048576
 exact bq (by simp[results,results257,go_sem,i.box.cell]) rfl ⟨_,_,_,_,rfl,hF,(i.below g.out (by omega))⟩
theorem AV{w:World}{s:Bool}{r:Int}(hr:0=r):Calls prog 257 #[.agg #[.int .i64 1,.bool s,.int .u64 9223372036854775808,.int .i64 (-1048576)]] w (PN w r):=by
 subst hr
 go_enter func257,ntmps257
 go_upto_region 1 with (fail)
 generalize h:(w.alloc _).alloc _=w1 at *;obtain⟨f,g,j⟩:=Bo.en2 h;clear h;have e:=f.cell
 go_upto_region 3 with (fail)
 clear e;refine jk [0,1,2,3,4] [some 9,some 10,some 11,some 12,some 13] [[],[],[1],[2],[0,3]] 5 0 [Jo.Fact.eq (.agg #[.int .i64 1,.bool s,.int .u64 9223372036854775808,.int .i64 (-1048576)]),Jo.qp w.heap.size 1,Jo.qb s,Jo.Fact.eq (.agg #[.int .i64 1,.bool s,.int .u64 9223372036854775808,.int .i64 (-1048576)]),Jo.qb true] ?_ ?_
 ·iterate 2 (refine jm ?_ ?_;rotate_left)
  refine jm ?_ ?_
  ·rintro k d _ rfl K c;simp only[Jo.z]at c|-;have n:=(f.b d).a 1 (.bool s) rfl;go_simp;exact c.out _ _ rfl (br _ _)
  refine jm ?_ ?_
  ·rintro k d _ rfl K c;simp only[Jo.z]at c|-;go_simp;refine(nT).mono ?_;rintro o q ⟨rfl,B⟩;exact c.out _ _ rfl B
  refine jm ?_ ?_
  ·rintro k d _ rfl _ rfl K c;simp only[Jo.z]at c|-;go_simp
   exact c.out _ _ (by first | rfl | (show Value.bool _=Value.bool _;simp)) (br _ _)
  exact jo
  all_goals (rintro k d;(repeat rintro _ rfl);intro K c;simp only[Jo.z]at c|-;have e:=(f.b d).cell;go_simp;exact c.out _ _ rfl (br _ _))
 rintro p d _ rfl _ _ _ rfl _ rfl _ rfl -;simp only[Jo.z];replace f:=f.b d;replace g:=g.b d;replace j:=aa j d;refine jd ?_;have l:=g.cell;have i:=g.frozen;have e:=f.cell;go_wp2;clear l i e;have m:=ae.t4 g 0 false 0 0
 exact bq (by simp[results,results257,go_sem,m.box.cell]) rfl ⟨_,_,_,_,rfl,Fq.nought,(m.below j.out (by omega))⟩
theorem xu{w:World}{s:Bool}{E r:Int}(hF:Fq 1 s 18446744073709551615 (E-1) r)(h1: -1048576 < E)(h2:E<=1048576):Calls prog 257 #[VQ 1 s 9223372036854775808 E] w (PN w r):=by
 delta VQ
 have hq:E≠ -1048576:=by omega
 have t:=iw (E-1)
 go_enter func257,ntmps257
 go_upto_region 1 with (fail)
 generalize k:(w.alloc _).alloc _=w1 at *;obtain⟨d,h,j⟩:=Bo.en2 k;clear k;have c:=d.cell
 go_upto_region 3 with (fail)
 clear c;refine jk [0,1,2,3,4] [some 9,some 10,some 11,some 12,some 13] [[],[],[1],[2],[0,3]] 5 0 [Jo.q4 1 s 9223372036854775808 E,Jo.qp w.heap.size 1,Jo.qb s,Jo.Fact.eq (.agg #[.int .i64 1,.bool s,.int .u64 9223372036854775808,.int .i64 (-1048576)]),Jo.qb false] ?_ ?_
 ·iterate 2 (refine jm ?_ ?_;rotate_left)
  refine jm ?_ ?_
  ·rintro o i _ rfl K f;simp only[Jo.z]at f|-;have q:=(d.b i).a 1 (.bool s) rfl;go_simp;exact f.out _ _ rfl (br _ _)
  refine jm ?_ ?_
  ·rintro o i _ rfl K f;simp only[Jo.z]at f|-;go_simp;refine(nT).mono ?_;rintro v y ⟨rfl,B⟩;exact f.out _ _ rfl B
  refine jm ?_ ?_
  ·rintro o i _ rfl _ rfl K f;simp only[Jo.z]at f|-;go_simp
   exact f.out _ _ (by first | rfl | (show Value.bool _=Value.bool _;simp[hq])) (br _ _)
  exact jo
  all_goals (rintro o i;(repeat rintro _ rfl);intro K f;simp only[Jo.z]at f|-;have c:=(d.b i).cell;go_simp;exact f.out _ _ rfl (br _ _))
 rintro m i _ rfl _ _ _ rfl _ rfl _ rfl -;simp only[Jo.z];replace d:=d.b i;replace h:=h.b i;replace j:=aa j i;refine jd ?_;have c:=d.cell;have g:=d.frozen
 go_upto_region 7 with (fail)
 clear c g
 have e:ae m (World.setCell m ⟨w.heap.size,2,none⟩ (.int .u64 18446744073709551615)) _ _ #[.int .i64 1,.bool s,.int .u64 18446744073709551615,.int .i64 E] _:=ae.at4 d 2 (.int .u64 18446744073709551615)
 replace h:=h.s e;replace j:=bn j e (by omega);replace d:=e.box;clear e;generalize World.setCell m ⟨w.heap.size,2,none⟩ (.int .u64 18446744073709551615)=n at *;have c:=d.cell;have g:=d.frozen;have u:=t.out
 go_upto_region 8 with (fail)
 clear u;clear c g
 have e:ae n (World.setCell n ⟨w.heap.size,3,none⟩ (.int .i64 (E-1))) _ _ #[.int .i64 1,.bool s,.int .u64 18446744073709551615,.int .i64 (E-1)] _:=ae.at4 d 3 (.int .i64 (E-1))
 replace h:=h.s e;replace j:=bn j e (by omega);replace d:=e.box;clear e;generalize World.setCell n ⟨w.heap.size,3,none⟩ (.int .i64 (E-1))=x at *;have p:=h.cell;have l:=h.frozen;have c:=d.cell;go_wp2;clear p l c;have e:=ae.t4 h 1 s 18446744073709551615 (E-1)
 exact bq (by simp[results,results257,go_sem,e.box.cell]) rfl ⟨_,_,_,_,rfl,hF,(e.below j.out (by omega))⟩
theorem AU{w:World}{s:Bool}{M E r:Int}(hF:Fq 1 s (M-1) E r)(h1:9223372036854775808 < M)(h2:M<=18446744073709551615):Calls prog 257 #[VQ 1 s M E] w (PN w r):=by
 delta VQ
 have hq:M≠9223372036854775808:=by omega
 have e1:(M==9223372036854775808)=false:=by simpa using hq
 have q:Hid (IntKind.u64.wrap (M-1)=M-1):=ie (IntWalk.u64_in _ (by omega))
 go_enter func257,ntmps257
 go_upto_region 1 with (fail)
 generalize j:(w.alloc _).alloc _=w1 at *;obtain⟨e,h,i⟩:=Bo.en2 j;clear j;have c:=e.cell
 go_upto_region 3 with (fail)
 clear c;refine jk [0,1,2,3,4] [some 9,some 10,some 11,some 12,some 13] [[],[],[1],[2],[0,3]] 5 0 [Jo.q4 1 s M E,Jo.qp w.heap.size 1,Jo.qb s,Jo.Fact.eq (.agg #[.int .i64 1,.bool s,.int .u64 9223372036854775808,.int .i64 (-1048576)]),Jo.qb false] ?_ ?_
 ·iterate 2 (refine jm ?_ ?_;rotate_left)
  refine jm ?_ ?_
  ·rintro n f _ rfl K d;simp only[Jo.z]at d|-;have p:=(e.b f).a 1 (.bool s) rfl;go_simp;exact d.out _ _ rfl (br _ _)
  refine jm ?_ ?_
  ·rintro n f _ rfl K d;simp only[Jo.z]at d|-;go_simp;refine(nT).mono ?_;rintro u x ⟨rfl,B⟩;exact d.out _ _ rfl B
  refine jm ?_ ?_
  ·rintro n f _ rfl _ rfl K d;simp only[Jo.z]at d|-;go_simp
   exact d.out _ _ (by first | rfl | (show Value.bool _=Value.bool _;simp[hq])) (br _ _)
  exact jo
  all_goals (rintro n f;(repeat rintro _ rfl);intro K d;simp only[Jo.z]at d|-;have c:=(e.b f).cell;go_simp;exact d.out _ _ rfl (br _ _))
 rintro m f _ rfl _ _ _ rfl _ rfl _ rfl -;simp only[Jo.z];replace e:=e.b f;replace h:=h.b f;replace i:=aa i f;refine jd ?_;have c:=e.cell;have k:=e.frozen;have t:=q.out
 go_upto_region 10 with (fail)
 clear t;clear c k
 have g:ae m (World.setCell m ⟨w.heap.size,2,none⟩ (.int .u64 (M-1))) _ _ #[.int .i64 1,.bool s,.int .u64 (M-1),.int .i64 E] _:=ae.at4 e 2 (.int .u64 (M-1))
 replace h:=h.s g;replace i:=bn i g (by omega);replace e:=g.box;clear g;generalize World.setCell m ⟨w.heap.size,2,none⟩ (.int .u64 (M-1))=v at *;have o:=h.cell;have l:=h.frozen;have c:=e.cell;go_wp2;clear o l c;have g:=ae.t4 h 1 s (M-1) E
 exact bq (by simp[results,results257,go_sem,g.box.cell]) rfl ⟨_,_,_,_,rfl,hF,(g.below i.out (by omega))⟩
theorem Kq{w:World}{D:Int}{s:Bool}{M E x r:Int}(q:Fq D s M E x)(h0:D≠0)(hr:nx s x=r):Calls prog 257 #[VQ D s M E] w (PN w r):=by
 delta VQ
 rw[I9 q h0]at hr
 have:=dj
 rcases q.plc h0 with⟨rfl,h1,h2,b,h4,a⟩ | ⟨rfl,rfl,rfl,a⟩ <;> rw[a]at hr
 ·by_cases hm:M=9223372036854775808
  ·subst hm
   by_cases c:E= -1048576
   ·subst c;refine AV (hr▸?_)
    cases s <;> rfl
   ·refine xu (Fq.fin (by decide) (by decide) (by omega) (by omega) ?_) (by omega) h4;rw[<-hr]
    congr 1
    omega
  ·refine AU (Fq.fin (by omega) (by omega) b h4 ?_) (by omega) (by omega);rw[<-hr]
   congr 1
   omega
 ·refine Ej (Fq.fin (by decide) (by decide) (by decide) (by decide) ?_);rw[<-hr]
  rfl
theorem vf{w:World}{D M E:Int}{s:Bool}{up:Bool}{r:Int}(hM:LQ M)(hr:nx up (rk D s M E)=r):Calls prog 233 #[VQ D s M E,.bool up] w (PN w r):=by
 delta VQ
 obtain⟨x,hx⟩:∃x,rk D s M E=x:=⟨_,rfl⟩;rw[hx]at hr;have u:=ie hx;have m:=ie hr;clear hx hr
 go_enter func233,ntmps233
 go_upto_region 1 with (fail)
 generalize i:(w.alloc _).alloc _=w1 at *;obtain⟨c,d,f⟩:=Bo.en2 i;clear i;have a:=c.cell
 go_wp2_with fail
 refine(mn hM u.out).mono ?_;rintro n y ⟨p,s1,A,z,rfl,l,B⟩;clear a;replace c:=c.b B;replace d:=d.b B;replace f:=aa f B;clear B;have a:=c.cell;have j:=c.frozen
 go_upto_region 2 with (fail)
 clear a j;generalize q:(((y.setCell _ _).setCell _ _).setCell _ _).setCell _ _=C at *;have g:=ae.of4 c q;replace d:=d.s g;replace f:=bn f g (by omega);replace c:=g.box;clear g q
 by_cases k:p=0
 ·subst k;have hz:=l.zero_iff.1 rfl;subst hz
  have v:Fq 1 (!up) 9223372036854775808 (-1048576) r:=Fq.fin (by decide) (by decide) (by decide) (by decide) (by rw[<-m.out];cases up <;> rfl)
  clear l;have a:=c.cell
  go_wp2_with fail
  refine(nT).mono ?_;rintro n t ⟨rfl,B⟩;clear a;replace c:=c.b B;replace d:=d.b B;replace f:=aa f B;clear B;have h:=d.cell;have e:=d.frozen;have a:=c.cell;go_wp2;clear h e a;have g:=ae.t4 d 1 (!up) 9223372036854775808 (-1048576)
  exact bq (by simp[results,results233,go_sem,g.box.cell]) rfl ⟨_,_,_,_,rfl,v,(g.below f.out (by omega))⟩
 ·have e0:(p==0)=false:=by simpa using k
  by_cases hs:s1=up
  ·subst hs;have a:=c.cell
   go_wp2_with fail
   refine(Kq l k m.out).mono ?_;rintro n t ⟨K2,s2,M2,E2,rfl,o,B⟩;clear a;replace c:=c.b B;replace d:=d.b B;replace f:=aa f B;clear B;have h:=d.cell;have e:=d.frozen;have a:=c.cell;go_wp2;clear h e a;have g:=ae.t4 d K2 s2 M2 E2
   exact bq (by simp[results,results233,go_sem,g.box.cell]) rfl ⟨_,_,_,_,rfl,o,(g.below f.out (by omega))⟩
  ·obtain rfl:(!s1)=up:=by cases s1 <;> cases up <;> first | rfl | exact absurd rfl hs
   clear hs
   have e2:(s1==!s1)=false:=by cases s1 <;> rfl
   have a:=c.cell
   go_wp2_with fail
   refine(J5 l k m.out).mono ?_;rintro n t ⟨K2,s2,M2,E2,rfl,o,B⟩;clear a;replace c:=c.b B;replace d:=d.b B;replace f:=aa f B;clear B;have h:=d.cell;have e:=d.frozen;have a:=c.cell;go_wp2;clear h e a;have g:=ae.t4 d K2 s2 M2 E2
   exact bq (by simp[results,results233,go_sem,g.box.cell]) rfl ⟨_,_,_,_,rfl,o,(g.below f.out (by omega))⟩
def fin (s:Bool)(M E:Int)(aw:Bool):Int:=aj s (if 1048576 < E then (if aw=true then TP else TP-1)else if E < -1048576 then (if aw=true then 1 else 0)else M-9223372036854775808+1+(E+1048576)*9223372036854775808)
theorem CZ{w:World}{s aw:Bool}{M E r:Int}(h1:9223372036854775808<=M)(h2:LQ M)(hr:fin s M E aw=r):Calls prog 219 #[.bool s,.int .u64 M,.int .i64 E,.bool aw] w (PN w r):=by
 unfold fin at hr
 have k:=dj
 by_cases hb:1048576 < E
 ·rw[if_pos hb]at hr
  by_cases h:aw=true
  ·subst h;rw[if_pos rfl]at hr;have j:=ie hr;clear hr
   go_enter func219,ntmps219
   go_upto_region 1 with (fail)
   generalize a:w.alloc _=w1 at *;obtain⟨d,g⟩:=Bo.en1 a;clear a
   go_wp2_with fail
   refine(nA j.out).mono ?_;rintro m n ⟨K2,s2,M2,E2,rfl,l,B⟩;replace d:=d.b B;replace g:=aa g B;clear B;have e:=d.cell;have c:=d.frozen;go_wp2;clear e c;have f:=ae.t4 d K2 s2 M2 E2;exact bq (by simp[results,results219,go_sem,f.box.cell]) rfl ⟨_,_,_,_,rfl,l,(f.below g.out (by omega))⟩
  ·have h:aw=false:=by simpa using h
   subst h;rw[if_neg (by decide)]at hr
   have i:Fq 1 s 18446744073709551615 1048576 r:=Fq.fin (by decide) (by decide) (by decide) (by decide) hr
   clear hr
   go_enter func219,ntmps219
   go_upto_region 1 with (fail)
   generalize a:w.alloc _=w1 at *;obtain⟨d,g⟩:=Bo.en1 a;clear a;have e:=d.cell;have c:=d.frozen;go_wp2;clear e c;have f:=ae.t4 d 1 s 18446744073709551615 1048576;exact bq (by simp[results,results219,go_sem,f.box.cell]) rfl ⟨_,_,_,_,rfl,i,(f.below g.out (by omega))⟩
 ·rw[if_neg hb]at hr
  by_cases hl:E < -1048576
  ·rw[if_pos hl]at hr
   by_cases h:aw=true
   ·subst h;rw[if_pos rfl]at hr
    have i:Fq 1 s 9223372036854775808 (-1048576) r:=Fq.fin (by decide) (by decide) (by decide) (by decide) hr
    clear hr
    go_enter func219,ntmps219
    go_upto_region 1 with (fail)
    generalize a:w.alloc _=w1 at *;obtain⟨d,g⟩:=Bo.en1 a;clear a;have e:=d.cell;have c:=d.frozen;go_wp2;clear e c;have f:=ae.t4 d 1 s 9223372036854775808 (-1048576);exact bq (by simp[results,results219,go_sem,f.box.cell]) rfl ⟨_,_,_,_,rfl,i,(f.below g.out (by omega))⟩
   ·have h:aw=false:=by simpa using h
    subst h;rw[if_neg (by decide)]at hr
    obtain rfl:0=r:=by rw[<-hr];cases s <;> rfl
    clear hr
    go_enter func219,ntmps219
    go_upto_region 1 with (fail)
    generalize a:w.alloc _=w1 at *;obtain⟨d,g⟩:=Bo.en1 a;clear a;have e:=d.cell;have c:=d.frozen;go_wp2;clear e c;have f:=ae.t4 d 0 false 0 0;exact bq (by simp[results,results219,go_sem,f.box.cell]) rfl ⟨_,_,_,_,rfl,Fq.nought,(f.below g.out (by omega))⟩
  ·rw[if_neg hl]at hr
   have i:Fq 1 s M E r:=Fq.fin h1 h2 (by omega) (by omega) hr
   clear hr
   go_enter func219,ntmps219
   go_upto_region 1 with (fail)
   generalize a:w.alloc _=w1 at *;obtain⟨d,g⟩:=Bo.en1 a;clear a;have e:=d.cell;have c:=d.frozen;go_wp2;clear e c;have f:=ae.t4 d 1 s M E;exact bq (by simp[results,results219,go_sem,f.box.cell]) rfl ⟨_,_,_,_,rfl,i,(f.below g.out (by omega))⟩
def tp (m:Nat):Nat:=m*2^64/2^ac m
theorem iS{m:Nat}(h:m≠0):2^63<=tp m:=by
 unfold tp
 have h1:=blen_le h
 have h2:ac m≠0:=fun e=>h (aI.1 e)
 obtain⟨k,a⟩:∃k,ac m=k+1:=⟨ac m-1,by omega⟩
 rw[a]at h1|-;rw[Nat.le_div_iff_mul_le (Nat.pow_pos (by decide)),Nat.pow_succ,Nat.add_sub_cancel]at *
 have:=Nat.mul_le_mul_right (2^64) h1
 calc 2^63*(2^k*2)=2^k*2^64:=by rw[show (2:Nat)^64=2^63*2 by decide,Nat.mul_comm (2^63) (2^k*2),Nat.mul_assoc,Nat.mul_comm 2 (2^63)]
  _<=m*2^64:=this
theorem fZ (m:Nat):tp m < 2^64:=by
 unfold tp
 rw[Nat.div_lt_iff_lt_mul (Nat.pow_pos (by decide)),Nat.mul_comm (2^64)];exact Nat.mul_lt_mul_of_pos_right (dS m) (Nat.pow_pos (by decide))
theorem fR{m:Nat}(h:m≠0)(t:Nat):ac (m*2^t)=ac m+t:=by
 have:=bE (m*2^t) t (Nat.le_mul_of_pos_left _ (by omega))
 rw[Nat.mul_div_cancel _ (Nat.pow_pos (by decide))]at this
 omega
theorem CF{m:Nat}(h:m≠0)(t:Nat):tp (m*2^t)=tp m:=by
 unfold tp
 rw[fR h,Nat.pow_add,Nat.mul_right_comm m,Nat.mul_div_mul_right _ _ (Nat.pow_pos (by decide))]
theorem sT{m:Nat}(h:64<=ac m):tp m=m/2^(ac m-64):=by
 unfold tp
 rw[show 2^ac m=2^(ac m-64)*2^64 by rw[<-Nat.pow_add];congr 1;omega,Nat.mul_div_mul_right _ _ (Nat.pow_pos (by decide))]
theorem fo{m:Nat}(h:ac m<=64):tp m=m*2^(64-ac m):=by
 unfold tp
 rw[show 2^64=2^(64-ac m)*2^ac m by rw[<-Nat.pow_add];congr 1;omega,<-Nat.mul_assoc,Nat.mul_div_cancel _ (Nat.pow_pos (by decide))]
def xp (m:Nat)(E:Int):Int:=E+(ac m:Nat)-64
def lo (m:Nat)(E:Int):Int:=
 if m=0 then 0 else if 1048576 < xp m E then 19342822337206103650074624 else if xp m E < -1048576 then 0 else (tp m:Int)-9223372036854775808+1+(xp m E+1048576)*9223372036854775808
def ext (m:Nat)(E:Int):Bool:=m==0 || (decide (xp m E<=1048576) && (decide (-1048576<=xp m E) && decide (ac m<=64)))
def hi (m:Nat)(E:Int):Int:=if ext m E=true then lo m E else lo m E+1
def ed (up:Bool)(N E:Int):Int:=aj (decide (N < 0)) (if (up !=decide (N < 0))=true then hi N.natAbs E else lo N.natAbs E)
theorem rY{m:Nat}(h:m≠0)(t:Nat)(E:Int):lo (m*2^t) E=lo m (E+t):=by
 have h2:m*2^t≠0:=Nat.mul_ne_zero h (Nat.ne_of_gt (Nat.pow_pos (by decide)))
 unfold lo
 rw[if_neg h,if_neg h2,CF h]
 unfold xp
 rw[fR h,show E+((ac m+t:Nat):Int)-64=E+(t:Int)+(ac m:Nat)-64 by omega]
theorem qv (m:Nat)(E:Int):0<=lo m E/\lo m E<=19342822337206103650074624:=by
 unfold lo
 have h1:=fZ m
 by_cases h:m=0
 ·rw[if_pos h];omega
 ·rw[if_neg h];have b:=iS h
  by_cases a:1048576 < xp m E
  ·rw[if_pos a];omega
  ·rw[if_neg a]
   by_cases h4:xp m E < -1048576
   ·rw[if_pos h4];omega
   ·rw[if_neg h4]
    omega
def vp (r:Int):Int:=if r<=0 then 0 else ((r-1)%9223372036854775808+9223372036854775808)*2^((r-1) /9223372036854775808-1048576+KK).toNat
def vr (r:Int):Int:=if r < 0 then -vp (-r)else vp r
theorem dK{M E:Int}(h1:9223372036854775808<=M)(h2:LQ M)(h3: -1048576<=E):vp (M-9223372036854775808+1+(E+1048576)*9223372036854775808)=M*2^(E+KK).toNat:=by
 unfold vp
 rw[if_neg (by omega)]
 have e1:(M-9223372036854775808+1+(E+1048576)*9223372036854775808-1)%9223372036854775808+9223372036854775808=M:=by omega
 have e2:(M-9223372036854775808+1+(E+1048576)*9223372036854775808-1) /9223372036854775808-1048576=E:=by omega
 rw[e1,e2]
theorem vR{r:Int}(h:0<=r):vp r < vp (r+1):=by
 by_cases b:r=0
 ·subst b
  have:vp 0=0:=rfl
  rw[this]
  unfold vp
  rw[if_neg (by omega)];exact Int.mul_pos (by omega) (aB _)
 ·obtain⟨q,m,hm,a,e⟩:∃q m:Int,9223372036854775808<=m/\m < 18446744073709551616/\r=m-9223372036854775808+1+(q+1048576)*9223372036854775808:=⟨(r-1) /9223372036854775808-1048576,(r-1)%9223372036854775808+9223372036854775808,by omega,by omega,by omega⟩
  have hq: -1048576<=q:=by omega
  have e0:=dK hm a hq;rw[<-e]at e0;rw[e0]
  by_cases c:m=18446744073709551615
  ·have e1:=dK (M:=9223372036854775808) (E:=q+1) (by omega) (by omega) (by omega)
   rw[show (9223372036854775808:Int)-9223372036854775808+1+(q+1+1048576)*9223372036854775808=r+1 by omega]at e1
   rw[e1,show (q+1+(KK:Int)).toNat=(q+KK).toNat+1 by rw[dL];omega,Int.pow_succ,c,<-Int.mul_assoc,Int.mul_right_comm]
   exact Int.mul_lt_mul_of_pos_right (by omega) (aB _)
  ·have e1:=dK (M:=m+1) (E:=q) (by omega) (by omega) hq
   rw[show m+1-9223372036854775808+1+(q+1048576)*9223372036854775808=r+1 by omega]at e1
   rw[e1];exact Int.mul_lt_mul_of_pos_right (by omega) (aB _)
theorem lM (r:Int):vr r < vr (r+1):=by
 unfold vr
 by_cases h:0<=r
 ·rw[if_neg (by omega),if_neg (by omega)];exact vR h
 ·rw[if_pos (by omega)]
  have:=vR (r:= -(r+1)) (by omega)
  rw[show -(r+1)+1= -r by omega]at this
  by_cases h2:r+1 < 0
  ·rw[if_pos h2]
   omega
  ·rw[if_neg h2]
   have e:r+1=0:=by omega
   rw[e]at this|-
   rw[show vp (-0)=0 from rfl]at this
   rw[show vp 0=0 from rfl]
   omega
theorem CS (r:Int):∀n:Nat,vr r < vr (r+(n+1:Nat))
 | 0=>lM r
 | n+1=>by
  have h1:=CS r n;have h2:=lM (r+(n+1:Nat))
  rw[show r+((n+1+1:Nat):Int)=r+((n+1:Nat):Int)+1 by omega]
  omega
theorem iZ{r t:Int}(h:r < t):vr r < vr t:=by
 have:=CS r (t-r-1).toNat
 rwa [show r+(((t-r-1).toNat+1:Nat):Int)=t by omega]at this
theorem Ig (r t:Int):ag (vr r) (vr t)=ag r t:=by
 rcases aO r t with⟨a1,a2⟩ | ⟨a1,a2⟩ | ⟨a1,a2⟩ <;> rw[a2]
 ·exact aq (iZ a1)
 ·exact aW (by rw[a1])
 ·exact az (iZ a1)
theorem aF (r:Int):vr (-r)= -vr r:=by
 unfold vr
 by_cases h:r < 0
 ·rw[if_neg (by omega),if_pos h,Int.neg_neg]
 ·by_cases h2:r=0
  ·subst h2;rfl
  ·rw[if_pos (by omega),if_neg h,Int.neg_neg]
theorem Ii (s:Bool)(r:Int):vr (aj s r)=aj s (vr r):=by
 cases s
 ·rfl
 ·exact aF r
theorem I2{m:Nat}{E:Int}(h:m≠0)(h1:xp m E<=1048576)(h2: -1048576<=xp m E)(hE: -(KK:Int)<=E)(ho:m%2=1):
  vr (lo m E)<=(m:Int)*2^(E+KK).toNat/\(m:Int)*2^(E+KK).toNat < vr (lo m E+1)/\(ext m E=true->vr (lo m E)=(m:Int)*2^(E+KK).toNat)/\(ext m E=false->vr (lo m E) < (m:Int)*2^(E+KK).toNat):=by
 have l:=iS h;have o:=fZ m;have k:=dL
 have hb:0<=lo m E:=(qv m E).1
 have c:lo m E=(tp m:Int)-9223372036854775808+1+(xp m E+1048576)*9223372036854775808:=by
  unfold lo
  rw[if_neg h,if_neg (by omega),if_neg (by omega)]
 have f:vr (lo m E)=(tp m:Int)*2^(xp m E+KK).toNat:=by
  unfold vr
  rw[if_neg (by omega),c];exact dK (by omega) (by omega) h2
 have g:ext m E=decide (ac m<=64):=by
  unfold ext
  rw[show (m==0)=false by simpa using h,dt h1,dt h2]
  rfl
 have d:vr (lo m E+1)=((tp m:Int)+1)*2^(xp m E+KK).toNat:=by
  unfold vr
  rw[if_neg (by omega),c]
  by_cases i:(tp m:Int)=18446744073709551615
  ·have e1:=dK (M:=9223372036854775808) (E:=xp m E+1) (by omega) (by omega) (by omega)
   rw[show (tp m:Int)-9223372036854775808+1+(xp m E+1048576)*9223372036854775808+1=(9223372036854775808:Int)-9223372036854775808+1+(xp m E+1+1048576)*9223372036854775808 by omega,e1,show (xp m E+1+(KK:Int)).toNat=(xp m E+KK).toNat+1 by omega,Int.pow_succ,i,<-Int.mul_assoc,Int.mul_right_comm]
   rfl
  ·have e1:=dK (M:=(tp m:Int)+1) (E:=xp m E) (by omega) (by omega) h2
   rw[show (tp m:Int)-9223372036854775808+1+(xp m E+1048576)*9223372036854775808+1=(tp m:Int)+1-9223372036854775808+1+(xp m E+1048576)*9223372036854775808 by omega,e1]
 rw[f,d,g]
 by_cases hl:ac m<=64
 ·have e1:(m:Int)*2^(E+KK).toNat=(tp m:Int)*2^(xp m E+KK).toNat:=by
   have hx:(xp m E+KK).toNat+(64-ac m)=(E+KK).toNat:=by unfold xp at h2|-;omega
   rw[fo hl,<-hx,Int.pow_add]
   push_cast
   rw[Int.mul_assoc,Int.mul_comm (2^(64-ac m))]
  have a:=aB (xp m E+KK).toNat;rw[e1,dt hl]
  refine⟨Int.le_refl _,Int.mul_lt_mul_of_pos_right (by omega) a,fun _=>rfl,fun h=>by cases h⟩
 ·have hd:=Nat.div_add_mod m (2^(ac m-64))
  have hm:=Nat.mod_lt m (Nat.pow_pos (n:=ac m-64) (show 0 < 2 by decide))
  have j:m%2^(ac m-64)≠0:=by
   intro e
   have:2 ∣ m:=Nat.dvd_trans (show 2 ∣ 2^(ac m-64)from ⟨2^(ac m-64-1),by rw[<-Nat.pow_succ'];congr 1;omega⟩) (Nat.dvd_of_mod_eq_zero e)
   omega
  rw[<-sT (by omega)]at hd
  have e1:(2:Int)^(xp m E+KK).toNat=2^(ac m-64)*2^(E+KK).toNat:=by
   rw[<-Int.pow_add]
   congr 1
   unfold xp
   omega
  have a:=aB (E+KK).toNat
  have c1:(tp m:Int)*2^(ac m-64) < (m:Int):=by
   have:tp m*2^(ac m-64) < m:=by rw[Nat.mul_comm];omega
   exact_mod_cast this
  have c2:(m:Int) < ((tp m:Int)+1)*2^(ac m-64):=by
   have:m < (tp m+1)*2^(ac m-64):=by rw[Nat.mul_comm,Nat.mul_add,Nat.mul_one];omega
   exact_mod_cast this
  have b:=Int.mul_lt_mul_of_pos_right c1 a;have l2:=Int.mul_lt_mul_of_pos_right c2 a;rw[Int.mul_assoc]at b l2;rw[e1,df hl]
  exact⟨Int.le_of_lt b,l2,fun h=>(by cases h),fun _=>b⟩
theorem xe (z:Int)(q:Nat)(w:World)(h0:0<=z)(hz:z<=18446744073709551615)(h1:4294967296<=z)(h2:65536<=z/4294967296)(h3:256<=z/4294967296/65536)(hq:q<=8)
  (hi:∀W,(Instr.index 9 (.string Lib.len8tab) (.int .u8 (z/4294967296/65536/256))).run prog W= .ok (.int .u8 (q:Int)) W):
  Calls prog 184 #[.int .u64 z] w fun e w'=>e= .returned (.int .i64 (56+q:Int))/\w=w':=by
 go_enter func184,ntmps184
 go_wp2
 go_ret
 exact⟨rfl,rfl⟩
theorem xd (z:Int)(q:Nat)(w:World)(h0:0<=z)(hz:z<=18446744073709551615)(h1:4294967296<=z)(h2:65536<=z/4294967296)(h3:z/4294967296/65536 < 256)(hq:q<=8)
  (hi:∀W,(Instr.index 9 (.string Lib.len8tab) (.int .u8 (z/4294967296/65536))).run prog W= .ok (.int .u8 (q:Int)) W):
  Calls prog 184 #[.int .u64 z] w fun e w'=>e= .returned (.int .i64 (48+q:Int))/\w=w':=by
 go_enter func184,ntmps184
 go_wp2
 go_ret
 exact⟨rfl,rfl⟩
theorem xc (z:Int)(q:Nat)(w:World)(h0:0<=z)(hz:z<=18446744073709551615)(h1:4294967296<=z)(h2:z/4294967296 < 65536)(h3:256<=z/4294967296)(hq:q<=8)
  (hi:∀W,(Instr.index 9 (.string Lib.len8tab) (.int .u8 (z/4294967296/256))).run prog W= .ok (.int .u8 (q:Int)) W):
  Calls prog 184 #[.int .u64 z] w fun e w'=>e= .returned (.int .i64 (40+q:Int))/\w=w':=by
 go_enter func184,ntmps184
 go_wp2
 go_ret
 exact⟨rfl,rfl⟩
theorem wZ (z:Int)(q:Nat)(w:World)(h0:0<=z)(hz:z<=18446744073709551615)(h1:4294967296<=z)(h2:z/4294967296 < 65536)(h3:z/4294967296 < 256)(hq:q<=8)
  (hi:∀W,(Instr.index 9 (.string Lib.len8tab) (.int .u8 (z/4294967296))).run prog W= .ok (.int .u8 (q:Int)) W):
  Calls prog 184 #[.int .u64 z] w fun e w'=>e= .returned (.int .i64 (32+q:Int))/\w=w':=by
 go_enter func184,ntmps184
 go_wp2
 go_ret
 exact⟨rfl,rfl⟩
theorem wY (z:Int)(q:Nat)(w:World)(h0:0<=z)(hz:z<=18446744073709551615)(h1:z < 4294967296)(h2:65536<=z)(h3:256<=z/65536)(hq:q<=8)
  (hi:∀W,(Instr.index 9 (.string Lib.len8tab) (.int .u8 (z/65536/256))).run prog W= .ok (.int .u8 (q:Int)) W):
  Calls prog 184 #[.int .u64 z] w fun e w'=>e= .returned (.int .i64 (24+q:Int))/\w=w':=by
 go_enter func184,ntmps184
 go_wp2
 go_ret
 exact⟨rfl,rfl⟩
theorem wX (z:Int)(q:Nat)(w:World)(h0:0<=z)(hz:z<=18446744073709551615)(h1:z < 4294967296)(h2:65536<=z)(h3:z/65536 < 256)(hq:q<=8)
  (hi:∀W,(Instr.index 9 (.string Lib.len8tab) (.int .u8 (z/65536))).run prog W= .ok (.int .u8 (q:Int)) W):
  Calls prog 184 #[.int .u64 z] w fun e w'=>e= .returned (.int .i64 (16+q:Int))/\w=w':=by
 go_enter func184,ntmps184
 go_wp2
 go_ret
 exact⟨rfl,rfl⟩
theorem wW (z:Int)(q:Nat)(w:World)(h0:0<=z)(hz:z<=18446744073709551615)(h1:z < 4294967296)(h2:z < 65536)(h3:256<=z)(hq:q<=8)
  (hi:∀W,(Instr.index 9 (.string Lib.len8tab) (.int .u8 (z/256))).run prog W= .ok (.int .u8 (q:Int)) W):
  Calls prog 184 #[.int .u64 z] w fun e w'=>e= .returned (.int .i64 (8+q:Int))/\w=w':=by
 go_enter func184,ntmps184
 go_wp2
 go_ret
 exact⟨rfl,rfl⟩
theorem wV (z:Int)(q:Nat)(w:World)(h0:0<=z)(hz:z<=18446744073709551615)(h1:z < 4294967296)(h2:z < 65536)(h3:z < 256)(hq:q<=8)
  (hi:∀W,(Instr.index 9 (.string Lib.len8tab) (.int .u8 (z))).run prog W= .ok (.int .u8 (q:Int)) W):
  Calls prog 184 #[.int .u64 z] w fun e w'=>e= .returned (.int .i64 (0+q:Int))/\w=w':=by
 go_enter func184,ntmps184
 go_wp2
 go_ret
 exact⟨ao (by omega),rfl⟩
theorem xf (x:Nat)(hx:x < 18446744073709551616)(w:World):
  Calls prog 184 #[.int .u64 (x:Int)] w fun e w'=>e= .returned (.int .i64 (ac x:Int))/\w=w':=by
 by_cases b:4294967296<=x
 ·have a:=bE (x) 32 (by omega)
  rw[show 2^32=4294967296 by decide]at a
  by_cases h1:65536<=x/4294967296
  ·have s1:=bE (x/4294967296) 16 (by omega)
   rw[show 2^16=65536 by decide]at s1
   by_cases h2:256<=x/4294967296/65536
   ·have s2:=bE (x/4294967296/65536) 8 (by omega)
    rw[show 2^8=256 by decide]at s2
    have:=xe (x:Int) (ac (x/4294967296/65536/256)) w (by omega) (by omega) (by omega) (by omega) (by omega) (ai (by omega)) (fun W=>bP W (x/4294967296/65536/256) (by omega))
    exact this.mono fun e w' h=>⟨h.1.trans (ao (by omega)),h.2⟩
   ·have:=xd (x:Int) (ac (x/4294967296/65536)) w (by omega) (by omega) (by omega) (by omega) (by omega) (ai (by omega)) (fun W=>bP W (x/4294967296/65536) (by omega))
    exact this.mono fun e w' h=>⟨h.1.trans (ao (by omega)),h.2⟩
  ·by_cases h2:256<=x/4294967296
   ·have s2:=bE (x/4294967296) 8 (by omega)
    rw[show 2^8=256 by decide]at s2
    have:=xc (x:Int) (ac (x/4294967296/256)) w (by omega) (by omega) (by omega) (by omega) (by omega) (ai (by omega)) (fun W=>bP W (x/4294967296/256) (by omega))
    exact this.mono fun e w' h=>⟨h.1.trans (ao (by omega)),h.2⟩
   ·have:=wZ (x:Int) (ac (x/4294967296)) w (by omega) (by omega) (by omega) (by omega) (by omega) (ai (by omega)) (fun W=>bP W (x/4294967296) (by omega))
    exact this.mono fun e w' h=>⟨h.1.trans (ao (by omega)),h.2⟩
 ·by_cases h1:65536<=x
  ·have s1:=bE (x) 16 (by omega)
   rw[show 2^16=65536 by decide]at s1
   by_cases h2:256<=x/65536
   ·have s2:=bE (x/65536) 8 (by omega)
    rw[show 2^8=256 by decide]at s2
    have:=wY (x:Int) (ac (x/65536/256)) w (by omega) (by omega) (by omega) (by omega) (by omega) (ai (by omega)) (fun W=>bP W (x/65536/256) (by omega))
    exact this.mono fun e w' h=>⟨h.1.trans (ao (by omega)),h.2⟩
   ·have:=wX (x:Int) (ac (x/65536)) w (by omega) (by omega) (by omega) (by omega) (by omega) (ai (by omega)) (fun W=>bP W (x/65536) (by omega))
    exact this.mono fun e w' h=>⟨h.1.trans (ao (by omega)),h.2⟩
  ·by_cases h2:256<=x
   ·have s2:=bE (x) 8 (by omega)
    rw[show 2^8=256 by decide]at s2
    have:=wW (x:Int) (ac (x/256)) w (by omega) (by omega) (by omega) (by omega) (by omega) (ai (by omega)) (fun W=>bP W (x/256) (by omega))
    exact this.mono fun e w' h=>⟨h.1.trans (ao (by omega)),h.2⟩
   ·have:=wV (x:Int) (ac (x)) w (by omega) (by omega) (by omega) (by omega) (by omega) (ai (by omega)) (fun W=>bP W (x) (by omega))
    exact this.mono fun e w' h=>⟨h.1.trans (ao (by omega)),h.2⟩
theorem ib{x:Nat}{z a:Int}(w:World)(hx:x < 18446744073709551616)(hz:(x:Int)=z)(ha:64-(ac x:Int)=a):
  Calls prog 118 #[.int .u64 z] w (PI w a):=by
 have hb:=ai (n:=x) (k:=64) hx;subst hz;subst ha
 go_enter func118,ntmps118
 go_wp2_with (go_at_call 184;refine(xf x hx _).mono ?_;rintro e w' ⟨rfl,rfl⟩)
 go_ret
 exact⟨rfl,Below.refl _ _⟩
theorem FO{n:Int}(h0:n≠0)(h1: -9223372036854775808<=n)(h2:n<=9223372036854775807):Fq 1 (decide (n < 0)) ((tp n.natAbs:Nat):Int) (-(64-(ac n.natAbs:Int))) (aj (decide (n < 0)) (lo n.natAbs 0)):=by
 have hm:n.natAbs≠0:=by omega
 have a1:=iS hm;have a2:=fZ n.natAbs;have a3:=ai (n:=n.natAbs) (k:=64) (by omega);refine Fq.fin (by omega) (by omega) (by omega) (by omega) ?_
 congr 1
 unfold lo xp
 rw[if_neg hm,if_neg (by omega),if_neg (by omega)]
 omega
theorem Bm{n:Int}(h0:n≠0)(h1: -9223372036854775808<=n)(h2:n<=9223372036854775807):(n.natAbs:Int)*2^(64-(ac n.natAbs:Int)).toNat=((tp n.natAbs:Nat):Int):=by
 have a3:=ai (n:=n.natAbs) (k:=64) (by omega)
 rw[fo a3,show (64-(ac n.natAbs:Int)).toNat=64-ac n.natAbs by omega]
 push_cast
 rfl
theorem AW{n r:Int}(w:World)(h1: -9223372036854775808<=n)(h2:n<=9223372036854775807)(hr:aj (decide (n < 0)) (lo n.natAbs 0)=r):Calls prog 47 #[.int .i64 n] w (PN w r):=by
 by_cases q:n=0
 ·subst q
  obtain rfl:0=r:=hr
  go_enter func47,ntmps47
  go_upto_region 1 with (fail)
  generalize c:w.alloc _=w1 at *;obtain⟨f,h⟩:=Bo.en1 c;clear c;have g:=f.cell;have d:=f.frozen;go_wp2;clear g d;have j:=ae.t4 f 0 false 0 0;exact bq (by simp[results,results47,go_sem,j.box.cell]) rfl ⟨_,_,_,_,rfl,Fq.nought,(j.below h.out (by omega))⟩
 ·have i:=FO q h1 h2;have hs:=Bm q h1 h2
  have e0:(n==0)=false:=by simpa using q
  have hx:n.natAbs < 18446744073709551616:=by omega
  have hb:=ai (n:=n.natAbs) (k:=64) (by omega);have z:=fZ n.natAbs;rw[hr]at i;clear hr
  by_cases C:n < 0
  ·obtain⟨a,m⟩:∃a,64-(ac n.natAbs:Int)=a:=⟨_,rfl⟩
   have p:((n.natAbs:Nat):Int)= -n:=by omega
   rw[m]at i hs;rw[p]at hs
   have hd:decide (n < 0)=true:=by simp;omega
   rw[hd]at i;have t:=ie m;have u:=ie p;obtain⟨T,s⟩:∃T,((tp n.natAbs:Nat):Int)=T:=⟨_,rfl⟩;rw[s]at i hs
   have l:0<=T/\T < 18446744073709551616:=by omega
   have v:=ie hs
   have x:=ie (show IntKind.u64.wrap T=T from IntWalk.u64_in _ (by omega))
   have a1:0<=a:=by omega
   have o:ac n.natAbs≠0:=fun e=>q (by have:=aI.1 e;omega)
   have a2:a < 64:=by omega
   clear o;clear hs m hb z s p l
   go_enter func47,ntmps47
   go_upto_region 1 with (fail)
   generalize c:w.alloc _=w1 at *;obtain⟨f,h⟩:=Bo.en1 c;clear c
   have y:n.natAbs < 18446744073709551616:=hx
   have F:IntKind.u64.wrap (-IntKind.u64.wrap n)= -n:=by
    show (-(n%18446744073709551616))%18446744073709551616= -n
    omega
   go_wp2_with fail
   refine(ib _ hx u.out t.out).mono ?_;rintro A E ⟨rfl,B⟩;replace f:=f.b B;replace h:=aa h B;clear B;have hs:=v.out;have D:=x.out;have g:=f.cell;have d:=f.frozen;go_wp2;clear g d;have j:=ae.t4 f 1 true T (-a);exact bq (by simp[results,results47,go_sem,j.box.cell]) rfl ⟨_,_,_,_,rfl,i,(j.below h.out (by omega))⟩
  ·obtain⟨a,m⟩:∃a,64-(ac n.natAbs:Int)=a:=⟨_,rfl⟩
   have p:((n.natAbs:Nat):Int)=n:=by omega
   rw[m]at i hs;rw[p]at hs
   have hd:decide (n < 0)=false:=by simp;omega
   rw[hd]at i;have t:=ie m;have u:=ie p;obtain⟨T,s⟩:∃T,((tp n.natAbs:Nat):Int)=T:=⟨_,rfl⟩;rw[s]at i hs
   have l:0<=T/\T < 18446744073709551616:=by omega
   have v:=ie hs
   have x:=ie (show IntKind.u64.wrap T=T from IntWalk.u64_in _ (by omega))
   have a1:0<=a:=by omega
   have o:ac n.natAbs≠0:=fun e=>q (by have:=aI.1 e;omega)
   have a2:a < 64:=by omega
   clear o;clear hs m hb z s p l
   go_enter func47,ntmps47
   go_upto_region 1 with (fail)
   generalize c:w.alloc _=w1 at *;obtain⟨f,h⟩:=Bo.en1 c;clear c
   have y:n.natAbs < 18446744073709551616:=hx
   go_wp2_with fail
   refine(ib _ hx u.out t.out).mono ?_;rintro A E ⟨rfl,B⟩;replace f:=f.b B;replace h:=aa h B;clear B;have hs:=v.out;have D:=x.out;have g:=f.cell;have d:=f.frozen;go_wp2;clear g d;have j:=ae.t4 f 1 false T (-a);exact bq (by simp[results,results47,go_sem,j.box.cell]) rfl ⟨_,_,_,_,rfl,i,(j.below h.out (by omega))⟩
def Nl (w:World)(A:Option Addr)(n c:Nat)(l:List Int):Prop:=
 l.length=n/\n<=c/\n<=1099511627776/\(0 < n->∃b o,A=some ⟨b,o,none⟩/\∀k,k < n->∃D s M E,w.cell? ⟨b,o+k*4,none⟩=some (.int .i64 D)/\w.cell? ⟨b,o+k*4+1,none⟩=some (.bool s)/\w.cell? ⟨b,o+k*4+2,none⟩=some (.int .u64 M)/\w.cell? ⟨b,o+k*4+3,none⟩=some (.int .i64 E)/\M < 18446744073709551616/\rk D s M E=l.getD k 0)
theorem Nl.below{w w':World}{A:Option Addr}{n c:Nat}{l:List Int}(h:Nl w A n c l)(hb:Below w.heap.size w w'):Nl w' A n c l:=by
 obtain⟨h1,h2,a,h4⟩:=h
 refine⟨h1,h2,a,fun hn=>?_⟩
 obtain⟨b,o,e,f⟩:=h4 hn
 refine⟨b,o,e,fun k hk=>?_⟩
 obtain⟨D,s,M,E,c0,c1,c2,c3,d,g⟩:=f k hk;exact⟨D,s,M,E,(hb.cell (p:=⟨b,_,none⟩) (block_lt_of_cell c0)).trans c0,(hb.cell (p:=⟨b,_,none⟩) (block_lt_of_cell c1)).trans c1,(hb.cell (p:=⟨b,_,none⟩) (block_lt_of_cell c2)).trans c2,(hb.cell (p:=⟨b,_,none⟩) (block_lt_of_cell c3)).trans c3,d,g⟩
abbrev Nl.b:= @Nl.below
def Jo.Fact.nl (n:Nat)(l:List Int):Jo.Fact:=⟨fun v w=>∃A c,v= .slice A n c/\Nl w A n c l,fun v w w' h b=>by
 obtain⟨A,c,e,h⟩:=h;exact⟨A,c,e,h.below b⟩⟩
def Jo.Fact.num (r:Int):Jo.Fact:=⟨fun v w=>∃K s M E,v= .agg #[.int .i64 K,.bool s,.int .u64 M,.int .i64 E]/\Fq K s M E r,fun v w w' h b=>h⟩
def oc (l:List Int):Int:=l.foldl min TP
def mW (l:List Int):Int:=l.foldl max (-TP)
theorem qA{l:List Int}{k:Nat}(h:k < l.length):oc (l.take (k+1))=min (oc (l.take k)) (l.getD k 0):=by
 unfold oc
 rw[List.take_succ_eq_append_getElem h,List.foldl_append]
 simp[List.getD_eq_getElem?_getD,h]
theorem qB{l:List Int}{k:Nat}(h:k < l.length):mW (l.take (k+1))=max (mW (l.take k)) (l.getD k 0):=by
 unfold mW
 rw[List.take_succ_eq_append_getElem h,List.foldl_append]
 simp[List.getD_eq_getElem?_getD,h]
def yo (w:World)(g3:Nat)(r:Int)(wr:World):Prop:=
 ∃K s M E,Bo wr w.heap.size #[.int .i64 0,.bool false,.int .u64 0,.int .i64 0] 24/\Bo wr g3 #[.int .i64 K,.bool s,.int .u64 M,.int .i64 E] 24/\Fq K s M E r/\Below w.heap.size w wr
theorem r9{w:World}{A:Option Addr}{n c:Nat}{l:List Int}{r:Int}(h:Nl w A n c l)(hr:oc l=r):Calls prog 115 #[.slice A n c] w (PN w r):=by
 have HR:=ie hr;have u:=ie h.1;have bA:=h.2.1;have Z:=h.2.2.1;have v:=h;clear hr
 go_enter func115,ntmps115
 go_upto_region 1 with (fail)
 generalize y:w.alloc _=w1 at *;obtain⟨a,d⟩:=Bo.en1 y;replace h:=h.below d.out;clear y
 go_wp2_with fail
 refine(iQ (s:=false) rfl).mono ?_;rintro W T ⟨H,s1,I,G,rfl,q,B⟩;replace a:=a.b B;replace h:=h.b B;replace d:=aa d B;clear B
 go_upto_region 2 with (fail)
 have bB:=a.lt;have bD:=Nat.le_refl (World.heap T).size;have P:=a.lt;generalize g:T.alloc _=w3 at *;obtain⟨e,m⟩:=Bo.nw g;clear g;replace a:=a.b m;replace h:=h.b m;replace d:=aa d m;clear m
 go_wp2_with fail
 generalize T.heap.size=g3 at *;clear h w1
 go_loopw [9] (fun i wr=>∃k:Nat,k<=n/\i= .int .i64 k/\yo w g3 (oc (l.take k)) wr) (fun i _=>n-(intOf i).toNat)
 case atStart=>exact ⟨0,Nat.zero_le _,rfl,_,_,_,_,a,e,q,d.out⟩
 case round=>
  obtain⟨k,hk,rfl,hI⟩:=hrel;obtain⟨H,s1,I,G,a,e,q,N⟩:=hI;have d:=ie N;have h:=v.below N;clear N
  by_cases hlt:k < n
  ·obtain⟨b,o,rfl,hcell⟩:=h.2.2.2 (by omega);obtain⟨D,s,M,E,c0,c1,c2,c3,X,hx⟩:=hcell k hlt;clear hcell h v;have ht:=qA (l:=l) (k:=k) (by rw[u.out];exact hlt);rw[<-hx]at ht;generalize oc (l.take k)=R at *;obtain⟨x,L⟩:∃x,rk D s M E=x:=⟨_,rfl⟩;rw[L]at ht;have HX:=ie L;have V:=ie ht;obtain⟨z,hz⟩:∃z,ag x R=z:=⟨_,rfl⟩
   have HZ:=ie (show ag (rk D s M E) (rk H s1 I G)=z by rw[L,q.rk];exact hz)
   clear ht L hx
   have i1:(k:Int) < n:=by omega
   have i2:(0:Int)<=k:=by omega
   go_upto_region 5 with (fail)
   have bC:=e.lt;have S:=a.lt;have Q:=e.lt;generalize g:wr.alloc _=w3 at *;obtain⟨J,m⟩:=Bo.nw g;clear g;replace a:=a.b m;replace e:=e.b m;replace d:=aa d m;clear m;clear c0 c1 c2 c3;have j:=e.cell;have t:=J.cell
   go_wp2_with fail
   refine(j5 X q.top HZ.out).mono ?_;rintro W w4 ⟨rfl,B⟩;clear j t;replace a:=a.b B;replace e:=e.b B;replace J:=J.b B;replace d:=aa d B;clear B
   by_cases hb:x < R
   ·obtain rfl: -1=z:=by rw[<-hz,aq hb]
    have f:=V.out
    rw[show min R x=x by omega]at f
    have t:=J.cell
    go_wp2_with fail
    refine(mn X HX.out).mono ?_;rintro W w5 ⟨K2,s2,M2,E2,rfl,q2,B⟩;clear t;replace a:=a.b B;replace e:=e.b B;replace d:=aa d B;clear B;have j:=e.cell;have C:=e.frozen
    go_upto_region 7 with (fail)
    clear j C;generalize Y:(((w5.setCell _ _).setCell _ _).setCell _ _).setCell _ _=w6 at *;have p:=ae.of4 e Y;replace a:=a.s p;replace d:=bn d p (by omega);replace e:=p.box;clear p Y;go_wp2
    go_roundw
    case rel=>
     refine⟨k+1,by omega,by go_num,K2,s2,M2,E2,a,e,?_,d.out⟩
     rw[f];exact q2
    case measure=>simp [intOf];omega
   ·have f:=V.out
    rw[show min R x=R by omega]at f
    have O:¬z < 0:=by
     rw[<-hz]
     rcases aO x R with⟨a1,a2⟩ | ⟨a1,a2⟩ | ⟨a1,a2⟩ <;> rw[a2] <;> omega
    have e0:decide (z < 0)=false:=df O
    go_wp2
    go_roundw
    case rel=>
     refine⟨k+1,by omega,by go_num,H,s1,I,G,a,e,?_,d.out⟩
     rw[f];exact q
    case measure=>simp [intOf];omega
  ·obtain rfl:k=n:=by omega
   rw[List.take_of_length_le (by rw[u.out];omega),HR.out]at q;have U:=a.cell;have F:=a.frozen;have j:=e.cell;go_wp2;clear U F j;have p:=ae.t4 a H s1 I G;exact bq (by simp[results,results115,go_sem,p.box.cell]) rfl ⟨_,_,_,_,rfl,q,(p.below d.out (by omega))⟩
theorem qD{w:World}{A:Option Addr}{n c:Nat}{l:List Int}{r:Int}(h:Nl w A n c l)(hr:mW l=r):Calls prog 114 #[.slice A n c] w (PN w r):=by
 have HR:=ie hr;have u:=ie h.1;have bA:=h.2.1;have Z:=h.2.2.1;have v:=h;clear hr
 go_enter func114,ntmps114
 go_upto_region 1 with (fail)
 generalize y:w.alloc _=w1 at *;obtain⟨a,d⟩:=Bo.en1 y;replace h:=h.below d.out;clear y
 go_wp2_with fail
 refine(iQ (s:=true) rfl).mono ?_;rintro W T ⟨H,s1,I,G,rfl,q,B⟩;replace a:=a.b B;replace h:=h.b B;replace d:=aa d B;clear B
 go_upto_region 2 with (fail)
 have bB:=a.lt;have bD:=Nat.le_refl (World.heap T).size;have P:=a.lt;generalize g:T.alloc _=w3 at *;obtain⟨e,m⟩:=Bo.nw g;clear g;replace a:=a.b m;replace h:=h.b m;replace d:=aa d m;clear m
 go_wp2_with fail
 generalize T.heap.size=g3 at *;clear h w1
 go_loopw [9] (fun i wr=>∃k:Nat,k<=n/\i= .int .i64 k/\yo w g3 (mW (l.take k)) wr) (fun i _=>n-(intOf i).toNat)
 case atStart=>exact ⟨0,Nat.zero_le _,rfl,_,_,_,_,a,e,q,d.out⟩
 case round=>
  obtain⟨k,hk,rfl,hI⟩:=hrel;obtain⟨H,s1,I,G,a,e,q,N⟩:=hI;have d:=ie N;have h:=v.below N;clear N
  by_cases hlt:k < n
  ·obtain⟨b,o,rfl,hcell⟩:=h.2.2.2 (by omega);obtain⟨D,s,M,E,c0,c1,c2,c3,X,hx⟩:=hcell k hlt;clear hcell h v;have ht:=qB (l:=l) (k:=k) (by rw[u.out];exact hlt);rw[<-hx]at ht;generalize mW (l.take k)=R at *;obtain⟨x,L⟩:∃x,rk D s M E=x:=⟨_,rfl⟩;rw[L]at ht;have HX:=ie L;have V:=ie ht;obtain⟨z,hz⟩:∃z,ag x R=z:=⟨_,rfl⟩
   have HZ:=ie (show ag (rk D s M E) (rk H s1 I G)=z by rw[L,q.rk];exact hz)
   clear ht L hx
   have i1:(k:Int) < n:=by omega
   have i2:(0:Int)<=k:=by omega
   go_upto_region 5 with (fail)
   have bC:=e.lt;have S:=a.lt;have Q:=e.lt;generalize g:wr.alloc _=w3 at *;obtain⟨J,m⟩:=Bo.nw g;clear g;replace a:=a.b m;replace e:=e.b m;replace d:=aa d m;clear m;clear c0 c1 c2 c3;have j:=e.cell;have t:=J.cell
   go_wp2_with fail
   refine(j5 X q.top HZ.out).mono ?_;rintro W w4 ⟨rfl,B⟩;clear j t;replace a:=a.b B;replace e:=e.b B;replace J:=J.b B;replace d:=aa d B;clear B
   by_cases hb:R < x
   ·obtain rfl:1=z:=by rw[<-hz,az hb]
    have f:=V.out
    rw[show max R x=x by omega]at f
    have t:=J.cell
    go_wp2_with fail
    refine(mn X HX.out).mono ?_;rintro W w5 ⟨K2,s2,M2,E2,rfl,q2,B⟩;clear t;replace a:=a.b B;replace e:=e.b B;replace d:=aa d B;clear B;have j:=e.cell;have C:=e.frozen
    go_upto_region 7 with (fail)
    clear j C;generalize Y:(((w5.setCell _ _).setCell _ _).setCell _ _).setCell _ _=w6 at *;have p:=ae.of4 e Y;replace a:=a.s p;replace d:=bn d p (by omega);replace e:=p.box;clear p Y;go_wp2
    go_roundw
    case rel=>
     refine⟨k+1,by omega,by go_num,K2,s2,M2,E2,a,e,?_,d.out⟩
     rw[f];exact q2
    case measure=>simp [intOf];omega
   ·have f:=V.out
    rw[show max R x=R by omega]at f
    have O:¬0 < z:=by
     rw[<-hz]
     rcases aO x R with⟨a1,a2⟩ | ⟨a1,a2⟩ | ⟨a1,a2⟩ <;> rw[a2] <;> omega
    have e0:decide (0 < z)=false:=df O
    go_wp2
    go_roundw
    case rel=>
     refine⟨k+1,by omega,by go_num,H,s1,I,G,a,e,?_,d.out⟩
     rw[f];exact q
    case measure=>simp [intOf];omega
  ·obtain rfl:k=n:=by omega
   rw[List.take_of_length_le (by rw[u.out];omega),HR.out]at q;have U:=a.cell;have F:=a.frozen;have j:=e.cell;go_wp2;clear U F j;have p:=ae.t4 a H s1 I G;exact bq (by simp[results,results114,go_sem,p.box.cell]) rfl ⟨_,_,_,_,rfl,q,(p.below d.out (by omega))⟩
theorem Io{w:World}{A:Option Addr}{n c:Nat}{l:List Int}{r:Int}(h:Nl w A n c l)(hr:oc l=r):Calls prog 166 #[.slice A n c] w (PN w r):=by
 have HR:=ie hr;have v:=ie h.1;have Z:=h.2.1;have Y:=h.2.2.1;have F:=h;clear hr
 go_enter func166,ntmps166
 go_upto_region 1 with (fail)
 generalize G:w.alloc _=w1 at *;obtain⟨a,d⟩:=Bo.en1 G;replace h:=h.below d.out;clear G
 go_wp2_with fail
 refine(nA (s:=false) rfl).mono ?_;rintro V S ⟨y,s1,C,u,rfl,t,B⟩;replace a:=a.b B;replace h:=h.b B;replace d:=aa d B;clear B
 go_upto_region 2 with (fail)
 have bH:=a.lt;have bN:=Nat.le_refl (World.heap S).size;have Q:=a.lt;generalize H:S.alloc _=w3 at *;obtain⟨f,L⟩:=Bo.nw H;clear H;replace a:=a.b L;replace h:=h.b L;replace d:=aa d L;clear L
 go_wp2_with fail
 generalize S.heap.size=g3 at *;clear h w1
 go_loopw [4] (fun i wr=>∃k:Nat,k<=n/\i= .int .i64 k/\yo w g3 (oc (l.take k)) wr) (fun i _=>n-(intOf i).toNat)
 case atStart=>exact ⟨0,Nat.zero_le _,rfl,_,_,_,_,a,f,t,d.out⟩
 case round=>
  obtain⟨k,hk,rfl,hI⟩:=hrel;obtain⟨y,s1,C,u,a,f,t,O⟩:=hI;have d:=ie O;have h:=F.below O;clear O
  by_cases hlt:k < n
  ·obtain⟨b,o,rfl,hcell⟩:=h.2.2.2 (by omega);obtain⟨D,s,M,E,c0,c1,c2,c3,W,hx⟩:=hcell k hlt;clear hcell h F;have ht:=qA (l:=l) (k:=k) (by rw[v.out];exact hlt);rw[<-hx]at ht;generalize oc (l.take k)=R at *;obtain⟨x,N⟩:∃x,rk D s M E=x:=⟨_,rfl⟩;rw[N]at ht;have HX:=ie N;have U:=ie ht;obtain⟨z,hz⟩:∃z,ag x R=z:=⟨_,rfl⟩
   have HZ:=ie (show ag (rk D s M E) (rk y s1 C u)=z by rw[N,t.rk];exact hz)
   clear ht N hx
   have i1:(k:Int) < n:=by omega
   have i2:(0:Int)<=k:=by omega
   go_upto_region 5 with (fail)
   refine jk [0,1,2,3,4,5,6] [some 12,some 13,some 14,some 15,some 16,some 17,some 18] [[],[],[0,1],[2],[],[3,4],[5]] 7 0 [Jo.Fact.eq (.slice (some ⟨b,o,none⟩) n c),Jo.qi k,Jo.Fact.eq (.pointer (some ⟨b,o+k*4,none⟩)),Jo.q4 D s M E,Jo.q4 y s1 C u,Jo.qi z,Jo.Fact.eq (.bool (decide (z < 0)))] ?_ ?_
   ·iterate 3 (refine jm ?_ ?_;rotate_left)
    refine jm ?_ ?_
    ·rintro wj e _ rfl K m;simp only[Jo.z]at m|-
     have bA:=(e.cell (p:=⟨b,_,none⟩) (block_lt_of_cell c0)).trans c0
     have bB:=(e.cell (p:=⟨b,_,none⟩) (block_lt_of_cell c1)).trans c1
     have bC:=(e.cell (p:=⟨b,_,none⟩) (block_lt_of_cell c2)).trans c2
     have bD:=(e.cell (p:=⟨b,_,none⟩) (block_lt_of_cell c3)).trans c3
     go_simp;exact m.out _ _ rfl (br _ _)
    refine jm ?_ ?_;rotate_left
    refine jm ?_ ?_
    ·rintro wj e _ rfl _ rfl K m;simp only[Jo.z]at m|-;go_simp;refine(mT W t.top HZ.out).mono ?_;rintro V wk ⟨rfl,B⟩;exact m.out _ _ rfl B
    refine jm ?_ ?_;rotate_left
    exact jo
    all_goals (rintro wj e;(repeat rintro _ rfl);intro K m;simp only[Jo.z]at m|-;have j:=(f.b e).cell;go_simp;exact m.out _ _ rfl (br _ _))
   rintro w4 e _ rfl _ rfl _ _ _ rfl _ rfl _ rfl _ rfl -;simp only[Jo.z];replace a:=a.b e;replace f:=f.b e;replace d:=aa d e;refine jd ?_;replace c0:=(e.cell (p:=⟨b,_,none⟩) (block_lt_of_cell c0)).trans c0;replace c1:=(e.cell (p:=⟨b,_,none⟩) (block_lt_of_cell c1)).trans c1;replace c2:=(e.cell (p:=⟨b,_,none⟩) (block_lt_of_cell c2)).trans c2
   replace c3:=(e.cell (p:=⟨b,_,none⟩) (block_lt_of_cell c3)).trans c3
   by_cases hb:x < R
   ·obtain rfl: -1=z:=by rw[<-hz,aq hb]
    have g:=U.out
    rw[show min R x=x by omega]at g
    go_wp2_with fail
    refine(kO W HX.out).mono ?_;rintro V w5 ⟨K2,s2,M2,E2,rfl,q2,B⟩;replace a:=a.b B;replace f:=f.b B;replace d:=aa d B;clear B;have j:=f.cell;have I:=f.frozen
    go_upto_region 4 with (fail)
    clear j I;generalize X:(((w5.setCell _ _).setCell _ _).setCell _ _).setCell _ _=w6 at *;have q:=ae.of4 f X;replace a:=a.s q;replace d:=bn d q (by omega);replace f:=q.box;clear q X;go_wp2
    go_roundw
    case rel=>
     refine⟨k+1,by omega,by go_num,K2,s2,M2,E2,a,f,?_,d.out⟩
     rw[g];exact q2
    case measure=>simp [intOf];omega
   ·have g:=U.out
    rw[show min R x=R by omega]at g
    have P:¬z < 0:=by
     rw[<-hz]
     rcases aO x R with⟨a1,a2⟩ | ⟨a1,a2⟩ | ⟨a1,a2⟩ <;> rw[a2] <;> omega
    have e0:decide (z < 0)=false:=df P
    go_wp2
    go_roundw
    case rel=>
     refine⟨k+1,by omega,by go_num,y,s1,C,u,a,f,?_,d.out⟩
     rw[g];exact t
    case measure=>simp [intOf];omega
  ·obtain rfl:k=n:=by omega
   rw[List.take_of_length_le (by rw[v.out];omega),HR.out]at t;have T:=a.cell;have J:=a.frozen;have j:=f.cell;go_wp2;clear T J j;have q:=ae.t4 a y s1 C u;exact bq (by simp[results,results166,go_sem,q.box.cell]) rfl ⟨_,_,_,_,rfl,t,(q.below d.out (by omega))⟩
theorem JF{w:World}{A:Option Addr}{n c:Nat}{l:List Int}{r:Int}(h:Nl w A n c l)(hr:mW l=r):Calls prog 167 #[.slice A n c] w (PN w r):=by
 have HR:=ie hr;have v:=ie h.1;have Z:=h.2.1;have Y:=h.2.2.1;have F:=h;clear hr
 go_enter func167,ntmps167
 go_upto_region 1 with (fail)
 generalize G:w.alloc _=w1 at *;obtain⟨a,d⟩:=Bo.en1 G;replace h:=h.below d.out;clear G
 go_wp2_with fail
 refine(nA (s:=true) rfl).mono ?_;rintro V S ⟨y,s1,C,u,rfl,t,B⟩;replace a:=a.b B;replace h:=h.b B;replace d:=aa d B;clear B
 go_upto_region 2 with (fail)
 have bH:=a.lt;have bN:=Nat.le_refl (World.heap S).size;have Q:=a.lt;generalize H:S.alloc _=w3 at *;obtain⟨f,L⟩:=Bo.nw H;clear H;replace a:=a.b L;replace h:=h.b L;replace d:=aa d L;clear L
 go_wp2_with fail
 generalize S.heap.size=g3 at *;clear h w1
 go_loopw [4] (fun i wr=>∃k:Nat,k<=n/\i= .int .i64 k/\yo w g3 (mW (l.take k)) wr) (fun i _=>n-(intOf i).toNat)
 case atStart=>exact ⟨0,Nat.zero_le _,rfl,_,_,_,_,a,f,t,d.out⟩
 case round=>
  obtain⟨k,hk,rfl,hI⟩:=hrel;obtain⟨y,s1,C,u,a,f,t,O⟩:=hI;have d:=ie O;have h:=F.below O;clear O
  by_cases hlt:k < n
  ·obtain⟨b,o,rfl,hcell⟩:=h.2.2.2 (by omega);obtain⟨D,s,M,E,c0,c1,c2,c3,W,hx⟩:=hcell k hlt;clear hcell h F;have ht:=qB (l:=l) (k:=k) (by rw[v.out];exact hlt);rw[<-hx]at ht;generalize mW (l.take k)=R at *;obtain⟨x,N⟩:∃x,rk D s M E=x:=⟨_,rfl⟩;rw[N]at ht;have HX:=ie N;have U:=ie ht;obtain⟨z,hz⟩:∃z,ag x R=z:=⟨_,rfl⟩
   have HZ:=ie (show ag (rk D s M E) (rk y s1 C u)=z by rw[N,t.rk];exact hz)
   clear ht N hx
   have i1:(k:Int) < n:=by omega
   have i2:(0:Int)<=k:=by omega
   go_upto_region 5 with (fail)
   refine jk [0,1,2,3,4,5,6] [some 12,some 13,some 14,some 15,some 16,some 17,some 18] [[],[],[0,1],[2],[],[3,4],[5]] 7 0 [Jo.Fact.eq (.slice (some ⟨b,o,none⟩) n c),Jo.qi k,Jo.Fact.eq (.pointer (some ⟨b,o+k*4,none⟩)),Jo.q4 D s M E,Jo.q4 y s1 C u,Jo.qi z,Jo.Fact.eq (.bool (decide (0 < z)))] ?_ ?_
   ·iterate 3 (refine jm ?_ ?_;rotate_left)
    refine jm ?_ ?_
    ·rintro wj e _ rfl K m;simp only[Jo.z]at m|-
     have bA:=(e.cell (p:=⟨b,_,none⟩) (block_lt_of_cell c0)).trans c0
     have bB:=(e.cell (p:=⟨b,_,none⟩) (block_lt_of_cell c1)).trans c1
     have bC:=(e.cell (p:=⟨b,_,none⟩) (block_lt_of_cell c2)).trans c2
     have bD:=(e.cell (p:=⟨b,_,none⟩) (block_lt_of_cell c3)).trans c3
     go_simp;exact m.out _ _ rfl (br _ _)
    refine jm ?_ ?_;rotate_left
    refine jm ?_ ?_
    ·rintro wj e _ rfl _ rfl K m;simp only[Jo.z]at m|-;go_simp;refine(mT W t.top HZ.out).mono ?_;rintro V wk ⟨rfl,B⟩;exact m.out _ _ rfl B
    refine jm ?_ ?_;rotate_left
    exact jo
    all_goals (rintro wj e;(repeat rintro _ rfl);intro K m;simp only[Jo.z]at m|-;have j:=(f.b e).cell;go_simp;exact m.out _ _ rfl (br _ _))
   rintro w4 e _ rfl _ rfl _ _ _ rfl _ rfl _ rfl _ rfl -;simp only[Jo.z];replace a:=a.b e;replace f:=f.b e;replace d:=aa d e;refine jd ?_;replace c0:=(e.cell (p:=⟨b,_,none⟩) (block_lt_of_cell c0)).trans c0;replace c1:=(e.cell (p:=⟨b,_,none⟩) (block_lt_of_cell c1)).trans c1;replace c2:=(e.cell (p:=⟨b,_,none⟩) (block_lt_of_cell c2)).trans c2
   replace c3:=(e.cell (p:=⟨b,_,none⟩) (block_lt_of_cell c3)).trans c3
   by_cases hb:R < x
   ·obtain rfl:1=z:=by rw[<-hz,az hb]
    have g:=U.out
    rw[show max R x=x by omega]at g
    go_wp2_with fail
    refine(kO W HX.out).mono ?_;rintro V w5 ⟨K2,s2,M2,E2,rfl,q2,B⟩;replace a:=a.b B;replace f:=f.b B;replace d:=aa d B;clear B;have j:=f.cell;have I:=f.frozen
    go_upto_region 4 with (fail)
    clear j I;generalize X:(((w5.setCell _ _).setCell _ _).setCell _ _).setCell _ _=w6 at *;have q:=ae.of4 f X;replace a:=a.s q;replace d:=bn d q (by omega);replace f:=q.box;clear q X;go_wp2
    go_roundw
    case rel=>
     refine⟨k+1,by omega,by go_num,K2,s2,M2,E2,a,f,?_,d.out⟩
     rw[g];exact q2
    case measure=>simp [intOf];omega
   ·have g:=U.out
    rw[show max R x=R by omega]at g
    have P:¬0 < z:=by
     rw[<-hz]
     rcases aO x R with⟨a1,a2⟩ | ⟨a1,a2⟩ | ⟨a1,a2⟩ <;> rw[a2] <;> omega
    have e0:decide (0 < z)=false:=df P
    go_wp2
    go_roundw
    case rel=>
     refine⟨k+1,by omega,by go_num,y,s1,C,u,a,f,?_,d.out⟩
     rw[g];exact t
    case measure=>simp [intOf];omega
  ·obtain rfl:k=n:=by omega
   rw[List.take_of_length_le (by rw[v.out];omega),HR.out]at t;have T:=a.cell;have J:=a.frozen;have j:=f.cell;go_wp2;clear T J j;have q:=ae.t4 a y s1 C u;exact bq (by simp[results,results167,go_sem,q.box.cell]) rfl ⟨_,_,_,_,rfl,t,(q.below d.out (by omega))⟩
end Go.Proofs.YtomikokonmikgaaGreatDoor
namespace Go.Proofs.YtomikokonmikgaaGreatDoor
open Go.Proofs.Tryz
open Go.RowKit
set_option linter.unusedVariables false
open Go in
theorem Jo.n1{P:Program}{f:FuncId}{a:Array Value}{w:World}{Q:Ending->World->Prop}{R:Value->World->Prop}{z:Int}(h:Calls P f a w (PN w z))(hR:∀v w',(Jo.Fact.num z).P v w'->Jo.Grow w w'->R v w')(hQ:∀v w',R v w'->Q (.returned v) w':=by exact fun _ _ h=>h):Calls P f a w Q:=by
 refine h.mono ?_
 rintro e w' ⟨K,s,M,E,rfl,p,B⟩
 exact hQ _ _ (hR _ _ ⟨K,s,M,E,rfl,p⟩ B)
end Go.Proofs.YtomikokonmikgaaGreatDoor
namespace Go.Proofs.YtomikokonmikgaaGreatDoor.Jo
open Go.Proofs.Tryz
open Go Go.RowKit
set_option linter.unusedVariables false
structure Off (g:Nat) (new:Array Value) (R:TypeId) (w w':World):Prop where
 os:w'.os=w.os
 tape:w'.tape=w.tape
 output:w'.output=w.output
 size:w.heap.size<=w'.heap.size
 block:∀k,k < w.heap.size->k≠g->w'.heap[k]?=w.heap[k]?
 own:w'.heap[g]?=w.heap[g]?\/w'.heap[g]?=some (.cells new R (0,0))
section
variable {g:Nat} {new:Array Value} {R:TypeId} {w w' w'':World}
theorem Off.refl (g:Nat)(new:Array Value)(R:TypeId)(w:World):Off g new R w w:=⟨rfl,rfl,rfl,Nat.le_refl _,fun _ _ _=>rfl,.inl rfl⟩
theorem Off.drew (w:World):Off g new R w w.drew:=⟨rfl,rfl,rfl,Nat.le_refl _,fun _ _ _=>rfl,.inl rfl⟩
theorem Off.trans (h:Off g new R w w')(k:Off g new R w' w''):Off g new R w w'':=
 ⟨k.os.trans h.os,k.tape.trans h.tape,k.output.trans h.output,Nat.le_trans h.size k.size,fun i hi hn=>(k.block i (Nat.lt_of_lt_of_le hi h.size) hn).trans (h.block i hi hn),by
  rcases k.own with e | e
  ·rcases h.own with f | f
   ·exact .inl (e.trans f)
   ·exact .inr (e.trans f)
  ·exact .inr e⟩
theorem Off.of_below (h:Below w.heap.size w w')(hg:g < w.heap.size):Off g new R w w':=⟨h.os,h.tape,h.output,h.size,fun k hk _=>h.block k hk,.inl (h.block g hg)⟩
theorem Off.of_stn{old:Array Value}(S:ae w w' g old new R):Off g new R w w':=by
 have hb:=S.2.2.2 0 w (Nat.zero_le _) (Below.refl 0 w)
 exact⟨hb.os,hb.tape,hb.output,hb.size,fun k _ hn=>S.2.2.1 k hn,.inr S.2.1⟩
theorem Off.below{B:Nat}{a:World}(O:Off g new R w w')(h:Below B a w)(hB:B<=g)(hg:g < w.heap.size):Below B a w':=
 ⟨O.os.trans h.os,O.tape.trans h.tape,O.output.trans h.output,Nat.le_trans h.size O.size,fun k hk=>(O.block k (by omega) (by omega)).trans (h.block k hk)⟩
abbrev Off.b:= @Off.below
theorem _root_.Go.Proofs.YtomikokonmikgaaGreatDoor.Bo.off{k:Nat}{cs:Array Value}{T:TypeId}(X:Bo w k cs T)(hk:k≠g)(O:Off g new R w w'):Bo w' k cs T:=X.keep (O.block k X.lt hk)
theorem _root_.Go.Proofs.YtomikokonmikgaaGreatDoor.Nm.off{old:Array Value}{B:Option Addr}{m d a:Nat}(h:Nm w B m d a)(X:Bo w g old R)(hn:old.all no32=true)(O:Off g new R w w'):Nm w' B m d a:=by
 obtain⟨b,h⟩:=h
 exact⟨b,h.keep fun hm=>O.block b (h.lt hm) (fun e=>by
  obtain⟨o,_,c⟩:=h.at hm
  have:=c 0 hm
  rw[e]at this
  exact X.no hn this)⟩
theorem _root_.Go.Proofs.YtomikokonmikgaaGreatDoor.Rd.off{old:Array Value}{B:Option Addr}{m d a:Nat}(h:Rd w B m d a)(X:Bo w g old R)(hn:old.all no32=true)(O:Off g new R w w'):Rd w' B m d a:=by
 obtain⟨b,xs,h,e⟩:=h
 exact⟨b,xs,h.keep fun hm=>O.block b (h.lt hm) (fun e=>by
  obtain⟨o,_,c⟩:=h.at hm
  have:=c 0 hm
  rw[e]at this
  exact X.no hn this),e⟩
end
structure LFact (g:Nat) (new:Array Value) (R:TypeId) where
 P:Value->World->Prop
 keep:∀v w w',P v w->Off g new R w w'->P v w'
section
variable {g:Nat} {new:Array Value} {R:TypeId}
def LFact.any:LFact g new R:=⟨fun _ _=>True,fun _ _ _ h _=>h⟩
def LFact.eq (u:Value):LFact g new R:=⟨fun v _=>v=u,fun _ _ _ h _=>h⟩
def LFact.done:LFact g new R:=⟨fun _ w=>Bo w g new R,fun v w w' h o=>by
 rcases o.own with e | e
 ·exact h.keep e
 ·exact e⟩
def lphi (F:List (LFact g new R))(i:Nat)(v:Value)(w:World):Prop:=(F.getD i LFact.any).P v w
variable {P:Program} {ops:Array Oper} {Q:Exit->Act->World->Prop} {a0:Act} {T:List Nat} {ds:List (Option Tmp)} {ls:List (List Nat)} {k:Nat} {F:List (LFact g new R)} {J:World->Prop}
theorem lcons{i:Nat}{o:Oper}{r:List Nat}{di:Option Tmp}{L:List (Option Tmp × Nat)}{f:LFact g new R}(ho:ops[i]?=some o)(hdi:ds.getD i none=di)(hL:((ls.getD i []).map fun j=>(ds.getD j none,j))=L)(hf:F.getD i LFact.any=f)
  (h:∀vs w,J w->(∀j ∈ ls.getD i [],lphi F j (vs j) w)->∀K:Act->World->Prop,Shut (∀v w',f.P v w'->Off g new R w w'->K ((putl vs L a0).put di v) w')->
   if Region.wanted o (yielded ops (putl vs L a0).tmps)=true then Oper.wp P o (putl vs L a0) w K Q else K ((putl vs L a0).put o.dst undef) w)
  (hs:Steps P ops Q a0 (dstOf ds) (depOf ls) (lphi F) J (Off g new R) r):Steps P ops Q a0 (dstOf ds) (depOf ls) (lphi F) J (Off g new R) (i::r):=by
 refine Steps.cons ho (fun vs w hJ hd K hK=>?_) hs
 have e:base (dstOf ds) vs (depOf ls i) a0=putl vs L a0:=by
  rw[eZ,<-hL]
  rfl
 rw[e]at hK|-
 refine h vs w hJ hd K ?_
 intro v w' h1 h2
 have:=hK.out v w' (by unfold lphi;rw[hf];exact h1) h2
 rwa [show dstOf ds i=di from hdi]at this
theorem region_late{id fuel:Nat}{w:World}{L:List (Option Tmp × Nat)}(hm:P.follows .mixedOrders=true)(hok:ok .any ops T (dstOf ds) (depOf ls) k a0.tmps.size=true)(hnd:T.Nodup)
  (hL:(T.map fun j=>(ds.getD j none,j))=L) (hfu:ops.size-T.length=fuel)
  (step:Steps P ops (NoPanic Q) a0 (dstOf ds) (depOf ls) (lphi F) (fun wj=>Off g new R w wj) (Off g new R) T)
  (fin:∀vs wj,Off g new R w wj->(∀j ∈ T,lphi F j (vs j) wj)->wpAny P .any ops (NoPanic Q) fuel (mark T ops.size) (putl vs L a0) wj):
  (Code.region id ops true).wp P Q a0 w:=by
 refine wp_region_noPanic ?_
 refine iC (T:=T) (dst:=dstOf ds) (D:=depOf ls) (k:=k) (Φ:=lphi F) (J:=fun wj=>Off g new R w wj) (St:=Off g new R) hm hok hnd (fun _ _ _ _ h=>h) (fun i _ v w w' h b=>(F.getD i LFact.any).keep v w w' h b) (fun _ _ h b=>h.trans b) (Off.drew w) step ?_
 intro vs w a hd
 have e:base (dstOf ds) vs T a0=putl vs L a0:=by
  rw[eZ,<-hL]
  rfl
 rw[e,hfu]
 exact fin vs w a hd
end
end Go.Proofs.YtomikokonmikgaaGreatDoor.Jo
namespace Go.Proofs.YtomikokonmikgaaGreatDoor
open Go.Proofs.Tryz
open Go.RowKit
set_option linter.unusedVariables false
open Go in
theorem Jo.ld{g:Nat}{new:Array Value}{R:TypeId}{P:Program}{ops:Array Oper}{Q:Exit->Act->World->Prop}{a0:Act}{ds:List (Option Tmp)}{ls:List (List Nat)}{F:List (Jo.LFact g new R)}{J:World->Prop}(i:Nat)(di:Option Tmp)(L:List (Option Tmp × Nat))(f:Jo.LFact g new R){o:Oper}{r:List Nat}(ho:ops[i]?=some o)(hdi:ds.getD i none=di)(hL:((ls.getD i []).map fun j=>(ds.getD j none,j))=L)(hf:F.getD i Jo.LFact.any=f)
  (h:∀vs w,J w->(∀j ∈ ls.getD i [],Jo.lphi F j (vs j) w)->∀K:Act->World->Prop,Shut (∀v w',f.P v w'->Jo.Off g new R w w'->K ((Jo.putl vs L a0).put di v) w')->
   if Region.wanted o (yielded ops (Jo.putl vs L a0).tmps)=true then Oper.wp P o (Jo.putl vs L a0) w K Q else K ((Jo.putl vs L a0).put o.dst undef) w)
  (hs:Jo.Steps P ops Q a0 (Jo.dstOf ds) (Jo.depOf ls) (Jo.lphi F) J (Jo.Off g new R) r):Jo.Steps P ops Q a0 (Jo.dstOf ds) (Jo.depOf ls) (Jo.lphi F) J (Jo.Off g new R) (i::r):=Jo.lcons ho hdi hL hf h hs
open Go in
theorem Jo.lm{P:Program}{ops:Array Oper}{Q:Exit->Act->World->Prop}{a0:Act}{ds:List (Option Tmp)}{ls:List (List Nat)}{g:Nat}{new:Array Value}{R:TypeId}{F:List (Jo.LFact g new R)}{J:World->Prop}{i:Nat}{o:Oper}{r:List Nat}(ho:ops[i]?=some o)
  (h:∀w,J w->Jo.ad (Jo.lphi F) ds w (ls.getD i []) fun l=>∀K:Act->World->Prop,Shut (∀v w',Jo.lphi F i v w'->Jo.Off g new R w w'->K ((Jo.pv l a0).put (ds.getD i none) v) w')->
   if Region.wanted o (yielded ops (Jo.pv l a0).tmps)=true then Oper.wp P o (Jo.pv l a0) w K Q else K ((Jo.pv l a0).put o.dst undef) w)
  (hs:Jo.Steps P ops Q a0 (Jo.dstOf ds) (Jo.depOf ls) (Jo.lphi F) J (Jo.Off g new R) r):Jo.Steps P ops Q a0 (Jo.dstOf ds) (Jo.depOf ls) (Jo.lphi F) J (Jo.Off g new R) (i::r):=
 Jo.lcons ho rfl rfl rfl (fun vs w hJ hd=>by
  have:=Jo.ad_out vs _ _ (h w hJ) hd
  simp only[Jo.pv_map]at this
  exact this) hs
open Go in
theorem Jo.rl{P:Program}{ops:Array Oper}{Q:Exit->Act->World->Prop}{a0:Act}{id:Nat}{w:World}(g:Nat)(new:Array Value)(R:TypeId)(T:List Nat)(ds:List (Option Tmp))(ls:List (List Nat))(k:Nat)(fuel:Nat)(F:List (Jo.LFact g new R))
  (hm:P.follows .mixedOrders=true) (hok:Jo.ok .any ops T (Jo.dstOf ds) (Jo.depOf ls) k a0.tmps.size=true) (hnd:T.Nodup) (hfu:ops.size-T.length=fuel)
  (step:Jo.Steps P ops (NoPanic Q) a0 (Jo.dstOf ds) (Jo.depOf ls) (Jo.lphi F) (fun wj=>Jo.Off g new R w wj) (Jo.Off g new R) T)
  (fin:∀wj,Jo.Off g new R w wj->Jo.ad (Jo.lphi F) ds wj T fun l=>True->wpAny P .any ops (NoPanic Q) fuel (Jo.mark T ops.size) (Jo.pv l a0) wj):
  (Code.region id ops true).wp P Q a0 w:=
 Jo.region_late hm hok hnd rfl hfu step fun vs wj hJ hd=>by
  have:=Jo.ad_out vs _ _ (fin wj hJ) hd
  rw[Jo.pv_map]at this
  exact this trivial
abbrev Jo.k9{g:Nat}{new:Array Value}{R:TypeId}(e:Bool)(D:Int)(s:Bool)(M E:Int)(D':Int)(s':Bool)(M' E':Int):Jo.LFact g new R:=Jo.LFact.eq (.agg #[.bool e,.int .i64 D,.bool s,.int .u64 M,.int .i64 E,.int .i64 D',.bool s',.int .u64 M',.int .i64 E'])
abbrev Jo.kp{g:Nat}{new:Array Value}{R:TypeId}(h i:Nat):Jo.LFact g new R:=Jo.LFact.eq (.pointer (some ⟨h,i,none⟩))
end Go.Proofs.YtomikokonmikgaaGreatDoor
namespace Go.Proofs.YtomikokonmikgaaGreatDoor
open Go.Proofs.Tryz
set_option maxHeartbeats 2000000
open Go.RowKit
set_option linter.unusedVariables false
set_option maxRecDepth 100000
theorem Gv{w:World}{A:Option Addr}{n c:Nat}{s:Bool}{N E mV r:Int}(h:Wn w s A n c N)(hn:n<=100000)(h0:mV<=E)(h1:E-mV<=8388608)(hr:N*((2^(E-mV).toNat:Nat):Int)=r):
  Calls prog 248 #[.agg #[.bool s,.slice A n c,.int .i64 E],.int .i64 mV] w (W1 w (n+(E-mV).toNat/32+1) r):=by
 have C:=ie hr;clear hr;obtain⟨d,hd⟩:∃d,E-mV=d:=⟨_,rfl⟩
 have H:Hid (IntKind.i64.wrap (E-mV)=d):=ie (by rw[hd];exact IntWalk.i64_in _ (by omega))
 rw[hd]at h1
 have u:0<=d:=by omega
 rw[hd]at C|-;clear hd h0
 go_enter func248,ntmps248
 go_wp2_with fail
 have q:=(Bo.new w #[.bool s,.slice A n c,.int .i64 E] 124).below (af _ (.cells #[.bool false,.slice none 0 0] 27));have j:=Bo.newAt (w.alloc (.cells #[.bool s,.slice A n c,.int .i64 E] 124)) (g:=w.heap.size+1) (by simp) #[.bool false,.slice none 0 0] 27;replace h:=h.below (bK w (.cells #[.bool s,.slice A n c,.int .i64 E] 124) (.cells #[.bool false,.slice none 0 0] 27))
 have o:=ie (bK w (.cells #[.bool s,.slice A n c,.int .i64 E] 124) (.cells #[.bool false,.slice none 0 0] 27));generalize t:(w.alloc (.cells #[.bool s,.slice A n c,.int .i64 E] 124)).alloc (.cells #[.bool false,.slice none 0 0] 27)=w1 at *;clear t;go_wp2;refine jk [0,1,2,3,4,5,6,7,8,9,10,11] [some 5,some 6,some 7,some 8,some 9,some 10,some 11,some 12,some 13,some 14,some 15,some 16,none] [[],[0],[1],[],[3],[4],[],[6],[],[7,8],[5,9],[2,10],[]] 13 1 [Jo.qp w.heap.size 0,Jo.qp w.heap.size 0,Jo.qb s,Jo.qp w.heap.size 0,Jo.qp w.heap.size 1,Jo.Fact.eq (.slice A n c),Jo.qp w.heap.size 2,Jo.qi E,Jo.qi mV,Jo.qi d,Jo.Fact.nm (N.natAbs*2^d.toNat) (n+d.toNat/32+1),Jo.Fact.wn r (n+d.toNat/32+1),Jo.Fact.any] ?_ ?_
 ·iterate 2 (refine jm ?_ ?_;rotate_left)
  refine jm ?_ ?_
  ·rintro i f _ rfl K e;simp only[Jo.z]at e|-;have D:=(q.b f).a 0 (.bool s) rfl;go_simp;exact e.out _ _ rfl (br _ _)
  iterate 2 (refine jm ?_ ?_;rotate_left)
  refine jm ?_ ?_
  ·rintro i f _ rfl K e;simp only[Jo.z]at e|-;have F:=(q.b f).a 1 (.slice A n c) rfl;go_simp;exact e.out _ _ rfl (br _ _)
  refine jm ?_ ?_;rotate_left
  refine jm ?_ ?_
  ·rintro i f _ rfl K e;simp only[Jo.z]at e|-;have G:=(q.b f).a 2 (.int .i64 E) rfl;go_simp;exact e.out _ _ rfl (br _ _)
  refine jm ?_ ?_;rotate_left
  refine jm ?_ ?_
  ·rintro i f _ rfl _ rfl K e;simp only[Jo.z]at e|-;have L:=H.out;go_simp;exact e.out _ _ rfl (br _ _)
  refine jm ?_ ?_
  ·rintro i f _ rfl _ rfl K e;simp only[Jo.z]at e|-;go_simp;refine(Jz (h.b f).1.rd (by omega) u (by omega) rfl).mono ?_;rintro J O ⟨A3,n3,c3,rfl,m,l,B⟩;exact e.out _ _ ⟨A3,n3,c3,rfl,m,l⟩ B
  refine jm ?_ ?_
  ·rintro i f _ rfl _ ⟨A3,n3,c3,rfl,m,l⟩ K e;simp only[Jo.z]at e|-;go_simp;exact e.out _ _ ⟨s,A3,n3,c3,rfl,C.out▸Cj h (Nat.pow_pos (by decide)) m,l⟩ (br _ _)
  exact jo
  all_goals (rintro i f;(repeat rintro _ rfl);intro K e;simp only[Jo.z]at e|-;go_simp;exact e.out _ _ rfl (br _ _))
 rintro M f _ _ _ _ _ rfl _ _ _ _ _ rfl _ _ _ rfl _ rfl _ rfl _ ⟨A3,n3,c3,rfl,m,l⟩ _ ⟨s4,A4,n4,c4,rfl,x,I⟩ -;simp only[Jo.z];replace j:=j.b f;replace o:=aa o f;have y:=j.cell;have k:=j.frozen
 refine jn 12 fun K e=>?_
 go_simp;refine e.out _ _ ?_;clear e K y k;have p:=ae.t2 j s4 A4 n4 c4;replace x:=x.s p;refine jd ?_;go_wp2;exact bq (v:= .agg #[.bool s4,.slice A4 n4 c4]) (by simp[results,results248,go_sem,p.box.cell]) rfl ⟨s4,A4,n4,c4,rfl,x,I,(p.below o.out (by omega))⟩
theorem Gu{w:World}{A:Option Addr}{n c:Nat}{s:Bool}{z e k N E:Int}(hT:dQ w)(h:Wr w s A n c z)(hn:n<=100000)(hN:(mk (mk z e).1 (IntKind.i64.wrap ((mk z e).2+k))).1=N)(hE:(mk (mk z e).1 (IntKind.i64.wrap ((mk z e).2+k))).2=E):
  Calls prog 212 #[.agg #[.bool s,.slice A n c,.int .i64 e],.int .i64 k] w (D1 w n N E):=by
 obtain⟨M,m⟩:∃x,(mk z e).1=x:=⟨_,rfl⟩;obtain⟨F,l⟩:∃x,(mk z e).2=x:=⟨_,rfl⟩;rw[m,l]at hN hE;obtain⟨d,hd⟩:∃x,IntKind.i64.wrap (F+k)=x:=⟨_,rfl⟩;rw[hd]at hN hE;have G:=ie hd;have t:=ie m;have r:=ie l;have I:=ie hN;have H:=ie hE;clear hN hE m l hd
 go_enter func212,ntmps212
 go_upto_region 1 with (fail)
 generalize o:(w.alloc _).alloc _=w1 at *;obtain⟨j,i,g⟩:=Bo.en2 o;replace hT:=hT.below g.out;replace h:=h.below g.out;clear o;have a:=j.cell
 go_wp2_with fail
 refine(oC hT h hn t.out r.out).mono ?_;rintro J L ⟨s1,A1,n1,c1,rfl,u,O,B⟩;clear a;replace j:=j.b B;replace i:=i.b B;replace hT:=hT.b B;replace g:=aa g B;clear B;have a:=j.cell;have p:=j.frozen
 go_upto_region 2 with (fail)
 clear a p;generalize D:((L.setCell _ _).setCell _ _).setCell _ _=Q at *;have f:=ae.of3 j D;replace i:=i.s f;replace hT:=hT.s f;replace u:=u.s f;replace g:=bn g f (by omega);replace j:=f.box;clear f D;have a:=j.cell;have hd:=G.out
 go_wp2_with fail
 refine(tA hT u.wr (by clear hd;omega) I.out H.out).mono ?_;rintro J R ⟨s4,A4,n4,c4,rfl,y,P,B⟩;clear a;replace i:=i.b B;replace g:=aa g B;clear B;clear hd;have C:=i.cell;have q:=i.frozen;go_wp2;clear C q;have f:=ae.mk3 i (.bool s4) (.slice A4 n4 c4) (.int .i64 E);replace y:=y.s f
 exact bq (v:= .agg #[.bool s4,.slice A4 n4 c4,.int .i64 E]) (by simp[results,results212,go_sem,f.box.cell]) rfl ⟨s4,A4,n4,c4,rfl,y,by omega,(f.below g.out (by omega))⟩
theorem wz{w:World}{A:Option Addr}{n c:Nat}{s:Bool}{z e N1 E1 r:Int}(hT:dQ w)(h:Wr w s A n c z)(hn:n<=100000)(HN1:Hid ((mk z e).1=N1))(HE1:Hid ((mk z e).2=E1))(h0:0<=E1)(hb:E1<=4194304)(HR:Hid (N1*((2^(E1-0).toNat:Nat):Int)=r)):
  Calls prog 211 #[.agg #[.bool s,.slice A n c,.int .i64 e]] w (W1 w (n+131100) r):=by
 go_enter func211,ntmps211
 go_upto_region 1 with (fail)
 generalize k:(w.alloc _).alloc _=w1 at *;obtain⟨i,d,a⟩:=Bo.en2 k;replace hT:=hT.below a.out;replace h:=h.below a.out;clear k;have f:=i.cell
 go_wp2_with fail
 refine(oC hT h hn HN1.out HE1.out).mono ?_;rintro t u ⟨s1,A1,n1,c1,rfl,o,C,B⟩;clear f;replace i:=i.b B;replace d:=d.b B;replace a:=aa a B;clear B;have f:=i.cell;have l:=i.frozen
 go_upto_region 2 with (fail)
 clear f l;generalize j:((u.setCell _ _).setCell _ _).setCell _ _=E at *;have g:=ae.of3 i j;replace d:=d.s g;replace o:=o.s g;replace a:=bn a g (by omega);replace i:=g.box;clear g j;have f:=i.cell
 go_wp2_with fail
 refine(Gv o (by omega) h0 (by omega) HR.out).mono ?_;rintro t x ⟨s4,A4,n4,c4,rfl,p,D,B⟩;clear f;replace d:=d.b B;replace a:=aa a B;clear B;have q:=d.cell;have m:=d.frozen;go_wp2;clear q m;generalize j:(x.setCell _ _).setCell _ _=F at *;have g:=ae.of2 d j;replace p:=p.s g
 replace a:=bn a g (by omega);replace d:=g.box;clear g j
 have y:(E1-0).toNat/32<=131072:=by omega
 exact bq (v:= .agg #[.bool s4,.slice A4 n4 c4]) (by simp[results,results211,go_sem,d.cell]) rfl ⟨s4,A4,n4,c4,rfl,p,by omega,a.out⟩
theorem rC{w:World}{A:Option Addr}{n c:Nat}{s:Bool}{z e N1 E1 r:Int}(hT:dQ w)(h:Wr w s A n c z)(hn:n<=100000)(HN1:Hid ((mk z e).1=N1))(HE1:Hid ((mk z e).2=E1))(h0:E1 < 0)(hb: -4194304<=E1)(hs:N1 < 0)(HR:Hid (-((N1.natAbs/2^(-E1).toNat+1:Nat):Int)=r)):
  Calls prog 211 #[.agg #[.bool s,.slice A n c,.int .i64 e]] w (W1 w (n+131100) r):=by
 obtain⟨d,hd⟩:∃d,-E1=d:=⟨_,rfl⟩;have I:=ie hd
 have C:0<=d:=by omega
 have D:d<=4194304:=by omega
 have y:Hid (IntKind.i64.wrap (-E1)=d):=ie (by rw[hd];exact IntWalk.i64_in _ (by omega))
 rw[hd]at HR;clear hd
 go_enter func211,ntmps211
 go_upto_region 1 with (fail)
 generalize k:(w.alloc _).alloc _=w1 at *;obtain⟨f,i,g⟩:=Bo.en2 k;replace hT:=hT.below g.out;replace h:=h.below g.out;clear k;have a:=f.cell
 go_wp2_with fail
 refine(oC hT h hn HN1.out HE1.out).mono ?_;rintro q G ⟨s1,A1,n1,c1,rfl,p,J,B⟩;clear a;replace f:=f.b B;replace i:=i.b B;replace g:=aa g B;clear B;have a:=f.cell;have m:=f.frozen
 go_upto_region 2 with (fail)
 clear a m;generalize u:((G.setCell _ _).setCell _ _).setCell _ _=O at *;have j:=ae.of3 f u;replace i:=i.s j;replace p:=p.s j;replace g:=bn g j (by omega);replace f:=j.box;clear j u
 obtain rfl:s1=true:=by rw[p.2];simp;omega
 have a:=f.cell;have x:=y.out
 go_wp2_with fail
 refine(qY p.1.rd (by clear x;omega) rfl).mono ?_;rintro q P ⟨A3,n3,c3,rfl,E,L,B⟩;clear a;replace f:=f.b B;replace i:=i.b B;replace g:=aa g B;clear B;clear x;have a:=f.cell
 go_wp2_with fail
 refine(Fb (E.rd.below (af _ _)) (jF _) (by omega) (by omega)).mono ?_;rintro q Q ⟨A6,n6,c6,rfl,F,N,B⟩;replace B:=bt (af _ _) B;clear a;replace f:=f.b B;replace i:=i.b B;replace g:=aa g B;clear B;have a:=f.cell
 go_wp2_with fail
 refine(kr true F.rd).mono ?_;rintro q H ⟨s4,A4,n4,c4,rfl,l,M,B⟩;clear a;replace i:=i.b B;replace g:=aa g B;clear B
 replace l:Wn H s4 A4 n4 c4 r:=by
  have e:=HR.out;rw[<-e];exact l
 have t:=i.cell;have o:=i.frozen;go_wp2;clear t o;have j:=ae.t2 i s4 A4 n4 c4;replace l:=l.s j;exact bq (v:= .agg #[.bool s4,.slice A4 n4 c4]) (by simp[results,results211,go_sem,j.box.cell]) rfl ⟨s4,A4,n4,c4,rfl,l,by omega,(j.below g.out (by omega))⟩
theorem rD{w:World}{A:Option Addr}{n c:Nat}{s:Bool}{z e N1 E1 r:Int}(hT:dQ w)(h:Wr w s A n c z)(hn:n<=100000)(HN1:Hid ((mk z e).1=N1))(HE1:Hid ((mk z e).2=E1))(h0:E1 < 0)(hb: -4194304<=E1)(hs:0<=N1)(HR:Hid (((N1.natAbs/2^(-E1).toNat:Nat):Int)=r)):
  Calls prog 211 #[.agg #[.bool s,.slice A n c,.int .i64 e]] w (W1 w (n+131100) r):=by
 obtain⟨d,hd⟩:∃d,-E1=d:=⟨_,rfl⟩;have H:=ie hd
 have C:0<=d:=by omega
 have D:d<=4194304:=by omega
 have y:Hid (IntKind.i64.wrap (-E1)=d):=ie (by rw[hd];exact IntWalk.i64_in _ (by omega))
 rw[hd]at HR;clear hd
 go_enter func211,ntmps211
 go_upto_region 1 with (fail)
 generalize k:(w.alloc _).alloc _=w1 at *;obtain⟨g,i,f⟩:=Bo.en2 k;replace hT:=hT.below f.out;replace h:=h.below f.out;clear k;have a:=g.cell
 go_wp2_with fail
 refine(oC hT h hn HN1.out HE1.out).mono ?_;rintro t F ⟨s1,A1,n1,c1,rfl,p,I,B⟩;clear a;replace g:=g.b B;replace i:=i.b B;replace f:=aa f B;clear B;have a:=g.cell;have m:=g.frozen
 go_upto_region 2 with (fail)
 clear a m;generalize u:((F.setCell _ _).setCell _ _).setCell _ _=M at *;have j:=ae.of3 g u;replace i:=i.s j;replace p:=p.s j;replace f:=bn f j (by omega);replace g:=j.box;clear j u
 obtain rfl:s1=false:=by rw[p.2];simp;omega
 have a:=g.cell;have x:=y.out
 go_wp2_with fail
 refine(qY p.1.rd (by clear x;omega) rfl).mono ?_;rintro t N ⟨A3,n3,c3,rfl,E,J,B⟩;clear a;replace g:=g.b B;replace i:=i.b B;replace f:=aa f B;clear B;clear x;have a:=g.cell
 go_wp2_with fail
 refine(kr false E.rd).mono ?_;rintro t G ⟨s4,A4,n4,c4,rfl,l,L,B⟩;clear a;replace i:=i.b B;replace f:=aa f B;clear B
 replace l:Wn G s4 A4 n4 c4 r:=by
  have e:=HR.out;rw[<-e];exact l
 have q:=i.cell;have o:=i.frozen;go_wp2;clear q o;have j:=ae.t2 i s4 A4 n4 c4;replace l:=l.s j;exact bq (v:= .agg #[.bool s4,.slice A4 n4 c4]) (by simp[results,results211,go_sem,j.box.cell]) rfl ⟨s4,A4,n4,c4,rfl,l,by omega,(j.below f.out (by omega))⟩
theorem Gt{w:World}{A:Option Addr}{n c:Nat}{s:Bool}{z e r:Int}(hT:dQ w)(h:Wr w s A n c z)(hn:n<=100000)(hr:rL (mk z e).1 (mk z e).2=r):
  Calls prog 211 #[.agg #[.bool s,.slice A n c,.int .i64 e]] w (W1 w (n+131100) r):=by
 have hb:=fU z e
 have b:=(ft z e).cases
 by_cases a:0<=(mk z e).2
 ·exact wz hT h hn (ie rfl) (ie rfl) a hb.2 (ie (by rw[<-hr,Int.sub_zero];unfold rL;rw[if_pos a]))
 ·have d:(mk z e).1.natAbs%2=1:=by
   rcases b with e1 | ⟨_,e1,_⟩
   ·rw[e1]at a;simp at a
   ·exact e1
  by_cases hs:(mk z e).1 < 0
  ·exact rC hT h hn (ie rfl) (ie rfl) (by omega) hb.1 hs (ie (by rw[<-hr,DF (by omega) d hs]))
  ·exact rD hT h hn (ie rfl) (ie rfl) (by omega) hb.1 (by omega) (ie (by rw[<-hr,DG (by omega) (by omega)]))
