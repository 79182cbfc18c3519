/-
 Contracts that the proof rests on.
-/
import Derived.Test.YtomikokonmikgaaGreatDoorYTba
import Derived.Test.YtomikokonmikgaaGreatDoorYTbc
namespace Go.Proofs.YtomikokonmikgaaGreatDoor
open Go.Proofs.Tryz
set_option maxHeartbeats 8000000
open Go.RowKit
set_option linter.unusedVariables false
set_option linter.unusedSimpArgs false
set_option maxRecDepth 100000
def JJ (fid:FuncId)(R:Int->Sp->Prop):Prop:=(∀(args:Array Value) (w:World),(callFunc fid args).run prog w= .ok (.enter fid args) w)/\∀(w:World) (D:Int) (s:Bool) (M E x:Int) (z:Sp),dQ w->Tb w->0<=M->M < 18446744073709551616->rk D s M E=x->R x z->Calls prog fid #[.agg #[.int .i64 D,.bool s,.int .u64 M,.int .i64 E]] w (PV w z)
theorem DK{a b:Sp}(ha:aY a):nR [a,b]=bY a b:=by
 show bY (bY none a) b=_
 rw[show bY none a=a by cases a <;> rfl]
theorem Gh{w:World}{fid:FuncId}{R:Int->Sp->Prop}{A:Option Addr}{n c:Nat}{l:List Int}{zs:List Sp}{Z:Sp}(hT:dQ w)(hT2:Tb w)(hq:JJ fid R)(h:Nq w A n c l)(hz:zs.length=n)(hS:∀k,k < n->R (l.getD k 0) (zs.getD k none))(hr:nR zs=Z):Calls prog 100 #[.func (.func fid) #[] #[],.slice A n c] w (PV w Z):=by
 have v:=ie hz;have gP:=h.2.1;have gO:=h.2.2.1;have HQ:=ie hq;have m:=ie hS;have V:=ie hr;clear hz hq hS hr
 go_enter func100,ntmps100
 go_upto_region 1 with (fail)
 generalize I:w.alloc _=w1 at *;obtain⟨o,e⟩:=Bo.en1 I;replace hT:=hT.below e.out;replace hT2:=hT2.below e.out;replace h:=h.below e.out;clear I;have r:=h;clear h;go_wp2
 go_loopw [5,10] (fun va i wr=>∃k A1 c1,k<=n/\va= .slice A1 k c1/\i= .int .i64 ((k:Nat):Int)/\Ia wr w1.heap.size A1 k c1 (zs.take k)/\Below w1.heap.size w1 wr) (fun _ i _=>n-(intOf i).toNat)
 case atStart=>exact ⟨0,_,_,Nat.zero_le _,rfl,rfl,Ia.nil _ _,Below.refl _ _⟩
 case round=>
  obtain⟨k,A3,c3,hk,rfl,rfl,N,hB⟩:=hrel;have a:=ie hB;clear hB
  by_cases hlt:k < n
  ·have bH:decide ((k:Int) < (n:Int))=true:=by simp;omega
   have h:=r.below a.out;obtain⟨b,bo,rfl,hcell⟩:=h.2.2.2 (by omega);obtain⟨D,s,M,E,x0,x1,x2,x3,q⟩:=hcell k hlt;have hv:=m.out k hlt;clear hcell h r
   have i1:(k:Int) < n:=by omega
   have i2:(0:Int)<=k:=by omega
   obtain⟨z,hz⟩:∃z,zs.getD k none=z:=⟨_,rfl⟩;have L:=Js (by rw[v.out];exact hlt) hz;rw[hz]at hv;generalize l.getD k 0=x at *;generalize zs.take k=la at *;have W:=ie L;have HV:=ie hv;clear L hv hz m;have gS:=a.out.size
   go_upto_region 5 with (fail)
   clear x0 x1 x2 x3;generalize J:wr.alloc _=w3 at *;obtain⟨X5,T⟩:=Bo.nw J;clear J;replace N:=N.b T;replace a:=ie (bt a.out T);clear T;have qT:=hT.below a.out;have O:=hT2.below a.out;have bC:=HQ.out.1;have fP:=X5.cell
   go_wp2_with fail
   refine(HQ.out.2 _ _ _ _ _ _ _ qT O q.nn q.top q.rk HV.out).mono ?_;rintro ee w4 ⟨H,y,P,F,t,f,j,g,d,rfl,bN,B⟩;clear fP;replace N:=N.b B;replace a:=ie (bt a.out B);clear B;clear qT O bC
   go_wp2_with (at_builtin;refine ye rfl _ _ rfl rfl rfl (N.below (af _ _)) (Ia.lit (Bo.new _ _ _) bN) (by decide) (by omega) (Nat.le_trans a.out.size (af _ _).size) ?_)
   intro A5 d5 w9 N' G1 bA
   have p:=bt a.out (af _ (.cells #[.bool H,.int .i64 y,.bool P,.int .u64 F,.int .i64 t,.int .i64 f,.bool j,.int .u64 g,.int .i64 d] 32));have Nb:=N.below (af _ (.cells #[.bool H,.int .i64 y,.bool P,.int .u64 F,.int .i64 t,.int .i64 f,.bool j,.int .u64 g,.int .i64 d] 32))
   replace a:=ie (p.grown G1 p.size (fun k hk=>(Nb.own_lt k hk).1))
   clear N Nb G1 p bA X5;go_wp2
   go_roundw
   case rel=>exact ⟨k+1,_,_,by omega,rfl,by go_num,by rw[W.out];exact N',a.out⟩
   case measure=>simp [intOf];omega
  ·obtain rfl:k=n:=by omega
   have bH:decide ((k:Int) < (k:Int))=false:=by simp
   have e1:zs.take k=zs:=List.take_of_length_le (by rw[v.out];omega)
   rw[e1]at N;replace o:=o.below a.out;replace e:=ie (bt e.out a.out);clear a r m hT hT2
   go_wp2_with fail
   refine(GK (N.il (by omega)) V.out).mono ?_;rintro ee w5 ⟨bB,X,bD,Y,U,C,Q,G,u,rfl,fH,B⟩;replace o:=o.b B;replace e:=aa e B;clear B;clear N;have gB:=o.cell;have S:=o.frozen;go_wp2;clear gB S;have SX:=ae.t9 o bB X bD Y U C Q G u
   exact bq (by simp[results,results100,go_sem,SX.box.cell]) rfl ⟨_,_,_,_,_,_,_,_,_,rfl,fH,(SX.below e.out (by omega))⟩
theorem pF{w:World}{fid:FuncId}{R:Int->Sp->Prop}{D D' M M' E E':Int}{s s':Bool}{x y ql qh:Int}{U V Z:Sp}(hT:dQ w)(hT2:Tb w)(hq:JJ fid R)(hM:LQ M)(hM':LQ M')(hx:rk D s M E=x)(hy:rk D' s' M' E'=y)(hl:Qt false x y ql)(hh:Qt true x y qh)(hU:R ql U)(hV:R qh V)(oU:aY U)(hz:bY U V=Z):Calls prog 82 #[.func (.func fid) #[] #[],VQ D s M E,VQ D' s' M' E'] w (PV w Z):=by
 delta VQ
 have t:Hid (∀k,k < 2->R ([ql,qh].getD k 0) ([U,V].getD k none)):=ie (fun k hk=>by
  rcases (by omega:k=0\/k=1)with rfl | rfl
  ·exact hU
  ·exact hV)
 have HZ:Hid (nR [U,V]=Z):=ie ((DK oU).trans hz)
 clear hU hV oU hz;have HQ:=ie hq;have S:=ie hx;have T:=ie hy;have r:=ie hl;have q:=ie hh;clear hq hx hy hl hh
 go_enter func82,ntmps82
 go_upto_region 1 with (fail)
 generalize i:((w.alloc _).alloc _).alloc _=w1 at *;obtain⟨X,Y,d,f⟩:=Bo.en3 i;replace hT:=hT.below f.out;replace hT2:=hT2.below f.out;clear i;have bA:=X.lt;have bB:=Y.lt;have bC:=d.lt;refine jk [0,1,2,3,4,5,6,7,8] [some 7,some 8,some 9,some 10,some 11,some 12,some 13,some 14,some 15,none] [[],[],[],[1,2],[],[],[4,5],[3,6],[0,7],[]] 10 1 [Jo.Fact.eq (.func (.func fid) #[] #[]),Jo.q4 D s M E,Jo.q4 D' s' M' E',Jo.Fact.num ql,Jo.q4 D s M E,Jo.q4 D' s' M' E',Jo.Fact.num qh,Jo.Fact.nq 2 [ql,qh],Jo.Fact.iv Z,Jo.Fact.any] ?_ ?_
 ·iterate 3 (refine jm ?_ ?_;rotate_left)
  refine jm ?_ ?_
  ·rintro m c _ rfl _ rfl K a;simp only[Jo.z]at a|-;go_simp;exact Jo.n1 (IZ (hT.b c) hM hM' S.out T.out r.out) a.out
  iterate 2 (refine jm ?_ ?_;rotate_left)
  refine jm ?_ ?_
  ·rintro m c _ rfl _ rfl K a;simp only[Jo.z]at a|-;go_simp;exact Jo.n1 (IZ (hT.b c) hM hM' S.out T.out q.out) a.out
  refine jm ?_ ?_
  ·rintro m c _ ⟨u,L,B,n,rfl,I⟩ _ ⟨v,N,C,o,rfl,J⟩ K a;simp only[Jo.z]at a|-;go_simp;exact a.out _ _ ⟨_,2,rfl,Nq.of2 (Bo.new _ _ _) I J⟩ (af _ _)
  refine jm ?_ ?_
  ·rintro m c _ rfl _ ⟨bD,bH,rfl,H⟩ K a;simp only[Jo.z]at a|-;go_simp;exact Jo.v1 (Gh (hT.b c) (hT2.b c) HQ.out H rfl t.out HZ.out) a.out
  exact jo
  all_goals (rintro m c;(repeat rintro _ rfl);intro K a;simp only[Jo.z]at a|-;have bN:=(X.b c).cell;have fH:=(Y.b c).cell;go_simp;exact a.out _ _ rfl (br _ _))
 rintro w2 c _ rfl _ rfl _ rfl _ ⟨u,L,B,n,rfl,_⟩ _ rfl _ rfl _ ⟨v,N,C,o,rfl,_⟩ _ ⟨_,_,rfl,_⟩ _ ⟨G,A,O,F,p,g,j,h,e,rfl,P⟩ -;simp only[Jo.z];replace d:=d.b c;replace f:=aa f c;clear hT hT2;have Q:=d.cell;have l:=d.frozen
 refine jn 9 fun K a=>?_
 go_simp;refine a.out _ _ ?_;clear a K Q l;have W:=ae.t9 d G A O F p g j h e;refine jd ?_;go_wp2;exact bq (by simp[results,results82,go_sem,W.box.cell]) rfl ⟨_,_,_,_,_,_,_,_,_,rfl,P,(W.below f.out (by omega))⟩
def lN (x:Int)(Z:Sp):Prop:=0<=x/\x<=ak 1/\eE (du x) Z
theorem zG:JJ 81 lN:=⟨fun _ _=>by first | rfl | kernel_rfl | simp[callFunc,go_sem],fun _ _ _ _ _ _ _ hT _ h0 hM hx hz=>yJ hT h0 hM hx hz.1 hz.2.1 hz.2.2⟩
theorem oz{x c:Int}(h:ag x 19342822337206103650074625=c):(c==0)=decide (x=19342822337206103650074625):=by
 rw[<-h]
 unfold ag
 by_cases c1:x < 19342822337206103650074625
 ·rw[if_pos c1,df (by omega)]
  rfl
 ·rw[if_neg c1]
  by_cases c2:19342822337206103650074625 < x
  ·rw[if_pos c2,df (by omega)]
   rfl
  ·rw[if_neg c2,dt (by omega)]
   rfl
theorem jb{x y c:Int}(h:ag x y=c):decide (c < 0)=decide (x < y):=(aQ h).1
theorem yQ{w:World}{D M E:Int}{s:Bool}{x:Int}{Z:Sp}(hT:dQ w)(hT2:Tb w)(h0:0<=M)(hM:LQ M)(hx:rk D s M E=x)(hx1:x=19342822337206103650074625)(hZ:eD Z):Calls prog 26 #[VQ D s M E] w (PV w Z):=by
 delta VQ
 obtain⟨σ,L⟩:∃σ,ag x 0=σ:=⟨_,rfl⟩;have e0:=jb L;obtain⟨τ,N⟩:∃σ,ag x 19342822337206103650074625=σ:=⟨_,rfl⟩;have e1:=oz N
 rw[show decide (x < 0)=false from df (by omega)]at e0
 rw[dt hx1]at e1
 have Y:Hid (aj false TP=19342822337206103650074625):=ie rfl
 clear hx1;have V:=ie hx;have HS:=ie L;have HT:=ie N;have v:=ie e0;have y:=ie e1;have HZ:=ie hZ;clear hx L N e0 e1 hZ
 go_enter func26,ntmps26
 go_upto_region 1 with (fail)
 generalize k:(w.alloc _).alloc _=w1 at *;obtain⟨e,a,c⟩:=Bo.en2 k;replace hT:=hT.below c.out;clear k
 go_wp2_with fail
 refine(AW (n:=1) (r:=ak 1) _ (by decide) (by decide) rfl).mono ?_;rintro I w2 ⟨bA,bD,bB,X,rfl,bC,B⟩;replace e:=e.b B;replace a:=a.b B;replace hT:=hT.b B;replace c:=aa c B;clear B
 go_upto_region 2 with (fail)
 have O:=e.lt;have P:=a.lt;generalize l:w2.alloc _=w3 at *;obtain⟨X3,g⟩:=Bo.nw l;clear l;replace e:=e.b g;replace a:=a.b g;replace hT:=hT.b g;replace c:=aa c g;clear g;have e0:=v.out;have p:=e.cell
 go_wp2_with fail
 refine(dm (σ:=σ) hM (by rw[V.out];exact HS.out)).mono ?_;rintro I w4 ⟨rfl,B⟩;clear p;replace e:=e.b B;replace a:=a.b B;replace hT:=hT.b B;replace c:=aa c B;clear B
 go_upto_region 4 with (fail)
 clear e0;refine jk [0,1,2,3,4] [some 14,some 15,some 16,some 17,some 13] [[],[],[0,1],[2],[3]] 5 0 [Jo.q4 D s M E,Jo.Fact.num 19342822337206103650074625,Jo.qi τ,Jo.qb true,Jo.qb true] ?_ ?_
 ·refine jm ?_ ?_;rotate_left
  refine jm ?_ ?_
  ·rintro T f K d;simp only[Jo.z]at d|-;go_simp;exact Jo.n1 (iQ (s:=false) Y.out) d.out
  refine jm ?_ ?_
  ·rintro T f _ rfl _ ⟨A,Q,F,t,rfl,m⟩ K d;simp only[Jo.z]at d|-;go_simp;refine(j5 (z:=τ) hM m.top (by rw[V.out,m.rk];exact HT.out)).mono ?_;rintro I wk ⟨rfl,B⟩;exact d.out _ _ rfl B
  refine jm ?_ ?_
  ·rintro T f _ rfl K d;simp only[Jo.z]at d|-;have J:=y.out;go_simp
   exact d.out _ _ (by first | rfl | (show Value.bool _=Value.bool _;rw[J]) | simp_all) (br _ _)
  refine jm ?_ ?_;rotate_left
  exact jo
  all_goals (rintro T f;(repeat rintro _ rfl);intro K d;simp only[Jo.z]at d|-;have p:=(e.b f).cell;go_simp;exact d.out _ _ rfl (br _ _))
 rintro w5 f _ rfl _ ⟨A,Q,F,t,rfl,_⟩ _ rfl _ rfl _ rfl -;simp only[Jo.z];replace a:=a.b f;replace hT:=hT.b f;replace c:=aa c f;refine jd ?_
 go_wp2_with fail
 refine(yI hT HZ.out).mono ?_;rintro I w6 ⟨H,C,R,G,u,i,o,j,h,rfl,S,B⟩;replace a:=a.b B;replace c:=aa c B;clear B;clear hT hT2;have U:=a.cell;have q:=a.frozen;go_wp2;clear U q;have W:=ae.t9 a H C R G u i o j h
 exact bq (by simp[results,results26,go_sem,W.box.cell]) rfl ⟨_,_,_,_,_,_,_,_,_,rfl,S,(W.below c.out (by omega))⟩
theorem vZ{w:World}{D M E:Int}{s:Bool}{x:Int}{Z:Sp}(hT:dQ w)(hT2:Tb w)(h0:0<=M)(hM:LQ M)(hx:rk D s M E=x)(x0:0<=x)(x1:x<=ak 1)(hx1:x≠19342822337206103650074625)(hZ:eE (du x) Z):Calls prog 26 #[VQ D s M E] w (PV w Z):=by
 delta VQ
 obtain⟨σ,U⟩:∃σ,ag x 0=σ:=⟨_,rfl⟩;have e0:=jb U;obtain⟨τ,V⟩:∃σ,ag x 19342822337206103650074625=σ:=⟨_,rfl⟩;have e1:=oz V;obtain⟨ρ,T⟩:∃σ,ag x (ak 1)=σ:=⟨_,rfl⟩;have e2:=ja T
 rw[show decide (x < 0)=false from df (by omega)]at e0
 rw[df hx1]at e1;rw[dt x1]at e2
 have HI:Hid (aj false TP=19342822337206103650074625):=ie rfl
 clear hx1;have v:=ie hx;have HS:=ie U;have HT:=ie V;have I:=ie T;have F:=ie e0;have G:=ie e1;have H:=ie e2;have HZ:=ie hZ;have J:=ie x0;have L:=ie x1;clear hx U V T e0 e1 e2 hZ x0 x1
 go_enter func26,ntmps26
 go_upto_region 1 with (fail)
 generalize m:(w.alloc _).alloc _=w1 at *;obtain⟨c,a,d⟩:=Bo.en2 m;replace hT:=hT.below d.out;clear m
 go_wp2_with fail
 refine(AW (n:=1) (r:=ak 1) _ (by decide) (by decide) rfl).mono ?_;rintro y w2 ⟨bN,fP,fH,bH,rfl,p,B⟩;replace c:=c.b B;replace a:=a.b B;replace hT:=hT.b B;replace d:=aa d B;clear B
 go_upto_region 2 with (fail)
 have W:=c.lt;have X:=a.lt;generalize o:w2.alloc _=w3 at *;obtain⟨l,h⟩:=Bo.nw o;clear o;replace c:=c.b h;replace a:=a.b h;replace hT:=hT.b h;replace d:=aa d h;clear h;have e0:=F.out;have e:=c.cell
 go_wp2_with fail
 refine(dm (σ:=σ) hM (by rw[v.out];exact HS.out)).mono ?_;rintro y w4 ⟨rfl,B⟩;clear e;replace c:=c.b B;replace a:=a.b B;replace l:=l.b B;replace hT:=hT.b B;replace d:=aa d B;clear B
 go_upto_region 4 with (fail)
 clear e0;refine jk [0,1,2,3,4] [some 14,some 15,some 16,some 17,some 13] [[],[],[0,1],[2],[3]] 5 0 [Jo.q4 D s M E,Jo.Fact.num 19342822337206103650074625,Jo.qi τ,Jo.qb false,Jo.qb false] ?_ ?_
 ·refine jm ?_ ?_;rotate_left
  refine jm ?_ ?_
  ·rintro wj g K f;simp only[Jo.z]at f|-;go_simp;exact Jo.n1 (iQ (s:=false) HI.out) f.out
  refine jm ?_ ?_
  ·rintro wj g _ rfl _ ⟨N,Y,P,A,rfl,q⟩ K f;simp only[Jo.z]at f|-;go_simp;refine(j5 (z:=τ) hM q.top (by rw[v.out,q.rk];exact HT.out)).mono ?_;rintro y wk ⟨rfl,B⟩;exact f.out _ _ rfl B
  refine jm ?_ ?_
  ·rintro wj g _ rfl K f;simp only[Jo.z]at f|-;have S:=G.out;go_simp
   exact f.out _ _ (by first | rfl | (show Value.bool _=Value.bool _;rw[S]) | simp_all) (br _ _)
  refine jm ?_ ?_;rotate_left
  exact jo
  all_goals (rintro wj g;(repeat rintro _ rfl);intro K f;simp only[Jo.z]at f|-;have e:=(c.b g).cell;go_simp;exact f.out _ _ rfl (br _ _))
 rintro w5 g _ rfl _ ⟨N,Y,P,A,rfl,_⟩ _ rfl _ rfl _ rfl -;simp only[Jo.z];replace c:=c.b g;replace a:=a.b g;replace l:=l.b g;replace hT:=hT.b g;replace d:=aa d g;refine jd ?_;have e2:=H.out;have e:=c.cell;have bC:=l.cell
 go_wp2_with fail
 refine(j5 (z:=ρ) hM p.top (by rw[v.out,p.rk];exact I.out)).mono ?_;rintro y w6 ⟨rfl,B⟩;clear e bC;replace c:=c.b B;replace a:=a.b B;replace hT:=hT.b B;replace d:=aa d B;clear B;have e:=c.cell
 go_wp2_with fail
 refine(yJ hT h0 hM v.out J.out L.out HZ.out).mono ?_;rintro y w7 ⟨R,O,bA,Q,C,j,t,k,i,rfl,bB,B⟩;clear e;replace a:=a.b B;replace d:=aa d B;clear B;clear hT hT2 e2;have bD:=a.cell;have u:=a.frozen;go_wp2;clear bD u
 have SX:=ae.t9 a R O bA Q C j t k i;exact bq (by simp[results,results26,go_sem,SX.box.cell]) rfl ⟨_,_,_,_,_,_,_,_,_,rfl,bB,(SX.below d.out (by omega))⟩
theorem yP{w:World}{D M E:Int}{s:Bool}{x:Int}{ql qh:Int}{H U V W Z:Sp}(hT:dQ w)(hT2:Tb w)(h0:0<=M)(hM:LQ M)(hx:rk D s M E=x)(x1:¬x<=ak 1)(hx1:x≠19342822337206103650074625)(hH:eD H)(hl:Qt false (ak 1) x ql)(hh:Qt true (ak 1) x qh)(hU:lN ql U)(hV:lN qh V)(oU:aY U)(hW:bY U V=W)(hZ:kM H W=Z):Calls prog 26 #[VQ D s M E] w (PV w Z):=by
 delta VQ
 obtain⟨σ,hσ⟩:∃σ,ag x 0=σ:=⟨_,rfl⟩;have e0:=jb hσ;obtain⟨τ,hτ⟩:∃σ,ag x 19342822337206103650074625=σ:=⟨_,rfl⟩;have e1:=oz hτ;obtain⟨ρ,hρ⟩:∃σ,ag x (ak 1)=σ:=⟨_,rfl⟩;have e2:=ja hρ
 have one:0 < ak 1:=by decide
 rw[show decide (x < 0)=false from df (by omega)]at e0
 rw[df hx1]at e1;rw[df x1]at e2
 have HI:Hid (aj false TP=19342822337206103650074625):=ie rfl
 clear hx1 x1 one;have Q:=ie hx;have HS:=ie hσ;have HT:=ie hτ;have fH:=ie hρ;have bA:=ie e0;have bB:=ie e1;have bC:=ie e2;have HH:=ie hH;have bH:=ie hl;have bD:=ie hh;have HU:=ie hU;have HV:=ie hV;have bN:=ie oU;have HW:=ie hW;have HZ:=ie hZ;clear hx hσ hτ hρ e0 e1 e2 hH hl hh hU hV oU hW hZ
 go_enter func26,ntmps26
 go_upto_region 1 with (fail)
 generalize F:(w.alloc _).alloc _=w1 at *;obtain⟨e,d,f⟩:=Bo.en2 F;replace hT:=hT.below f.out;replace hT2:=hT2.below f.out;clear F
 go_wp2_with fail
 refine(AW (n:=1) (r:=ak 1) _ (by decide) (by decide) rfl).mono ?_;rintro ee w2 ⟨fP,hQ,hA,R,rfl,i,B⟩;replace e:=e.b B;replace d:=d.b B;replace hT:=hT.b B;replace hT2:=hT2.b B;replace f:=aa f B;clear B
 go_upto_region 2 with (fail)
 have hN:=e.lt;have hP:=d.lt;generalize G:w2.alloc _=w3 at *;obtain⟨h,m⟩:=Bo.nw G;clear G;replace e:=e.b m;replace d:=d.b m;replace hT:=hT.b m;replace hT2:=hT2.b m;replace f:=aa f m;clear m;have e0:=bA.out;have g:=e.cell
 go_wp2_with fail
 refine(dm (σ:=σ) hM (by rw[Q.out];exact HS.out)).mono ?_;rintro ee w4 ⟨rfl,B⟩;clear g;replace e:=e.b B;replace d:=d.b B;replace h:=h.b B;replace hT:=hT.b B;replace hT2:=hT2.b B;replace f:=aa f B;clear B
 go_upto_region 4 with (fail)
 clear e0;refine jk [0,1,2,3,4] [some 14,some 15,some 16,some 17,some 13] [[],[],[0,1],[2],[3]] 5 0 [Jo.q4 D s M E,Jo.Fact.num 19342822337206103650074625,Jo.qi τ,Jo.qb false,Jo.qb false] ?_ ?_
 ·refine jm ?_ ?_;rotate_left
  refine jm ?_ ?_
  ·rintro l c K a;simp only[Jo.z]at a|-;go_simp;exact Jo.n1 (iQ (s:=false) HI.out) a.out
  refine jm ?_ ?_
  ·rintro l c _ rfl _ ⟨gB,hR,hB,S,rfl,I⟩ K a;simp only[Jo.z]at a|-;go_simp;refine(j5 (z:=τ) hM I.top (by rw[Q.out,I.rk];exact HT.out)).mono ?_;rintro ee wk ⟨rfl,B⟩;exact a.out _ _ rfl B
  refine jm ?_ ?_
  ·rintro l c _ rfl K a;simp only[Jo.z]at a|-;have hL:=bB.out;go_simp
   exact a.out _ _ (by first | rfl | (show Value.bool _=Value.bool _;rw[hL]) | simp_all) (br _ _)
  refine jm ?_ ?_;rotate_left
  exact jo
  all_goals (rintro l c;(repeat rintro _ rfl);intro K a;simp only[Jo.z]at a|-;have g:=(e.b c).cell;go_simp;exact a.out _ _ rfl (br _ _))
 rintro w5 c _ rfl _ ⟨gB,hR,hB,S,rfl,_⟩ _ rfl _ rfl _ rfl -;simp only[Jo.z];replace e:=e.b c;replace d:=d.b c;replace h:=h.b c;replace hT:=hT.b c;replace hT2:=hT2.b c;replace f:=aa f c;refine jd ?_;have e2:=bC.out;have g:=e.cell;have O:=h.cell
 go_wp2_with fail
 refine(j5 (z:=ρ) hM i.top (by rw[Q.out,i.rk];exact fH.out)).mono ?_;rintro ee w6 ⟨rfl,B⟩;clear g O;replace e:=e.b B;replace d:=d.b B;replace h:=h.b B;replace hT:=hT.b B;replace hT2:=hT2.b B;replace f:=aa f B;clear B
 go_upto_region 8 with (fail)
 clear e2;have lB:=e.lt;have xX:=d.lt;have qT:=h.lt;refine jk [0,1,2,3,4] [some 26,some 27,some 28,some 29,some 30,none] [[],[],[],[1,2],[0,3],[]] 6 1 [Jo.Fact.iv H,Jo.q4 fP hQ hA R,Jo.q4 D s M E,Jo.Fact.iv W,Jo.Fact.iv Z,Jo.Fact.any] ?_ ?_
 ·refine jm ?_ ?_
  ·rintro l c K a;simp only[Jo.z]at a|-;go_simp;exact Jo.v1 (yI (hT.b c) HH.out) a.out
  iterate 2 (refine jm ?_ ?_;rotate_left)
  refine jm ?_ ?_
  ·rintro l c _ rfl _ rfl K a;simp only[Jo.z]at a|-;go_simp;exact Jo.v1 (pF (hT.b c) (hT2.b c) zG i.top hM i.rk Q.out bH.out bD.out HU.out HV.out bN.out HW.out) a.out
  refine jm ?_ ?_
  ·rintro l c _ ⟨hF,gO,hS,hC,T,t,J,y,o,rfl,j⟩ _ ⟨hG,gP,hX,hD,X,u,L,A,p,rfl,k⟩ K a;simp only[Jo.z]at a|-;go_simp;exact Jo.v1 (Fw (hT2.b c) j.top.1 j.top.2 k.top.1 k.top.2 j.rk k.rk HZ.out) a.out
  exact jo
  all_goals (rintro l c;(repeat rintro _ rfl);intro K a;simp only[Jo.z]at a|-;have O:=(h.b c).cell;have g:=(e.b c).cell;go_simp;exact a.out _ _ rfl (br _ _))
 rintro w7 c _ ⟨hF,gO,hS,hC,T,t,J,y,o,rfl,j⟩ _ rfl _ rfl _ ⟨hG,gP,hX,hD,X,u,L,A,p,rfl,k⟩ _ ⟨hI,gS,iU,hE,Y,v,N,C,q,rfl,iV⟩ -;simp only[Jo.z];replace d:=d.b c;replace f:=aa f c;clear hT hT2;have lA:=d.cell;have P:=d.frozen
 refine jn 5 fun K a=>?_
 go_simp;refine a.out _ _ ?_;clear a K lA P;have SX:=ae.t9 d hI gS iU hE Y v N C q;refine jd ?_;go_wp2;exact bq (by simp[results,results26,go_sem,SX.box.cell]) rfl ⟨_,_,_,_,_,_,_,_,_,rfl,iV,(SX.below f.out (by omega))⟩
theorem Bw{v:Int}{Z:Sp}(h:eE v Z)(h0:0<=v)(h1:v<=SC):aY Z:=(h.is h0 h1).1.ok
theorem tm{w:World}{D M E:Int}{s:Bool}{x:Int}{q:Bool->Int->Int->Int}{Z:Sp}(hq:QF q)(hT:dQ w)(hT2:Tb w)(h0:0<=M)(hM:LQ M)(hx:rk D s M E=x)(x0:0<=x)(hZ:mX q x Z):Calls prog 26 #[VQ D s M E] w (PV w Z):=by
 delta VQ
 have i:x<=19342822337206103650074625:=by rw[<-hx];exact(BY hM).2
 rcases hZ with⟨e,b⟩ | ⟨e,a,g⟩ | ⟨e,a,H,l,h,b,hl,hh,rfl⟩
 ·exact yQ hT hT2 h0 hM hx e b
 ·exact vZ hT hT2 h0 hM hx x0 a e g
 ·obtain⟨c,j,f⟩:=jC hq a (by omega);have d:=aZ c (by omega);exact yP hT hT2 h0 hM hx a e b (hq false _ _) (hq true _ _) ⟨c,by omega,hl⟩ ⟨by omega,f,hh⟩ (Bw hl d.2.1 d.2.2) rfl rfl
theorem yR{w:World}{D M E:Int}{s:Bool}{x:Int}{q:Bool->Int->Int->Int}{Y Z:Sp}(hq:QF q)(hT:dQ w)(hT2:Tb w)(h0:0<=M)(hM:LQ M)(hx:rk D s M E=x)(x0:x < 0)(hY:mX q (-x) Y)(hZ:f7 Y=Z):Calls prog 26 #[VQ D s M E] w (PV w Z):=by
 delta VQ
 obtain⟨σ,C⟩:∃σ,ag x 0=σ:=⟨_,rfl⟩;have e0:=jb C;rw[dt x0]at e0
 have V:Hid (0<= -x):=ie (by omega)
 clear x0;have N:=ie hx;have X:=ie C;have v:=ie e0;have HY:=ie hY;have HZ:=ie hZ;have W:=ie hq;clear hx C e0 hY hZ hq
 go_enter func26,ntmps26
 go_upto_region 1 with (fail)
 generalize l:(w.alloc _).alloc _=w1 at *;obtain⟨d,a,c⟩:=Bo.en2 l;replace hT:=hT.below c.out;replace hT2:=hT2.below c.out;clear l
 go_wp2_with fail
 refine(AW (n:=1) (r:=ak 1) _ (by decide) (by decide) rfl).mono ?_;rintro t w2 ⟨bA,gB,bD,S,rfl,fP,B⟩;replace d:=d.b B;replace a:=a.b B;replace hT:=hT.b B;replace hT2:=hT2.b B;replace c:=aa c B;clear B
 go_upto_region 2 with (fail)
 have F:=d.lt;have G:=a.lt;generalize m:w2.alloc _=w3 at *;obtain⟨X3,h⟩:=Bo.nw m;clear m;replace d:=d.b h;replace a:=a.b h;replace hT:=hT.b h;replace hT2:=hT2.b h;replace c:=aa c h;clear h;have e0:=v.out;have g:=d.cell
 go_wp2_with fail
 refine(dm (σ:=σ) hM (by rw[N.out];exact X.out)).mono ?_;rintro t w4 ⟨rfl,B⟩;clear g;replace d:=d.b B;replace a:=a.b B;replace hT:=hT.b B;replace hT2:=hT2.b B;replace c:=aa c B;clear B;have g:=d.cell
 go_wp2_with fail
 refine(xv hM (by rw[N.out])).mono ?_;rintro t w5 ⟨bB,gO,bH,T,rfl,e,B⟩;clear g;replace a:=a.b B;replace hT:=hT.b B;replace hT2:=hT2.b B;replace c:=aa c B;clear B
 go_wp2_with fail
 refine(tm W.out hT hT2 e.nn e.top e.rk V.out HY.out).mono ?_;rintro t w6 ⟨fH,bC,gP,bN,U,O,R,P,L,rfl,f,B⟩;replace a:=a.b B;replace c:=aa c B;clear B
 go_wp2_with fail
 refine(Fv f.top.1 f.top.2 f.rk HZ.out).mono ?_;rintro t w7 ⟨A,y,H,z,u,j,o,k,i,rfl,I,B⟩;replace a:=a.b B;replace c:=aa c B;clear B;clear hT hT2 e0;have J:=a.cell;have p:=a.frozen;go_wp2;clear J p;have Q:=ae.t9 a A y H z u j o k i
 exact bq (by simp[results,results26,go_sem,Q.box.cell]) rfl ⟨_,_,_,_,_,_,_,_,_,rfl,I,(Q.below c.out (by omega))⟩
theorem lR{w:World}{D M E:Int}{s:Bool}{x:Int}{q:Bool->Int->Int->Int}{Z:Sp}(hq:QF q)(hT:dQ w)(hT2:Tb w)(h0:0<=M)(hM:LQ M)(hx:rk D s M E=x)(hZ:jM q x Z):Calls prog 26 #[VQ D s M E] w (PV w Z):=by
 delta VQ
 rcases hZ with⟨a,Y,hY,rfl⟩ | ⟨a,b⟩
 ·exact yR hq hT hT2 h0 hM hx a hY rfl
 ·exact tm hq hT hT2 h0 hM hx (by omega) b
theorem jV{q:Bool->Int->Int->Int}(hq:QF q):JJ 26 (jM q):=⟨fun _ _=>by first | rfl | kernel_rfl | simp[callFunc,go_sem],fun _ _ _ _ _ _ _ hT hT2 h0 hM hx hz=>lR hq hT hT2 h0 hM hx hz⟩
def gW (D:Int)(s:Bool)(M E:Int):Bool:=decide (aC D s M E) && !(D==2)
theorem tG{D:Int}{s:Bool}{M E:Int}(h:decide (aC D s M E)=false):gW D s M E=false:=by unfold gW;rw[h];rfl
theorem pY{D:Int}{s:Bool}{M E:Int}(h:(D==2)=true):gW D s M E=false:=by unfold gW;rw[h];simp
theorem lX{D:Int}{s:Bool}{M E:Int}(h:decide (aC D s M E)=true)(k:(D==2)=false):gW D s M E=true:=by unfold gW;rw[h,k];rfl
theorem Fp{w:World}{g:Nat}{D D' M M' E E':Int}{s s':Bool}{r:Bool}(X:Bo w g #[.int .i64 D,.bool s,.int .u64 M,.int .i64 E,.int .i64 D',.bool s',.int .u64 M',.int .i64 E'] 24)(hr:(gW D s M E && gW D' s' M' E')=r):Calls prog 89 #[.slice (some ⟨g,0,none⟩) 2 2] w (PB w r):=by
 have f:=ie hr;clear hr
 go_enter func89,ntmps89
 go_wp2
 go_loopw [7] (fun i wr=>∃k:Nat,k<=2/\i= .int .i64 (k:Int)/\(1<=k->gW D s M E=true)/\(2<=k->gW D' s' M' E'=true)/\Below w.heap.size w wr) (fun i _=>3-(intOf i).toNat)
 case atStart=>exact ⟨0,by decide,rfl,fun h=>absurd h (by decide),fun h=>absurd h (by decide),Below.refl _ _⟩
 case round=>
  obtain⟨k,J,rfl,z,A,C⟩:=hrel;have d:=ie C;have m:=ie z;have q:=ie A;clear C z A
  rcases (by omega:k=0\/k=1\/k=2)with rfl | rfl | rfl
  ·have Y:=X.below d.out;have F:=Y.lt;have u:=Y.a 0 (.int .i64 D) rfl;have v:=Y.a 1 (.bool s) rfl;have x:=Y.a 2 (.int .u64 M) rfl;have y:=Y.a 3 (.int .i64 E) rfl;obtain⟨b,hb⟩:∃b,decide (aC D s M E)=b:=⟨_,rfl⟩;have e:=ie hb;clear hb
   go_upto_region 4 with (fail)
   clear u v x y Y;generalize j:wr.alloc _=H at *;obtain⟨n,o⟩:=Bo.nw j;clear j;replace d:=aa d o;clear o;have l:=n.cell
   go_wp2_with fail
   refine(kI e.out).mono ?_;rintro G I ⟨rfl,B⟩;clear l;replace n:=n.b B;replace d:=aa d B;clear B
   cases b
   ·go_wp2
    go_ret
    exact⟨by rw[<-f.out,tG e.out];simp,d.out⟩
   ·obtain⟨c,t⟩:∃c,(D==2)=c:=⟨_,rfl⟩;have p:=ie t;have l:=n.cell
    cases c
    ·go_wp2
     go_roundw
     case rel=>exact ⟨1,by decide,by go_num,fun _=>lX e.out p.out,fun h=>absurd h (by decide),d.out⟩
     case measure=>simp [intOf]
    ·go_wp2
     go_ret
     exact⟨by rw[<-f.out,pY p.out];simp,d.out⟩
  ·have Y:=X.below d.out;have F:=Y.lt;have u:=Y.a 4 (.int .i64 D') rfl;have v:=Y.a 5 (.bool s') rfl;have x:=Y.a 6 (.int .u64 M') rfl;have y:=Y.a 7 (.int .i64 E') rfl;obtain⟨b,hb⟩:∃b,decide (aC D' s' M' E')=b:=⟨_,rfl⟩;have e:=ie hb;clear hb
   go_upto_region 4 with (fail)
   clear u v x y Y;generalize j:wr.alloc _=H at *;obtain⟨n,o⟩:=Bo.nw j;clear j;replace d:=aa d o;clear o;have l:=n.cell
   go_wp2_with fail
   refine(kI e.out).mono ?_;rintro G I ⟨rfl,B⟩;clear l;replace n:=n.b B;replace d:=aa d B;clear B
   cases b
   ·go_wp2
    go_ret
    exact⟨by rw[<-f.out,m.out (by decide),tG e.out];rfl,d.out⟩
   ·obtain⟨c,t⟩:∃c,(D'==2)=c:=⟨_,rfl⟩;have p:=ie t;have l:=n.cell
    cases c
    ·go_wp2
     go_roundw
     case rel=>exact ⟨2,by decide,by go_num,fun _=>m.out (by decide),fun _=>lX e.out p.out,d.out⟩
     case measure=>simp [intOf]
    ·go_wp2
     go_ret
     exact⟨by rw[<-f.out,m.out (by decide),pY p.out];rfl,d.out⟩
  ·go_wp2
   go_ret
   exact⟨by rw[<-f.out,m.out (by decide),q.out (by decide)];rfl,d.out⟩
theorem yN{q:Bool->Int->Int->Int}{H:Sp}(hH:eD H)(b:Bool):jM q (aj b TP) (if b then f7 H else H):=by
 cases b
 ·exact .inr ⟨by decide,.inl ⟨rfl,hH⟩⟩
 ·exact .inl ⟨by decide,H,.inl ⟨rfl,hH⟩,rfl⟩
theorem fC{x c:Int}(h:ag x 0=c):(c==0)=decide (x=0):=by
 rw[<-h]
 unfold ag
 by_cases c1:x < 0
 ·rw[if_pos c1,df (by omega)]
  rfl
 ·rw[if_neg c1]
  by_cases c2:0 < x
  ·rw[if_pos c2,df (by omega)]
   rfl
  ·rw[if_neg c2,dt (by omega)]
   rfl
theorem lP{w:World}{q:Bool->Int->Int->Int}{D D' M M' E E':Int}{s s':Bool}{x y:Int}{Z:Sp}(hq:QF q)(hT:dQ w)(hT2:Tb w)(hM:LQ M)(hM':LQ M')(hy:rk D s M E=y)(hx:rk D' s' M' E'=x)(x0:x=0)(y0:y < 0)(hZ:jM q (aj true TP) Z):Calls prog 91 #[VQ D s M E,VQ D' s' M' E'] w (PV w Z):=by
 delta VQ
 obtain⟨σ,v⟩:∃σ,ag y 0=σ:=⟨_,rfl⟩;obtain⟨τ,k⟩:∃σ,ag x 0=σ:=⟨_,rfl⟩;have e0:=(aQ v).1;have e1:=fC k;have e2:=(aQ k).2;rw[dt y0]at e0;rw[dt x0]at e1;clear x0 y0;have L:=ie hq;have P:=ie hx;have Q:=ie hy;have N:=ie v;have O:=ie k;have m:=ie e0;have n:=ie e1
 have J:=ie e2;have R:=ie hZ;clear hq hx hy v k e0 e1 e2 hZ
 go_enter func91,ntmps91
 go_upto_region 1 with (fail)
 generalize h:((w.alloc _).alloc _).alloc _=w1 at *;obtain⟨U,r,c,a⟩:=Bo.en3 h;replace hT:=hT.below a.out;replace hT2:=hT2.below a.out;clear h;have e0:=m.out;have C:=U.cell
 go_wp2_with fail
 refine(dm (σ:=σ) hM (by rw[Q.out];exact N.out)).mono ?_;rintro u W ⟨rfl,B⟩;clear C;replace r:=r.b B;replace c:=c.b B;replace hT:=hT.b B;replace hT2:=hT2.b B;replace a:=aa a B;clear B;have e1:=n.out;have F:=r.cell
 go_wp2_with fail
 refine(dm (σ:=τ) hM' (by rw[P.out];exact O.out)).mono ?_;rintro u X ⟨rfl,B⟩;clear F;replace c:=c.b B;replace hT:=hT.b B;replace hT2:=hT2.b B;replace a:=aa a B;clear B
 go_wp2_with fail
 refine(iQ (s:=true) rfl).mono ?_;rintro u Y ⟨S,V,T,I,rfl,d,B⟩;replace c:=c.b B;replace hT:=hT.b B;replace hT2:=hT2.b B;replace a:=aa a B;clear B
 go_wp2_with fail
 refine(lR L.out hT hT2 d.nn d.top d.rk R.out).mono ?_;rintro u w5 ⟨t,o,z,p,l,f,i,g,e,rfl,A,B⟩;replace c:=c.b B;replace a:=aa a B;clear B;clear hT hT2 e0 e1;have G:=c.cell;have j:=c.frozen;go_wp2;clear G j;have H:=ae.t9 c t o z p l f i g e
 exact bq (by simp[results,results91,go_sem,H.box.cell]) rfl ⟨_,_,_,_,_,_,_,_,_,rfl,A,(H.below a.out (by omega))⟩
theorem kX{w:World}{q:Bool->Int->Int->Int}{D D' M M' E E':Int}{s s':Bool}{x y:Int}{Z:Sp}(hq:QF q)(hT:dQ w)(hT2:Tb w)(hM:LQ M)(hM':LQ M')(hy:rk D s M E=y)(hx:rk D' s' M' E'=x)(x0:x=0)(y0:¬y < 0)(hZ:jM q (aj false TP) Z):Calls prog 91 #[VQ D s M E,VQ D' s' M' E'] w (PV w Z):=by
 delta VQ
 obtain⟨σ,v⟩:∃σ,ag y 0=σ:=⟨_,rfl⟩;obtain⟨τ,k⟩:∃σ,ag x 0=σ:=⟨_,rfl⟩;have e0:=(aQ v).1;have e1:=fC k;have e2:=(aQ k).2;rw[df y0]at e0;rw[dt x0]at e1;clear x0 y0;have L:=ie hq;have P:=ie hx;have Q:=ie hy;have N:=ie v;have O:=ie k;have m:=ie e0;have n:=ie e1
 have J:=ie e2;have R:=ie hZ;clear hq hx hy v k e0 e1 e2 hZ
 go_enter func91,ntmps91
 go_upto_region 1 with (fail)
 generalize h:((w.alloc _).alloc _).alloc _=w1 at *;obtain⟨U,r,c,a⟩:=Bo.en3 h;replace hT:=hT.below a.out;replace hT2:=hT2.below a.out;clear h;have e0:=m.out;have C:=U.cell
 go_wp2_with fail
 refine(dm (σ:=σ) hM (by rw[Q.out];exact N.out)).mono ?_;rintro u W ⟨rfl,B⟩;clear C;replace r:=r.b B;replace c:=c.b B;replace hT:=hT.b B;replace hT2:=hT2.b B;replace a:=aa a B;clear B;have e1:=n.out;have F:=r.cell
 go_wp2_with fail
 refine(dm (σ:=τ) hM' (by rw[P.out];exact O.out)).mono ?_;rintro u X ⟨rfl,B⟩;clear F;replace c:=c.b B;replace hT:=hT.b B;replace hT2:=hT2.b B;replace a:=aa a B;clear B
 go_wp2_with fail
 refine(iQ (s:=false) rfl).mono ?_;rintro u Y ⟨S,V,T,I,rfl,d,B⟩;replace c:=c.b B;replace hT:=hT.b B;replace hT2:=hT2.b B;replace a:=aa a B;clear B
 go_wp2_with fail
 refine(lR L.out hT hT2 d.nn d.top d.rk R.out).mono ?_;rintro u w5 ⟨t,o,z,p,l,f,i,g,e,rfl,A,B⟩;replace c:=c.b B;replace a:=aa a B;clear B;clear hT hT2 e0 e1;have G:=c.cell;have j:=c.frozen;go_wp2;clear G j;have H:=ae.t9 c t o z p l f i g e
 exact bq (by simp[results,results91,go_sem,H.box.cell]) rfl ⟨_,_,_,_,_,_,_,_,_,rfl,A,(H.below a.out (by omega))⟩
theorem yE{w:World}{q:Bool->Int->Int->Int}{D D' M M' E E':Int}{s s':Bool}{x y:Int}{U V W:Sp}(hq:QF q)(hT:dQ w)(hT2:Tb w)(hM:LQ M)(hM':LQ M')(hy:rk D s M E=y)(hx:rk D' s' M' E'=x)(x0:x≠0)(hU:jM q (q false y x) U)(hV:jM q (q true y x) V)(oU:aY U)(hW:bY U V=W)(cx:0 < x):Calls prog 91 #[VQ D s M E,VQ D' s' M' E'] w (PV w W):=by
 delta VQ
 obtain⟨σ,Z⟩:∃σ,ag y 0=σ:=⟨_,rfl⟩;obtain⟨τ,Y⟩:∃σ,ag x 0=σ:=⟨_,rfl⟩;have e0:=(aQ Z).1;have e1:=fC Y;have e2:=(aQ Y).2;rw[df x0]at e1;rw[dt cx]at e2;clear x0 cx;have N:=ie hq;have O:=ie hx;have X:=ie hy;have HS:=ie Z;have T:=ie Y;have g:=ie e0;have P:=ie e1
 have Q:=ie e2;have HU:=ie hU;have HV:=ie hV;have R:=ie oU;have HW:=ie hW;clear hq hx hy Z Y e0 e1 e2 hU hV oU hW
 by_cases cy:decide (y < 0)=true
 ·have k:Hid (decide (σ < 0)=true):=ie (by rw[g.out];exact cy)
  clear g cy;have g:=k;clear k
  go_enter func91,ntmps91
  go_upto_region 1 with (fail)
  generalize n:((w.alloc _).alloc _).alloc _=w1 at *;obtain⟨f,d,a,c⟩:=Bo.en3 n;replace hT:=hT.below c.out;replace hT2:=hT2.below c.out;clear n;have e0:=g.out;have h:=f.cell
  go_wp2_with fail
  refine(dm (σ:=σ) hM (by rw[X.out];exact HS.out)).mono ?_;rintro C w2 ⟨rfl,B⟩;clear h;replace f:=f.b B;replace d:=d.b B;replace a:=a.b B;replace hT:=hT.b B;replace hT2:=hT2.b B;replace c:=aa c B;clear B;have e1:=P.out;have e:=d.cell
  go_wp2_with fail
  refine(dm (σ:=τ) hM' (by rw[O.out];exact T.out)).mono ?_;rintro C w3 ⟨rfl,B⟩;clear e;replace f:=f.b B;replace d:=d.b B;replace a:=a.b B;replace hT:=hT.b B;replace hT2:=hT2.b B;replace c:=aa c B;clear B;have h:=f.cell;have e:=d.cell
  go_wp2_with fail
  refine(pF hT hT2 (jV N.out) hM hM' X.out O.out (N.out false _ _) (N.out true _ _) HU.out HV.out R.out HW.out).mono ?_;rintro C w4 ⟨A,u,H,v,t,l,p,m,j,rfl,I,B⟩;clear h e;replace f:=f.b B;replace d:=d.b B;replace a:=a.b B;replace hT:=hT.b B;replace hT2:=hT2.b B;replace c:=aa c B
  clear B
  go_upto_region 5 with (fail)
  have bA:=f.lt;have F:=d.lt;have G:=a.lt;generalize o:w4.alloc _=w5 at *;obtain⟨z,i⟩:=Bo.nw o;clear o;replace f:=f.b i;replace d:=d.b i;replace a:=a.b i;replace hT:=hT.b i;replace hT2:=hT2.b i;replace c:=aa c i;clear i;have e2:=Q.out;have e:=d.cell
  go_wp2_with fail
  refine(dm (σ:=τ) hM' (by rw[O.out];exact T.out)).mono ?_;rintro C w6 ⟨rfl,B⟩;clear e;replace f:=f.b B;replace d:=d.b B;replace a:=a.b B;replace z:=z.b B;replace hT:=hT.b B;replace hT2:=hT2.b B;replace c:=aa c B;clear B;clear hT hT2;have L:=a.cell
  have r:=a.frozen;have J:=z.cell;go_wp2;clear L r J;have S:=ae.t9 a A u H v t l p m j;exact bq (by simp[results,results91,go_sem,S.box.cell]) rfl ⟨_,_,_,_,_,_,_,_,_,rfl,I,(S.below c.out (by omega))⟩
 ·have k:Hid (decide (σ < 0)=false):=ie (by rw[g.out];simpa using cy)
  clear g cy;have g:=k;clear k
  go_enter func91,ntmps91
  go_upto_region 1 with (fail)
  generalize n:((w.alloc _).alloc _).alloc _=w1 at *;obtain⟨f,d,a,c⟩:=Bo.en3 n;replace hT:=hT.below c.out;replace hT2:=hT2.below c.out;clear n;have e0:=g.out;have h:=f.cell
  go_wp2_with fail
  refine(dm (σ:=σ) hM (by rw[X.out];exact HS.out)).mono ?_;rintro C w2 ⟨rfl,B⟩;clear h;replace f:=f.b B;replace d:=d.b B;replace a:=a.b B;replace hT:=hT.b B;replace hT2:=hT2.b B;replace c:=aa c B;clear B;have e1:=P.out;have e:=d.cell
  go_wp2_with fail
  refine(dm (σ:=τ) hM' (by rw[O.out];exact T.out)).mono ?_;rintro C w3 ⟨rfl,B⟩;clear e;replace f:=f.b B;replace d:=d.b B;replace a:=a.b B;replace hT:=hT.b B;replace hT2:=hT2.b B;replace c:=aa c B;clear B;have h:=f.cell;have e:=d.cell
  go_wp2_with fail
  refine(pF hT hT2 (jV N.out) hM hM' X.out O.out (N.out false _ _) (N.out true _ _) HU.out HV.out R.out HW.out).mono ?_;rintro C w4 ⟨A,u,H,v,t,l,p,m,j,rfl,I,B⟩;clear h e;replace d:=d.b B;replace a:=a.b B;replace c:=aa c B;clear B
  go_upto_region 5 with (fail)
  have F:=d.lt;have G:=a.lt;generalize o:w4.alloc _=w5 at *;obtain⟨z,i⟩:=Bo.nw o;clear o;replace d:=d.b i;replace a:=a.b i;replace c:=aa c i;clear i;have e2:=Q.out;have e:=d.cell
  go_wp2_with fail
  refine(dm (σ:=τ) hM' (by rw[O.out];exact T.out)).mono ?_;rintro C w6 ⟨rfl,B⟩;clear e;replace a:=a.b B;replace z:=z.b B;replace c:=aa c B;clear B;clear hT hT2;have L:=a.cell;have r:=a.frozen;have J:=z.cell
  go_wp2;clear L r J;have S:=ae.t9 a A u H v t l p m j;exact bq (by simp[results,results91,go_sem,S.box.cell]) rfl ⟨_,_,_,_,_,_,_,_,_,rfl,I,(S.below c.out (by omega))⟩
theorem pD{w:World}{q:Bool->Int->Int->Int}{D D' M M' E E':Int}{s s':Bool}{x y:Int}{U V W Z:Sp}(hq:QF q)(hT:dQ w)(hT2:Tb w)(hM:LQ M)(hM':LQ M')(hy:rk D s M E=y)(hx:rk D' s' M' E'=x)(x0:x≠0)(hU:jM q (q false y x) U)(hV:jM q (q true y x) V)(oU:aY U)(hW:bY U V=W)(cx:¬0 < x)(cy:y < 0)(hZ:kM W mZ=Z):Calls prog 91 #[VQ D s M E,VQ D' s' M' E'] w (PV w Z):=by
 delta VQ
 obtain⟨σ,hσ⟩:∃σ,ag y 0=σ:=⟨_,rfl⟩;obtain⟨τ,N⟩:∃σ,ag x 0=σ:=⟨_,rfl⟩;have e0:=(aQ hσ).1;have e1:=fC N;have e2:=(aQ N).2;rw[df x0]at e1;rw[df cx]at e2;rw[dt cy]at e0;clear x0 cx cy;have Y:=ie hq;have HX:=ie hx;have HY:=ie hy;have HS:=ie hσ;have HT:=ie N;have R:=ie e0
 have S:=ie e1;have T:=ie e2;have HU:=ie hU;have HV:=ie hV;have X:=ie oU;have HW:=ie hW;have HZ:=ie hZ;clear hq hx hy hσ N e0 e1 e2 hU hV oU hW hZ
 go_enter func91,ntmps91
 go_upto_region 1 with (fail)
 generalize C:((w.alloc _).alloc _).alloc _=w1 at *;obtain⟨l,d,a,c⟩:=Bo.en3 C;replace hT:=hT.below c.out;replace hT2:=hT2.below c.out;clear C;have e0:=R.out;have j:=l.cell
 go_wp2_with fail
 refine(dm (σ:=σ) hM (by rw[HY.out];exact HS.out)).mono ?_;rintro ee w2 ⟨rfl,B⟩;clear j;replace l:=l.b B;replace d:=d.b B;replace a:=a.b B;replace hT:=hT.b B;replace hT2:=hT2.b B;replace c:=aa c B;clear B;have e1:=S.out;have f:=d.cell
 go_wp2_with fail
 refine(dm (σ:=τ) hM' (by rw[HX.out];exact HT.out)).mono ?_;rintro ee w3 ⟨rfl,B⟩;clear f;replace l:=l.b B;replace d:=d.b B;replace a:=a.b B;replace hT:=hT.b B;replace hT2:=hT2.b B;replace c:=aa c B;clear B;have j:=l.cell;have f:=d.cell
 go_wp2_with fail
 refine(pF hT hT2 (jV Y.out) hM hM' HY.out HX.out (Y.out false _ _) (Y.out true _ _) HU.out HV.out X.out HW.out).mono ?_;rintro ee w4 ⟨fH,bA,gS,bD,O,p,G,u,m,rfl,i,B⟩;clear j f;replace d:=d.b B;replace a:=a.b B;replace hT:=hT.b B;replace hT2:=hT2.b B;replace c:=aa c B
 clear B
 go_upto_region 5 with (fail)
 have gO:=d.lt;have gP:=a.lt;generalize F:w4.alloc _=w5 at *;obtain⟨L,k⟩:=Bo.nw F;clear F;replace d:=d.b k;replace a:=a.b k;replace hT:=hT.b k;replace hT2:=hT2.b k;replace c:=aa c k;clear k;have e2:=T.out;have f:=d.cell
 go_wp2_with fail
 refine(dm (σ:=τ) hM' (by rw[HX.out];exact HT.out)).mono ?_;rintro ee w6 ⟨rfl,B⟩;clear f;replace a:=a.b B;replace L:=L.b B;replace hT:=hT.b B;replace hT2:=hT2.b B;replace c:=aa c B;clear B
 go_upto_region 8 with (fail)
 clear e0 e1 e2;have hF:=a.lt;have hE:=L.lt;refine jk [0,1,2] [some 26,some 27,some 28,none] [[],[],[0,1],[]] 4 1 [Jo.q9 fH bA gS bD O p G u m,Jo.Fact.iv (some (fw,fw+1)),Jo.Fact.iv Z,Jo.Fact.any] ?_ ?_
 ·refine jm ?_ ?_
  ·rintro wj h K e;simp only[Jo.z]at e|-;have hG:=(L.b h).cell;go_simp;exact e.out _ _ rfl (br _ _)
  refine jm ?_ ?_
  ·rintro wj h K e;simp only[Jo.z]at e|-;go_simp;exact Jo.v1 (JN (hT.b h)) e.out
  refine jm ?_ ?_
  ·rintro wj h _ rfl _ ⟨fP,bB,hA,bH,P,r,H,v,n,rfl,g⟩ K e;simp only[Jo.z]at e|-;go_simp;exact Jo.v1 (Fw (hT2.b h) i.top.1 i.top.2 g.top.1 g.top.2 i.rk g.rk HZ.out) e.out
  exact jo
 rintro w7 h _ rfl _ ⟨fP,bB,hA,bH,P,r,H,v,n,rfl,g⟩ _ ⟨gB,bC,hB,bN,Q,t,I,A,o,rfl,hC⟩ -;simp only[Jo.z];replace a:=a.b h;replace c:=aa c h;clear hT hT2;have hD:=a.cell;have J:=a.frozen
 refine jn 3 fun K e=>?_
 go_simp;refine e.out _ _ ?_;clear e K hD J;have SX:=ae.t9 a gB bC hB bN Q t I A o;refine jd ?_;go_wp2;exact bq (by simp[results,results91,go_sem,SX.box.cell]) rfl ⟨_,_,_,_,_,_,_,_,_,rfl,hC,(SX.below c.out (by omega))⟩
theorem pE{w:World}{q:Bool->Int->Int->Int}{D D' M M' E E':Int}{s s':Bool}{x y:Int}{U V W Z:Sp}(hq:QF q)(hT:dQ w)(hT2:Tb w)(hM:LQ M)(hM':LQ M')(hy:rk D s M E=y)(hx:rk D' s' M' E'=x)(x0:x≠0)(hU:jM q (q false y x) U)(hV:jM q (q true y x) V)(oU:aY U)(hW:bY U V=W)(cx:¬0 < x)(cy:¬y < 0)(hZ:fN mZ W=Z):Calls prog 91 #[VQ D s M E,VQ D' s' M' E'] w (PV w Z):=by
 delta VQ
 obtain⟨σ,hσ⟩:∃σ,ag y 0=σ:=⟨_,rfl⟩;obtain⟨τ,N⟩:∃σ,ag x 0=σ:=⟨_,rfl⟩;have e0:=(aQ hσ).1;have e1:=fC N;have e2:=(aQ N).2;rw[df x0]at e1;rw[df cx]at e2;rw[df cy]at e0;clear x0 cx cy;have Y:=ie hq;have HX:=ie hx;have HY:=ie hy;have HS:=ie hσ;have HT:=ie N;have R:=ie e0
 have S:=ie e1;have T:=ie e2;have HU:=ie hU;have HV:=ie hV;have X:=ie oU;have HW:=ie hW;have HZ:=ie hZ;clear hq hx hy hσ N e0 e1 e2 hU hV oU hW hZ
 go_enter func91,ntmps91
 go_upto_region 1 with (fail)
 generalize C:((w.alloc _).alloc _).alloc _=w1 at *;obtain⟨l,e,a,c⟩:=Bo.en3 C;replace hT:=hT.below c.out;replace hT2:=hT2.below c.out;clear C;have e0:=R.out;have j:=l.cell
 go_wp2_with fail
 refine(dm (σ:=σ) hM (by rw[HY.out];exact HS.out)).mono ?_;rintro ee w2 ⟨rfl,B⟩;clear j;replace l:=l.b B;replace e:=e.b B;replace a:=a.b B;replace hT:=hT.b B;replace hT2:=hT2.b B;replace c:=aa c B;clear B;have e1:=S.out;have f:=e.cell
 go_wp2_with fail
 refine(dm (σ:=τ) hM' (by rw[HX.out];exact HT.out)).mono ?_;rintro ee w3 ⟨rfl,B⟩;clear f;replace l:=l.b B;replace e:=e.b B;replace a:=a.b B;replace hT:=hT.b B;replace hT2:=hT2.b B;replace c:=aa c B;clear B;have j:=l.cell;have f:=e.cell
 go_wp2_with fail
 refine(pF hT hT2 (jV Y.out) hM hM' HY.out HX.out (Y.out false _ _) (Y.out true _ _) HU.out HV.out X.out HW.out).mono ?_;rintro ee w4 ⟨fH,bA,hA,bD,O,p,G,u,m,rfl,i,B⟩;clear j f;replace e:=e.b B;replace a:=a.b B;replace hT:=hT.b B;replace hT2:=hT2.b B;replace c:=aa c B
 clear B
 go_upto_region 5 with (fail)
 have gP:=e.lt;have gS:=a.lt;generalize F:w4.alloc _=w5 at *;obtain⟨L,k⟩:=Bo.nw F;clear F;replace e:=e.b k;replace a:=a.b k;replace hT:=hT.b k;replace hT2:=hT2.b k;replace c:=aa c k;clear k;have e2:=T.out;have f:=e.cell
 go_wp2_with fail
 refine(dm (σ:=τ) hM' (by rw[HX.out];exact HT.out)).mono ?_;rintro ee w6 ⟨rfl,B⟩;clear f;replace a:=a.b B;replace L:=L.b B;replace hT:=hT.b B;replace hT2:=hT2.b B;replace c:=aa c B;clear B
 go_upto_region 9 with (fail)
 clear e0 e1 e2;have hG:=a.lt;have hF:=L.lt;refine jk [0,1,2,3] [some 29,some 30,some 31,some 32,none] [[],[],[0,1],[2],[]] 5 1 [Jo.Fact.iv (some (fw,fw+1)),Jo.q9 fH bA hA bD O p G u m,Jo.Fact.il8 2 [(some (fw,fw+1)),W],Jo.Fact.iv Z,Jo.Fact.any] ?_ ?_
 ·refine jm ?_ ?_
  ·rintro wj g K d;simp only[Jo.z]at d|-;go_simp;exact Jo.v1 (JN (hT.b g)) d.out
  refine jm ?_ ?_
  ·rintro wj g K d;simp only[Jo.z]at d|-;have hL:=(L.b g).cell;go_simp;exact d.out _ _ rfl (br _ _)
  refine jm ?_ ?_
  ·rintro wj g _ ⟨fP,bB,hB,bH,P,r,H,v,n,rfl,h⟩ _ rfl K d;simp only[Jo.z]at d|-;go_simp;exact d.out _ _ ⟨_,2,rfl,lh.lit2 rfl ⟨h.top.1,h.top.2,h.rk⟩ ⟨i.top.1,i.top.2,i.rk⟩⟩ (af _ _)
  refine jm ?_ ?_
  ·rintro wj g _ ⟨hH,hI,rfl,gO⟩ K d;simp only[Jo.z]at d|-;go_simp;exact Jo.v1 (Fu (hT2.b g) gO HZ.out) d.out
  exact jo
 rintro w7 g _ ⟨fP,bB,hB,bH,P,r,H,v,n,rfl,h⟩ _ rfl _ ⟨_,_,rfl,_⟩ _ ⟨gB,bC,hC,bN,Q,t,I,A,o,rfl,hD⟩ -;simp only[Jo.z];replace a:=a.b g;replace c:=aa c g;clear hT hT2;have hE:=a.cell;have J:=a.frozen
 refine jn 4 fun K d=>?_
 go_simp;refine d.out _ _ ?_;clear d K hE J;have SX:=ae.t9 a gB bC hC bN Q t I A o;refine jd ?_;go_wp2;exact bq (by simp[results,results91,go_sem,SX.box.cell]) rfl ⟨_,_,_,_,_,_,_,_,_,rfl,hD,(SX.below c.out (by omega))⟩
theorem Fo{w:World}{q:Bool->Int->Int->Int}{D D' M M' E E':Int}{s s':Bool}{x y:Int}{Z:Sp}(hq:QF q)(hT:dQ w)(hT2:Tb w)(hM:LQ M)(hM':LQ M')(hy:rk D s M E=y)(hx:rk D' s' M' E'=x)(fy:jv y)(fx:jv x)(hZ:ol q y x Z):Calls prog 91 #[VQ D s M E,VQ D' s' M' E'] w (PV w Z):=by
 delta VQ
 rcases hZ with⟨a,H,h,rfl⟩ | ⟨a,U,V,b,e,rfl⟩
 ·by_cases c:y < 0
  ·rw[if_pos c];exact lP hq hT hT2 hM hM' hy hx a c (yN h true)
  ·rw[if_neg c];exact kX hq hT hT2 hM hM' hy hx a c (yN h false)
 ·have i:=(hq false y x).bd;have j:=(hq true y x).bd
  have f:aY U:=by
   have g:=jM.grow hq b b i.1 (Int.le_refl _) i.2;exact g.1
  by_cases c:0 < x
  ·rw[if_pos c];exact yE hq hT hT2 hM hM' hy hx a b e f rfl c
  ·rw[if_neg c]
   by_cases d:y < 0
   ·rw[if_pos d];exact pD hq hT hT2 hM hM' hy hx a b e f rfl c d rfl
   ·rw[if_neg d];exact pE hq hT hT2 hM hM' hy hx a b e f rfl c d rfl
def JU (w:World)(x:Sp)(t:Bool)(e:Ending)(w':World):Prop:=∃e0 K s M E K' s' M' E',e= .returned (.tuple #[.agg #[.bool e0,.int .i64 K,.bool s,.int .u64 M,.int .i64 E,.int .i64 K',.bool s',.int .u64 M',.int .i64 E'],.bool t])/\Ci e0 K s M E K' s' M' E' x/\Below w.heap.size w w'
theorem Gc{w:World}{q:Bool->Int->Int->Int}{D D' M M' E E':Int}{s s':Bool}{x y:Int}{Z:Sp}(hq:QF q)(hT:dQ w)(hT2:Tb w)(hM:LQ M)(hM':LQ M')(hy:rk D s M E=y)(hx:rk D' s' M' E'=x)(hf:(gW D s M E && gW D' s' M' E')=true)(y0:y≠0)(fy:jv y)(fx:jv x)(hZ:ol q y x Z):Calls prog 28 #[VQ D s M E,VQ D' s' M' E'] w (JU w Z true):=by
 delta VQ
 obtain⟨σ,C⟩:∃σ,ag y 0=σ:=⟨_,rfl⟩;obtain⟨τ,F⟩:∃σ,ag x 0=σ:=⟨_,rfl⟩;have e0:=fC C;have e1:=fC F;rw[df y0]at e0;clear y0;have U:=ie hx;have I:=ie hy;have T:=ie C;have W:=ie F;have u:=ie e0;have Q:=ie e1;have R:=ie hf;have S:=ie hq;have A:=ie fy;have z:=ie fx
 have V:=ie hZ;clear hx hy C F e0 e1 hf hq fy fx hZ
 go_enter func28,ntmps28
 go_upto_region 1 with (fail)
 generalize p:((w.alloc _).alloc _).alloc _=w1 at *;obtain⟨h,j,c,d⟩:=Bo.en3 p;replace hT:=hT.below d.out;replace hT2:=hT2.below d.out;clear p;have N:=h.lt;have O:=j.lt;have P:=c.lt;have a:=h.cell;have k:=j.cell
 go_wp2_with fail
 refine(Fp (Bo.new _ _ _) R.out).mono ?_;rintro L X ⟨rfl,B⟩;replace B:=bt (af _ (.cells #[.int .i64 D,.bool s,.int .u64 M,.int .i64 E,.int .i64 D',.bool s',.int .u64 M',.int .i64 E'] 24)) B;clear a k;replace h:=h.b B;replace j:=j.b B;replace c:=c.b B;replace hT:=hT.b B;replace hT2:=hT2.b B;replace d:=aa d B
 clear B;have e0:=u.out;have a:=h.cell
 go_wp2_with fail
 refine(dm (σ:=σ) hM (by rw[I.out];exact T.out)).mono ?_;rintro L wa ⟨rfl,B⟩;clear a;replace h:=h.b B;replace j:=j.b B;replace c:=c.b B;replace hT:=hT.b B;replace hT2:=hT2.b B;replace d:=aa d B;clear B;have a:=h.cell;have k:=j.cell
 go_wp2_with fail
 refine(Fo S.out hT hT2 hM hM' I.out U.out A.out z.out V.out).mono ?_;rintro L Y ⟨o,m,r,n,l,f,i,g,e,rfl,G,B⟩;clear a k;replace c:=c.b B;replace d:=aa d B;clear B;clear hT hT2;have H:=c.cell;have t:=c.frozen;go_wp2;clear H t
 have J:=ae.t9 c o m r n l f i g e;exact bq (v:= .tuple #[.agg #[.bool o,.int .i64 m,.bool r,.int .u64 n,.int .i64 l,.int .i64 f,.bool i,.int .u64 g,.int .i64 e],.bool true]) (by simp[results,results28,go_sem,J.box.cell]) rfl ⟨_,_,_,_,_,_,_,_,_,rfl,G,(J.below d.out (by omega))⟩
theorem Gb{w:World}{q:Bool->Int->Int->Int}{D D' M M' E E':Int}{s s':Bool}{x y:Int}{Z:Sp}(hq:QF q)(hT:dQ w)(hT2:Tb w)(hM:LQ M)(hM':LQ M')(hy:rk D s M E=y)(hx:rk D' s' M' E'=x)(hf:(gW D s M E && gW D' s' M' E')=true)(y0:y=0)(x0:x≠0)(fy:jv y)(fx:jv x)(hZ:ol q y x Z):Calls prog 28 #[VQ D s M E,VQ D' s' M' E'] w (JU w Z true):=by
 delta VQ
 obtain⟨σ,G⟩:∃σ,ag y 0=σ:=⟨_,rfl⟩;obtain⟨τ,H⟩:∃σ,ag x 0=σ:=⟨_,rfl⟩;have e0:=fC G;have e1:=fC H;rw[dt y0]at e0;rw[df x0]at e1;clear y0 x0;have L:=ie hx;have N:=ie hy;have U:=ie G;have V:=ie H;have u:=ie e0;have z:=ie e1;have S:=ie hf;have T:=ie hq
 have C:=ie fy;have A:=ie fx;have W:=ie hZ;clear hx hy G H e0 e1 hf hq fy fx hZ
 go_enter func28,ntmps28
 go_upto_region 1 with (fail)
 generalize p:((w.alloc _).alloc _).alloc _=w1 at *;obtain⟨f,g,a,c⟩:=Bo.en3 p;replace hT:=hT.below c.out;replace hT2:=hT2.below c.out;clear p;have P:=f.lt;have Q:=g.lt;have R:=a.lt;have d:=f.cell;have e:=g.cell
 go_wp2_with fail
 refine(Fp (Bo.new _ _ _) S.out).mono ?_;rintro F X ⟨rfl,B⟩;replace B:=bt (af _ (.cells #[.int .i64 D,.bool s,.int .u64 M,.int .i64 E,.int .i64 D',.bool s',.int .u64 M',.int .i64 E'] 24)) B;clear d e;replace f:=f.b B;replace g:=g.b B;replace a:=a.b B;replace hT:=hT.b B;replace hT2:=hT2.b B;replace c:=aa c B
 clear B;have e0:=u.out;have d:=f.cell
 go_wp2_with fail
 refine(dm (σ:=σ) hM (by rw[N.out];exact U.out)).mono ?_;rintro F wa ⟨rfl,B⟩;clear d;replace f:=f.b B;replace g:=g.b B;replace a:=a.b B;replace hT:=hT.b B;replace hT2:=hT2.b B;replace c:=aa c B;clear B;have e1:=z.out;have e:=g.cell
 go_wp2_with fail
 refine(dm (σ:=τ) hM' (by rw[L.out];exact V.out)).mono ?_;rintro F wb ⟨rfl,B⟩;clear e;replace f:=f.b B;replace g:=g.b B;replace a:=a.b B;replace hT:=hT.b B;replace hT2:=hT2.b B;replace c:=aa c B;clear B;have d:=f.cell;have e:=g.cell
 go_wp2_with fail
 refine(Fo T.out hT hT2 hM hM' N.out L.out C.out A.out W.out).mono ?_;rintro F Y ⟨o,m,r,n,l,i,k,j,h,rfl,I,B⟩;clear d e;replace a:=a.b B;replace c:=aa c B;clear B;clear hT hT2;have J:=a.cell;have t:=a.frozen;go_wp2;clear J t
 have O:=ae.t9 a o m r n l i k j h;exact bq (v:= .tuple #[.agg #[.bool o,.int .i64 m,.bool r,.int .u64 n,.int .i64 l,.int .i64 i,.bool k,.int .u64 j,.int .i64 h],.bool true]) (by simp[results,results28,go_sem,O.box.cell]) rfl ⟨_,_,_,_,_,_,_,_,_,rfl,I,(O.below c.out (by omega))⟩
theorem Dm{w:World}{q:Bool->Int->Int->Int}{D D' M M' E E':Int}{s s':Bool}{x y:Int}{Z:Sp}(hq:QF q)(hT:dQ w)(hT2:Tb w)(hM:LQ M)(hM':LQ M')(hy:rk D s M E=y)(hx:rk D' s' M' E'=x)(hf:(gW D s M E && gW D' s' M' E')=true)(h0:¬(y=0/\x=0))(fy:jv y)(fx:jv x)(hZ:ol q y x Z):Calls prog 28 #[VQ D s M E,VQ D' s' M' E'] w (JU w Z true):=by
 delta VQ
 by_cases c:y=0
 ·exact Gb hq hT hT2 hM hM' hy hx hf c (fun e=>h0 ⟨c,e⟩) fy fx hZ
 ·exact Gc hq hT hT2 hM hM' hy hx hf c fy fx hZ
theorem oH:∃H,eD H:=by
 obtain⟨r,a⟩:=qQ false (iE/2) SC;obtain⟨u,b⟩:=qQ true (iD/2+1) SC;exact⟨_,r,u,a,b,rfl⟩
theorem oP (v:Int):∃Z,eE v Z:=by
 obtain⟨r,a⟩:=qQ false (pL v) SC;obtain⟨u,b⟩:=qQ true (pH v) SC;exact⟨_,r,u,a,b,rfl⟩
theorem yS (q:Bool->Int->Int->Int)(n:Int):∃Z,mX q n Z:=by
 by_cases c:n=19342822337206103650074625
 ·obtain⟨H,h⟩:=oH;exact⟨H,.inl ⟨c,h⟩⟩
 ·by_cases d:n<=ak 1
  ·obtain⟨Z,h⟩:=oP (du n);exact⟨Z,.inr (.inl ⟨c,d,h⟩)⟩
  ·obtain⟨H,h⟩:=oH;obtain⟨U,a⟩:=oP (du (q false (ak 1) n));obtain⟨V,b⟩:=oP (du (q true (ak 1) n));exact⟨_,.inr (.inr ⟨c,d,H,U,V,h,a,b,rfl⟩)⟩
theorem ow (q:Bool->Int->Int->Int)(n:Int):∃Z,jM q n Z:=by
 by_cases c:n < 0
 ·obtain⟨Y,h⟩:=yS q (-n);exact⟨_,.inl ⟨c,Y,h,rfl⟩⟩
 ·obtain⟨Z,h⟩:=yS q n;exact⟨Z,.inr ⟨c,h⟩⟩
theorem Dj (q:Bool->Int->Int->Int)(y x:Int):∃Z,ol q y x Z:=by
 by_cases c:x=0
 ·obtain⟨H,h⟩:=oH;exact⟨_,.inl ⟨c,H,h,rfl⟩⟩
 ·obtain⟨U,a⟩:=ow q (q false y x);obtain⟨V,b⟩:=ow q (q true y x);exact⟨_,.inr ⟨c,U,V,a,b,rfl⟩⟩
theorem Bq{n:Int}:jv (ak n):=by
 obtain⟨a,b⟩:=qv n.natAbs 0
 unfold jv ak
 generalize lo n.natAbs 0=l at a b
 cases h:decide (n < 0)
 ·rw[show aj false l=l from if_neg (by decide)];omega
 ·rw[show aj true l= -l from if_pos rfl];omega
theorem tH{K:Int}{s:Bool}{M E r:Int}(h:Fq K s M E r)(f:jv r):gW K s M E=true:=by
 refine lX (dt h.1) ?_
 rcases h.cases with⟨rfl,_⟩ | ⟨rfl,_⟩ | ⟨rfl,_,_,⟨_,e⟩ | ⟨_,e⟩⟩
 ·rfl
 ·rfl
 ·exact absurd f.2 (by omega)
 ·exact absurd f.1 (by omega)
theorem zB{K K':Int}{s s':Bool}{M E M' E' r r':Int}(h:Fq K s M E r)(h':Fq K' s' M' E' r')(f:jv r)(f':jv r'):(gW K s M E && gW K' s' M' E')=true:=by
 rw[tH h f,tH h' f']
 rfl
theorem DH:eB (ak 4) (ak 4)=some (ak 4,ak 4):=aK (Int.le_refl _) (by decide) (by decide)
theorem sM (e:Bool)(D:Int)(s:Bool)(M E G:Int)(g:Bool)(P Q:Int)(w:World):Sem.run prog (Instr.field 32 (.agg #[.bool e,.int .i64 D,.bool s,.int .u64 M,.int .i64 E,.int .i64 G,.bool g,.int .u64 P,.int .i64 Q]) 0) w= .ok (.bool e) w:=by kernel_rfl
theorem rr{w:World}{q:Bool->Int->Int->Int}(hq:QF q)(hT:dQ w)(hT2:Tb w){Z A:Sp}{a b a2 b2:Int}(hZ:jM q (ak 1) Z)(hA:ol q 0 (ak (-1)) A)(h1:mj [(lc (some (ak 4,ak 4)) Z),(some (fw,fw+1))]=some (a,b))(h2:mj [A,(some (fw,fw+1))]=some (a2,b2))(hw:nz A < ak 1):Calls prog 23 #[] w (PB w true):=by
 obtain⟨σ,hσ⟩:∃σ,ag (nz A) (ak 1)=σ:=⟨_,rfl⟩
 have e0:decide (σ < 0)=true:=dt (by rw[<-hσ,aq hw];decide)
 have f0:jv 0:=⟨by decide,by decide⟩
 have f1:jv (ak (-1)):=Bq
 have HQ:=ie hq;have HZ:=ie hZ;have HA:=ie hA;have H1:=ie h1;have H2:=ie h2;have hM:=ie hσ;have hL:=ie e0;have G:=ie f0;have H:=ie f1;clear hw hq hZ hA h1 h2 hσ e0 f0 f1
 go_enter func23,ntmps23
 have f:=ie (Below.refl w.heap.size w)
 go_wp2_with fail
 refine(AW (n:=4) (r:=ak 4) _ (by decide) (by decide) rfl).mono ?_;rintro X w1 ⟨K1,s1,M1,E1,rfl,q1,B⟩;replace hT:=hT.b B;replace hT2:=hT2.b B;replace f:=aa f B;clear B
 go_wp2_with fail
 refine(DW q1.top q1.rk DH).mono ?_;rintro X w2 ⟨e2,K2,s2,M2,E2,hU,HN,qT,hF,rfl,v2,B⟩;replace hT:=hT.b B;replace hT2:=hT2.b B;replace f:=aa f B;clear B
 go_upto_region 2 with (fail)
 have Y:=f.out.size;generalize h:w2.alloc _=w3 at *;obtain⟨X1,j⟩:=Bo.nw h;clear h;replace hT:=hT.b j;replace hT2:=hT2.b j;replace f:=aa f j;clear j;clear q1;have LA:=X1.lt;refine jk [0,1,2,3,4,5,6,7] [some 7,some 8,some 9,some 10,some 11,some 12,some 13,some 2,none] [[],[],[1],[0,2],[],[3,4],[5],[],[]] 9 1 [Jo.q9 e2 K2 s2 M2 E2 hU HN qT hF,Jo.Fact.num (ak 1),Jo.Fact.iv Z,Jo.Fact.iv (lc (some (ak 4,ak 4)) Z),Jo.Fact.iv (some (fw,fw+1)),Jo.Fact.il8 2 [(lc (some (ak 4,ak 4)) Z),(some (fw,fw+1))],Jo.Fact.iv (some (a,b)),Jo.Fact.bo w3.heap.size #[.bool false,.int .i64 0,.bool false,.int .u64 0,.int .i64 0,.int .i64 0,.bool false,.int .u64 0,.int .i64 0] 32,Jo.Fact.any] ?_ ?_
 ·refine jm ?_ ?_
  ·rintro g d K c;simp only[Jo.z]at c|-;have LM:=(X1.b d).cell;go_simp;exact c.out _ _ rfl (br _ _)
  refine jm ?_ ?_
  ·rintro g d K c;simp only[Jo.z]at c|-;go_simp;exact Jo.n1 (AW (n:=1) (r:=ak 1) _ (by decide) (by decide) rfl) c.out
  refine jm ?_ ?_
  ·rintro g d _ ⟨hN,HJ,iU,hB,rfl,p⟩ K c;simp only[Jo.z]at c|-;go_simp;exact Jo.v1 (lR HQ.out (hT.b d) (hT2.b d) p.nn p.top p.rk HZ.out) c.out
  refine jm ?_ ?_
  ·rintro g d _ rfl _ ⟨CD,hP,HK,iV,hC,I,bC,P,x,rfl,i⟩ K c;simp only[Jo.z]at c|-;go_simp;exact Jo.v1 (IQ v2.top.1 v2.top.2 i.top.1 i.top.2 v2.rk i.rk rfl) c.out
  refine jm ?_ ?_
  ·rintro g d K c;simp only[Jo.z]at c|-;go_simp;exact Jo.v1 (JN (hT.b d)) c.out
  refine jm ?_ ?_
  ·rintro g d _ ⟨ET,hQ,HL,lA,hD,J,bD,Q,y,rfl,t⟩ _ ⟨HC,hR,HM,lB,hE,L,bH,R,C,rfl,u⟩ K c;simp only[Jo.z]at c|-;go_simp;exact c.out _ _ ⟨_,2,rfl,lh.lit2 rfl t.rw u.rw⟩ (af _ _)
  refine jm ?_ ?_
  ·rintro g d _ ⟨LD,LI,rfl,HG⟩ K c;simp only[Jo.z]at c|-;go_simp;exact Jo.v1 (Ap HG H1.out) c.out
  refine jm ?_ ?_
  ·rintro g d K c;simp only[Jo.z]at c|-;go_simp;exact c.out _ _ ⟨_,rfl,d.size,Bo.new _ _ _⟩ (af _ _)
  exact jo
 rintro w4 d _ rfl _ ⟨hN,HJ,iU,hB,rfl,_⟩ _ ⟨CD,hP,HK,iV,hC,I,bC,P,x,rfl,i⟩ _ ⟨ET,hQ,HL,lA,hD,J,bD,Q,y,rfl,t⟩ _ ⟨HC,hR,HM,lB,hE,L,bH,R,C,rfl,u⟩ _ ⟨_,_,rfl,_⟩ _ ⟨HD,LG,LK,LH,LF,HV,LC,HW,HU,rfl,HS⟩ _ ⟨HF,rfl,HY,e⟩ -;simp only[Jo.z];replace hT:=hT.b d;replace hT2:=hT2.b d
 replace f:=aa f d;have gP:=e.cell;have v:=e.frozen
 refine jn 8 fun K c=>?_
 go_simp;refine c.out _ _ ?_;clear c K gP v;generalize hS:((((((((w4.setCell _ _).setCell _ _).setCell _ _).setCell _ _).setCell _ _).setCell _ _).setCell _ _).setCell _ _).setCell _ _=w5 at *;have V:=ae.of9 e hS;replace hT:=hT.s V;replace hT2:=hT2.s V;replace f:=bn f V (by omega)
 replace e:=V.box;clear V hS;refine jd ?_;clear i t u
 obtain rfl:HD=false:=HS.1
 go_wp2_with fail
 refine(AW (n:=0) (r:=0) _ (by decide) (by decide) rfl).mono ?_;rintro X w6 ⟨K5,s5,M5,E5,rfl,q5,B⟩;replace e:=e.b B;replace hT:=hT.b B;replace hT2:=hT2.b B;replace f:=aa f B;clear B
 go_wp2_with fail
 refine(AW (n:= -1) (r:=ak (-1)) _ (by decide) (by decide) rfl).mono ?_;rintro X w7 ⟨K6,s6,M6,E6,rfl,q6,B⟩;replace e:=e.b B;replace hT:=hT.b B;replace hT2:=hT2.b B;replace f:=aa f B;clear B
 go_wp2_with fail
 refine(Dm HQ.out hT hT2 q5.top q6.top q5.rk q6.rk (zB q5 q6 G.out H.out) (by decide) G.out H.out HA.out).mono ?_;rintro X w8 ⟨e7,K7,s7,M7,E7,O,fP,U,F,rfl,v7,B⟩;replace e:=e.b B;replace hT:=hT.b B;replace hT2:=hT2.b B;replace f:=aa f B;clear B
 go_upto_region 4 with (fail)
 clear Y;have Y:=f.out.size;have gS:=e.lt;generalize h:w8.alloc _=w9 at *;obtain⟨X3,j⟩:=Bo.nw h;clear h;replace e:=e.b j;replace hT:=hT.b j;replace hT2:=hT2.b j;replace f:=aa f j;clear j;clear q5 q6;have HI:=e.lt;have LB:=X3.lt;refine jk [0,1,2,3,4,5,6,7,8,9,10,11,12,13,14,15,16,17,18,19,20,21] [some 20,some 21,some 22,some 23,some 24,some 25,some 26,some 27,some 28,some 29,some 30,some 31,some 32,some 33,some 34,some 35,some 36,some 37,some 38,some 39,some 40,some 0] [[],[0],[1],[2],[3],[3,4],[5],[6],[6],[6,7,8],[6,9],[6,10],[6,11],[6,12],[13],[14],[14,15],[14],[14,16,17],[14,18],[14,19],[20]] 22 0 [Jo.qp HF 0,Jo.qb false,Jo.qb true,Jo.qb true,Jo.qb true,Jo.qb true,Jo.qb true,Jo.q9 e7 K7 s7 M7 E7 O fP U F,Jo.Fact.iv (some (fw,fw+1)),Jo.Fact.il8 2 [A,(some (fw,fw+1))],Jo.Fact.iv (some (a2,b2)),Jo.qb false,Jo.qb true,Jo.qb true,Jo.qb true,Jo.q9 e7 K7 s7 M7 E7 O fP U F,Jo.Fact.num (nz A),Jo.Fact.num (ak 1),Jo.qi σ,Jo.qb true,Jo.qb true,Jo.qb true] ?_ ?_
 ·refine jm ?_ ?_;rotate_left
  refine jm ?_ ?_
  ·rintro g d _ rfl K c;simp only[Jo.z]at c|-;have HT:=(e.b d).a 0 (.bool false) rfl;go_simp;exact c.out _ _ rfl (br _ _)
  iterate 6 (refine jm ?_ ?_;rotate_left)
  refine jm ?_ ?_
  ·rintro g d _ rfl K c;simp only[Jo.z]at c|-;go_simp;exact Jo.v1 (JN (hT.b d)) c.out
  refine jm ?_ ?_
  ·rintro g d _ rfl _ rfl _ ⟨HE,hV,HO,xX,hG,M,bN,S,D,rfl,gB⟩ K c;simp only[Jo.z]at c|-;go_simp;exact c.out _ _ ⟨_,2,rfl,lh.lit2 rfl v7.rw gB.rw⟩ (af _ _)
  refine jm ?_ ?_
  ·rintro g d _ rfl _ ⟨LE,LJ,rfl,HH⟩ K c;simp only[Jo.z]at c|-;go_simp;exact Jo.v1 (Ap HH H2.out) c.out
  refine jm ?_ ?_
  ·rintro g d _ rfl _ ⟨W,N,fH,T,E,l,o,m,k,rfl,gO⟩ K c;simp only[Jo.z]at c|-
   obtain rfl:W=false:=gO.1
   have HX:=sM false N fH T E l o m k g;go_simp;exact c.out _ _ rfl (br _ _)
  iterate 4 (refine jm ?_ ?_;rotate_left)
  refine jm ?_ ?_
  ·rintro g d _ rfl _ rfl K c;simp only[Jo.z]at c|-;go_simp;exact Jo.n1 (DX (hT2.b d) v7.top.1 v7.top.2 v7.rk rfl) c.out
  refine jm ?_ ?_
  ·rintro g d _ rfl K c;simp only[Jo.z]at c|-;go_simp;exact Jo.n1 (AW (n:=1) (r:=ak 1) _ (by decide) (by decide) rfl) c.out
  refine jm ?_ ?_
  ·rintro g d _ rfl _ ⟨hW,HP,zX,hH,rfl,bA⟩ _ ⟨hX,HR,BX,hI,rfl,bB⟩ K c;simp only[Jo.z]at c|-;go_simp;refine(j5 (z:=σ) bA.top bB.top (by rw[bA.rk,bB.rk];exact hM.out)).mono ?_;rintro X wk ⟨rfl,B⟩;exact c.out _ _ rfl B
  refine jm ?_ ?_
  ·rintro g d _ rfl _ rfl K c;simp only[Jo.z]at c|-;have ht:=hL.out;go_simp
   exact c.out _ _ (by first | rfl | (show Value.bool _=Value.bool _;first | (rw[ht];done) | (simp only[ht];done) | simp_all)) (br _ _)
  iterate 2 (refine jm ?_ ?_;rotate_left)
  exact jo
  all_goals (rintro g d;(repeat rintro _ rfl);intro K c;simp only[Jo.z]at c|-;have LN:=(X3.b d).cell;go_simp;exact c.out _ _ rfl (br _ _))
 rintro wA d _ _ _ rfl _ rfl _ rfl _ rfl _ rfl _ rfl _ rfl _ ⟨HE,hV,HO,xX,hG,M,bN,S,D,rfl,gB⟩ _ ⟨_,_,rfl,_⟩ _ ⟨W,N,fH,T,E,l,o,m,k,rfl,gO⟩ _ rfl _ rfl _ rfl _ rfl _ rfl _ ⟨hW,HP,zX,hH,rfl,_⟩ _ ⟨hX,HR,BX,hI,rfl,_⟩ _ rfl _ rfl _ rfl _ rfl -;simp only[Jo.z];replace f:=aa f d;refine jd ?_
 go_wp2
 go_ret
 exact⟨rfl,f.out⟩
theorem tr{w:World}{q:Bool->Int->Int->Int}(hq:QF q)(hT:dQ w)(hT2:Tb w):Calls prog 23 #[] w (PB w true):=by
 obtain⟨Z,d⟩:=ow q (ak 1);obtain⟨A,c⟩:=Dj q 0 (ak (-1));obtain⟨a,b,h1⟩:=zI d;obtain⟨⟨a2,g,h2⟩,e⟩:=DY hq c
 have f:aY A:=((c.in8 hq).fin (by have:=fd;omega)).ok
 exact rr hq hT hT2 d c (by rw[AC GV];exact h1) (by rw[AC f];exact h2) e
