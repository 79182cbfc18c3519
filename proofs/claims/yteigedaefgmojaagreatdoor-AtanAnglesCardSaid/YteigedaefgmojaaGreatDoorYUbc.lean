/-
 Contracts that the proof rests on.
-/
import Derived.Test.YteigedaefgmojaaGreatDoorYUaz
import Derived.Test.YteigedaefgmojaaGreatDoorYUbb
namespace Go.Proofs.YteigedaefgmojaaGreatDoor
open Go.Proofs.Tryz
set_option maxHeartbeats 8000000
open Go.RowKit
set_option linter.unusedVariables false
set_option linter.unusedSimpArgs false
set_option maxRecDepth 100000
def Kn (fid:FuncId)(R:Int->Sp->Prop):Prop:=(∀(args:Array Value) (w:World),(callFunc fid args).run prog w= .ok (.enter fid args) w)/\∀(w:World) (D:Int) (s:Bool) (M E x:Int) (z:Sp),dL w->Tb w->0<=M->M < 18446744073709551616->rk D s M E=x->R x z->Calls prog fid #[.agg #[.int .i64 D,.bool s,.int .u64 M,.int .i64 E]] w (PV w z)
theorem vL{a b:Sp}(ha:aZ a):mA [a,b]=bK a b:=by
 show bK (bK none a) b=_
 rw[show bK none a=a by cases a <;> rfl]
theorem zM{w:World}{fid:FuncId}{R:Int->Sp->Prop}{A:Option Addr}{n c:Nat}{l:List Int}{zs:List Sp}{Z:Sp}(hT:dL w)(hT2:Tb w)(hq:Kn fid R)(h:Nq w A n c l)(hz:zs.length=n)(hS:∀k,k < n->R (l.getD k 0) (zs.getD k none))(hr:mA zs=Z):Calls prog 45 #[.func (.func fid) #[] #[],.slice A n c] w (PV w Z):=by
 have v:=ie hz;have gP:=h.2.1;have gO:=h.2.2.1;have HQ:=ie hq;have m:=ie hS;have V:=ie hr;clear hz hq hS hr
 go_enter func45,ntmps45
 go_upto_region 1 with fail
 generalize I:w.alloc _=w1 at *;obtain⟨o,e⟩:=Bo.en1 I;replace hT:=hT.below e.out;replace hT2:=hT2.below e.out;replace h:=h.below e.out;clear I;have r:=h;clear h;go_wp2
 go_loopw [5,10] (fun va i wr=>∃k A1 c1,k<=n/\va= .slice A1 k c1/\i= .int .i64 ((k:Nat):Int)/\Ia wr w1.heap.size A1 k c1 (zs.take k)/\Below w1.heap.size w1 wr) (fun _ i _=>n-(intOf i).toNat)
 case atStart=>exact ⟨0,_,_,Nat.zero_le _,rfl,rfl,Ia.nil _ _,Below.refl _ _⟩
 case round=>
  obtain⟨k,A3,c3,hk,rfl,rfl,N,hB⟩:=hrel;have a:=ie hB;clear hB
  by_cases hlt:k < n
  ·have bH:decide ((k:Int) < (n:Int))=true:=by simp;omega
   have h:=r.below a.out;obtain⟨b,bo,rfl,hcell⟩:=h.2.2.2 (by omega);obtain⟨D,s,M,E,x0,x1,x2,x3,q⟩:=hcell k hlt;have hv:=m.out k hlt;clear hcell h r
   have i1:(k:Int) < n:=by omega
   have i2:(0:Int)<=k:=by omega
   obtain⟨z,hz⟩:∃z,zs.getD k none=z:=⟨_,rfl⟩;have L:=J6 (by rw[v.out];exact hlt) hz;rw[hz]at hv;generalize l.getD k 0=x at *;generalize zs.take k=la at *;have W:=ie L;have HV:=ie hv;clear L hv hz m;have gS:=a.out.size
   go_upto_region 5 with fail
   clear x0 x1 x2 x3;generalize J:wr.alloc _=w3 at *;obtain⟨X5,T⟩:=Bo.nw J;clear J;replace N:=N.b T;replace a:=ie (bt a.out T);clear T;have qT:=hT.below a.out;have O:=hT2.below a.out;have bC:=HQ.out.1;have fP:=X5.cell
   go_wp2_with fail
   refine(HQ.out.2 _ _ _ _ _ _ _ qT O q.nn q.top q.rk HV.out).mono ?_;rintro ee w4 ⟨H,y,P,F,t,f,j,g,d,rfl,bN,B⟩;clear fP;replace N:=N.b B;replace a:=ie (bt a.out B);clear B;clear qT O bC
   go_wp2_with (at_builtin;refine zf rfl _ _ rfl rfl rfl (N.below (af _ _)) (Ia.lit (Bo.new _ _ _) bN) (by decide) (by omega) (Nat.le_trans a.out.size (af _ _).size) ?_)
   intro A5 d5 w9 N' G1 bA
   have p:=bt a.out (af _ (.cells #[.bool H,.int .i64 y,.bool P,.int .u64 F,.int .i64 t,.int .i64 f,.bool j,.int .u64 g,.int .i64 d] 26));have Nb:=N.below (af _ (.cells #[.bool H,.int .i64 y,.bool P,.int .u64 F,.int .i64 t,.int .i64 f,.bool j,.int .u64 g,.int .i64 d] 26))
   replace a:=ie (p.grown G1 p.size (fun k hk=>(Nb.own_lt k hk).1))
   clear N Nb G1 p bA X5;go_wp2
   go_roundw
   case rel=>exact ⟨k+1,_,_,by omega,rfl,by go_num,by rw[W.out];exact N',a.out⟩
   case measure=>simp [intOf];omega
  ·obtain rfl:k=n:=by omega
   have bH:decide ((k:Int) < (k:Int))=false:=by simp
   have e1:zs.take k=zs:=List.take_of_length_le (by rw[v.out];omega)
   rw[e1]at N;replace o:=o.below a.out;replace e:=ie (bt e.out a.out);clear a r m hT hT2
   go_wp2_with fail
   refine(Hw (N.il (by omega)) V.out).mono ?_;rintro ee w5 ⟨bB,X,bD,Y,U,C,Q,G,u,rfl,fH,B⟩;replace o:=o.b B;replace e:=ak e B;clear B;clear N;have gB:=o.cell;have S:=o.frozen;go_wp2;clear gB S;have SX:=ac.t9 o bB X bD Y U C Q G u
   exact bq (by simp[results,results45,go_sem,SX.box.cell]) rfl ⟨_,_,_,_,_,_,_,_,_,rfl,fH,(SX.below e.out (by omega))⟩
theorem qm{w:World}{fid:FuncId}{R:Int->Sp->Prop}{D D' M M' E E':Int}{s s':Bool}{x y ql qh:Int}{U V Z:Sp}(hT:dL w)(hT2:Tb w)(hq:Kn fid R)(hM:LQ M)(hM':LQ M')(hx:rk D s M E=x)(hy:rk D' s' M' E'=y)(hl:Qt false x y ql)(hh:Qt true x y qh)(hU:R ql U)(hV:R qh V)(oU:aZ U)(hz:bK U V=Z):Calls prog 91 #[.func (.func fid) #[] #[],VQ D s M E,VQ D' s' M' E'] w (PV w Z):=by
 delta VQ
 have t:Hid (∀k,k < 2->R ([ql,qh].getD k 0) ([U,V].getD k none)):=ie (fun k hk=>by
  rcases (by omega:k=0\/k=1)with rfl | rfl
  ·exact hU
  ·exact hV)
 have HZ:Hid (mA [U,V]=Z):=ie ((vL oU).trans hz)
 clear hU hV oU hz;have HQ:=ie hq;have S:=ie hx;have T:=ie hy;have r:=ie hl;have q:=ie hh;clear hq hx hy hl hh
 go_enter func91,ntmps91
 go_upto_region 1 with fail
 generalize i:((w.alloc _).alloc _).alloc _=w1 at *;obtain⟨X,Y,d,f⟩:=Bo.en3 i;replace hT:=hT.below f.out;replace hT2:=hT2.below f.out;clear i;have bA:=X.lt;have bB:=Y.lt;have bC:=d.lt;refine bF [0,1,2,3,4,5,6,7,8] [8,9,10,11,12,13,14,15,16,0] [[],[],[],[1,2],[],[],[4,5],[3,6],[0,7],[]] 10 1 [Jo.Fact.eq (.func (.func fid) #[] #[]),Jo.q4 D s M E,Jo.q4 D' s' M' E',Jo.Fact.num ql,Jo.q4 D s M E,Jo.q4 D' s' M' E',Jo.Fact.num qh,Jo.Fact.nq 2 [ql,qh],Jo.Fact.iv Z,Jo.Fact.any] ?_ ?_
 ·iterate 3 (refine jm ?_ ?_;rotate_left)
  refine jm ?_ ?_
  ·rintro m a _ rfl _ rfl K c;go_simp;exact Jo.n1 (JF (hT.b a) hM hM' S.out T.out r.out) c.out
  iterate 2 (refine jm ?_ ?_;rotate_left)
  refine jm ?_ ?_
  ·rintro m a _ rfl _ rfl K c;go_simp;exact Jo.n1 (JF (hT.b a) hM hM' S.out T.out q.out) c.out
  refine jm ?_ ?_
  ·rintro m a _ ⟨u,L,B,n,rfl,I⟩ _ ⟨v,N,C,o,rfl,J⟩ K c;go_simp;exact c.out _ _ ⟨_,2,rfl,Nq.of2 (Bo.new _ _ _) I J⟩ (af _ _)
  refine jm ?_ ?_
  ·rintro m a _ rfl _ ⟨bD,bH,rfl,H⟩ K c;go_simp;exact Jo.v1 (zM (hT.b a) (hT2.b a) HQ.out H rfl t.out HZ.out) c.out
  exact jo
  all_goals (rintro m a;(repeat rintro _ rfl);intro K c;have bN:=(X.b a).cell;have fH:=(Y.b a).cell;go_simp;exact c.out _ _ rfl (br _ _))
 rintro w2 a _ rfl _ rfl _ rfl _ ⟨u,L,B,n,rfl,_⟩ _ rfl _ rfl _ ⟨v,N,C,o,rfl,_⟩ _ ⟨_,_,rfl,_⟩ _ ⟨G,A,O,F,p,g,j,h,e,rfl,P⟩ -;simp only[Jo.z];replace d:=d.b a;replace f:=ak f a;clear hT hT2;have Q:=d.cell;have l:=d.frozen
 refine jn 9 fun K c=>?_
 go_simp;refine c.out _ _ ?_;clear c K Q l;have W:=ac.t9 d G A O F p g j h e;refine jd ?_;go_wp2;exact bq (by simp[results,results91,go_sem,W.box.cell]) rfl ⟨_,_,_,_,_,_,_,_,_,rfl,P,(W.below f.out (by omega))⟩
def mb (x:Int)(Z:Sp):Prop:=0<=x/\x<=al 1/\eO (dC x) Z
theorem AI:Kn 89 mb:=⟨fun _ _=>by first | rfl | kernel_rfl | simp[callFunc,go_sem],fun _ _ _ _ _ _ _ hT _ h0 hM hx hz=>zN hT h0 hM hx hz.1 hz.2.1 hz.2.2⟩
theorem oW{x c:Int}(h:ag x 19342822337206103650074625=c):(c==0)=decide (x=19342822337206103650074625):=by
 rw[<-h]
 unfold ag
 by_cases c1:x < 19342822337206103650074625
 ·rw[if_pos c1,df (by omega)]
  rfl
 ·rw[if_neg c1]
  by_cases c2:19342822337206103650074625 < x
  ·rw[if_pos c2,df (by omega)]
   rfl
  ·rw[if_neg c2,dt (by omega)]
   rfl
theorem jv{x y c:Int}(h:ag x y=c):decide (c < 0)=decide (x < y):=(az h).1
theorem zU{w:World}{D M E:Int}{s:Bool}{x:Int}{Z:Sp}(hT:dL w)(hT2:Tb w)(h0:0<=M)(hM:LQ M)(hx:rk D s M E=x)(hx1:x=19342822337206103650074625)(hZ:eB Z):Calls prog 28 #[VQ D s M E] w (PV w Z):=by
 delta VQ
 obtain⟨σ,J⟩:∃σ,ag x 0=σ:=⟨_,rfl⟩;have e0:=jv J;obtain⟨τ,L⟩:∃σ,ag x 19342822337206103650074625=σ:=⟨_,rfl⟩;have e1:=oW L
 rw[show decide (x < 0)=false from df (by omega)]at e0
 rw[dt hx1]at e1
 have Y:Hid (aj false TP=19342822337206103650074625):=ie rfl
 clear hx1;have V:=ie hx;have HS:=ie J;have HT:=ie L;have u:=ie e0;have v:=ie e1;have HZ:=ie hZ;clear hx J L e0 e1 hZ
 go_enter func28,ntmps28
 go_upto_region 1 with fail
 generalize j:(w.alloc _).alloc _=w1 at *;obtain⟨d,a,c⟩:=Bo.en2 j;replace hT:=hT.below c.out;clear j
 go_wp2_with fail
 refine(Cb (n:=1) (r:=al 1) _ (by decide) (by decide) rfl).mono ?_;rintro H w2 ⟨bA,bD,bB,X,rfl,bC,B⟩;refine aR ?_ d a hT c B;clear d a hT c B;intro d a hT c
 go_upto_region 2 with fail
 have N:=d.lt;have O:=a.lt;generalize k:w2.alloc _=w3 at *;obtain⟨X3,U⟩:=Bo.nw k;clear k;refine aR ?_ d a hT c U;clear d a hT c U;intro d a hT c;have e0:=u.out;have o:=d.cell
 go_wp2_with fail
 refine(dj (σ:=σ) hM (by rw[V.out];exact HS.out)).mono ?_;rintro H w4 ⟨rfl,B⟩;clear o;refine aR ?_ d a hT c B;clear d a hT c B;intro d a hT c
 go_upto_region 4 with fail
 clear e0;refine bF [0,1,2,3,4] [15,16,17,18,14] [[],[],[0,1],[2],[3]] 5 0 [Jo.q4 D s M E,Jo.Fact.num 19342822337206103650074625,Jo.qi τ,Jo.qb true,Jo.qb true] ?_ ?_
 ·refine jm ?_ ?_;rotate_left
  refine jm ?_ ?_
  ·rintro S e K f;go_simp;exact Jo.n1 (jb (s:=false) Y.out) f.out
  refine jm ?_ ?_
  ·rintro S e _ rfl _ ⟨y,P,C,q,rfl,l⟩ K f;go_simp;refine(kq (z:=τ) hM l.top (by rw[V.out,l.rk];exact HT.out)).mono ?_;rintro H wk ⟨rfl,B⟩;exact f.out _ _ rfl B
  refine jm ?_ ?_
  ·rintro S e _ rfl K f;have I:=v.out;go_simp
   exact f.out _ _ (by first | rfl | (show Value.bool _=Value.bool _;rw[I]) | simp_all) (br _ _)
  refine jm ?_ ?_;rotate_left
  exact jo
  all_goals (rintro S e;(repeat rintro _ rfl);intro K f;have o:=(d.b e).cell;go_simp;exact f.out _ _ rfl (br _ _))
 rintro w5 e _ rfl _ ⟨y,P,C,q,rfl,_⟩ _ rfl _ rfl _ rfl -;simp only[Jo.z];replace a:=a.b e;replace hT:=hT.b e;replace c:=ak c e;refine jd ?_
 go_wp2_with fail
 refine(zL hT HZ.out).mono ?_;rintro H w6 ⟨G,A,Q,F,t,h,m,i,g,rfl,R,B⟩;replace a:=a.b B;replace c:=ak c B;clear B;clear hT hT2;have T:=a.cell;have p:=a.frozen;go_wp2;clear T p;have W:=ac.t9 a G A Q F t h m i g
 exact bq (by simp[results,results28,go_sem,W.box.cell]) rfl ⟨_,_,_,_,_,_,_,_,_,rfl,R,(W.below c.out (by omega))⟩
theorem xg{w:World}{D M E:Int}{s:Bool}{x:Int}{Z:Sp}(hT:dL w)(hT2:Tb w)(h0:0<=M)(hM:LQ M)(hx:rk D s M E=x)(x0:0<=x)(x1:x<=al 1)(hx1:x≠19342822337206103650074625)(hZ:eO (dC x) Z):Calls prog 28 #[VQ D s M E] w (PV w Z):=by
 delta VQ
 obtain⟨σ,T⟩:∃σ,ag x 0=σ:=⟨_,rfl⟩;have e0:=jv T;obtain⟨τ,U⟩:∃σ,ag x 19342822337206103650074625=σ:=⟨_,rfl⟩;have e1:=oW U;obtain⟨ρ,S⟩:∃σ,ag x (al 1)=σ:=⟨_,rfl⟩;have e2:=ju S
 rw[show decide (x < 0)=false from df (by omega)]at e0
 rw[df hx1]at e1;rw[dt x1]at e2
 have HI:Hid (aj false TP=19342822337206103650074625):=ie rfl
 clear hx1;have u:=ie hx;have HS:=ie T;have HT:=ie U;have H:=ie S;have C:=ie e0;have F:=ie e1;have G:=ie e2;have HZ:=ie hZ;have I:=ie x0;have J:=ie x1;clear hx T U S e0 e1 e2 hZ x0 x1
 go_enter func28,ntmps28
 go_upto_region 1 with fail
 generalize l:(w.alloc _).alloc _=w1 at *;obtain⟨c,a,d⟩:=Bo.en2 l;replace hT:=hT.below d.out;clear l
 go_wp2_with fail
 refine(Cb (n:=1) (r:=al 1) _ (by decide) (by decide) rfl).mono ?_;rintro v w2 ⟨bH,fH,bN,bD,rfl,o,B⟩;refine aR ?_ c a hT d B;clear c a hT d B;intro c a hT d
 go_upto_region 2 with fail
 have V:=c.lt;have W:=a.lt;generalize m:w2.alloc _=w3 at *;obtain⟨h,BW⟩:=Bo.nw m;clear m;refine aR ?_ c a hT d BW;clear c a hT d BW;intro c a hT d;have e0:=C.out;have e:=c.cell
 go_wp2_with fail
 refine(dj (σ:=σ) hM (by rw[u.out];exact HS.out)).mono ?_;rintro v w4 ⟨rfl,B⟩;clear e;refine dW ?_ c a h hT d B;clear c a h hT d B;intro c a h hT d
 go_upto_region 4 with fail
 clear e0;refine bF [0,1,2,3,4] [15,16,17,18,14] [[],[],[0,1],[2],[3]] 5 0 [Jo.q4 D s M E,Jo.Fact.num 19342822337206103650074625,Jo.qi τ,Jo.qb false,Jo.qb false] ?_ ?_
 ·refine jm ?_ ?_;rotate_left
  refine jm ?_ ?_
  ·rintro wj f K g;go_simp;exact Jo.n1 (jb (s:=false) HI.out) g.out
  refine jm ?_ ?_
  ·rintro wj f _ rfl _ ⟨L,X,O,y,rfl,p⟩ K g;go_simp;refine(kq (z:=τ) hM p.top (by rw[u.out,p.rk];exact HT.out)).mono ?_;rintro v wk ⟨rfl,B⟩;exact g.out _ _ rfl B
  refine jm ?_ ?_
  ·rintro wj f _ rfl K g;have R:=F.out;go_simp
   exact g.out _ _ (by first | rfl | (show Value.bool _=Value.bool _;rw[R]) | simp_all) (br _ _)
  refine jm ?_ ?_;rotate_left
  exact jo
  all_goals (rintro wj f;(repeat rintro _ rfl);intro K g;have e:=(c.b f).cell;go_simp;exact g.out _ _ rfl (br _ _))
 rintro w5 f _ rfl _ ⟨L,X,O,y,rfl,_⟩ _ rfl _ rfl _ rfl -;simp only[Jo.z];replace c:=c.b f;replace a:=a.b f;replace h:=h.b f;replace hT:=hT.b f;replace d:=ak d f;refine jd ?_;have e2:=G.out;have e:=c.cell;have bB:=h.cell
 go_wp2_with fail
 refine(kq (z:=ρ) hM o.top (by rw[u.out,o.rk];exact H.out)).mono ?_;rintro v w6 ⟨rfl,B⟩;clear e bB;refine aR ?_ c a hT d B;clear c a hT d B;intro c a hT d;have e:=c.cell
 go_wp2_with fail
 refine(zN hT h0 hM u.out I.out J.out HZ.out).mono ?_;rintro v w7 ⟨Q,N,Y,P,A,j,q,k,i,rfl,bA,B⟩;clear e;replace a:=a.b B;replace d:=ak d B;clear B;clear hT hT2 e2;have bC:=a.cell;have t:=a.frozen;go_wp2;clear bC t
 have SX:=ac.t9 a Q N Y P A j q k i;exact bq (by simp[results,results28,go_sem,SX.box.cell]) rfl ⟨_,_,_,_,_,_,_,_,_,rfl,bA,(SX.below d.out (by omega))⟩
theorem zT{w:World}{D M E:Int}{s:Bool}{x:Int}{ql qh:Int}{H U V W Z:Sp}(hT:dL w)(hT2:Tb w)(h0:0<=M)(hM:LQ M)(hx:rk D s M E=x)(x1:¬x<=al 1)(hx1:x≠19342822337206103650074625)(hH:eB H)(hl:Qt false (al 1) x ql)(hh:Qt true (al 1) x qh)(hU:mb ql U)(hV:mb qh V)(oU:aZ U)(hW:bK U V=W)(hZ:kC H W=Z):Calls prog 28 #[VQ D s M E] w (PV w Z):=by
 delta VQ
 obtain⟨σ,hσ⟩:∃σ,ag x 0=σ:=⟨_,rfl⟩;have e0:=jv hσ;obtain⟨τ,hτ⟩:∃σ,ag x 19342822337206103650074625=σ:=⟨_,rfl⟩;have e1:=oW hτ;obtain⟨ρ,hρ⟩:∃σ,ag x (al 1)=σ:=⟨_,rfl⟩;have e2:=ju hρ
 have one:0 < al 1:=by decide
 rw[show decide (x < 0)=false from df (by omega)]at e0
 rw[df hx1]at e1;rw[df x1]at e2
 have HI:Hid (aj false TP=19342822337206103650074625):=ie rfl
 clear hx1 x1 one;have P:=ie hx;have HS:=ie hσ;have HT:=ie hτ;have bN:=ie hρ;have Y:=ie e0;have bA:=ie e1;have bB:=ie e2;have HH:=ie hH;have bD:=ie hl;have bC:=ie hh;have HU:=ie hU;have HV:=ie hV;have bH:=ie oU;have HW:=ie hW;have HZ:=ie hZ;clear hx hσ hτ hρ e0 e1 e2 hH hl hh hU hV oU hW hZ
 go_enter func28,ntmps28
 go_upto_region 1 with fail
 generalize C:(w.alloc _).alloc _=w1 at *;obtain⟨d,c,e⟩:=Bo.en2 C;replace hT:=hT.below e.out;replace hT2:=hT2.below e.out;clear C
 go_wp2_with fail
 refine(Cb (n:=1) (r:=al 1) _ (by decide) (by decide) rfl).mono ?_;rintro ee w2 ⟨fH,hP,gS,Q,rfl,i,B⟩;refine dW ?_ d c hT hT2 e B;clear d c hT hT2 e B;intro d c hT hT2 e
 go_upto_region 2 with fail
 have hL:=d.lt;have hN:=c.lt;generalize F:w2.alloc _=w3 at *;obtain⟨g,BW⟩:=Bo.nw F;clear F;refine dW ?_ d c hT hT2 e BW;clear d c hT hT2 e BW;intro d c hT hT2 e;have e0:=Y.out;have h:=d.cell
 go_wp2_with fail
 refine(dj (σ:=σ) hM (by rw[P.out];exact HS.out)).mono ?_;rintro ee w4 ⟨rfl,B⟩;clear h;refine gv ?_ d c g hT hT2 e B;clear d c g hT hT2 e B;intro d c g hT hT2 e
 go_upto_region 4 with fail
 clear e0;refine bF [0,1,2,3,4] [15,16,17,18,14] [[],[],[0,1],[2],[3]] 5 0 [Jo.q4 D s M E,Jo.Fact.num 19342822337206103650074625,Jo.qi τ,Jo.qb false,Jo.qb false] ?_ ?_
 ·refine jm ?_ ?_;rotate_left
  refine jm ?_ ?_
  ·rintro l a K f;go_simp;exact Jo.n1 (jb (s:=false) HI.out) f.out
  refine jm ?_ ?_
  ·rintro l a _ rfl _ ⟨fP,hQ,hA,R,rfl,G⟩ K f;go_simp;refine(kq (z:=τ) hM G.top (by rw[P.out,G.rk];exact HT.out)).mono ?_;rintro ee wk ⟨rfl,B⟩;exact f.out _ _ rfl B
  refine jm ?_ ?_
  ·rintro l a _ rfl K f;have hI:=bA.out;go_simp
   exact f.out _ _ (by first | rfl | (show Value.bool _=Value.bool _;rw[hI]) | simp_all) (br _ _)
  refine jm ?_ ?_;rotate_left
  exact jo
  all_goals (rintro l a;(repeat rintro _ rfl);intro K f;have h:=(d.b a).cell;go_simp;exact f.out _ _ rfl (br _ _))
 rintro w5 a _ rfl _ ⟨fP,hQ,hA,R,rfl,_⟩ _ rfl _ rfl _ rfl -;simp only[Jo.z];replace d:=d.b a;replace c:=c.b a;replace g:=g.b a;replace hT:=hT.b a;replace hT2:=hT2.b a;replace e:=ak e a;refine jd ?_;have e2:=bB.out;have h:=d.cell;have N:=g.cell
 go_wp2_with fail
 refine(kq (z:=ρ) hM i.top (by rw[P.out,i.rk];exact bN.out)).mono ?_;rintro ee w6 ⟨rfl,B⟩;clear h N;refine gv ?_ d c g hT hT2 e B;clear d c g hT hT2 e B;intro d c g hT hT2 e
 go_upto_region 8 with fail
 clear e2;have lA:=d.lt;have qT:=c.lt;have lB:=g.lt;refine bF [0,1,2,3,4] [27,28,29,30,31,0] [[],[],[],[1,2],[0,3],[]] 6 1 [Jo.Fact.iv H,Jo.q4 fH hP gS Q,Jo.q4 D s M E,Jo.Fact.iv W,Jo.Fact.iv Z,Jo.Fact.any] ?_ ?_
 ·refine jm ?_ ?_
  ·rintro l a K f;go_simp;exact Jo.v1 (zL (hT.b a) HH.out) f.out
  iterate 2 (refine jm ?_ ?_;rotate_left)
  refine jm ?_ ?_
  ·rintro l a _ rfl _ rfl K f;go_simp;exact Jo.v1 (qm (hT.b a) (hT2.b a) AI i.top hM i.rk P.out bD.out bC.out HU.out HV.out bH.out HW.out) f.out
  refine jm ?_ ?_
  ·rintro l a _ ⟨hE,gB,hR,hB,S,q,I,v,m,rfl,j⟩ _ ⟨hF,gO,hS,hC,T,t,J,y,o,rfl,k⟩ K f;go_simp;exact Jo.v1 (Gq (hT2.b a) j.top.1 j.top.2 k.top.1 k.top.2 j.rk k.rk HZ.out) f.out
  exact jo
  all_goals (rintro l a;(repeat rintro _ rfl);intro K f;have N:=(g.b a).cell;have h:=(d.b a).cell;go_simp;exact f.out _ _ rfl (br _ _))
 rintro w7 a _ ⟨hE,gB,hR,hB,S,q,I,v,m,rfl,j⟩ _ rfl _ rfl _ ⟨hF,gO,hS,hC,T,t,J,y,o,rfl,k⟩ _ ⟨hG,gP,hX,hD,X,u,L,A,p,rfl,iU⟩ -;simp only[Jo.z];replace c:=c.b a;replace e:=ak e a;clear hT hT2;have iV:=c.cell;have O:=c.frozen
 refine jn 5 fun K f=>?_
 go_simp;refine f.out _ _ ?_;clear f K iV O;have SX:=ac.t9 c hG gP hX hD X u L A p;refine jd ?_;go_wp2;exact bq (by simp[results,results28,go_sem,SX.box.cell]) rfl ⟨_,_,_,_,_,_,_,_,_,rfl,iU,(SX.below e.out (by omega))⟩
theorem CA{v:Int}{Z:Sp}(h:eO v Z)(h0:0<=v)(h1:v<=SC):aZ Z:=(h.is h0 h1).1.ok
theorem vc{w:World}{D M E:Int}{s:Bool}{x:Int}{q:Bool->Int->Int->Int}{Z:Sp}(hq:QF q)(hT:dL w)(hT2:Tb w)(h0:0<=M)(hM:LQ M)(hx:rk D s M E=x)(x0:0<=x)(hZ:nF q x Z):Calls prog 28 #[VQ D s M E] w (PV w Z):=by
 delta VQ
 have i:x<=19342822337206103650074625:=by rw[<-hx];exact(C6 hM).2
 rcases hZ with⟨e,b⟩ | ⟨e,a,g⟩ | ⟨e,a,H,l,h,b,hl,hh,rfl⟩
 ·exact zU hT hT2 h0 hM hx e b
 ·exact xg hT hT2 h0 hM hx x0 a e g
 ·obtain⟨c,j,f⟩:=jT hq a (by omega);have d:=bj c (by omega);exact zT hT hT2 h0 hM hx a e b (hq false _ _) (hq true _ _) ⟨c,by omega,hl⟩ ⟨by omega,f,hh⟩ (CA hl d.2.1 d.2.2) rfl rfl
theorem zV{w:World}{D M E:Int}{s:Bool}{x:Int}{q:Bool->Int->Int->Int}{Y Z:Sp}(hq:QF q)(hT:dL w)(hT2:Tb w)(h0:0<=M)(hM:LQ M)(hx:rk D s M E=x)(x0:x < 0)(hY:nF q (-x) Y)(hZ:ga Y=Z):Calls prog 28 #[VQ D s M E] w (PV w Z):=by
 delta VQ
 obtain⟨σ,A⟩:∃σ,ag x 0=σ:=⟨_,rfl⟩;have e0:=jv A;rw[dt x0]at e0
 have V:Hid (0<= -x):=ie (by omega)
 clear x0;have N:=ie hx;have X:=ie A;have u:=ie e0;have HY:=ie hY;have HZ:=ie hZ;have W:=ie hq;clear hx A e0 hY hZ hq
 go_enter func28,ntmps28
 go_upto_region 1 with fail
 generalize k:(w.alloc _).alloc _=w1 at *;obtain⟨d,a,c⟩:=Bo.en2 k;replace hT:=hT.below c.out;replace hT2:=hT2.below c.out;clear k
 go_wp2_with fail
 refine(Cb (n:=1) (r:=al 1) _ (by decide) (by decide) rfl).mono ?_;rintro p w2 ⟨bA,gB,bD,S,rfl,fP,B⟩;refine dW ?_ d a hT hT2 c B;clear d a hT hT2 c B;intro d a hT hT2 c
 go_upto_region 2 with fail
 have C:=d.lt;have F:=a.lt;generalize l:w2.alloc _=w3 at *;obtain⟨X3,J⟩:=Bo.nw l;clear l;refine dW ?_ d a hT hT2 c J;clear d a hT hT2 c J;intro d a hT hT2 c;have e0:=u.out;have g:=d.cell
 go_wp2_with fail
 refine(dj (σ:=σ) hM (by rw[N.out];exact X.out)).mono ?_;rintro p w4 ⟨rfl,B⟩;clear g;refine dW ?_ d a hT hT2 c B;clear d a hT hT2 c B;intro d a hT hT2 c;have g:=d.cell
 go_wp2_with fail
 refine(yA hM (by rw[N.out])).mono ?_;rintro p w5 ⟨bB,gO,bH,T,rfl,e,B⟩;clear g;refine aR ?_ a hT hT2 c B;clear a hT hT2 c B;intro a hT hT2 c
 go_wp2_with fail
 refine(vc W.out hT hT2 e.nn e.top e.rk V.out HY.out).mono ?_;rintro p w6 ⟨fH,bC,gP,bN,U,O,R,P,L,rfl,f,B⟩;replace a:=a.b B;replace c:=ak c B;clear B
 go_wp2_with fail
 refine(Gp f.top.1 f.top.2 f.rk HZ.out).mono ?_;rintro p w7 ⟨z,v,G,y,t,i,m,j,h,rfl,H,B⟩;replace a:=a.b B;replace c:=ak c B;clear B;clear hT hT2 e0;have I:=a.cell;have o:=a.frozen;go_wp2;clear I o;have Q:=ac.t9 a z v G y t i m j h
 exact bq (by simp[results,results28,go_sem,Q.box.cell]) rfl ⟨_,_,_,_,_,_,_,_,_,rfl,H,(Q.below c.out (by omega))⟩
theorem oS{w:World}{D M E:Int}{s:Bool}{x:Int}{q:Bool->Int->Int->Int}{Z:Sp}(hq:QF q)(hT:dL w)(hT2:Tb w)(h0:0<=M)(hM:LQ M)(hx:rk D s M E=x)(hZ:gM q x Z):Calls prog 28 #[VQ D s M E] w (PV w Z):=by
 delta VQ
 rcases hZ with⟨a,Y,hY,rfl⟩ | ⟨a,b⟩
 ·exact zV hq hT hT2 h0 hM hx a hY rfl
 ·exact vc hq hT hT2 h0 hM hx (by omega) b
theorem i7{q:Bool->Int->Int->Int}(hq:QF q):Kn 28 (gM q):=⟨fun _ _=>by first | rfl | kernel_rfl | simp[callFunc,go_sem],fun _ _ _ _ _ _ _ hT hT2 h0 hM hx hz=>oS hq hT hT2 h0 hM hx hz⟩
theorem xh{w:World}{e:Bool}{D M E D' M' E':Int}{s s':Bool}{q:Bool->Int->Int->Int}(hq:QF q)(hT:dL w)(hT2:Tb w)(hM:LQ M)(hM':LQ M')(hx:iJ e D s M E D' s' M' E'=none):Calls prog 13 #[VI e D s M E D' s' M' E'] w (PV w none):=by
 delta VI
 have k:jJ [none]=none:=vT (by rw[<-hx];exact pG hM hM')
 have C:=ie hx;have o:=ie k;clear hx k
 go_enter func13,ntmps13
 go_upto_region 1 with fail
 generalize j:(w.alloc _).alloc _=w1 at *;obtain⟨c,d,f⟩:=Bo.en2 j;clear j;have a:=c.cell
 go_wp2_with fail
 refine(pe (kJ.lit1 rfl ⟨hM,hM',C.out⟩) o.out).mono ?_;rintro I L ⟨H,F,J,G,A,t,x,u,r,rfl,l,B⟩;replace B:=bt (af _ (.cells #[.bool e,.int .i64 D,.bool s,.int .u64 M,.int .i64 E,.int .i64 D',.bool s',.int .u64 M',.int .i64 E'] 26)) B;clear a;refine aF ?_ c d f B;clear c d f B;intro c d f;have a:=c.cell;have m:=c.frozen
 go_upto_region 2 with fail
 clear a m;generalize v:((((((((L.setCell _ _).setCell _ _).setCell _ _).setCell _ _).setCell _ _).setCell _ _).setCell _ _).setCell _ _).setCell _ _=N at *;have g:=ac.of9 c v;replace d:=d.s g;replace f:=bi f g (by omega);replace c:=g.box;clear g v;obtain⟨rfl,rfl,rfl,rfl,rfl,rfl,rfl,rfl,rfl⟩:=l.uniq Ci.none
 clear l;refine bF [0,1,2] [7,8,9] [[],[],[0,1]] 3 0 [Jo.q9 true 0 false 0 0 0 false 0 0,Jo.q9 true 0 false 0 0 0 false 0 0,Jo.qb true] ?_ ?_
 ·refine jm ?_ ?_
  ·rintro y h K i;have a:=(c.b h).cell;go_simp;exact i.out _ _ rfl (br _ _)
  refine jm ?_ ?_
  ·rintro y h K i;go_simp;refine(dr).mono ?_;rintro I P ⟨rfl,B⟩;exact i.out _ _ rfl B
  refine jm ?_ ?_
  ·rintro y h _ rfl _ rfl K i;go_simp
   repeat' split
   all_goals exact i.out _ _ (congrArg Value.bool (by first | rfl | (exfalso;simp_all) | simp_all)) (br _ _)
  exact jo
 rintro O h _ rfl _ rfl _ rfl -;simp only[Jo.z];replace c:=c.b h;replace d:=d.b h;replace f:=ak f h;refine jd ?_;clear hT hT2;have p:=d.cell;have n:=d.frozen;have a:=c.cell;go_wp2;clear p n a
 have g:=ac.t9 d true 0 false 0 0 0 false 0 0;exact bq (by simp[results,results13,go_sem,g.box.cell]) rfl ⟨_,_,_,_,_,_,_,_,_,rfl,Ci.none,(g.below f.out (by omega))⟩
theorem xi{w:World}{e:Bool}{D M E D' M' E':Int}{s s':Bool}{q:Bool->Int->Int->Int}{a b:Int}{U V Z:Sp}(hq:QF q)(hT:dL w)(hT2:Tb w)(hM:LQ M)(hM':LQ M')(hx:iJ e D s M E D' s' M' E'=(some (a,b)))(hU:gM q a U)(hV:gM q b V)(oU:aZ U)(hZ:bK U V=Z):Calls prog 13 #[VI e D s M E D' s' M' E'] w (PV w Z):=by
 delta VI
 have A:jJ [some (a,b)]=some (a,b):=vT (by rw[<-hx];exact pG hM hM')
 have N:Hid (∀k,k < 2->gM q ([a,b].getD k 0) ([U,V].getD k none)):=ie (fun k hk=>by
  rcases (by omega:k=0\/k=1)with rfl | rfl
  ·exact hU
  ·exact hV)
 have HZ:Hid (mA [U,V]=Z):=ie ((vL oU).trans hZ)
 clear hU hV oU hZ;have HX:=ie hx;have L:=ie A;have HQ:=ie hq;clear hx A hq
 go_enter func13,ntmps13
 go_upto_region 1 with fail
 generalize y:(w.alloc _).alloc _=w1 at *;obtain⟨f,g,d⟩:=Bo.en2 y;replace hT:=hT.below d.out;replace hT2:=hT2.below d.out;clear y;have c:=f.cell
 go_wp2_with fail
 refine(pe (kJ.lit1 rfl ⟨hM,hM',HX.out⟩) L.out).mono ?_;rintro X w2 ⟨Q,r,C,u,o,l,n,m,j,rfl,G,B⟩;replace B:=bt (af _ (.cells #[.bool e,.int .i64 D,.bool s,.int .u64 M,.int .i64 E,.int .i64 D',.bool s',.int .u64 M',.int .i64 E'] 26)) B;clear c;refine dW ?_ f g hT hT2 d B;clear f g hT hT2 d B;intro f g hT hT2 d;have c:=f.cell;have H:=f.frozen
 go_upto_region 2 with fail
 clear c H;generalize Y:((((((((w2.setCell _ _).setCell _ _).setCell _ _).setCell _ _).setCell _ _).setCell _ _).setCell _ _).setCell _ _).setCell _ _=w3 at *;have h:=ac.of9 f Y;replace g:=g.s h;replace hT:=hT.s h;replace hT2:=hT2.s h;replace d:=bi d h (by omega)
 replace f:=h.box;clear h Y
 obtain rfl:Q=false:=G.1
 refine bF [0,1,2] [7,8,9] [[],[],[0,1]] 3 0 [Jo.q9 false r C u o l n m j,Jo.q9 true 0 false 0 0 0 false 0 0,Jo.qb false] ?_ ?_
 ·refine jm ?_ ?_
  ·rintro wj i K x;have c:=(f.b i).cell;go_simp;exact x.out _ _ rfl (br _ _)
  refine jm ?_ ?_
  ·rintro wj i K x;go_simp;refine(dr).mono ?_;rintro X wk ⟨rfl,B⟩;exact x.out _ _ rfl B
  refine jm ?_ ?_
  ·rintro wj i _ rfl _ rfl K x;go_simp
   repeat' split
   all_goals exact x.out _ _ (congrArg Value.bool (by first | rfl | (exfalso;simp_all))) (br _ _)
  exact jo
 rintro w4 i _ rfl _ rfl _ rfl -;simp only[Jo.z];replace f:=f.b i;replace g:=g.b i;replace hT:=hT.b i;replace hT2:=hT2.b i;replace d:=ak d i;refine jd ?_;obtain⟨_,qa,qb,bA,oa,ob⟩:=G;have c:=f.cell
 go_wp2_with fail
 refine(zM (hT.below (af _ _)) (hT2.below (af _ _)) (i7 HQ.out) (Nq.of2 (Bo.new _ _ _) qa qb) rfl N.out HZ.out).mono ?_;rintro X w5 ⟨R,O,S,P,J,t,F,v,p,rfl,T,B⟩;replace B:=bt (af _ (.cells #[.int .i64 r,.bool C,.int .u64 u,.int .i64 o,.int .i64 l,.bool n,.int .u64 m,.int .i64 j] 24)) B;clear c
 replace g:=g.b B;replace d:=ak d B;clear B;clear hT hT2;have W:=g.cell;have I:=g.frozen;go_wp2;clear W I;have h:=ac.t9 g R O S P J t F v p
 exact bq (by simp[results,results13,go_sem,h.box.cell]) rfl ⟨_,_,_,_,_,_,_,_,_,rfl,T,(h.below d.out (by omega))⟩
theorem KB{w:World}{e:Bool}{D M E D' M' E':Int}{s s':Bool}{q:Bool->Int->Int->Int}{X Z:Sp}(hq:QF q)(hT:dL w)(hT2:Tb w)(hM:LQ M)(hM':LQ M')(hx:iJ e D s M E D' s' M' E'=X)(hZ:tO q X Z):Calls prog 13 #[VI e D s M E D' s' M' E'] w (PV w Z):=by
 delta VI
 rcases X with _ | ⟨a,b⟩
 ·obtain rfl:Z=none:=hZ
  exact xh hq hT hT2 hM hM' hx
 ·obtain⟨U,V,c,d,rfl⟩:=hZ;have ok:=pG (e:=e) (K:=D) (s:=s) (E:=E) (K':=D') (s':=s') (E':=E') hM hM';rw[hx]at ok;obtain⟨o1,o2,f⟩:=ok;exact xi hq hT hT2 hM hM' hx c d (gM.grow hq c d o1 o2 f.1).1 rfl
def dc (D:Int)(s:Bool)(M E:Int):Bool:=decide (au D s M E) && !(D==2)
theorem vB{D:Int}{s:Bool}{M E:Int}(h:decide (au D s M E)=false):dc D s M E=false:=by unfold dc;rw[h];rfl
theorem qF{D:Int}{s:Bool}{M E:Int}(h:(D==2)=true):dc D s M E=false:=by unfold dc;rw[h];simp
theorem i6{D:Int}{s:Bool}{M E:Int}(h:decide (au D s M E)=true)(k:(D==2)=false):dc D s M E=true:=by unfold dc;rw[h,k];rfl
theorem ve{w:World}{g:Nat}{D D' M M' E E':Int}{s s':Bool}{r:Bool}(X:Bo w g #[.int .i64 D,.bool s,.int .u64 M,.int .i64 E,.int .i64 D',.bool s',.int .u64 M',.int .i64 E'] 24)(hr:(dc D s M E && dc D' s' M' E')=r):Calls prog 30 #[.slice (some ⟨g,0,none⟩) 2 2] w (PB w r):=by
 have f:=ie hr;clear hr
 go_enter func30,ntmps30
 go_wp2
 go_loopw [7] (fun i wr=>∃k:Nat,k<=2/\i= .int .i64 (k:Int)/\(1<=k->dc D s M E=true)/\(2<=k->dc D' s' M' E'=true)/\Below w.heap.size w wr) (fun i _=>3-(intOf i).toNat)
 case atStart=>exact ⟨0,by decide,rfl,fun h=>absurd h (by decide),fun h=>absurd h (by decide),Below.refl _ _⟩
 case round=>
  obtain⟨k,J,rfl,z,A,C⟩:=hrel;have d:=ie C;have m:=ie z;have q:=ie A;clear C z A
  rcases (by omega:k=0\/k=1\/k=2)with rfl | rfl | rfl
  ·have Y:=X.below d.out;have F:=Y.lt;have u:=Y.a 0 (.int .i64 D) rfl;have v:=Y.a 1 (.bool s) rfl;have x:=Y.a 2 (.int .u64 M) rfl;have y:=Y.a 3 (.int .i64 E) rfl;obtain⟨b,hb⟩:∃b,decide (au D s M E)=b:=⟨_,rfl⟩;have e:=ie hb;clear hb
   go_upto_region 4 with fail
   clear u v x y Y;generalize j:wr.alloc _=H at *;obtain⟨n,o⟩:=Bo.nw j;clear j;replace d:=ak d o;clear o;have l:=n.cell
   go_wp2_with fail
   refine(kY e.out).mono ?_;rintro G I ⟨rfl,B⟩;clear l;replace n:=n.b B;replace d:=ak d B;clear B
   cases b
   ·go_wp2
    go_ret
    exact⟨by rw[<-f.out,vB e.out];simp,d.out⟩
   ·obtain⟨c,t⟩:∃c,(D==2)=c:=⟨_,rfl⟩;have p:=ie t;have l:=n.cell
    cases c
    ·go_wp2
     go_roundw
     case rel=>exact ⟨1,by decide,by go_num,fun _=>i6 e.out p.out,fun h=>absurd h (by decide),d.out⟩
     case measure=>simp [intOf]
    ·go_wp2
     go_ret
     exact⟨by rw[<-f.out,qF p.out];simp,d.out⟩
  ·have Y:=X.below d.out;have F:=Y.lt;have u:=Y.a 4 (.int .i64 D') rfl;have v:=Y.a 5 (.bool s') rfl;have x:=Y.a 6 (.int .u64 M') rfl;have y:=Y.a 7 (.int .i64 E') rfl;obtain⟨b,hb⟩:∃b,decide (au D' s' M' E')=b:=⟨_,rfl⟩;have e:=ie hb;clear hb
   go_upto_region 4 with fail
   clear u v x y Y;generalize j:wr.alloc _=H at *;obtain⟨n,o⟩:=Bo.nw j;clear j;replace d:=ak d o;clear o;have l:=n.cell
   go_wp2_with fail
   refine(kY e.out).mono ?_;rintro G I ⟨rfl,B⟩;clear l;replace n:=n.b B;replace d:=ak d B;clear B
   cases b
   ·go_wp2
    go_ret
    exact⟨by rw[<-f.out,m.out (by decide),vB e.out];rfl,d.out⟩
   ·obtain⟨c,t⟩:∃c,(D'==2)=c:=⟨_,rfl⟩;have p:=ie t;have l:=n.cell
    cases c
    ·go_wp2
     go_roundw
     case rel=>exact ⟨2,by decide,by go_num,fun _=>m.out (by decide),fun _=>i6 e.out p.out,d.out⟩
     case measure=>simp [intOf]
    ·go_wp2
     go_ret
     exact⟨by rw[<-f.out,m.out (by decide),qF p.out];rfl,d.out⟩
  ·go_wp2
   go_ret
   exact⟨by rw[<-f.out,m.out (by decide),q.out (by decide)];rfl,d.out⟩
theorem zR{q:Bool->Int->Int->Int}{H:Sp}(hH:eB H)(b:Bool):gM q (aj b TP) (if b then ga H else H):=by
 cases b
 ·exact .inr ⟨by decide,.inl ⟨rfl,hH⟩⟩
 ·exact .inl ⟨by decide,H,.inl ⟨rfl,hH⟩,rfl⟩
theorem ec{x c:Int}(h:ag x 0=c):(c==0)=decide (x=0):=by
 rw[<-h]
 unfold ag
 by_cases c1:x < 0
 ·rw[if_pos c1,df (by omega)]
  rfl
 ·rw[if_neg c1]
  by_cases c2:0 < x
  ·rw[if_pos c2,df (by omega)]
   rfl
  ·rw[if_neg c2,dt (by omega)]
   rfl
theorem mf{w:World}{q:Bool->Int->Int->Int}{D D' M M' E E':Int}{s s':Bool}{x y:Int}{Z:Sp}(hq:QF q)(hT:dL w)(hT2:Tb w)(hM:LQ M)(hM':LQ M')(hy:rk D s M E=y)(hx:rk D' s' M' E'=x)(x0:x=0)(y0:y < 0)(hZ:gM q (aj true TP) Z):Calls prog 33 #[VQ D s M E,VQ D' s' M' E'] w (PV w Z):=by
 delta VQ
 obtain⟨σ,v⟩:∃σ,ag y 0=σ:=⟨_,rfl⟩;obtain⟨τ,l⟩:∃σ,ag x 0=σ:=⟨_,rfl⟩;have e0:=(az v).1;have e1:=ec l;have e2:=(az l).2;rw[dt y0]at e0;rw[dt x0]at e1;clear x0 y0;have L:=ie hq;have P:=ie hx;have Q:=ie hy;have N:=ie v;have O:=ie l;have n:=ie e0;have o:=ie e1
 have J:=ie e2;have R:=ie hZ;clear hq hx hy v l e0 e1 e2 hZ
 go_enter func33,ntmps33
 go_upto_region 1 with fail
 generalize h:((w.alloc _).alloc _).alloc _=w1 at *;obtain⟨U,k,c,a⟩:=Bo.en3 h;replace hT:=hT.below a.out;replace hT2:=hT2.below a.out;clear h;have e0:=n.out;have C:=U.cell
 go_wp2_with fail
 refine(dj (σ:=σ) hM (by rw[Q.out];exact N.out)).mono ?_;rintro u W ⟨rfl,B⟩;clear C;refine dW ?_ k c hT hT2 a B;clear k c hT hT2 a B;intro k c hT hT2 a;have e1:=o.out;have F:=k.cell
 go_wp2_with fail
 refine(dj (σ:=τ) hM' (by rw[P.out];exact O.out)).mono ?_;rintro u X ⟨rfl,B⟩;clear F;refine aR ?_ c hT hT2 a B;clear c hT hT2 a B;intro c hT hT2 a
 go_wp2_with fail
 refine(jb (s:=true) rfl).mono ?_;rintro u Y ⟨S,V,T,I,rfl,d,B⟩;refine aR ?_ c hT hT2 a B;clear c hT hT2 a B;intro c hT hT2 a
 go_wp2_with fail
 refine(oS L.out hT hT2 d.nn d.top d.rk R.out).mono ?_;rintro u w5 ⟨t,p,z,r,m,f,i,g,e,rfl,A,B⟩;replace c:=c.b B;replace a:=ak a B;clear B;clear hT hT2 e0 e1;have G:=c.cell;have j:=c.frozen;go_wp2;clear G j;have H:=ac.t9 c t p z r m f i g e
 exact bq (by simp[results,results33,go_sem,H.box.cell]) rfl ⟨_,_,_,_,_,_,_,_,_,rfl,A,(H.below a.out (by omega))⟩
theorem lC{w:World}{q:Bool->Int->Int->Int}{D D' M M' E E':Int}{s s':Bool}{x y:Int}{Z:Sp}(hq:QF q)(hT:dL w)(hT2:Tb w)(hM:LQ M)(hM':LQ M')(hy:rk D s M E=y)(hx:rk D' s' M' E'=x)(x0:x=0)(y0:¬y < 0)(hZ:gM q (aj false TP) Z):Calls prog 33 #[VQ D s M E,VQ D' s' M' E'] w (PV w Z):=by
 delta VQ
 obtain⟨σ,v⟩:∃σ,ag y 0=σ:=⟨_,rfl⟩;obtain⟨τ,l⟩:∃σ,ag x 0=σ:=⟨_,rfl⟩;have e0:=(az v).1;have e1:=ec l;have e2:=(az l).2;rw[df y0]at e0;rw[dt x0]at e1;clear x0 y0;have L:=ie hq;have P:=ie hx;have Q:=ie hy;have N:=ie v;have O:=ie l;have n:=ie e0;have o:=ie e1
 have J:=ie e2;have R:=ie hZ;clear hq hx hy v l e0 e1 e2 hZ
 go_enter func33,ntmps33
 go_upto_region 1 with fail
 generalize h:((w.alloc _).alloc _).alloc _=w1 at *;obtain⟨U,k,c,a⟩:=Bo.en3 h;replace hT:=hT.below a.out;replace hT2:=hT2.below a.out;clear h;have e0:=n.out;have C:=U.cell
 go_wp2_with fail
 refine(dj (σ:=σ) hM (by rw[Q.out];exact N.out)).mono ?_;rintro u W ⟨rfl,B⟩;clear C;refine dW ?_ k c hT hT2 a B;clear k c hT hT2 a B;intro k c hT hT2 a;have e1:=o.out;have F:=k.cell
 go_wp2_with fail
 refine(dj (σ:=τ) hM' (by rw[P.out];exact O.out)).mono ?_;rintro u X ⟨rfl,B⟩;clear F;refine aR ?_ c hT hT2 a B;clear c hT hT2 a B;intro c hT hT2 a
 go_wp2_with fail
 refine(jb (s:=false) rfl).mono ?_;rintro u Y ⟨S,V,T,I,rfl,d,B⟩;refine aR ?_ c hT hT2 a B;clear c hT hT2 a B;intro c hT hT2 a
 go_wp2_with fail
 refine(oS L.out hT hT2 d.nn d.top d.rk R.out).mono ?_;rintro u w5 ⟨t,p,z,r,m,f,i,g,e,rfl,A,B⟩;replace c:=c.b B;replace a:=ak a B;clear B;clear hT hT2 e0 e1;have G:=c.cell;have j:=c.frozen;go_wp2;clear G j;have H:=ac.t9 c t p z r m f i g e
 exact bq (by simp[results,results33,go_sem,H.box.cell]) rfl ⟨_,_,_,_,_,_,_,_,_,rfl,A,(H.below a.out (by omega))⟩
theorem zH{w:World}{q:Bool->Int->Int->Int}{D D' M M' E E':Int}{s s':Bool}{x y:Int}{U V W:Sp}(hq:QF q)(hT:dL w)(hT2:Tb w)(hM:LQ M)(hM':LQ M')(hy:rk D s M E=y)(hx:rk D' s' M' E'=x)(x0:x≠0)(hU:gM q (q false y x) U)(hV:gM q (q true y x) V)(oU:aZ U)(hW:bK U V=W)(cx:0 < x):Calls prog 33 #[VQ D s M E,VQ D' s' M' E'] w (PV w W):=by
 delta VQ
 obtain⟨σ,Y⟩:∃σ,ag y 0=σ:=⟨_,rfl⟩;obtain⟨τ,X⟩:∃σ,ag x 0=σ:=⟨_,rfl⟩;have e0:=(az Y).1;have e1:=ec X;have e2:=(az X).2;rw[df x0]at e1;rw[dt cx]at e2;clear x0 cx;have J:=ie hq;have L:=ie hx;have T:=ie hy;have HS:=ie Y;have S:=ie X;have f:=ie e0;have O:=ie e1
 have P:=ie e2;have HU:=ie hU;have HV:=ie hV;have Q:=ie oU;have HW:=ie hW;clear hq hx hy Y X e0 e1 e2 hU hV oU hW
 by_cases cy:decide (y < 0)=true
 ·have i:Hid (decide (σ < 0)=true):=ie (by rw[f.out];exact cy)
  clear f cy;have f:=i;clear i
  go_enter func33,ntmps33
  go_upto_region 1 with fail
  generalize l:((w.alloc _).alloc _).alloc _=w1 at *;obtain⟨d,c,a,b⟩:=Bo.en3 l;replace hT:=hT.below b.out;replace hT2:=hT2.below b.out;clear l;have e0:=f.out;have g:=d.cell
  go_wp2_with fail
  refine(dj (σ:=σ) hM (by rw[T.out];exact HS.out)).mono ?_;rintro z w2 ⟨rfl,B⟩;clear g;refine gv ?_ d c a hT hT2 b B;clear d c a hT hT2 b B;intro d c a hT hT2 b;have e1:=O.out;have e:=c.cell
  go_wp2_with fail
  refine(dj (σ:=τ) hM' (by rw[L.out];exact S.out)).mono ?_;rintro z w3 ⟨rfl,B⟩;clear e;refine gv ?_ d c a hT hT2 b B;clear d c a hT hT2 b B;intro d c a hT hT2 b;have g:=d.cell;have e:=c.cell
  go_wp2_with fail
  refine(qm hT hT2 (i7 J.out) hM hM' T.out L.out (J.out false _ _) (J.out true _ _) HU.out HV.out Q.out HW.out).mono ?_;rintro z w4 ⟨v,t,F,u,r,j,n,k,h,rfl,G,B⟩;clear g e;refine gv ?_ d c a hT hT2 b B;clear d c a hT hT2 b B;intro d c a hT hT2 b
  go_upto_region 5 with fail
  have Z:=d.lt;have A:=c.lt;have C:=a.lt;generalize m:w4.alloc _=w5 at *;obtain⟨p,N⟩:=Bo.nw m;clear m;refine gv ?_ d c a hT hT2 b N;clear d c a hT hT2 b N;intro d c a hT hT2 b;have e2:=P.out;have e:=c.cell
  go_wp2_with fail
  refine(dj (σ:=τ) hM' (by rw[L.out];exact S.out)).mono ?_;rintro z w6 ⟨rfl,B⟩;clear e;refine oG ?_ d c a p hT hT2 b B;clear d c a p hT hT2 b B;intro d c a p hT hT2 b;clear hT hT2;have I:=a.cell
  have o:=a.frozen;have H:=p.cell;go_wp2;clear I o H;have R:=ac.t9 a v t F u r j n k h;exact bq (by simp[results,results33,go_sem,R.box.cell]) rfl ⟨_,_,_,_,_,_,_,_,_,rfl,G,(R.below b.out (by omega))⟩
 ·have i:Hid (decide (σ < 0)=false):=ie (by rw[f.out];simpa using cy)
  clear f cy;have f:=i;clear i
  go_enter func33,ntmps33
  go_upto_region 1 with fail
  generalize l:((w.alloc _).alloc _).alloc _=w1 at *;obtain⟨d,c,a,b⟩:=Bo.en3 l;replace hT:=hT.below b.out;replace hT2:=hT2.below b.out;clear l;have e0:=f.out;have g:=d.cell
  go_wp2_with fail
  refine(dj (σ:=σ) hM (by rw[T.out];exact HS.out)).mono ?_;rintro z w2 ⟨rfl,B⟩;clear g;refine gv ?_ d c a hT hT2 b B;clear d c a hT hT2 b B;intro d c a hT hT2 b;have e1:=O.out;have e:=c.cell
  go_wp2_with fail
  refine(dj (σ:=τ) hM' (by rw[L.out];exact S.out)).mono ?_;rintro z w3 ⟨rfl,B⟩;clear e;refine gv ?_ d c a hT hT2 b B;clear d c a hT hT2 b B;intro d c a hT hT2 b;have g:=d.cell;have e:=c.cell
  go_wp2_with fail
  refine(qm hT hT2 (i7 J.out) hM hM' T.out L.out (J.out false _ _) (J.out true _ _) HU.out HV.out Q.out HW.out).mono ?_;rintro z w4 ⟨v,t,F,u,r,j,n,k,h,rfl,G,B⟩;clear g e;refine aF ?_ c a b B;clear c a b B;intro c a b
  go_upto_region 5 with fail
  have A:=c.lt;have C:=a.lt;generalize m:w4.alloc _=w5 at *;obtain⟨p,N⟩:=Bo.nw m;clear m;refine aF ?_ c a b N;clear c a b N;intro c a b;have e2:=P.out;have e:=c.cell
  go_wp2_with fail
  refine(dj (σ:=τ) hM' (by rw[L.out];exact S.out)).mono ?_;rintro z w6 ⟨rfl,B⟩;clear e;refine aF ?_ a p b B;clear a p b B;intro a p b;clear hT hT2;have I:=a.cell;have o:=a.frozen;have H:=p.cell
  go_wp2;clear I o H;have R:=ac.t9 a v t F u r j n k h;exact bq (by simp[results,results33,go_sem,R.box.cell]) rfl ⟨_,_,_,_,_,_,_,_,_,rfl,G,(R.below b.out (by omega))⟩
theorem qj{w:World}{q:Bool->Int->Int->Int}{D D' M M' E E':Int}{s s':Bool}{x y:Int}{U V W Z:Sp}(hq:QF q)(hT:dL w)(hT2:Tb w)(hM:LQ M)(hM':LQ M')(hy:rk D s M E=y)(hx:rk D' s' M' E'=x)(x0:x≠0)(hU:gM q (q false y x) U)(hV:gM q (q true y x) V)(oU:aZ U)(hW:bK U V=W)(cx:¬0 < x)(cy:y < 0)(hZ:kC W nI=Z):Calls prog 33 #[VQ D s M E,VQ D' s' M' E'] w (PV w Z):=by
 delta VQ
 obtain⟨σ,hσ⟩:∃σ,ag y 0=σ:=⟨_,rfl⟩;obtain⟨τ,L⟩:∃σ,ag x 0=σ:=⟨_,rfl⟩;have e0:=(az hσ).1;have e1:=ec L;have e2:=(az L).2;rw[df x0]at e1;rw[df cx]at e2;rw[dt cy]at e0;clear x0 cx cy;have X:=ie hq;have Y:=ie hx;have HY:=ie hy;have HS:=ie hσ;have HT:=ie L;have Q:=ie e0
 have R:=ie e1;have S:=ie e2;have HU:=ie hU;have HV:=ie hV;have T:=ie oU;have HW:=ie hW;have HZ:=ie hZ;clear hq hx hy hσ L e0 e1 e2 hU hV oU hW hZ
 go_enter func33,ntmps33
 go_upto_region 1 with fail
 generalize C:((w.alloc _).alloc _).alloc _=w1 at *;obtain⟨g,d,a,c⟩:=Bo.en3 C;replace hT:=hT.below c.out;replace hT2:=hT2.below c.out;clear C;have e0:=Q.out;have k:=g.cell
 go_wp2_with fail
 refine(dj (σ:=σ) hM (by rw[HY.out];exact HS.out)).mono ?_;rintro ee w2 ⟨rfl,B⟩;clear k;refine gv ?_ g d a hT hT2 c B;clear g d a hT hT2 c B;intro g d a hT hT2 c;have e1:=R.out;have e:=d.cell
 go_wp2_with fail
 refine(dj (σ:=τ) hM' (by rw[Y.out];exact HT.out)).mono ?_;rintro ee w3 ⟨rfl,B⟩;clear e;refine gv ?_ g d a hT hT2 c B;clear g d a hT hT2 c B;intro g d a hT hT2 c;have k:=g.cell;have e:=d.cell
 go_wp2_with fail
 refine(qm hT hT2 (i7 X.out) hM hM' HY.out Y.out (X.out false _ _) (X.out true _ _) HU.out HV.out T.out HW.out).mono ?_;rintro ee w4 ⟨fH,bA,gS,bD,N,o,G,t,l,rfl,j,B⟩;clear k e;refine dW ?_ d a hT hT2 c B;clear d a hT hT2 c B;intro d a hT hT2 c
 go_upto_region 5 with fail
 have gO:=d.lt;have gP:=a.lt;generalize F:w4.alloc _=w5 at *;obtain⟨A,BW⟩:=Bo.nw F;clear F;refine dW ?_ d a hT hT2 c BW;clear d a hT hT2 c BW;intro d a hT hT2 c;have e2:=S.out;have e:=d.cell
 go_wp2_with fail
 refine(dj (σ:=τ) hM' (by rw[Y.out];exact HT.out)).mono ?_;rintro ee w6 ⟨rfl,B⟩;clear e;refine dW ?_ a A hT hT2 c B;clear a A hT hT2 c B;intro a A hT hT2 c
 go_upto_region 8 with fail
 clear e0 e1 e2;have hF:=a.lt;have hE:=A.lt;refine bF [0,1,2] [27,28,29,0] [[],[],[0,1],[]] 4 1 [Jo.q9 fH bA gS bD N o G t l,Jo.Fact.iv (some (eM,eM+1)),Jo.Fact.iv Z,Jo.Fact.any] ?_ ?_
 ·refine jm ?_ ?_
  ·rintro wj h K i;have hG:=(A.b h).cell;go_simp;exact i.out _ _ rfl (br _ _)
  refine jm ?_ ?_
  ·rintro wj h K i;go_simp;exact Jo.v1 (Kr (hT.b h)) i.out
  refine jm ?_ ?_
  ·rintro wj h _ rfl _ ⟨fP,bB,hA,bH,O,p,H,u,m,rfl,f⟩ K i;go_simp;exact Jo.v1 (Gq (hT2.b h) j.top.1 j.top.2 f.top.1 f.top.2 j.rk f.rk HZ.out) i.out
  exact jo
 rintro w7 h _ rfl _ ⟨fP,bB,hA,bH,O,p,H,u,m,rfl,f⟩ _ ⟨gB,bC,hB,bN,P,r,I,v,n,rfl,hC⟩ -;simp only[Jo.z];replace a:=a.b h;replace c:=ak c h;clear hT hT2;have hD:=a.cell;have J:=a.frozen
 refine jn 3 fun K i=>?_
 go_simp;refine i.out _ _ ?_;clear i K hD J;have SX:=ac.t9 a gB bC hB bN P r I v n;refine jd ?_;go_wp2;exact bq (by simp[results,results33,go_sem,SX.box.cell]) rfl ⟨_,_,_,_,_,_,_,_,_,rfl,hC,(SX.below c.out (by omega))⟩
theorem qk{w:World}{q:Bool->Int->Int->Int}{D D' M M' E E':Int}{s s':Bool}{x y:Int}{U V W Z:Sp}(hq:QF q)(hT:dL w)(hT2:Tb w)(hM:LQ M)(hM':LQ M')(hy:rk D s M E=y)(hx:rk D' s' M' E'=x)(x0:x≠0)(hU:gM q (q false y x) U)(hV:gM q (q true y x) V)(oU:aZ U)(hW:bK U V=W)(cx:¬0 < x)(cy:¬y < 0)(hZ:fL nI W=Z):Calls prog 33 #[VQ D s M E,VQ D' s' M' E'] w (PV w Z):=by
 delta VQ
 obtain⟨σ,hσ⟩:∃σ,ag y 0=σ:=⟨_,rfl⟩;obtain⟨τ,L⟩:∃σ,ag x 0=σ:=⟨_,rfl⟩;have e0:=(az hσ).1;have e1:=ec L;have e2:=(az L).2;rw[df x0]at e1;rw[df cx]at e2;rw[df cy]at e0;clear x0 cx cy;have X:=ie hq;have Y:=ie hx;have HY:=ie hy;have HS:=ie hσ;have HT:=ie L;have Q:=ie e0
 have R:=ie e1;have S:=ie e2;have HU:=ie hU;have HV:=ie hV;have T:=ie oU;have HW:=ie hW;have HZ:=ie hZ;clear hq hx hy hσ L e0 e1 e2 hU hV oU hW hZ
 go_enter func33,ntmps33
 go_upto_region 1 with fail
 generalize C:((w.alloc _).alloc _).alloc _=w1 at *;obtain⟨i,d,a,c⟩:=Bo.en3 C;replace hT:=hT.below c.out;replace hT2:=hT2.below c.out;clear C;have e0:=Q.out;have k:=i.cell
 go_wp2_with fail
 refine(dj (σ:=σ) hM (by rw[HY.out];exact HS.out)).mono ?_;rintro ee w2 ⟨rfl,B⟩;clear k;refine gv ?_ i d a hT hT2 c B;clear i d a hT hT2 c B;intro i d a hT hT2 c;have e1:=R.out;have e:=d.cell
 go_wp2_with fail
 refine(dj (σ:=τ) hM' (by rw[Y.out];exact HT.out)).mono ?_;rintro ee w3 ⟨rfl,B⟩;clear e;refine gv ?_ i d a hT hT2 c B;clear i d a hT hT2 c B;intro i d a hT hT2 c;have k:=i.cell;have e:=d.cell
 go_wp2_with fail
 refine(qm hT hT2 (i7 X.out) hM hM' HY.out Y.out (X.out false _ _) (X.out true _ _) HU.out HV.out T.out HW.out).mono ?_;rintro ee w4 ⟨fH,bA,hA,bD,N,o,G,t,l,rfl,j,B⟩;clear k e;refine dW ?_ d a hT hT2 c B;clear d a hT hT2 c B;intro d a hT hT2 c
 go_upto_region 5 with fail
 have gP:=d.lt;have gS:=a.lt;generalize F:w4.alloc _=w5 at *;obtain⟨A,BW⟩:=Bo.nw F;clear F;refine dW ?_ d a hT hT2 c BW;clear d a hT hT2 c BW;intro d a hT hT2 c;have e2:=S.out;have e:=d.cell
 go_wp2_with fail
 refine(dj (σ:=τ) hM' (by rw[Y.out];exact HT.out)).mono ?_;rintro ee w6 ⟨rfl,B⟩;clear e;refine dW ?_ a A hT hT2 c B;clear a A hT hT2 c B;intro a A hT hT2 c
 go_upto_region 9 with fail
 clear e0 e1 e2;have hG:=a.lt;have hF:=A.lt;refine bF [0,1,2,3] [30,31,32,33,0] [[],[],[0,1],[2],[]] 5 1 [Jo.Fact.iv (some (eM,eM+1)),Jo.q9 fH bA hA bD N o G t l,Jo.Fact.il8 2 [(some (eM,eM+1)),W],Jo.Fact.iv Z,Jo.Fact.any] ?_ ?_
 ·refine jm ?_ ?_
  ·rintro wj g K f;go_simp;exact Jo.v1 (Kr (hT.b g)) f.out
  refine jm ?_ ?_
  ·rintro wj g K f;have hL:=(A.b g).cell;go_simp;exact f.out _ _ rfl (br _ _)
  refine jm ?_ ?_
  ·rintro wj g _ ⟨fP,bB,hB,bH,O,p,H,u,m,rfl,h⟩ _ rfl K f;go_simp;exact f.out _ _ ⟨_,2,rfl,kJ.lit2 rfl ⟨h.top.1,h.top.2,h.rk⟩ ⟨j.top.1,j.top.2,j.rk⟩⟩ (af _ _)
  refine jm ?_ ?_
  ·rintro wj g _ ⟨hH,hI,rfl,gO⟩ K f;go_simp;exact Jo.v1 (Gn (hT2.b g) gO HZ.out) f.out
  exact jo
 rintro w7 g _ ⟨fP,bB,hB,bH,O,p,H,u,m,rfl,h⟩ _ rfl _ ⟨_,_,rfl,_⟩ _ ⟨gB,bC,hC,bN,P,r,I,v,n,rfl,hD⟩ -;simp only[Jo.z];replace a:=a.b g;replace c:=ak c g;clear hT hT2;have hE:=a.cell;have J:=a.frozen
 refine jn 4 fun K f=>?_
 go_simp;refine f.out _ _ ?_;clear f K hE J;have SX:=ac.t9 a gB bC hC bN P r I v n;refine jd ?_;go_wp2;exact bq (by simp[results,results33,go_sem,SX.box.cell]) rfl ⟨_,_,_,_,_,_,_,_,_,rfl,hD,(SX.below c.out (by omega))⟩
theorem Gk{w:World}{q:Bool->Int->Int->Int}{D D' M M' E E':Int}{s s':Bool}{x y:Int}{Z:Sp}(hq:QF q)(hT:dL w)(hT2:Tb w)(hM:LQ M)(hM':LQ M')(hy:rk D s M E=y)(hx:rk D' s' M' E'=x)(fy:jF y)(fx:jF x)(hZ:nE q y x Z):Calls prog 33 #[VQ D s M E,VQ D' s' M' E'] w (PV w Z):=by
 delta VQ
 rcases hZ with⟨a,H,h,rfl⟩ | ⟨a,U,V,b,e,rfl⟩
 ·by_cases c:y < 0
  ·rw[if_pos c];exact mf hq hT hT2 hM hM' hy hx a c (zR h true)
  ·rw[if_neg c];exact lC hq hT hT2 hM hM' hy hx a c (zR h false)
 ·have i:=(hq false y x).bd;have j:=(hq true y x).bd
  have f:aZ U:=by
   have g:=gM.grow hq b b i.1 (Int.le_refl _) i.2;exact g.1
  by_cases c:0 < x
  ·rw[if_pos c];exact zH hq hT hT2 hM hM' hy hx a b e f rfl c
  ·rw[if_neg c]
   by_cases d:y < 0
   ·rw[if_pos d];exact qj hq hT hT2 hM hM' hy hx a b e f rfl c d rfl
   ·rw[if_neg d];exact qk hq hT hT2 hM hM' hy hx a b e f rfl c d rfl
def nY (w:World)(x:Sp)(t:Bool)(e:Ending)(w':World):Prop:=∃e0 K s M E K' s' M' E',e= .returned (.tuple #[.agg #[.bool e0,.int .i64 K,.bool s,.int .u64 M,.int .i64 E,.int .i64 K',.bool s',.int .u64 M',.int .i64 E'],.bool t])/\Ci e0 K s M E K' s' M' E' x/\Below w.heap.size w w'
theorem rZ{w:World}{D D' M M' E E':Int}{s s':Bool}{x y:Int}(hT:dL w)(hT2:Tb w)(hM:LQ M)(hM':LQ M')(hy:rk D s M E=y)(hx:rk D' s' M' E'=x)(hf:(dc D s M E && dc D' s' M' E')=false):Calls prog 11 #[VQ D s M E,VQ D' s' M' E'] w (nY w none false):=by
 delta VQ
 obtain⟨σ,o⟩:∃σ,ag y 0=σ:=⟨_,rfl⟩;obtain⟨τ,p⟩:∃σ,ag x 0=σ:=⟨_,rfl⟩;have e0:=ec o;have e1:=ec p;have Q:=ie hx;have R:=ie hy;have O:=ie o;have P:=ie p;have I:=ie e0;have J:=ie e1;have L:=ie hf;clear hx hy o p e0 e1 hf
 go_enter func11,ntmps11
 go_upto_region 1 with fail
 generalize l:((w.alloc _).alloc _).alloc _=w1 at *;obtain⟨A,C,e,h⟩:=Bo.en3 l;clear l;have F:=A.lt;have G:=C.lt;have H:=e.lt;have r:=A.cell;have t:=C.cell
 go_wp2_with fail
 refine(ve (Bo.new _ _ _) L.out).mono ?_;rintro N S ⟨rfl,B⟩;replace B:=bt (af _ (.cells #[.int .i64 D,.bool s,.int .u64 M,.int .i64 E,.int .i64 D',.bool s',.int .u64 M',.int .i64 E'] 24)) B;clear r t;replace e:=e.b B;replace h:=ak h B;clear B
 go_wp2_with fail
 refine(sP).mono ?_;rintro N T ⟨k,i,m,j,g,c,f,d,a,rfl,q,B⟩;replace e:=e.b B;replace h:=ak h B;clear B;clear hT hT2;have u:=e.cell;have n:=e.frozen;go_wp2;clear u n;have z:=ac.t9 e k i m j g c f d a
 exact bq (v:= .tuple #[.agg #[.bool k,.int .i64 i,.bool m,.int .u64 j,.int .i64 g,.int .i64 c,.bool f,.int .u64 d,.int .i64 a],.bool false]) (by simp[results,results11,go_sem,z.box.cell]) rfl ⟨_,_,_,_,_,_,_,_,_,rfl,q,(z.below h.out (by omega))⟩
theorem oR{w:World}{D D' M M' E E':Int}{s s':Bool}{x y:Int}(hT:dL w)(hT2:Tb w)(hM:LQ M)(hM':LQ M')(hy:rk D s M E=y)(hx:rk D' s' M' E'=x)(hf:(dc D s M E && dc D' s' M' E')=true)(y0:y=0)(x0:x=0):Calls prog 11 #[VQ D s M E,VQ D' s' M' E'] w (nY w none false):=by
 delta VQ
 obtain⟨σ,A⟩:∃σ,ag y 0=σ:=⟨_,rfl⟩;obtain⟨τ,C⟩:∃σ,ag x 0=σ:=⟨_,rfl⟩;have e0:=ec A;have e1:=ec C;rw[dt y0]at e0;rw[dt x0]at e1;clear y0 x0;have Q:=ie hx;have R:=ie hy;have O:=ie A;have P:=ie C;have t:=ie e0;have u:=ie e1;have N:=ie hf;clear hx hy A C e0 e1 hf
 go_enter func11,ntmps11
 go_upto_region 1 with fail
 generalize p:((w.alloc _).alloc _).alloc _=w1 at *;obtain⟨k,d,a,c⟩:=Bo.en3 p;clear p;have I:=k.lt;have J:=d.lt;have L:=a.lt;have i:=k.cell;have j:=d.cell
 go_wp2_with fail
 refine(ve (Bo.new _ _ _) N.out).mono ?_;rintro z S ⟨rfl,B⟩;replace B:=bt (af _ (.cells #[.int .i64 D,.bool s,.int .u64 M,.int .i64 E,.int .i64 D',.bool s',.int .u64 M',.int .i64 E'] 24)) B;clear i j;refine aR ?_ k d a c B;clear k d a c B;intro k d a c;have e0:=t.out
 have i:=k.cell
 go_wp2_with fail
 refine(dj (σ:=σ) hM (by rw[R.out];exact O.out)).mono ?_;rintro z U ⟨rfl,B⟩;clear i;refine aF ?_ d a c B;clear d a c B;intro d a c;have e1:=u.out;have j:=d.cell
 go_wp2_with fail
 refine(dj (σ:=τ) hM' (by rw[Q.out];exact P.out)).mono ?_;rintro z V ⟨rfl,B⟩;clear j;replace a:=a.b B;replace c:=ak c B;clear B
 go_wp2_with fail
 refine(sP).mono ?_;rintro z T ⟨o,m,q,n,l,f,h,g,e,rfl,F,B⟩;replace a:=a.b B;replace c:=ak c B;clear B;clear hT hT2;have G:=a.cell;have r:=a.frozen;go_wp2;clear G r;have H:=ac.t9 a o m q n l f h g e
 exact bq (v:= .tuple #[.agg #[.bool o,.int .i64 m,.bool q,.int .u64 n,.int .i64 l,.int .i64 f,.bool h,.int .u64 g,.int .i64 e],.bool false]) (by simp[results,results11,go_sem,H.box.cell]) rfl ⟨_,_,_,_,_,_,_,_,_,rfl,F,(H.below c.out (by omega))⟩
theorem GZ{w:World}{q:Bool->Int->Int->Int}{D D' M M' E E':Int}{s s':Bool}{x y:Int}{Z:Sp}(hq:QF q)(hT:dL w)(hT2:Tb w)(hM:LQ M)(hM':LQ M')(hy:rk D s M E=y)(hx:rk D' s' M' E'=x)(hf:(dc D s M E && dc D' s' M' E')=true)(y0:y≠0)(fy:jF y)(fx:jF x)(hZ:nE q y x Z):Calls prog 11 #[VQ D s M E,VQ D' s' M' E'] w (nY w Z true):=by
 delta VQ
 obtain⟨σ,C⟩:∃σ,ag y 0=σ:=⟨_,rfl⟩;obtain⟨τ,F⟩:∃σ,ag x 0=σ:=⟨_,rfl⟩;have e0:=ec C;have e1:=ec F;rw[df y0]at e0;clear y0;have U:=ie hx;have I:=ie hy;have T:=ie C;have W:=ie F;have u:=ie e0;have Q:=ie e1;have R:=ie hf;have S:=ie hq;have A:=ie fy;have z:=ie fx
 have V:=ie hZ;clear hx hy C F e0 e1 hf hq fy fx hZ
 go_enter func11,ntmps11
 go_upto_region 1 with fail
 generalize p:((w.alloc _).alloc _).alloc _=w1 at *;obtain⟨e,f,a,c⟩:=Bo.en3 p;replace hT:=hT.below c.out;replace hT2:=hT2.below c.out;clear p;have N:=e.lt;have O:=f.lt;have P:=a.lt;have d:=e.cell;have k:=f.cell
 go_wp2_with fail
 refine(ve (Bo.new _ _ _) R.out).mono ?_;rintro L X ⟨rfl,B⟩;replace B:=bt (af _ (.cells #[.int .i64 D,.bool s,.int .u64 M,.int .i64 E,.int .i64 D',.bool s',.int .u64 M',.int .i64 E'] 24)) B;clear d k;refine gv ?_ e f a hT hT2 c B;clear e f a hT hT2 c B;intro e f a hT hT2 c;have e0:=u.out;have d:=e.cell
 go_wp2_with fail
 refine(dj (σ:=σ) hM (by rw[I.out];exact T.out)).mono ?_;rintro L wa ⟨rfl,B⟩;clear d;refine gv ?_ e f a hT hT2 c B;clear e f a hT hT2 c B;intro e f a hT hT2 c;have d:=e.cell;have k:=f.cell
 go_wp2_with fail
 refine(Gk S.out hT hT2 hM hM' I.out U.out A.out z.out V.out).mono ?_;rintro L Y ⟨o,m,r,n,l,h,j,i,g,rfl,G,B⟩;clear d k;replace a:=a.b B;replace c:=ak c B;clear B;clear hT hT2;have H:=a.cell;have t:=a.frozen;go_wp2;clear H t
 have J:=ac.t9 a o m r n l h j i g;exact bq (v:= .tuple #[.agg #[.bool o,.int .i64 m,.bool r,.int .u64 n,.int .i64 l,.int .i64 h,.bool j,.int .u64 i,.int .i64 g],.bool true]) (by simp[results,results11,go_sem,J.box.cell]) rfl ⟨_,_,_,_,_,_,_,_,_,rfl,G,(J.below c.out (by omega))⟩
theorem GY{w:World}{q:Bool->Int->Int->Int}{D D' M M' E E':Int}{s s':Bool}{x y:Int}{Z:Sp}(hq:QF q)(hT:dL w)(hT2:Tb w)(hM:LQ M)(hM':LQ M')(hy:rk D s M E=y)(hx:rk D' s' M' E'=x)(hf:(dc D s M E && dc D' s' M' E')=true)(y0:y=0)(x0:x≠0)(fy:jF y)(fx:jF x)(hZ:nE q y x Z):Calls prog 11 #[VQ D s M E,VQ D' s' M' E'] w (nY w Z true):=by
 delta VQ
 obtain⟨σ,G⟩:∃σ,ag y 0=σ:=⟨_,rfl⟩;obtain⟨τ,H⟩:∃σ,ag x 0=σ:=⟨_,rfl⟩;have e0:=ec G;have e1:=ec H;rw[dt y0]at e0;rw[df x0]at e1;clear y0 x0;have L:=ie hx;have N:=ie hy;have U:=ie G;have V:=ie H;have u:=ie e0;have z:=ie e1;have S:=ie hf;have T:=ie hq
 have C:=ie fy;have A:=ie fx;have W:=ie hZ;clear hx hy G H e0 e1 hf hq fy fx hZ
 go_enter func11,ntmps11
 go_upto_region 1 with fail
 generalize p:((w.alloc _).alloc _).alloc _=w1 at *;obtain⟨d,e,a,c⟩:=Bo.en3 p;replace hT:=hT.below c.out;replace hT2:=hT2.below c.out;clear p;have P:=d.lt;have Q:=e.lt;have R:=a.lt;have f:=d.cell;have g:=e.cell
 go_wp2_with fail
 refine(ve (Bo.new _ _ _) S.out).mono ?_;rintro F X ⟨rfl,B⟩;replace B:=bt (af _ (.cells #[.int .i64 D,.bool s,.int .u64 M,.int .i64 E,.int .i64 D',.bool s',.int .u64 M',.int .i64 E'] 24)) B;clear f g;refine gv ?_ d e a hT hT2 c B;clear d e a hT hT2 c B;intro d e a hT hT2 c;have e0:=u.out;have f:=d.cell
 go_wp2_with fail
 refine(dj (σ:=σ) hM (by rw[N.out];exact U.out)).mono ?_;rintro F wa ⟨rfl,B⟩;clear f;refine gv ?_ d e a hT hT2 c B;clear d e a hT hT2 c B;intro d e a hT hT2 c;have e1:=z.out;have g:=e.cell
 go_wp2_with fail
 refine(dj (σ:=τ) hM' (by rw[L.out];exact V.out)).mono ?_;rintro F wb ⟨rfl,B⟩;clear g;refine gv ?_ d e a hT hT2 c B;clear d e a hT hT2 c B;intro d e a hT hT2 c;have f:=d.cell;have g:=e.cell
 go_wp2_with fail
 refine(Gk T.out hT hT2 hM hM' N.out L.out C.out A.out W.out).mono ?_;rintro F Y ⟨o,m,r,n,l,i,k,j,h,rfl,I,B⟩;clear f g;replace a:=a.b B;replace c:=ak c B;clear B;clear hT hT2;have J:=a.cell;have t:=a.frozen;go_wp2;clear J t
 have O:=ac.t9 a o m r n l i k j h;exact bq (v:= .tuple #[.agg #[.bool o,.int .i64 m,.bool r,.int .u64 n,.int .i64 l,.int .i64 i,.bool k,.int .u64 j,.int .i64 h],.bool true]) (by simp[results,results11,go_sem,O.box.cell]) rfl ⟨_,_,_,_,_,_,_,_,_,rfl,I,(O.below c.out (by omega))⟩
theorem tZ{w:World}{q:Bool->Int->Int->Int}{D D' M M' E E':Int}{s s':Bool}{x y:Int}{Z:Sp}(hq:QF q)(hT:dL w)(hT2:Tb w)(hM:LQ M)(hM':LQ M')(hy:rk D s M E=y)(hx:rk D' s' M' E'=x)(hf:(dc D s M E && dc D' s' M' E')=true)(h0:¬(y=0/\x=0))(fy:jF y)(fx:jF x)(hZ:nE q y x Z):Calls prog 11 #[VQ D s M E,VQ D' s' M' E'] w (nY w Z true):=by
 delta VQ
 by_cases c:y=0
 ·exact GY hq hT hT2 hM hM' hy hx hf c (fun e=>h0 ⟨c,e⟩) fy fx hZ
 ·exact GZ hq hT hT2 hM hM' hy hx hf c fy fx hZ
theorem o8:∃H,eB H:=by
 obtain⟨r,a⟩:=rB false (iP/2) SC;obtain⟨u,b⟩:=rB true (iO/2+1) SC;exact⟨_,r,u,a,b,rfl⟩
theorem px (v:Int):∃Z,eO v Z:=by
 obtain⟨r,a⟩:=rB false (pL v) SC;obtain⟨u,b⟩:=rB true (pH v) SC;exact⟨_,r,u,a,b,rfl⟩
theorem zW (q:Bool->Int->Int->Int)(n:Int):∃Z,nF q n Z:=by
 by_cases c:n=19342822337206103650074625
 ·obtain⟨H,h⟩:=o8;exact⟨H,.inl ⟨c,h⟩⟩
 ·by_cases d:n<=al 1
  ·obtain⟨Z,h⟩:=px (dC n);exact⟨Z,.inr (.inl ⟨c,d,h⟩)⟩
  ·obtain⟨H,h⟩:=o8;obtain⟨U,a⟩:=px (dC (q false (al 1) n));obtain⟨V,b⟩:=px (dC (q true (al 1) n));exact⟨_,.inr (.inr ⟨c,d,H,U,V,h,a,b,rfl⟩)⟩
theorem mh (q:Bool->Int->Int->Int)(n:Int):∃Z,gM q n Z:=by
 by_cases c:n < 0
 ·obtain⟨Y,h⟩:=zW q (-n);exact⟨_,.inl ⟨c,Y,h,rfl⟩⟩
 ·obtain⟨Z,h⟩:=zW q n;exact⟨Z,.inr ⟨c,h⟩⟩
theorem tY (q:Bool->Int->Int->Int)(y x:Int):∃Z,nE q y x Z:=by
 by_cases c:x=0
 ·obtain⟨H,h⟩:=o8;exact⟨_,.inl ⟨c,H,h,rfl⟩⟩
 ·obtain⟨U,a⟩:=mh q (q false y x);obtain⟨V,b⟩:=mh q (q true y x);exact⟨_,.inr ⟨c,U,V,a,b,rfl⟩⟩
theorem Eh (q:Bool->Int->Int->Int)(X:Sp):∃Z,tO q X Z:=by
 rcases X with _ | ⟨a,b⟩
 ·exact⟨none,rfl⟩
 ·obtain⟨U,c⟩:=mh q a;obtain⟨V,d⟩:=mh q b;exact⟨_,U,V,c,d,rfl⟩
theorem Cu{n:Int}:jF (al n):=by
 obtain⟨a,b⟩:=qW n.natAbs 0
 unfold jF al
 generalize lo n.natAbs 0=l at a b
 cases h:decide (n < 0)
 ·rw[show aj false l=l from if_neg (by decide)];omega
 ·rw[show aj true l= -l from if_pos rfl];omega
theorem vC{K:Int}{s:Bool}{M E r:Int}(h:Fq K s M E r)(f:jF r):dc K s M E=true:=by
 refine i6 (dt h.1) ?_
 rcases h.cases with⟨rfl,_⟩ | ⟨rfl,_⟩ | ⟨rfl,_,_,⟨_,e⟩ | ⟨_,e⟩⟩
 ·rfl
 ·rfl
 ·exact absurd f.2 (by omega)
 ·exact absurd f.1 (by omega)
theorem AD{K K':Int}{s s':Bool}{M E M' E' r r':Int}(h:Fq K s M E r)(h':Fq K' s' M' E' r')(f:jF r)(f':jF r'):(dc K s M E && dc K' s' M' E')=true:=by
 rw[vC h f,vC h' f']
 rfl
theorem EB:eH (al 4) (al 4)=some (al 4,al 4):=aI (Int.le_refl _) (by decide) (by decide)
theorem tB (e:Bool)(D:Int)(s:Bool)(M E G:Int)(g:Bool)(P Q:Int)(w:World):Sem.run prog (Instr.field 26 (.agg #[.bool e,.int .i64 D,.bool s,.int .u64 M,.int .i64 E,.int .i64 G,.bool g,.int .u64 P,.int .i64 Q]) 0) w= .ok (.bool e) w:=by kernel_rfl
theorem r7{w:World}{q:Bool->Int->Int->Int}(hq:QF q)(hT:dL w)(hT2:Tb w){Z A:Sp}{a b a2 b2:Int}(hZ:gM q (al 1) Z)(hA:nE q 0 (al (-1)) A)(h1:jJ [(lF (some (al 4,al 4)) Z),(some (eM,eM+1))]=some (a,b))(h2:jJ [A,(some (eM,eM+1))]=some (a2,b2))(hw:nU A < al 1):Calls prog 10 #[] w (PB w true):=by
 obtain⟨σ,hσ⟩:∃σ,ag (nU A) (al 1)=σ:=⟨_,rfl⟩
 have e0:decide (σ < 0)=true:=dt (by rw[<-hσ,av hw];decide)
 have f0:jF 0:=⟨by decide,by decide⟩
 have f1:jF (al (-1)):=Cu
 have HQ:=ie hq;have HZ:=ie hZ;have HA:=ie hA;have H1:=ie h1;have H2:=ie h2;have hM:=ie hσ;have hL:=ie e0;have G:=ie f0;have H:=ie f1;clear hw hq hZ hA h1 h2 hσ e0 f0 f1
 go_enter func10,ntmps10
 have f:=ie (Below.refl w.heap.size w)
 go_wp2_with fail
 refine(Cb (n:=4) (r:=al 4) _ (by decide) (by decide) rfl).mono ?_;rintro X w1 ⟨K1,s1,M1,E1,rfl,q1,B⟩;refine aF ?_ hT hT2 f B;clear hT hT2 f B;intro hT hT2 f
 go_wp2_with fail
 refine(EP q1.top q1.rk EB).mono ?_;rintro X w2 ⟨e2,K2,s2,M2,E2,hU,HM,qT,hF,rfl,v2,B⟩;refine aF ?_ hT hT2 f B;clear hT hT2 f B;intro hT hT2 f
 go_upto_region 2 with fail
 have Y:=f.out.size;generalize h:w2.alloc _=w3 at *;obtain⟨X1,v⟩:=Bo.nw h;clear h;refine aF ?_ hT hT2 f v;clear hT hT2 f v;intro hT hT2 f;clear q1;have HY:=X1.lt;refine bF [0,1,2,3,4,5,6,7] [8,9,10,11,12,13,14,3,0] [[],[],[1],[0,2],[],[3,4],[5],[],[]] 9 1 [Jo.q9 e2 K2 s2 M2 E2 hU HM qT hF,Jo.Fact.num (al 1),Jo.Fact.iv Z,Jo.Fact.iv (lF (some (al 4,al 4)) Z),Jo.Fact.iv (some (eM,eM+1)),Jo.Fact.il8 2 [(lF (some (al 4,al 4)) Z),(some (eM,eM+1))],Jo.Fact.iv (some (a,b)),Jo.Fact.bo w3.heap.size #[.bool false,.int .i64 0,.bool false,.int .u64 0,.int .i64 0,.int .i64 0,.bool false,.int .u64 0,.int .i64 0] 26,Jo.Fact.any] ?_ ?_
 ·refine jm ?_ ?_
  ·rintro g e K d;have LK:=(X1.b e).cell;go_simp;exact d.out _ _ rfl (br _ _)
  refine jm ?_ ?_
  ·rintro g e K d;go_simp;exact Jo.n1 (Cb (n:=1) (r:=al 1) _ (by decide) (by decide) rfl) d.out
  refine jm ?_ ?_
  ·rintro g e _ ⟨hN,HI,iU,hB,rfl,o⟩ K d;go_simp;exact Jo.v1 (oS HQ.out (hT.b e) (hT2.b e) o.nn o.top o.rk HZ.out) d.out
  refine jm ?_ ?_
  ·rintro g e _ rfl _ ⟨CD,hP,HJ,iV,hC,I,bC,P,x,rfl,i⟩ K d;go_simp;exact Jo.v1 (Jw v2.top.1 v2.top.2 i.top.1 i.top.2 v2.rk i.rk rfl) d.out
  refine jm ?_ ?_
  ·rintro g e K d;go_simp;exact Jo.v1 (Kr (hT.b e)) d.out
  refine jm ?_ ?_
  ·rintro g e _ ⟨DS,hQ,HK,lA,hD,J,bD,Q,y,rfl,p⟩ _ ⟨ET,hR,HL,lB,hE,L,bH,R,C,rfl,t⟩ K d;go_simp;exact d.out _ _ ⟨_,2,rfl,kJ.lit2 rfl p.rw t.rw⟩ (af _ _)
  refine jm ?_ ?_
  ·rintro g e _ ⟨LC,LH,rfl,HF⟩ K d;go_simp;exact Jo.v1 (pe HF H1.out) d.out
  refine jm ?_ ?_
  ·rintro g e K d;go_simp;exact d.out _ _ ⟨_,rfl,e.size,Bo.new _ _ _⟩ (af _ _)
  exact jo
 rintro w4 e _ rfl _ ⟨hN,HI,iU,hB,rfl,_⟩ _ ⟨CD,hP,HJ,iV,hC,I,bC,P,x,rfl,i⟩ _ ⟨DS,hQ,HK,lA,hD,J,bD,Q,y,rfl,p⟩ _ ⟨ET,hR,HL,lB,hE,L,bH,R,C,rfl,t⟩ _ ⟨_,_,rfl,_⟩ _ ⟨HC,LF,LJ,LG,LE,HU,LB,HV,HT,rfl,HR⟩ _ ⟨HE,rfl,HX,c⟩ -;simp only[Jo.z];replace hT:=hT.b e;replace hT2:=hT2.b e
 replace f:=ak f e;have gP:=c.cell;have u:=c.frozen
 refine jn 8 fun K d=>?_
 go_simp;refine d.out _ _ ?_;clear d K gP u;generalize hS:((((((((w4.setCell _ _).setCell _ _).setCell _ _).setCell _ _).setCell _ _).setCell _ _).setCell _ _).setCell _ _).setCell _ _=w5 at *;have V:=ac.of9 c hS;replace hT:=hT.s V;replace hT2:=hT2.s V;replace f:=bi f V (by omega)
 replace c:=V.box;clear V hS;refine jd ?_;clear i p t
 obtain rfl:HC=false:=HR.1
 go_wp2_with fail
 refine(Cb (n:=0) (r:=0) _ (by decide) (by decide) rfl).mono ?_;rintro X w6 ⟨K5,s5,M5,E5,rfl,q5,B⟩;refine aR ?_ c hT hT2 f B;clear c hT hT2 f B;intro c hT hT2 f
 go_wp2_with fail
 refine(Cb (n:= -1) (r:=al (-1)) _ (by decide) (by decide) rfl).mono ?_;rintro X w7 ⟨K6,s6,M6,E6,rfl,q6,B⟩;refine aR ?_ c hT hT2 f B;clear c hT hT2 f B;intro c hT hT2 f
 go_wp2_with fail
 refine(tZ HQ.out hT hT2 q5.top q6.top q5.rk q6.rk (AD q5 q6 G.out H.out) (by decide) G.out H.out HA.out).mono ?_;rintro X w8 ⟨e7,K7,s7,M7,E7,O,fP,U,F,rfl,v7,B⟩;refine aR ?_ c hT hT2 f B;clear c hT hT2 f B;intro c hT hT2 f
 go_upto_region 4 with fail
 clear Y;have Y:=f.out.size;have gS:=c.lt;generalize h:w8.alloc _=w9 at *;obtain⟨X3,v⟩:=Bo.nw h;clear h;refine aR ?_ c hT hT2 f v;clear c hT hT2 f v;intro c hT hT2 f;clear q5 q6;have HH:=c.lt;have LA:=X3.lt;refine bF [0,1,2,3,4,5,6,7,8,9,10,11,12,13,14,15,16,17,18,19,20,21] [21,22,23,24,25,26,27,28,29,30,31,32,33,34,35,36,37,38,39,40,41,1] [[],[0],[1],[2],[3],[3,4],[5],[6],[6],[6,7,8],[6,9],[6,10],[6,11],[6,12],[13],[14],[14,15],[14],[14,16,17],[14,18],[14,19],[20]] 22 0 [Jo.qp HE 0,Jo.qb false,Jo.qb true,Jo.qb true,Jo.qb true,Jo.qb true,Jo.qb true,Jo.q9 e7 K7 s7 M7 E7 O fP U F,Jo.Fact.iv (some (eM,eM+1)),Jo.Fact.il8 2 [A,(some (eM,eM+1))],Jo.Fact.iv (some (a2,b2)),Jo.qb false,Jo.qb true,Jo.qb true,Jo.qb true,Jo.q9 e7 K7 s7 M7 E7 O fP U F,Jo.Fact.num (nU A),Jo.Fact.num (al 1),Jo.qi σ,Jo.qb true,Jo.qb true,Jo.qb true] ?_ ?_
 ·refine jm ?_ ?_;rotate_left
  refine jm ?_ ?_
  ·rintro g e _ rfl K d;have HS:=(c.b e).a 0 (.bool false) rfl;go_simp;exact d.out _ _ rfl (br _ _)
  iterate 6 (refine jm ?_ ?_;rotate_left)
  refine jm ?_ ?_
  ·rintro g e _ rfl K d;go_simp;exact Jo.v1 (Kr (hT.b e)) d.out
  refine jm ?_ ?_
  ·rintro g e _ rfl _ rfl _ ⟨HD,hV,HN,xX,hG,M,bN,S,D,rfl,gB⟩ K d;go_simp;exact d.out _ _ ⟨_,2,rfl,kJ.lit2 rfl v7.rw gB.rw⟩ (af _ _)
  refine jm ?_ ?_
  ·rintro g e _ rfl _ ⟨LD,LI,rfl,HG⟩ K d;go_simp;exact Jo.v1 (pe HG H2.out) d.out
  refine jm ?_ ?_
  ·rintro g e _ rfl _ ⟨W,N,fH,T,E,k,m,l,j,rfl,gO⟩ K d;simp only[Jo.z]at d|-
   obtain rfl:W=false:=gO.1
   have HW:=tB false N fH T E k m l j g;go_simp;exact d.out _ _ rfl (br _ _)
  iterate 4 (refine jm ?_ ?_;rotate_left)
  refine jm ?_ ?_
  ·rintro g e _ rfl _ rfl K d;go_simp;exact Jo.n1 (EQ (hT2.b e) v7.top.1 v7.top.2 v7.rk rfl) d.out
  refine jm ?_ ?_
  ·rintro g e _ rfl K d;go_simp;exact Jo.n1 (Cb (n:=1) (r:=al 1) _ (by decide) (by decide) rfl) d.out
  refine jm ?_ ?_
  ·rintro g e _ rfl _ ⟨hW,HO,zX,hH,rfl,bA⟩ _ ⟨hX,HP,BX,hI,rfl,bB⟩ K d;go_simp;refine(kq (z:=σ) bA.top bB.top (by rw[bA.rk,bB.rk];exact hM.out)).mono ?_;rintro X wk ⟨rfl,B⟩;exact d.out _ _ rfl B
  refine jm ?_ ?_
  ·rintro g e _ rfl _ rfl K d;have ht:=hL.out;go_simp
   exact d.out _ _ (by first | rfl | (show Value.bool _=Value.bool _;first | (rw[ht];done) | (simp only[ht];done) | simp_all)) (br _ _)
  iterate 2 (refine jm ?_ ?_;rotate_left)
  exact jo
  all_goals (rintro g e;(repeat rintro _ rfl);intro K d;have LM:=(X3.b e).cell;go_simp;exact d.out _ _ rfl (br _ _))
 rintro wA e _ _ _ rfl _ rfl _ rfl _ rfl _ rfl _ rfl _ rfl _ ⟨HD,hV,HN,xX,hG,M,bN,S,D,rfl,gB⟩ _ ⟨_,_,rfl,_⟩ _ ⟨W,N,fH,T,E,k,m,l,j,rfl,gO⟩ _ rfl _ rfl _ rfl _ rfl _ rfl _ ⟨hW,HO,zX,hH,rfl,_⟩ _ ⟨hX,HP,BX,hI,rfl,_⟩ _ rfl _ rfl _ rfl _ rfl -;simp only[Jo.z];replace f:=ak f e;refine jd ?_
 go_wp2
 go_ret
 exact⟨rfl,f.out⟩
theorem Ei{w:World}{q:Bool->Int->Int->Int}(hq:QF q)(hT:dL w)(hT2:Tb w):Calls prog 10 #[] w (PB w true):=by
 obtain⟨Z,d⟩:=mh q (al 1);obtain⟨A,c⟩:=tY q 0 (al (-1));obtain⟨a,b,h1⟩:=AK d;obtain⟨⟨a2,g,h2⟩,e⟩:=ER hq c
 have f:aZ A:=((c.in8 hq).fin (by have:=fw;omega)).ok
 exact r7 hq hT hT2 d c (by rw[BH Ie];exact h1) (by rw[BH f];exact h2) e
