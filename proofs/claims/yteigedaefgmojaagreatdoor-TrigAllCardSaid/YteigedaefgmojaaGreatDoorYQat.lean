/-
 Contracts that the proof rests on.
-/
import Derived.Test.YteigedaefgmojaaGreatDoorYQas
namespace Go.Proofs.YteigedaefgmojaaGreatDoor
open Go.Proofs.Tryz
set_option maxHeartbeats 8000000
open Go.RowKit
set_option linter.unusedVariables false
set_option linter.unusedSimpArgs false
set_option maxRecDepth 100000
theorem DF{D:Int}{s:Bool}{M E:Int}(hM:LQ M):∃K1 s1 M1 E1,Fq K1 s1 M1 E1 (rk D s M E):=by
 by_cases hm:aG D s M E
 ·exact⟨_,_,_,_,dX hM hm⟩
 ·rw[eU hm];exact⟨_,_,_,_,Fq.nought⟩
theorem vV{w:World}{D M E:Int}{s:Bool}{K1 M1 E1 x:Int}{s1:Bool}(hM:LQ M)(q:Fq K1 s1 M1 E1 x)(hx:rk D s M E=x):Calls prog 144 #[VQ D s M E] w (fun e w'=>e= .returned (.agg #[.int .i64 K1,.bool s1,.int .u64 M1,.int .i64 E1])/\Below w.heap.size w w'):=by
 delta VQ
 by_cases hm:aG D s M E
 ·obtain⟨rfl,rfl,rfl,rfl⟩:=q.uniq (hx▸dX hM hm)
  have j:=ie (show decide (aG K1 s1 M1 E1)=true from dt hm)
  clear hm hx hM q
  go_enter func144,ntmps144
  go_upto_region 1 with fail
  generalize d:(w.alloc _).alloc _=w1 at *;obtain⟨c,b,g⟩:=Bo.en2 d;clear d;have a:=c.cell
  go_wp2_with fail
  refine(nr j.out).mono ?_;rintro k l ⟨rfl,B⟩;clear a;refine aE ?_ c b g B;clear c b g B;intro c b g;have h:=b.cell;have f:=b.frozen;have a:=c.cell;go_wp2;clear h f a;have i:=ae.t4 b K1 s1 M1 E1
  exact bq (v:= .agg #[.int .i64 K1,.bool s1,.int .u64 M1,.int .i64 E1]) (by simp[results,results144,go_sem,i.box.cell]) rfl ⟨rfl,(i.below g.out (by omega))⟩
 ·rw[eU hm]at hx;subst hx;obtain⟨rfl,rfl,rfl,rfl⟩:=q.uniq Fq.nought
  have j:=ie (show decide (aG D s M E)=false from df hm)
  clear hm hM q
  go_enter func144,ntmps144
  go_upto_region 1 with fail
  generalize d:(w.alloc _).alloc _=w1 at *;obtain⟨c,b,g⟩:=Bo.en2 d;clear d;have a:=c.cell
  go_wp2_with fail
  refine(nr j.out).mono ?_;rintro k l ⟨rfl,B⟩;clear a;refine aE ?_ c b g B;clear c b g B;intro c b g;have h:=b.cell;have f:=b.frozen;have a:=c.cell;go_wp2;clear h f a;have i:=ae.t4 b 0 false 0 0
  exact bq (v:= .agg #[.int .i64 0,.bool false,.int .u64 0,.int .i64 0]) (by simp[results,results144,go_sem,i.box.cell]) rfl ⟨rfl,(i.below g.out (by omega))⟩
theorem Ii{w:World}{D D' M M' E E':Int}{s s':Bool}{up:Bool}{x y r:Int}(hT:Tb w)(hM:LQ M)(hM':LQ M')(hx:rk D s M E=x)(hy:rk D' s' M' E'=y)(hr:dj up x y=r):Calls prog 118 #[VQ D s M E,VQ D' s' M' E',.bool up] w (PN w r):=by
 delta VQ
 obtain⟨O,s1,G,F,m⟩:=DF (D:=D) (s:=s) (M:=M) (E:=E) hM;obtain⟨K2,s2,M2,E2,n⟩:=DF (D:=D') (s:=s') (M:=M') (E:=E') hM';rw[hx]at m;rw[hy]at n;have R:=ie hx;have S:=ie hy;clear hx hy
 go_enter func118,ntmps118
 go_upto_region 1 with fail
 generalize I:((w.alloc _).alloc _).alloc _=w1 at *;obtain⟨k,l,g,j⟩:=Bo.en3 I;replace hT:=hT.below j.out;clear I;refine aV [0,1,2,3] [8,9,10,11,0,0] [[],[0],[],[2],[],[]] 6 2 [Jo.q4 D s M E,Jo.q4 O s1 G F,Jo.q4 D' s' M' E',Jo.q4 K2 s2 M2 E2,Jo.Fact.any,Jo.Fact.any] ?_ ?_
 ·refine jm ?_ ?_;rotate_left
  refine jm ?_ ?_
  ·rintro T v _ rfl K t;go_simp;refine(vV hM m R.out).mono ?_;rintro P wk ⟨rfl,B⟩;exact t.out _ _ rfl B
  refine jm ?_ ?_;rotate_left
  refine jm ?_ ?_
  ·rintro T v _ rfl K t;go_simp;refine(vV hM' n S.out).mono ?_;rintro P wk ⟨rfl,B⟩;exact t.out _ _ rfl B
  exact jo
  all_goals (rintro T v;(repeat rintro _ rfl);intro K t;have c:=(k.b v).cell;have d:=(l.b v).cell;go_simp;exact t.out _ _ rfl (br _ _))
 rintro w2 v _ rfl _ rfl _ rfl _ rfl -;simp only[Jo.z];replace k:=k.b v;replace l:=l.b v;replace g:=g.b v;replace hT:=hT.b v;replace j:=aj j v;have c:=k.cell;have L:=k.frozen
 refine jn 4 fun K t=>?_
 go_simp;refine t.out _ _ ?_;clear t K c L;generalize H:(((w2.setCell _ _).setCell _ _).setCell _ _).setCell _ _=w3 at *;have f:=ae.of4 k H;replace l:=l.s f;replace g:=g.s f;replace hT:=hT.s f;replace j:=aP j f (by omega);replace k:=f.box;clear f H;have d:=l.cell
 have N:=l.frozen
 refine jn 5 fun K t=>?_
 go_simp;refine t.out _ _ ?_;clear t K d N;generalize H:(((w3.setCell _ _).setCell _ _).setCell _ _).setCell _ _=w4 at *;have f:=ae.of4 l H;replace k:=k.s f;replace g:=g.s f;replace hT:=hT.s f;replace j:=aP j f (by omega);replace l:=f.box;clear f H;refine jd ?_
 clear R S hM hM';have i1:=mV m;have i2:=mV n;have u:=m.zero_iff;have q:=n.zero_iff;have o:=m.bd;have p:=n.bd
 have Q:O=2\/O=0\/O=1:=by rcases m.cases with⟨h,_⟩ | ⟨h,_⟩ | ⟨h,_⟩ <;> omega
 have C:K2=2\/K2=0\/K2=1:=by rcases n.cases with⟨h,_⟩ | ⟨h,_⟩ | ⟨h,_⟩ <;> omega
 rcases Q with rfl | rfl | rfl
 ·rcases C with rfl | rfl | rfl
  ·by_cases J:s1=s2
   ·rw[lX up i1 ((j5 m n).2 J)]at hr;subst hr;subst J;clear i1 i2 u q o p n;have i:=g.cell;have a:=g.frozen;have c:=k.cell;have d:=l.cell;go_wp2;clear i a c d;have f:=ae.t4 g 2 s1 G F
    exact bq (by simp[results,results118,go_sem,f.box.cell]) rfl ⟨_,_,_,_,rfl,m,(f.below j.out (by omega))⟩
   ·rw[gI up i1 i2 (fun e=>J ((j5 m n).1 e))]at hr
    obtain rfl:(!s1)=s2:=by cases s1 <;> cases s2 <;> first | rfl | exact absurd rfl J
    have e2:(s1==!s1)=false:=by cases s1 <;> rfl
    have A:=ie hr;clear i1 i2 u q o p m n hr J;have c:=k.cell;have d:=l.cell
    go_wp2_with fail
    refine(oO (s:=!up) A.out).mono ?_;rintro P w5 ⟨U,s3,W,E3,rfl,Z,B⟩;clear c d;refine dk ?_ k l g j B;clear k l g j B;intro k l g j;have i:=g.cell;have a:=g.frozen;go_wp2;clear i a;have f:=ae.t4 g U s3 W E3
    exact bq (by simp[results,results118,go_sem,f.box.cell]) rfl ⟨_,_,_,_,rfl,Z,(f.below j.out (by omega))⟩
  ·rw[gJ up i1 i2]at hr;subst hr;clear i1 i2 u q o p n;have i:=g.cell;have a:=g.frozen;have c:=k.cell;have d:=l.cell;go_wp2;clear i a c d;have f:=ae.t4 g 2 s1 G F;exact bq (by simp[results,results118,go_sem,f.box.cell]) rfl ⟨_,_,_,_,rfl,m,(f.below j.out (by omega))⟩
  ·rw[gJ up i1 i2]at hr;subst hr;clear i1 i2 u q o p n;have i:=g.cell;have a:=g.frozen;have c:=k.cell;have d:=l.cell;go_wp2;clear i a c d;have f:=ae.t4 g 2 s1 G F;exact bq (by simp[results,results118,go_sem,f.box.cell]) rfl ⟨_,_,_,_,rfl,m,(f.below j.out (by omega))⟩
 ·rcases C with rfl | rfl | rfl
  ·rw[iD up i1 i2]at hr;subst hr;clear i1 i2 u q o p m;have i:=g.cell;have a:=g.frozen;have c:=k.cell;have d:=l.cell;go_wp2;clear i a c d;have f:=ae.t4 g 2 s2 M2 E2;exact bq (by simp[results,results118,go_sem,f.box.cell]) rfl ⟨_,_,_,_,rfl,n,(f.below j.out (by omega))⟩
  ·rw[q.1 rfl,gK up o.1 o.2]at hr;subst hr;clear i1 i2 u q o p n;have i:=g.cell;have a:=g.frozen;have c:=k.cell;have d:=l.cell;go_wp2;clear i a c d;have f:=ae.t4 g 0 s1 G F;exact bq (by simp[results,results118,go_sem,f.box.cell]) rfl ⟨_,_,_,_,rfl,m,(f.below j.out (by omega))⟩
  ·rw[u.1 rfl,fy,gK up p.1 p.2]at hr;subst hr;clear i1 i2 u q o p m;have i:=g.cell;have a:=g.frozen;have c:=k.cell;have d:=l.cell;go_wp2;clear i a c d;have f:=ae.t4 g 1 s2 M2 E2
   exact bq (by simp[results,results118,go_sem,f.box.cell]) rfl ⟨_,_,_,_,rfl,n,(f.below j.out (by omega))⟩
 ·rcases C with rfl | rfl | rfl
  ·rw[iD up i1 i2]at hr;subst hr;clear i1 i2 u q o p m;have i:=g.cell;have a:=g.frozen;have c:=k.cell;have d:=l.cell;go_wp2;clear i a c d;have f:=ae.t4 g 2 s2 M2 E2;exact bq (by simp[results,results118,go_sem,f.box.cell]) rfl ⟨_,_,_,_,rfl,n,(f.below j.out (by omega))⟩
  ·rw[q.1 rfl,gK up o.1 o.2]at hr;subst hr;clear i1 i2 u q o p n;have i:=g.cell;have a:=g.frozen;have c:=k.cell;have d:=l.cell;go_wp2;clear i a c d;have f:=ae.t4 g 1 s1 G F;exact bq (by simp[results,results118,go_sem,f.box.cell]) rfl ⟨_,_,_,_,rfl,m,(f.below j.out (by omega))⟩
  ·have A:=ie hr;clear i1 i2 u q o p hr;have c:=k.cell;have d:=l.cell
   go_wp2_with fail
   refine(Gn hT m n).mono ?_;rintro P w5 ⟨s3,H3,L3,x3,rfl,Y,B⟩;clear c d;replace g:=g.b B;replace j:=aj j B;clear B
   go_wp2_with fail
   refine(D9 Y A.out).mono ?_;rintro P w6 ⟨V,s4,X,E4,rfl,q4,B⟩;replace g:=g.b B;replace j:=aj j B;clear B;have i:=g.cell;have a:=g.frozen;go_wp2;clear i a;have f:=ae.t4 g V s4 X E4;exact bq (by simp[results,results118,go_sem,f.box.cell]) rfl ⟨_,_,_,_,rfl,q4,(f.below j.out (by omega))⟩
theorem Gm{w:World}{D D' M M' E E':Int}{s s':Bool}{up:Bool}{x y r:Int}(hT:Tb w)(hM:LQ M)(hM':LQ M')(hx:rk D s M E=x)(hy: -rk D' s' M' E'=y)(hr:dj up x y=r):Calls prog 54 #[VQ D s M E,VQ D' s' M' E',.bool up] w (PN w r):=by
 delta VQ
 have m:=ie hx;have n:=ie hy;have l:=ie hr;clear hx hy hr
 go_enter func54,ntmps54
 go_upto_region 1 with fail
 generalize e:((w.alloc _).alloc _).alloc _=w1 at *;obtain⟨u,v,d,g⟩:=Bo.en3 e;replace hT:=hT.below g.out;clear e;refine aV [0,1,2,3,4] [8,9,10,11,12,0] [[],[],[1],[],[0,2,3],[]] 6 1 [Jo.q4 D s M E,Jo.q4 D' s' M' E',Jo.Fact.num y,Jo.qb up,Jo.Fact.num r,Jo.Fact.any] ?_ ?_
 ·iterate 2 (refine jm ?_ ?_;rotate_left)
  refine jm ?_ ?_
  ·rintro k a _ rfl K c;go_simp;exact Jo.n1 (EY hM' n.out) c.out
  refine jm ?_ ?_;rotate_left
  refine jm ?_ ?_
  ·rintro k a _ rfl _ ⟨o,s4,q,E4,rfl,h⟩ _ rfl K c;go_simp;exact Jo.n1 (Ii (hT.b a) hM h.top m.out h.rk l.out) c.out
  exact jo
  all_goals (rintro k a;(repeat rintro _ rfl);intro K c;have B:=(u.b a).cell;have C:=(v.b a).cell;go_simp;exact c.out _ _ rfl (br _ _))
 rintro F a _ rfl _ rfl _ ⟨o,s4,q,E4,rfl,h⟩ _ rfl _ ⟨p,s5,t,E5,rfl,A⟩ -;simp only[Jo.z];replace d:=d.b a;replace g:=aj g a;have i:=d.cell;have f:=d.frozen
 refine jn 5 fun K c=>?_
 go_simp;refine c.out _ _ ?_;clear c K i f;have j:=ae.t4 d p s5 t E5;refine jd ?_;go_wp2;exact bq (by simp[results,results54,go_sem,j.box.cell]) rfl ⟨_,_,_,_,rfl,A,(j.below g.out (by omega))⟩
def Fz (x:Int)(h:Nat):Prop:=bg x=true\/kn h (ep x)
theorem Fz.mono{x:Int}{h k:Nat}(f:Fz x h)(hk:h<=k):Fz x k:=f.imp id fun g=>g.mono hk
theorem Fz.zero (h:Nat):Fz 0 h:= .inr (by rw[rq];exact kn.zero h)
theorem xJ{a b n:Int}(h1: -19342822337206103650074625 < n)(h2:n < 19342822337206103650074625)(h3:a<=n)(h4:n<=b):mW (some (a,b)) n=true:=by
 simp[mW,dE h1 h2]
 omega
theorem oq{f:Sp->Sp->Sp}(hf:∀x y,dc x->dc y->dc (f x y)):∀{l:List Sp} {x:Sp},dc x->(∀y ∈ l,dc y)->dc (l.foldl f x)
 | [],_,h,_=>h
 | y::l,x,h,k=>oq hf (l:=l) (hf x y h (k y (List.mem_cons_self ..))) (fun z hz=>k z (List.mem_cons_of_mem _ hz))
theorem xM{l:List Sp}(h:∀y ∈ l,dc y):dc (eu l):=oq (fun _ _=>kA) trivial h
theorem kK:∀l:List Sp,l.foldl eC none=none
 | []=>rfl
 | _::l=>kK l
def In (x:Int):Prop:= -19342822337206103650074625<=x/\x<=19342822337206103650074625
theorem EP{a b:Int}(ha:In a)(hb:In b):dc (du a b):=qd ha.1 hb.2
theorem dc.in1{a b:Int}(h:dc (some (a,b))):In a/\In b:=by
 obtain⟨h1,h2,c,h4,d⟩:=h;exact⟨⟨by omega,by omega⟩,⟨by omega,by omega⟩⟩
def CE (x:Sp):Sp:=match x with
 | none=>none
 | some (a,b)=>du (-b) (-a)
def Gp (x y:Sp):Sp:=match x,y with
 | some (a,b),some (c,d)=>du (dj false a c) (dj true b d)
 | _,_=>none
def Ib (f:Bool->Int->Int->Int)(a b c d:Int):Sp:=du (min (min (f false a c) (f false a d)) (min (f false b c) (f false b d))) (max (max (f true a c) (f true a d)) (max (f true b c) (f true b d)))
def GN (x y:Sp):Sp:=match x,y with
 | some (a,b),some (c,d)=>Ib kM a b c d
 | _,_=>none
theorem mz{a b:Int}(h:dc (some (a,b))):CE (some (a,b))=some (-b,-a):=by
 obtain⟨h1,h2,c,h4,d⟩:=h;exact bj (by omega) (by omega) (by omega)
theorem CF{x:Sp}(h:dc x):dc (CE x):=by
 rcases x with _ | ⟨a,b⟩
 ·exact trivial
 ·obtain⟨⟨h1,h2⟩,c,h4⟩:=h.in1;exact EP ⟨by omega,by omega⟩ ⟨by omega,by omega⟩
theorem neg_neg{x:Sp}(h:dc x):CE (CE x)=x:=by
 rcases x with _ | ⟨a,b⟩
 ·rfl
 ·have k:=CF h;rw[mz h]at k|-;rw[mz k,Int.neg_neg,Int.neg_neg]
theorem add_comm (x y:Sp):Gp x y=Gp y x:=by
 rcases x with _ | ⟨a,b⟩ <;> rcases y with _ | ⟨c,d⟩ <;> first | rfl | skip
 show du _ _=du _ _
 rw[fy (x:=a),fy (x:=b)]
theorem mul_comm (x y:Sp):GN x y=GN y x:=by
 rcases x with _ | ⟨a,b⟩ <;> rcases y with _ | ⟨c,d⟩ <;> first | rfl | skip
 show Ib kM a b c d=Ib kM c d a b
 unfold Ib
 simp only[mx (x:=c),mx (x:=d)]
 congr 1 <;> omega
def lG (A B r:Int):Prop:= -19342822337206103650074625<=r/\r<=19342822337206103650074624/\(-19342822337206103650074625 < r->vr r*B<=A)/\(r < 19342822337206103650074624->A < vr (r+1)*B)
def H9 (A B r:Int):Prop:=lG (-A) B (-r)
def eZ (up:Bool)(A B r:Int):Prop:=if up=true then H9 A B r else lG A B r
theorem gz{A B r:Int}:eZ false A B r=lG A B r:=if_neg (by decide)
theorem gA{A B r:Int}:eZ true A B r=H9 A B r:=if_pos rfl
theorem lG.mono{A B C D r t:Int}(hB:0 < B)(hD:0 < D)(h:lG A B r)(k:lG C D t)(hAC:A*D<=C*B):r<=t:=by
 obtain⟨h1,h2,e,h4⟩:=h;obtain⟨g,i,j,f⟩:=k
 rcases Int.lt_or_le t r with q | q
 ·exfalso
  have a:=e (by omega);have b:=f (by omega)
  have c:vr (t+1)<=vr r:=ib (by omega)
  have a2:vr r*B*D<=A*D:=Int.mul_le_mul_of_nonneg_right a (Int.le_of_lt hD)
  have d:C*B < vr (t+1)*D*B:=Int.mul_lt_mul_of_pos_right b hB
  have c2:vr (t+1)*(D*B)<=vr r*(D*B):=Int.mul_le_mul_of_nonneg_right c (Int.le_of_lt (Int.mul_pos hD hB))
  rw[Int.mul_assoc,Int.mul_comm B D]at a2;rw[Int.mul_assoc]at d
  omega
 ·exact q
theorem lG.uniq{A B r t:Int}(hB:0 < B)(h:lG A B r)(k:lG A B t):r=t:=by
 have a:=h.mono hB hB k (Int.le_refl _);have b:=k.mono hB hB h (Int.le_refl _)
 omega
theorem eZ.uniq{up:Bool}{A B r t:Int}(hB:0 < B)(h:eZ up A B r)(k:eZ up A B t):r=t:=by
 cases up
 ·rw[gz]at h k;exact h.uniq hB k
 ·rw[gA]at h k
  have:=lG.uniq hB h k
  omega
theorem eZ.mono{up:Bool}{A B C D r t:Int}(hB:0 < B)(hD:0 < D)(h:eZ up A B r)(k:eZ up C D t)(hAC:A*D<=C*B):r<=t:=by
 cases up
 ·rw[gz]at h k;exact h.mono hB hD k hAC
 ·rw[gA]at h k
  have:=lG.mono hD hB k h (by rw[Int.neg_mul,Int.neg_mul];omega)
  omega
theorem eZ.neg{up:Bool}{A B r:Int}(h:eZ up A B r):eZ (!up) (-A) B (-r):=by
 cases up
 ·rw[gz]at h
  rw[show (!false)=true from rfl,gA]
  unfold H9
  rw[Int.neg_neg,Int.neg_neg];exact h
 ·rw[gA]at h
  rw[show (!true)=false from rfl,gz]
  exact h
theorem nL{s up:Bool}{A B r:Int}(h:eZ (up !=s) A B r):eZ up (an s A) B (an s r):=by
 cases s
 ·rw[bl,bl]
  cases up <;> exact h
 ·rw[bn,bn]
  have h2:eZ (!up) A B r:=by cases up <;> exact h
  have:=h2.neg
  rwa [Bool.not_not]at this
theorem eZ.bd{up:Bool}{A B r:Int}(h:eZ up A B r): -19342822337206103650074625<=r/\r<=19342822337206103650074625:=by
 cases up
 ·rw[gz]at h
  have:=h.1;have:=h.2.1
  omega
 ·rw[gA]at h
  have:=h.1;have:=h.2.1
  omega
theorem oB (p:Nat->Prop)(h0:p 0):∀n,¬p n->∃k,k < n/\p k/\¬p (k+1)
 | 0,h=>absurd h0 h
 | n+1,h=>by
  by_cases q:p n
  ·exact⟨n,Nat.lt_succ_self _,q,h⟩
  ·obtain⟨k,a,b,c⟩:=oB p h0 n q;exact⟨k,Nat.lt_succ_of_lt a,b,c⟩
theorem xq (A:Int){B:Int}(hB:0 < B):∃r,lG A B r:=by
 obtain⟨n,e⟩:∃n:Nat,(n:Int)=38685644674412207300149250:=⟨38685644674412207300149250,rfl⟩
 obtain⟨k,d,a,b⟩:=oB (fun k=>k=0\/((k:Int)<=38685644674412207300149249/\vr ((k:Int)-19342822337206103650074625)*B<=A)) (.inl rfl) n (by omega)
 refine⟨(k:Int)-19342822337206103650074625,by omega,by omega,fun h=>?_,fun h=>?_⟩
 ·rcases a with a | a
  ·omega
  ·exact a.2
 ·have c:¬vr (((k+1:Nat):Int)-19342822337206103650074625)*B<=A:=fun c=>b (.inr ⟨by omega,c⟩)
  rw[show ((k+1:Nat):Int)-19342822337206103650074625=(k:Int)-19342822337206103650074625+1 by omega]at c
  omega
theorem qK (up:Bool)(A:Int){B:Int}(hB:0 < B):∃r,eZ up A B r:=by
 cases up
 ·obtain⟨r,h⟩:=xq A hB;exact⟨r,by rw[gz];exact h⟩
 ·obtain⟨r,h⟩:=xq (-A) hB;refine⟨-r,?_⟩;rw[gA]
  unfold H9
  rw[Int.neg_neg];exact h
theorem lG.of_dn{X A B a b r:Int}(hB:0 < B)(h:Dn X r)(h1:a < X)(h2:X < b)(h3:a*B < A)(h4:A < b*B)(hs:∀s,¬(a < vr s/\vr s < b)):lG A B r:=by
 obtain⟨c,d,f,g⟩:=h
 refine⟨c,d,fun k=>?_,fun k=>?_⟩
 ·have e:=f k;have n:=hs r
  have l:vr r<=a:=by omega
  have:=Int.mul_le_mul_of_nonneg_right l (Int.le_of_lt hB)
  omega
 ·have e:=g k;have n:=hs (r+1)
  have l:b<=vr (r+1):=by omega
  have:=Int.mul_le_mul_of_nonneg_right l (Int.le_of_lt hB)
  omega
theorem lG.of_eq{X A B r:Int}(hB:0 < B)(h:Dn X r)(e:X*B=A):lG A B r:=by
 obtain⟨a,b,c,d⟩:=h;subst e
 exact⟨a,b,fun k=>Int.mul_le_mul_of_nonneg_right (c k) (Int.le_of_lt hB),fun k=>Int.mul_lt_mul_of_pos_right (d k) hB⟩
theorem FA{P:Int × Int}{A B a b:Int}(up:Bool)(hP:Nf P)(hB:0 < B)(h1:a < vl P)(h2:vl P < b)(h3:a*B < A)(h4:A < b*B)(hs:∀s,¬(a < vr s/\vr s < b)):eZ up A B (dM up P.1 P.2):=by
 obtain⟨c,p2⟩:=bY hP
 cases up
 ·rw[gz];exact lG.of_dn hB c h1 h2 h3 h4 hs
 ·rw[gA]
  refine lG.of_dn (a:= -b) (b:= -a) hB p2 (by omega) (by omega) (by rw[Int.neg_mul];omega) (by rw[Int.neg_mul];omega) (fun s=>?_)
  have:=hs (-s)
  rw[bF]at this
  omega
theorem z7{P:Int × Int}{A B:Int}(up:Bool)(hP:Nf P)(hB:0 < B)(e:vl P*B=A):eZ up A B (dM up P.1 P.2):=by
 obtain⟨a,p2⟩:=bY hP
 cases up
 ·rw[gz];exact lG.of_eq hB a e
 ·rw[gA];exact lG.of_eq hB p2 (by rw[Int.neg_mul];omega)
theorem tW{i:Int}{u:Nat}(hi:9223372036854775808<=i)(s:Int):¬(2*i*2^u < vr s/\vr s < (2*i+2)*2^u):=by
 rintro ⟨h1,h2⟩;have b:=aN u
 have a:0 < vr s:=Int.lt_of_le_of_lt (Int.mul_nonneg (by omega) (Int.le_of_lt b)) h1
 have hs:0 < s:=by
  rcases Int.lt_or_le 0 s with q | q
  ·exact q
  ·exfalso
   have:=ib q
   rw[show vr 0=0 from rfl]at this
   omega
 have e0:vr s=((s-1)%9223372036854775808+9223372036854775808)*2^((s-1) /9223372036854775808-1048576+KK).toNat:=by
  unfold vr vp
  rw[if_neg (by omega),if_neg (by omega)]
 obtain⟨M,c⟩:∃M,(s-1)%9223372036854775808+9223372036854775808=M:=⟨_,rfl⟩;obtain⟨t,ht⟩:∃t,((s-1) /9223372036854775808-1048576+(KK:Int)).toNat=t:=⟨_,rfl⟩;rw[c,ht]at e0
 have f:M < 18446744073709551616:=by omega
 rw[e0]at h1 h2;clear e0 c ht hs a
 rcases Nat.lt_or_ge u t with q | q
 ·obtain⟨d,rfl⟩:∃d,t=u+1+d:=⟨t-(u+1),by omega⟩
  have e1:M*2^(u+1+d)=M*2^d*2*2^u:=by
   rw[Int.pow_add,Int.pow_succ];generalize (2:Int)^u=U;generalize (2:Int)^d=D;rw[Int.mul_assoc M D 2,Int.mul_assoc M,Int.mul_comm U 2,Int.mul_comm (2*U) D,Int.mul_assoc D 2 U]
  rw[e1]at h1 h2;have a1:=Int.lt_of_mul_lt_mul_right h1 (Int.le_of_lt b);have a2:=Int.lt_of_mul_lt_mul_right h2 (Int.le_of_lt b)
  omega
 ·obtain⟨d,rfl⟩:∃d,u=t+d:=⟨u-t,by omega⟩
  have ht:=aN t;have hd:=aN d;rw[Int.pow_add]at h1
  have e:(2:Int)^t*1<=2^t*2^d:=Int.mul_le_mul_of_nonneg_left hd (Int.le_of_lt ht)
  rw[Int.mul_one]at e
  have l2:2*i*(2:Int)^t<=2*i*(2^t*2^d):=Int.mul_le_mul_of_nonneg_left e (by omega)
  have a1:=Int.lt_of_mul_lt_mul_right (Int.lt_of_le_of_lt l2 h1) (Int.le_of_lt ht)
  omega
theorem ER{z e:Int}(h:z.natAbs < 2^500000)(h1: -3000000<=e)(h2:e<=3000000):vl (mk z e)=z*2^(e+KK).toNat:=by
 obtain⟨η,b⟩:∃η:Nat,η=4000000:=⟨_,rfl⟩;refine(kL (h:=η) (by omega) (by omega) ?_).2;obtain⟨κ,a⟩:∃κ:Nat,κ=500000:=⟨_,rfl⟩;rw[<-a]at h
 have:=Nat.mul_lt_mul_of_pos_right h (Nat.pow_pos (n:=(e+(η:Int)).toNat) (show 0 < 2 by decide))
 rw[<-Nat.pow_add]at this;exact Nat.lt_of_lt_of_le this (Nat.pow_le_pow_right (by decide) (by omega))
def fo (q r:Nat):Nat:=2*q+if r=0 then 0 else 1
theorem CT{α β n:Nat}(hβ:0 < β)(hn:70+ac β<=n)(ha:α≠0):9223372036854775808<=α*2^n/β:=by
 rw[Nat.le_div_iff_mul_le hβ];have a:=dw β
 have l2:2^69*β<=2^69*2^ac β:=Nat.mul_le_mul_left _ (Nat.le_of_lt a)
 rw[<-Nat.pow_add]at l2
 have b:2^(69+ac β)<=2^n:=Nat.pow_le_pow_right (by decide) (by omega)
 have c:1*2^n<=α*2^n:=Nat.mul_le_mul_right _ (by omega)
 omega
theorem kY{α β:Nat}{e:Int}{n κ:Nat}(up:Bool)(hβ:0 < β)(hq0:α≠0->9223372036854775808<=α*2^n/β)(hκ:κ=500000)(hs:fo (α*2^n/β) (α*2^n%β) < 2^κ)(h1: -2900000<=e-n)(h2:e<=2900000):
  eZ up ((α:Int)*2^(e+KK).toNat) (β:Int) (dM up (mk ((fo (α*2^n/β) (α*2^n%β):Nat):Int) (e-n-1)).1 (mk ((fo (α*2^n/β) (α*2^n%β):Nat):Int) (e-n-1)).2):=by
 have o:=eB
 have g:(0:Int) < (β:Int):=by omega
 have f:=fh ((fo (α*2^n/β) (α*2^n%β):Nat):Int) (e-n-1);have c:=ER (z:=((fo (α*2^n/β) (α*2^n%β):Nat):Int)) (e:=e-n-1) (by rw[Int.natAbs_natCast,<-hκ];exact hs) (by omega) (by omega);obtain⟨u,m⟩:∃u:Nat,(e-n-1+(KK:Int)).toNat=u:=⟨_,rfl⟩
 have e1:(e+(KK:Int)).toNat=n+(1+u):=by omega
 rw[m]at c
 rw[e1,Int.pow_add,Int.pow_add,show (2:Int)^1=2 from rfl,<-Int.mul_assoc]
 have hd:=Nat.div_add_mod (α*2^n) β;have hm:=Nat.mod_lt (α*2^n) hβ;have i:=aN u
 have d:((α*2^n:Nat):Int)=(α:Int)*2^n:=by push_cast;rfl
 by_cases l:α=0
 ·subst l
  have e2:fo (0*2^n/β) (0*2^n%β)=0:=by
   rw[Nat.zero_mul,Nat.zero_div,Nat.zero_mod]
   rfl
  rw[e2]at c f|-;refine z7 up f g ?_;rw[c]
  show (((0:Nat):Int))*2^u*(β:Int)=((0:Nat):Int)*2^n*(2*2^u)
  rw[show (((0:Nat):Int))=0 from rfl,Int.zero_mul,Int.zero_mul,Int.zero_mul,Int.zero_mul]
 ·have hq:=hq0 l;clear hq0;clear hs;rw[<-d];clear d;generalize α*2^n=X at c f hd hm hq|-;generalize X/β=q at c f hd hq|-;generalize X%β=r at c f hd hm|-
  have j:(β:Int)*(q:Int)+(r:Int)=(X:Int):=by exact_mod_cast hd
  by_cases k:r=0
  ·have e3:fo q r=2*q:=by
    unfold fo
    rw[if_pos k]
    omega
   rw[e3]at c f|-;refine z7 up f g ?_;rw[c,<-j,k]
   show (((2*q:Nat)):Int)*2^u*(β:Int)=((β:Int)*(q:Int)+((0:Nat):Int))*(2*2^u)
   push_cast
   generalize (2:Int)^u=U;rw[Int.add_zero,Int.mul_assoc,Int.mul_comm U,Int.mul_assoc 2,<-Int.mul_assoc (q:Int),Int.mul_comm (q:Int),Int.mul_left_comm]
  ·have e3:fo q r=2*q+1:=by
    unfold fo
    rw[if_neg k]
   rw[e3]at c f|-
   have c1:(((2*q+1:Nat)):Int)=2*(q:Int)+1:=by omega
   have c2:(2*(q:Int)*2^u)*(β:Int)=(β:Int)*(q:Int)*(2*2^u):=by
    generalize (2:Int)^u=U;rw[Int.mul_right_comm,Int.mul_comm 2 (q:Int),Int.mul_assoc (q:Int) 2,Int.mul_comm 2 (β:Int),<-Int.mul_assoc (q:Int),Int.mul_comm (q:Int),Int.mul_assoc]
   have c3:((2*(q:Int)+2)*2^u)*(β:Int)=((β:Int)*(q:Int)+(β:Int))*(2*2^u):=by
    rw[show 2*(q:Int)+2=2*((q:Int)+1) by omega,show (β:Int)*(q:Int)+(β:Int)=(β:Int)*((q:Int)+1) by rw[Int.mul_add,Int.mul_one]]
    generalize (2:Int)^u=U;generalize (q:Int)+1=p;rw[Int.mul_right_comm,Int.mul_comm 2 p,Int.mul_assoc p 2,Int.mul_comm 2 (β:Int),<-Int.mul_assoc p,Int.mul_comm p,Int.mul_assoc]
   have h:(0:Int) < 2*2^u:=by omega
   refine FA up f g (a:=2*(q:Int)*2^u) (b:=(2*(q:Int)+2)*2^u) ?_ ?_ ?_ ?_ (tW (by omega))
   ·rw[c,c1];exact Int.mul_lt_mul_of_pos_right (by omega) i
   ·rw[c,c1];exact Int.mul_lt_mul_of_pos_right (by omega) i
   ·rw[c2];exact Int.mul_lt_mul_of_pos_right (by omega) h
   ·rw[c3];exact Int.mul_lt_mul_of_pos_right (by omega) h
theorem jE{up:Bool}{A B r:Int}(hB:0 < B)(h1: -19342822337206103650074625 < r)(h2:r < 19342822337206103650074625)(e:vr r*B=A):eZ up A B r:=by
 cases up
 ·rw[gz];exact lG.of_eq hB (gQ h1 h2) e
 ·rw[gA];refine lG.of_eq hB (gQ (r:= -r) (by omega) (by omega)) ?_;rw[bF,Int.neg_mul,e]
theorem Db{A B r t:Int}(hB:0 < B)(h:eZ false A B r)(k:eZ true A B t):(t=r/\vr r*B=A/\ -19342822337206103650074625 < r/\r < 19342822337206103650074625)\/(t=r+1/\(-19342822337206103650074625 < r->vr r*B < A)/\(t < 19342822337206103650074625->A < vr t*B)):=by
 rw[gz]at h;rw[gA]at k;obtain⟨h1,h2,i,h4⟩:=h;obtain⟨o,p,m,n⟩:=k
 have f:t < 19342822337206103650074625->A<=vr t*B:=fun c=>by
  have:=m (by omega)
  rw[bF,Int.neg_mul]at this
  omega
 have g: -19342822337206103650074624 < t->vr (t-1)*B < A:=fun c=>by
  have:=n (by omega)
  rw[show -t+1= -(t-1) by omega,bF,Int.neg_mul]at this
  omega
 have d:∀a b:Int,a<=b->vr a*B<=vr b*B:=fun a b c=>Int.mul_le_mul_of_nonneg_right (ib c) (Int.le_of_lt hB)
 have j:r<=t:=by
  rcases Int.lt_or_le t r with q | q
  ·exfalso
   have a:=i (by omega);have b:=f (by omega)
   have c:vr t*B < vr r*B:=Int.mul_lt_mul_of_pos_right (fL q) hB
   omega
  ·exact q
 have l:t<=r+1:=by
  rcases Int.lt_or_le (r+1) t with q | q
  ·exfalso
   have a:=h4 (by omega);have b:=g (by omega);have c:=d (r+1) (t-1) (by omega)
   omega
  ·exact q
 by_cases e:t=r
 ·subst e
  left
  have a:=i (by omega);have b:=f (by omega);exact⟨rfl,by omega,by omega,by omega⟩
 ·right
  have e2:t=r+1:=by omega
  refine⟨e2,fun c=>?_,fun c=>?_⟩
  ·have:=g (by omega)
   rw[e2,show r+1-1=r by omega]at this
   exact this
  ·have:=h4 (by omega)
   rw[<-e2]at this;exact this
def Qt (up:Bool)(x y r:Int):Prop:=
 if y=0 then r=an (!up) TP else if x=0\/bg y=true then r=0 else if bg x=true then r=an (decide (x < 0) !=decide (y < 0)) TP else eZ up (an (decide (y < 0)) (vr x)*2^KK) (an (decide (y < 0)) (vr y)) r
theorem nD{up:Bool}{x y r:Int}(hy:y≠0)(h:x=0\/bg y=true):Qt up x y r↔r=0:=by
 unfold Qt
 rw[if_neg hy,if_pos h]
theorem kW{up:Bool}{x r:Int}:Qt up x 0 r↔r=an (!up) TP:=by
 unfold Qt
 rw[if_pos rfl]
theorem qB{up:Bool}{x y r:Int}(hy:y≠0)(h:¬(x=0\/bg y=true))(hx:bg x=true):Qt up x y r↔r=an (decide (x < 0) !=decide (y < 0)) TP:=by
 unfold Qt
 rw[if_neg hy,if_neg h,if_pos hx]
theorem qA{up:Bool}{x y r:Int}(hy:y≠0)(h:¬(x=0\/bg y=true))(hx:bg x=false):Qt up x y r↔eZ up (an (decide (y < 0)) (vr x)*2^KK) (an (decide (y < 0)) (vr y)) r:=by
 unfold Qt
 rw[if_neg hy,if_neg h,if_neg (by rw[hx];exact ff)]
theorem vx{y:Int}(hy:y≠0):0 < an (decide (y < 0)) (vr y):=by
 by_cases c:y < 0
 ·rw[dt c,bn]
  have:=nR (x:= -y) (by omega)
  rw[bF]at this;exact this
 ·rw[df c,bl];exact nR (by omega)
theorem Qt.uniq{up:Bool}{x y r t:Int}(h:Qt up x y r)(k:Qt up x y t):r=t:=by
 by_cases hy:y=0
 ·subst hy;rw[kW.1 h,kW.1 k]
 ·by_cases h0:x=0\/bg y=true
  ·rw[(nD hy h0).1 h,(nD hy h0).1 k]
  ·cases hx:bg x
   ·exact((qA hy h0 hx).1 h).uniq (vx hy) ((qA hy h0 hx).1 k)
   ·rw[(qB hy h0 hx).1 h,(qB hy h0 hx).1 k]
theorem Qt.bd{up:Bool}{x y r:Int}(h:Qt up x y r): -19342822337206103650074625<=r/\r<=19342822337206103650074625:=by
 have b:=dC
 have sg:∀s,-19342822337206103650074625<=an s TP/\an s TP<=19342822337206103650074625:=fun s=>by
  rcases I2 s with e | e <;> rw[e] <;> omega
 by_cases hy:y=0
 ·subst hy;rw[kW.1 h];exact sg _
 ·by_cases a:x=0\/bg y=true
  ·rw[(nD hy a).1 h]
   decide
  ·cases hx:bg x
   ·exact((qA hy a hx).1 h).bd
   ·rw[(qB hy a hx).1 h];exact sg _
theorem C6 (s:Bool)(x:Int):an s (an s x)=x:=by
 cases s
 ·rw[bl,bl]
 ·rw[bn,bn,Int.neg_neg]
def Rt (up:Bool)(X r:Int):Prop:=
 if up=true then 0 < r/\r<=19342822337206103650074625/\(r < 19342822337206103650074625->X<=vr r*vr r)/\vr (r-1)*vr (r-1) < X
 else 0<=r/\r<=19342822337206103650074624/\vr r*vr r<=X/\(r < 19342822337206103650074624->X < vr (r+1)*vr (r+1))
theorem zQ{X r:Int}:Rt false X r↔(0<=r/\r<=19342822337206103650074624/\vr r*vr r<=X/\(r < 19342822337206103650074624->X < vr (r+1)*vr (r+1))):=by
 unfold Rt
 rw[if_neg ff]
theorem zR{X r:Int}:Rt true X r↔(0 < r/\r<=19342822337206103650074625/\(r < 19342822337206103650074625->X<=vr r*vr r)/\vr (r-1)*vr (r-1) < X):=by
 unfold Rt
 rw[if_pos rfl]
theorem Hf{a b:Int}(h0:0<=a)(h:a<=b):a*a<=b*b:=Int.mul_le_mul h h h0 (by omega)
theorem sB{r t:Int}(h0:0<=r)(h:r<=t):vr r*vr r<=vr t*vr t:=Hf (Hx h0) (ib h)
theorem Rt.uniq{up:Bool}{X r t:Int}(h:Rt up X r)(k:Rt up X t):r=t:=by
 have d:∀{r t},Rt up X r->Rt up X t->¬r < t:=by
  intro r t h k c
  cases up
  ·obtain⟨h1,h2,e,h4⟩:=zQ.1 h;obtain⟨f,g,i,j⟩:=zQ.1 k;have a:=h4 (by omega);have b:=sB (r:=r+1) (t:=t) (by omega) (by omega)
   omega
  ·obtain⟨h1,h2,e,h4⟩:=zR.1 h;obtain⟨f,g,i,j⟩:=zR.1 k;have a:=e (by omega);have b:=sB (r:=r) (t:=t-1) (by omega) (by omega)
   omega
 have a:=d h k;have b:=d k h
 omega
theorem nF{σ up:Bool}{z e:Int}:dM up (mk (an σ z) e).1 (mk (an σ z) e).2=an σ (dM (up !=σ) (mk z e).1 (mk z e).2):=by
 cases σ
 ·rw[bl,bl]
  cases up <;> rfl
 ·rw[bn,bn,yB];have h:=zL (fh z e) (!up);rw[Bool.not_not]at h;rw[h]
  cases up <;> rfl
theorem eZ.cross{up:Bool}{A B C D r:Int}(hB:0 < B)(hD:0 < D)(h:eZ up A B r)(e:A*D=C*B):eZ up C D r:=by
 obtain⟨t,ht⟩:=qK up C hD;have a:=h.mono hB hD ht (Int.le_of_eq e);have b:=ht.mono hD hB h (Int.le_of_eq e.symm)
 have c:r=t:=by omega
 rw[c];exact ht
theorem lc{σ up:Bool}{α β:Nat}{e:Int}{n κ:Nat}(hβ:0 < β)(hn:n=70+ac β)(hκ:κ=500000)(hs:fo (α*2^n/β) (α*2^n%β) < 2^κ)(h1: -2900000<=e-n)(h2:e<=2900000):
  eZ up (an σ ((α:Int)*2^(e+KK).toNat)) (β:Int) (dM up (mk (an σ ((fo (α*2^n/β) (α*2^n%β):Nat):Int)) (e-n-1)).1 (mk (an σ ((fo (α*2^n/β) (α*2^n%β):Nat):Int)) (e-n-1)).2):=by
 rw[nF]
 exact nL (kY (up !=σ) hβ (fun ha=>CT hβ (by omega) ha) hκ hs h1 h2)
def Rq (up:Bool)(z y r:Int):Prop:=if y=0 then r=an (!up) TP else eZ up (an (decide (y < 0)) z*2^KK) (an (decide (y < 0)) y) r
theorem i7{up:Bool}{z r:Int}:Rq up z 0 r↔r=an (!up) TP:=by
 unfold Rq
 rw[if_pos rfl]
theorem fm{up:Bool}{z y r:Int}(hy:y≠0):Rq up z y r↔eZ up (an (decide (y < 0)) z*2^KK) (an (decide (y < 0)) y) r:=by
 unfold Rq
 rw[if_neg hy]
theorem nJ{y:Int}(hy:y≠0):0 < an (decide (y < 0)) y:=by
 by_cases c:y < 0
 ·rw[dt c,bn];omega
 ·rw[df c,bl];omega
theorem zP (up:Bool)(z y:Int):∃r,Rq up z y r:=by
 by_cases hy:y=0
 ·subst hy;exact⟨_,i7.2 rfl⟩
 ·obtain⟨r,a⟩:=qK up (an (decide (y < 0)) z*2^KK) (nJ hy);exact⟨r,(fm hy).2 a⟩
theorem Rq.uniq{up:Bool}{z y r t:Int}(h:Rq up z y r)(k:Rq up z y t):r=t:=by
 by_cases hy:y=0
 ·subst hy;rw[i7.1 h,i7.1 k]
 ·exact((fm hy).1 h).uniq (nJ hy) ((fm hy).1 k)
theorem Rq.mono{up:Bool}{z y z' y' r t:Int}(hy:0 < y)(hy':0 < y')(h:Rq up z y r)(k:Rq up z' y' t)(hle:z*y'<=z'*y):r<=t:=by
 have a:=(fm (by omega)).1 h;have b:=(fm (by omega)).1 k;rw[df (by omega),bl,bl]at a b;refine a.mono hy hy' b ?_
 have:=Int.mul_le_mul_of_nonneg_right hle (Int.le_of_lt (aN KK))
 rw[Int.mul_right_comm z,Int.mul_right_comm z'];exact this
theorem DU{up s t:Bool}{α β:Nat}{r:Int}(hβ:0 < β)(h:eZ up (an (s !=t) ((α:Int)*2^(0+(KK:Int)).toNat)) (β:Int) r):Rq up (an s (α:Int)) (an t (β:Int)) r:=by
 have hy:an t (β:Int)≠0:=by
  cases t
  ·rw[bl];omega
  ·rw[bn];omega
 refine(fm hy).2 ?_
 have ht:decide (an t (β:Int) < 0)=t:=by
  cases t
  ·rw[bl];exact df (by omega)
  ·rw[bn];exact dt (by omega)
 rw[ht,C6]
 have e:an t (an s (α:Int))*2^KK=an (s !=t) ((α:Int)*2^(0+(KK:Int)).toNat):=by
  rw[show (0+(KK:Int)).toNat=KK by omega,<-i9]
  congr 1
  cases s <;> cases t
  ·rfl
  ·rfl
  ·rfl
  ·rw[show (true !=true)=false from rfl,bl,bn,bn,Int.neg_neg]
 rw[e];exact h
def QF (q:Bool->Int->Int->Int):Prop:=∀up x y,Qt up x y (q up x y)
theorem QF.in{q:Bool->Int->Int->Int}(hq:QF q)(up:Bool)(x y:Int):In (q up x y):=(hq up x y).bd
section
variable {q:Bool->Int->Int->Int}
end
theorem Cr (W:World):Rd (W.alloc (.cells #[.int .u32 1] 103)) (some ⟨W.heap.size,0,none⟩) 1 1 1:=
 ⟨_,[1],(bX.new W [1]).all (aR.cons (by decide) aR.nil) (by simp) (Nat.le_refl _),by decide⟩
theorem Ak (q:Nat):fo q 0=q*2^(1:Int).toNat:=by
 unfold fo
 rw[if_pos rfl]
 show 2*q+0=q*2
 omega
theorem Dh{q r:Nat}(h:r≠0):fo q r=q*2^(1:Int).toNat+1:=by
 unfold fo
 rw[if_neg h]
 show 2*q+1=q*2+1
 omega
theorem qJ (s:Bool)(a:Nat):sg s a=an s (a:Int):=by
 cases s
 ·rw[i8,bl]
 ·rw[r3,bn]
theorem tq{w:World}{A:Option Addr}{n c a r:Nat}(h:Rd w A n c a)(hn:n<=100000)(hr:a*2^(1:Int).toNat=r):Calls prog 165 #[.slice A n c,.bool false] w (P1 w (n+5) r):=by
 have b:=ie hr;obtain⟨d,hd⟩:∃d,a*2^(1:Int).toNat=d:=⟨_,rfl⟩;have f:=ie hd;rw[hd]at b;clear hr hd
 go_enter func165,ntmps165
 go_wp2_with fail
 refine(gZ (z:=1) h (by omega) (by decide) (by decide) f.out).mono ?_;rintro j k ⟨A1,n1,c1,rfl,i,g,e⟩
 have hk1:n1<=n+2:=by
  have:(1:Int).toNat/32=0:=rfl
  omega
 clear h g
 obtain rfl:d=r:=b.out
 go_wp2
 go_ret
 exact⟨A1,n1,c1,rfl,i,by omega,e⟩
theorem tr{w:World}{A:Option Addr}{n c a r:Nat}(h:Rd w A n c a)(hn:n<=100000)(hr:a*2^(1:Int).toNat+1=r):Calls prog 165 #[.slice A n c,.bool true] w (P1 w (n+5) r):=by
 have b:=ie hr;obtain⟨d,hd⟩:∃d,a*2^(1:Int).toNat=d:=⟨_,rfl⟩;have g:=ie hd;rw[hd]at b;clear hr hd
 go_enter func165,ntmps165
 go_wp2_with fail
 refine(gZ (z:=1) h (by omega) (by decide) (by decide) g.out).mono ?_;rintro i l ⟨A1,n1,c1,rfl,k,j,e⟩
 have hk1:n1<=n+2:=by
  have:(1:Int).toNat/32=0:=rfl
  omega
 clear h j
 go_wp2_with fail
 refine(i6 (k.below (ab _ _)).rd (Cr l) (by omega) (by decide) b.out).mono ?_;rintro i o ⟨A2,n2,c2,rfl,p2,m,f⟩;go_wp2
 go_ret
 exact⟨A2,n2,c2,rfl,p2,by omega,bt e (bt (ab _ _) f)⟩
theorem ry{w:World}{A:Option Addr}{n c a d r:Nat}{cut:Bool}(h:Rd w A n c a)(hn:n<=100000)(hc:decide (d≠0)=cut)(hr:fo a d=r):Calls prog 165 #[.slice A n c,.bool cut] w (P1 w (n+5) r):=by
 by_cases b:d=0
 ·subst b
  obtain rfl:false=cut:=hc
  exact tq h hn (by rw[<-Ak];exact hr)
 ·obtain rfl:true=cut:=by rw[<-hc];exact(dt b).symm
  exact tr h hn (by rw[<-Dh b];exact hr)
theorem DG{w:World}{A1 A2:Option Addr}{n m c1 c2 a d q r:Nat}(h1:Rd w A1 n c1 a)(h2:Rd w A2 m c2 d)(hn:n<=268435456)(hm:m<=268435456)(hd:d≠0)(hq:a/d=q)(hr:a%d=r):
  Calls prog 163 #[.slice A1 n c1,.slice A2 m c2] w (P3 w n q r):=hq▸hr▸CW h1 h2 hn hm hd
def Jo.Fact.dv (q r K:Nat):Jo.Fact:=⟨fun v w=>∃A n c B m d,v= .tuple #[.slice A n c,.slice B m d,.bool true]/\Nm w A n c q/\Nm w B m d r/\n<=K,fun v w w' h b=>by
 obtain⟨A,n,c,B,m,d,e,p,k,l⟩:=h;exact⟨A,n,c,B,m,d,e,p.below b,k.below b,l⟩⟩
def Jo.Fact.nmA (a:Nat):Jo.Fact:=⟨fun v w=>∃A n c,v= .slice A n c/\Nm w A n c a,fun v w w' h b=>by
 obtain⟨A,n,c,e,p⟩:=h;exact⟨A,n,c,e,p.below b⟩⟩
theorem mI{α β κ n:Nat}{N M:Nat}(hβ:0 < β)(hn:n=70+ac β)(hα:α < 4294967296^N)(hβ2:β < 4294967296^M)(hN:N<=3500)(hM:M<=3500)(hκ:κ=500000):fo (α*2^n/β) (α*2^n%β) < 2^κ:=by
 have a:∀k:Nat,(4294967296:Nat)^k=2^(32*k):=fun k=>by rw[show (4294967296:Nat)=2^32 by decide,<-Nat.pow_mul]
 rw[a]at hα hβ2
 have d:ac β<=32*M:=ai hβ2
 have e:α*2^n/β<=α*2^n:=Nat.div_le_self _ _
 have b:α*2^n < 2^(32*N)*2^n:=Nat.mul_lt_mul_of_pos_right hα (Nat.pow_pos (by decide))
 rw[<-Nat.pow_add]at b
 have f:fo (α*2^n/β) (α*2^n%β)<=2*(α*2^n/β)+1:=by
  unfold fo
  split <;> omega
 have c:2^(32*N+n+1)<=2^κ:=Nat.pow_le_pow_right (by decide) (by omega)
 rw[Nat.pow_succ]at c
 omega
theorem xV{w:World}{A B:Option Addr}{n c m d α β:Nat}{s t up:Bool}{e r:Int}(ha:Rd w A n c α)(hb:Rd w B m d β)(hn:n<=3500)(hm:m<=3500)(e1: -2200000<=e)(e2:e<=2200000)(h0:β=0)(hr:an (!up) TP=r):Calls prog 108 #[.agg #[.bool s,.slice A n c],.agg #[.bool t,.slice B m d],.int .i64 e,.bool up] w (PN w r):=by
 subst h0;have o:=ie hr
 have p:Hid (ah (sg t 0) 0=0):=ie (aT (eF t))
 clear hr
 go_enter func108,ntmps108
 go_upto_region 1 with fail
 generalize g:((w.alloc _).alloc _).alloc _=w1 at *;obtain⟨z,v,a,f⟩:=Bo.en3 g;replace hb:=hb.below f.out;clear g;have i:=v.cell
 go_wp2_with fail
 refine(gv (hb.wr t) p.out).mono ?_;rintro x C ⟨rfl,B⟩;clear i;replace a:=a.b B;replace f:=aj f B;clear B;clear hb
 go_wp2_with fail
 refine(vL (s:=!up) o.out).mono ?_;rintro x D ⟨q,s1,u,l,rfl,y,B⟩;replace a:=a.b B;replace f:=aj f B;clear B;have j:=a.cell;have h:=a.frozen;go_wp2;clear j h;have k:=ae.t4 a q s1 u l;exact bq (by simp[results,results108,go_sem,k.box.cell]) rfl ⟨_,_,_,_,rfl,y,(k.below f.out (by omega))⟩
theorem xU{w:World}{A B:Option Addr}{n c m d α β:Nat}{s t up:Bool}{e r:Int}(ha:Rd w A n c α)(hb:Rd w B m d β)(hn:n<=3500)(hm:m<=3500)(e1: -2200000<=e)(e2:e<=2200000){Q R:Nat}(h0:0 < β)(hQ:α*2^(70+ac β) /β=Q)(hR:α*2^(70+ac β)%β=R)(hz:R≠0)(hr:eZ up (an (s !=t) ((α:Int)*2^(e+(KK:Int)).toNat)) (β:Int) r):Calls prog 108 #[.agg #[.bool s,.slice A n c],.agg #[.bool t,.slice B m d],.int .i64 e,.bool up] w (PN w r):=by
 have gS:=hb.blen_le;obtain⟨D,y⟩:∃k:Nat,70+ac β=k:=⟨_,rfl⟩;obtain⟨κ,hκ⟩:∃κ:Nat,κ=500000:=⟨_,rfl⟩;have o:=mI h0 y.symm ha.bound hb.bound hn hm hκ;have u:=lc (σ:=(s !=t)) (up:=up) (e:=e) h0 y.symm hκ o (by omega) (by omega);have q:=u.uniq (by omega) hr;rw[y]at hQ hR;rw[hQ,hR]at q;obtain⟨S,hS⟩:∃S,fo Q R=S:=⟨_,rfl⟩
 rw[hS,<-qJ]at q;obtain⟨X,hX⟩:∃X,α*2^D=X:=⟨_,rfl⟩;rw[hX]at hQ hR;obtain⟨b,V⟩:∃b:Int,(D:Int)=b:=⟨_,rfl⟩;rw[V]at q;obtain⟨L,hL⟩:∃L:Int,((ac β:Nat):Int)=L:=⟨_,rfl⟩
 have N:70+L=b:=by omega
 have hW:70<=b/\b<=200000:=by omega
 obtain⟨P,O⟩:∃P,mk (sg (s !=t) S) (e-b-1)=P:=⟨_,rfl⟩;rw[O]at q
 have T:mk P.1 P.2=P:=by rw[<-O];exact fh _ _
 have bD:=ie (show dM up (mk P.1 P.2).1 (mk P.1 P.2).2=r by rw[T];exact q)
 have bA:Hid ((mk (sg (!(s==t)) S) (e-b-1)).1=P.1):=ie (by rw[<-O];rfl)
 have bB:Hid ((mk (sg (!(s==t)) S) (e-b-1)).2=P.2):=ie (by rw[<-O];rfl)
 have HL:=ie hL
 have bN:Hid (IntKind.i64.wrap (70+L)=b):=ie (by rw[N];exact IntWalk.i64_in _ (by omega))
 have gB:=iw (e-b);have gO:=iw (e-b-1)
 have W:b.toNat=D:=by omega
 have HX:Hid (α*2^b.toNat=X):=ie (by rw[W];exact hX)
 have HQ:=ie hQ;have bC:=ie hR;have bH:=ie hS
 have hA:β≠0:=by omega
 obtain⟨σ,hσ⟩:∃σ,ah (sg t β) 0=σ:=⟨_,rfl⟩
 have hZ:(σ==0)=false:=by
  have:σ≠0:=by
   rw[<-hσ]
   rcases dl t β with⟨a,_⟩ | ⟨_,_,a⟩ | ⟨_,_,a⟩
   ·omega
   ·rw[a];decide
   ·rw[a];decide
  simpa using this
 have HS:=ie hσ
 have gP:n+b.toNat/32+1<=20000:=by omega
 clear u hr q o gS hL N hX V O T hQ hR hS y hκ W hσ
 go_enter func108,ntmps108
 go_upto_region 1 with fail
 generalize U:((w.alloc _).alloc _).alloc _=w1 at *;obtain⟨p,j,h,g⟩:=Bo.en3 U;replace ha:=ha.below g.out;replace hb:=hb.below g.out;clear U;have v:=j.cell
 go_wp2_with fail
 refine(gv (hb.wr t) HS.out).mono ?_;rintro E w2 ⟨rfl,B⟩;clear v;refine jD ?_ p j h ha hb g B;clear p j h ha hb g B;intro p j h ha hb g;have v:=j.cell
 go_wp2_with fail
 refine(lO hb HL.out).mono ?_;rintro E w3 ⟨rfl,B⟩;clear v;refine jD ?_ p j h ha hb g B;clear p j h ha hb g B;intro p j h ha hb g;have hB:=bN.out
 go_upto_region 4 with fail
 clear hB;refine aV [0,1,2,3,4,5,6,7,8,9,10,11,12,13] [26,27,28,29,30,31,32,25,33,34,35,11,12,13] [[],[0],[],[1,2],[],[4],[3,5],[6],[7],[7],[7],[8],[9],[10]] 14 0 [Jo.qp w.heap.size 1,Jo.Fact.eq (.slice A n c),Jo.qi b,Jo.Fact.nm X 20000,Jo.qp (w.heap.size+1) 1,Jo.Fact.eq (.slice B m d),Jo.Fact.dv Q R 20000,Jo.Fact.dv Q R 20000,Jo.Fact.nm Q 20000,Jo.Fact.nmA R,Jo.qb true,Jo.Fact.nm Q 20000,Jo.Fact.nmA R,Jo.qb true] ?_ ?_
 ·refine jm ?_ ?_;rotate_left
  refine jm ?_ ?_
  ·rintro x i _ rfl K f;have hI:=(p.b i).a 1 (.slice A n c) rfl;go_simp;exact f.out _ _ rfl (br _ _)
  refine jm ?_ ?_;rotate_left
  refine jm ?_ ?_
  ·rintro x i _ rfl _ rfl K f;go_simp;refine(gZ (z:=b) (ha.b i) (by omega) (by omega) (by omega) HX.out).mono ?_;rintro E wk ⟨A3,n3,c3,rfl,p3,k3,B⟩;exact f.out _ _ ⟨A3,n3,c3,rfl,p3,Nat.le_trans k3 gP⟩ B
  refine jm ?_ ?_;rotate_left
  refine jm ?_ ?_
  ·rintro x i _ rfl K f;have hM:=(j.b i).a 1 (.slice B m d) rfl;go_simp;exact f.out _ _ rfl (br _ _)
  refine jm ?_ ?_
  ·rintro x i _ ⟨A3,n3,c3,rfl,p3,k3⟩ _ rfl K f;go_simp;refine(DG p3.rd (hb.b i) (by omega) (by omega) hA HQ.out bC.out).mono ?_;rintro E wk ⟨A6,n6,c6,C,G,l,rfl,J,M,F,l6,B⟩;exact f.out _ _ ⟨A6,n6,c6,C,G,l,rfl,J,M,Nat.le_trans F k3⟩ B
  refine jm ?_ ?_
  ·rintro x i _ ⟨A6,n6,c6,C,G,l,rfl,J,M,F⟩ K f;go_simp;exact f.out _ _ ⟨A6,n6,c6,C,G,l,rfl,J,M,F⟩ (br _ _)
  refine jm ?_ ?_
  ·rintro x i _ ⟨A6,n6,c6,C,G,l,rfl,J,M,F⟩ K f;go_simp;exact f.out _ _ ⟨A6,n6,c6,rfl,J,F⟩ (br _ _)
  refine jm ?_ ?_
  ·rintro x i _ ⟨A6,n6,c6,C,G,l,rfl,J,M,F⟩ K f;go_simp;exact f.out _ _ ⟨C,G,l,rfl,M⟩ (br _ _)
  refine jm ?_ ?_
  ·rintro x i _ ⟨A6,n6,c6,C,G,l,rfl,J,M,F⟩ K f;go_simp;exact f.out _ _ rfl (br _ _)
  refine jm ?_ ?_
  ·rintro x i _ ⟨A8,n8,c8,rfl,p8,k8⟩ K f;go_simp;exact f.out _ _ ⟨A8,n8,c8,rfl,p8,k8⟩ (br _ _)
  refine jm ?_ ?_
  ·rintro x i _ ⟨A9,n9,c9,rfl,p9⟩ K f;go_simp;exact f.out _ _ ⟨A9,n9,c9,rfl,p9⟩ (br _ _)
  refine jm ?_ ?_;rotate_left
  exact jo
  all_goals (rintro x i;(repeat rintro _ rfl);intro K f;go_simp;exact f.out _ _ rfl (br _ _))
 rintro w4 i _ _ _ rfl _ rfl _ ⟨_,_,_,rfl,_⟩ _ _ _ rfl _ ⟨_,_,_,_,_,_,rfl,_⟩ _ ⟨_,_,_,_,_,_,rfl,_⟩ _ ⟨_,_,_,rfl,_⟩ _ ⟨_,_,_,rfl,_⟩ _ rfl _ ⟨hN,lB,hU,rfl,Y,lA⟩ _ ⟨hT,H,hV,rfl,I⟩ _ rfl -;simp only[Jo.z];replace p:=p.b i;replace j:=j.b i;replace h:=h.b i;replace g:=aj g i;refine jd ?_
 clear ha hb
 have hH:0 < H:=by have:=I.pos;omega
 have hY:(0:Int) < H:=by omega
 have hG:H<=1099511627776:=I.rd.big
 clear I
 go_wp2_with fail
 refine(ry (d:=R) (cut:=true) Y.rd (by omega) (dt hz) bH.out).mono ?_;rintro E w5 ⟨A5,n5,c5,rfl,p5,k5,B⟩;refine dk ?_ p j h g B;clear p j h g B;intro p j h g;clear Y;have hE:=p.cell;have v:=j.cell
 go_wp2_with fail
 refine(bO (!(s==t)) p5.rd).mono ?_;rintro E w6 ⟨s7,A7,n7,c7,rfl,p7,k7,B⟩;clear hE v;replace h:=h.b B;replace g:=aj g B;clear B;clear p5;have hC:=gB.out;have hD:=gO.out
 go_wp2_with fail
 refine(bE p7.wr (by omega) bA.out bB.out).mono ?_;rintro E w7 ⟨s8,A8,n8,c8,rfl,p8,k8,B⟩;replace h:=h.b B;replace g:=aj g B;clear B;clear p7 hC hD
 go_wp2_with fail
 refine(nS p8.wr (by omega) rfl rfl bD.out).mono ?_;rintro E w8 ⟨K9,s9,M9,E9,rfl,q9,B⟩;replace h:=h.b B;replace g:=aj g B;clear B;have hF:=h.cell;have Z:=h.frozen;go_wp2;clear hF Z;have SX:=ae.t4 h K9 s9 M9 E9;exact bq (by simp[results,results108,go_sem,SX.box.cell]) rfl ⟨_,_,_,_,rfl,q9,(SX.below g.out (by omega))⟩
theorem xT{w:World}{A B:Option Addr}{n c m d α β:Nat}{s t up:Bool}{e r:Int}(ha:Rd w A n c α)(hb:Rd w B m d β)(hn:n<=3500)(hm:m<=3500)(e1: -2200000<=e)(e2:e<=2200000){Q R:Nat}(h0:0 < β)(hQ:α*2^(70+ac β) /β=Q)(hR:α*2^(70+ac β)%β=R)(hz:R=0)(hr:eZ up (an (s !=t) ((α:Int)*2^(e+(KK:Int)).toNat)) (β:Int) r):Calls prog 108 #[.agg #[.bool s,.slice A n c],.agg #[.bool t,.slice B m d],.int .i64 e,.bool up] w (PN w r):=by
 have gP:=hb.blen_le;obtain⟨D,y⟩:∃k:Nat,70+ac β=k:=⟨_,rfl⟩;obtain⟨κ,hκ⟩:∃κ:Nat,κ=500000:=⟨_,rfl⟩;have o:=mI h0 y.symm ha.bound hb.bound hn hm hκ;have u:=lc (σ:=(s !=t)) (up:=up) (e:=e) h0 y.symm hκ o (by omega) (by omega);have q:=u.uniq (by omega) hr;rw[y]at hQ hR;rw[hQ,hR]at q;obtain⟨S,hS⟩:∃S,fo Q R=S:=⟨_,rfl⟩
 rw[hS,<-qJ]at q;obtain⟨X,hX⟩:∃X,α*2^D=X:=⟨_,rfl⟩;rw[hX]at hQ hR;obtain⟨b,T⟩:∃b:Int,(D:Int)=b:=⟨_,rfl⟩;rw[T]at q;obtain⟨L,hL⟩:∃L:Int,((ac β:Nat):Int)=L:=⟨_,rfl⟩
 have J:70+L=b:=by omega
 have hU:70<=b/\b<=200000:=by omega
 obtain⟨P,M⟩:∃P,mk (sg (s !=t) S) (e-b-1)=P:=⟨_,rfl⟩;rw[M]at q
 have N:mk P.1 P.2=P:=by rw[<-M];exact fh _ _
 have bC:=ie (show dM up (mk P.1 P.2).1 (mk P.1 P.2).2=r by rw[N];exact q)
 have Z:Hid ((mk (sg (!(s==t)) S) (e-b-1)).1=P.1):=ie (by rw[<-M];rfl)
 have bA:Hid ((mk (sg (!(s==t)) S) (e-b-1)).2=P.2):=ie (by rw[<-M];rfl)
 have HL:=ie hL
 have bH:Hid (IntKind.i64.wrap (70+L)=b):=ie (by rw[J];exact IntWalk.i64_in _ (by omega))
 have bN:=iw (e-b);have gB:=iw (e-b-1)
 have U:b.toNat=D:=by omega
 have HX:Hid (α*2^b.toNat=X):=ie (by rw[U];exact hX)
 have HQ:=ie hQ;have bB:=ie hR;have bD:=ie hS
 have gS:β≠0:=by omega
 obtain⟨σ,hσ⟩:∃σ,ah (sg t β) 0=σ:=⟨_,rfl⟩
 have hV:(σ==0)=false:=by
  have:σ≠0:=by
   rw[<-hσ]
   rcases dl t β with⟨a,_⟩ | ⟨_,_,a⟩ | ⟨_,_,a⟩
   ·omega
   ·rw[a];decide
   ·rw[a];decide
  simpa using this
 have HS:=ie hσ
 have gO:n+b.toNat/32+1<=20000:=by omega
 clear u hr q o gP hL J hX T M N hQ hR hS y hκ U hσ
 go_enter func108,ntmps108
 go_upto_region 1 with fail
 generalize O:((w.alloc _).alloc _).alloc _=w1 at *;obtain⟨p,j,h,g⟩:=Bo.en3 O;replace ha:=ha.below g.out;replace hb:=hb.below g.out;clear O;have v:=j.cell
 go_wp2_with fail
 refine(gv (hb.wr t) HS.out).mono ?_;rintro E w2 ⟨rfl,B⟩;clear v;refine jD ?_ p j h ha hb g B;clear p j h ha hb g B;intro p j h ha hb g;have v:=j.cell
 go_wp2_with fail
 refine(lO hb HL.out).mono ?_;rintro E w3 ⟨rfl,B⟩;clear v;refine jD ?_ p j h ha hb g B;clear p j h ha hb g B;intro p j h ha hb g;have hA:=bH.out
 go_upto_region 4 with fail
 clear hA;refine aV [0,1,2,3,4,5,6,7,8,9,10,11,12,13] [26,27,28,29,30,31,32,25,33,34,35,11,12,13] [[],[0],[],[1,2],[],[4],[3,5],[6],[7],[7],[7],[8],[9],[10]] 14 0 [Jo.qp w.heap.size 1,Jo.Fact.eq (.slice A n c),Jo.qi b,Jo.Fact.nm X 20000,Jo.qp (w.heap.size+1) 1,Jo.Fact.eq (.slice B m d),Jo.Fact.dv Q R 20000,Jo.Fact.dv Q R 20000,Jo.Fact.nm Q 20000,Jo.Fact.nmA R,Jo.qb true,Jo.Fact.nm Q 20000,Jo.Fact.nmA R,Jo.qb true] ?_ ?_
 ·refine jm ?_ ?_;rotate_left
  refine jm ?_ ?_
  ·rintro x i _ rfl K f;have hG:=(p.b i).a 1 (.slice A n c) rfl;go_simp;exact f.out _ _ rfl (br _ _)
  refine jm ?_ ?_;rotate_left
  refine jm ?_ ?_
  ·rintro x i _ rfl _ rfl K f;go_simp;refine(gZ (z:=b) (ha.b i) (by omega) (by omega) (by omega) HX.out).mono ?_;rintro E wk ⟨A3,n3,c3,rfl,p3,k3,B⟩;exact f.out _ _ ⟨A3,n3,c3,rfl,p3,Nat.le_trans k3 gO⟩ B
  refine jm ?_ ?_;rotate_left
  refine jm ?_ ?_
  ·rintro x i _ rfl K f;have hH:=(j.b i).a 1 (.slice B m d) rfl;go_simp;exact f.out _ _ rfl (br _ _)
  refine jm ?_ ?_
  ·rintro x i _ ⟨A3,n3,c3,rfl,p3,k3⟩ _ rfl K f;go_simp;refine(DG p3.rd (hb.b i) (by omega) (by omega) gS HQ.out bB.out).mono ?_;rintro E wk ⟨A6,n6,c6,C,G,l,rfl,H,I,F,l6,B⟩;exact f.out _ _ ⟨A6,n6,c6,C,G,l,rfl,H,I,Nat.le_trans F k3⟩ B
  refine jm ?_ ?_
  ·rintro x i _ ⟨A6,n6,c6,C,G,l,rfl,H,I,F⟩ K f;go_simp;exact f.out _ _ ⟨A6,n6,c6,C,G,l,rfl,H,I,F⟩ (br _ _)
  refine jm ?_ ?_
  ·rintro x i _ ⟨A6,n6,c6,C,G,l,rfl,H,I,F⟩ K f;go_simp;exact f.out _ _ ⟨A6,n6,c6,rfl,H,F⟩ (br _ _)
  refine jm ?_ ?_
  ·rintro x i _ ⟨A6,n6,c6,C,G,l,rfl,H,I,F⟩ K f;go_simp;exact f.out _ _ ⟨C,G,l,rfl,I⟩ (br _ _)
  refine jm ?_ ?_
  ·rintro x i _ ⟨A6,n6,c6,C,G,l,rfl,H,I,F⟩ K f;go_simp;exact f.out _ _ rfl (br _ _)
  refine jm ?_ ?_
  ·rintro x i _ ⟨A8,n8,c8,rfl,p8,k8⟩ K f;go_simp;exact f.out _ _ ⟨A8,n8,c8,rfl,p8,k8⟩ (br _ _)
  refine jm ?_ ?_
  ·rintro x i _ ⟨A9,n9,c9,rfl,p9⟩ K f;go_simp;exact f.out _ _ ⟨A9,n9,c9,rfl,p9⟩ (br _ _)
  refine jm ?_ ?_;rotate_left
  exact jo
  all_goals (rintro x i;(repeat rintro _ rfl);intro K f;go_simp;exact f.out _ _ rfl (br _ _))
 rintro w4 i _ _ _ rfl _ rfl _ ⟨_,_,_,rfl,_⟩ _ _ _ rfl _ ⟨_,_,_,_,_,_,rfl,_⟩ _ ⟨_,_,_,_,_,_,rfl,_⟩ _ ⟨_,_,_,rfl,_⟩ _ ⟨_,_,_,rfl,_⟩ _ rfl _ ⟨hI,hY,hN,rfl,V,hW⟩ _ ⟨hM,hD,hT,rfl,W⟩ _ rfl -;simp only[Jo.z];replace p:=p.b i;replace j:=j.b i;replace h:=h.b i;replace g:=aj g i;refine jd ?_
 clear ha hb;subst hz
 obtain rfl:hD=0:=by have:=W.pos;omega
 clear W
 go_wp2_with fail
 refine(ry (d:=0) (cut:=false) V.rd (by omega) (by decide) bD.out).mono ?_;rintro E w5 ⟨A5,n5,c5,rfl,p5,k5,B⟩;refine dk ?_ p j h g B;clear p j h g B;intro p j h g;clear V;have hE:=p.cell;have v:=j.cell
 go_wp2_with fail
 refine(bO (!(s==t)) p5.rd).mono ?_;rintro E w6 ⟨s7,A7,n7,c7,rfl,p7,k7,B⟩;clear hE v;replace h:=h.b B;replace g:=aj g B;clear B;clear p5;have hB:=bN.out;have hC:=gB.out
 go_wp2_with fail
 refine(bE p7.wr (by omega) Z.out bA.out).mono ?_;rintro E w7 ⟨s8,A8,n8,c8,rfl,p8,k8,B⟩;replace h:=h.b B;replace g:=aj g B;clear B;clear p7 hB hC
 go_wp2_with fail
 refine(nS p8.wr (by omega) rfl rfl bC.out).mono ?_;rintro E w8 ⟨K9,s9,M9,E9,rfl,q9,B⟩;replace h:=h.b B;replace g:=aj g B;clear B;have hF:=h.cell;have Y:=h.frozen;go_wp2;clear hF Y;have SX:=ae.t4 h K9 s9 M9 E9;exact bq (by simp[results,results108,go_sem,SX.box.cell]) rfl ⟨_,_,_,_,rfl,q9,(SX.below g.out (by omega))⟩
theorem BZ{w:World}{A B:Option Addr}{n c m d α β:Nat}{s t up:Bool}{e r:Int}(ha:Rd w A n c α)(hb:Rd w B m d β)(hn:n<=3500)(hm:m<=3500)(e1: -2200000<=e)(e2:e<=2200000)(h0:0 < β)(hr:eZ up (an (s !=t) ((α:Int)*2^(e+(KK:Int)).toNat)) (β:Int) r):Calls prog 108 #[.agg #[.bool s,.slice A n c],.agg #[.bool t,.slice B m d],.int .i64 e,.bool up] w (PN w r):=by
 by_cases hz:α*2^(70+ac β)%β=0
 ·exact xT ha hb hn hm e1 e2 h0 rfl rfl hz hr
 ·exact xU ha hb hn hm e1 e2 h0 rfl rfl hz hr
theorem xS{w:World}{A B:Option Addr}{n c m d:Nat}{s t up:Bool}{z y r:Int}(h:Wr w s A n c z)(k:Wr w t B m d y)(hn:n<=3500)(hm:m<=3500)(hr:Rq up z y r):Calls prog 157 #[.agg #[.bool s,.slice A n c],.agg #[.bool t,.slice B m d],.bool up] w (PN w r):=by
 obtain⟨α,i,hz⟩:=h;obtain⟨β,hb,hy⟩:=k
 have j:(β=0/\an (!up) TP=r)\/(0 < β/\eZ up (an (s !=t) ((α:Int)*2^(0+(KK:Int)).toNat)) (β:Int) r):=by
  rw[qJ]at hz hy
  rcases Nat.eq_zero_or_pos β with e | e
  ·left
   subst e
   have:y=0:=by rw[<-hy];cases t <;> rfl
   subst this;exact⟨rfl,(i7.1 hr).symm⟩
  ·right
   obtain⟨M,C⟩:=qK up (an (s !=t) ((α:Int)*2^(0+(KK:Int)).toNat)) (show (0:Int) < (β:Int) by omega)
   have:=DU e C
   rw[hz,hy]at this;rw[hr.uniq this];exact⟨e,C⟩
 clear hz hy hr
 go_enter func157,ntmps157
 go_upto_region 1 with fail
 generalize x:((w.alloc _).alloc _).alloc _=w1 at *;obtain⟨u,v,a,g⟩:=Bo.en3 x;replace i:=i.below g.out;replace hb:=hb.below g.out;clear x
 rcases j with⟨G,hr⟩ | ⟨G,hr⟩
 ·have l:=u.cell;have o:=v.cell
  go_wp2_with fail
  refine(xV i hb hn hm (by decide) (by decide) G hr).mono ?_;rintro J L ⟨E,s1,F,D,rfl,H,B⟩;clear l o;refine jD ?_ u v a i hb g B;clear u v a i hb g B;intro u v a i hb g;have p:=a.cell;have f:=a.frozen;go_wp2;clear p f
  have q:=ae.t4 a E s1 F D;exact bq (by simp[results,results157,go_sem,q.box.cell]) rfl ⟨_,_,_,_,rfl,H,(q.below g.out (by omega))⟩
 ·have I:=ie hr;clear hr;have l:=u.cell;have o:=v.cell
  go_wp2_with fail
  refine(BZ i hb hn hm (by decide) (by decide) G I.out).mono ?_;rintro J L ⟨E,s1,F,D,rfl,H,B⟩;clear l o;replace a:=a.b B;replace g:=aj g B;clear B;have p:=a.cell;have f:=a.frozen;go_wp2;clear p f;have q:=ae.t4 a E s1 F D
  exact bq (by simp[results,results157,go_sem,q.box.cell]) rfl ⟨_,_,_,_,rfl,H,(q.below g.out (by omega))⟩
def Ro (up:Bool)(x r:Int)(t:Bool):Prop:=if x < 0 then r=0/\t=false else if x=0\/bg x=true then r=x/\t=true else Rt up (vr x*2^KK) r/\t=true
theorem zM{up:Bool}{x r:Int}{t:Bool}(h:x < 0):Ro up x r t↔(r=0/\t=false):=by
 unfold Ro
 rw[if_pos h]
theorem rV{up:Bool}{x r:Int}{t:Bool}(h:¬x < 0)(h2:x=0\/bg x=true):Ro up x r t↔(r=x/\t=true):=by
 unfold Ro
 rw[if_neg h,if_pos h2]
theorem qH{up:Bool}{x r:Int}{t:Bool}(h:¬x < 0)(h2:¬(x=0\/bg x=true)):Ro up x r t↔(Rt up (vr x*2^KK) r/\t=true):=by
 unfold Ro
 rw[if_neg h,if_neg h2]
theorem Ro.uniq{up:Bool}{x r r':Int}{t t':Bool}(h:Ro up x r t)(k:Ro up x r' t'):r=r'/\t=t':=by
 by_cases c:x < 0
 ·obtain⟨a,b⟩:=(zM c).1 h;obtain⟨d,e⟩:=(zM c).1 k;exact⟨a.trans d.symm,b.trans e.symm⟩
 ·by_cases c2:x=0\/bg x=true
  ·obtain⟨a,b⟩:=(rV c c2).1 h;obtain⟨d,e⟩:=(rV c c2).1 k;exact⟨a.trans d.symm,b.trans e.symm⟩
  ·obtain⟨a,b⟩:=(qH c c2).1 h;obtain⟨d,e⟩:=(qH c c2).1 k;exact⟨a.uniq d,b.trans e.symm⟩
theorem jg (e:Int):Int.tmod e 2=0↔e%2=0:=by
 rw[<-Int.dvd_iff_tmod_eq_zero,Int.dvd_iff_emod_eq_zero]
def RF (r:Bool->Int->Int):Prop:=∀up x,0<=x->Ro up x (r up x) true
theorem Rt.mono9{up:Bool}{X Y r t:Int}(h:Rt up X r)(k:Rt up Y t)(hXY:X<=Y):r<=t:=by
 rcases Int.lt_or_le t r with c | c
 ·exfalso
  cases up
  ·obtain⟨h1,h2,f,h4⟩:=zQ.1 h;obtain⟨g,i,d,e⟩:=zQ.1 k;have a:=e (by omega);have b:=sB (r:=t+1) (t:=r) (by omega) (by omega)
   omega
  ·obtain⟨h1,h2,f,h4⟩:=zR.1 h;obtain⟨g,i,d,e⟩:=zR.1 k;have a:=d (by omega);have b:=sB (r:=t) (t:=r-1) (by omega) (by omega)
   omega
 ·exact c
theorem xO:bg 19342822337206103650074625=true:=by decide
section
variable {r:Bool->Int->Int}
theorem RF.zero (hr:RF r)(up:Bool):r up 0=0:=((rV (by decide) (.inl rfl)).1 (hr up 0 (by decide))).1
theorem RF.top (hr:RF r)(up:Bool):r up 19342822337206103650074625=19342822337206103650074625:=((rV (by decide) (.inr xO)).1 (hr up _ (by decide))).1
theorem RF.fin (hr:RF r)(up:Bool){x:Int}(h0:0 < x)(h1:x < 19342822337206103650074625):Rt up (vr x*2^KK) (r up x):=
 ((qH (by omega) (by rw[dE (by omega) h1];simp;omega)).1 (hr up x (by omega))).1
theorem RF.in (hr:RF r)(up:Bool){x:Int}(h0:0<=x)(h1:x<=19342822337206103650074625):0<=r up x/\r up x<=19342822337206103650074625:=by
 by_cases c:x=0
 ·subst c;rw[hr.zero]
  decide
 ·by_cases d:x=19342822337206103650074625
  ·subst d;rw[hr.top]
   decide
  ·have:=hr.fin up (x:=x) (by omega) (by omega)
   cases up
   ·have:=zQ.1 this
    omega
   ·have:=zR.1 this
    omega
theorem RF.mono (hr:RF r)(up:Bool){x y:Int}(h0:0<=x)(h:x<=y)(h1:y<=19342822337206103650074625):r up x<=r up y:=by
 have X:=hr.in up h0 (by omega)
 have Y:=hr.in up (show 0<=y by omega) h1
 by_cases c:x=0
 ·subst c;rw[hr.zero]
  omega
 ·by_cases d:y=19342822337206103650074625
  ·subst d;rw[hr.top]
   omega
  ·exact(hr.fin up (by omega) (by omega)).mono9 (hr.fin up (by omega) (by omega)) (Int.mul_le_mul_of_nonneg_right (ib h) (Int.le_of_lt (aN KK)))
end
section
variable {r:Bool->Int->Int}
end
theorem In.fin{x:Int}(h1: -19342822337206103650074625 < x)(h2:x < 19342822337206103650074625):In x:=⟨by omega,by omega⟩
theorem zf{a b:Int}(h1: -9223372036854775808<=a)(h:a<=b)(h2:b<=9223372036854775807):al a<=al b:=by
 have c:=nt (a:=a) (b:=b) h1 (by omega) (by omega) h2
 rcases ap (al a) (al b)with ⟨p,e⟩ | ⟨p,e⟩ | ⟨p,e⟩
 ·omega
 ·omega
 ·rw[e]at c
  rcases ap a b with⟨s,f⟩ | ⟨s,f⟩ | ⟨s,f⟩ <;> omega
theorem ke{a:Int}(h1: -9223372036854775807<=a)(h2:a<=9223372036854775807): -19342822337206103650074625 < al a/\al a < 19342822337206103650074625:=by
 rcases Int.lt_or_le 0 a with c | c
 ·have:=gU c h2
  omega
 ·by_cases d:a=0
  ·subst d
   decide
  ·have:=gU (n:= -a) (by omega) (by omega)
   rw[CK]at this
   omega
theorem rR{a b:Int}(up:Bool)(h1: -1000000000000000000<=a)(h2:a<=1000000000000000000)(h3: -1000000000000000000<=b)(h4:b<=1000000000000000000):dj up (al a) (al b)=al (a+b):=by
 obtain⟨a1,a2⟩:=ke (a:=a) (by omega) (by omega);obtain⟨c,d⟩:=ke (a:=b) (by omega) (by omega);obtain⟨c1,c2⟩:=ke (a:=a+b) (by omega) (by omega);rw[fe up (dE a1 a2) (dE c d)];obtain⟨e,v⟩:=lx a1 a2 c d;refine vu e up c1 c2 ?_;rw[v,dJ (by omega) (by omega),dJ (by omega) (by omega),dJ (by omega) (by omega),Int.add_mul]
end Go.Proofs.YteigedaefgmojaaGreatDoor
namespace Go.Proofs.YteigedaefgmojaaGreatDoor
open Go.Proofs.Tryz
open Go Go.RowKit
set_option linter.unusedVariables false
theorem Ha{a b c d:Rat}(h:a<=b)(k:c<=d):a+c<=b+d:=by grind
def BR:Rat:=((2^KK:Int):Rat)
theorem ij:(0:Rat) < BR:=Rat.intCast_lt_intCast.2 (aN KK)
def F8 (v:Rat)(x:Sp):Prop:=match x with
 | none=>False
 | some (a,_)=>a= -19342822337206103650074625\/((vr a:Int):Rat)<=v*BR
def F7 (v:Rat)(x:Sp):Prop:=match x with
 | none=>False
 | some (_,b)=>b=19342822337206103650074625\/v*BR<=((vr b:Int):Rat)
def Bf (x:Sp):Prop:=match x with
 | none=>False
 | some (a,b)=>a<=b/\ -19342822337206103650074625 < a/\b < 19342822337206103650074625
theorem Bf.ok{x:Sp}(h:Bf x):dc x:=by
 rcases x with _ | ⟨a,b⟩
 ·exact trivial
 ·obtain⟨h1,h2,c⟩:=h;exact⟨by omega,h1,by omega,by omega,by omega⟩
theorem F8.mono{v w:Rat}{x:Sp}(h:F8 v x)(e:v<=w):F8 w x:=by
 rcases x with _ | ⟨a,b⟩
 ·exact h
 ·rcases h with h | h
  ·exact .inl h
  ·exact .inr (Rat.le_trans h (Rat.mul_le_mul_of_nonneg_right e (Rat.le_of_lt ij)))
theorem F7.mono{v w:Rat}{x:Sp}(h:F7 v x)(e:w<=v):F7 w x:=by
 rcases x with _ | ⟨a,b⟩
 ·exact h
 ·rcases h with h | h
  ·exact .inl h
  ·exact .inr (Rat.le_trans (Rat.mul_le_mul_of_nonneg_right e (Rat.le_of_lt ij)) h)
theorem rp{a d:Int}{v:Rat}(ha: -19342822337206103650074625<=d)(hd:a<=19342822337206103650074625)(h:a= -19342822337206103650074625\/((vr a:Int):Rat)<=v*BR)(k:d=19342822337206103650074625\/v*BR<=((vr d:Int):Rat)):a<=d:=by
 rcases h with h | h
 ·omega
 ·rcases k with k | k
  ·omega
  ·rcases Int.lt_or_le d a with c | c
   ·exfalso
    have e:=fL c;have f:=Rat.intCast_le_intCast.1 (Rat.le_trans h k)
    omega
   ·exact c
theorem GG{p:Int}{x:Sp}(p1: -19342822337206103650074625 < p)(p2:p < 19342822337206103650074625){v:Rat}(e:v*BR=((vr p:Int):Rat))(hx:dc x)(h1:F8 v x)(h2:F7 v x):mW x p=true:=by
 rcases x with _ | ⟨a,b⟩
 ·exact h1.elim
 obtain⟨A1,A2,A3,A4,A5⟩:=hx;have e1:=rp (d:=p) (by omega) (by omega) h1 (.inr (by rw[e];exact Rat.le_refl));have e2:=rp (a:=p) (by omega) (by omega) (.inr (by rw[e];exact Rat.le_refl)) h2;exact xJ p1 p2 e1 e2
abbrev SC:Int:=6277101735386680763835789423207666416102355444464034512896
def fO (n:Int):Nat->Nat->Int->Int->Int × Nat
 | 0,k,s,_=>(s,k)
 | f+1,k,s,p=>if SC/ (p*(2*(k:Int)+1))=0 then (s,k)else fO n f (k+1) (if k%2=1 then s+ -(SC/ (p*(2*(k:Int)+1)))else s+SC/ (p*(2*(k:Int)+1))) (p*(n*n))
def jV (n:Nat):Nat->Nat->Nat->Nat->Nat->Nat × Nat × Nat
 | 0,k,a,b,_=>(a,b,k)
 | f+1,k,a,b,p=>if 6277101735386680763835789423207666416102355444464034512896/ (p*(2*k+1))=0 then (a,b,k)else
   if k%2=1 then jV n f (k+1) a (b+6277101735386680763835789423207666416102355444464034512896/ (p*(2*k+1))) (p*(n*n))else jV n f (k+1) (a+6277101735386680763835789423207666416102355444464034512896/ (p*(2*k+1))) b (p*(n*n))
theorem xm (c p k:Nat):(c:Int) / ((p:Int)*(2*(k:Int)+1))=((c/ (p*(2*k+1)):Nat):Int):=by push_cast;rfl
theorem pT (n:Nat):∀(f k a b p:Nat),fO (n:Int) f k ((a:Int)-b) p=(((jV n f k a b p).1:Int)-(jV n f k a b p).2.1,(jV n f k a b p).2.2)
 | 0,k,a,b,p=>rfl
 | f+1,k,a,b,p=>by
  have e1:(SC/ ((p:Int)*(2*(k:Int)+1)))=((6277101735386680763835789423207666416102355444464034512896/ (p*(2*k+1)):Nat):Int):=xm 6277101735386680763835789423207666416102355444464034512896 p k
  have e2:(p:Int)*((n:Int)*n)=((p*(n*n):Nat):Int):=by push_cast;rfl
  unfold fO jV
  rw[e1,e2];generalize 6277101735386680763835789423207666416102355444464034512896/ (p*(2*k+1))=t
  by_cases h:t=0
  ·rw[if_pos h,if_pos (by omega)]
  ·rw[if_neg h,if_neg (by omega)]
   by_cases c:k%2=1
   ·rw[if_pos c,if_pos c,show (a:Int)-b+ -(t:Int)=(a:Int)-((b+t:Nat):Int) by push_cast;omega]
    exact pT n f _ _ _ _
   ·rw[if_neg c,if_neg c,show (a:Int)-b+(t:Int)=((a+t:Nat):Int)-(b:Int) by push_cast;omega]
    exact pT n f _ _ _ _
def fF (n:Int):Int × Int:=if n < 2\/1000 < n then (0,0)else ((fO n 200 0 0 n).1+(-((fO n 200 0 0 n).2:Int)-1),(fO n 200 0 0 n).1+(((fO n 200 0 0 n).2:Int)+1))
def BY (n:Nat):Int × Int:=(((jV n 200 0 0 0 n).1:Int)-(jV n 200 0 0 0 n).2.1+(-((jV n 200 0 0 0 n).2.2:Int)-1),((jV n 200 0 0 0 n).1:Int)-(jV n 200 0 0 0 n).2.1+(((jV n 200 0 0 0 n).2.2:Int)+1))
theorem xP{n:Nat}(h1:2<=n)(h2:n<=1000):fF (n:Int)=BY n:=by
 have e:=pT n 200 0 0 0 n
 rw[show (((0:Nat):Int)-((0:Nat):Int))=0 from rfl]at e
 unfold fF BY
 rw[if_neg (by omega),e]
theorem Im:BY 5=(1239072011291311913768300331356796477639936999957358576040,1239072011291311913768300331356796477639936999957358576122):=by kernel_rfl
theorem EE:BY 239=(26263870733613014474167984370118687693885283531911871163,26263870733613014474167984370118687693885283531911871189):=by kernel_rfl
abbrev aH:Int:=19720096697726538562396133364228268891463450865190089731884
abbrev bW:Int:=19720096697726538562396133364228268891463450865190089733300
theorem kt:(fF 5).1*16-(fF 239).2*4=aH/\(fF 5).2*16-(fF 239).1*4=bW:=by
 have a:=xP (n:=5) (by decide) (by decide);have b:=xP (n:=239) (by decide) (by decide)
 rw[show (5:Int)=((5:Nat):Int)from rfl,show (239:Int)=((239:Nat):Int)from rfl,a,b,Im,EE]
 decide
def dg:List Int->Rat->Rat
 | [],_=>0
 | a::p,x=>(a:Rat)+x*dg p x
def gm:List Int->List Int->List Int
 | [],q=>q
 | a::p,[]=>a::p
 | a::p,b::q=>(a+b)::gm p q
def qo (c:Int):List Int->List Int
 | []=>[]
 | a::p=>(c*a)::qo c p
def nz:List Int->List Int->List Int
 | [],_=>[]
 | a::p,q=>gm (qo a q) (0::nz p q)
theorem dH:∀(p q:List Int) (x:Rat),dg (gm p q) x=dg p x+dg q x
 | [],q,x=>by simp only[gm,dg];grind
 | a::p,[],x=>by simp only[gm,dg];grind
 | a::p,b::q,x=>by
  simp only[gm,dg];rw[dH p q x,Rat.intCast_add]
  grind
theorem fR (c:Int):∀(p:List Int) (x:Rat),dg (qo c p) x=(c:Rat)*dg p x
 | [],x=>by simp only[qo,dg];grind
 | a::p,x=>by
  simp only[qo,dg];rw[fR c p x,Rat.intCast_mul]
  grind
theorem iY:∀(p q:List Int) (x:Rat),dg (nz p q) x=dg p x*dg q x
 | [],q,x=>by simp only[nz,dg];grind
 | a::p,q,x=>by
  simp only[nz,dg];rw[dH,fR];simp only[dg];rw[iY p q x]
  grind
def Fi (H K:Int):List Int->List Int
 | []=>[]
 | a::p=>gm [a*K^(p.length+1)] (gm (0::qo K (Fi H K p)) (qo H (Fi H K p)))
theorem qn (H K:Int)(hK:(K:Rat)≠0):∀(p:List Int) (x:Rat),dg (Fi H K p) x=dg p (x+(H:Rat) /K)*(K:Rat)^p.length
 | [],x=>by simp only[Fi,dg];grind
 | a::p,x=>by
  simp only[Fi];rw[dH,dH,fR];simp only[dg];rw[fR,qn H K hK p x,List.length_cons,Rat.pow_succ,Rat.intCast_mul,Rat.intCast_pow,Rat.pow_succ]
  have e:(H:Rat) /K*K=H:=Rat.div_mul_cancel hK
  generalize (H:Rat) /K=h at *;rw[<-e]
  grind
def iV (B:Nat):List Int->Nat
 | []=>0
 | a::p=>a.natAbs+B*iV B p
theorem iy{b a x e:Rat}(h1: -b<=x)(h2:x<=b)(h3: -a<=e)(h4:e<=a): -(b*a)<=x*e/\x*e<=b*a:=by
 have c:=Rat.mul_nonneg (a:=b-x) (b:=a+e) (by grind) (by grind);have d:=Rat.mul_nonneg (a:=b+x) (b:=a-e) (by grind) (by grind);have f:=Rat.mul_nonneg (a:=b-x) (b:=a-e) (by grind) (by grind);have g:=Rat.mul_nonneg (a:=b+x) (b:=a+e) (by grind) (by grind)
 constructor <;> grind
theorem ED (a:Int): -((a.natAbs:Nat):Rat)<=(a:Rat)/\(a:Rat)<=((a.natAbs:Nat):Rat):=by
 have h1: -(a.natAbs:Int)<=a:=by omega
 have h2:a<=(a.natAbs:Int):=by omega
 have b:=Rat.intCast_le_intCast.2 h1;have c:=Rat.intCast_le_intCast.2 h2;rw[Rat.intCast_neg]at b;exact⟨b,c⟩
theorem iB{B:Nat}{x:Rat}(h1: -(B:Rat)<=x)(h2:x<=(B:Rat)):∀p:List Int,-((iV B p:Nat):Rat)<=dg p x/\dg p x<=((iV B p:Nat):Rat)
 | []=>by simp only[iV,dg];constructor <;> grind
 | a::p=>by
  obtain⟨i1,i2⟩:=iB h1 h2 p;obtain⟨b,c⟩:=iy h1 h2 i1 i2;obtain⟨a1,a2⟩:=ED a;simp only[iV,dg];rw[Rat.natCast_add,Rat.natCast_mul]
  constructor <;> grind
def sl:Nat->Int->List Int->List Int
 | 0,c,l=>0::c::l
 | k+1,c,l=>sl k (-c*((2*(k:Int)+3)*(2*k+2))) (0::c::l)
def TL:List Int:=sl 40 1 []
abbrev QH:Int:=181885788445883162140117471388864931326696688664196214979386075558969447233092
abbrev QK:Int:=2^256
def GW (c:Int):List Int->List Int
 | []=>[]
 | a::p=>a::qo c (GW c p)
def ft:List Int->List Int
 | []=>[]
 | _::p=>gm p (0::ft p)
def nu (B:Nat):List Int->Nat
 | []=>0
 | _::p=>B*nu B p+iV B (ft p)
def nA (p:List Int)(x d:Rat):Rat:=dg p (x+d)-dg p x-d*dg (ft p) x
theorem vc (a:Int)(p:List Int)(x d:Rat):nA (a::p) x d=(x+d)*nA p x d+d*d*dg (ft p) x:=by
 unfold nA
 simp only[ft,dg];rw[dH];simp only[dg];rw[Rat.intCast_zero]
 grind
theorem lv (d:Rat):0<=d*d:=by
 rcases (Rat.le_total:(0:Rat)<=d\/d<=0)with h | h
 ·exact Rat.mul_nonneg h h
 ·have:=Rat.mul_nonneg (a:= -d) (b:= -d) (by grind) (by grind)
  grind
theorem rT{B:Nat}{x d:Rat}(h1: -(B:Rat)<=x)(h2:x<=(B:Rat))(h3: -(B:Rat)<=x+d)(h4:x+d<=(B:Rat)):∀p:List Int,-(d*d*((nu B p:Nat):Rat))<=nA p x d/\nA p x d<=d*d*((nu B p:Nat):Rat)
 | []=>by
  unfold nA
  simp only[nu,dg,ft]
  have e:((0:Nat):Rat)=0:=rfl
  rw[e]
  constructor <;> grind
 | a::p=>by
  obtain⟨i1,i2⟩:=rT h1 h2 h3 h4 p;obtain⟨i,j⟩:=iy h3 h4 i1 i2;obtain⟨c,f⟩:=iB h1 h2 (ft p);have s:=lv d;have g:=Rat.mul_nonneg s (b:=((iV B (ft p):Nat):Rat)-dg (ft p) x) (by grind);have h:=Rat.mul_nonneg s (b:=((iV B (ft p):Nat):Rat)+dg (ft p) x) (by grind);rw[vc];simp only[nu];rw[Rat.natCast_add,Rat.natCast_mul]
  generalize ((iV B (ft p):Nat):Rat)=u at *;generalize dg (ft p) x=v at *;generalize nA p x d=r at *;generalize ((nu B p:Nat):Rat)=t at *;generalize (B:Rat)=b at *
  constructor <;> grind
abbrev DD:Int:=5797126020747367985879734231578109105412357244731625958745865049716390179693892056256184534249745940480000000000000000000
def TH:List Int:=Fi QH QK TL
def E3:List Int:=gm (gm (qo (QK^164) (nz TL TL)) (nz TH TH)) [-(DD*DD*QK^164)]
def E4:List Int:=gm (qo (DD*QK^82) (GW 2 TL)) (qo (-2) (nz TL TH))
def E5:List Int:=gm (gm (nz TL TL) (nz (ft TL) (ft TL))) [-(DD*DD)]
theorem AA:TL.length=82:=by decide +kernel
theorem xr:iV 2 E3*2^240<=(DD*DD*QK^164).natAbs:=Nat.le_of_ble_eq_true (by decide +kernel)
theorem xt:iV 2 E5*2^200<=(DD*DD).natAbs:=Nat.le_of_ble_eq_true (by decide +kernel)
theorem FO:nu 2 TL<=100*DD.natAbs:=Nat.le_of_ble_eq_true (by decide +kernel)
def aC (x:Rat):Rat:=dg TL x/ (DD:Int)
def fs (x:Rat):Rat:=dg (ft TL) x/ (DD:Int)
def qt:Rat:=(QH:Rat) / (QK:Int)
theorem kv:(0:Rat) < ((DD:Int):Rat):=by
 have h:(0:Int) < DD:=by decide
 exact Rat.intCast_lt_intCast.2 h
theorem zz:(0:Rat) < ((QK:Int):Rat):=by
 have h:(0:Int) < QK:=by decide
 exact Rat.intCast_lt_intCast.2 h
theorem gC{u v:Rat}{n:Nat}{m:Int}{k:Nat}(hm:0 < m)(h:n*2^k<=m.natAbs)(h1: -((n:Nat):Rat)<=u)(h2:u<=((n:Nat):Rat))(e:v*(m:Rat)=u): -1<=v*2^k/\v*2^k<=1:=by
 have d:(0:Rat) < (m:Rat):=Rat.intCast_lt_intCast.2 hm
 have e2:((m.natAbs:Int))=m:=by omega
 have c:((n:Nat):Rat)*2^k<=(m:Rat):=by
  have f:=Rat.natCast_le_natCast.2 h;rw[Rat.natCast_mul,Rat.natCast_pow]at f
  have e3:((m.natAbs:Nat):Rat)=(m:Rat):=by
   rw[<-e2]
   rfl
  rw[e3]at f;exact f
 have p2:(0:Rat) < 2^k:=Rat.pow_pos (by decide)
 have g:=Rat.mul_nonneg (a:=(n:Rat)-u) (b:=2^k) (by grind) (Rat.le_of_lt p2);have i:=Rat.mul_nonneg (a:=(n:Rat)+u) (b:=2^k) (by grind) (Rat.le_of_lt p2)
 have g1:v*2^k*(m:Rat)<=1*(m:Rat):=by grind
 have g2: -1*(m:Rat)<=v*2^k*(m:Rat):=by grind
 exact⟨Rat.le_of_mul_le_mul_right g2 d,Rat.le_of_mul_le_mul_right g1 d⟩
theorem oY (k:Rat)(n:Nat):∀m:Nat,k^(n+m)=k^n*k^m
 | 0=>by rw[Nat.add_zero,Rat.pow_zero];grind
 | m+1=>by
  rw[show n+(m+1)=(n+m)+1 from rfl,Rat.pow_succ,Rat.pow_succ,oY k n m]
  grind
theorem eA (x:Rat):aC x*((DD:Int):Rat)=dg TL x:=Rat.div_mul_cancel (Rat.ne_of_gt kv)
theorem mQ (x:Rat):fs x*((DD:Int):Rat)=dg (ft TL) x:=Rat.div_mul_cancel (Rat.ne_of_gt kv)
theorem D3 (x:Rat):dg TH x=aC (x+qt)*((DD:Int):Rat)*((QK:Int):Rat)^82:=by
 unfold TH
 rw[qn QH QK (Rat.ne_of_gt zz),AA,eA]
 rfl
theorem En{x:Rat}(h1: -2<=x)(h2:x<=2): -1<=(aC x*aC x+aC (x+qt)*aC (x+qt)-1)*2^240/\(aC x*aC x+aC (x+qt)*aC (x+qt)-1)*2^240<=1:=by
 obtain⟨a,b⟩:=iB (B:=2) (x:=x) h1 h2 E3;refine gC (m:=DD*DD*QK^164) (by decide +kernel) xr a b ?_
 have e:dg E3 x=((QK^164:Int):Rat)*(dg TL x*dg TL x)+dg TH x*dg TH x+((-(DD*DD*QK^164):Int):Rat):=by
  unfold E3
  rw[dH,dH,fR,iY,iY];simp only[dg]
  grind
 rw[e,D3,<-eA,Rat.intCast_neg,Rat.intCast_mul,Rat.intCast_mul,Rat.intCast_pow,show (164:Nat)=82+82 from rfl,oY]
 generalize ((QK:Int):Rat)^82=k;generalize ((DD:Int):Rat)=d;generalize aC x=s;generalize aC (x+qt)=c
 grind
theorem By{x:Rat}(h1: -2<=x)(h2:x<=2): -1<=(aC x*aC x+fs x*fs x-1)*2^200/\(aC x*aC x+fs x*fs x-1)*2^200<=1:=by
 obtain⟨a,b⟩:=iB (B:=2) (x:=x) h1 h2 E5;refine gC (m:=DD*DD) (by decide +kernel) xt a b ?_
 have e:dg E5 x=dg TL x*dg TL x+dg (ft TL) x*dg (ft TL) x+((-(DD*DD):Int):Rat):=by
  unfold E5
  rw[dH,dH,iY,iY];simp only[dg]
  grind
 rw[e,<-eA,<-mQ,Rat.intCast_neg,Rat.intCast_mul];generalize ((DD:Int):Rat)=d;generalize aC x=s;generalize fs x=c
 grind
theorem Ag (x:Rat):∀(k:Nat) (c:Int) (l:List Int),dg l (-x)= -dg l x->dg (sl k c l) (-x)= -dg (sl k c l) x
 | 0,c,l,h=>by
  simp only[sl,dg];rw[h,Rat.intCast_zero]
  grind
 | k+1,c,l,h=>by
  simp only[sl];refine Ag x k _ _ ?_;simp only[dg];rw[h,Rat.intCast_zero]
  grind
theorem ki (x:Rat):aC (-x)= -aC x:=by
 have h:=Ag x 40 1 [] (by simp only[dg];grind);have a:=eA x;have b:=eA (-x)
 have c:dg TL (-x)= -dg TL x:=h
 have d:=kv
 unfold aC
 rw[c,Rat.div_def,Rat.div_def]
 grind
def tt (c y:Rat):Nat->Rat
 | 0=>c*y
 | k+1=> -(tt c y k*(y*y)) / (((2*((k:Int)+1))*(2*((k:Int)+1)+1):Int):Rat)
def ss (c y:Rat):Nat->Rat
 | 0=>c*y
 | k+1=>ss c y k+tt c y (k+1)
def low:Nat->Int->Int
 | 0,c=>c
 | k+1,c=>low k (-c*((2*(k:Int)+3)*(2*k+2)))
theorem qh (k:Nat):(0:Int) < (2*((k:Int)+1))*(2*((k:Int)+1)+1):=Int.mul_pos (by omega) (by omega)
theorem DV (y:Rat):∀(k:Nat) (c:Int) (l:List Int),tt (low k c) y k=(c:Rat)*(y*(y*y)^k)/\dg (sl k c l) y=ss (low k c) y k+(y*y)^(k+1)*dg l y
 | 0,c,l=>by
  simp only[tt,ss,low,sl,dg];rw[Rat.intCast_zero,Rat.pow_succ,Rat.pow_zero]
  constructor <;> grind
 | k+1,c,l=>by
  obtain⟨a,b⟩:=DV y k (-c*((2*(k:Int)+3)*(2*k+2))) (0::c::l)
  have f:((((2*((k:Int)+1))*(2*((k:Int)+1)+1):Int)):Rat)≠0:=Rat.ne_of_gt (Rat.intCast_lt_intCast.2 (qh k))
  have hi:(-c*((2*(k:Int)+3)*(2*k+2)))= -c*((2*((k:Int)+1))*(2*((k:Int)+1)+1)):=by
   rw[show 2*((k:Int)+1)+1=2*(k:Int)+3 by omega,show 2*((k:Int)+1)=2*(k:Int)+2 by omega,Int.mul_comm (2*(k:Int)+2)]
  have d:tt (low (k+1) c) y (k+1)=(c:Rat)*(y*(y*y)^(k+1)):=by
   simp only[tt,low];rw[a,hi,Rat.intCast_mul,Rat.intCast_neg,Rat.pow_succ,Rat.div_def];generalize ((((2*((k:Int)+1))*(2*((k:Int)+1)+1):Int)):Rat)=n at *;have e:=Rat.mul_inv_cancel n f;generalize n⁻¹=i at *;generalize (y*y)^k=p
   have: -(-(c:Rat)*n*(y*p)*(y*y))*i=(c:Rat)*(y*(p*(y*y)))*(n*i):=by grind
   rw[this,e]
   grind
  refine⟨d,?_⟩
  have g:ss (low (k+1) c) y (k+1)=ss (low (k+1) c) y k+tt (low (k+1) c) y (k+1):=rfl
  rw[g,d]
  show dg (sl k (-c*((2*(k:Int)+3)*(2*k+2))) (0::c::l)) y=ss (low k (-c*((2*(k:Int)+3)*(2*k+2)))) y k+_+_
  rw[b];simp only[dg]
  rw[Rat.intCast_zero,show k+1+1=(k+1)+1 from rfl,Rat.pow_succ (y*y) (k+1)]
  generalize (y*y)^(k+1)=p
  grind
theorem AE (c y:Rat):∀k,tt c y k=c*tt 1 y k
 | 0=>by simp only[tt];grind
 | k+1=>by
  simp only[tt];rw[AE c y k,Rat.div_def,Rat.div_def]
  grind
theorem qN (c y:Rat):∀k,ss c y k=c*ss 1 y k
 | 0=>by simp only[ss];grind
 | k+1=>by
  simp only[ss];rw[qN c y k,AE c y (k+1)]
  grind
theorem EO:low 40 1=DD:=by decide +kernel
theorem Af (y:Rat):aC y=ss 1 y 40:=by
 have h:=(DV y 40 1 []).2
 have e:dg TL y=ss ((DD:Int):Rat) y 40:=by
  show dg (sl 40 1 []) y=_
  rw[h,EO];simp only[dg]
  grind
 unfold aC
 rw[e,qN,Rat.mul_comm];exact Rat.mul_div_cancel (Rat.ne_of_gt kv)
theorem zU{t x y v u w n x':Rat}(hn:6<=n)(y1: -(8/5)<=y)(y2:y<=8/5)(e1: -(5/2)<=t-x)(e2:t-x<=5/2)(v1:v<=t*y)(v2:t*y < v+1)(u1:u<=v*y)(u2:v*y < u+1)
  (w1:w*n<=u) (w2:u < w*n+n) (hx:x'*n= -(x*(y*y))): -(5/2)<= -w-x'/\ -w-x'<=5/2:=by
 have h:=lv y;obtain⟨_,s1⟩:=iy y1 y2 y1 y2;obtain⟨f,g⟩:=iy (b:=5/2) (a:=8/5*(8/5)) (x:=t-x) (e:=y*y) e1 e2 (by grind) s1;obtain⟨c,d⟩:=iy (b:=1) (a:=8/5) (x:=t*y-v) (e:=y) (by grind) (by grind) y1 y2
 have n0:(0:Rat) < n:=by grind
 have g1:(-w-x')*n<=5/2*n:=by grind
 have g2: -(5/2)*n<=(-w-x')*n:=by grind
 exact⟨Rat.le_of_mul_le_mul_right g2 n0,Rat.le_of_mul_le_mul_right g1 n0⟩
def ti (m:Int):Nat->Int
 | 0=>m
 | k+1=> -((ti m k*m/SC*m/SC) / ((2*((k:Int)+1))*(2*((k:Int)+1)+1)))
def si (m:Int):Nat->Int
 | 0=>m
 | k+1=>si m k+ti m (k+1)
abbrev SR:Rat:=((SC:Int):Rat)
theorem dS:(0:Rat) < SR:=by
 have h:(0:Int) < SC:=by decide
 exact Rat.intCast_lt_intCast.2 h
theorem xB (a b:Int)(hb:0 < b):(((a/b:Int)):Rat)*(b:Rat)<=(a:Rat)/\(a:Rat) < (((a/b:Int)):Rat)*(b:Rat)+(b:Rat):=by
 have h1:=Rat.intCast_le_intCast.2 (Int.ediv_mul_le a (Int.ne_of_gt hb));have h2:=Rat.intCast_lt_intCast.2 (Int.lt_ediv_add_one_mul_self a hb);rw[Rat.intCast_mul]at h1 h2;rw[Rat.intCast_add]at h2
 have e:((1:Int):Rat)=1:=rfl
 rw[e]at h2
 constructor <;> grind
theorem xC (a b:Int)(hb:0 < b){z:Rat}(hz:z*(b:Rat)=(a:Rat)):(((a/b:Int)):Rat)<=z/\z < (((a/b:Int)):Rat)+1:=by
 have d:(0:Rat) < (b:Rat):=Rat.intCast_lt_intCast.2 hb
 obtain⟨h1,h2⟩:=xB a b hb
 constructor
 ·exact Rat.le_of_mul_le_mul_right (by rw[hz];exact h1) d
 ·have c:¬(((a/b:Int)):Rat)+1<=z:=fun c=>by
   have:=Rat.mul_le_mul_of_nonneg_right c (Rat.le_of_lt d)
   rw[hz]at this
   grind
  exact Rat.not_le.1 c
theorem rZ{m:Int}{y:Rat}(hy:y*SR=(m:Rat))(y1: -(8/5)<=y)(y2:y<=8/5):∀k:Nat,(-(5/2)<=((ti m k:Int):Rat)-tt SR y k/\((ti m k:Int):Rat)-tt SR y k<=5/2)/\ -(5/2*(k:Rat))<=((si m k:Int):Rat)-ss SR y k/\((si m k:Int):Rat)-ss SR y k<=5/2*(k:Rat)
 | 0=>by
  simp only[ti,si,tt,ss]
  have e:((0:Nat):Rat)=0:=rfl
  rw[e,<-hy];refine⟨⟨?_,?_⟩,?_,?_⟩ <;> grind
 | k+1=>by
  obtain⟨⟨a1,a2⟩,o,p⟩:=rZ hy y1 y2 k
  have d:(0:Int) < SC:=by decide
  have c:=qh k
  have n6:(6:Int)<=(2*((k:Int)+1))*(2*((k:Int)+1)+1):=by
   have:=Int.mul_le_mul (show (2:Int)<=2*((k:Int)+1) by omega) (show (3:Int)<=2*((k:Int)+1)+1 by omega) (by decide) (by omega)
   omega
  obtain⟨l,v2⟩:=xC (ti m k*m) SC d (z:=((ti m k:Int):Rat)*y) (by rw[Rat.intCast_mul,<-hy];grind);obtain⟨i,j⟩:=xC (ti m k*m/SC*m) SC d (z:=((ti m k*m/SC:Int):Rat)*y) (by rw[Rat.intCast_mul,<-hy];grind);obtain⟨w1,n⟩:=xB (ti m k*m/SC*m/SC) ((2*((k:Int)+1))*(2*((k:Int)+1)+1)) c
  have b:(6:Rat)<=((((2*((k:Int)+1))*(2*((k:Int)+1)+1):Int)):Rat):=Rat.intCast_le_intCast.2 n6
  have hx:tt SR y (k+1)*((((2*((k:Int)+1))*(2*((k:Int)+1)+1):Int)):Rat)= -(tt SR y k*(y*y)):=by
   simp only[tt];exact Rat.div_mul_cancel (Rat.ne_of_gt (Rat.intCast_lt_intCast.2 c))
  have a:=zU b y1 y2 a1 a2 l v2 i j w1 n hx
  have e1:((ti m (k+1):Int):Rat)= -((((ti m k*m/SC*m/SC) / ((2*((k:Int)+1))*(2*((k:Int)+1)+1)):Int)):Rat):=by
   simp only[ti];rw[Rat.intCast_neg]
  have e2:((si m (k+1):Int):Rat)=((si m k:Int):Rat)+((ti m (k+1):Int):Rat):=by
   simp only[si];rw[Rat.intCast_add]
  have e3:ss SR y (k+1)=ss SR y k+tt SR y (k+1):=rfl
  have f:((k+1:Nat):Rat)=(k:Rat)+1:=by rw[Rat.natCast_add];rfl
  rw[e2,e3,f,e1];obtain⟨g,h⟩:=a;refine⟨⟨g,h⟩,?_,?_⟩ <;> grind
theorem C2{m:Int}{y:Rat}(hy:y*SR=(m:Rat))(y1: -(8/5)<=y)(y2:y<=8/5): -100<=((si m 40:Int):Rat)-aC y*SR/\((si m 40:Int):Rat)-aC y*SR<=100:=by
 obtain⟨_,a,b⟩:=rZ hy y1 y2 40;rw[qN,<-Af]at a b
 have e:((40:Nat):Rat)=40:=rfl
 rw[e]at a b
 constructor <;> grind
theorem GV:(0:Rat) < 2^200:=Rat.pow_pos (by decide)
theorem Ep{x:Rat}(h1: -2<=x)(h2:x<=2):fs x*fs x<=1+1/2^200:=by
 obtain⟨_,b⟩:=By h1 h2;have s:=lv (aC x);have p:=GV
 have e:(1/2^200:Rat)*2^200=1:=Rat.div_mul_cancel (Rat.ne_of_gt p)
 refine Rat.le_of_mul_le_mul_right (c:=2^200) ?_ p
 have:=Rat.mul_nonneg s (Rat.le_of_lt p)
 grind
theorem lV{c e:Rat}(he:0<=e)(h:c*c<=1+e): -(1+e)<=c/\c<=1+e:=by
 have s:=lv e
 constructor
 ·by_cases k: -(1+e)<=c
  ·exact k
  ·have d:=Rat.not_le.1 k
   have this:=Rat.mul_nonneg (a:= -(1+e)-c) (b:= -(1+e)-c) (by grind) (by grind);have g:=Rat.mul_pos (a:= -(1+e)-c) (b:=1+e) (by grind) (by grind)
   grind
 ·by_cases k:c<=1+e
  ·exact k
  ·have d:=Rat.not_le.1 k
   have this:=Rat.mul_nonneg (a:=c-(1+e)) (b:=c-(1+e)) (by grind) (by grind);have g:=Rat.mul_pos (a:=c-(1+e)) (b:=1+e) (by grind) (by grind)
   grind
theorem Ae{x d:Rat}(h1: -2<=x)(h2:x<=2)(h3: -2<=x+d)(h4:x+d<=2)(hd:0<=d):
  -(d*(1+1/2^200)+100*(d*d))<=aC (x+d)-aC x/\aC (x+d)-aC x<=d*(1+1/2^200)+100*(d*d):=by
 have p:=GV
 have ep:(0:Rat)<=1/2^200:=by
  rw[Rat.div_def];exact Rat.mul_nonneg (by decide) (Rat.le_of_lt (Rat.inv_pos.2 p))
 obtain⟨c1,c2⟩:=lV ep (Ep h1 h2);obtain⟨l,m⟩:=rT (B:=2) (x:=x) (d:=d) h1 h2 h3 h4 TL
 have n:((nu 2 TL:Nat):Rat)<=100*((DD:Int):Rat):=by
  have h:=Rat.natCast_le_natCast.2 FO;rw[Rat.natCast_mul]at h;exact h
 have s:=lv d;have g:=Rat.mul_nonneg s (b:=100*((DD:Int):Rat)-((nu 2 TL:Nat):Rat)) (by grind);have f:=Rat.mul_nonneg hd (b:=1+1/2^200-fs x) (by grind);have i:=Rat.mul_nonneg hd (b:=1+1/2^200+fs x) (by grind)
 have e:(aC (x+d)-aC x-d*fs x)*((DD:Int):Rat)=nA TL x d:=by
  unfold nA
  rw[<-eA,<-eA,<-mQ]
  grind
 have a:=kv;generalize (1/2^200:Rat)=ε at *
 have j:aC (x+d)-aC x-d*fs x<=100*(d*d):=Rat.le_of_mul_le_mul_right (c:=((DD:Int):Rat)) (by rw[e];grind) a
 have k: -(100*(d*d))<=aC (x+d)-aC x-d*fs x:=Rat.le_of_mul_le_mul_right (c:=((DD:Int):Rat)) (by rw[e];grind) a
 constructor <;> grind
theorem Il{r:Int}{z W:Rat}(r1: -(8/5)*SR<=(r:Rat))(r2:(r:Rat)<=8/5*SR)(h1:(r:Rat)<=z)(h2:z-r<=W)(hW:W<=2^60):
  -(W+101)<=aC (z/SR)*SR-((si r 40:Int):Rat)/\aC (z/SR)*SR-((si r 40:Int):Rat)<=W+101:=by
 have a:=dS;have k:=Rat.ne_of_gt a
 have g:(r:Rat) /SR*SR=r:=Rat.div_mul_cancel k
 have o:z/SR*SR=z:=Rat.div_mul_cancel k
 obtain⟨y,hy⟩:∃y,(r:Rat) /SR=y:=⟨_,rfl⟩;obtain⟨f,hf⟩:∃f,z/SR=f:=⟨_,rfl⟩;rw[hy]at g;rw[hf]at o|-
 have p: -(8/5)<=y:=Rat.le_of_mul_le_mul_right (c:=SR) (by rw[g];exact r1) a
 have q:y<=8/5:=Rat.le_of_mul_le_mul_right (c:=SR) (by rw[g];exact r2) a
 obtain⟨d,hd⟩:∃d,f-y=d:=⟨_,rfl⟩
 have b:d*SR=z-r:=by rw[<-hd];grind
 have j:0<=d:=Rat.le_of_mul_le_mul_right (c:=SR) (by rw[b];grind) a
 have n:(2^60:Rat)*4000<=SR:=by decide +kernel
 have i:(100*2^60*2^60:Rat)*4<=SR:=by decide +kernel
 have s:d<=1/4:=Rat.le_of_mul_le_mul_right (c:=SR) (by rw[b];grind) a
 have e1:y+d=f:=by grind
 obtain⟨n1,n2⟩:=Ae (x:=y) (d:=d) (by grind) (by grind) (by grind) (by grind) j;obtain⟨s1,s2⟩:=C2 g p q;rw[e1]at n1 n2;obtain⟨ε,h⟩:∃ε,(1/2^200:Rat)=ε:=⟨_,rfl⟩
 have ε1:ε*2^60<=1/4:=by rw[<-h];decide +kernel
 have ε0:0<=ε:=by rw[<-h];decide +kernel
 rw[h]at n1 n2
 have t:0<=z-r:=by grind
 have g1:z-r<=2^60:=by grind
 have a1:(z-r)*ε<=1/4:=by
  have:=Rat.mul_le_mul_of_nonneg_right g1 ε0
  grind
 have a2:100*2^60*d<=1/4:=Rat.le_of_mul_le_mul_right (c:=SR) (by
  have e:100*2^60*d*SR=100*2^60*(z-r):=by rw[<-b];grind
  rw[e]
  grind) a
 have a3:100*(z-r)*d<=1/4:=by
  have:=Rat.mul_le_mul_of_nonneg_right g1 j
  grind
 have l:(aC f-aC y)*SR<=(d*(1+ε)+100*(d*d))*SR:=Rat.mul_le_mul_of_nonneg_right n2 (Rat.le_of_lt a)
 have m: -(d*(1+ε)+100*(d*d))*SR<=(aC f-aC y)*SR:=Rat.mul_le_mul_of_nonneg_right n1 (Rat.le_of_lt a)
 have c:(d*(1+ε)+100*(d*d))*SR=(z-r)+(z-r)*ε+100*(z-r)*d:=by rw[<-b];grind
 rw[Rat.neg_mul,c]at m;rw[c]at l
 constructor <;> grind
theorem mg:(aH:Rat)<=2*qt*SR/\2*qt*SR<=(bW:Rat):=by decide +kernel
def qI (x:Int):Int:=(2*x+aH) / (2*aH)
def rI (x:Int):Int:=if qI x < 0 then x-qI x*aH else x-qI x*bW
def tI (x y:Int):Int:=if qI x < 0 then y-qI x*bW else y-qI x*aH
theorem DT (x:Int): -aH<=2*(x-qI x*aH)/\2*(x-qI x*aH) < aH:=by
 have h1:=Int.ediv_mul_le (2*x+aH) (show (2*aH:Int)≠0 by decide)
 have h2:=Int.lt_ediv_add_one_mul_self (2*x+aH) (show (0:Int) < 2*aH by decide)
 unfold qI
 generalize (2*x+aH) / (2*aH)=q at *
 unfold aH at *
 omega
theorem D5{x y:Int}{z:Rat}(h1:(x:Rat)<=z)(h2:z<=(y:Rat)):((rI x:Int):Rat)<=z-(qI x:Rat)*(2*qt*SR)/\z-(qI x:Rat)*(2*qt*SR)<=((tI x y:Int):Rat):=by
 obtain⟨f,p2⟩:=mg
 unfold rI tI
 generalize qI x=q;generalize 2*qt*SR=p at *
 by_cases c:q < 0
 ·rw[if_pos c,if_pos c,Rat.intCast_sub,Rat.intCast_sub,Rat.intCast_mul,Rat.intCast_mul]
  have hq:(q:Rat)<=0:=Rat.intCast_le_intCast.2 (Int.le_of_lt c)
  have d:=Rat.mul_nonneg (a:= -(q:Rat)) (b:=p-(aH:Rat)) (by grind) (by grind);have e:=Rat.mul_nonneg (a:= -(q:Rat)) (b:=(bW:Rat)-p) (by grind) (by grind)
  constructor <;> grind
 ·rw[if_neg c,if_neg c,Rat.intCast_sub,Rat.intCast_sub,Rat.intCast_mul,Rat.intCast_mul]
  have hq:(0:Rat)<=(q:Rat):=Rat.intCast_le_intCast.2 (show 0<=q by omega)
  have d:=Rat.mul_nonneg (a:=(q:Rat)) (b:=p-(aH:Rat)) (by grind) (by grind);have e:=Rat.mul_nonneg (a:=(q:Rat)) (b:=(bW:Rat)-p) (by grind) (by grind)
  constructor <;> grind
theorem zx{x:Int}(h1: -2147483648*SC<=x)(h2:x<=2147483648*SC): -2147483648<=qI x/\qI x<=2147483648:=by
 obtain⟨a,b⟩:=DT x;generalize qI x=q at *
 unfold SC aH at *
 omega
theorem zC{x:Int}(h1: -2147483648*SC<=x)(h2:x<=2147483648*SC): -(8*SC)<=5*rI x/\5*rI x<=8*SC:=by
 obtain⟨a,b⟩:=DT x;obtain⟨c,d⟩:=zx h1 h2
 unfold rI
 generalize qI x=q at *
 by_cases e:q < 0
 ·rw[if_pos e]
  unfold SC aH at *
  omega
 ·rw[if_neg e]
  unfold SC aH bW at *
  omega
theorem Au{x y:Int}(h1: -2147483648*SC<=x)(h2:x<=2147483648*SC)(h3:x<=y)(h4:y-x<=2000000):0<=tI x y-rI x/\tI x y-rI x<=4398046511104:=by
 obtain⟨c,d⟩:=zx h1 h2
 unfold rI tI
 generalize qI x=q at *
 by_cases e:q < 0
 ·rw[if_pos e,if_pos e]
  unfold SC aH bW at *
  omega
 ·rw[if_neg e,if_neg e]
  unfold SC aH bW at *
  omega
theorem ym{x y:Int}{z:Rat}(h1: -2147483648*SC<=x)(h2:x<=2147483648*SC)(h3:x<=y)(h4:y-x<=2000000)(z1:(x:Rat)<=z)(z2:z<=(y:Rat)):
  ((si (rI x) 40-(tI x y-rI x+101):Int):Rat)<=aC ((z-(qI x:Rat)*(2*qt*SR)) /SR)*SR/\aC ((z-(qI x:Rat)*(2*qt*SR)) /SR)*SR<=((si (rI x) 40+(tI x y-rI x+101):Int):Rat):=by
 obtain⟨a,b⟩:=zC h1 h2;obtain⟨c,d⟩:=Au h1 h2 h3 h4;obtain⟨e,f⟩:=D5 z1 z2
 have a':=Rat.intCast_le_intCast.2 a
 have g:=Rat.intCast_le_intCast.2 b
 have d':=Rat.intCast_le_intCast.2 d
 rw[Rat.intCast_neg,Rat.intCast_mul,Rat.intCast_mul]at a';rw[Rat.intCast_mul,Rat.intCast_mul]at g;rw[Rat.intCast_sub]at d'
 have i:((5:Int):Rat)=5:=rfl
 have j:((8:Int):Rat)=8:=rfl
 have lb:((4398046511104:Int):Rat)<=2^60:=by decide +kernel
 have h:((101:Int):Rat)=101:=rfl
 rw[i,j]at a' g;obtain⟨k,l⟩:=Il (r:=rI x) (z:=z-(qI x:Rat)*(2*qt*SR)) (W:=((tI x y:Int):Rat)-((rI x:Int):Rat)) (by grind) (by grind) e (by grind) (by grind);rw[Rat.intCast_sub,Rat.intCast_add,Rat.intCast_add,Rat.intCast_sub,h]
 constructor <;> grind
def jI (x y:Int):Int × Int:=if qI x%2=0 then (si (rI x) 40-(tI x y-rI x+200),si (rI x) 40+(tI x y-rI x+200))else (-(si (rI x) 40+(tI x y-rI x+200)),-(si (rI x) 40-(tI x y-rI x+200)))
def fJ (x:Int)(z:Rat):Rat:=if qI x%2=0 then aC ((z-(qI x:Rat)*(2*qt*SR)) /SR)else -aC ((z-(qI x:Rat)*(2*qt*SR)) /SR)
theorem AU{x y:Int}{z:Rat}(h1: -2147483648*SC<=x)(h2:x<=2147483648*SC)(h3:x<=y)(h4:y-x<=2000000)(z1:(x:Rat)<=z)(z2:z<=(y:Rat)):
  (((jI x y).1+99:Int):Rat)<=fJ x z*SR/\fJ x z*SR<=(((jI x y).2-99:Int):Rat):=by
 obtain⟨a,b⟩:=ym h1 h2 h3 h4 z1 z2
 unfold jI fJ
 by_cases c:qI x%2=0
 ·rw[if_pos c,if_pos c];simp only[]
  rw[show si (rI x) 40-(tI x y-rI x+200)+99=si (rI x) 40-(tI x y-rI x+101) by omega,show si (rI x) 40+(tI x y-rI x+200)-99=si (rI x) 40+(tI x y-rI x+101) by omega]
  exact⟨a,b⟩
 ·rw[if_neg c,if_neg c];simp only[]
  rw[show -(si (rI x) 40+(tI x y-rI x+200))+99= -(si (rI x) 40+(tI x y-rI x+101)) by omega,show -(si (rI x) 40-(tI x y-rI x+200))-99= -(si (rI x) 40-(tI x y-rI x+101)) by omega,Rat.intCast_neg,Rat.intCast_neg]
  constructor <;> grind
def TG:List Int:=Fi (2*QH) QK TL
def E6:List Int:=gm TG (qo (QK^82) TL)
theorem xu:iV 2 E6*2^190<=(DD*QK^82).natAbs:=Nat.le_of_ble_eq_true (by decide +kernel)
theorem iM{x:Rat}(h1: -2<=x)(h2:x<=2): -1<=(aC (x+2*qt)+aC x)*2^190/\(aC (x+2*qt)+aC x)*2^190<=1:=by
 obtain⟨a,b⟩:=iB (B:=2) (x:=x) h1 h2 E6;refine gC (m:=DD*QK^82) (by decide +kernel) xu a b ?_
 have e:dg TG x=aC (x+2*qt)*((DD:Int):Rat)*((QK:Int):Rat)^82:=by
  unfold TG
  rw[qn (2*QH) QK (Rat.ne_of_gt zz),AA,eA]
  have q:((2*QH:Int):Rat) / ((QK:Int):Rat)=2*qt:=by
   unfold qt
   rw[Rat.intCast_mul,Rat.div_def,Rat.div_def,Rat.mul_assoc]
   rfl
  rw[q]
 unfold E6
 rw[dH,fR,e,<-eA,Rat.intCast_mul,Rat.intCast_pow];generalize ((QK:Int):Rat)^82=k;generalize ((DD:Int):Rat)=d;generalize aC x=s;generalize aC (x+2*qt)=c
 grind
def fz (x:Int)(z:Rat):Rat:=(z-(qI x:Rat)*(2*qt*SR)) /SR
theorem ko (x:Int)(z:Rat):fz x z*SR=z-(qI x:Rat)*(2*qt*SR):=Rat.div_mul_cancel (Rat.ne_of_gt dS)
theorem mE:(157/100:Rat)<=qt/\qt<=158/100:=by decide +kernel
theorem vX{x y:Int}{z:Rat}(h1: -2147483648*SC<=x)(h2:x<=2147483648*SC)(h3:x<=y)(h4:y-x<=2000000)(z1:(x:Rat)<=z)(z2:z<=(y:Rat)): -(17/10)<=fz x z/\fz x z<=17/10:=by
 obtain⟨a,b⟩:=zC h1 h2;obtain⟨c,d⟩:=Au h1 h2 h3 h4;obtain⟨e,f⟩:=D5 z1 z2;rw[<-ko]at e f
 have k: -(17*SC)<=10*rI x:=by unfold SC at *;omega
 have l:10*tI x y<=17*SC:=by unfold SC at *;omega
 have g:=Rat.intCast_le_intCast.2 k
 have h:=Rat.intCast_le_intCast.2 l
 rw[Rat.intCast_neg,Rat.intCast_mul,Rat.intCast_mul]at g;rw[Rat.intCast_mul,Rat.intCast_mul]at h
 have j:((17:Int):Rat)=17:=rfl
 have l2:((10:Int):Rat)=10:=rfl
 rw[j,l2]at g h;have i:=dS;exact⟨Rat.le_of_mul_le_mul_right (c:=SR) (by grind) i,Rat.le_of_mul_le_mul_right (c:=SR) (by grind) i⟩
theorem ja (x:Int)(z:Rat):fJ x z=if qI x%2=0 then aC (fz x z)else -aC (fz x z):=rfl
