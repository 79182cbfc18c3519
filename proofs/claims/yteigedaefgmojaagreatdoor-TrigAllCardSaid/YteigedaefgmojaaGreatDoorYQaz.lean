/-
 Contracts that the proof rests on.
-/
import Derived.Test.YteigedaefgmojaaGreatDoorYQay
namespace Go.Proofs.YteigedaefgmojaaGreatDoor
open Go.Proofs.Tryz
set_option maxHeartbeats 16000000
open Go.RowKit
set_option linter.unusedVariables false
set_option linter.unusedSimpArgs false
set_option maxRecDepth 100000
theorem lz{w:World}{A:Option Addr}{n c:Nat}{s:Bool}{x:Int}{B:Option Addr}{m d:Nat}{t:Bool}{y:Int}{q:Int}(h:Wr w s A n c x)(k:Wr w t B m d y)(hn:n<=268435456)(hm:m<=268435456)(h0:y≠0)(hq:x.fdiv y=q):Calls prog 142 #[.agg #[.bool s,.slice A n c],.agg #[.bool t,.slice B m d]] w (W1 w (n+m+4) q):=by
 go_enter func142,ntmps142
 go_upto_region 1 with fail
 generalize u:((w.alloc _).alloc _).alloc _=w1 at *;obtain⟨O,P,a,e⟩:=Bo.en3 u;replace h:=h.below e.out;replace k:=k.below e.out;clear u;have I:=O.cell;have J:=P.cell
 go_wp2_with fail
 refine(F0 h k (by omega) (by omega) h0 hq rfl).mono ?_;rintro T z ⟨p,j,o,l,s9,A9,n9,c9,rfl,i,R,U,V,B⟩;clear I J;replace a:=a.b B;replace e:=aj e B;clear B;clear h k;clear O P
 go_upto_region 2 with fail
 have g:(World.alloc z (.cells #[.bool p,.slice j o l] 43)).heap.size=z.heap.size+1:=by simp
 have F:=a.lt;have D:=ab z (.cells #[.bool p,.slice j o l] 43);replace a:=a.b D;replace i:=i.b D;replace e:=ie (bt e.out D);have r:=Bo.new z #[.bool p,.slice j o l] 43;generalize f:World.alloc z (.cells #[.bool p,.slice j o l] 43)=S at *;clear f
 have H:=a.lt;have G:=r.lt;generalize f:S.alloc _=W at *;obtain⟨Q,N⟩:=Bo.nw f;clear f;refine dk ?_ a r i e N;clear a r i e N;intro a r i e;rw[g]at Q;clear g;clear R;have M:=a.cell;have C:=a.frozen;have L:=r.cell;go_wp2;clear M C L
 have E:=ae.t2 a p j o l;replace i:=i.s E;exact bq (v:= .agg #[.bool p,.slice j o l]) (by simp[results,results142,go_sem,E.box.cell]) rfl ⟨p,j,o,l,rfl,i,by omega,(E.below e.out (by omega))⟩
def Jo.TFact.w2t (x y:Int):Jo.TFact #[.bool false,.slice none 0 0] 43:=⟨fun v w=>∃s1 A1 n1 c1 s2 A2 n2 c2,v= .tuple #[.agg #[.bool s1,.slice A1 n1 c1],.agg #[.bool s2,.slice A2 n2 c2],.bool true]/\Wn w s1 A1 n1 c1 x/\Wn w s2 A2 n2 c2 y/\n1<=1000000000/\n2<=1000000000,fun v w w' h b=>by
 obtain⟨s1,A1,n1,c1,s2,A2,n2,c2,e,p,q,k,l⟩:=h
 exact⟨s1,A1,n1,c1,s2,A2,n2,c2,e,p.below b,q.below b,k,l⟩,fun v w w' g cs h S=>by
 obtain⟨s1,A1,n1,c1,s2,A2,n2,c2,e,p,q,k,l⟩:=h;exact⟨s1,A1,n1,c1,s2,A2,n2,c2,e,p.stn S (by simp[no32]),q.stn S (by simp[no32]),k,l⟩⟩
def Jo.TFact.wn (x:Int)(K:Nat):Jo.TFact #[.bool false,.slice none 0 0] 43:=⟨fun v w=>∃s1 A1 n1 c1,v= .agg #[.bool s1,.slice A1 n1 c1]/\Wn w s1 A1 n1 c1 x/\n1<=K,fun v w w' h b=>by
 obtain⟨s1,A1,n1,c1,e,p,k⟩:=h
 exact⟨s1,A1,n1,c1,e,p.below b,k⟩,fun v w w' g cs h S=>by
 obtain⟨s1,A1,n1,c1,e,p,k⟩:=h;exact⟨s1,A1,n1,c1,e,p.stn S (by simp[no32]),k⟩⟩
theorem CH{x:Int}{b:Bool}(h:decide (x%2=1)=b):(ah (x.fmod 2) 0 !=0)=b:=by
 rw[<-h,Int.fmod_eq_emod_of_nonneg _ (by decide)]
 rcases Int.emod_two_eq x with e | e <;> rw[e] <;> rfl
theorem Iw{w:World}{A:Option Addr}{n c:Nat}{s:Bool}{x:Int}{b:Bool}(h:Wr w s A n c x)(hn:n<=1000000)(hb:decide (x%2=1)=b):Calls prog 169 #[.agg #[.bool s,.slice A n c]] w (PB w b):=by
 obtain⟨r,hr⟩:∃r,x.fmod 2=r:=⟨_,rfl⟩;obtain⟨σ,hσ⟩:∃σ,ah r 0=σ:=⟨_,rfl⟩;have Q:=CH hb;rw[hr,hσ]at Q;have HR:=ie hr;have HS:=ie hσ;have HC:=ie Q;clear hr hσ Q
 go_enter func169,ntmps169
 go_upto_region 1 with fail
 generalize O:w.alloc _=w1 at *;obtain⟨X1,l⟩:=Bo.en1 O;replace h:=h.below l.out;clear O;have hD:=X1.lt;have hC:=l.out.size
 refine Jo.region_quad (old:= #[.bool false,.slice none 0 0]) (R:=43) (T:=[0,1,2,3,4,5,6,7,8,9,10]) (ds:=[some 7,some 8,some 9,some 6,some 10,some 11,some 12,some 3,some 4,none,none,some 5]) (ls:=[[],[],[0,1],[2],[3],[3],[3],[],[],[4,7,8],[5,7,8],[]]) (k:=12) (L:=[(some 7,0),(some 8,1),(some 9,2),(some 6,3),(some 10,4),(some 11,5),(some 12,6),(some 3,7),(some 4,8),(none,9),(none,10)]) (fuel:=1) (w1:=w1) (p:=7) (q:=8) (s:=9) (e:=4) (s2:=10) (e2:=5)
  (F:=[Jo.TFact.eq (.agg #[.bool s,.slice A n c]),Jo.TFact.wn (2) (2),Jo.TFact.w2t (x.fdiv 2) r,Jo.TFact.w2t (x.fdiv 2) r,Jo.TFact.wn (x.fdiv 2) (1000000000),Jo.TFact.wn (r) (1000000000),Jo.TFact.eq (.bool true),Jo.TFact.any,Jo.TFact.any,Jo.TFact.any,Jo.TFact.any,Jo.TFact.any])
  (by decide) (by decide) (by decide) (by decide) (by kernel_rfl) (by kernel_rfl) (by decide) rfl rfl ?_ (fun vs w2 hJ hd hpq=>?_)
 ·refine Jo.xcons (i:=0) (o:=⟨some 7,_,_,_,_,_⟩) (di:=some 7) (L:=[]) (f:=Jo.TFact.eq (.agg #[.bool s,.slice A n c])) (by decide) (by decide) (by decide) (by decide) rfl rfl rfl rfl (fun vs wj hJ hd K hK=>?_) ?_
  ·clear hd;simp only[Jo.putl,Jo.ze,Act.put,Jo.za,Jo.zb,Jo.zc]at hK|-
   have hE:World.cell? wj ⟨w.heap.size,0,none⟩=some (.bool s):=(X1.b hJ).cell 0
   have hF:World.cell? wj ⟨w.heap.size,1,none⟩=some (.slice A n c):=(X1.b hJ).cell 1
   go_simp;exact hK.out _ _ rfl (br _ _)
  refine Jo.xcons (i:=1) (o:=⟨some 8,_,_,_,_,_⟩) (di:=some 8) (L:=[]) (f:=Jo.TFact.wn (2) (2)) (by decide) (by decide) (by decide) (by decide) rfl rfl rfl rfl (fun vs wj hJ hd K hK=>?_) ?_
  ·clear hd;simp only[Jo.putl,Jo.ze,Act.put,Jo.za,Jo.zb,Jo.zc]at hK|-;go_simp;exact Jo.w1 (dU 2 _ (by decide) (by decide)) hK.out
  refine Jo.xcons (i:=2) (o:=⟨some 9,_,_,_,_,_⟩) (di:=some 9) (L:=[(some 7,0),(some 8,1)]) (f:=Jo.TFact.w2t (x.fdiv 2) r) (by decide) (by decide) (by decide) (by decide) rfl rfl rfl rfl (fun vs wj hJ hd K hK=>?_) ?_
  ·have d:(Jo.TFact.eq (.agg #[.bool s,.slice A n c]):Jo.TFact #[.bool false,.slice none 0 0] 43).P (vs 0) wj:=hd 0 (by decide)
   have H:(Jo.TFact.wn (2) (2):Jo.TFact #[.bool false,.slice none 0 0] 43).P (vs 1) wj:=hd 1 (by decide)
   simp only[Jo.putl,Jo.zd,Jo.ze,Act.put,Jo.za,Jo.zb,Jo.zc]at hK|-;clear hd;generalize vs 0=u0 at hK d|-;generalize vs 1=u1 at hK H|-
   replace d:u0=_:=d
   subst d;obtain⟨hA,bD,gS,bH,rfl,Y,gB⟩:=H;go_simp;refine(F0 (h.b hJ) Y.wr (by omega) (by omega) (by decide) rfl HR.out).mono ?_;rintro z wk ⟨y,j,t,m,s9,A9,n9,c9,rfl,u,v,S,U,B⟩;exact hK.out _ _ ⟨y,j,t,m,s9,A9,n9,c9,rfl,u,v,by omega,by omega⟩ B
  refine Jo.xcons (i:=3) (o:=⟨some 6,_,_,_,_,_⟩) (di:=some 6) (L:=[(some 9,2)]) (f:=Jo.TFact.w2t (x.fdiv 2) r) (by decide) (by decide) (by decide) (by decide) rfl rfl rfl rfl (fun vs wj hJ hd K hK=>?_) ?_
  ·have I:(Jo.TFact.w2t (x.fdiv 2) r:Jo.TFact #[.bool false,.slice none 0 0] 43).P (vs 2) wj:=hd 2 (by decide)
   clear hd;simp only[Jo.putl,Jo.zd,Jo.ze,Act.put,Jo.za,Jo.zb,Jo.zc]at hK|-;generalize vs 2=u2 at hK I|-;obtain⟨y,j,t,m,s9,A9,n9,c9,rfl,u,v,S,U⟩:=I;go_simp;exact hK.out _ _ ⟨y,j,t,m,s9,A9,n9,c9,rfl,u,v,by omega,by omega⟩ (br _ _)
  refine Jo.xcons (i:=4) (o:=⟨some 10,_,_,_,_,_⟩) (di:=some 10) (L:=[(some 6,3)]) (f:=Jo.TFact.wn (x.fdiv 2) (1000000000)) (by decide) (by decide) (by decide) (by decide) rfl rfl rfl rfl (fun vs wj hJ hd K hK=>?_) ?_
  ·have a:(Jo.TFact.w2t (x.fdiv 2) r:Jo.TFact #[.bool false,.slice none 0 0] 43).P (vs 3) wj:=hd 3 (by decide)
   clear hd;simp only[Jo.putl,Jo.zd,Jo.ze,Act.put,Jo.za,Jo.zb,Jo.zc]at hK|-;generalize vs 3=u3 at hK a|-;obtain⟨y,j,t,m,s9,A9,n9,c9,rfl,u,v,S,U⟩:=a;go_simp;exact hK.out _ _ ⟨y,j,t,m,rfl,u,S⟩ (br _ _)
  refine Jo.xcons (i:=5) (o:=⟨some 11,_,_,_,_,_⟩) (di:=some 11) (L:=[(some 6,3)]) (f:=Jo.TFact.wn (r) (1000000000)) (by decide) (by decide) (by decide) (by decide) rfl rfl rfl rfl (fun vs wj hJ hd K hK=>?_) ?_
  ·have a:(Jo.TFact.w2t (x.fdiv 2) r:Jo.TFact #[.bool false,.slice none 0 0] 43).P (vs 3) wj:=hd 3 (by decide)
   clear hd;simp only[Jo.putl,Jo.zd,Jo.ze,Act.put,Jo.za,Jo.zb,Jo.zc]at hK|-;generalize vs 3=u3 at hK a|-;obtain⟨y,j,t,m,s9,A9,n9,c9,rfl,u,v,S,U⟩:=a;go_simp;exact hK.out _ _ ⟨s9,A9,n9,c9,rfl,v,U⟩ (br _ _)
  refine Jo.xcons (i:=6) (o:=⟨some 12,_,_,_,_,_⟩) (di:=some 12) (L:=[(some 6,3)]) (f:=Jo.TFact.eq (.bool true)) (by decide) (by decide) (by decide) (by decide) rfl rfl rfl rfl (fun vs wj hJ hd K hK=>?_) ?_
  ·have a:(Jo.TFact.w2t (x.fdiv 2) r:Jo.TFact #[.bool false,.slice none 0 0] 43).P (vs 3) wj:=hd 3 (by decide)
   clear hd;simp only[Jo.putl,Jo.zd,Jo.ze,Act.put,Jo.za,Jo.zb,Jo.zc]at hK|-;generalize vs 3=u3 at hK a|-;obtain⟨y,j,t,m,s9,A9,n9,c9,rfl,u,v,S,U⟩:=a;go_simp;exact hK.out _ _ rfl (br _ _)
  refine Jo.xnew (i:=7) (o:=⟨some 3,_,_,_,_,_⟩) (di:=some 3) (L:=[]) (by decide) (by decide) (by decide) (by decide) rfl rfl rfl rfl (fun vs wj K hK=>?_) ?_
  ·simp only[Jo.putl,Jo.ze,Act.put,Jo.za,Jo.zb,Jo.zc]at hK|-;go_simp;exact hK.out
  refine Jo.xnew (i:=8) (o:=⟨some 4,_,_,_,_,_⟩) (di:=some 4) (L:=[]) (by decide) (by decide) (by decide) (by decide) rfl rfl rfl rfl (fun vs wj K hK=>?_) ?_
  ·simp only[Jo.putl,Jo.ze,Act.put,Jo.za,Jo.zb,Jo.zc]at hK|-;go_simp;exact hK.out
  refine Jo.xsto (o:=⟨none,_,_,_,_,_⟩) (di:=none) (L:=[(some 10,4),(some 3,7),(some 4,8)]) (by decide) (by decide) (by decide) (by decide) rfl rfl rfl rfl (fun vs wj hJ hd g hg X K hK=>?_) ?_
  ·have J:(Jo.TFact.wn (x.fdiv 2) (1000000000):Jo.TFact #[.bool false,.slice none 0 0] 43).P (vs 4) wj:=hd 4 (by decide)
   clear hd;simp only[Jo.putl,Jo.zd,Jo.ze,Act.put,Jo.za,Jo.zb,Jo.zc]at hK|-;simp only[hg]at hK|-;clear hg;generalize vs 4=u4 at hK J|-;generalize vs 8=u8 at hK|-;obtain⟨bB,C,V,E,rfl,Z,gO⟩:=J;have xX:=X.cell;have zX:=X.frozen;go_simp;have SX:=ae.t2 X bB C V E;exact hK.out undef _ _ rfl SX
  refine Jo.xsto2 (o:=⟨none,_,_,_,_,_⟩) (di:=none) (L:=[(some 11,5),(some 3,7),(some 4,8)]) (by decide) (by decide) (by decide) (by decide) rfl rfl rfl rfl (fun vs wj hJ hd g hg X K hK=>?_) ?_
  ·have M:(Jo.TFact.wn (r) (1000000000):Jo.TFact #[.bool false,.slice none 0 0] 43).P (vs 5) wj:=hd 5 (by decide)
   clear hd;simp only[Jo.putl,Jo.zd,Jo.ze,Act.put,Jo.za,Jo.zb,Jo.zc]at hK|-;simp only[hg]at hK|-;clear hg;generalize vs 5=u5 at hK M|-;generalize vs 7=u7 at hK|-;obtain⟨bC,D,W,G,rfl,bA,gP⟩:=M;have xX:=X.cell;have zX:=X.frozen;go_simp;have SX:=ae.t2 X bC D W G;exact hK.out undef _ _ rfl SX
  exact Jo.StepsI.nil
 have d:(Jo.TFact.eq (.agg #[.bool s,.slice A n c]):Jo.TFact #[.bool false,.slice none 0 0] 43).P (vs 0) w2:=hd 0 (by decide)
 have H:(Jo.TFact.wn (2) (2):Jo.TFact #[.bool false,.slice none 0 0] 43).P (vs 1) w2:=hd 1 (by decide)
 have I:(Jo.TFact.w2t (x.fdiv 2) r:Jo.TFact #[.bool false,.slice none 0 0] 43).P (vs 2) w2:=hd 2 (by decide)
 have a:(Jo.TFact.w2t (x.fdiv 2) r:Jo.TFact #[.bool false,.slice none 0 0] 43).P (vs 3) w2:=hd 3 (by decide)
 have J:(Jo.TFact.wn (x.fdiv 2) (1000000000):Jo.TFact #[.bool false,.slice none 0 0] 43).P (vs 4) w2:=hd 4 (by decide)
 have M:(Jo.TFact.wn (r) (1000000000):Jo.TFact #[.bool false,.slice none 0 0] 43).P (vs 5) w2:=hd 5 (by decide)
 have d6:(Jo.TFact.eq (.bool true):Jo.TFact #[.bool false,.slice none 0 0] 43).P (vs 6) w2:=hd 6 (by decide)
 clear hd;obtain⟨g3,g4,hG,hH,ep,N,hI,hL,bN,z,ff,X3,X4⟩:=hpq;simp only[Jo.putl,Jo.zd,Jo.ze,Act.put,Jo.za,Jo.zb,Jo.zc];simp only[ep,N];clear ep N;generalize vs 0=u0 at d|-;generalize vs 1=u1 at H|-;generalize vs 2=u2 at I|-;generalize vs 3=u3 at a|-;generalize vs 4=u4 at J z|-;generalize vs 5=u5 at M ff|-;generalize vs 6=u6 at d6|-
 generalize vs 9=u9 at|-;generalize vs 10=hM at|-;clear vs
 replace d:u0=_:=d
 subst d;obtain⟨hA,bD,gS,bH,rfl,Y,gB⟩:=H
 obtain- :=I
 obtain- :=a
 obtain⟨bB,C,V,E,rfl,Z,gO⟩:=J;obtain⟨bC,D,W,G,rfl,bA,gP⟩:=M
 replace d6:u6=_:=d6
 subst d6
 injection z with z
 subst z
 injection ff with ff
 subst ff;replace l:=aj l hJ;clear h Z;clear X1
 refine jn 11 fun K hK=>?_
 go_simp;refine hK.out _ _ ?_;clear hK K;refine jd ?_
 go_upto_region 2 with fail
 have hB:=X4.cell
 go_wp2_with fail
 refine(fU bA.wr HS.out).mono ?_;rintro z w5 ⟨rfl,B⟩;clear hB;replace l:=aj l B;clear B;have Q:=HC.out;go_wp2
 go_ret
 exact⟨by first | rfl | (show Ending.returned (Value.bool _)=_;rw[Q]),l.out⟩
theorem D4{x:Int}(hx: -(4*SC)<=x/\x<=4*SC):∀j:Nat,-(4*SC*16^j)<=ti x j/\ti x j<=4*SC*16^j
 | 0=>by
  show -(4*SC*1)<=x/\x<=4*SC*1
  omega
 | j+1=>by
  obtain⟨a,b⟩:=D4 hx j
  have e:(4*SC*16^(j+1):Int)=4*SC*16^j*16:=by rw[Int.pow_succ,<-Int.mul_assoc]
  have step:∀t T:Int,-T<=t/\t<=T->0<=T-> -(T*4)<=t*x/SC/\t*x/SC<=T*4:=by
   intro t T h i
   have m:(t*x).natAbs<=T.natAbs*(4*SC).natAbs:=by
    rw[Int.natAbs_mul];exact Nat.mul_le_mul (by omega) (by omega)
   rw[<-Int.natAbs_mul]at m
   have k:0<=T*(4*SC):=Int.mul_nonneg i (by decide)
   have c:T*(4*SC)=T*4*SC:=(Int.mul_assoc _ _ _).symm
   have l: -(T*4)*SC<=t*x:=by rw[Int.neg_mul,<-c];omega
   have n:t*x<=T*4*SC:=by rw[<-c];omega
   exact⟨Int.le_ediv_of_mul_le (by decide) l,Int.ediv_le_of_le_mul (by decide) n⟩
  have p0:(0:Int)<=4*SC*16^j:=Int.mul_nonneg (by decide) (Int.le_of_lt (Int.pow_pos (by decide)))
  have s1:=step _ _ ⟨a,b⟩ p0;have s2:=step _ _ s1 (by omega)
  have f:∀u d:Int,(u/d).natAbs<=u.natAbs:=fun u d=>Int.natAbs_ediv_le_natAbs u d
  rw[e];have g:=f (ti x j*x/SC*x/SC) (2*((j:Int)+1)*(2*((j:Int)+1)+1))
  show -(4*SC*16^j*16)<= -(ti x j*x/SC*x/SC/ (2*((j:Int)+1)*(2*((j:Int)+1)+1)))/\ -(ti x j*x/SC*x/SC/ (2*((j:Int)+1)*(2*((j:Int)+1)+1)))<=4*SC*16^j*16
  generalize 4*SC*16^j=T at *;generalize ti x j*x/SC*x/SC/ (2*((j:Int)+1)*(2*((j:Int)+1)+1))=q at *;generalize ti x j*x/SC*x/SC=u at *
  omega
theorem sh{x:Int}(hx: -(4*SC)<=x/\x<=4*SC){j:Nat}(hj:j<=40):(ti x j).natAbs < 4294967296^12:=by
 obtain⟨a,b⟩:=D4 hx j
 have m:(16:Int)^j<=16^40:=by
  have q:=Nat.pow_le_pow_right (n:=16) (by decide) hj
  exact_mod_cast q
 have n:4*SC*16^j<=4*SC*16^40:=Int.mul_le_mul_of_nonneg_left m (by decide)
 have e:(4*SC*16^40:Int) < 4294967296^12:=by decide
 have e2:((4294967296:Nat)^12:Nat)=(4294967296^12:Int).toNat:=by decide
 rw[e2];generalize (4294967296^12:Int)=Z at *;generalize 4*SC*16^j=T at *;generalize (4*SC*16^40:Int)=U at *
 omega
def Gk (w:World)(x:Int)(g3 g5 g6:Nat)(s3:Bool)(A3:Option Addr)(n3 c3:Nat)(s9:Bool)(A9:Option Addr)(n9 c9:Nat)(j:Nat)(wr:World):Prop:=∃(s5:Bool) (A5:Option Addr) (n5 c5:Nat) (s6:Bool) (A6:Option Addr) (n6 c6:Nat),Bo wr w.heap.size #[.bool s3,.slice A3 n3 c3] 43/\Bo wr (w.heap.size+1) #[.bool false,.slice none 0 0] 43/\Bo wr g3 #[.bool s9,.slice A9 n9 c9] 43/\Bo wr g5 #[.bool s5,.slice A5 n5 c5] 43/\Bo wr g6 #[.bool s6,.slice A6 n6 c6] 43/\Wn wr s3 A3 n3 c3 x/\Wn wr s9 A9 n9 c9 SC/\Wn wr s6 A6 n6 c6 (ti x j)/\Wn wr s5 A5 n5 c5 (si x j)/\n5<=7+13*j/\j<=40/\Below w.heap.size w wr
theorem Dp{w:World}{A:Option Addr}{n c a:Nat}{s:Bool}{x:Int}(h:Rd w A n c a)(hx:sg s a=x)(hn:n<=100000)(hf:(4*SC) < x):Calls prog 168 #[.agg #[.bool s,.slice A n c]] w (W1 w 300000 0):=by
 obtain⟨σ,M⟩:∃σ,ah x (4*SC)=σ:=⟨_,rfl⟩;obtain⟨τ,N⟩:∃σ,ah x (-(4*SC))=σ:=⟨_,rfl⟩;have e0:=(bL M).2;have e1:=(bL N).1;have X:=ie M;have HT:=ie N;clear M N;rw[dt hf]at e0
 have p:=ie e0;have G:=ie e1;clear e0 e1
 go_enter func168,ntmps168
 go_upto_region 1 with fail
 generalize q:(w.alloc _).alloc _=w1 at *;obtain⟨i,f,g⟩:=Bo.en2 q;replace h:=h.below g.out;clear q
 go_wp2_with fail
 refine(ik).mono ?_;rintro ee w2 ⟨s9,A9,n9,c9,rfl,u,k9,B⟩;refine dk ?_ i f h g B;clear i f h g B;intro i f h g
 go_upto_region 2 with fail
 have R:=i.lt;have S:=f.lt;generalize t:w2.alloc _=w3 at *;obtain⟨Y,W⟩:=Bo.nw t;clear t;refine dG ?_ i f h u g W;clear i f h u g W;intro i f h u g;have bB:=i.lt;have bD:=f.lt;have bC:=Y.lt;have bA:=g.out.size;refine aV [0,1,2,3,4] [12,13,14,15,5,0] [[],[],[0,1],[2],[],[]] 6 1 [Jo.Fact.wn (4) (2),Jo.Fact.eq (.agg #[.bool s9,.slice A9 n9 c9]),Jo.Fact.wl 8 2 [4,SC],Jo.Fact.wn ((4*SC)) (17),Jo.Fact.bo w3.heap.size #[.bool false,.slice none 0 0] 43,Jo.Fact.any] ?_ ?_
 ·refine jm ?_ ?_
  ·rintro m d K e;go_simp;exact Jo.w1 (dU 4 _ (by decide) (by decide)) e.out
  refine jm ?_ ?_
  ·rintro m d K e;have gS:=(Y.b d).cell;go_simp;exact e.out _ _ rfl (br _ _)
  refine jm ?_ ?_
  ·rintro m d _ ⟨T,E,P,H,rfl,l,O⟩ _ rfl K e;go_simp;exact e.out _ _ ⟨_,_,rfl,Wl.lit2 rfl l.wr (u.b d).wr (by omega) (by omega)⟩ (ab _ _)
  refine jm ?_ ?_
  ·rintro m d _ ⟨bH,bN,rfl,J⟩ K e;go_simp;exact Jo.w1 (jp (r:=4*SC) J (by decide) (by decide)) e.out
  refine jm ?_ ?_
  ·rintro m d K e;go_simp;exact e.out _ _ ⟨_,rfl,d.size,Bo.new _ _ _⟩ (ab _ _)
  exact jo
 rintro w4 d _ ⟨T,E,P,H,rfl,l,O⟩ _ rfl _ ⟨_,_,rfl,_⟩ _ ⟨U,F,Q,I,rfl,k,gO⟩ _ ⟨g4,rfl,gB,o⟩ -;simp only[Jo.z];replace i:=i.b d;replace f:=f.b d;replace h:=h.b d;replace g:=aj g d;clear l;have y:=o.cell;have C:=o.frozen
 refine jn 5 fun K e=>?_
 go_simp;refine e.out _ _ ?_;clear e K y C;generalize Z:(w4.setCell _ _).setCell _ _=w5 at *;have j:=ae.of2 o Z;replace i:=i.s j;replace f:=f.s j;replace h:=h.s j;replace k:=k.s j;replace g:=aP g j (by omega);replace o:=j.box;clear j Z;refine jd ?_
 go_upto_region 3 with fail
 refine aV [0,1,2,3,4,5,6,7,8,9,10] [16,17,18,19,20,21,22,23,24,25,26] [[],[],[0,1],[2],[3],[4],[4],[4,6],[4,5,7],[4,8],[4,9]] 11 0 [Jo.Fact.eq (.agg #[.bool s,.slice A n c]),Jo.Fact.eq (.agg #[.bool U,.slice F Q I]),Jo.qi σ,Jo.qb true,Jo.qb true,Jo.qu,Jo.qu,Jo.qu,Jo.qu,Jo.qu,Jo.qb true] ?_ ?_
 ·iterate 2 (refine jm ?_ ?_;rotate_left)
  refine jm ?_ ?_
  ·rintro m d _ rfl _ rfl K e;go_simp;refine(lS (r:=σ) ⟨_,h.b d,hx⟩ (k.b d).wr X.out).mono ?_;rintro ee wk ⟨rfl,B⟩;exact e.out _ _ rfl B
  refine jm ?_ ?_
  ·rintro m d _ rfl K e;have L:=p.out;go_simp
   exact e.out _ _ (by first | rfl | (show Value.bool _=Value.bool _;rw[L]) | simp_all) (br _ _)
  iterate 7 (refine jm ?_ ?_;rotate_left)
  exact jo
  all_goals (rintro m d;(repeat rintro _ rfl);intro K e;have gP:=(i.b d).cell;have y:=(o.b d).cell;go_simp;exact e.out _ _ rfl (br _ _))
 rintro w6 d _ rfl _ rfl _ rfl _ rfl _ rfl _ rfl _ rfl _ rfl _ rfl _ rfl _ rfl -;simp only[Jo.z];replace f:=f.b d;replace g:=aj g d;refine jd ?_;clear k X p HT G;clear o;clear h u;have V:=f.cell;have D:=f.frozen;go_wp2;clear V D;have j:=ae.t2 f false none 0 0;exact bq (v:= .agg #[.bool false,.slice none 0 0]) (by simp[results,results168,go_sem,j.box.cell]) rfl ⟨_,_,_,_,rfl,⟨Nm.zero,rfl⟩,Nat.zero_le _,(j.below g.out (by omega))⟩
theorem Dq{w:World}{A:Option Addr}{n c a:Nat}{s:Bool}{x:Int}(h:Rd w A n c a)(hx:sg s a=x)(hn:n<=100000)(hf0:¬(4*SC) < x)(hf:x < -(4*SC)):Calls prog 168 #[.agg #[.bool s,.slice A n c]] w (W1 w 300000 0):=by
 obtain⟨σ,P⟩:∃σ,ah x (4*SC)=σ:=⟨_,rfl⟩;obtain⟨τ,Q⟩:∃σ,ah x (-(4*SC))=σ:=⟨_,rfl⟩;have e0:=(bL P).2;have e1:=(bL Q).1;have Z:=ie P;have HT:=ie Q;clear P Q;rw[df hf0]at e0;rw[dt hf]at e1;have t:=ie e0;have u:=ie e1;clear e0 e1
 go_enter func168,ntmps168
 go_upto_region 1 with fail
 generalize C:(w.alloc _).alloc _=w1 at *;obtain⟨i,f,g⟩:=Bo.en2 C;replace h:=h.below g.out;clear C
 go_wp2_with fail
 refine(ik).mono ?_;rintro ee w2 ⟨s9,A9,n9,c9,rfl,G,k9,B⟩;refine dk ?_ i f h g B;clear i f h g B;intro i f h g
 go_upto_region 2 with fail
 have U:=i.lt;have V:=f.lt;generalize D:w2.alloc _=w3 at *;obtain⟨X3,Y⟩:=Bo.nw D;clear D;refine dG ?_ i f h G g Y;clear i f h G g Y;intro i f h G g;have bB:=i.lt;have bD:=f.lt;have bC:=X3.lt;have bA:=g.out.size;refine aV [0,1,2,3,4] [12,13,14,15,5,0] [[],[],[0,1],[2],[],[]] 6 1 [Jo.Fact.wn (4) (2),Jo.Fact.eq (.agg #[.bool s9,.slice A9 n9 c9]),Jo.Fact.wl 8 2 [4,SC],Jo.Fact.wn ((4*SC)) (17),Jo.Fact.bo w3.heap.size #[.bool false,.slice none 0 0] 43,Jo.Fact.any] ?_ ?_
 ·refine jm ?_ ?_
  ·rintro l d K e;go_simp;exact Jo.w1 (dU 4 _ (by decide) (by decide)) e.out
  refine jm ?_ ?_
  ·rintro l d K e;have gS:=(X3.b d).cell;go_simp;exact e.out _ _ rfl (br _ _)
  refine jm ?_ ?_
  ·rintro l d _ ⟨W,M,T,N,rfl,o,R⟩ _ rfl K e;go_simp;exact e.out _ _ ⟨_,_,rfl,Wl.lit2 rfl o.wr (G.b d).wr (by omega) (by omega)⟩ (ab _ _)
  refine jm ?_ ?_
  ·rintro l d _ ⟨bH,bN,rfl,O⟩ K e;go_simp;exact Jo.w1 (jp (r:=4*SC) O (by decide) (by decide)) e.out
  refine jm ?_ ?_
  ·rintro l d K e;go_simp;exact e.out _ _ ⟨_,rfl,d.size,Bo.new _ _ _⟩ (ab _ _)
  exact jo
 rintro w4 d _ ⟨W,M,T,N,rfl,o,R⟩ _ rfl _ ⟨_,_,rfl,_⟩ _ ⟨H,q,E,y,rfl,j,gO⟩ _ ⟨g4,rfl,gB,p⟩ -;simp only[Jo.z];replace i:=i.b d;replace f:=f.b d;replace h:=h.b d;replace g:=aj g d;clear o;have I:=p.cell;have J:=p.frozen
 refine jn 5 fun K e=>?_
 go_simp;refine e.out _ _ ?_;clear e K I J;generalize hS:(w4.setCell _ _).setCell _ _=w5 at *;have k:=ae.of2 p hS;replace i:=i.s k;replace f:=f.s k;replace h:=h.s k;replace j:=j.s k;replace g:=aP g k (by omega);replace p:=k.box;clear k hS;refine jd ?_
 go_upto_region 3 with fail
 refine aV [0,1,2,3,4,5,6,7,8,9,10] [16,17,18,19,20,21,22,23,24,25,26] [[],[],[0,1],[2],[3],[4],[4],[4,6],[4,5,7],[4,8],[4,9]] 11 0 [Jo.Fact.eq (.agg #[.bool s,.slice A n c]),Jo.Fact.eq (.agg #[.bool H,.slice q E y]),Jo.qi σ,Jo.qb false,Jo.qb false,Jo.Fact.eq (.agg #[.bool s,.slice A n c]),Jo.Fact.eq (.agg #[.bool H,.slice q E y]),Jo.Fact.wn (-(4*SC)) (17),Jo.qi τ,Jo.qb true,Jo.qb true] ?_ ?_
 ·iterate 2 (refine jm ?_ ?_;rotate_left)
  refine jm ?_ ?_
  ·rintro l d _ rfl _ rfl K e;go_simp;refine(lS (r:=σ) ⟨_,h.b d,hx⟩ (j.b d).wr Z.out).mono ?_;rintro ee wk ⟨rfl,B⟩;exact e.out _ _ rfl B
  refine jm ?_ ?_
  ·rintro l d _ rfl K e;have m:=t.out;go_simp
   exact e.out _ _ (by first | rfl | (show Value.bool _=Value.bool _;rw[m]) | simp_all) (br _ _)
  iterate 3 (refine jm ?_ ?_;rotate_left)
  refine jm ?_ ?_
  ·rintro l d _ rfl _ rfl K e;go_simp;exact Jo.w1 (vJ (j.b d).wr rfl) e.out
  refine jm ?_ ?_
  ·rintro l d _ rfl _ rfl _ ⟨s30,A30,n30,c30,rfl,F,S⟩ K e;go_simp;refine(lS (r:=τ) ⟨_,h.b d,hx⟩ F.wr HT.out).mono ?_;rintro ee wk ⟨rfl,B⟩;exact e.out _ _ rfl B
  refine jm ?_ ?_
  ·rintro l d _ rfl _ rfl K e;have m:=u.out;go_simp
   exact e.out _ _ (by first | rfl | (show Value.bool _=Value.bool _;rw[m]) | simp_all) (br _ _)
  refine jm ?_ ?_;rotate_left
  exact jo
  all_goals (rintro l d;(repeat rintro _ rfl);intro K e;have gP:=(i.b d).cell;have I:=(p.b d).cell;go_simp;exact e.out _ _ rfl (br _ _))
 rintro w6 d _ rfl _ rfl _ rfl _ rfl _ rfl _ rfl _ rfl _ ⟨s30,A30,n30,c30,rfl,F,S⟩ _ rfl _ rfl _ rfl -;simp only[Jo.z];replace f:=f.b d;replace g:=aj g d;refine jd ?_;clear j Z t HT u;clear p;clear h G;have X:=f.cell;have L:=f.frozen;go_wp2;clear X L;have k:=ae.t2 f false none 0 0
 exact bq (v:= .agg #[.bool false,.slice none 0 0]) (by simp[results,results168,go_sem,k.box.cell]) rfl ⟨_,_,_,_,rfl,⟨Nm.zero,rfl⟩,Nat.zero_le _,(k.below g.out (by omega))⟩
theorem vD{w:World}{A:Option Addr}{n c a:Nat}{s:Bool}{x:Int}(h:Rd w A n c a)(hx:sg s a=x)(hn:n<=100000)(hf0:¬(4*SC) < x)(hf:¬x < -(4*SC)):Calls prog 168 #[.agg #[.bool s,.slice A n c]] w (W1 w 300000 (si x 40)):=by
 have gB:x.natAbs < 4294967296^7:=by
  have e:(4294967296:Nat)^7=26959946667150639794667015087019630673637144422540572481103610249216:=by decide
  rw[e]
  unfold SC at hf hf0
  omega
 have hQ:=ie gB
 have hW:Hid (-(4*SC)<=x/\x<=4*SC):=ie ⟨by omega,by omega⟩
 clear gB;obtain⟨σ,hσ⟩:∃σ,ah x (4*SC)=σ:=⟨_,rfl⟩;obtain⟨τ,hτ⟩:∃σ,ah x (-(4*SC))=σ:=⟨_,rfl⟩;have e0:=(bL hσ).2;have e1:=(bL hτ).1;have HS:=ie hσ;have HT:=ie hτ;clear hσ hτ;rw[df hf0]at e0;rw[df hf]at e1;have hN:=ie e0;have hP:=ie e1;clear e0 e1 hf hf0
 go_enter func168,ntmps168
 go_upto_region 1 with fail
 generalize lB:(w.alloc _).alloc _=w1 at *;obtain⟨t,y,C⟩:=Bo.en2 lB;replace h:=h.below C.out;clear lB
 go_wp2_with fail
 refine(ik).mono ?_;rintro ee w2 ⟨s9,A9,n9,c9,rfl,E,k9,B⟩;refine dk ?_ t y h C B;clear t y h C B;intro t y h C
 go_upto_region 2 with fail
 have LA:=t.lt;have LB:=y.lt;generalize qT:w2.alloc _=w3 at *;obtain⟨D,BW⟩:=Bo.nw qT;clear qT;refine dG ?_ t y h E C BW;clear t y h E C BW;intro t y h E C;have S:=t.lt;have V:=y.lt;have U:=D.lt;have LJ:=C.out.size;refine aV [0,1,2,3,4] [12,13,14,15,5,0] [[],[],[0,1],[2],[],[]] 6 1 [Jo.Fact.wn (4) (2),Jo.Fact.eq (.agg #[.bool s9,.slice A9 n9 c9]),Jo.Fact.wl 8 2 [4,SC],Jo.Fact.wn ((4*SC)) (17),Jo.Fact.bo w3.heap.size #[.bool false,.slice none 0 0] 43,Jo.Fact.any] ?_ ?_
 ·refine jm ?_ ?_
  ·rintro G d K l;go_simp;exact Jo.w1 (dU 4 _ (by decide) (by decide)) l.out
  refine jm ?_ ?_
  ·rintro G d K l;have HD:=(D.b d).cell;go_simp;exact l.out _ _ rfl (br _ _)
  refine jm ?_ ?_
  ·rintro G d _ ⟨LC,hL,JV,hX,rfl,hD,JO⟩ _ rfl K l;go_simp;exact l.out _ _ ⟨_,_,rfl,Wl.lit2 rfl hD.wr (E.b d).wr (by omega) (by omega)⟩ (ab _ _)
  refine jm ?_ ?_
  ·rintro G d _ ⟨hM,hY,rfl,JK⟩ K l;go_simp;exact Jo.w1 (jp (r:=4*SC) JK (by decide) (by decide)) l.out
  refine jm ?_ ?_
  ·rintro G d K l;go_simp;exact l.out _ _ ⟨_,rfl,d.size,Bo.new _ _ _⟩ (ab _ _)
  exact jo
 rintro w4 d _ ⟨LC,hL,JV,hX,rfl,hD,JO⟩ _ rfl _ ⟨_,_,rfl,_⟩ _ ⟨bN,bB,bD,bC,rfl,M,JQ⟩ _ ⟨g4,rfl,LY,X4⟩ -;simp only[Jo.z];replace t:=t.b d;replace y:=y.b d;replace D:=D.b d;replace h:=h.b d;replace E:=E.b d;replace C:=aj C d;clear hD;have HE:=X4.cell;have HI:=X4.frozen
 refine jn 5 fun K l=>?_
 go_simp;refine l.out _ _ ?_;clear l K HE HI;generalize O:(w4.setCell _ _).setCell _ _=w5 at *;have m:=ae.of2 X4 O;replace t:=t.s m;replace y:=y.s m;replace D:=D.s m;replace h:=h.s m;replace E:=E.s m;replace M:=M.s m;replace C:=aP C m (by omega)
 replace X4:=m.box;clear m O;refine jd ?_
 go_upto_region 3 with fail
 refine aV [0,1,2,3,4,5,6,7,8,9,10] [16,17,18,19,20,21,22,23,24,25,26] [[],[],[0,1],[2],[3],[4],[4],[4,6],[4,5,7],[4,8],[4,9]] 11 0 [Jo.Fact.eq (.agg #[.bool s,.slice A n c]),Jo.Fact.eq (.agg #[.bool bN,.slice bB bD bC]),Jo.qi σ,Jo.qb false,Jo.qb false,Jo.Fact.eq (.agg #[.bool s,.slice A n c]),Jo.Fact.eq (.agg #[.bool bN,.slice bB bD bC]),Jo.Fact.wn (-(4*SC)) (17),Jo.qi τ,Jo.qb false,Jo.qb false] ?_ ?_
 ·iterate 2 (refine jm ?_ ?_;rotate_left)
  refine jm ?_ ?_
  ·rintro G d _ rfl _ rfl K l;go_simp;refine(lS (r:=σ) ⟨_,h.b d,hx⟩ (M.b d).wr HS.out).mono ?_;rintro ee wk ⟨rfl,B⟩;exact l.out _ _ rfl B
  refine jm ?_ ?_
  ·rintro G d _ rfl K l;have hA:=hN.out;go_simp
   exact l.out _ _ (by first | rfl | (show Value.bool _=Value.bool _;rw[hA]) | simp_all) (br _ _)
  iterate 3 (refine jm ?_ ?_;rotate_left)
  refine jm ?_ ?_
  ·rintro G d _ rfl _ rfl K l;go_simp;exact Jo.w1 (vJ (M.b d).wr rfl) l.out
  refine jm ?_ ?_
  ·rintro G d _ rfl _ rfl _ ⟨s30,A30,n30,c30,rfl,DS,JR⟩ K l;go_simp;refine(lS (r:=τ) ⟨_,h.b d,hx⟩ DS.wr HT.out).mono ?_;rintro ee wk ⟨rfl,B⟩;exact l.out _ _ rfl B
  refine jm ?_ ?_
  ·rintro G d _ rfl _ rfl K l;have hA:=hP.out;go_simp
   exact l.out _ _ (by first | rfl | (show Value.bool _=Value.bool _;rw[hA]) | simp_all) (br _ _)
  refine jm ?_ ?_;rotate_left
  exact jo
  all_goals (rintro G d;(repeat rintro _ rfl);intro K l;have W:=(t.b d).cell;have HE:=(X4.b d).cell;go_simp;exact l.out _ _ rfl (br _ _))
 rintro w6 d _ rfl _ rfl _ rfl _ rfl _ rfl _ rfl _ rfl _ ⟨s30,A30,n30,c30,rfl,DS,JR⟩ _ rfl _ rfl _ rfl -;simp only[Jo.z];replace t:=t.b d;replace y:=y.b d;replace D:=D.b d;replace h:=h.b d;replace E:=E.b d;replace M:=M.b d;replace C:=aj C d;refine jd ?_;clear M HS hN HT hP;clear X4
 have W:=t.cell
 go_wp2_with fail
 refine(ic s h).mono ?_;rintro ee w7 ⟨s3,A3,n3,c3,rfl,H,k3,B⟩;clear W;refine jD ?_ t y D h E C B;clear t y D h E C B;intro t y D h E C;clear h;replace H:=hx▸H;clear hx;have LW:=H.fits hQ.out;clear hQ;have W:=t.cell;have HH:=t.frozen
 go_upto_region 6 with fail
 clear W HH;generalize O:(w7.setCell _ _).setCell _ _=w8 at *;have m:=ae.of2 t O;replace y:=y.s m;replace D:=D.s m;replace E:=E.s m;replace H:=H.s m;replace C:=aP C m (by omega);replace t:=m.box;clear m O;have S:=t.lt;have V:=y.lt;have U:=D.lt
 have LN:=C.out.size
 refine Jo.region_trip (old:= #[.bool false,.slice none 0 0]) (R:=43) (T:=[0,1,2,3,4]) (ds:=[some 32,some 33,some 5,some 6,none,none]) (ls:=[[],[],[],[],[0,2,3],[]]) (k:=6) (L:=[(some 32,0),(some 33,1),(some 5,2),(some 6,3),(none,4)]) (fuel:=1) (w1:=w8) (p:=2) (q:=3) (s:=4) (e:=0) (s2:=999) (e2:=999)
  (F:=[Jo.TFact.eq (.agg #[.bool s3,.slice A3 n3 c3]),Jo.TFact.eq (.agg #[.bool s3,.slice A3 n3 c3]),Jo.TFact.any,Jo.TFact.any,Jo.TFact.any,Jo.TFact.any])
  (by decide) (by decide) (by decide) (by decide) (by kernel_rfl) (by kernel_rfl) (by decide) rfl rfl ?_ (fun vs w9 d hd hpq=>?_)
 ·refine Jo.xcons (i:=0) (o:=⟨some 32,_,_,_,_,_⟩) (di:=some 32) (L:=[]) (f:=Jo.TFact.eq (.agg #[.bool s3,.slice A3 n3 c3])) (by decide) (by decide) (by decide) (by decide) rfl rfl rfl rfl (fun vs G d hd K l=>?_) ?_
  ·clear hd;simp only[Jo.putl,Jo.ze,Act.put,Jo.za,Jo.zb,Jo.zc]at l|-
   have HA:World.cell? G ⟨w.heap.size,0,none⟩=some (.bool s3):=(t.b d).cell 0
   have HC:World.cell? G ⟨w.heap.size,1,none⟩=some (.slice A3 n3 c3):=(t.b d).cell 1
   go_simp;exact l.out _ _ rfl (br _ _)
  refine Jo.xcons (i:=1) (o:=⟨some 33,_,_,_,_,_⟩) (di:=some 33) (L:=[]) (f:=Jo.TFact.eq (.agg #[.bool s3,.slice A3 n3 c3])) (by decide) (by decide) (by decide) (by decide) rfl rfl rfl rfl (fun vs G d hd K l=>?_) ?_
  ·clear hd;simp only[Jo.putl,Jo.ze,Act.put,Jo.za,Jo.zb,Jo.zc]at l|-
   have HA:World.cell? G ⟨w.heap.size,0,none⟩=some (.bool s3):=(t.b d).cell 0
   have HC:World.cell? G ⟨w.heap.size,1,none⟩=some (.slice A3 n3 c3):=(t.b d).cell 1
   go_simp;exact l.out _ _ rfl (br _ _)
  refine Jo.xnew (i:=2) (o:=⟨some 5,_,_,_,_,_⟩) (di:=some 5) (L:=[]) (by decide) (by decide) (by decide) (by decide) rfl rfl rfl rfl (fun vs G K l=>?_) ?_
  ·simp only[Jo.putl,Jo.ze,Act.put,Jo.za,Jo.zb,Jo.zc]at l|-;go_simp;exact l.out
  refine Jo.xnew (i:=3) (o:=⟨some 6,_,_,_,_,_⟩) (di:=some 6) (L:=[]) (by decide) (by decide) (by decide) (by decide) rfl rfl rfl rfl (fun vs G K l=>?_) ?_
  ·simp only[Jo.putl,Jo.ze,Act.put,Jo.za,Jo.zb,Jo.zc]at l|-;go_simp;exact l.out
  refine Jo.xsto (o:=⟨none,_,_,_,_,_⟩) (di:=none) (L:=[(some 32,0),(some 5,2),(some 6,3)]) (by decide) (by decide) (by decide) (by decide) rfl rfl rfl rfl (fun vs G d hd g hg X K l=>?_) ?_
  ·have d0:(Jo.TFact.eq (.agg #[.bool s3,.slice A3 n3 c3]):Jo.TFact #[.bool false,.slice none 0 0] 43).P (vs 0) G:=hd 0 (by decide)
   clear hd;simp only[Jo.putl,Jo.zd,Jo.ze,Act.put,Jo.za,Jo.zb,Jo.zc]at l|-;simp only[hg]at l|-;clear hg;generalize vs 0=u0 at l d0|-;generalize vs 3=u3 at l|-
   replace d0:u0=_:=d0
   subst d0;have xX:=X.cell;have zX:=X.frozen;go_simp;have m:=ae.t2 X s3 A3 n3 c3;exact l.out undef _ _ rfl m
  exact Jo.StepsI.nil
 have d0:(Jo.TFact.eq (.agg #[.bool s3,.slice A3 n3 c3]):Jo.TFact #[.bool false,.slice none 0 0] 43).P (vs 0) w9:=hd 0 (by decide)
 have d1:(Jo.TFact.eq (.agg #[.bool s3,.slice A3 n3 c3]):Jo.TFact #[.bool false,.slice none 0 0] 43).P (vs 1) w9:=hd 1 (by decide)
 clear hd;obtain⟨g5,g6,LV,ep,hZ,LZ,MA,hC,ee,J,I⟩:=hpq;simp only[Jo.putl,Jo.zd,Jo.ze,Act.put,Jo.za,Jo.zb,Jo.zc];simp only[ep,hZ];clear ep hZ;generalize vs 0=u0 at d0 ee|-;generalize vs 1=u1 at d1|-;generalize vs 4=u4 at|-;clear vs
 replace d0:u0=_:=d0
 subst d0
 replace d1:u1=_:=d1
 subst d1
 injection ee with ee
 subst ee;replace t:=t.b d;replace y:=y.b d;replace D:=D.b d;replace E:=E.b d;replace H:=H.b d;replace C:=aj C d;have Y:=I.cell;have bA:=I.frozen
 refine jn 5 fun K l=>?_
 go_simp;refine l.out _ _ ?_;clear l K Y bA;generalize O:(w9.setCell _ _).setCell _ _=wB at *;have m:=ae.of2 I O;replace t:=t.s m;replace y:=y.s m;replace D:=D.s m;replace J:=J.s m;replace E:=E.s m;replace H:=H.s m;replace C:=aP C m (by omega)
 replace I:=m.box;clear m O;refine jd ?_
 go_upto_region 7 with fail
 generalize LX:w2.heap.size=g3 at *
 have G1:w.heap.size+1 < g3/\g3 < g5/\g3 < g6/\g5≠g6:=⟨by omega,by omega,by omega,hC⟩
 have lA:Gk w x g3 g5 g6 s3 A3 n3 c3 s9 A9 n9 c9 0 wB:=⟨_,_,_,_,_,_,_,_,t,y,D,J,I,H,E,H,H,by omega,by decide,C.out⟩
 have hR:=ie lA;clear lA y t D J I H E C;go_wp2
 go_loopw [7] (fun i wr=>∃j:Nat,i= .int .i64 ((j:Int)+1)/\Gk w x g3 g5 g6 s3 A3 n3 c3 s9 A9 n9 c9 j wr) (fun i _=>41-(intOf i).toNat)
 case atStart=>exact ⟨0,rfl,hR.out⟩
 case round=>
  obtain⟨j,rfl,s5,A5,n5,c5,s6,A6,n6,c6,t,y,D,J,I,H,E,p6,Q,k5,hj,hB⟩:=hrel;have C:=ie hB;have LI:=p6.fits (sh hW.out hj);clear hB hR
  by_cases hlt:j < 40
  ·have ET:decide ((j:Int)+1<=40)=true:=dt (by omega)
   have hV:=iw (2*((j:Int)+1));have JA:=iw (2*((j:Int)+1)+1);have JB:=jw (2*((j:Int)+1)+1)
   have BX:0<=2*((j:Int)+1)*(2*((j:Int)+1)+1)/\2*((j:Int)+1)*(2*((j:Int)+1)+1)<=80*81/\2*((j:Int)+1)*(2*((j:Int)+1)+1)≠0:=by
    have a:0 < 2*((j:Int)+1)*(2*((j:Int)+1)+1):=Int.mul_pos (by omega) (by omega)
    exact⟨Int.le_of_lt a,Int.mul_le_mul (by omega) (by omega) (by omega) (by omega),by omega⟩
   have JC:=iw (2*((j:Int)+1)*(2*((j:Int)+1)+1));have hU:=ie (sj x j);have gS:=ie BX;clear BX
   have HY:Hid (si x j+ti x (j+1)=si x (j+1)):=ie rfl
   have HU:=ie (sh hW.out (show j+1<=40 by omega))
   generalize hv:ti x (j+1)=T at *;have HV:=ie hv;clear hv;obtain⟨v,hv⟩:∃v,ti x j*x/SC=v:=⟨_,rfl⟩;obtain⟨u,hu⟩:∃u,v*x/SC=u:=⟨_,rfl⟩
   have HW:Hid (tZ [ti x j,x]=ti x j*x):=ie (by show 1*ti x j*x=_;rw[Int.one_mul])
   have HX:Hid (tZ [v,x]=v*x):=ie (by show 1*v*x=_;rw[Int.one_mul])
   have HQ:Hid ((ti x j*x).fdiv SC=v):=ie (by rw[Int.fdiv_eq_ediv_of_nonneg _ (by decide)];exact hv)
   have HR:Hid ((v*x).fdiv SC=u):=ie (by rw[Int.fdiv_eq_ediv_of_nonneg _ (by decide)];exact hu)
   have HZ:Hid (u.fdiv (2*((j:Int)+1)*(2*((j:Int)+1)+1))= -T):=ie (by have q:=hU.out;rw[hv,hu]at q;exact q)
   clear hU hv hu
   go_upto_region 10 with fail
   clear ET;have S:=t.lt;have V:=y.lt;have U:=D.lt;have gO:=J.lt;have gP:=I.lt;have LK:=C.out.size;refine aV [0,1,2,3,4,5,6] [39,40,41,42,43,44,9,0] [[],[],[0,1],[2],[],[3,4],[],[]] 8 1 [Jo.Fact.eq (.agg #[.bool s6,.slice A6 n6 c6]),Jo.Fact.eq (.agg #[.bool s3,.slice A3 n3 c3]),Jo.Fact.wl 12 2 [ti x j,x],Jo.Fact.wn (ti x j*x) (25),Jo.Fact.eq (.agg #[.bool s9,.slice A9 n9 c9]),Jo.Fact.wn (v) (40),Jo.Fact.bo wr.heap.size #[.bool false,.slice none 0 0] 43,Jo.Fact.any] ?_ ?_
   ·iterate 2 (refine jm ?_ ?_;rotate_left)
    refine jm ?_ ?_
    ·rintro G d _ rfl _ rfl K l;go_simp;exact l.out _ _ ⟨_,_,rfl,Wl.lit2 rfl (p6.b d).wr (H.b d).wr (by omega) (by omega)⟩ (ab _ _)
    refine jm ?_ ?_
    ·rintro G d _ ⟨hL,hX,rfl,JJ⟩ K l;go_simp;exact Jo.w1 (jp JJ (by decide) HW.out) l.out
    refine jm ?_ ?_;rotate_left
    refine jm ?_ ?_
    ·rintro G d _ ⟨LD,hM,JW,hY,rfl,hE,JP⟩ _ rfl K l;go_simp;exact Jo.w1 (lz hE.wr (E.b d).wr (by omega) (by omega) (by decide) HQ.out) l.out
    refine jm ?_ ?_
    ·rintro G d K l;go_simp;exact l.out _ _ ⟨_,rfl,d.size,Bo.new _ _ _⟩ (ab _ _)
    exact jo
    all_goals (rintro G d;(repeat rintro _ rfl);intro K l;have Y:=(I.b d).cell;have W:=(t.b d).cell;have HD:=(D.b d).cell;go_simp;exact l.out _ _ rfl (br _ _))
   rintro wb d _ rfl _ rfl _ ⟨_,_,rfl,_⟩ _ ⟨LD,hM,JW,hY,rfl,hE,JP⟩ _ rfl _ ⟨bN,bB,bD,bC,rfl,M,JQ⟩ _ ⟨g8,rfl,MB,X8⟩ -;simp only[Jo.z];replace t:=t.b d;replace y:=y.b d;replace D:=D.b d;replace J:=J.b d;replace I:=I.b d;replace H:=H.b d;replace Q:=Q.b d;replace E:=E.b d;replace C:=aj C d
   clear hE;have HF:=X8.cell;have HK:=X8.frozen
   refine jn 7 fun K l=>?_
   go_simp;refine l.out _ _ ?_;clear l K HF HK;generalize O:(wb.setCell _ _).setCell _ _=wc at *;have m:=ae.of2 X8 O;replace t:=t.s m;replace y:=y.s m;replace D:=D.s m;replace J:=J.s m;replace I:=I.s m;replace H:=H.s m;replace Q:=Q.s m
   replace E:=E.s m;replace M:=M.s m;replace C:=aP C m (by omega);replace X8:=m.box;clear m O;refine jd ?_
   go_upto_region 11 with fail
   have S:=t.lt;have V:=y.lt;have U:=D.lt;have gO:=J.lt;have gP:=I.lt;have LO:=X8.lt;have LL:=C.out.size;refine aV [0,1,2,3,4,5,6] [45,46,47,48,49,50,10,0] [[],[],[0,1],[2],[],[3,4],[],[]] 8 1 [Jo.Fact.eq (.agg #[.bool bN,.slice bB bD bC]),Jo.Fact.eq (.agg #[.bool s3,.slice A3 n3 c3]),Jo.Fact.wl 40 2 [v,x],Jo.Fact.wn (v*x) (81),Jo.Fact.eq (.agg #[.bool s9,.slice A9 n9 c9]),Jo.Fact.wn (u) (100),Jo.Fact.bo wc.heap.size #[.bool false,.slice none 0 0] 43,Jo.Fact.any] ?_ ?_
   ·iterate 2 (refine jm ?_ ?_;rotate_left)
    refine jm ?_ ?_
    ·rintro G d _ rfl _ rfl K l;go_simp;exact l.out _ _ ⟨_,_,rfl,Wl.lit2 rfl (M.b d).wr (H.b d).wr (by omega) (by omega)⟩ (ab _ _)
    refine jm ?_ ?_
    ·rintro G d _ ⟨A30,c30,rfl,JL⟩ K l;go_simp;exact Jo.w1 (jp JL (by decide) HX.out) l.out
    refine jm ?_ ?_;rotate_left
    refine jm ?_ ?_
    ·rintro G d _ ⟨LE,HN,JX,JF,rfl,hF,JS⟩ _ rfl K l;go_simp;exact Jo.w1 (lz hF.wr (E.b d).wr (by omega) (by omega) (by decide) HR.out) l.out
    refine jm ?_ ?_
    ·rintro G d K l;go_simp;exact l.out _ _ ⟨_,rfl,d.size,Bo.new _ _ _⟩ (ab _ _)
    exact jo
    all_goals (rintro G d;(repeat rintro _ rfl);intro K l;have HF:=(X8.b d).cell;have W:=(t.b d).cell;have HD:=(D.b d).cell;go_simp;exact l.out _ _ rfl (br _ _))
   rintro wd d _ rfl _ rfl _ ⟨_,_,rfl,_⟩ _ ⟨LE,HN,JX,JF,rfl,hF,JS⟩ _ rfl _ ⟨s32,A32,n32,c32,rfl,bH,ME⟩ _ ⟨g9,rfl,MC,X9⟩ -;simp only[Jo.z];replace t:=t.b d;replace y:=y.b d;replace D:=D.b d;replace J:=J.b d;replace I:=I.b d;replace H:=H.b d;replace Q:=Q.b d;replace E:=E.b d;replace C:=aj C d
   clear hF M X8;have HG:=X9.cell;have HL:=X9.frozen
   refine jn 7 fun K l=>?_
   go_simp;refine l.out _ _ ?_;clear l K HG HL;generalize O:(wd.setCell _ _).setCell _ _=we at *;have m:=ae.of2 X9 O;replace t:=t.s m;replace y:=y.s m;replace D:=D.s m;replace J:=J.s m;replace I:=I.s m;replace H:=H.s m;replace Q:=Q.s m
   replace E:=E.s m;replace bH:=bH.s m;replace C:=aP C m (by omega);replace X9:=m.box;clear m O;refine jd ?_
   go_upto_region 12 with fail
   have S:=t.lt;have V:=y.lt;have U:=D.lt;have gO:=J.lt;have gP:=I.lt;have LP:=X9.lt;have LM:=C.out.size;refine aV [0,1,2,3,4,5,6,7,8,9] [51,52,53,54,55,56,57,58,59,60,0] [[],[],[1],[],[3],[4],[2,5],[6],[0,7],[8],[]] 11 1 [Jo.Fact.eq (.agg #[.bool s32,.slice A32 n32 c32]),Jo.Fact.eq (.int .i64 ((j:Int)+1)),Jo.Fact.eq (.int .i64 (2*((j:Int)+1))),Jo.Fact.eq (.int .i64 ((j:Int)+1)),Jo.Fact.eq (.int .i64 (2*((j:Int)+1))),Jo.Fact.eq (.int .i64 (2*((j:Int)+1)+1)),Jo.Fact.eq (.int .i64 (2*((j:Int)+1)*(2*((j:Int)+1)+1))),Jo.Fact.wn (2*((j:Int)+1)*(2*((j:Int)+1)+1)) (2),Jo.Fact.wn (-T) (106),Jo.Fact.wn (T) (106),Jo.Fact.any] ?_ ?_
   ·iterate 2 (refine jm ?_ ?_;rotate_left)
    refine jm ?_ ?_
    ·rintro G d _ rfl K l;have hw:=hV.out;go_simp
     exact l.out _ _ (by first | rfl | (show Value.int _ _=Value.int _ _;simp_all)) (br _ _)
    refine jm ?_ ?_;rotate_left
    refine jm ?_ ?_
    ·rintro G d _ rfl K l;have hw:=hV.out;go_simp
     exact l.out _ _ (by first | rfl | (show Value.int _ _=Value.int _ _;simp_all)) (br _ _)
    refine jm ?_ ?_
    ·rintro G d _ rfl K l;have hw:=JA.out;have MD:=JB.out;go_simp
     exact l.out _ _ (by first | rfl | (show Value.int _ _=Value.int _ _;simp_all)) (br _ _)
    refine jm ?_ ?_
    ·rintro G d _ rfl _ rfl K l;have hw:=JC.out;go_simp
     exact l.out _ _ (by first | rfl | (show Value.int _ _=Value.int _ _;simp_all)) (br _ _)
    refine jm ?_ ?_
    ·rintro G d _ rfl K l;go_simp;exact Jo.w1 (dU _ _ (Int.le_trans (by decide) gS.out.1) (Int.le_trans gS.out.2.1 (by decide))) l.out
    refine jm ?_ ?_
    ·rintro G d _ rfl _ ⟨LF,HO,JY,JG,rfl,hG,JT⟩ K l;go_simp;exact Jo.w1 (lz (bH.b d).wr hG.wr (by omega) (by omega) gS.out.2.2 HZ.out) l.out
    refine jm ?_ ?_
    ·rintro G d _ ⟨LG,HP,JZ,JH,rfl,hH,JU⟩ K l;go_simp;exact Jo.w1 (vJ hH.wr (Int.neg_neg T)) l.out
    exact jo
    all_goals (rintro G d;(repeat rintro _ rfl);intro K l;have HG:=(X9.b d).cell;go_simp;exact l.out _ _ rfl (br _ _))
   rintro wf d _ rfl _ rfl _ rfl _ rfl _ rfl _ rfl _ rfl _ ⟨LF,HO,JY,JG,rfl,hG,JT⟩ _ ⟨LG,HP,JZ,JH,rfl,hH,JU⟩ _ ⟨MJ,LR,MH,LT,rfl,N,MF⟩ -;simp only[Jo.z];replace t:=t.b d;replace y:=y.b d;replace D:=D.b d;replace J:=J.b d;replace I:=I.b d;replace H:=H.b d;replace Q:=Q.b d;replace E:=E.b d
   replace C:=aj C d;clear bH hG hH p6 X9;have JI:=N.fits HU.out;have Y:=I.cell;have bA:=I.frozen
   refine jn 10 fun K l=>?_
   go_simp;refine l.out _ _ ?_;clear l K Y bA;generalize O:(wf.setCell _ _).setCell _ _=wg at *;have m:=ae.of2 I O;replace t:=t.s m;replace y:=y.s m;replace D:=D.s m;replace J:=J.s m;replace H:=H.s m;replace Q:=Q.s m;replace E:=E.s m
   replace N:=N.s m;replace C:=aP C m (by omega);replace I:=m.box;clear m O;refine jd ?_
   go_upto_region 13 with fail
   have Z:=J.cell;have Y:=I.cell
   go_wp2_with fail
   refine(lR Q.wr N.wr (by omega) (by omega) HY.out).mono ?_;rintro ee wh ⟨MK,LS,MI,LU,rfl,hI,MG,B⟩;clear Z Y;refine jW ?_ t y D J I H Q E N C B;clear t y D J I H Q E N C B;intro t y D J I H Q E N C;clear Q;have Z:=J.cell;have HJ:=J.frozen
   go_upto_region 9 with fail
   clear Z HJ;generalize O:(wh.setCell _ _).setCell _ _=wi at *;have m:=ae.of2 J O;replace t:=t.s m;replace y:=y.s m;replace D:=D.s m;replace I:=I.s m;replace H:=H.s m;replace E:=E.s m;replace N:=N.s m;replace hI:=hI.s m
   replace C:=aP C m (by omega);replace J:=m.box;clear m O;have JD:=iw ((j:Int)+1+1);have JE:=jw ((j:Int)+1+1);have JM:=JD.out;have JN:=JE.out;have hT:=HV.out;subst hT;go_wp2;clear JM JN
   go_roundw
   case rel=>exact ⟨j+1,by go_num,_,_,_,_,_,_,_,_,t,y,D,J,I,H,E,N,hI,by omega,by omega,C.out⟩
   case measure=>simp [intOf];omega
  ·obtain rfl:j=40:=by omega
   have ET:decide (((40:Nat):Int)+1<=40)=false:=by decide
   clear H p6 E;have LH:=y.cell;have HM:=y.frozen;have Z:=J.cell;go_wp2;clear LH HM Z;have m:=ae.t2 y s5 A5 n5 c5;replace Q:=Q.s m;exact bq (v:= .agg #[.bool s5,.slice A5 n5 c5]) (by simp[results,results168,go_sem,m.box.cell]) rfl ⟨_,_,_,_,rfl,Q,by omega,(m.below C.out (by omega))⟩
theorem Iy{w:World}{A:Option Addr}{n c:Nat}{s:Bool}{x r:Int}(h:Wr w s A n c x)(hn:n<=100000)(hr:ln x=r):Calls prog 168 #[.agg #[.bool s,.slice A n c]] w (W1 w 300000 r):=by
 obtain⟨a,h,hx⟩:=h
 unfold ln at hr
 by_cases h1:(4*SC) < x
 ·rw[if_pos (by omega)]at hr;subst hr;exact Dp h hx hn h1
 ·by_cases h2:x < -(4*SC)
  ·rw[if_pos (by omega)]at hr;subst hr;exact Dq h hx hn h1 h2
  ·rw[if_neg (by omega)]at hr;subst hr;exact vD h hx hn h1 h2
def vR (w:World)(K:Nat)(x y:Int)(e:Ending)(w':World):Prop:=∃s1 A1 n1 c1 s2 A2 n2 c2,e= .returned (.agg #[.bool s1,.slice A1 n1 c1,.bool s2,.slice A2 n2 c2])/\Wn w' s1 A1 n1 c1 x/\Wn w' s2 A2 n2 c2 y/\n1<=K/\n2<=K/\Below w.heap.size w w'
def Jo.Fact.sp (x y:Int)(K:Nat):Jo.Fact:=⟨fun v w=>∃s1 A1 n1 c1 s2 A2 n2 c2,v= .agg #[.bool s1,.slice A1 n1 c1,.bool s2,.slice A2 n2 c2]/\Wn w s1 A1 n1 c1 x/\Wn w s2 A2 n2 c2 y/\n1<=K/\n2<=K,fun v w w' h b=>by
 obtain⟨s1,A1,n1,c1,s2,A2,n2,c2,e,p,q,k,l⟩:=h;exact⟨s1,A1,n1,c1,s2,A2,n2,c2,e,p.below b,q.below b,k,l⟩⟩
theorem Hl{w:World}{A:Option Addr}{n c:Nat}{s:Bool}{x:Int}{B:Option Addr}{m d:Nat}{t:Bool}{y:Int}{A':Option Addr}{n' c':Nat}{s':Bool}{x':Int}{B':Option Addr}{m' d':Nat}{t':Bool}{y':Int}{Z:Nat}{u v:Int}(h:Wn w s A n c x)(k:Wn w t B m d y)(h':Wn w s' A' n' c' x')(k':Wn w t' B' m' d' y')(hn:n<=1000000)(hm:m<=1000000)(hn':n'<=1000000)(hm':m'<=1000000)(hK1:n+n'+1<=Z)(hK2:m+m'+1<=Z)(hu:x+x'=u)(hv:y+y'=v):Calls prog 111 #[.agg #[.bool s,.slice A n c,.bool t,.slice B m d],.agg #[.bool s',.slice A' n' c',.bool t',.slice B' m' d']] w (vR w Z u v):=by
 have HU:=ie hu;have HV:=ie hv;clear hu hv
 go_enter func111,ntmps111
 go_upto_region 1 with fail
 generalize I:((w.alloc _).alloc _).alloc _=w1 at *;obtain⟨N,O,H,j⟩:=Bo.en3 I;replace h:=h.below j.out;replace k:=k.below j.out
 replace h':=h'.below j.out
 replace k':=k'.below j.out
 clear I;have bD:=N.lt;have bH:=O.lt;have bN:=H.lt;refine aV [0,1,2,3,4,5,6,7,8,9,10] [6,7,8,9,10,11,12,13,14,15,16,0] [[],[0],[],[2],[1,3],[],[5],[],[7],[6,8],[4,9],[]] 12 1 [Jo.qp w.heap.size 0,Jo.Fact.eq (.agg #[.bool s,.slice A n c]),Jo.qp (w.heap.size+1) 0,Jo.Fact.eq (.agg #[.bool s',.slice A' n' c']),Jo.Fact.wn (u) (Z),Jo.qp w.heap.size 2,Jo.Fact.eq (.agg #[.bool t,.slice B m d]),Jo.qp (w.heap.size+1) 2,Jo.Fact.eq (.agg #[.bool t',.slice B' m' d']),Jo.Fact.wn (v) (Z),Jo.Fact.sp (u) (v) (Z),Jo.Fact.any] ?_ ?_
 ·iterate 4 (refine jm ?_ ?_;rotate_left)
  refine jm ?_ ?_
  ·rintro J e _ rfl _ rfl K f;go_simp;exact Jo.w1 (lR (h.b e).wr (h'.b e).wr (by omega) (by omega) HU.out) f.out
  refine jm ?_ ?_;rotate_left
  refine jm ?_ ?_
  ·rintro J e _ rfl K f;have gB:=(N.b e).a 2 (.bool t) rfl;have gO:=(N.b e).a 3 (.slice B m d) rfl;go_simp;exact f.out _ _ rfl (br _ _)
  refine jm ?_ ?_;rotate_left
  refine jm ?_ ?_
  ·rintro J e _ rfl K f;have gP:=(O.b e).a 2 (.bool t') rfl;have gS:=(O.b e).a 3 (.slice B' m' d') rfl;go_simp;exact f.out _ _ rfl (br _ _)
  refine jm ?_ ?_
  ·rintro J e _ rfl _ rfl K f;go_simp;exact Jo.w1 (lR (k.b e).wr (k'.b e).wr (by omega) (by omega) HV.out) f.out
  refine jm ?_ ?_
  ·rintro J e _ ⟨bA,P,X,R,rfl,r,T⟩ _ ⟨bB,Q,Y,S,rfl,C,U⟩ K f;go_simp;exact f.out _ _ ⟨_,_,_,_,_,_,_,_,rfl,r,C,by omega,by omega⟩ (br _ _)
  exact jo
  all_goals (rintro J e;(repeat rintro _ rfl);intro K f;have hA:=(N.b e).cell;have hB:=(O.b e).cell;go_simp;exact f.out _ _ rfl (br _ _))
 rintro w2 e _ _ _ rfl _ _ _ rfl _ ⟨bA,P,X,R,rfl,r,T⟩ _ _ _ rfl _ _ _ rfl _ ⟨bB,Q,Y,S,rfl,C,U⟩ _ ⟨F,g,p,l,G,i,q,o,rfl,D,E,V,W⟩ -;simp only[Jo.z];replace H:=H.b e;replace j:=aj j e;clear h k h' k' r C;have bC:=H.cell;have L:=H.frozen
 refine jn 11 fun K f=>?_
 go_simp;refine f.out _ _ ?_;clear f K bC L;have M:=ae.mk4 H (.bool F) (.slice g p l) (.bool G) (.slice i q o);replace D:=D.s M;replace E:=E.s M;refine jd ?_;go_wp2;exact bq (v:= .agg #[.bool F,.slice g p l,.bool G,.slice i q o]) (by simp[results,results111,go_sem,M.box.cell]) rfl ⟨F,g,p,l,G,i,q,o,rfl,D,E,V,W,(M.below j.out (by omega))⟩
theorem FK{w:World}{A:Option Addr}{n c:Nat}{s:Bool}{x:Int}{B:Option Addr}{m d:Nat}{t:Bool}{y:Int}{A':Option Addr}{n' c':Nat}{s':Bool}{x':Int}{B':Option Addr}{m' d':Nat}{t':Bool}{y':Int}{Z:Nat}{u v:Int}(h:Wn w s A n c x)(k:Wn w t B m d y)(h':Wn w s' A' n' c' x')(k':Wn w t' B' m' d' y')(hn:n<=1000000)(hm:m<=1000000)(hn':n'<=1000000)(hm':m'<=1000000)(hK1:n+m'+1<=Z)(hK2:m+n'+1<=Z)(hu:x-y'=u)(hv:y-x'=v):Calls prog 167 #[.agg #[.bool s,.slice A n c,.bool t,.slice B m d],.agg #[.bool s',.slice A' n' c',.bool t',.slice B' m' d']] w (vR w Z u v):=by
 have HU:=ie hu;have HV:=ie hv;clear hu hv
 go_enter func167,ntmps167
 go_upto_region 1 with fail
 generalize I:((w.alloc _).alloc _).alloc _=w1 at *;obtain⟨N,O,H,j⟩:=Bo.en3 I;replace h:=h.below j.out;replace k:=k.below j.out
 replace h':=h'.below j.out
 replace k':=k'.below j.out
 clear I;have bD:=N.lt;have bH:=O.lt;have bN:=H.lt;refine aV [0,1,2,3,4,5,6,7,8,9,10] [6,7,8,9,10,11,12,13,14,15,16,0] [[],[0],[],[2],[1,3],[],[5],[],[7],[6,8],[4,9],[]] 12 1 [Jo.qp w.heap.size 0,Jo.Fact.eq (.agg #[.bool s,.slice A n c]),Jo.qp (w.heap.size+1) 2,Jo.Fact.eq (.agg #[.bool t',.slice B' m' d']),Jo.Fact.wn (u) (Z),Jo.qp w.heap.size 2,Jo.Fact.eq (.agg #[.bool t,.slice B m d]),Jo.qp (w.heap.size+1) 0,Jo.Fact.eq (.agg #[.bool s',.slice A' n' c']),Jo.Fact.wn (v) (Z),Jo.Fact.sp (u) (v) (Z),Jo.Fact.any] ?_ ?_
 ·iterate 3 (refine jm ?_ ?_;rotate_left)
  refine jm ?_ ?_
  ·rintro J e _ rfl K f;have gP:=(O.b e).a 2 (.bool t') rfl;have gS:=(O.b e).a 3 (.slice B' m' d') rfl;go_simp;exact f.out _ _ rfl (br _ _)
  refine jm ?_ ?_
  ·rintro J e _ rfl _ rfl K f;go_simp;exact Jo.w1 (q6 (h.b e).wr (k'.b e).wr (by omega) (by omega) HU.out) f.out
  refine jm ?_ ?_;rotate_left
  refine jm ?_ ?_
  ·rintro J e _ rfl K f;have gB:=(N.b e).a 2 (.bool t) rfl;have gO:=(N.b e).a 3 (.slice B m d) rfl;go_simp;exact f.out _ _ rfl (br _ _)
  iterate 2 (refine jm ?_ ?_;rotate_left)
  refine jm ?_ ?_
  ·rintro J e _ rfl _ rfl K f;go_simp;exact Jo.w1 (q6 (k.b e).wr (h'.b e).wr (by omega) (by omega) HV.out) f.out
  refine jm ?_ ?_
  ·rintro J e _ ⟨bA,P,X,R,rfl,r,T⟩ _ ⟨bB,Q,Y,S,rfl,C,U⟩ K f;go_simp;exact f.out _ _ ⟨_,_,_,_,_,_,_,_,rfl,r,C,by omega,by omega⟩ (br _ _)
  exact jo
  all_goals (rintro J e;(repeat rintro _ rfl);intro K f;have hA:=(N.b e).cell;have hB:=(O.b e).cell;go_simp;exact f.out _ _ rfl (br _ _))
 rintro w2 e _ _ _ rfl _ _ _ rfl _ ⟨bA,P,X,R,rfl,r,T⟩ _ _ _ rfl _ _ _ rfl _ ⟨bB,Q,Y,S,rfl,C,U⟩ _ ⟨F,g,p,l,G,i,q,o,rfl,D,E,V,W⟩ -;simp only[Jo.z];replace H:=H.b e;replace j:=aj j e;clear h k h' k' r C;have bC:=H.cell;have L:=H.frozen
 refine jn 11 fun K f=>?_
 go_simp;refine f.out _ _ ?_;clear f K bC L;have M:=ae.mk4 H (.bool F) (.slice g p l) (.bool G) (.slice i q o);replace D:=D.s M;replace E:=E.s M;refine jd ?_;go_wp2;exact bq (v:= .agg #[.bool F,.slice g p l,.bool G,.slice i q o]) (by simp[results,results167,go_sem,M.box.cell]) rfl ⟨F,g,p,l,G,i,q,o,rfl,D,E,V,W,(M.below j.out (by omega))⟩
theorem Ix{w:World}{A:Option Addr}{n c:Nat}{s:Bool}{x:Int}{B:Option Addr}{m d:Nat}{t:Bool}{y:Int}{Z:Nat}{u v:Int}(h:Wn w s A n c x)(k:Wn w t B m d y)(hn:n<=Z)(hm:m<=Z)(hu: -y=u)(hv: -x=v):Calls prog 170 #[.agg #[.bool s,.slice A n c,.bool t,.slice B m d]] w (vR w Z u v):=by
 have HU:=ie hu;have HV:=ie hv;clear hu hv
 go_enter func170,ntmps170
 go_upto_region 1 with fail
 generalize I:(w.alloc _).alloc _=w1 at *;obtain⟨M,G,H⟩:=Bo.en2 I;replace h:=h.below H.out;replace k:=k.below H.out;clear I;have bC:=M.lt;have bD:=G.lt;refine aV [0,1,2,3,4,5,6] [4,5,6,7,8,9,10,0] [[],[0],[1],[],[3],[4],[2,5],[]] 8 1 [Jo.qp w.heap.size 2,Jo.Fact.eq (.agg #[.bool t,.slice B m d]),Jo.Fact.wn (u) (Z),Jo.qp w.heap.size 0,Jo.Fact.eq (.agg #[.bool s,.slice A n c]),Jo.Fact.wn (v) (Z),Jo.Fact.sp (u) (v) (Z),Jo.Fact.any] ?_ ?_
 ·refine jm ?_ ?_;rotate_left
  refine jm ?_ ?_
  ·rintro N e _ rfl K f;have bH:=(M.b e).a 2 (.bool t) rfl;have bN:=(M.b e).a 3 (.slice B m d) rfl;go_simp;exact f.out _ _ rfl (br _ _)
  refine jm ?_ ?_
  ·rintro N e _ rfl K f;go_simp;exact Jo.w1 (vJ (k.b e).wr HU.out) f.out
  iterate 2 (refine jm ?_ ?_;rotate_left)
  refine jm ?_ ?_
  ·rintro N e _ rfl K f;go_simp;exact Jo.w1 (vJ (h.b e).wr HV.out) f.out
  refine jm ?_ ?_
  ·rintro N e _ ⟨Y,O,W,Q,rfl,q,S⟩ _ ⟨bA,P,X,R,rfl,r,T⟩ K f;go_simp;exact f.out _ _ ⟨_,_,_,_,_,_,_,_,rfl,q,r,by omega,by omega⟩ (br _ _)
  exact jo
  all_goals (rintro N e;(repeat rintro _ rfl);intro K f;have gB:=(M.b e).cell;go_simp;exact f.out _ _ rfl (br _ _))
 rintro w2 e _ _ _ rfl _ ⟨Y,O,W,Q,rfl,q,S⟩ _ _ _ rfl _ ⟨bA,P,X,R,rfl,r,T⟩ _ ⟨E,g,o,j,F,i,p,l,rfl,C,D,U,V⟩ -;simp only[Jo.z];replace G:=G.b e;replace H:=aj H e;clear h k q r;have bB:=G.cell;have J:=G.frozen
 refine jn 7 fun K f=>?_
 go_simp;refine f.out _ _ ?_;clear f K bB J;have L:=ae.mk4 G (.bool E) (.slice g o j) (.bool F) (.slice i p l);replace C:=C.s L;replace D:=D.s L;refine jd ?_;go_wp2;exact bq (v:= .agg #[.bool E,.slice g o j,.bool F,.slice i p l]) (by simp[results,results170,go_sem,L.box.cell]) rfl ⟨E,g,o,j,F,i,p,l,rfl,C,D,U,V,(L.below H.out (by omega))⟩
theorem iZ{z x:Int}:tZ [z,x]=z*x:=by
 show 1*z*x=_
 rw[Int.one_mul]
theorem qQ{w:World}{A:Option Addr}{n c:Nat}{s:Bool}{x:Int}{B:Option Addr}{m d:Nat}{t:Bool}{y:Int}{C:Option Addr}{l f:Nat}{q:Bool}{z:Int}{L Z:Nat}{u v:Int}(h:Wn w s A n c x)(k:Wn w t B m d y)(g:Wn w q C l f z)(hn:n<=L)(hm:m<=L)(hl:l<=L)(hL:L<=1000000)(hK:1+2*L<=Z)(hu:(if z < 0 then z*y else z*x)=u)(hv:(if z < 0 then z*x else z*y)=v):Calls prog 57 #[.agg #[.bool s,.slice A n c,.bool t,.slice B m d],.agg #[.bool q,.slice C l f]] w (vR w Z u v):=by
 obtain⟨σ,hσ⟩:∃σ,ah z 0=σ:=⟨_,rfl⟩;have e1:=(bL hσ).1;have HU:=ie hu;have HV:=ie hv;have HS:=ie hσ;have E1:=ie e1;clear hu hv hσ e1
 go_enter func57,ntmps57
 go_upto_region 1 with fail
 generalize bC:((w.alloc _).alloc _).alloc _=w1 at *;obtain⟨X2,Q,r,D⟩:=Bo.en3 bC;replace h:=h.below D.out;replace k:=k.below D.out;replace g:=g.below D.out;clear bC;have hE:=X2.lt;have hF:=Q.lt;have hG:=r.lt;have hD:=D.out.size
 refine Jo.region_twin (T:=[0,1,2,3,4,5,6,7,8,9,10,11]) (ds:=[some 7,some 8,some 9,some 10,some 11,some 12,some 13,some 14,some 15,some 16,some 5,some 6,none,none]) (ls:=[[],[],[1],[0,2],[3],[],[],[6],[5,7],[8],[],[],[],[]]) (k:=14) (L:=[(some 7,0),(some 8,1),(some 9,2),(some 10,3),(some 11,4),(some 12,5),(some 13,6),(some 14,7),(some 15,8),(some 16,9),(some 5,10),(some 6,11)]) (fuel:=2) (w1:=w1) (p:=10) (q:=11) (old:= #[.bool false,.slice none 0 0]) (R:=43)
  (F:=[Jo.Fact.eq (.agg #[.bool q,.slice C l f]),Jo.qp w.heap.size 0,Jo.Fact.eq (.agg #[.bool s,.slice A n c]),Jo.Fact.wl L 2 [z,x],Jo.Fact.wn (z*x) (Z),Jo.Fact.eq (.agg #[.bool q,.slice C l f]),Jo.qp w.heap.size 2,Jo.Fact.eq (.agg #[.bool t,.slice B m d]),Jo.Fact.wl L 2 [z,y],Jo.Fact.wn (z*y) (Z),Jo.Fact.any,Jo.Fact.any,Jo.Fact.any,Jo.Fact.any])
  (by decide) (by decide) (by kernel_rfl) (by kernel_rfl) (by decide) rfl rfl ?_ (fun vs w2 hJ hd hpq=>?_)
 ·refine Jo.tcons (i:=0) (o:=⟨some 7,_,_,_,_,_⟩) (di:=some 7) (L:=[]) (f:=Jo.Fact.eq (.agg #[.bool q,.slice C l f])) (by decide) (by decide) rfl rfl rfl rfl (fun vs wj hJ hd K hK=>?_) ?_
  ·clear hd;simp only[Jo.putl,Jo.ze,Act.put,Jo.za,Jo.zb,Jo.zc]at hK|-
   have bN:World.cell? wj ⟨w.heap.size+1,0,none⟩=some (.bool q):=(Q.b hJ).cell 0
   have gB:World.cell? wj ⟨w.heap.size+1,1,none⟩=some (.slice C l f):=(Q.b hJ).cell 1
   go_simp;exact hK.out _ _ rfl (br _ _)
  refine Jo.tcons (i:=1) (o:=⟨some 8,_,_,_,_,_⟩) (di:=some 8) (L:=[]) (f:=Jo.qp w.heap.size 0) (by decide) (by decide) rfl rfl rfl rfl (fun vs wj hJ hd K hK=>?_) ?_
  ·clear hd;simp only[Jo.putl,Jo.ze,Act.put,Jo.za,Jo.zb,Jo.zc]at hK|-;go_simp;exact hK.out _ _ rfl (br _ _)
  refine Jo.tcons (i:=2) (o:=⟨some 9,_,_,_,_,_⟩) (di:=some 9) (L:=[(some 8,1)]) (f:=Jo.Fact.eq (.agg #[.bool s,.slice A n c])) (by decide) (by decide) rfl rfl rfl rfl (fun vs wj hJ hd K hK=>?_) ?_
  ·have d1:(Jo.qp w.heap.size 0).P (vs 1) wj:=hd 1 (by decide)
   clear hd;simp only[Jo.putl,Jo.zd,Jo.ze,Act.put,Jo.za,Jo.zb,Jo.zc]at hK|-;generalize vs 1=u1 at hK d1|-
   replace d1:u1=_:=d1
   subst d1
   have hH:World.cell? wj ⟨w.heap.size,0,none⟩=some (.bool s):=(X2.b hJ).cell 0
   have hI:World.cell? wj ⟨w.heap.size,1,none⟩=some (.slice A n c):=(X2.b hJ).cell 1
   go_simp;exact hK.out _ _ rfl (br _ _)
  refine Jo.tcons (i:=3) (o:=⟨some 10,_,_,_,_,_⟩) (di:=some 10) (L:=[(some 7,0),(some 9,2)]) (f:=Jo.Fact.wl L 2 [z,x]) (by decide) (by decide) rfl rfl rfl rfl (fun vs wj hJ hd K hK=>?_) ?_
  ·have Y:(Jo.Fact.eq (.agg #[.bool q,.slice C l f])).P (vs 0) wj:=hd 0 (by decide)
   have d2:(Jo.Fact.eq (.agg #[.bool s,.slice A n c])).P (vs 2) wj:=hd 2 (by decide)
   simp only[Jo.putl,Jo.zd,Jo.ze,Act.put,Jo.za,Jo.zb,Jo.zc]at hK|-;clear hd;generalize vs 0=u0 at hK Y|-;generalize vs 2=u2 at hK d2|-
   replace Y:u0=_:=Y
   subst Y
   replace d2:u2=_:=d2
   subst d2;go_simp;exact hK.out _ _ ⟨_,_,rfl,Wl.lit2 rfl (g.b hJ).wr (h.b hJ).wr (by omega) (by omega)⟩ (ab _ _)
  refine Jo.tcons (i:=4) (o:=⟨some 11,_,_,_,_,_⟩) (di:=some 11) (L:=[(some 10,3)]) (f:=Jo.Fact.wn (z*x) (Z)) (by decide) (by decide) rfl rfl rfl rfl (fun vs wj hJ hd K hK=>?_) ?_
  ·have d3:(Jo.Fact.wl L 2 [z,x]).P (vs 3) wj:=hd 3 (by decide)
   clear hd;simp only[Jo.putl,Jo.zd,Jo.ze,Act.put,Jo.za,Jo.zb,Jo.zc]at hK|-;generalize vs 3=u3 at hK d3|-;obtain⟨hP,hR,rfl,gS⟩:=d3;go_simp;exact Jo.w1 (jp gS (by omega) iZ) hK.out
  refine Jo.tcons (i:=5) (o:=⟨some 12,_,_,_,_,_⟩) (di:=some 12) (L:=[]) (f:=Jo.Fact.eq (.agg #[.bool q,.slice C l f])) (by decide) (by decide) rfl rfl rfl rfl (fun vs wj hJ hd K hK=>?_) ?_
  ·clear hd;simp only[Jo.putl,Jo.ze,Act.put,Jo.za,Jo.zb,Jo.zc]at hK|-
   have bN:World.cell? wj ⟨w.heap.size+1,0,none⟩=some (.bool q):=(Q.b hJ).cell 0
   have gB:World.cell? wj ⟨w.heap.size+1,1,none⟩=some (.slice C l f):=(Q.b hJ).cell 1
   go_simp;exact hK.out _ _ rfl (br _ _)
  refine Jo.tcons (i:=6) (o:=⟨some 13,_,_,_,_,_⟩) (di:=some 13) (L:=[]) (f:=Jo.qp w.heap.size 2) (by decide) (by decide) rfl rfl rfl rfl (fun vs wj hJ hd K hK=>?_) ?_
  ·clear hd;simp only[Jo.putl,Jo.ze,Act.put,Jo.za,Jo.zb,Jo.zc]at hK|-;go_simp;exact hK.out _ _ rfl (br _ _)
  refine Jo.tcons (i:=7) (o:=⟨some 14,_,_,_,_,_⟩) (di:=some 14) (L:=[(some 13,6)]) (f:=Jo.Fact.eq (.agg #[.bool t,.slice B m d])) (by decide) (by decide) rfl rfl rfl rfl (fun vs wj hJ hd K hK=>?_) ?_
  ·have d6:(Jo.qp w.heap.size 2).P (vs 6) wj:=hd 6 (by decide)
   clear hd;simp only[Jo.putl,Jo.zd,Jo.ze,Act.put,Jo.za,Jo.zb,Jo.zc]at hK|-;generalize vs 6=u6 at hK d6|-
   replace d6:u6=_:=d6
   subst d6
   have hM:World.cell? wj ⟨w.heap.size,2,none⟩=some (.bool t):=(X2.b hJ).cell 2
   have hN:World.cell? wj ⟨w.heap.size,3,none⟩=some (.slice B m d):=(X2.b hJ).cell 3
   go_simp;exact hK.out _ _ rfl (br _ _)
  refine Jo.tcons (i:=8) (o:=⟨some 15,_,_,_,_,_⟩) (di:=some 15) (L:=[(some 12,5),(some 14,7)]) (f:=Jo.Fact.wl L 2 [z,y]) (by decide) (by decide) rfl rfl rfl rfl (fun vs wj hJ hd K hK=>?_) ?_
  ·have d5:(Jo.Fact.eq (.agg #[.bool q,.slice C l f])).P (vs 5) wj:=hd 5 (by decide)
   have d7:(Jo.Fact.eq (.agg #[.bool t,.slice B m d])).P (vs 7) wj:=hd 7 (by decide)
   simp only[Jo.putl,Jo.zd,Jo.ze,Act.put,Jo.za,Jo.zb,Jo.zc]at hK|-;clear hd;generalize vs 5=u5 at hK d5|-;generalize vs 7=u7 at hK d7|-
   replace d5:u5=_:=d5
   subst d5
   replace d7:u7=_:=d7
   subst d7;go_simp;exact hK.out _ _ ⟨_,_,rfl,Wl.lit2 rfl (g.b hJ).wr (k.b hJ).wr (by omega) (by omega)⟩ (ab _ _)
  refine Jo.tcons (i:=9) (o:=⟨some 16,_,_,_,_,_⟩) (di:=some 16) (L:=[(some 15,8)]) (f:=Jo.Fact.wn (z*y) (Z)) (by decide) (by decide) rfl rfl rfl rfl (fun vs wj hJ hd K hK=>?_) ?_
  ·have d8:(Jo.Fact.wl L 2 [z,y]).P (vs 8) wj:=hd 8 (by decide)
   clear hd;simp only[Jo.putl,Jo.zd,Jo.ze,Act.put,Jo.za,Jo.zb,Jo.zc]at hK|-;generalize vs 8=u8 at hK d8|-;obtain⟨hQ,hT,rfl,hA⟩:=d8;go_simp;exact Jo.w1 (jp hA (by omega) iZ) hK.out
  refine Jo.tnew (i:=10) (o:=⟨some 5,_,_,_,_,_⟩) (di:=some 5) (L:=[]) (by decide) (by decide) rfl rfl rfl rfl (fun vs wj K hK=>?_) ?_
  ·simp only[Jo.putl,Jo.ze,Act.put,Jo.za,Jo.zb,Jo.zc]at hK|-;go_simp;exact hK.out
  refine Jo.tnew (i:=11) (o:=⟨some 6,_,_,_,_,_⟩) (di:=some 6) (L:=[]) (by decide) (by decide) rfl rfl rfl rfl (fun vs wj K hK=>?_) ?_
  ·simp only[Jo.putl,Jo.ze,Act.put,Jo.za,Jo.zb,Jo.zc]at hK|-;go_simp;exact hK.out
  exact Jo.StepsI.nil
 have Y:(Jo.Fact.eq (.agg #[.bool q,.slice C l f])).P (vs 0) w2:=hd 0 (by decide)
 have d1:(Jo.qp w.heap.size 0).P (vs 1) w2:=hd 1 (by decide)
 have d2:(Jo.Fact.eq (.agg #[.bool s,.slice A n c])).P (vs 2) w2:=hd 2 (by decide)
 have d3:(Jo.Fact.wl L 2 [z,x]).P (vs 3) w2:=hd 3 (by decide)
 have d4:(Jo.Fact.wn (z*x) (Z)).P (vs 4) w2:=hd 4 (by decide)
 have d5:(Jo.Fact.eq (.agg #[.bool q,.slice C l f])).P (vs 5) w2:=hd 5 (by decide)
 have d6:(Jo.qp w.heap.size 2).P (vs 6) w2:=hd 6 (by decide)
 have d7:(Jo.Fact.eq (.agg #[.bool t,.slice B m d])).P (vs 7) w2:=hd 7 (by decide)
 have d8:(Jo.Fact.wl L 2 [z,y]).P (vs 8) w2:=hd 8 (by decide)
 have d9:(Jo.Fact.wn (z*y) (Z)).P (vs 9) w2:=hd 9 (by decide)
 clear hd;obtain⟨g5,g6,ep,bB,hU,hV,hB,S,U⟩:=hpq;simp only[Jo.putl,Jo.zd,Jo.ze,Act.put,Jo.za,Jo.zb,Jo.zc];simp only[ep,bB];clear ep bB;generalize vs 0=u0 at Y|-;generalize vs 1=u1 at d1|-;generalize vs 2=u2 at d2|-;generalize vs 3=u3 at d3|-;generalize vs 4=u4 at d4|-;generalize vs 5=u5 at d5|-;generalize vs 6=u6 at d6|-;generalize vs 7=u7 at d7|-
 generalize vs 8=u8 at d8|-;generalize vs 9=u9 at d9|-;clear vs
 replace Y:u0=_:=Y
 subst Y
 replace d1:u1=_:=d1
 subst d1
 replace d2:u2=_:=d2
 subst d2;obtain⟨_,_,rfl,_⟩:=d3;obtain⟨N,E,J,H,rfl,a,bD⟩:=d4
 replace d5:u5=_:=d5
 subst d5
 replace d6:u6=_:=d6
 subst d6
 replace d7:u7=_:=d7
 subst d7;obtain⟨_,_,rfl,_⟩:=d8;obtain⟨O,G,M,I,rfl,e,bH⟩:=d9;replace Q:=Q.b hJ;replace r:=r.b hJ;replace g:=g.b hJ;replace D:=aj D hJ;clear h k;clear X2;have V:=S.cell;have gO:=S.frozen
 refine jn 12 fun K hK=>?_
 go_simp;refine hK.out _ _ ?_;clear hK K V gO;generalize hS:(w2.setCell _ _).setCell _ _=w3 at *;have j:=ae.of2 S hS;replace Q:=Q.s j;replace r:=r.s j;replace U:=U.s j;replace g:=g.s j;replace a:=a.s j;replace e:=e.s j;replace D:=aP D j (by omega)
 replace S:=j.box;clear j hS;have W:=U.cell;have gP:=U.frozen
 refine jn 13 fun K hK=>?_
 go_simp;refine hK.out _ _ ?_;clear hK K W gP;generalize hS:(w3.setCell _ _).setCell _ _=w4 at *;have j:=ae.of2 U hS;replace Q:=Q.s j;replace r:=r.s j;replace S:=S.s j;replace g:=g.s j;replace a:=a.s j;replace e:=e.s j;replace D:=aP D j (by omega)
 replace U:=j.box;clear j hS;refine jd ?_
 go_upto_region 2 with fail
 have hC:=Q.cell
 go_wp2_with fail
 refine(fU g.wr HS.out).mono ?_;rintro ee w5 ⟨rfl,B⟩;clear hC;refine jD ?_ r S U a e D B;clear r S U a e D B;intro r S U a e D;clear g;have e1:=E1.out;have hu:=HU.out;have hv:=HV.out
 by_cases hz:z < 0
 ·rw[dt hz]at e1;rw[if_pos hz]at hu hv;rw[hv]at a;rw[hu]at e;have bA:=r.cell;have X:=r.frozen;have V:=S.cell;have W:=U.cell;go_wp2;clear bA X V W;have j:=ae.mk4 r (.bool O) (.slice G M I) (.bool N) (.slice E J H);replace a:=a.s j
  replace e:=e.s j;exact bq (v:= .agg #[.bool O,.slice G M I,.bool N,.slice E J H]) (by simp[results,results57,go_sem,j.box.cell]) rfl ⟨O,G,M,I,N,E,J,H,rfl,e,a,bH,bD,(j.below D.out (by omega))⟩
 ·rw[df hz]at e1;rw[if_neg hz]at hu hv;rw[hu]at a;rw[hv]at e;have bA:=r.cell;have X:=r.frozen;have V:=S.cell;have W:=U.cell;go_wp2;clear bA X V W;have j:=ae.mk4 r (.bool N) (.slice E J H) (.bool O) (.slice G M I);replace a:=a.s j
  replace e:=e.s j;exact bq (v:= .agg #[.bool N,.slice E J H,.bool O,.slice G M I]) (by simp[results,results57,go_sem,j.box.cell]) rfl ⟨N,E,J,H,O,G,M,I,rfl,a,e,bD,bH,(j.below D.out (by omega))⟩
theorem FJ{w:World}{A:Option Addr}{n c:Nat}{s:Bool}{x:Int}{B:Option Addr}{m d:Nat}{t:Bool}{y:Int}{A':Option Addr}{n' c':Nat}{s':Bool}{x':Int}{B':Option Addr}{m' d':Nat}{t':Bool}{y':Int}{p q:Bool}(h:Wn w s A n c x)(k:Wn w t B m d y)(h':Wn w s' A' n' c' x')(k':Wn w t' B' m' d' y')(hp:decide (x<=y')=p)(hq:decide (x'<=y)=q):Calls prog 127 #[.agg #[.bool s,.slice A n c,.bool t,.slice B m d],.agg #[.bool s',.slice A' n' c',.bool t',.slice B' m' d']] w (PB w (p && q)):=by
 obtain⟨σ,j⟩:∃σ,ah x y'=σ:=⟨_,rfl⟩;obtain⟨τ,l⟩:∃σ,ah x' y=σ:=⟨_,rfl⟩;have e1:=fC j;have e2:=fC l;rw[hp]at e1;rw[hq]at e2;have o:=ie j;have r:=ie l;clear j l;clear hp hq
 go_enter func127,ntmps127
 go_upto_region 1 with fail
 generalize i:(w.alloc _).alloc _=w1 at *;obtain⟨f,g,a⟩:=Bo.en2 i;replace h:=h.below a.out;replace k:=k.below a.out
 replace h':=h'.below a.out
 replace k':=k'.below a.out
 clear i;have b:=f.cell;have e:=g.cell
 go_wp2_with fail
 refine(lS h.wr k'.wr o.out).mono ?_;rintro u v ⟨rfl,B⟩;clear b e;refine dG ?_ f g k h' a B;clear f g k h' a B;intro f g k h' a
 cases p
 ·clear e2;go_wp2
  go_ret
  exact⟨rfl,a.out⟩
 ·have b:=f.cell;have e:=g.cell
  go_wp2_with fail
  refine(lS h'.wr k.wr r.out).mono ?_;rintro u z ⟨rfl,B⟩;clear b e;replace a:=aj a B;clear B;go_wp2
  go_ret
  exact⟨rfl,a.out⟩
theorem Eg{a:Int}(h:SC < a):dD a (-SC) SC=SC:=by
 unfold dD
 have:(0:Int) < SC:=by decide
 rw[if_neg (by omega),if_pos h]
theorem Eh{a:Int}(h:a < -SC):dD a (-SC) SC= -SC:=by
 unfold dD
 rw[if_pos h]
theorem Bq{a:Int}(h1:¬SC < a)(h2:¬a < -SC):dD a (-SC) SC=a:=by
 unfold dD
 rw[if_neg h2,if_neg h1]
theorem pe{w:World}{A:Option Addr}{n c:Nat}{s:Bool}{x:Int}{r:Int}(h:Wn w s A n c x)(hr:dD x (-SC) SC=r):Calls prog 212 #[.agg #[.bool s,.slice A n c]] w (W1 w 7 r):=by
 obtain⟨σ,C⟩:∃σ,ah x SC=σ:=⟨_,rfl⟩;obtain⟨τ,D⟩:∃σ,ah x (-SC)=σ:=⟨_,rfl⟩;have e1:=(bL C).2;have e2:=(bL D).1;have hf:=kr x;rw[hr]at hf;have I:=ie C;have J:=ie D;have y:=ie hf;clear C D hf
 go_enter func212,ntmps212
 go_upto_region 1 with fail
 generalize u:(w.alloc _).alloc _=w1 at *;obtain⟨b,a,d⟩:=Bo.en2 u;replace h:=h.below d.out;clear u
 go_wp2_with fail
 refine(ik).mono ?_;rintro z L ⟨s9,A9,n9,c9,rfl,f,O,B⟩;refine dk ?_ b a h d B;clear b a h d B;intro b a h d
 go_upto_region 2 with fail
 have E:=b.lt;have F:=a.lt;generalize j:L.alloc _=P at *;obtain⟨p,q⟩:=Bo.nw j;clear j;refine dG ?_ b a h f d q;clear b a h f d q;intro b a h f d;have k:=b.cell;have l:=p.cell
 go_wp2_with fail
 refine(lS h.wr f.wr I.out).mono ?_;rintro z Q ⟨rfl,B⟩;clear k l;refine jD ?_ b a p h f d B;clear b a p h f d B;intro b a p h f d
 by_cases c1:SC < x
 ·rw[dt c1]at e1
  obtain rfl:SC=r:=(Eg (by omega)).symm.trans hr
  clear h e2 hr;have m:=a.cell;have e:=a.frozen;have l:=p.cell;go_wp2;clear m e l;have i:=ae.t2 a s9 A9 n9 c9;replace f:=f.s i;exact bq (v:= .agg #[.bool s9,.slice A9 n9 c9]) (by simp[results,results212,go_sem,i.box.cell]) rfl ⟨_,_,_,_,rfl,f,f.fits y.out,(i.below d.out (by omega))⟩
 ·rw[df c1]at e1;have l:=p.cell
  go_wp2_with fail
  refine(vJ f.wr rfl).mono ?_;rintro z M ⟨s4,A4,n4,c4,rfl,g,N,B⟩;clear l;refine dk ?_ b a h d B;clear b a h d B;intro b a h d;clear f
  go_upto_region 5 with fail
  have G:=b.lt;have H:=a.lt;generalize j:M.alloc _=R at *;obtain⟨t,q⟩:=Bo.nw j;clear j;refine dG ?_ b a h g d q;clear b a h g d q;intro b a h g d;clear e1;have k:=b.cell;have o:=t.cell
  go_wp2_with fail
  refine(lS h.wr g.wr J.out).mono ?_;rintro z S ⟨rfl,B⟩;clear k o;refine jD ?_ b a t h g d B;clear b a t h g d B;intro b a t h g d
  by_cases c2:x < -SC
  ·rw[dt c2]at e2
   obtain rfl: -SC=r:=(Eh (by omega)).symm.trans hr
   clear h hr;have m:=a.cell;have e:=a.frozen;have o:=t.cell;go_wp2;clear m e o;have i:=ae.t2 a s4 A4 n4 c4;replace g:=g.s i;exact bq (v:= .agg #[.bool s4,.slice A4 n4 c4]) (by simp[results,results212,go_sem,i.box.cell]) rfl ⟨_,_,_,_,rfl,g,g.fits y.out,(i.below d.out (by omega))⟩
  ·rw[df c2]at e2
   obtain rfl:x=r:=(Bq (by omega) (by omega)).symm.trans hr
   clear g hr;have m:=a.cell;have e:=a.frozen;have k:=b.cell;go_wp2;clear m e k;have i:=ae.t2 a s A n c;replace h:=h.s i;exact bq (v:= .agg #[.bool s,.slice A n c]) (by simp[results,results212,go_sem,i.box.cell]) rfl ⟨_,_,_,_,rfl,h,h.fits y.out,(i.below d.out (by omega))⟩
theorem Hj{w:World}{A:Option Addr}{n c:Nat}{s:Bool}{x:Int}{B:Option Addr}{m d:Nat}{t:Bool}{y:Int}{u v:Int}(h:Wn w s A n c x)(k:Wn w t B m d y)(hu:dD x (-SC) SC=u)(hv:dD y (-SC) SC=v):Calls prog 171 #[.agg #[.bool s,.slice A n c,.bool t,.slice B m d]] w (vR w 7 u v):=by
 have HU:=ie hu;have HV:=ie hv;clear hu hv
 go_enter func171,ntmps171
 go_upto_region 1 with fail
 generalize I:(w.alloc _).alloc _=w1 at *;obtain⟨M,G,H⟩:=Bo.en2 I;replace h:=h.below H.out;replace k:=k.below H.out;clear I;have bB:=M.lt;have bC:=G.lt;refine aV [0,1,2,3,4,5,6] [4,5,6,7,8,9,10,0] [[],[0],[1],[],[3],[4],[2,5],[]] 8 1 [Jo.qp w.heap.size 0,Jo.Fact.eq (.agg #[.bool s,.slice A n c]),Jo.Fact.wn (u) (7),Jo.qp w.heap.size 2,Jo.Fact.eq (.agg #[.bool t,.slice B m d]),Jo.Fact.wn (v) (7),Jo.Fact.sp (u) (v) (7),Jo.Fact.any] ?_ ?_
 ·iterate 2 (refine jm ?_ ?_;rotate_left)
  refine jm ?_ ?_
  ·rintro N e _ rfl K f;go_simp;exact Jo.w1 (pe (h.b e) HU.out) f.out
  refine jm ?_ ?_;rotate_left
  refine jm ?_ ?_
  ·rintro N e _ rfl K f;have bD:=(M.b e).a 2 (.bool t) rfl;have bH:=(M.b e).a 3 (.slice B m d) rfl;go_simp;exact f.out _ _ rfl (br _ _)
  refine jm ?_ ?_
  ·rintro N e _ rfl K f;go_simp;exact Jo.w1 (pe (k.b e) HV.out) f.out
  refine jm ?_ ?_
  ·rintro N e _ ⟨Y,O,W,Q,rfl,q,S⟩ _ ⟨Z,P,X,R,rfl,r,T⟩ K f;go_simp;exact f.out _ _ ⟨_,_,_,_,_,_,_,_,rfl,q,r,by omega,by omega⟩ (br _ _)
  exact jo
  all_goals (rintro N e;(repeat rintro _ rfl);intro K f;have bN:=(M.b e).cell;go_simp;exact f.out _ _ rfl (br _ _))
 rintro w2 e _ _ _ rfl _ ⟨Y,O,W,Q,rfl,q,S⟩ _ _ _ rfl _ ⟨Z,P,X,R,rfl,r,T⟩ _ ⟨E,g,o,j,F,i,p,l,rfl,C,D,U,V⟩ -;simp only[Jo.z];replace G:=G.b e;replace H:=aj H e;clear h k q r;have bA:=G.cell;have J:=G.frozen
 refine jn 7 fun K f=>?_
 go_simp;refine f.out _ _ ?_;clear f K bA J;have L:=ae.mk4 G (.bool E) (.slice g o j) (.bool F) (.slice i p l);replace C:=C.s L;replace D:=D.s L;refine jd ?_;go_wp2;exact bq (v:= .agg #[.bool E,.slice g o j,.bool F,.slice i p l]) (by simp[results,results171,go_sem,L.box.cell]) rfl ⟨E,g,o,j,F,i,p,l,rfl,C,D,U,V,(L.below H.out (by omega))⟩
theorem qX{w:World}{A:Option Addr}{n c:Nat}{s:Bool}{x:Int}{B:Option Addr}{m d:Nat}{t:Bool}{y:Int}{A':Option Addr}{n' c':Nat}{s':Bool}{B':Option Addr}{m' d':Nat}{t':Bool}{q a b r u v e l g:Int}{o:Bool}(h:Wn w s A n c x)(k:Wn w t B m d y)(h':Wn w s' A' n' c' aH)(k':Wn w t' B' m' d' bW)(hn':n'<=7)(hm':m'<=7)(hn:n<=1000)(hm:m<=1000)(hq:(2*x+aH).fdiv (2*aH)=q)(ha:(if q < 0 then q*bW else q*aH)=a)(hb:(if q < 0 then q*aH else q*bW)=b)(hr:x-b=r)(hu:y-a=u)(hv:ln r=v)(he:u-r+200=e)(ho:decide (q%2=1)=o)
  (hl0:o=false->dD (v-e) (-SC) SC=l) (hg0:o=false->dD (v+e) (-SC) SC=g) (hl1:o=true->dD (-(v+e)) (-SC) SC=l) (hg1:o=true->dD (-(v-e)) (-SC) SC=g):Calls prog 112 #[.agg #[.bool s,.slice A n c,.bool t,.slice B m d],.agg #[.bool s',.slice A' n' c',.bool t',.slice B' m' d']] w (vR w 7 l g):=by
 have JI:=ie (iZ (z:=2) (x:=x));have JJ:=ie (iZ (z:=2) (x:=aH));have HQ:=ie hq;have HA:=ie ha;have JD:=ie hb;have HR:=ie hr;have HU:=ie hu;have HV:=ie hv;have HE:=ie he;have HO:=ie ho;have JG:=ie hl0;have JE:=ie hg0;have JH:=ie hl1;have JF:=ie hg1;clear hq ha hb hr hu hv he ho hl0 hg0 hl1 hg1
 go_enter func112,ntmps112
 go_upto_region 1 with fail
 generalize DS:((w.alloc _).alloc _).alloc _=w1 at *;obtain⟨P,Q,i,p⟩:=Bo.en3 DS;replace h:=h.below p.out;replace k:=k.below p.out
 replace h':=h'.below p.out
 replace k':=k'.below p.out
 clear DS
 go_wp2_with fail
 refine(dU 2 _ (by decide) (by decide)).mono ?_;rintro ee w2 ⟨s30,A30,n30,c30,rfl,bN,MX,B⟩;refine lN ?_ P Q i h k h' k' p B;clear P Q i h k h' k' p B;intro P Q i h k h' k' p
 go_upto_region 2 with fail
 have LD:=P.lt;have LE:=Q.lt;have LF:=i.lt;generalize O:w2.alloc _=w3 at *;obtain⟨X5,BW⟩:=Bo.nw O;clear O;refine yI ?_ P Q i h k h' k' bN p BW;clear P Q i h k h' k' bN p BW;intro P Q i h k h' k' bN p;have HD:=P.lt;have HF:=Q.lt;have hF:=i.lt;have LZ:=X5.lt;have LW:=p.out.size;refine aV [0,1,2,3,4,5,6,7,8,9,10,11,12,13,14] [13,14,15,16,17,18,19,20,21,22,23,24,25,26,7,0] [[],[],[1],[0,2],[3],[],[5],[4,6],[],[],[9],[8,10],[11],[7,12],[],[]] 16 1 [Jo.Fact.eq (.agg #[.bool s30,.slice A30 n30 c30]),Jo.qp w.heap.size 0,Jo.Fact.eq (.agg #[.bool s,.slice A n c]),Jo.Fact.wl 1000 2 [2,x],Jo.Fact.wn (2*x) (2001),Jo.qp (w.heap.size+1) 0,Jo.Fact.eq (.agg #[.bool s',.slice A' n' c']),Jo.Fact.wn (2*x+aH) (2009),Jo.Fact.eq (.agg #[.bool s30,.slice A30 n30 c30]),Jo.qp (w.heap.size+1) 0,Jo.Fact.eq (.agg #[.bool s',.slice A' n' c']),Jo.Fact.wl 7 2 [2,aH],Jo.Fact.wn (2*aH) (15),Jo.Fact.wn (q) (2028),Jo.Fact.bo w3.heap.size #[.bool false,.slice none 0 0] 43,Jo.Fact.any] ?_ ?_
 ·iterate 3 (refine jm ?_ ?_;rotate_left)
  refine jm ?_ ?_
  ·rintro S j _ rfl _ rfl K E;go_simp;exact E.out _ _ ⟨_,_,rfl,Wl.lit2 rfl (bN.b j).wr (h.b j).wr (by omega) (by omega)⟩ (ab _ _)
  refine jm ?_ ?_
  ·rintro S j _ ⟨MC,MK,rfl,JQ⟩ K E;go_simp;exact Jo.w1 (jp JQ (by decide) JI.out) E.out
  iterate 2 (refine jm ?_ ?_;rotate_left)
  refine jm ?_ ?_
  ·rintro S j _ ⟨LM,HX,JX,JK,rfl,hQ,JS⟩ _ rfl K E;go_simp;exact Jo.w1 (lR hQ.wr (h'.b j).wr (by omega) (by omega) rfl) E.out
  iterate 3 (refine jm ?_ ?_;rotate_left)
  refine jm ?_ ?_
  ·rintro S j _ rfl _ rfl K E;go_simp;exact E.out _ _ ⟨_,_,rfl,Wl.lit2 rfl (bN.b j).wr (h'.b j).wr (by omega) (by omega)⟩ (ab _ _)
  refine jm ?_ ?_
  ·rintro S j _ ⟨MD,ML,rfl,JR⟩ K E;go_simp;exact Jo.w1 (jp JR (by decide) JJ.out) E.out
  refine jm ?_ ?_
  ·rintro S j _ ⟨LN,HY,JY,JL,rfl,hR,JT⟩ _ ⟨LO,HZ,JZ,JM,rfl,hT,JU⟩ K E;go_simp;exact Jo.w1 (lz hR.wr hT.wr (by omega) (by omega) (by decide) HQ.out) E.out
  refine jm ?_ ?_
  ·rintro S j K E;go_simp;exact E.out _ _ ⟨_,rfl,j.size,Bo.new _ _ _⟩ (ab _ _)
  exact jo
  all_goals (rintro S j;(repeat rintro _ rfl);intro K E;have NS:=(X5.b j).cell;have LT:=(P.b j).cell;have LU:=(Q.b j).cell;go_simp;exact E.out _ _ rfl (br _ _))
 rintro w4 j _ rfl _ _ _ rfl _ ⟨_,_,rfl,_⟩ _ ⟨LM,HX,JX,JK,rfl,hQ,JS⟩ _ _ _ rfl _ ⟨LN,HY,JY,JL,rfl,hR,JT⟩ _ rfl _ _ _ rfl _ ⟨_,_,rfl,_⟩ _ ⟨LO,HZ,JZ,JM,rfl,hT,JU⟩ _ ⟨LP,JA,LA,JN,rfl,f,MW⟩ _ ⟨g6,rfl,MS,G⟩ -;simp only[Jo.z];replace P:=P.b j;replace Q:=Q.b j;replace i:=i.b j;replace h:=h.b j;replace k:=k.b j
 replace h':=h'.b j
 replace k':=k'.b j
 replace p:=aj p j;clear hQ hR hT bN X5;have hE:=G.cell;have HT:=G.frozen
 refine jn 15 fun K E=>?_
 go_simp;refine E.out _ _ ?_;clear E K hE HT;generalize hS:(w4.setCell _ _).setCell _ _=w5 at *;have D:=ae.of2 G hS;replace P:=P.s D;replace Q:=Q.s D;replace i:=i.s D;replace h:=h.s D;replace k:=k.s D
 replace h':=h'.s D
 replace k':=k'.s D
 replace f:=f.s D;replace p:=aP p D (by omega);replace G:=D.box;clear D hS;refine jd ?_
 go_upto_region 3 with fail
 have HD:=P.lt;have HF:=Q.lt;have hF:=i.lt;have HG:=G.lt;have LX:=p.out.size;refine aV [0,1,2,3,4,5] [27,28,29,30,31,8,0] [[],[],[],[1,2],[0,3],[],[]] 7 1 [Jo.Fact.eq (.agg #[.bool s,.slice A n c,.bool t,.slice B m d]),Jo.Fact.eq (.agg #[.bool s',.slice A' n' c',.bool t',.slice B' m' d']),Jo.Fact.eq (.agg #[.bool LP,.slice JA LA JN]),Jo.Fact.sp (a) (b) (4057),Jo.Fact.sp (r) (u) (5058),Jo.Fact.bo w5.heap.size #[.bool false,.slice none 0 0,.bool false,.slice none 0 0] 45,Jo.Fact.any] ?_ ?_
 ·iterate 3 (refine jm ?_ ?_;rotate_left)
  refine jm ?_ ?_
  ·rintro S j _ rfl _ rfl K E;go_simp;refine(qQ (L:=2028) (Z:=4057) (h'.b j) (k'.b j) (f.b j) (by omega) (by omega) (by omega) (by omega) (by omega) HA.out JD.out).mono ?_;rintro ee wk ⟨hW,hG,hP,hH,s32,A32,n32,c32,rfl,gO,gP,hI,hL,B⟩;exact E.out _ _ ⟨hW,hG,hP,hH,s32,A32,n32,c32,rfl,gO,gP,hI,hL⟩ B
  refine jm ?_ ?_
  ·rintro S j _ rfl _ ⟨hW,hG,hP,hH,s32,A32,n32,c32,rfl,gO,gP,hI,hL⟩ K E;go_simp;refine(FK (Z:=5058) (h.b j) (k.b j) gO gP (by omega) (by omega) (by omega) (by omega) (by omega) (by omega) HR.out HU.out).mono ?_;rintro ee wk ⟨HM,hY,HH,qT,HN,hZ,HI,xX,rfl,I,J,ET,HC,B⟩;exact E.out _ _ ⟨HM,hY,HH,qT,HN,hZ,HI,xX,rfl,I,J,ET,HC⟩ B
  refine jm ?_ ?_
  ·rintro S j K E;go_simp;exact E.out _ _ ⟨_,rfl,j.size,Bo.new _ _ _⟩ (ab _ _)
  exact jo
  all_goals (rintro S j;(repeat rintro _ rfl);intro K E;have LT:=(P.b j).cell;have LU:=(Q.b j).cell;have hE:=(G.b j).cell;go_simp;exact E.out _ _ rfl (br _ _))
 rintro w6 j _ rfl _ rfl _ rfl _ ⟨hW,hG,hP,hH,s32,A32,n32,c32,rfl,gO,gP,hI,hL⟩ _ ⟨HM,hY,HH,qT,HN,hZ,HI,xX,rfl,I,J,ET,HC⟩ _ ⟨g7,rfl,MU,X7⟩ -;simp only[Jo.z];replace i:=i.b j;replace G:=G.b j;replace h:=h.b j;replace k:=k.b j;replace f:=f.b j;replace p:=aj p j;clear gO gP h k h' k' P Q
 have hA:=X7.cell;have HW:=X7.frozen
 refine jn 6 fun K E=>?_
 go_simp;refine E.out _ _ ?_;clear E K hA HW;generalize hS:(((w6.setCell _ _).setCell _ _).setCell _ _).setCell _ _=w7 at *;have D:=ae.of4 X7 hS;replace i:=i.s D;replace G:=G.s D;replace f:=f.s D;replace I:=I.s D;replace J:=J.s D;replace p:=aP p D (by omega)
 replace X7:=D.box;clear D hS;refine jd ?_
 go_upto_region 4 with fail
 have hA:=X7.cell
 go_wp2_with fail
 refine(Iy I.wr (by omega) HV.out).mono ?_;rintro ee w8 ⟨HP,lA,HJ,zX,rfl,H,MY,B⟩;clear hA;refine jP ?_ i G X7 f I J p B;clear i G X7 f I J p B;intro i G X7 f I J p
 go_upto_region 5 with fail
 have LI:=i.lt;have LG:=G.lt;have LH:=X7.lt;generalize O:w8.alloc _=w9 at *;obtain⟨R,BW⟩:=Bo.nw O;clear O;refine lN ?_ i G X7 f I J H p BW;clear i G X7 f I J H p BW;intro i G X7 f I J H p;have hA:=X7.cell
 go_wp2_with fail
 refine(q6 J.wr I.wr (by omega) (by omega) rfl).mono ?_;rintro ee wA ⟨NM,ME,NG,MM,rfl,gS,MZ,B⟩;clear hA;refine jD ?_ i G R f H p B;clear i G R f H p B;intro i G R f H p;clear I J
 go_wp2_with fail
 refine(dU 200 _ (by decide) (by decide)).mono ?_;rintro ee wB ⟨NN,MF,NH,MN,rfl,HL,NA,B⟩;refine jP ?_ i G R f H gS p B;clear i G R f H gS p B;intro i G R f H gS p
 go_wp2_with fail
 refine(lR gS.wr HL.wr (by omega) (by omega) HE.out).mono ?_;rintro ee wC ⟨HS,lB,HK,BX,rfl,gB,NB,B⟩;refine jD ?_ i G R f H p B;clear i G R f H p B;intro i G R f H p;clear gS HL
 go_upto_region 6 with fail
 have LL:=i.lt;have LJ:=G.lt;have LK:=R.lt;generalize O:wC.alloc _=wD at *;obtain⟨X9,BW⟩:=Bo.nw O;clear O;refine jP ?_ i G R f H gB p BW;clear i G R f H gB p BW;intro i G R f H gB p;have hF:=i.lt;have HG:=G.lt;have MA:=R.lt
 have MB:=X9.lt;have LY:=p.out.size;refine aV [0,1,2,3,4,5,6,7] [42,43,44,45,46,47,48,11,0] [[],[],[0,1],[],[],[3,4],[2,5],[],[]] 9 1 [Jo.Fact.eq (.agg #[.bool HP,.slice lA HJ zX]),Jo.Fact.eq (.agg #[.bool HS,.slice lB HK BX]),Jo.Fact.wn (v-e) (320000),Jo.Fact.eq (.agg #[.bool HP,.slice lA HJ zX]),Jo.Fact.eq (.agg #[.bool HS,.slice lB HK BX]),Jo.Fact.wn (v+e) (320000),Jo.Fact.sp (v-e) (v+e) (320000),Jo.Fact.bo wD.heap.size #[.bool false,.slice none 0 0,.bool false,.slice none 0 0] 45,Jo.Fact.any] ?_ ?_
 ·iterate 2 (refine jm ?_ ?_;rotate_left)
  refine jm ?_ ?_
  ·rintro S j _ rfl _ rfl K E;go_simp;exact Jo.w1 (q6 (H.b j).wr (gB.b j).wr (by omega) (by omega) rfl) E.out
  iterate 2 (refine jm ?_ ?_;rotate_left)
  refine jm ?_ ?_
  ·rintro S j _ rfl _ rfl K E;go_simp;exact Jo.w1 (lR (H.b j).wr (gB.b j).wr (by omega) (by omega) rfl) E.out
  refine jm ?_ ?_
  ·rintro S j _ ⟨LR,JB,LB,JO,rfl,hU,JV⟩ _ ⟨LS,JC,LC,JP,rfl,hV,JW⟩ K E;go_simp;exact E.out _ _ ⟨_,_,_,_,_,_,_,_,rfl,hU,hV,by omega,by omega⟩ (br _ _)
  refine jm ?_ ?_
  ·rintro S j K E;go_simp;exact E.out _ _ ⟨_,rfl,j.size,Bo.new _ _ _⟩ (ab _ _)
  exact jo
  all_goals (rintro S j;(repeat rintro _ rfl);intro K E;have NT:=(R.b j).cell;have NU:=(X9.b j).cell;go_simp;exact E.out _ _ rfl (br _ _))
 rintro wE j _ rfl _ rfl _ ⟨LR,JB,LB,JO,rfl,hU,JV⟩ _ rfl _ rfl _ ⟨LS,JC,LC,JP,rfl,hV,JW⟩ _ ⟨NO,MG,NI,MO,NP,MH,NJ,MP,rfl,M,N,NC,ND⟩ _ ⟨g10,rfl,LV,C⟩ -;simp only[Jo.z];replace i:=i.b j;replace G:=G.b j;replace f:=f.b j;replace p:=aj p j;clear H gB hU hV X7 R X9;have F:=C.cell
 have bH:=C.frozen
 refine jn 8 fun K E=>?_
 go_simp;refine E.out _ _ ?_;clear E K F bH;generalize hS:(((wE.setCell _ _).setCell _ _).setCell _ _).setCell _ _=wF at *;have D:=ae.of4 C hS;replace i:=i.s D;replace G:=G.s D;replace f:=f.s D;replace M:=M.s D;replace N:=N.s D;replace p:=aP p D (by omega)
 replace C:=D.box;clear D hS;refine jd ?_
 go_upto_region 7 with fail
 have hE:=G.cell
 go_wp2_with fail
 refine(Iw f.wr (by omega) HO.out).mono ?_;rintro ee wG ⟨rfl,B⟩;clear hE;refine dG ?_ i C M N p B;clear i C M N p B;intro i C M N p;clear f G
 cases o
 ·have F:=C.cell
  go_wp2_with fail
  refine(Hj M N (JG.out (by first | rfl | trivial)) (JE.out (by first | rfl | trivial))).mono ?_
  rintro ee wH ⟨bC,T,X,V,bD,U,Y,W,rfl,bA,bB,hM,hN,B⟩;clear F;refine dG ?_ i C M N p B;clear i C M N p B;intro i C M N p;clear M N;have hX:=i.cell;have hB:=i.frozen;have F:=C.cell
  go_wp2;clear hX hB F;have D:=ae.mk4 i (.bool bC) (.slice T X V) (.bool bD) (.slice U Y W);replace bA:=bA.s D;replace bB:=bB.s D;exact bq (v:= .agg #[.bool bC,.slice T X V,.bool bD,.slice U Y W]) (by simp[results,results112,go_sem,D.box.cell]) rfl ⟨bC,T,X,V,bD,U,Y,W,rfl,bA,bB,hM,hN,(D.below p.out (by omega))⟩
 ·go_upto_region 8 with fail
  have F:=C.cell
  go_wp2_with fail
  refine(Ix (Z:=320000) M N (by omega) (by omega) rfl rfl).mono ?_;rintro ee wH ⟨NQ,MI,NK,MQ,NR,MJ,NL,MR,rfl,hC,hD,NE,NF,B⟩;clear F;refine aE ?_ i C p B;clear i C p B;intro i C p;clear M N;have F:=C.cell;have bH:=C.frozen
  go_upto_region 9 with fail
  clear F bH;generalize hS:(((wH.setCell _ _).setCell _ _).setCell _ _).setCell _ _=wI at *;have D:=ae.of4 C hS;replace i:=i.s D;replace hC:=hC.s D;replace hD:=hD.s D;replace p:=aP p D (by omega);replace C:=D.box;clear D hS;have F:=C.cell
  go_wp2_with fail
  refine(Hj hC hD (JH.out (by first | rfl | trivial)) (JF.out (by first | rfl | trivial))).mono ?_
  rintro ee wJ ⟨bC,T,X,V,bD,U,Y,W,rfl,bA,bB,hM,hN,B⟩;clear F;refine aE ?_ i C p B;clear i C p B;intro i C p;clear hC hD;have hX:=i.cell;have hB:=i.frozen;have F:=C.cell;go_wp2;clear hX hB F
  have D:=ae.mk4 i (.bool bC) (.slice T X V) (.bool bD) (.slice U Y W);replace bA:=bA.s D;replace bB:=bB.s D;exact bq (v:= .agg #[.bool bC,.slice T X V,.bool bD,.slice U Y W]) (by simp[results,results112,go_sem,D.box.cell]) rfl ⟨bC,T,X,V,bD,U,Y,W,rfl,bA,bB,hM,hN,(D.below p.out (by omega))⟩
theorem Hm{w:World}{A:Option Addr}{n c:Nat}{s:Bool}{x:Int}{B:Option Addr}{m d:Nat}{t:Bool}{y:Int}{A':Option Addr}{n' c':Nat}{s':Bool}{B':Option Addr}{m' d':Nat}{t':Bool}{l g:Int}(h:Wn w s A n c x)(k:Wn w t B m d y)(h':Wn w s' A' n' c' aH)(k':Wn w t' B' m' d' bW)(hn':n'<=7)(hm':m'<=7)(hn:n<=1000)(hm:m<=1000)(hl:dD (wu x y) (-SC) SC=l)(hg:dD (wt x y) (-SC) SC=g):Calls prog 112 #[.agg #[.bool s,.slice A n c,.bool t,.slice B m d],.agg #[.bool s',.slice A' n' c',.bool t',.slice B' m' d']] w (vR w 7 l g):=by
 have hq:(2*x+aH).fdiv (2*aH)=qI x:=Int.fdiv_eq_ediv_of_nonneg _ (by decide)
 have a:x-(if qI x < 0 then qI x*aH else qI x*bW)=rI x:=by
  unfold rI
  split <;> rfl
 have b:y-(if qI x < 0 then qI x*bW else qI x*aH)=tI x y:=by
  unfold tI
  split <;> rfl
 unfold wu at hl
 unfold wt at hg
 refine qX h k h' k' hn' hm' hn hm hq rfl rfl a b rfl rfl rfl (fun c=>?_) (fun c=>?_) (fun c=>?_) (fun c=>?_)
 ·rw[if_pos (by have:=of_decide_eq_false c;omega)]at hl;exact hl
 ·rw[if_pos (by have:=of_decide_eq_false c;omega)]at hg;exact hg
 ·rw[if_neg (by have:=of_decide_eq_true c;omega)]at hl;exact hl
 ·rw[if_neg (by have:=of_decide_eq_true c;omega)]at hg;exact hg
def If (x:Sp)(h:Nat):Prop:=∀a b,x=some (a,b)->Fz a h/\Fz b h
theorem If.mono{x:Sp}{h k:Nat}(f:If x h)(hk:h<=k):If x k:=fun a b e=>⟨(f a b e).1.mono hk,(f a b e).2.mono hk⟩
section
variable {q:Bool->Int->Int->Int} {r:Bool->Int->Int} {x y z:Sp}
end
section
variable {q:Bool->Int->Int->Int} {r:Bool->Int->Int} {x y z:Sp} {m n:Int}
end
theorem CJ{a b:Int}(h1: -9223372036854775807<=a)(h2:a<=9223372036854775807)(k1: -9223372036854775807<=b)(k2:b<=9223372036854775807)(h:al a=al b):a=b:=by
 have c:=nt (a:=a) (b:=b) (by omega) (by omega) (by omega) (by omega);rw[h]at c
 rcases ap a b with⟨p,e⟩ | ⟨p,e⟩ | ⟨p,e⟩
 ·rw[e]at c
  rcases ap (al b) (al b)with ⟨p,e⟩ | ⟨p,e⟩ | ⟨p,e⟩ <;> omega
 ·exact p
 ·rw[e]at c
  rcases ap (al b) (al b)with ⟨p,e⟩ | ⟨p,e⟩ | ⟨p,e⟩ <;> omega
theorem qj{a b:Int}(h1: -9223372036854775807<=a)(h:a < b)(h2:b<=9223372036854775807):al a < al b:=by
 have l:=zf (a:=a) (b:=b) (by omega) (by omega) h2
 have n:al a≠al b:=fun e=>by
  have:=CJ h1 (by omega) (by omega) h2 e
  omega
 omega
