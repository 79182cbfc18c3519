/-
 Contracts that the proof rests on.
-/
import Derived.Test.YteigedaefgmojaaGreatDoorYQaw
namespace Go.Proofs.YteigedaefgmojaaGreatDoor
open Go.Proofs.Tryz
open Go Go.RowKit
set_option linter.unusedVariables false
def iI (cos:Bool)(i:Int):Int:=if cos then 2*i else 2*i+1
def mo (z:Int):Int:=if z < 0 then z*bW else z*aH
def GH (z:Int):Int:=if z < 0 then z*aH else z*bW
theorem rF (z x y:Int):aW z x y=(decide (mo z<=y) && decide (x<=GH z)):=by
 unfold aW mo GH
 by_cases c:z < 0
 ·rw[if_pos c,if_pos c,if_pos c,Int.mul_comm bW,Int.mul_comm aH]
 ·rw[if_neg c,if_neg c,if_neg c,Int.mul_comm bW,Int.mul_comm aH]
def ku (cos:Bool)(x y j:Int):Nat->List Sp
 | 0=>[]
 | k+1=>ku cos x y j k ++(if aW (iI cos (j+k)) x y=true then [jr (j+k)]else [])
theorem BC (cos:Bool)(x y j:Int):∀k:Nat,(ku cos x y j k).length<=k
 | 0=>Nat.le_refl _
 | k+1=>by
  have:=BC cos x y j k
  show (ku cos x y j k ++_).length<=k+1
  rw[List.length_append]
  split <;> simp <;> omega
theorem GY (i:Int):∃p,jr i=some (p,p)/\ -al 1<=p/\p<=al 1:=by
 obtain⟨o1,o2⟩:=dz
 by_cases h:i%2=0
 ·exact⟨_,nB h,by omega,Int.le_refl _⟩
 ·exact⟨_,qr h,Int.le_refl _,by omega⟩
theorem pj{z:Sp}(h:f6 z):dc z:=by
 obtain⟨o1,o2⟩:=dz;obtain⟨r,u,rfl,a,b,c⟩:=h;exact⟨by omega,b,by omega,by omega,by omega⟩
theorem kS (i:Int):f6 (jr i):=by
 obtain⟨p,e,a,b⟩:=GY i;exact⟨p,p,e,a,Int.le_refl _,b⟩
theorem xh (cos:Bool)(x y j:Int):∀k:Nat,∀z ∈ ku cos x y j k,f6 z
 | 0=>fun z h=>by cases h
 | k+1=>fun z h=>by
  rcases List.mem_append.1 h with h | h
  ·exact xh cos x y j k z h
  ·split at h
   ·obtain rfl:=List.mem_singleton.1 h
    exact kS _
   ·cases h
theorem pH (cos:Bool)(x y j:Int)(k:Nat):dc (eu (ku cos x y j k)):=xM fun z h=>pj (xh cos x y j k z h)
theorem ip (l:List Sp)(a:Sp):eu (l ++[a])=bc (eu l) a:=by
 unfold eu
 rw[List.foldl_append]
 rfl
theorem DA{cos:Bool}{x y j r u:Int}(h1: -al 1<=r)(h2:r<=u)(h3:u<=al 1):∀k:Nat,∃e f,bc (eu (ku cos x y j k)) (some (r,u))=some (e,f)/\
  ((e=r/\∀t:Nat,t < k->MT cos x y (j+t)->(j+(t:Int))%2=0)\/(e= -al 1/\∃t:Nat,t < k/\MT cos x y (j+t)/\¬(j+(t:Int))%2=0))/\
  ((f=u/\∀t:Nat,t < k->MT cos x y (j+t)->¬(j+(t:Int))%2=0)\/(f=al 1/\∃t:Nat,t < k/\MT cos x y (j+t)/\(j+(t:Int))%2=0))
 | 0=>⟨r,u,rfl,.inl ⟨rfl,fun t ht=>absurd ht (Nat.not_lt_zero _)⟩,.inl ⟨rfl,fun t ht=>absurd ht (Nat.not_lt_zero _)⟩⟩
 | k+1=>by
  obtain⟨o1,o2⟩:=dz;obtain⟨e,f,q,p,hf⟩:=DA (cos:=cos) (x:=x) (y:=y) (j:=j) h1 h2 h3 k
  have l: -al 1<=e/\e<=f/\f<=al 1:=by
   rcases p with⟨a,_⟩ | ⟨a,_⟩ <;> rcases hf with⟨b,_⟩ | ⟨b,_⟩ <;> omega
  have d:∀t:Nat,t < k+1->t < k\/t=k:=fun t ht=>by omega
  have n:dc (some (r,u)):=⟨by omega,h2,by omega,by omega,by omega⟩
  by_cases hm:MT cos x y (j+k)
  ·have i:aW (iI cos (j+k)) x y=true:=hm
   have e1:bc (eu (ku cos x y j (k+1))) (some (r,u))=bc (some (e,f)) (jr (j+k)):=by
    show bc (eu (ku cos x y j k ++(if aW (iI cos (j+k)) x y=true then [jr (j+k)]else []))) (some (r,u))=_
    rw[if_pos i,ip,iq (pH cos x y j k) (pj (kS _)) n,td (x:=jr _),<-iq (pH cos x y j k) n (pj (kS _)),q]
   rw[e1]
   by_cases m:(j+(k:Int))%2=0
   ·rw[nB m,gT l.1 l.2.1 l.2.2 (by omega) (by omega)];refine⟨e,al 1,by rw[Int.min_eq_left (by omega),Int.max_eq_right (by omega)],?_,.inr ⟨rfl,k,by omega,hm,m⟩⟩
    rcases p with⟨a,b⟩ | ⟨a,t,o,g,h⟩
    ·refine .inl ⟨a,fun t ht mt=>?_⟩
     rcases d t ht with c | rfl
     ·exact b t c mt
     ·exact m
    ·exact .inr ⟨a,t,by omega,g,h⟩
   ·rw[qr m,gT l.1 l.2.1 l.2.2 (by omega) (by omega)];refine⟨-al 1,f,by rw[Int.min_eq_right (by omega),Int.max_eq_left (by omega)],.inr ⟨rfl,k,by omega,hm,m⟩,?_⟩
    rcases hf with⟨a,b⟩ | ⟨a,t,o,g,h⟩
    ·refine .inl ⟨a,fun t ht mt=>?_⟩
     rcases d t ht with c | rfl
     ·exact b t c mt
     ·exact m
    ·exact .inr ⟨a,t,by omega,g,h⟩
  ·have i:¬aW (iI cos (j+k)) x y=true:=hm
   have e1:bc (eu (ku cos x y j (k+1))) (some (r,u))=some (e,f):=by
    show bc (eu (ku cos x y j k ++(if aW (iI cos (j+k)) x y=true then [jr (j+k)]else []))) (some (r,u))=_
    rw[if_neg i,List.append_nil,q]
   rw[e1];refine⟨e,f,rfl,?_,?_⟩
   ·rcases p with⟨a,b⟩ | ⟨a,t,o,g,h⟩
    ·refine .inl ⟨a,fun t ht mt=>?_⟩
     rcases d t ht with c | rfl
     ·exact b t c mt
     ·exact absurd mt hm
    ·exact .inr ⟨a,t,by omega,g,h⟩
   ·rcases hf with⟨a,b⟩ | ⟨a,t,o,g,h⟩
    ·refine .inl ⟨a,fun t ht mt=>?_⟩
     rcases d t ht with c | rfl
     ·exact b t c mt
     ·exact absurd mt hm
    ·exact .inr ⟨a,t,by omega,g,h⟩
theorem yq{a b:Int}(h:a<=b):mo a<=mo b:=by
 unfold mo aH bW
 split <;> split <;> omega
theorem xi (cos:Bool){a b:Int}(h:a<=b):iI cos a<=iI cos b:=by
 unfold iI
 cases cos
 ·simp only[Bool.false_eq_true,if_false]
  omega
 ·simp only[if_true]
  omega
theorem xj{cos:Bool}{X y j i:Int}(hX: -4294967296*SC<=X/\X<=4294967296*SC)(hj:X.fdiv (aH*2)=j)(hm:MT cos X y i):j<=i:=by
 rw[Int.fdiv_eq_ediv_of_nonneg _ (by decide)]at hj
 have a:=Int.ediv_mul_le X (show (aH*2:Int)≠0 by decide)
 have b:=Int.lt_ediv_add_one_mul_self X (show (0:Int) < aH*2 by decide)
 rw[hj]at a b;clear hj;obtain⟨h1,h2⟩:=hX
 unfold MT aW at hm
 cases cos
 ·simp only[Bool.false_eq_true,if_false]at hm
  by_cases c:2*i+1 < 0
  ·rw[if_pos c]at hm;simp only[Bool.and_eq_true,decide_eq_true_eq]at hm
   unfold SC aH bW at *
   omega
  ·rw[if_neg c]at hm;simp only[Bool.and_eq_true,decide_eq_true_eq]at hm
   unfold SC aH bW at *
   omega
 ·simp only[if_true]at hm
  by_cases c:2*i < 0
  ·rw[if_pos c]at hm;simp only[Bool.and_eq_true,decide_eq_true_eq]at hm
   unfold SC aH bW at *
   omega
  ·rw[if_neg c]at hm;simp only[Bool.and_eq_true,decide_eq_true_eq]at hm
   unfold SC aH bW at *
   omega
theorem BD{cos:Bool}{x y i k:Int}(hs:y < mo (iI cos k))(hm:MT cos x y i):i < k:=by
 refine Int.not_le.1 fun c=>?_
 have a:aW (iI cos i) x y=true:=hm
 rw[rF,Bool.and_eq_true,decide_eq_true_eq]at a
 have:=yq (xi cos c)
 omega
theorem BE{cos:Bool}{X y j:Int}(hX: -4294967296*SC<=X/\X<=4294967296*SC)(hj:X.fdiv (aH*2)=j)(hy:y<=X+14*SC+2):y < mo (iI cos (j+6)):=by
 rw[Int.fdiv_eq_ediv_of_nonneg _ (by decide)]at hj
 have a:=Int.ediv_mul_le X (show (aH*2:Int)≠0 by decide)
 have b:=Int.lt_ediv_add_one_mul_self X (show (0:Int) < aH*2 by decide)
 rw[hj]at a b;clear hj;obtain⟨h1,h2⟩:=hX
 unfold mo iI
 cases cos
 ·simp only[Bool.false_eq_true,if_false]
  unfold SC aH bW at *
  split <;> omega
 ·simp only[if_true]
  unfold SC aH bW at *
  split <;> omega
theorem Es{cos:Bool}{a b j:Int}{za zb:Sp}{k:Nat}(fa:aD a=true)(fb:aD b=true)(hw:¬al 7<=eY (some (a,b)))(ha:Sv cos a za)(hb:Sv cos b zb)(hj:(ak a*2).fdiv (aH*2)=j)(hs:ak b*2+2 < mo (iI cos (j+k))):
  eu (ku cos (ak a*2) (ak b*2+2) j k ++[za,zb])=bG cos (ak a*2) (ak b*2+2) j (bc za zb) 13:=by
 obtain⟨o1,o2⟩:=dz;have D:=DY ha;have E:=DY hb;obtain⟨r,u,hz,h1,h2,C⟩:=BS D E
 have e1:eu (ku cos (ak a*2) (ak b*2+2) j k ++[za,zb])=bc (eu (ku cos (ak a*2) (ak b*2+2) j k)) (bc za zb):=by
  rw[<-iq (pH _ _ _ _ _) (pj D) (pj E),<-ip,<-ip,List.append_assoc]
  rfl
 obtain⟨L,M⟩:=kx fa
 have H: -4294967296*SC<=ak a*2/\ak a*2<=4294967296*SC:=by
  generalize ak a=A at *
  unfold SC at *
  omega
 have z:∀i,MT cos (ak a*2) (ak b*2+2) i->∃t:Nat,t < k/\i=j+t:=fun i hm=>by
  have c1:=xj H hj hm;have c2:=BD hs hm;exact⟨(i-j).toNat,by omega,by omega⟩
 have B:∀i,MT cos (ak a*2) (ak b*2+2) i->∃t:Nat,t < 13/\i=j-4+t:=fun i hm=>by
  have:=zT fa fb hw hm
  rw[hj]at this;exact this
 rw[e1,hz];obtain⟨e,f,F,I,hf⟩:=DA (cos:=cos) (x:=ak a*2) (y:=ak b*2+2) (j:=j) h1 h2 C k;obtain⟨e',G,h,l,m⟩:=nd (cos:=cos) (x:=ak a*2) (y:=ak b*2+2) (j:=j) h1 h2 C 13;rw[F,h]
 obtain rfl:e=e':=by
  rcases I with⟨p,q⟩ | ⟨p,t,J,g,w⟩ <;> rcases l with⟨n,o⟩ | ⟨n,t',v,c,d⟩
  ·omega
  ·obtain⟨s,s1,s2⟩:=z _ c;exact absurd (by have:=q s s1 (s2▸c);omega) d
  ·obtain⟨s,s1,s2⟩:=B _ g;exact absurd (by have:=o s s1 (s2▸g);omega) w
  ·omega
 obtain rfl:f=G:=by
  rcases hf with⟨p,q⟩ | ⟨p,t,J,g,w⟩ <;> rcases m with⟨n,o⟩ | ⟨n,t',v,c,d⟩
  ·omega
  ·obtain⟨s,s1,s2⟩:=z _ c;exact absurd d (by have:=q s s1 (s2▸c);omega)
  ·obtain⟨s,s1,s2⟩:=B _ g;exact absurd w (by have:=o s s1 (s2▸g);omega)
  ·omega
 rfl
end Go.Proofs.YteigedaefgmojaaGreatDoor
namespace Go.Proofs.YteigedaefgmojaaGreatDoor
open Go.Proofs.Tryz
set_option maxHeartbeats 8000000
open Go.RowKit
set_option linter.unusedVariables false
set_option maxRecDepth 100000
theorem BU:(prog.info? 24).map (fun i=>(i.zero,i.size,i.bytes))=some (some (.agg #[.int .i64 0,.bool false,.int .u64 0,.int .i64 0]),4,32):=by kernel_rfl
section
variable {w w':World} {base n c:Nat} {A:Option Addr} {l:List Int}
def aZ (A:Option Addr):Option Nat:=A.map (·.block)
theorem iA (A:Option Addr)(n c:Nat):(Value.slice A n c).ownBlock=aZ A:=by cases A <;> rfl
theorem Na.kept{row:Option Nat}(h:Na w base A n c l)(hg:w.grownBy w' row)(hne:aZ A=none\/aZ A≠row):Na w' base A n c l:=by
 obtain⟨r,h1,h2⟩:=h;exact⟨r,h1.kept hg (by rw[iA];exact hne),h2⟩
theorem Na.own_lt (h:Na w base A n c l):∀k,aZ A=some k->base<=k/\k < w.heap.size:=by
 obtain⟨r,h1,h2⟩:=h
 intro k a
 exact h1.lt k (by rw[iA];exact a)
theorem Fw{ty:TypeId}{g:Nat}{K M E a:Int}{s:Bool}(h:Na w base A n c l)(q:Fq K s M E a)(X:Bo w g #[.int .i64 K,.bool s,.int .u64 M,.int .i64 E] 24)(hn:n+1<=1099511627776)(hb:base<=w.heap.size):
  ∃A2 c2 w',(Builtin.append_ #[82,82] ty #[.slice A n c,.slice (some ⟨g,0,none⟩) 1 1]).run prog w= .ok (.slice A2 (n+1) c2) w'/\Na w' base A2 (n+1) c2 (l ++[a])/\w.grownBy w' (aZ A)/\(aZ A2=aZ A\/aZ A2=some w.heap.size):=by
 obtain⟨i,hi,hz,p,f⟩:=info_parts BU;obtain⟨r,h1,h2,x,h4⟩:=h
 obtain⟨H,w',D,o,hg,_,b⟩:=run_append_own_at (P:=prog) w base 82 ty 24 i _ 4 32 Tryz.underlying82 hi hz p f rfl (by decide) _ n (iS r) h1 ⟨g,0,none⟩ 1 1 (iS [(K,s,M,E)]) rfl (by
  intro j u d
  have e:=X.cell
  rcases j with _ | _ | _ | _ | j
  ·cases d
   exact e 0
  ·cases d
   exact e 1
  ·cases d
   exact e 2
  ·cases d
   exact e 3
  ·cases d) (by
  intro u y
  simp only[iS,List.mem_cons,List.not_mem_nil,or_false]at y
  rcases y with rfl | rfl | rfl | rfl <;> rfl) (by unfold maxLen;omega) (by omega) hb
 rw[iA]at hg b;rw[<-jQ]at o
 obtain⟨A2,c2,rfl⟩:∃A2 c2,H= .slice A2 (n+1) c2:=by
  rcases o.2 with⟨_,J⟩ | ⟨I,t,v,F,_⟩
  ·omega
  ·exact⟨_,_,F⟩
 rw[iA]at b
 refine⟨A2,c2,w',D,⟨_,o,by rw[List.length_append,h2];rfl,by rw[List.length_append,x];rfl,fun k hk=>?_⟩,hg,b⟩
 by_cases m:k < n
 ·obtain⟨B,s1,C,z,hq,G⟩:=h4 k m;refine⟨B,s1,C,z,by rw[List.getElem?_append_left (by omega)];exact hq,?_⟩
  rw[List.getD_eq_getElem?_getD,List.getElem?_append_left (by omega),<-List.getD_eq_getElem?_getD];exact G
 ·obtain rfl:k=n:=by omega
  refine⟨K,s,M,E,by rw[List.getElem?_append_right (by omega),h2];simp,?_⟩
  rw[List.getD_eq_getElem?_getD,List.getElem?_append_right (by omega),x]
  simpa using q
theorem mK{ops:Array Oper}{rest:List Oper}{o:Oper}{a:Act}{Q:Exit->Act->World->Prop}(hgd:o.guard=none)(s x:Operand)
  (ho:o.op= .call {callee:= .builtin .append,args:= #[s,x],argTypes:= #[82,82]}) {g:Nat} {K M E p:Int} {b:Bool}
  (hs:a.eval s= .slice A n c) (hx:a.eval x= .slice (some ⟨g,0,none⟩) 1 1) (h:Na w base A n c l) (q:Fq K b M E p) (X:Bo w g #[.int .i64 K,.bool b,.int .u64 M,.int .i64 E] 24) (hn:n+1<=1099511627776) (hb:base<=w.heap.size)
  (hK:∀A2 c2 w',Na w' base A2 (n+1) c2 (l ++[p])->w.grownBy w' (aZ A)->(aZ A2=aZ A\/aZ A2=some w.heap.size)->wpList prog ops Q rest (a.put o.dst (.slice A2 (n+1) c2)) w'):wpList prog ops Q (o::rest) a w:=by
 refine wpList_plain hgd fun K hK2=>?_
 obtain⟨A2,c2,w',e,h1,h2,d⟩:=Fw (ty:=o.type) h q X hn hb
 unfold Oper.wp execOp
 simp only[ho,resolve,invoke,builtin,Sem.run_bind,Sem.run_pure,Result.andThen_ok,List.map_toArray,List.map_cons,List.map_nil,hs,hx,e];exact hK2 _ _ (hK A2 c2 w' h1 h2 d)
end
set_option linter.unusedSimpArgs false
theorem Nl.lit2{W:World}{g:Nat}{D1 D2 M1 M2 E1 E2 r1 r2:Int}{s1 s2:Bool}(hg:W.heap.size=g)(h1:LQ M1)(h2:LQ M2)(k1:rk D1 s1 M1 E1=r1)(k2:rk D2 s2 M2 E2=r2):
  Nl (W.alloc (.cells #[.int .i64 D1,.bool s1,.int .u64 M1,.int .i64 E1,.int .i64 D2,.bool s2,.int .u64 M2,.int .i64 E2] 24)) (some ⟨g,0,none⟩) 2 2 [r1,r2]:=by
 subst hg;have hh:=heap_alloc_new W (.cells #[.int .i64 D1,.bool s1,.int .u64 M1,.int .i64 E1,.int .i64 D2,.bool s2,.int .u64 M2,.int .i64 E2] 24)
 refine⟨rfl,Nat.le_refl _,by decide,fun _=>⟨_,0,rfl,fun k hk=>?_⟩⟩
 rcases (by omega:k=0\/k=1)with rfl | rfl
 ·exact⟨D1,s1,M1,E1,by rw[cell_of_row _ _ _ _ _ _ hh];rfl,by rw[cell_of_row _ _ _ _ _ _ hh];rfl,by rw[cell_of_row _ _ _ _ _ _ hh];rfl,by rw[cell_of_row _ _ _ _ _ _ hh];rfl,h1,k1⟩
 ·exact⟨D2,s2,M2,E2,by rw[cell_of_row _ _ _ _ _ _ hh];rfl,by rw[cell_of_row _ _ _ _ _ _ hh];rfl,by rw[cell_of_row _ _ _ _ _ _ hh];rfl,by rw[cell_of_row _ _ _ _ _ _ hh];rfl,h2,k2⟩
theorem CA{a b:Int}(ha:a<=19342822337206103650074625):oJ [a,b]=min a b:=by
 have:=dC
 show min (min TP a) b=_
 omega
theorem rL{a b:Int}(ha: -19342822337206103650074625<=a):nk [a,b]=max a b:=by
 have:=dC
 show max (max (-TP) a) b=_
 omega
theorem kD{w:World}{e:Bool}{D M E D' M' E':Int}{s s':Bool}{e2:Bool}{G P Q G' P' Q':Int}{g g':Bool}{x y z:Sp}(hM:LQ M)(hM':LQ M')(hP:LQ P)(hP':LQ P')(hx:fG e D s M E D' s' M' E'=x)(hy:fG e2 G g P Q G' g' P' Q'=y)(hr:bc x y=z):Calls prog 39 #[VI e D s M E D' s' M' E',VI e2 G g P Q G' g' P' Q'] w (PV w z):=by
 delta VI
 have HX:=ie hx;have HY:=ie hy;clear hx hy
 go_enter func39,ntmps39
 go_upto_region 1 with fail
 generalize N:((w.alloc _).alloc _).alloc _=w1 at *;obtain⟨X2,p,a,c⟩:=Bo.en3 N;clear N;have hA:=X2.cell
 go_wp2_with fail
 refine(fP hM hM' HX.out).mono ?_;rintro ee w2 ⟨e1,K1,s1,M1,E1,r,F,t,q,rfl,v1,B⟩;clear hA;refine aE ?_ p a c B;clear p a c B;intro p a c
 go_upto_region 2 with fail
 have bD:=p.lt;have bH:=a.lt;generalize k:w2.alloc _=w3 at *;obtain⟨j,H⟩:=Bo.nw k;clear k;refine aE ?_ p a c H;clear p a c H;intro p a c;have hB:=p.cell
 go_wp2_with fail
 refine(fP hP hP' HY.out).mono ?_;rintro ee w4 ⟨e2,K2,s2,M2,E2,J,T,L,I,rfl,v2,B⟩;clear hB;refine aE ?_ a j c B;clear a j c B;intro a j c
 go_upto_region 3 with fail
 have gB:=a.lt;have bN:=j.lt;generalize k:w4.alloc _=w5 at *;obtain⟨X,H⟩:=Bo.nw k;clear k;refine aE ?_ a j c H;clear a j c H;intro a j c;clear HX HY hM hM' hP hP'
 rcases x with _ | ⟨V,W⟩
 ·obtain⟨rfl,y1,hC⟩:=v1
  obtain rfl:y=z:=hr
  have m:=a.cell;have d:=a.frozen;have h:=j.cell;have i:=X.cell;go_wp2;clear m d h i;have o:=ae.t9 a e2 K2 s2 M2 E2 J T L I
  exact bq (by simp[results,results39,go_sem,o.box.cell]) rfl ⟨_,_,_,_,_,_,_,_,_,rfl,v2,(o.below c.out (by omega))⟩
 ·obtain⟨rfl,a1,Y,o1,S,R⟩:=v1
  rcases y with _ | ⟨Z,yb⟩
  ·obtain⟨rfl,y2,hD⟩:=v2
   obtain rfl:some (V,W)=z:=hr
   have m:=a.cell;have d:=a.frozen;have h:=j.cell;have i:=X.cell;go_wp2;clear m d h i;have o:=ae.t9 a false K1 s1 M1 E1 r F t q
   exact bq (v:= .agg #[.bool false,.int .i64 K1,.bool s1,.int .u64 M1,.int .i64 E1,.int .i64 r,.bool F,.int .u64 t,.int .i64 q]) (by simp[results,results39,go_sem,o.box.cell]) rfl ⟨_,_,_,_,_,_,_,_,_,rfl,⟨rfl,a1,Y,o1,S,R⟩,(o.below c.out (by omega))⟩
  ·obtain⟨rfl,a2,b2,o2,gP,gO⟩:=v2
   have hu:oJ [V,Z]=min V Z:=CA a1.bd.2
   have hl:nk [W,yb]=max W yb:=rL Y.bd.1
   obtain⟨u,C⟩:∃u,min V Z=u:=⟨_,rfl⟩;obtain⟨l,A⟩:∃l,max W yb=l:=⟨_,rfl⟩
   have O:du u l=z:=by rw[<-C,<-A];exact hr
   rw[C]at hu;rw[A]at hl;have HU:=ie hu;have HL:=ie hl;have HR:=ie O;clear hu hl C A hr O o1 S R o2 gP gO;have h:=j.cell;have i:=X.cell
   go_upto_region 7 with fail
   clear h i;refine aV [0,1,2,3,4,5,6,7,8,9,10,11,12] [18,19,20,21,22,23,24,25,26,27,28,29,30,0] [[],[0],[],[2],[1,3],[4],[],[6],[],[8],[7,9],[10],[5,11],[]] 14 1 [Jo.qp w2.heap.size 1,Jo.q4 K1 s1 M1 E1,Jo.qp w4.heap.size 1,Jo.q4 K2 s2 M2 E2,Jo.Fact.nl 2 [V,Z],Jo.Fact.num u,Jo.qp w2.heap.size 5,Jo.q4 r F t q,Jo.qp w4.heap.size 5,Jo.q4 J T L I,Jo.Fact.nl 2 [W,yb],Jo.Fact.num l,Jo.Fact.iv z,Jo.Fact.any] ?_ ?_
   ·iterate 4 (refine jm ?_ ?_;rotate_left)
    refine jm ?_ ?_
    ·rintro U n _ rfl _ rfl K f;go_simp;exact f.out _ _ ⟨_,2,rfl,Nl.lit2 rfl a1.top a2.top a1.rk a2.rk⟩ (ab _ _)
    refine jm ?_ ?_
    ·rintro U n _ ⟨A4,c4,rfl,h4⟩ K f;go_simp;exact Jo.n1 (F4 h4 HU.out) f.out
    iterate 4 (refine jm ?_ ?_;rotate_left)
    refine jm ?_ ?_
    ·rintro U n _ rfl _ rfl K f;go_simp;exact f.out _ _ ⟨_,2,rfl,Nl.lit2 rfl Y.top b2.top Y.rk b2.rk⟩ (ab _ _)
    refine jm ?_ ?_
    ·rintro U n _ ⟨A5,c5,rfl,h5⟩ K f;go_simp;exact Jo.n1 (Hz h5 HL.out) f.out
    refine jm ?_ ?_
    ·rintro U n _ ⟨K3,s3,M3,E3,rfl,q3⟩ _ ⟨K4,s4,M4,E4,rfl,q4⟩ K f;go_simp;exact Jo.v1 (mY q3.top q4.top q3.rk q4.rk HR.out) f.out
    exact jo
    all_goals (rintro U n;(repeat rintro _ rfl);intro K f;have h:=(j.b n).cell;have i:=(X.b n).cell;go_simp;exact f.out _ _ rfl (br _ _))
   rintro w8 n _ _ _ rfl _ _ _ rfl _ ⟨A4,c4,rfl,_⟩ _ ⟨K3,s3,M3,E3,rfl,q3⟩ _ _ _ rfl _ _ _ rfl _ ⟨A5,c5,rfl,_⟩ _ ⟨K4,s4,M4,E4,rfl,q4⟩ _ ⟨e5,K5,s5,M5,E5,bB,gS,bC,bA,rfl,v5⟩ -;simp only[Jo.z];replace a:=a.b n;replace c:=aj c n;have m:=a.cell;have d:=a.frozen
   refine jn 13 fun K f=>?_
   go_simp;refine f.out _ _ ?_;clear f K m d;have o:=ae.t9 a e5 K5 s5 M5 E5 bB gS bC bA;refine jd ?_;go_wp2;exact bq (by simp[results,results39,go_sem,o.box.cell]) rfl ⟨_,_,_,_,_,_,_,_,_,rfl,v5,(o.below c.out (by omega))⟩
theorem oP{w:World}(s:Bool):Calls prog 87 #[.bool s] w (fun e w'=>e= .returned (.agg #[.int .i64 2,.bool s,.int .u64 0,.int .i64 0])/\Below w.heap.size w w'):=by
 refine(oO (s:=s) rfl).mono ?_;rintro a b ⟨K,s1,M,E,rfl,q,B⟩;obtain⟨rfl,rfl,rfl,rfl⟩:=q.uniq (fg s);exact⟨rfl,B⟩
theorem BA{x y c:Int}(h:ah x y=c):decide (0 < c)=decide (y < x):=by
 rw[<-h]
 by_cases e:y < x
 ·rw[dt e]
  exact dt (by rcases ap x y with⟨a,b⟩ | ⟨a,b⟩ | ⟨a,b⟩ <;> rw[b] <;> omega)
 ·rw[df e]
  exact df (by rcases ap x y with⟨a,b⟩ | ⟨a,b⟩ | ⟨a,b⟩ <;> rw[b] <;> omega)
theorem rj{x y c:Int}(h:ah x y=c):decide (0<=c)=decide (y<=x):=by
 rw[<-h]
 by_cases e:y<=x
 ·rw[dt e]
  exact dt (by rcases ap x y with⟨a,b⟩ | ⟨a,b⟩ | ⟨a,b⟩ <;> rw[b] <;> omega)
 ·rw[df e]
  exact df (by rcases ap x y with⟨a,b⟩ | ⟨a,b⟩ | ⟨a,b⟩ <;> rw[b] <;> omega)
theorem EK{w:World}:Calls prog 32 #[] w (PV w none):=by
 go_enter func32,ntmps32
 go_upto_region 1 with fail
 generalize a:w.alloc _=w1 at *;obtain⟨c,f⟩:=Bo.en1 a;clear a;have d:=c.cell;have b:=c.frozen;go_wp2;clear d b;have e:=ae.t9 c true 0 false 0 0 0 false 0 0;exact bq (by simp[results,results32,go_sem,e.box.cell]) rfl ⟨_,_,_,_,_,_,_,_,_,rfl,Ci.none,(e.below f.out (by omega))⟩
theorem bp{w:World}:Calls prog 32 #[] w (fun e w'=>e= .returned (.agg #[.bool true,.int .i64 0,.bool false,.int .u64 0,.int .i64 0,.int .i64 0,.bool false,.int .u64 0,.int .i64 0])/\Below w.heap.size w w'):=by
 refine EK.mono ?_;rintro j k ⟨e1,h,s1,i,g,b,d,c,a,rfl,f,B⟩;obtain⟨rfl,rfl,rfl,rfl,rfl,rfl,rfl,rfl,rfl⟩:=f.uniq Ci.none;exact⟨rfl,B⟩
theorem DK{w:World}{D M E:Int}{s:Bool}{r:Int}(hM:LQ M)(hr:rk D s M E=r):Calls prog 114 #[VQ D s M E] w (PN w r):=by
 delta VQ
 by_cases hm:aG D s M E
 ·have j:=dX hM hm;rw[hr]at j
  have i:=ie (show decide (aG D s M E)=true from dt hm)
  clear hm hr hM
  go_enter func114,ntmps114
  go_upto_region 1 with fail
  generalize d:(w.alloc _).alloc _=w1 at *;obtain⟨c,b,f⟩:=Bo.en2 d;clear d;have a:=c.cell
  go_wp2_with fail
  refine(nr i.out).mono ?_;rintro k l ⟨rfl,B⟩;clear a;refine aE ?_ c b f B;clear c b f B;intro c b f;have g:=b.cell;have e:=b.frozen;have a:=c.cell;go_wp2;clear g e a;have h:=ae.t4 b D s M E
  exact bq (by simp[results,results114,go_sem,h.box.cell]) rfl ⟨D,s,M,E,rfl,j,(h.below f.out (by omega))⟩
 ·rw[eU hm]at hr;subst hr
  have i:=ie (show decide (aG D s M E)=false from df hm)
  clear hm hM
  go_enter func114,ntmps114
  go_upto_region 1 with fail
  generalize d:(w.alloc _).alloc _=w1 at *;obtain⟨c,b,f⟩:=Bo.en2 d;clear d;have a:=c.cell
  go_wp2_with fail
  refine(nr i.out).mono ?_;rintro k l ⟨rfl,B⟩;clear a;refine aE ?_ c b f B;clear c b f B;intro c b f;have g:=b.cell;have e:=b.frozen;have a:=c.cell;go_wp2;clear g e a;have h:=ae.t4 b 0 false 0 0
  exact bq (by simp[results,results114,go_sem,h.box.cell]) rfl ⟨_,_,_,_,rfl,Fq.nought,(h.below f.out (by omega))⟩
theorem gj{w:World}{D D' M M' E E':Int}{s s':Bool}{a b:Int}{x:Sp}(hM:LQ M)(hM':LQ M')(ha:rk D s M E=a)(hb:rk D' s' M' E'=b)(hx:du a b=x):Calls prog 49 #[VQ D s M E,VQ D' s' M' E'] w (PV w x):=by
 delta VQ
 have U:=ie ha;have G:=ie hb;clear ha hb
 go_enter func49,ntmps49
 go_upto_region 1 with fail
 generalize J:((w.alloc _).alloc _).alloc _=w1 at *;obtain⟨g,h,f,i⟩:=Bo.en3 J;clear J;refine aV [0,1,2,3] [6,7,8,9,0,0] [[],[0],[],[2],[],[]] 6 2 [Jo.q4 D s M E,Jo.Fact.num a,Jo.q4 D' s' M' E',Jo.Fact.num b,Jo.Fact.any,Jo.Fact.any] ?_ ?_
 ·refine jm ?_ ?_;rotate_left
  refine jm ?_ ?_
  ·rintro j d _ rfl K e;go_simp;exact Jo.n1 (DK hM U.out) e.out
  refine jm ?_ ?_;rotate_left
  refine jm ?_ ?_
  ·rintro j d _ rfl K e;go_simp;exact Jo.n1 (DK hM' G.out) e.out
  exact jo
  all_goals (rintro j d;(repeat rintro _ rfl);intro K e;have m:=(g.b d).cell;have n:=(h.b d).cell;go_simp;exact e.out _ _ rfl (br _ _))
 rintro X d _ rfl _ ⟨v,s1,y,u,rfl,A⟩ _ rfl _ ⟨K2,s2,M2,E2,rfl,C⟩ -;simp only[Jo.z];replace g:=g.b d;replace h:=h.b d;replace f:=f.b d;replace i:=aj i d;have m:=g.cell;have N:=g.frozen
 refine jn 4 fun K e=>?_
 go_simp;refine e.out _ _ ?_;clear e K m N;generalize I:(((X.setCell _ _).setCell _ _).setCell _ _).setCell _ _=Y at *;have k:=ae.of4 g I;replace h:=h.s k;replace f:=f.s k;replace i:=aP i k (by omega);replace g:=k.box;clear k I;have n:=h.cell;have O:=h.frozen
 refine jn 5 fun K e=>?_
 go_simp;refine e.out _ _ ?_;clear e K n O;generalize I:(((Y.setCell _ _).setCell _ _).setCell _ _).setCell _ _=Z at *;have k:=ae.of4 h I;replace g:=g.s k;replace f:=f.s k;replace i:=aP i k (by omega);replace h:=k.box;clear k I;refine jd ?_;clear U G hM hM';obtain⟨c,S⟩:∃c,ah a b=c:=⟨_,rfl⟩
 have hg:=BA S
 have P:Hid (ah (rk v s1 y u) (rk K2 s2 M2 E2)=c):=ie (by rw[A.rk,C.rk];exact S)
 clear S
 by_cases q:b < a
 ·rw[bT (by omega)]at hx
  obtain rfl:none=x:=hx
  rw[dt q]at hg;have r:=ie hg;clear hg q;go_wp2;refine aV [0,1,2,3,4,5,6,7,8,9,10,11,12,13] [10,11,12,13,14,15,16,17,18,19,20,21,22,23] [[],[],[0,1],[2],[3],[4],[4],[4,5,6],[4,7],[8],[9],[9],[9,10,11],[9,12]] 14 0 [Jo.q4 v s1 y u,Jo.q4 K2 s2 M2 E2,Jo.qi c,Jo.qb true,Jo.qb true,Jo.qu,Jo.qu,Jo.qu,Jo.qb true,Jo.qb true,Jo.qu,Jo.qu,Jo.qu,Jo.qb true] ?_ ?_
  ·iterate 2 (refine jm ?_ ?_;rotate_left)
   refine jm ?_ ?_
   ·rintro j d _ rfl _ rfl K e;go_simp;refine(iR A.top C.top P.out).mono ?_;rintro t F ⟨rfl,B⟩;exact e.out _ _ rfl B
   refine jm ?_ ?_
   ·rintro j d _ rfl K e;have o:=r.out;go_simp
    exact e.out _ _ (by first | rfl | (show Value.bool _=Value.bool _;rw[o]) | simp_all) (br _ _)
   iterate 10 (refine jm ?_ ?_;rotate_left)
   exact jo
   all_goals (rintro j d;(repeat rintro _ rfl);intro K e;have m:=(g.b d).cell;have n:=(h.b d).cell;go_simp;exact e.out _ _ rfl (br _ _))
  rintro T d _ rfl _ rfl _ rfl _ rfl _ rfl _ rfl _ rfl _ rfl _ rfl _ rfl _ rfl _ rfl _ rfl _ rfl -;simp only[Jo.z];replace g:=g.b d;replace h:=h.b d;replace f:=f.b d;replace i:=aj i d;refine jd ?_
  go_wp2_with fail
  refine(bp).mono ?_;rintro t V ⟨rfl,B⟩;refine dk ?_ g h f i B;clear g h f i B;intro g h f i;have p:=f.cell;have l:=f.frozen;go_wp2;clear p l;have k:=ae.t9 f true 0 false 0 0 0 false 0 0
  exact bq (by simp[results,results49,go_sem,k.box.cell]) rfl ⟨_,_,_,_,_,_,_,_,_,rfl,Ci.none,(k.below i.out (by omega))⟩
 ·rw[df q]at hg;have r:=ie hg;clear hg
  by_cases ht:a=19342822337206103650074625
  ·subst ht;rw[bT (by omega)]at hx
   obtain rfl:none=x:=hx
   obtain⟨rfl,rfl,rfl,rfl⟩:=A.uniq (show Fq 2 false 0 0 19342822337206103650074625 from fg false)
   clear q;go_wp2;refine aV [0,1,2,3,4,5,6,7,8,9,10,11,12,13] [10,11,12,13,14,15,16,17,18,19,20,21,22,23] [[],[],[0,1],[2],[3],[4],[4],[4,5,6],[4,7],[8],[9],[9],[9,10,11],[9,12]] 14 0 [Jo.q4 2 false 0 0,Jo.q4 K2 s2 M2 E2,Jo.qi c,Jo.qb false,Jo.qb false,Jo.q4 2 false 0 0,Jo.q4 2 false 0 0,Jo.qb true,Jo.qb true,Jo.qb true,Jo.qu,Jo.qu,Jo.qu,Jo.qb true] ?_ ?_
   ·iterate 2 (refine jm ?_ ?_;rotate_left)
    refine jm ?_ ?_
    ·rintro j d _ rfl _ rfl K e;go_simp;refine(iR A.top C.top P.out).mono ?_;rintro t F ⟨rfl,B⟩;exact e.out _ _ rfl B
    refine jm ?_ ?_
    ·rintro j d _ rfl K e;have o:=r.out;go_simp
     exact e.out _ _ (by first | rfl | (show Value.bool _=Value.bool _;rw[o]) | simp_all) (br _ _)
    iterate 2 (refine jm ?_ ?_;rotate_left)
    refine jm ?_ ?_
    ·rintro j d _ rfl K e;go_simp;refine(oP false).mono ?_;rintro t F ⟨rfl,B⟩;exact e.out _ _ rfl B
    refine jm ?_ ?_
    ·rintro j d _ rfl _ rfl _ rfl K e;go_simp
     repeat' split
     all_goals exact e.out _ _ (congrArg Value.bool (by first | rfl | (exfalso;simp_all) | simp_all)) (br _ _)
    iterate 6 (refine jm ?_ ?_;rotate_left)
    exact jo
    all_goals (rintro j d;(repeat rintro _ rfl);intro K e;have m:=(g.b d).cell;have n:=(h.b d).cell;go_simp;exact e.out _ _ rfl (br _ _))
   rintro T d _ rfl _ rfl _ rfl _ rfl _ rfl _ rfl _ rfl _ rfl _ rfl _ rfl _ rfl _ rfl _ rfl _ rfl -;simp only[Jo.z];replace g:=g.b d;replace h:=h.b d;replace f:=f.b d;replace i:=aj i d;refine jd ?_
   go_wp2_with fail
   refine(bp).mono ?_;rintro t V ⟨rfl,B⟩;refine dk ?_ g h f i B;clear g h f i B;intro g h f i;have p:=f.cell;have l:=f.frozen;go_wp2;clear p l;have k:=ae.t9 f true 0 false 0 0 0 false 0 0
   exact bq (by simp[results,results49,go_sem,k.box.cell]) rfl ⟨_,_,_,_,_,_,_,_,_,rfl,Ci.none,(k.below i.out (by omega))⟩
  ·have H:Hid (¬(v=2/\s1=false/\y=0/\u=0)):=ie (by
    rintro ⟨rfl,rfl,rfl,rfl⟩;exact ht (by rw[<-A.rk];exact(fg false).rk))
   by_cases hb:b= -19342822337206103650074625
   ·subst hb;rw[bT (by omega)]at hx
    obtain rfl:none=x:=hx
    obtain⟨rfl,rfl,rfl,rfl⟩:=C.uniq (show Fq 2 true 0 0 (-19342822337206103650074625)from fg true)
    clear q ht;go_wp2;refine aV [0,1,2,3,4,5,6,7,8,9,10,11,12,13] [10,11,12,13,14,15,16,17,18,19,20,21,22,23] [[],[],[0,1],[2],[3],[4],[4],[4,5,6],[4,7],[8],[9],[9],[9,10,11],[9,12]] 14 0 [Jo.q4 v s1 y u,Jo.q4 2 true 0 0,Jo.qi c,Jo.qb false,Jo.qb false,Jo.q4 v s1 y u,Jo.q4 2 false 0 0,Jo.qb false,Jo.qb false,Jo.qb false,Jo.q4 2 true 0 0,Jo.q4 2 true 0 0,Jo.qb true,Jo.qb true] ?_ ?_
    ·iterate 2 (refine jm ?_ ?_;rotate_left)
     refine jm ?_ ?_
     ·rintro j d _ rfl _ rfl K e;go_simp;refine(iR A.top C.top P.out).mono ?_;rintro t F ⟨rfl,B⟩;exact e.out _ _ rfl B
     refine jm ?_ ?_
     ·rintro j d _ rfl K e;have o:=r.out;go_simp
      exact e.out _ _ (by first | rfl | (show Value.bool _=Value.bool _;rw[o]) | simp_all) (br _ _)
     iterate 2 (refine jm ?_ ?_;rotate_left)
     refine jm ?_ ?_
     ·rintro j d _ rfl K e;go_simp;refine(oP false).mono ?_;rintro t F ⟨rfl,B⟩;exact e.out _ _ rfl B
     refine jm ?_ ?_
     ·rintro j d _ rfl _ rfl _ rfl K e;have L:=H.out;go_simp
      repeat' split
      all_goals exact e.out _ _ (congrArg Value.bool (by first | rfl | (exfalso;simp_all))) (br _ _)
     iterate 3 (refine jm ?_ ?_;rotate_left)
     refine jm ?_ ?_
     ·rintro j d _ rfl K e;go_simp;refine(oP true).mono ?_;rintro t F ⟨rfl,B⟩;exact e.out _ _ rfl B
     refine jm ?_ ?_
     ·rintro j d _ rfl _ rfl _ rfl K e;go_simp
      repeat' split
      all_goals exact e.out _ _ (congrArg Value.bool (by first | rfl | (exfalso;simp_all) | simp_all)) (br _ _)
     refine jm ?_ ?_;rotate_left
     exact jo
     all_goals (rintro j d;(repeat rintro _ rfl);intro K e;have m:=(g.b d).cell;have n:=(h.b d).cell;go_simp;exact e.out _ _ rfl (br _ _))
    rintro T d _ rfl _ rfl _ rfl _ rfl _ rfl _ rfl _ rfl _ rfl _ rfl _ rfl _ rfl _ rfl _ rfl _ rfl -;simp only[Jo.z];replace g:=g.b d;replace h:=h.b d;replace f:=f.b d;replace i:=aj i d;refine jd ?_
    go_wp2_with fail
    refine(bp).mono ?_;rintro t V ⟨rfl,B⟩;refine dk ?_ g h f i B;clear g h f i B;intro g h f i;have p:=f.cell;have l:=f.frozen;go_wp2;clear p l;have k:=ae.t9 f true 0 false 0 0 0 false 0 0
    exact bq (by simp[results,results49,go_sem,k.box.cell]) rfl ⟨_,_,_,_,_,_,_,_,_,rfl,Ci.none,(k.below i.out (by omega))⟩
   ·have Q:Hid (¬(K2=2/\s2=true/\M2=0/\E2=0)):=ie (by
     rintro ⟨rfl,rfl,rfl,rfl⟩;exact hb (by rw[<-C.rk];exact(fg true).rk))
    have g1:=A.bd;have g2:=C.bd
    have g3:a<=b:=by omega
    have R:a < 19342822337206103650074625:=by omega
    have g5: -19342822337206103650074625 < b:=by omega
    rw[bj g3 R g5]at hx
    obtain rfl:some (a,b)=x:=hx
    have W:Ci false v s1 y u K2 s2 M2 E2 (some (a,b)):=⟨rfl,A,C,g3,R,g5⟩
    clear q ht hb g1 g2 g3 R g5;go_wp2;refine aV [0,1,2,3,4,5,6,7,8,9,10,11,12,13] [10,11,12,13,14,15,16,17,18,19,20,21,22,23] [[],[],[0,1],[2],[3],[4],[4],[4,5,6],[4,7],[8],[9],[9],[9,10,11],[9,12]] 14 0 [Jo.q4 v s1 y u,Jo.q4 K2 s2 M2 E2,Jo.qi c,Jo.qb false,Jo.qb false,Jo.q4 v s1 y u,Jo.q4 2 false 0 0,Jo.qb false,Jo.qb false,Jo.qb false,Jo.q4 K2 s2 M2 E2,Jo.q4 2 true 0 0,Jo.qb false,Jo.qb false] ?_ ?_
    ·iterate 2 (refine jm ?_ ?_;rotate_left)
     refine jm ?_ ?_
     ·rintro j d _ rfl _ rfl K e;go_simp;refine(iR A.top C.top P.out).mono ?_;rintro t F ⟨rfl,B⟩;exact e.out _ _ rfl B
     refine jm ?_ ?_
     ·rintro j d _ rfl K e;have o:=r.out;go_simp
      exact e.out _ _ (by first | rfl | (show Value.bool _=Value.bool _;rw[o]) | simp_all) (br _ _)
     iterate 2 (refine jm ?_ ?_;rotate_left)
     refine jm ?_ ?_
     ·rintro j d _ rfl K e;go_simp;refine(oP false).mono ?_;rintro t F ⟨rfl,B⟩;exact e.out _ _ rfl B
     refine jm ?_ ?_
     ·rintro j d _ rfl _ rfl _ rfl K e;have L:=H.out;go_simp
      repeat' split
      all_goals exact e.out _ _ (congrArg Value.bool (by first | rfl | (exfalso;simp_all))) (br _ _)
     iterate 3 (refine jm ?_ ?_;rotate_left)
     refine jm ?_ ?_
     ·rintro j d _ rfl K e;go_simp;refine(oP true).mono ?_;rintro t F ⟨rfl,B⟩;exact e.out _ _ rfl B
     refine jm ?_ ?_
     ·rintro j d _ rfl _ rfl _ rfl K e;have L:=Q.out;go_simp
      repeat' split
      all_goals exact e.out _ _ (congrArg Value.bool (by first | rfl | (exfalso;simp_all))) (br _ _)
     refine jm ?_ ?_;rotate_left
     exact jo
     all_goals (rintro j d;(repeat rintro _ rfl);intro K e;have m:=(g.b d).cell;have n:=(h.b d).cell;go_simp;exact e.out _ _ rfl (br _ _))
    rintro T d _ rfl _ rfl _ rfl _ rfl _ rfl _ rfl _ rfl _ rfl _ rfl _ rfl _ rfl _ rfl _ rfl _ rfl -;simp only[Jo.z];replace g:=g.b d;replace h:=h.b d;replace f:=f.b d;replace i:=aj i d;refine jd ?_;have p:=f.cell;have l:=f.frozen;have m:=g.cell
    have n:=h.cell;go_wp2;clear p l m n;have k:=ae.t9 f false v s1 y u K2 s2 M2 E2;exact bq (by simp[results,results49,go_sem,k.box.cell]) rfl ⟨_,_,_,_,_,_,_,_,_,rfl,W,(k.below i.out (by omega))⟩
theorem j7{w:World}{D M E:Int}{s:Bool}{a:Int}{x:Sp}(hM:LQ M)(ha:rk D s M E=a)(hx:du a a=x):Calls prog 25 #[VQ D s M E] w (PV w x):=by
 delta VQ
 have m:=ie ha;have o:=ie hx;clear ha hx
 go_enter func25,ntmps25
 go_upto_region 1 with fail
 generalize d:(w.alloc _).alloc _=w1 at *;obtain⟨p,c,g⟩:=Bo.en2 d;clear d;have k:=p.cell
 go_wp2_with fail
 refine(gj hM hM m.out m.out o.out).mono ?_;rintro q r ⟨e2,K2,s2,M2,E2,h,j,i,f,rfl,v2,B⟩;clear k;replace c:=c.b B;replace g:=aj g B;clear B;have l:=c.cell;have e:=c.frozen;go_wp2;clear l e;have n:=ae.t9 c e2 K2 s2 M2 E2 h j i f
 exact bq (by simp[results,results25,go_sem,n.box.cell]) rfl ⟨_,_,_,_,_,_,_,_,_,rfl,v2,(n.below g.out (by omega))⟩
theorem yu{e:Bool}{D M E D' M' E':Int}{s s':Bool}{e4:Bool}{K4 M4 E4 K4b M4b E4b:Int}{s4 s4b:Bool}(hM:LQ M)(hM':LQ M')(v:Ci e4 K4 s4 M4 E4 K4b s4b M4b E4b (du (rk D s M E) (rk D' s' M' E')))(h1:¬(e=true/\D=0/\s=false/\M=0/\E=0/\D'=0/\s'=false/\M'=0/\E'=0)):(e=e4/\D=K4/\s=s4/\M=M4/\E=E4/\D'=K4b/\s'=s4b/\M'=M4b/\E'=E4b)↔jC e D s M E D' s' M' E'=true:=by
 constructor
 ·rintro ⟨rfl,rfl,rfl,rfl,rfl,rfl,rfl,rfl,rfl⟩;exact v.may
 ·intro h
  have c:=ni hM hM' h
  cases e
  ·have h2:decide (fG false D s M E D' s' M' E'≠none)=true:=h
   rw[li]at c;rw[decide_eq_true_iff,li]at h2
   by_cases hq:aG D s M E/\aG D' s' M' E'
   ·rw[if_pos hq]at c;exact c.uniq v
   ·rw[if_neg hq]at h2;exact absurd rfl h2
  ·rw[zI]at c;exact absurd (c.uniq Ci.none) h1
theorem DJ{w:World}{e:Bool}{D M E D' M' E':Int}{s s':Bool}{r:Bool}(hM:LQ M)(hM':LQ M')(hr:jC e D s M E D' s' M' E'=r):Calls prog 117 #[VI e D s M E D' s' M' E'] w (PB w r):=by
 delta VI
 by_cases h1:e=true/\D=0/\s=false/\M=0/\E=0/\D'=0/\s'=false/\M'=0/\E'=0
 ·obtain⟨rfl,rfl,rfl,rfl,rfl,rfl,rfl,rfl,rfl⟩:=h1
  obtain rfl:true=r:=Ci.none.may.symm.trans hr
  clear hr
  go_enter func117,ntmps117
  go_upto_region 1 with fail
  generalize f:w.alloc _=w1 at *;obtain⟨i,h⟩:=Bo.en1 f;clear f;refine aV [0,1,2,3,4,5,6,7,8,9,10,11,12] [4,5,6,7,8,9,10,11,12,13,14,15,3] [[],[],[0,1],[2],[3],[3],[3,5],[3],[3,7],[3,6,8],[3,4,9],[3,10],[11]] 13 0 [Jo.q9 true 0 false 0 0 0 false 0 0,Jo.q9 true 0 false 0 0 0 false 0 0,Jo.qb true,Jo.qb true,Jo.qu,Jo.qu,Jo.qu,Jo.qu,Jo.qu,Jo.qu,Jo.qu,Jo.qb true,Jo.qb true] ?_ ?_
  ·refine jm ?_ ?_;rotate_left
   refine jm ?_ ?_
   ·rintro g d K a;go_simp;refine(bp).mono ?_;rintro o q ⟨rfl,B⟩;exact a.out _ _ rfl B
   refine jm ?_ ?_
   ·rintro g d _ rfl _ rfl K a;go_simp
    repeat' split
    all_goals exact a.out _ _ (congrArg Value.bool (by first | rfl | (exfalso;simp_all) | simp_all)) (br _ _)
   iterate 10 (refine jm ?_ ?_;rotate_left)
   exact jo
   all_goals (rintro g d;(repeat rintro _ rfl);intro K a;have m:=(i.b d).cell;go_simp;exact a.out _ _ rfl (br _ _))
  rintro p d _ rfl _ rfl _ rfl _ rfl _ rfl _ rfl _ rfl _ rfl _ rfl _ rfl _ rfl _ rfl _ rfl -;simp only[Jo.z];replace i:=i.b d;replace h:=aj h d;refine jd ?_;go_wp2
  go_ret
  exact⟨rfl,h.out⟩
 ·have j:=ie h1
  have n:Hid (∀{e4 K4 s4 M4 E4 K4b s4b M4b E4b},Ci e4 K4 s4 M4 E4 K4b s4b M4b E4b (du (rk D s M E) (rk D' s' M' E'))->((e=e4/\D=K4/\s=s4/\M=M4/\E=E4/\D'=K4b/\s'=s4b/\M'=M4b/\E'=E4b)↔r=true)):=ie (fun v=>by rw[<-hr];exact yu hM hM' v h1)
  clear hr h1
  cases r
  ·go_enter func117,ntmps117
   go_upto_region 1 with fail
   generalize f:w.alloc _=w1 at *;obtain⟨i,h⟩:=Bo.en1 f;clear f;refine aV [0,1,2,3,4,5,6,7,8,9,10,11,12] [4,5,6,7,8,9,10,11,12,13,14,15,3] [[],[],[0,1],[2],[3],[3],[3,5],[3],[3,7],[3,6,8],[3,4,9],[3,10],[11]] 13 0 [Jo.q9 e D s M E D' s' M' E',Jo.q9 true 0 false 0 0 0 false 0 0,Jo.qb false,Jo.qb false,Jo.q9 e D s M E D' s' M' E',Jo.qp w.heap.size 1,Jo.q4 D s M E,Jo.qp w.heap.size 5,Jo.q4 D' s' M' E',Jo.Fact.iv (du (rk D s M E) (rk D' s' M' E')),Jo.qb false,Jo.qb false,Jo.qb false] ?_ ?_
   ·refine jm ?_ ?_;rotate_left
    refine jm ?_ ?_
    ·rintro g d K a;go_simp;refine(bp).mono ?_;rintro o q ⟨rfl,B⟩;exact a.out _ _ rfl B
    refine jm ?_ ?_
    ·rintro g d _ rfl _ rfl K a;have k:=j.out;go_simp
     repeat' split
     all_goals exact a.out _ _ (congrArg Value.bool (by first | rfl | (exfalso;simp_all))) (br _ _)
    iterate 6 (refine jm ?_ ?_;rotate_left)
    refine jm ?_ ?_
    ·rintro g d _ rfl _ rfl _ rfl K a;go_simp;exact Jo.v1 (gj hM hM' rfl rfl rfl) a.out
    refine jm ?_ ?_
    ·rintro g d _ rfl _ rfl _ ⟨e9,K9,s9,M9,E9,K9b,s9b,M9b,E9b,rfl,l⟩ K a;simp only[Jo.z]at a|-
     have k:=fun c=>ff ((n.out l).1 c)
     go_simp
     repeat' split
     all_goals exact a.out _ _ (congrArg Value.bool (by first | rfl | (exfalso;simp_all))) (br _ _)
    iterate 2 (refine jm ?_ ?_;rotate_left)
    exact jo
    all_goals (rintro g d;(repeat rintro _ rfl);intro K a;have m:=(i.b d).cell;go_simp;exact a.out _ _ rfl (br _ _))
   rintro p d _ rfl _ rfl _ rfl _ rfl _ rfl _ _ _ rfl _ _ _ rfl _ ⟨e9,K9,s9,M9,E9,K9b,s9b,M9b,E9b,rfl,l⟩ _ rfl _ rfl _ rfl -;simp only[Jo.z];replace i:=i.b d;replace h:=aj h d;refine jd ?_;go_wp2
   go_ret
   exact⟨rfl,h.out⟩
  ·go_enter func117,ntmps117
   go_upto_region 1 with fail
   generalize f:w.alloc _=w1 at *;obtain⟨i,h⟩:=Bo.en1 f;clear f;refine aV [0,1,2,3,4,5,6,7,8,9,10,11,12] [4,5,6,7,8,9,10,11,12,13,14,15,3] [[],[],[0,1],[2],[3],[3],[3,5],[3],[3,7],[3,6,8],[3,4,9],[3,10],[11]] 13 0 [Jo.q9 e D s M E D' s' M' E',Jo.q9 true 0 false 0 0 0 false 0 0,Jo.qb false,Jo.qb false,Jo.q9 e D s M E D' s' M' E',Jo.qp w.heap.size 1,Jo.q4 D s M E,Jo.qp w.heap.size 5,Jo.q4 D' s' M' E',Jo.Fact.iv (du (rk D s M E) (rk D' s' M' E')),Jo.qb true,Jo.qb true,Jo.qb true] ?_ ?_
   ·refine jm ?_ ?_;rotate_left
    refine jm ?_ ?_
    ·rintro g d K a;go_simp;refine(bp).mono ?_;rintro o q ⟨rfl,B⟩;exact a.out _ _ rfl B
    refine jm ?_ ?_
    ·rintro g d _ rfl _ rfl K a;have k:=j.out;go_simp
     repeat' split
     all_goals exact a.out _ _ (congrArg Value.bool (by first | rfl | (exfalso;simp_all))) (br _ _)
    iterate 6 (refine jm ?_ ?_;rotate_left)
    refine jm ?_ ?_
    ·rintro g d _ rfl _ rfl _ rfl K a;go_simp;exact Jo.v1 (gj hM hM' rfl rfl rfl) a.out
    refine jm ?_ ?_
    ·rintro g d _ rfl _ rfl _ ⟨e9,K9,s9,M9,E9,K9b,s9b,M9b,E9b,rfl,l⟩ K a;simp only[Jo.z]at a|-;obtain⟨rfl,rfl,rfl,rfl,rfl,rfl,rfl,rfl,rfl⟩:=(n.out l).2 rfl;go_simp
     repeat' split
     all_goals exact a.out _ _ (congrArg Value.bool (by first | rfl | (exfalso;simp_all) | simp_all)) (br _ _)
    iterate 2 (refine jm ?_ ?_;rotate_left)
    exact jo
    all_goals (rintro g d;(repeat rintro _ rfl);intro K a;have m:=(i.b d).cell;go_simp;exact a.out _ _ rfl (br _ _))
   rintro p d _ rfl _ rfl _ rfl _ rfl _ rfl _ _ _ rfl _ _ _ rfl _ ⟨e9,K9,s9,M9,E9,K9b,s9b,M9b,E9b,rfl,l⟩ _ rfl _ rfl _ rfl -;simp only[Jo.z];replace h:=aj h d;refine jd ?_;go_wp2
   go_ret
   exact⟨rfl,h.out⟩
theorem rA{w:World}{e:Bool}{D M E D' M' E':Int}{s s':Bool}{x:Sp}(hM:LQ M)(hM':LQ M')(hr:fG e D s M E D' s' M' E'=x):Calls prog 53 #[VI e D s M E D' s' M' E'] w (PV w x):=by
 delta VI
 cases hm:jC e D s M E D' s' M' E'
 ·obtain rfl:none=x:=(rE hm).symm.trans hr
  have i:=ie hm;clear hm hr
  go_enter func53,ntmps53
  go_upto_region 1 with fail
  generalize d:(w.alloc _).alloc _=w1 at *;obtain⟨b,a,c⟩:=Bo.en2 d;clear d;have f:=b.cell
  go_wp2_with fail
  refine(DJ hM hM' i.out).mono ?_;rintro k m ⟨rfl,B⟩;clear f;refine aE ?_ b a c B;clear b a c B;intro b a c;clear i hM hM'
  go_wp2_with fail
  refine(bp).mono ?_;rintro k n ⟨rfl,B⟩;refine aE ?_ b a c B;clear b a c B;intro b a c;have h:=a.cell;have g:=a.frozen;go_wp2;clear h g;have j:=ae.t9 a true 0 false 0 0 0 false 0 0
  exact bq (by simp[results,results53,go_sem,j.box.cell]) rfl ⟨_,_,_,_,_,_,_,_,_,rfl,Ci.none,(j.below c.out (by omega))⟩
 ·have l:=ni hM hM' hm;rw[hr]at l;have i:=ie hm;clear hm hr
  go_enter func53,ntmps53
  go_upto_region 1 with fail
  generalize d:(w.alloc _).alloc _=w1 at *;obtain⟨b,a,c⟩:=Bo.en2 d;clear d;have f:=b.cell
  go_wp2_with fail
  refine(DJ hM hM' i.out).mono ?_;rintro k m ⟨rfl,B⟩;clear f;refine aE ?_ b a c B;clear b a c B;intro b a c;clear i hM hM';have h:=a.cell;have g:=a.frozen;have f:=b.cell;go_wp2
  clear h g f;have j:=ae.t9 a e D s M E D' s' M' E';exact bq (by simp[results,results53,go_sem,j.box.cell]) rfl ⟨_,_,_,_,_,_,_,_,_,rfl,l,(j.below c.out (by omega))⟩
theorem yi{w:World}{e:Bool}{D M E D' M' E':Int}{s s':Bool}{e2:Bool}{G P Q G' P' Q':Int}{g g':Bool}{x y:Sp}{r:Bool}(hM:LQ M)(hM':LQ M')(hP:LQ P)(hP':LQ P')(hx:fG e D s M E D' s' M' E'=x)(hy:fG e2 G g P Q G' g' P' Q'=y)(hr:AV x y=r):Calls prog 50 #[VI e D s M E D' s' M' E',VI e2 G g P Q G' g' P' Q'] w (PB w r):=by
 delta VI
 have HX:=ie hx;have HY:=ie hy;clear hx hy
 go_enter func50,ntmps50
 go_upto_region 1 with fail
 generalize R:(w.alloc _).alloc _=w1 at *;obtain⟨f,h,i⟩:=Bo.en2 R;clear R;refine aV [0,1,2,3] [6,7,8,9,0,0] [[],[0],[],[2],[],[]] 6 2 [Jo.q9 e D s M E D' s' M' E',Jo.Fact.iv x,Jo.q9 e2 G g P Q G' g' P' Q',Jo.Fact.iv y,Jo.Fact.any,Jo.Fact.any] ?_ ?_
 ·refine jm ?_ ?_;rotate_left
  refine jm ?_ ?_
  ·rintro m a _ rfl K d;go_simp;exact Jo.v1 (rA hM hM' HX.out) d.out
  refine jm ?_ ?_;rotate_left
  refine jm ?_ ?_
  ·rintro m a _ rfl K d;go_simp;exact Jo.v1 (rA hP hP' HY.out) d.out
  exact jo
  all_goals (rintro m a;(repeat rintro _ rfl);intro K d;have j:=(f.b a).cell;have k:=(h.b a).cell;go_simp;exact d.out _ _ rfl (br _ _))
 rintro w2 a _ rfl _ ⟨e1,Y,s1,M1,X,u,J,A,p,rfl,v1⟩ _ rfl _ ⟨e6,Z,s6,M6,E6,v,L,C,q,rfl,v6⟩ -;simp only[Jo.z];replace f:=f.b a;replace h:=h.b a;replace i:=aj i a;have j:=f.cell;have V:=f.frozen
 refine jn 4 fun K d=>?_
 go_simp;refine d.out _ _ ?_;clear d K j V;generalize O:((((((((w2.setCell _ _).setCell _ _).setCell _ _).setCell _ _).setCell _ _).setCell _ _).setCell _ _).setCell _ _).setCell _ _=w3 at *;have o:=ae.of9 f O;replace h:=h.s o;replace i:=aP i o (by omega);replace f:=o.box;clear o O;have k:=h.cell
 have W:=h.frozen
 refine jn 5 fun K d=>?_
 go_simp;refine d.out _ _ ?_;clear d K k W;generalize O:((((((((w3.setCell _ _).setCell _ _).setCell _ _).setCell _ _).setCell _ _).setCell _ _).setCell _ _).setCell _ _).setCell _ _=w4 at *;have o:=ae.of9 h O;replace f:=f.s o;replace i:=aP i o (by omega);replace h:=o.box;clear o O;refine jd ?_
 clear HX HY hM hM' hP hP'
 rcases x with _ | ⟨xa,xb⟩
 ·obtain⟨rfl,y1,T⟩:=v1
  obtain rfl:true=r:=hr
  obtain⟨_,rfl,rfl,rfl,rfl,rfl,rfl,rfl,rfl⟩:=(show Ci true Y s1 M1 X u J A p none from ⟨rfl,y1,T⟩).uniq Ci.none
  clear y1 T;go_wp2;refine aV [0,1,2,3] [11,12,13,10] [[],[],[0,1],[2]] 4 0 [Jo.q9 true 0 false 0 0 0 false 0 0,Jo.q9 true 0 false 0 0 0 false 0 0,Jo.qb true,Jo.qb true] ?_ ?_
  ·refine jm ?_ ?_;rotate_left
   refine jm ?_ ?_
   ·rintro m a K d;go_simp;refine(bp).mono ?_;rintro N wk ⟨rfl,B⟩;exact d.out _ _ rfl B
   refine jm ?_ ?_
   ·rintro m a _ rfl _ rfl K d;go_simp
    repeat' split
    all_goals exact d.out _ _ (congrArg Value.bool (by first | rfl | (exfalso;simp_all) | simp_all)) (br _ _)
   refine jm ?_ ?_;rotate_left
   exact jo
   all_goals (rintro m a;(repeat rintro _ rfl);intro K d;have j:=(f.b a).cell;go_simp;exact d.out _ _ rfl (br _ _))
  rintro w5 a _ rfl _ rfl _ rfl _ rfl -;simp only[Jo.z];replace f:=f.b a;replace h:=h.b a;replace i:=aj i a;refine jd ?_;go_wp2
  go_ret
  exact⟨rfl,i.out⟩
 ·obtain⟨rfl,a1,b1,o1,bC,bB⟩:=v1;go_wp2;refine aV [0,1,2,3] [11,12,13,10] [[],[],[0,1],[2]] 4 0 [Jo.q9 false Y s1 M1 X u J A p,Jo.q9 true 0 false 0 0 0 false 0 0,Jo.qb false,Jo.qb false] ?_ ?_
  ·refine jm ?_ ?_;rotate_left
   refine jm ?_ ?_
   ·rintro m a K d;go_simp;refine(bp).mono ?_;rintro N wk ⟨rfl,B⟩;exact d.out _ _ rfl B
   refine jm ?_ ?_
   ·rintro m a _ rfl _ rfl K d;go_simp
    repeat' split
    all_goals exact d.out _ _ (congrArg Value.bool (by first | rfl | (exfalso;simp_all))) (br _ _)
   refine jm ?_ ?_;rotate_left
   exact jo
   all_goals (rintro m a;(repeat rintro _ rfl);intro K d;have j:=(f.b a).cell;go_simp;exact d.out _ _ rfl (br _ _))
  rintro w5 a _ rfl _ rfl _ rfl _ rfl -;simp only[Jo.z];replace f:=f.b a;replace h:=h.b a;replace i:=aj i a;refine jd ?_
  rcases y with _ | ⟨ya,yb⟩
  ·obtain⟨rfl,y6,U⟩:=v6
   obtain rfl:false=r:=hr
   obtain⟨_,rfl,rfl,rfl,rfl,rfl,rfl,rfl,rfl⟩:=(show Ci true Z s6 M6 E6 v L C q none from ⟨rfl,y6,U⟩).uniq Ci.none
   clear y6 U;go_wp2;refine aV [0,1,2,3] [15,16,17,14] [[],[],[0,1],[2]] 4 0 [Jo.q9 true 0 false 0 0 0 false 0 0,Jo.q9 true 0 false 0 0 0 false 0 0,Jo.qb true,Jo.qb true] ?_ ?_
   ·refine jm ?_ ?_;rotate_left
    refine jm ?_ ?_
    ·rintro m a K d;go_simp;refine(bp).mono ?_;rintro N wk ⟨rfl,B⟩;exact d.out _ _ rfl B
    refine jm ?_ ?_
    ·rintro m a _ rfl _ rfl K d;go_simp
     repeat' split
     all_goals exact d.out _ _ (congrArg Value.bool (by first | rfl | (exfalso;simp_all) | simp_all)) (br _ _)
    refine jm ?_ ?_;rotate_left
    exact jo
    all_goals (rintro m a;(repeat rintro _ rfl);intro K d;have k:=(h.b a).cell;go_simp;exact d.out _ _ rfl (br _ _))
   rintro w6 a _ rfl _ rfl _ rfl _ rfl -;simp only[Jo.z];replace f:=f.b a;replace h:=h.b a;replace i:=aj i a;refine jd ?_;go_wp2
   go_ret
   exact⟨rfl,i.out⟩
  ·obtain⟨rfl,a6,b6,o6,bH,bD⟩:=v6;go_wp2;refine aV [0,1,2,3] [15,16,17,14] [[],[],[0,1],[2]] 4 0 [Jo.q9 false Z s6 M6 E6 v L C q,Jo.q9 true 0 false 0 0 0 false 0 0,Jo.qb false,Jo.qb false] ?_ ?_
   ·refine jm ?_ ?_;rotate_left
    refine jm ?_ ?_
    ·rintro m a K d;go_simp;refine(bp).mono ?_;rintro N wk ⟨rfl,B⟩;exact d.out _ _ rfl B
    refine jm ?_ ?_
    ·rintro m a _ rfl _ rfl K d;go_simp
     repeat' split
     all_goals exact d.out _ _ (congrArg Value.bool (by first | rfl | (exfalso;simp_all))) (br _ _)
    refine jm ?_ ?_;rotate_left
    exact jo
    all_goals (rintro m a;(repeat rintro _ rfl);intro K d;have k:=(h.b a).cell;go_simp;exact d.out _ _ rfl (br _ _))
   rintro w6 a _ rfl _ rfl _ rfl _ rfl -;simp only[Jo.z];replace f:=f.b a;replace h:=h.b a;replace i:=aj i a;refine jd ?_
   have n:(decide (ya<=xa) && decide (xb<=yb))=r:=hr
   clear hr
   cases hk1:decide (ya<=xa)
   ·rw[hk1]at n
    obtain rfl:false=r:=n
    obtain⟨c1,l⟩:∃c,ah xa ya=c:=⟨_,rfl⟩;have I:=rj l;rw[hk1]at I
    have t:Hid (ah (rk Y s1 M1 X) (rk Z s6 M6 E6)=c1):=ie (by rw[a1.rk,a6.rk];exact l)
    clear l hk1;have j:=f.cell;have k:=h.cell
    go_wp2_with fail
    refine(iR a1.top a6.top t.out).mono ?_;rintro N w7 ⟨rfl,B⟩;clear j k;refine aE ?_ f h i B;clear f h i B;intro f h i;go_wp2
    go_ret
    exact⟨rfl,i.out⟩
   ·rw[hk1]at n;obtain⟨z,H⟩:∃z,decide (xb<=yb)=z:=⟨_,rfl⟩;rw[H]at n
    obtain rfl:z=r:=n
    obtain⟨c1,l⟩:∃c,ah xa ya=c:=⟨_,rfl⟩;have I:=rj l;rw[hk1]at I
    have t:Hid (ah (rk Y s1 M1 X) (rk Z s6 M6 E6)=c1):=ie (by rw[a1.rk,a6.rk];exact l)
    clear l hk1;have j:=f.cell;have k:=h.cell
    go_wp2_with fail
    refine(iR a1.top a6.top t.out).mono ?_;rintro N w7 ⟨rfl,B⟩;clear j k;refine aE ?_ f h i B;clear f h i B;intro f h i;obtain⟨c3,F⟩:∃c,ah xb yb=c:=⟨_,rfl⟩;have S:=Eo F;rw[H]at S
    have bA:Hid (ah (rk u J A p) (rk v L C q)=c3):=ie (by rw[b1.rk,b6.rk];exact F)
    clear F H;have j:=f.cell;have k:=h.cell
    go_wp2_with fail
    refine(iR b1.top b6.top bA.out).mono ?_;rintro N w8 ⟨rfl,B⟩;clear j k;replace i:=aj i B;clear B;go_wp2
    go_ret
    exact⟨by first | rfl | (show Ending.returned (.bool _)=_;rw[S]),i.out⟩
theorem EB{x:Sp}{n:Int}(h1: -19342822337206103650074625 < n)(h2:n < 19342822337206103650074625):mW x n=AV (some (n,n)) x:=by
 have hi:bg n=false:=by
  rcases h:bg n
  ·rfl
  ·have:=dC
   rcases mh h with e | e <;> omega
 rcases x with _ | ⟨a,b⟩
 ·rfl
 ·show (!bg n && decide (a<=n) && decide (n<=b))=(decide (a<=n) && decide (n<=b))
  rw[hi]
  rfl
theorem BP{x:Sp}{n:Int}(h:¬(-19342822337206103650074625 < n/\n < 19342822337206103650074625))(b1: -19342822337206103650074625<=n)(b2:n<=19342822337206103650074625):mW x n=false:=by
 have hi:bg n=true:=by
  rcases (by omega:n= -19342822337206103650074625\/n=19342822337206103650074625)with rfl | rfl <;> rfl
 rcases x with _ | ⟨a,b⟩
 ·rfl
 ·show (!bg n && decide (a<=n) && decide (n<=b))=false
  rw[hi]
  rfl
theorem Fs{D:Int}{s:Bool}{M E n:Int}(hM:LQ M)(h:rk D s M E=n): -19342822337206103650074625<=n/\n<=19342822337206103650074625:=by
 by_cases hm:aG D s M E
 ·have:=(dX hM hm).bd
  rw[h]at this;exact this
 ·rw[eU hm]at h
  omega
theorem yh{w:World}{e:Bool}{D M E D' M' E':Int}{s s':Bool}{G P Q:Int}{g:Bool}{x:Sp}{n:Int}{r:Bool}(hM:LQ M)(hM':LQ M')(hP:LQ P)(hx:fG e D s M E D' s' M' E'=x)(hn:rk G g P Q=n)(hr:mW x n=r):Calls prog 18 #[VI e D s M E D' s' M' E',VQ G g P Q] w (PB w r):=by
 delta VI VQ
 have m:=Fs hP hn;have X:=ie hx;have U:=ie hn;clear hx hn
 by_cases l: -19342822337206103650074625 < n/\n < 19342822337206103650074625
 ·have W:=ie ((EB l.1 l.2).symm.trans hr);have I:=ie (bj (a:=n) (b:=n) (by omega) l.2 l.1);clear hr m
  go_enter func18,ntmps18
  go_upto_region 1 with fail
  generalize j:(w.alloc _).alloc _=w1 at *;obtain⟨i,h,c⟩:=Bo.en2 j;clear j;have u:=h.cell
  go_wp2_with fail
  refine(j7 hP U.out I.out).mono ?_;rintro F S ⟨e1,J,s1,L,H,p,t,q,o,rfl,v,B⟩;clear u;refine aE ?_ i h c B;clear i h c B;intro i h c
  go_upto_region 2 with fail
  have O:=i.lt;have R:=h.lt;generalize k:S.alloc _=Y at *;obtain⟨C,A⟩:=Bo.nw k;clear k;refine aE ?_ i h c A;clear i h c A;intro i h c;have N:=v.1;subst N;refine aV [0,1,2,3,4,5,6,7,8] [9,10,11,12,13,14,15,16,5] [[],[],[0,1],[2],[3],[3],[3,4,5],[3,6],[7]] 9 0 [Jo.q9 false J s1 L H p t q o,Jo.q9 true 0 false 0 0 0 false 0 0,Jo.qb true,Jo.qb true,Jo.q9 false J s1 L H p t q o,Jo.q9 e D s M E D' s' M' E',Jo.qb r,Jo.qb r,Jo.qb r] ?_ ?_
  ·refine jm ?_ ?_;rotate_left
   refine jm ?_ ?_
   ·rintro y d K f;go_simp;refine(bp).mono ?_;rintro F V ⟨rfl,B⟩;exact f.out _ _ rfl B
   refine jm ?_ ?_
   ·rintro y d _ rfl _ rfl K f;go_simp
    repeat' split
    all_goals exact f.out _ _ (congrArg Value.bool (by first | rfl | (exfalso;simp_all) | simp_all)) (br _ _)
   iterate 3 (refine jm ?_ ?_;rotate_left)
   refine jm ?_ ?_
   ·rintro y d _ rfl _ rfl _ rfl K f;go_simp;refine(yi v.top.1 v.top.2 hM hM' v.rk X.out W.out).mono ?_;rintro F V ⟨rfl,B⟩;exact f.out _ _ rfl B
   iterate 2 (refine jm ?_ ?_;rotate_left)
   exact jo
   all_goals (rintro y d;(repeat rintro _ rfl);intro K f;have T:=(C.b d).cell;have bA:=(i.b d).cell;go_simp;exact f.out _ _ rfl (br _ _))
  rintro Z d _ rfl _ rfl _ rfl _ rfl _ rfl _ rfl _ rfl _ rfl _ rfl -;simp only[Jo.z];replace i:=i.b d;replace h:=h.b d;replace C:=C.b d;replace c:=aj c d;refine jd ?_;go_wp2
  go_ret
  exact⟨rfl,c.out⟩
 ·have hf:=BP (x:=x) l m.1 m.2
  obtain rfl:false=r:=hf.symm.trans hr
  have I:Hid (du n n=none):=ie (bT (by omega))
  clear hr m hf
  go_enter func18,ntmps18
  go_upto_region 1 with fail
  generalize j:(w.alloc _).alloc _=w1 at *;obtain⟨i,h,c⟩:=Bo.en2 j;clear j;have u:=h.cell
  go_wp2_with fail
  refine(j7 hP U.out I.out).mono ?_;rintro F S ⟨e1,J,s1,L,H,p,t,q,o,rfl,v,B⟩;clear u;replace c:=aj c B;clear B
  go_upto_region 2 with fail
  generalize k:S.alloc _=Y at *;obtain⟨C,A⟩:=Bo.nw k;clear k;replace c:=aj c A;clear A;obtain⟨rfl,rfl,rfl,rfl,rfl,rfl,rfl,rfl,rfl⟩:=v.uniq Ci.none;refine aV [0,1,2,3,4,5,6,7,8] [9,10,11,12,13,14,15,16,5] [[],[],[0,1],[2],[3],[3],[3,4,5],[3,6],[7]] 9 0 [Jo.q9 true 0 false 0 0 0 false 0 0,Jo.q9 true 0 false 0 0 0 false 0 0,Jo.qb false,Jo.qb false,Jo.qu,Jo.qu,Jo.qu,Jo.qb false,Jo.qb false] ?_ ?_
  ·refine jm ?_ ?_;rotate_left
   refine jm ?_ ?_
   ·rintro y d K f;go_simp;refine(bp).mono ?_;rintro F V ⟨rfl,B⟩;exact f.out _ _ rfl B
   refine jm ?_ ?_
   ·rintro y d _ rfl _ rfl K f;go_simp
    repeat' split
    all_goals exact f.out _ _ (congrArg Value.bool (by first | rfl | (exfalso;simp_all) | simp_all)) (br _ _)
   iterate 6 (refine jm ?_ ?_;rotate_left)
   exact jo
   all_goals (rintro y d;(repeat rintro _ rfl);intro K f;have T:=(C.b d).cell;go_simp;exact f.out _ _ rfl (br _ _))
  rintro Z d _ rfl _ rfl _ rfl _ rfl _ rfl _ rfl _ rfl _ rfl _ rfl -;simp only[Jo.z];replace c:=aj c d;refine jd ?_;go_wp2
  go_ret
  exact⟨rfl,c.out⟩
theorem Na.stn{w w':World}{base n c g:Nat}{A:Option Addr}{l:List Int}{a b:Array Value}{T:TypeId}(h:Na w base A n c l)(S:ae w w' g a b T)(hT:(T==24)=false):Na w' base A n c l:=by
 obtain⟨r,h1,h2⟩:=h;refine⟨r,⟨h1.1,?_⟩,h2⟩
 rcases h1.2 with i | ⟨f,cap,d,j,hg,hh,q⟩
 ·exact .inl i
 ·refine .inr ⟨f,cap,d,j,hg,?_,q⟩
  rw[S.2.2.1 f (fun e=>?_)]
  ·exact hh
  ·subst e
   have hb:w.heap[f]?=some (.cells a T (0,0)):=S.1
   rw[hh]at hb
   simp at hb
   rw[<-hb.2]at hT
   simp at hT
theorem Bo.grownN{w w':World}{base n c g:Nat}{A:Option Addr}{l:List Int}{a:Array Value}{T:TypeId}(X:Bo w g a T)(h:Na w base A n c l)(hT:(T==24)=false)(G:w.grownBy w' (aZ A)):Bo w' g a T:=by
 refine X.keep (G.block g X.lt (fun e=>?_))
 obtain⟨r,h1,h2⟩:=h
 rcases h1.2 with⟨d,_⟩ | ⟨i,cap,b,f,hg,hh,q⟩
 ·injection d with h4
  subst h4
  cases e
 ·injection f with h4
  subst h4
  cases e
  have hb:=X
  unfold Bo at hb
  rw[hh]at hb
  simp at hb
  rw[<-hb.2]at hT
  simp at hT
theorem yS{A A2 B B2:Option Addr}{s1 s2:Nat}(hne:∀k,aZ A=some k->aZ B≠some k)(a1:aZ A2=aZ A\/aZ A2=some s1)(a2:aZ B2=aZ B\/aZ B2=some s2)(lB:∀k,aZ B=some k->k < s1)(lA:∀k,aZ A2=some k->k < s2):∀k,aZ A2=some k->aZ B2≠some k:=by
 intro k h c
 have a:=lA k h
 rcases a2 with e | e
 ·rw[e]at c;have hb:=lB k c
  rcases a1 with f | f
  ·rw[f]at h;exact hne k h c
  ·rw[f]at h
   injection h with h
   omega
 ·rw[e]at c
  injection c with c
  omega
theorem Fg{A B:Option Addr}(hne:∀k,aZ A=some k->aZ B≠some k):aZ B=none\/aZ B≠aZ A:=by
 rcases h:aZ B with _ | k
 ·exact .inl rfl
 ·exact .inr (fun c=>hne k c.symm h)
theorem CM{A B:Option Addr}(hne:∀k,aZ A=some k->aZ B≠some k):aZ A=none\/aZ A≠aZ B:=by
 rcases h:aZ A with _ | k
 ·exact .inl rfl
 ·exact .inr (fun c=>hne k h c.symm)
def Ie (w:World)(A B:Option Addr)(m c d:Nat)(la lb:List Int)(wr:World):Prop:=
 Na wr w.heap.size A m c la/\Na wr w.heap.size B m d lb/\(∀k,aZ A=some k->aZ B≠some k)/\Below w.heap.size w wr
theorem yg{w:World}{A:Option Addr}{n c m:Nat}{l:List Sp}(h:mL w A n c l)(hm:(ed l).length=m):Calls prog 79 #[.slice A n c] w (fun e w'=>∃A1 c1 B1 d1,e= .returned (.tuple #[.slice A1 m c1,.slice B1 m d1])/\Nl w' A1 m c1 (ed l)/\Nl w' B1 m d1 (dW l)/\Below w.heap.size w w'):=by
 have HM:=ie hm;have S:=ie h.1;have hG:=h.2.1;have hF:=h.2.2.1;have bA:=h;clear hm h
 go_enter func79,ntmps79
 go_wp2
 go_loopw [2,3,8] (fun va vb i wr=>∃k A1 B1 X c1 d1,k<=n/\X<=k/\va= .slice A1 X c1/\vb= .slice B1 X d1/\i= .int .i64 ((k:Nat):Int)/\Ie w A1 B1 X c1 d1 (ed (l.take k)) (dW (l.take k)) wr) (fun _ _ i _=>n-(intOf i).toNat)
 case atStart=>exact ⟨0,_,_,_,_,_,Nat.zero_le _,Nat.zero_le _,rfl,rfl,rfl,Na.nil _ _,Na.nil _ _,(fun k h=>by cases h),Below.refl _ _⟩
 case round=>
  obtain⟨k,A1,B1,X,c1,d1,Q,hH,rfl,rfl,rfl,f,d,bN,hB⟩:=hrel;have a:=ie hB;clear hB
  by_cases hlt:k < n
  ·have hE:decide ((k:Int) < (n:Int))=true:=by simp;omega
   have h:=bA.below a.out;obtain⟨b,o,rfl,hcell⟩:=h.2.2.2 (by omega);obtain⟨e,D,s,M,E,D',s',M',E',x0,x1,x2,x3,x4,x5,x6,x7,x8,hM,bB,hx⟩:=hcell k hlt;clear hcell h bA
   have i1:(k:Int) < n:=by omega
   have i2:(0:Int)<=k:=by omega
   have O:=tL (l:=l) (k:=k) (by rw[S.out];exact hlt);have N:=pS (l:=l) (k:=k) (by rw[S.out];exact hlt);rw[<-hx]at O N;generalize ed (l.take k)=la at *;generalize dW (l.take k)=lb at *;obtain⟨x,hX⟩:∃x,fG e D s M E D' s' M' E'=x:=⟨_,rfl⟩;rw[hX]at O N;have HX:=ie hX;have L:=ie O;have J:=ie N
   have I:=ie bN;clear O N hX hx bN;have hA:=a.out.size
   go_upto_region 4 with fail
   clear x0 x1 x2 x3 x4 x5 x6 x7 x8;generalize bC:wr.alloc _=w3 at *;obtain⟨g,BW⟩:=Bo.nw bC;clear bC;refine aE ?_ f d a BW;clear f d a BW;intro f d a;have j:=g.cell
   go_wp2_with fail
   refine(rA hM bB HX.out).mono ?_;rintro ee w4 ⟨e1,W,s1,P,V,C,H,F,y,rfl,v1,B⟩;clear j;refine dk ?_ g f d a B;clear g f d a B;intro g f d a;clear HX hM bB;have j:=g.cell;have gP:=g.frozen
   go_upto_region 5 with fail
   clear j gP;generalize hS:((((((((w4.setCell _ _).setCell _ _).setCell _ _).setCell _ _).setCell _ _).setCell _ _).setCell _ _).setCell _ _).setCell _ _=w5 at *;have Y:=ae.of9 g hS;replace f:=f.stn Y (by decide);replace d:=d.stn Y (by decide);replace a:=ie (Y.below a.out hA);replace g:=Y.box;clear Y hS
   rcases x with _ | ⟨xa,xb⟩
   ·obtain⟨rfl,y1,gO⟩:=v1;have u:=L.out;have t:=J.out
    have bH:la ++Gb none=la:=List.append_nil la
    have bD:lb ++BQ none=lb:=List.append_nil lb
    rw[bH]at u;rw[bD]at t;clear L J bH bD
    obtain⟨_,rfl,rfl,rfl,rfl,rfl,rfl,rfl,rfl⟩:=(show Ci true W s1 P V C H F y none from ⟨rfl,y1,gO⟩).uniq Ci.none
    clear y1 gO;refine aV [0,1,2] [15,16,17] [[],[],[0,1]] 3 0 [Jo.q9 true 0 false 0 0 0 false 0 0,Jo.q9 true 0 false 0 0 0 false 0 0,Jo.qb false] ?_ ?_
    ·refine jm ?_ ?_
     ·rintro wj p K G;have j:=(g.b p).cell;go_simp;exact G.out _ _ rfl (br _ _)
     refine jm ?_ ?_
     ·rintro wj p K G;go_simp;refine(bp).mono ?_;rintro ee wk ⟨rfl,B⟩;exact G.out _ _ rfl B
     refine jm ?_ ?_
     ·rintro wj p _ rfl _ rfl K G;go_simp
      repeat' split
      all_goals exact G.out _ _ (congrArg Value.bool (by first | rfl | (exfalso;simp_all) | simp_all)) (br _ _)
     exact jo
    rintro w6 p _ rfl _ rfl _ rfl -;simp only[Jo.z];replace g:=g.b p;replace f:=f.b p;replace d:=d.b p;replace a:=aj a p;refine jd ?_;go_wp2
    go_roundw
    case rel=>exact ⟨k+1,_,_,_,_,_,by omega,by omega,rfl,rfl,by go_num,by rw[u];exact f,by rw[t];exact d,I.out,a.out⟩
    case measure=>simp [intOf];omega
   ·obtain⟨rfl,a1,b1,o1,hD,hC⟩:=v1
    have u:_=la ++[xa]:=L.out
    have t:_=lb ++[xb]:=J.out
    clear L J o1 hD hC;refine aV [0,1,2] [15,16,17] [[],[],[0,1]] 3 0 [Jo.q9 false W s1 P V C H F y,Jo.q9 true 0 false 0 0 0 false 0 0,Jo.qb true] ?_ ?_
    ·refine jm ?_ ?_
     ·rintro wj p K G;have j:=(g.b p).cell;go_simp;exact G.out _ _ rfl (br _ _)
     refine jm ?_ ?_
     ·rintro wj p K G;go_simp;refine(bp).mono ?_;rintro ee wk ⟨rfl,B⟩;exact G.out _ _ rfl B
     refine jm ?_ ?_
     ·rintro wj p _ rfl _ rfl K G;go_simp
      repeat' split
      all_goals exact G.out _ _ (congrArg Value.bool (by first | rfl | (exfalso;simp_all) | simp_all)) (br _ _)
     exact jo
    rintro w6 p _ rfl _ rfl _ rfl -;simp only[Jo.z];replace g:=g.b p;replace f:=f.b p;replace d:=d.b p;replace a:=aj a p;refine jd ?_;have j:=g.cell
    go_wp2_with (at_builtin;refine mK rfl _ _ rfl rfl rfl (f.below (ab _ _)) a1 (Bo.new _ _ _) (by omega) (Nat.le_trans a.out.size (ab _ _).size) ?_)
    intro A2 d2 w7 T G1 U
    clear j;have r:=bt a.out (ab _ (.cells #[.int .i64 W,.bool s1,.int .u64 P,.int .i64 V] 24));have q:=f.below (ab _ (.cells #[.int .i64 W,.bool s1,.int .u64 P,.int .i64 V] 24));have v:=d.below (ab _ (.cells #[.int .i64 W,.bool s1,.int .u64 P,.int .i64 V] 24));replace g:=(g.below (ab _ (.cells #[.int .i64 W,.bool s1,.int .u64 P,.int .i64 V] 24))).grownN q (by decide) G1
    replace a:=ie (r.grown G1 r.size (fun k Q=>(q.own_lt k Q).1))
    have l1:∀k,aZ B1=some k->k < w6.heap.size+1:=fun k Q=>by
     have:=(v.own_lt k Q).2
     simpa using this
    replace d:=v.kept G1 (Fg I.out);clear f q v G1 r;have j:=g.cell
    go_wp2_with (at_builtin;refine mK rfl _ _ rfl rfl rfl (d.below (ab _ _)) b1 (Bo.new _ _ _) (by omega) (Nat.le_trans a.out.size (ab _ _).size) ?_)
    intro B2 d3 w8 gS G2 Z
    clear j;have r:=bt a.out (ab _ (.cells #[.int .i64 C,.bool H,.int .u64 F,.int .i64 y] 24));have v:=d.below (ab _ (.cells #[.int .i64 C,.bool H,.int .u64 F,.int .i64 y] 24));have q:=T.below (ab _ (.cells #[.int .i64 C,.bool H,.int .u64 F,.int .i64 y] 24))
    have lA:∀k,aZ A2=some k->k < w7.heap.size+1:=fun k Q=>by
     have:=(q.own_lt k Q).2
     simpa using this
    have gB:∀k,aZ A2=some k->aZ B2≠some k:=yS I.out U Z l1 lA
    have R:∀k,aZ A2=some k->aZ B1≠some k:=yS I.out U (.inl rfl) l1 lA
    replace a:=ie (r.grown G2 r.size (fun k Q=>(v.own_lt k Q).1))
    replace T:=q.kept G2 (CM R)
    clear q v G2 r R g d l1 lA U Z;go_wp2
    go_roundw
    case rel=>exact ⟨k+1,_,_,_,_,_,by omega,by omega,rfl,rfl,by go_num,by rw[u];exact T,by rw[t];exact gS,gB,a.out⟩
    case measure=>simp [intOf];omega
  ·obtain rfl:k=n:=by omega
   have hE:decide ((k:Int) < (k:Int))=false:=by simp
   have e1:l.take k=l:=List.take_of_length_le (by rw[S.out];omega)
   rw[e1]at f d
   obtain rfl:X=m:=by rw[<-HM.out];exact f.len.symm
   have P:=f.nl (by omega);have M2:=d.nl (by omega);clear f d;go_wp2
   go_ret2
   exact⟨_,_,_,_,rfl,P,M2,a.out⟩
theorem mZ{w:World}{A:Option Addr}{n c:Nat}{l:List Sp}{z:Sp}(h:mL w A n c l)(hr:iP l=z):Calls prog 26 #[.slice A n c] w (PV w z):=by
 obtain⟨m,hm⟩:∃m,(ed l).length=m:=⟨_,rfl⟩;have q:=h.1;have p:=kG l;have r:=h.ok;have I:=ie hm
 go_enter func26,ntmps26
 go_upto_region 1 with fail
 generalize o:w.alloc _=w1 at *;obtain⟨a,d⟩:=Bo.en1 o;replace h:=h.below d.out;clear o
 go_wp2_with fail
 refine(yg h I.out).mono ?_;rintro s W ⟨A1,c1,R,V,rfl,j,f,B⟩;replace a:=a.b B;replace d:=aj d B;clear B;clear h
 by_cases hl:m < n
 ·rw[Cw (by omega)]at hr
  obtain rfl:none=z:=hr
  have O:decide ((m:Int) < (n:Int))=true:=by simp;omega
  clear hm p q r
  go_wp2_with fail
  refine(bp).mono ?_;rintro s Q ⟨rfl,B⟩;refine dk ?_ a j f d B;clear a j f d B;intro a j f d;clear j f;have i:=a.cell;have e:=a.frozen;go_wp2;clear i e;have k:=ae.t9 a true 0 false 0 0 0 false 0 0
  exact bq (by simp[results,results26,go_sem,k.box.cell]) rfl ⟨_,_,_,_,_,_,_,_,_,rfl,Ci.none,(k.below d.out (by omega))⟩
 ·have g:=(tO (by omega)).symm.trans hr
  have O:decide ((m:Int) < (n:Int))=false:=by simp;omega
  clear hr;obtain⟨u,D⟩:∃u,nk (ed l)=u:=⟨_,rfl⟩;obtain⟨v,E⟩:∃v,oJ (dW l)=v:=⟨_,rfl⟩;rw[D,E]at g;have L:=ie D;have x:=ie E;have J:=ie g;clear D E g hm p q r
  go_wp2_with fail
  refine(rM j L.out).mono ?_;rintro s Q ⟨T,s1,U,S,rfl,G,B⟩;refine aE ?_ a f d B;clear a f d B;intro a f d
  go_wp2_with fail
  refine(yL f x.out).mono ?_;rintro s X ⟨K2,s2,M2,E2,rfl,H,B⟩;replace a:=a.b B;replace d:=aj d B;clear B
  go_wp2_with fail
  refine(gj G.top H.top G.rk H.rk J.out).mono ?_;rintro s Y ⟨e3,M,s3,N,E3,y,F,C,t,rfl,P,B⟩;replace a:=a.b B;replace d:=aj d B;clear B;clear j f;have i:=a.cell;have e:=a.frozen;go_wp2;clear i e;have k:=ae.t9 a e3 M s3 N E3 y F C t
  exact bq (by simp[results,results26,go_sem,k.box.cell]) rfl ⟨_,_,_,_,_,_,_,_,_,rfl,P,(k.below d.out (by omega))⟩
theorem EJ{w:World}{A:Option Addr}{n c:Nat}{l:List Sp}{z:Sp}(h:mL w A n c l)(hr:eu l=z):Calls prog 59 #[.slice A n c] w (PV w z):=by
 obtain⟨m,hm⟩:∃m,(ed l).length=m:=⟨_,rfl⟩;have t:=h.1;have s:=kG l;have i:=h.ok;have I:=ie hm
 go_enter func59,ntmps59
 go_upto_region 1 with fail
 generalize g:w.alloc _=w1 at *;obtain⟨a,d⟩:=Bo.en1 g;replace h:=h.below d.out;clear g
 go_wp2_with fail
 refine(yg h I.out).mono ?_;rintro r U ⟨A1,c1,P,T,rfl,E,f,B⟩;replace a:=a.b B;replace d:=aj d B;clear B;clear h;have e:=(te i).symm.trans hr;clear hr;obtain⟨u,x⟩:∃u,oJ (ed l)=u:=⟨_,rfl⟩;obtain⟨v,y⟩:∃v,nk (dW l)=v:=⟨_,rfl⟩;rw[x,y]at e;have L:=ie x;have o:=ie y;have J:=ie e
 clear x y e hm s t i
 go_wp2_with fail
 refine(yL E L.out).mono ?_;rintro r V ⟨R,s1,S,Q,rfl,G,B⟩;refine aE ?_ a f d B;clear a f d B;intro a f d
 go_wp2_with fail
 refine(rM f o.out).mono ?_;rintro r W ⟨K2,s2,M2,E2,rfl,H,B⟩;replace a:=a.b B;replace d:=aj d B;clear B
 go_wp2_with fail
 refine(gj G.top H.top G.rk H.rk J.out).mono ?_;rintro r X ⟨e3,M,s3,N,E3,p,C,q,k,rfl,O,B⟩;replace a:=a.b B;replace d:=aj d B;clear B;clear E f;have D:=a.cell;have j:=a.frozen;go_wp2;clear D j;have F:=ae.t9 a e3 M s3 N E3 p C q k
 exact bq (by simp[results,results59,go_sem,F.box.cell]) rfl ⟨_,_,_,_,_,_,_,_,_,rfl,O,(F.below d.out (by omega))⟩
def Rw (e:Bool)(K:Int)(s:Bool)(M E K':Int)(s':Bool)(M' E':Int)(x:Sp):Prop:=M < 18446744073709551616/\M' < 18446744073709551616/\fG e K s M E K' s' M' E'=x
theorem mL.lit1{W:World}{h:Nat}{K1 M1 E1 G1 P1 Q1:Int}{e1 s1 g1:Bool}{x1:Sp}(hg:W.heap.size=h)(v1:Rw e1 K1 s1 M1 E1 G1 g1 P1 Q1 x1):
  mL (W.alloc (.cells #[.bool e1,.int .i64 K1,.bool s1,.int .u64 M1,.int .i64 E1,.int .i64 G1,.bool g1,.int .u64 P1,.int .i64 Q1] 26)) (some ⟨h,0,none⟩) 1 1 [x1]:=by
 subst hg;have hh:=heap_alloc_new W (.cells #[.bool e1,.int .i64 K1,.bool s1,.int .u64 M1,.int .i64 E1,.int .i64 G1,.bool g1,.int .u64 P1,.int .i64 Q1] 26)
 refine⟨rfl,Nat.le_refl _,by decide,fun _=>⟨_,0,rfl,fun k hk=>?_⟩⟩
 obtain rfl:k=0:=by omega
 exact⟨e1,K1,s1,M1,E1,G1,g1,P1,Q1,by rw[cell_of_row _ _ _ _ _ _ hh];rfl,by rw[cell_of_row _ _ _ _ _ _ hh];rfl,by rw[cell_of_row _ _ _ _ _ _ hh];rfl,by rw[cell_of_row _ _ _ _ _ _ hh];rfl,by rw[cell_of_row _ _ _ _ _ _ hh];rfl,by rw[cell_of_row _ _ _ _ _ _ hh];rfl,by rw[cell_of_row _ _ _ _ _ _ hh];rfl,by rw[cell_of_row _ _ _ _ _ _ hh];rfl,by rw[cell_of_row _ _ _ _ _ _ hh];rfl,v1.1,v1.2.1,v1.2.2⟩
theorem EL{w:World}{a b oa ob:Int}{x:Sp}(a1: -9223372036854775808<=a)(a2:a<=9223372036854775807)(b1: -9223372036854775808<=b)(b2:b<=9223372036854775807)(ha:an (decide (a < 0)) (lo a.natAbs 0)=oa)(hb:an (decide (b < 0)) (lo b.natAbs 0)=ob)(hx:du oa ob=x):Calls prog 17 #[.int .i64 a,.int .i64 b] w (PV w x):=by
 have q:=ie ha;have h:=ie hb;have r:=ie hx;clear ha hb hx
 go_enter func17,ntmps17
 go_upto_region 1 with fail
 generalize e:w.alloc _=w1 at *;obtain⟨c,d⟩:=Bo.en1 e;clear e
 go_wp2_with fail
 refine(qf _ a1 a2 q.out).mono ?_;rintro n A ⟨y,s1,z,v,rfl,o,B⟩;replace c:=c.b B;replace d:=aj d B;clear B
 go_wp2_with fail
 refine(qf _ b1 b2 h.out).mono ?_;rintro n C ⟨K2,s2,M2,E2,rfl,p,B⟩;replace c:=c.b B;replace d:=aj d B;clear B
 go_wp2_with fail
 refine(gj o.top p.top o.rk p.rk r.out).mono ?_;rintro n D ⟨e3,s,s3,t,E3,i,k,j,g,rfl,u,B⟩;replace c:=c.b B;replace d:=aj d B;clear B;have l:=c.cell;have f:=c.frozen;go_wp2;clear l f;have m:=ae.t9 c e3 s s3 t E3 i k j g
 exact bq (by simp[results,results17,go_sem,m.box.cell]) rfl ⟨_,_,_,_,_,_,_,_,_,rfl,u,(m.below d.out (by omega))⟩
abbrev V9:=Bool × Int × Bool × Int × Int × Int × Bool × Int × Int
def fc:List V9->List Value
 | []=>[]
 | (e,K,s,M,E,K',s',M',E')::l=> .bool e:: .int .i64 K:: .bool s:: .int .u64 M:: .int .i64 E:: .int .i64 K':: .bool s':: .int .u64 M':: .int .i64 E'::fc l
theorem jS:∀l m,fc (l ++m)=fc l ++fc m
 | [],m=>rfl
 | (e,K,s,M,E,K',s',M',E')::l,m=>by
  show _::_::_::_::_::_::_::_::_::fc (l ++m)=_
  rw[jS l m]
  rfl
theorem pr:∀l,(fc l).length=l.length*9
 | []=>rfl
 | (e,K,s,M,E,K',s',M',E')::l=>by
  show (fc l).length+9=(l.length+1)*9
  rw[pr l]
  omega
theorem pu:∀(l:List V9),∀u ∈ fc l,u.oneCell'=true
 | [],u,h=>by cases h
 | (e,K,s,M,E,K',s',M',E')::l,u,h=>by
  simp only[fc,List.mem_cons]at h
  rcases h with rfl | rfl | rfl | rfl | rfl | rfl | rfl | rfl | rfl | h
  iterate 9 rfl
  exact pu l u h
theorem sC:∀(l:List V9) (k:Nat) (e:Bool) (K:Int) (s:Bool) (M E K':Int) (s':Bool) (M' E':Int),l[k]?=some (e,K,s,M,E,K',s',M',E')->(fc l)[k*9]?=some (.bool e)/\(fc l)[k*9+1]?=some (.int .i64 K)/\(fc l)[k*9+2]?=some (.bool s)/\(fc l)[k*9+3]?=some (.int .u64 M)/\(fc l)[k*9+4]?=some (.int .i64 E)/\(fc l)[k*9+5]?=some (.int .i64 K')/\(fc l)[k*9+6]?=some (.bool s')/\(fc l)[k*9+7]?=some (.int .u64 M')/\(fc l)[k*9+8]?=some (.int .i64 E')
 | [],k,_,_,_,_,_,_,_,_,_,h=>by cases h
 | (e,K,s,M,E,K',s',M',E')::l,0,_,_,_,_,_,_,_,_,_,h=>by
  cases h
  exact⟨rfl,rfl,rfl,rfl,rfl,rfl,rfl,rfl,rfl⟩
 | (e,K,s,M,E,K',s',M',E')::l,k+1,e2,K2,s2,M2,E2,K2',s2',M2',E2',h=>by
  have:=sC l k e2 K2 s2 M2 E2 K2' s2' M2' E2' h
  have e:(k+1)*9=k*9+9:=by omega
  rw[e];exact this
def Ia (w:World)(base:Nat)(A:Option Addr)(n c:Nat)(l:List Sp):Prop:=
 ∃r:List V9,w.ownsRow base 26 9 (.slice A n c) n (fc r)/\r.length=n/\l.length=n/\∀k,k < n->∃e K s M E K' s' M' E',r[k]?=some (e,K,s,M,E,K',s',M',E')/\Ci e K s M E K' s' M' E' (l.getD k none)
theorem EC:(prog.info? 26).map (fun i=>(i.zero,i.size,i.bytes))=some (some (.agg #[.bool false,.int .i64 0,.bool false,.int .u64 0,.int .i64 0,.int .i64 0,.bool false,.int .u64 0,.int .i64 0]),9,72):=by kernel_rfl
section
variable {w w':World} {base n c:Nat} {A:Option Addr} {l:List Sp}
theorem Ia.nil (w:World)(base:Nat):Ia w base none 0 0 []:=⟨[],World.ownsRow_nil w base _ 9,rfl,rfl,fun k h=>absurd h (Nat.not_lt_zero _)⟩
theorem Ia.len (h:Ia w base A n c l):l.length=n:=by
 obtain⟨_,_,_,h,_⟩:=h;exact h
theorem Ia.below (h:Ia w base A n c l)(hb:Below w.heap.size w w'):Ia w' base A n c l:=by
 obtain⟨r,h1,h2⟩:=h;refine⟨r,⟨h1.1,?_⟩,h2⟩
 rcases h1.2 with b | ⟨g,cap,a,d,hg,hh,q⟩
 ·exact .inl b
 ·refine .inr ⟨g,cap,a,d,hg,?_,q⟩;rw[hb.block g (Array.getElem?_eq_some_iff.1 hh).1];exact hh
abbrev Ia.b:= @Ia.below
instance:Mv (Ia w base A n c l) w w' (Ia w' base A n c l):=⟨fun h b=>h.below b⟩
theorem Ia.lower (h:Ia w base A n c l){base2:Nat}(hb:base2<=base):Ia w base2 A n c l:=by
 obtain⟨r,h1,h2⟩:=h;refine⟨r,⟨h1.1,?_⟩,h2⟩
 rcases h1.2 with b | ⟨g,cap,a,d,hg,q⟩
 ·exact .inl b
 ·exact .inr ⟨g,cap,a,d,Nat.le_trans hb hg,q⟩
theorem Ia.own_lt (h:Ia w base A n c l):∀k,aZ A=some k->base<=k/\k < w.heap.size:=by
 obtain⟨r,h1,h2⟩:=h
 intro k a
 exact h1.lt k (by rw[iA];exact a)
theorem Bo.grownI{g:Nat}{a:Array Value}{T:TypeId}(X:Bo w g a T)(h:Ia w base A n c l)(hT:(T==26)=false)(G:w.grownBy w' (aZ A)):Bo w' g a T:=by
 refine X.keep (G.block g X.lt (fun e=>?_))
 obtain⟨r,h1,h2⟩:=h
 rcases h1.2 with⟨d,_⟩ | ⟨i,cap,b,f,hg,hh,q⟩
 ·injection d with h4
  subst h4
  cases e
 ·injection f with h4
  subst h4
  cases e
  have hb:=X
  unfold Bo at hb
  rw[hh]at hb
  simp at hb
  rw[<-hb.2]at hT
  simp at hT
theorem Ia.cells (h:Ia w base A n c l)(h0:0 < n):∃g,A=some ⟨g,0,none⟩/\n<=c/\∃r:List V9,r.length=n/\(∀k,k < n->∃e K s M E K' s' M' E',r[k]?=some (e,K,s,M,E,K',s',M',E')/\Ci e K s M E K' s' M' E' (l.getD k none))/\∀j v,(fc r)[j]?=some v->w.cell? ⟨g,0+j,none⟩=some v:=by
 obtain⟨r,h1,h2,f,h4⟩:=h
 rcases h1.2 with⟨e1,e2⟩ | ⟨g,cap,b,a,hg,hh,d,hm,hs,ht⟩
 ·omega
 ·injection a with a1 a2 a3
  subst a1;subst a3
  refine⟨g,rfl,d,r,h2,h4,fun j v a=>?_⟩
  rw[cell_of_row w g (0+j) _ _ (0,0) hh,Nat.zero_add,<-Array.getElem?_toList];rw[<-ht,List.getElem?_take]at a
  split at a
  ·exact a
  ·cases a
theorem Ia.il (h:Ia w base A n c l)(hn:n<=1099511627776):mL w A n c l:=by
 rcases Nat.eq_zero_or_pos n with b | b
 ·subst b;have hl:=h.len;obtain⟨r,h1,_⟩:=h
  rcases h1.2 with⟨e1,e2⟩ | ⟨g,cap,i,m,hg,hh,d,hm,hs,ht⟩
  ·injection e1 with a1 a2 a3
   subst a3
   exact⟨hl,Nat.le_refl _,by omega,fun h=>absurd h (Nat.lt_irrefl _)⟩
  ·exact⟨hl,Nat.zero_le _,by omega,fun h=>absurd h (Nat.lt_irrefl _)⟩
 ·obtain⟨g,rfl,d,r,h2,h4,a⟩:=h.cells b
  refine⟨h.len,d,hn,fun _=>⟨g,0,rfl,fun k hk=>?_⟩⟩
  obtain⟨e,K,s,M,E,K',s',M',E',j,q⟩:=h4 k hk;obtain⟨c0,c1,c2,c3,c4,c5,c6,c7,f⟩:=sC r k e K s M E K' s' M' E' j;refine⟨e,K,s,M,E,K',s',M',E',a _ _ c0,?_,?_,?_,?_,?_,?_,?_,?_,q.top.1,q.top.2,q.rk⟩
  all_goals rw[Nat.add_assoc]
  ·exact a _ _ c1
  ·exact a _ _ c2
  ·exact a _ _ c3
  ·exact a _ _ c4
  ·exact a _ _ c5
  ·exact a _ _ c6
  ·exact a _ _ c7
  ·exact a _ _ f
theorem Ia.lit{g:Nat}{e s s':Bool}{K M E K' M' E':Int}{x:Sp}(X:Bo w g #[.bool e,.int .i64 K,.bool s,.int .u64 M,.int .i64 E,.int .i64 K',.bool s',.int .u64 M',.int .i64 E'] 26)(q:Ci e K s M E K' s' M' E' x):Ia w g (some ⟨g,0,none⟩) 1 1 [x]:=by
 refine⟨[(e,K,s,M,E,K',s',M',E')],⟨rfl,.inr ⟨g,1,_,rfl,Nat.le_refl _,X,Nat.le_refl _,by decide,rfl,rfl⟩⟩,rfl,rfl,fun k hk=>?_⟩
 obtain rfl:k=0:=by omega
 exact⟨e,K,s,M,E,K',s',M',E',rfl,q⟩
theorem Ea (g j:Nat):(⟨g,0,none⟩:Addr).add j=⟨g,0+j,none⟩:=by
 unfold Addr.add
 split
 ·rename_i h
  subst h
  rfl
 ·rfl
theorem zS{ty:TypeId}{base2 m d:Nat}{B:Option Addr}{l2:List Sp}(h:Ia w base A n c l)(k:Ia w base2 B m d l2)(h0:0 < m)(hn:n+m<=1000000)(hb:base<=w.heap.size):
  ∃A2 c2 w',(Builtin.append_ #[68,68] ty #[.slice A n c,.slice B m d]).run prog w= .ok (.slice A2 (n+m) c2) w'/\Ia w' base A2 (n+m) c2 (l ++l2)/\w.grownBy w' (aZ A)/\(aZ A2=aZ A\/aZ A2=some w.heap.size):=by
 obtain⟨i,hi,hz,D,x⟩:=info_parts EC;have z:=k.len;obtain⟨g,rfl,Q,q,I,M,p⟩:=k.cells h0;obtain⟨r,h1,h2,H,h4⟩:=h
 obtain⟨N,w',J,C,hg,_,f⟩:=run_append_own_at (P:=prog) w base 68 ty 26 i _ 9 72 Tryz.underlying68 hi hz D x rfl (by decide) _ n (fc r) h1 ⟨g,0,none⟩ m d (fc q) (by rw[pr,I])
  (fun j u hj=>by rw[Ea];exact p j u hj) (pu q) (by unfold maxLen;omega) (by omega) hb
 rw[iA]at hg f;rw[<-jS]at C
 obtain⟨A2,c2,rfl⟩:∃A2 c2,N= .slice A2 (n+m) c2:=by
  rcases C.2 with⟨_,h0⟩ | ⟨O,F,G,L,_⟩
  ·omega
  ·exact⟨_,_,L⟩
 rw[iA]at f
 refine⟨A2,c2,w',J,⟨_,C,by rw[List.length_append,h2,I],by rw[List.length_append,H,z],fun j hj=>?_⟩,hg,f⟩
 by_cases y:j < n
 ·obtain⟨e1,t,s1,v,s,b,o,e,a,hq,E⟩:=h4 j y;refine⟨e1,t,s1,v,s,b,o,e,a,by rw[List.getElem?_append_left (by omega)];exact hq,?_⟩
  rw[List.getD_eq_getElem?_getD,List.getElem?_append_left (by omega),<-List.getD_eq_getElem?_getD];exact E
 ·obtain⟨e1,t,s1,v,s,b,o,e,a,hq,E⟩:=M (j-n) (by omega);refine⟨e1,t,s1,v,s,b,o,e,a,by rw[List.getElem?_append_right (by omega),h2];exact hq,?_⟩
  rw[List.getD_eq_getElem?_getD,List.getElem?_append_right (by omega),H,<-List.getD_eq_getElem?_getD];exact E
theorem jJ{ops:Array Oper}{rest:List Oper}{o:Oper}{a:Act}{Q:Exit->Act->World->Prop}(hgd:o.guard=none)(s x:Operand)
  (ho:o.op= .call {callee:= .builtin .append,args:= #[s,x],argTypes:= #[68,68]}) {base2 m d:Nat} {B:Option Addr} {l2:List Sp}
  (hs:a.eval s= .slice A n c) (hx:a.eval x= .slice B m d) (h:Ia w base A n c l) (k:Ia w base2 B m d l2) (h0:0 < m) (hn:n+m<=1000000) (hb:base<=w.heap.size)
  (hK:∀A2 c2 w',Ia w' base A2 (n+m) c2 (l ++l2)->w.grownBy w' (aZ A)->(aZ A2=aZ A\/aZ A2=some w.heap.size)->wpList prog ops Q rest (a.put o.dst (.slice A2 (n+m) c2)) w'):wpList prog ops Q (o::rest) a w:=by
 refine wpList_plain hgd fun K hK2=>?_
 obtain⟨A2,c2,w',e,h1,h2,b⟩:=zS (ty:=o.type) h k h0 hn hb
 unfold Oper.wp execOp
 simp only[ho,resolve,invoke,builtin,Sem.run_bind,Sem.run_pure,Result.andThen_ok,List.map_toArray,List.map_cons,List.map_nil,hs,hx,e];exact hK2 _ _ (hK A2 c2 w' h1 h2 b)
theorem Df{ops:Array Oper}{o:Oper}{a:Act}{K:Act->World->Prop}{Q:Exit->Act->World->Prop}(hgd:o.guard=none)(s x:Operand)
  (ho:o.op= .call {callee:= .builtin .append,args:= #[s,x],argTypes:= #[68,68]}) {base2 m d:Nat} {B:Option Addr} {l2:List Sp}
  (hs:a.eval s= .slice A n c) (hx:a.eval x= .slice B m d) (h:Ia w base A n c l) (k:Ia w base2 B m d l2) (h0:0 < m) (hn:n+m<=1000000) (hb:base<=w.heap.size)
  (hK:∀A2 c2 w',Ia w' base A2 (n+m) c2 (l ++l2)->w.grownBy w' (aZ A)->(aZ A2=aZ A\/aZ A2=some w.heap.size)->K (a.put o.dst (.slice A2 (n+m) c2)) w'):
  if Region.wanted o (yielded ops a.tmps)=true then Oper.wp prog o a w K Q else K (a.put o.dst undef) w:=by
 have e:Region.wanted o (yielded ops a.tmps)=true:=by
  unfold Region.wanted
  rw[hgd]
 rw[if_pos e];obtain⟨A2,c2,w',f,h1,h2,b⟩:=zS (ty:=o.type) h k h0 hn hb
 unfold Oper.wp execOp
 simp only[ho,resolve,invoke,builtin,Sem.run_bind,Sem.run_pure,Result.andThen_ok,List.map_toArray,List.map_cons,List.map_nil,hs,hx,f];exact hK A2 c2 w' h1 h2 b
end
end Go.Proofs.YteigedaefgmojaaGreatDoor
namespace Go.Proofs.YteigedaefgmojaaGreatDoor
open Go.Proofs.Tryz
open Go Go.RowKit
set_option linter.unusedVariables false
structure Duo (g h:Nat) (w w':World):Prop where
 os:w'.os=w.os
 tape:w'.tape=w.tape
 output:w'.output=w.output
 size:w.heap.size<=w'.heap.size
 block:∀k,k < w.heap.size->k≠g->k≠h->w'.heap[k]?=w.heap[k]?
section
variable {g h:Nat} {w w' w'':World}
theorem Duo.of (H:Below w.heap.size w w'):Duo g h w w':=⟨H.os,H.tape,H.output,H.size,fun k hk _ _=>H.block k hk⟩
theorem Duo.trans (H:Duo g h w w')(K:Duo g h w' w''):Duo g h w w'':=
 ⟨K.os.trans H.os,K.tape.trans H.tape,K.output.trans H.output,Nat.le_trans H.size K.size,fun i hi a b=>(K.block i (Nat.lt_of_lt_of_le hi H.size) a b).trans (H.block i hi a b)⟩
theorem Duo.mv (H:Duo g h w w')(K:Below w'.heap.size w' w''):Duo g h w w'':=H.trans (.of K)
theorem Duo.stn{k:Nat}{old new:Array Value}{R:TypeId}(H:Duo g h w w')(S:ae w' w'' k old new R)(hk:k=g\/k=h\/w.heap.size<=k):Duo g h w w'':=by
 have hb:=S.2.2.2 0 w' (Nat.zero_le _) (Below.refl 0 w')
 exact⟨hb.os.trans H.os,hb.tape.trans H.tape,hb.output.trans H.output,Nat.le_trans H.size hb.size,fun i hi a b=>(S.2.2.1 i (by omega)).trans (H.block i hi a b)⟩
theorem Duo.below{B:Nat}{a:World}(O:Duo g h w w')(H:Below B a w)(h1:B<=g)(h2:B<=h)(h3:B<=w.heap.size):Below B a w':=
 ⟨O.os.trans H.os,O.tape.trans H.tape,O.output.trans H.output,Nat.le_trans H.size O.size,fun k hk=>(O.block k (by omega) (by omega) (by omega)).trans (H.block k hk)⟩
abbrev Duo.b:= @Duo.below
theorem Bo.duo{k:Nat}{cs:Array Value}{T:TypeId}(X:Bo w k cs T)(O:Duo g h w w')(a:k≠g)(b:k≠h):Bo w' k cs T:=X.keep (O.block k X.lt a b)
theorem Wn.duo{old old2:Array Value}{R R2:TypeId}{s:Bool}{B:Option Addr}{m d:Nat}{z:Int}(p:Wn w s B m d z)(X:Bo w g old R)(Y:Bo w h old2 R2)(hn:old.all no32=true)(hn2:old2.all no32=true)(O:Duo g h w w'):Wn w' s B m d z:=by
 obtain⟨⟨b,q⟩,e⟩:=p
 refine⟨⟨b,q.keep fun hm=>O.block b (q.lt hm) (fun e=>?_) (fun e=>?_)⟩,e⟩
 ·obtain⟨o,_,a⟩:=q.at hm
  have:=a 0 hm
  rw[e]at this;exact X.no hn this
 ·obtain⟨o,_,a⟩:=q.at hm
  have:=a 0 hm
  rw[e]at this;exact Y.no hn2 this
end
theorem Dm{p:Int}{k:Nat}{T:Int}(hp:0 < p)(hT:SC.fdiv (p*(2*(k:Int)+1))=T)(hn:T≠0):p<=SC:=by
 have hd:0 < p*(2*(k:Int)+1):=Int.mul_pos hp (by omega)
 rw[Int.fdiv_eq_ediv_of_nonneg _ (by omega)]at hT
 have a:p*(2*(k:Int)+1)<=SC:=by
  rcases Int.lt_or_le SC (p*(2*(k:Int)+1))with c | c
  ·exact absurd ((Int.ediv_eq_zero_of_lt (by decide) c).symm.trans hT).symm hn
  ·exact c
 exact Int.le_trans (by
  have:p*1<=p*(2*(k:Int)+1):=Int.mul_le_mul_of_nonneg_left (by omega) (by omega)
  omega) a
theorem Dl{p T:Int}{k:Nat}(hp:0 < p)(hT:SC.fdiv (p*(2*(k:Int)+1))=T):0<=T/\T<=SC:=by
 have hd:0 < p*(2*(k:Int)+1):=Int.mul_pos hp (by omega)
 rw[Int.fdiv_eq_ediv_of_nonneg _ (by omega)]at hT;rw[<-hT];exact⟨Int.ediv_nonneg (by decide) (by omega),Int.ediv_le_self _ (by decide)⟩
theorem zt{p n:Int}(hp:0 < p)(h:p<=SC*1000000)(h1:2<=n)(h2:n<=1000):0 < p*(n*n)/\p*(n*n)<=SC*1000000*1000000:=by
 have a:0 < n*n:=Int.mul_pos (by omega) (by omega)
 have b:n*n<=1000*1000:=Int.mul_le_mul h2 h2 (by omega) (by decide)
 exact⟨Int.mul_pos hp a,Int.mul_le_mul h (by omega) (by omega) (by decide)⟩
theorem FB{T:Int}(h:0<=T/\T<=SC):T.natAbs < 4294967296^8:=by
 have a:T<=6277101735386680763835789423207666416102355444464034512896:=h.2
 have b:=h.1
 omega
theorem De{p:Int}(h:0 < p/\p<=SC*1000000*1000000):p.natAbs < 4294967296^10:=by
 have a:p<=6277101735386680763835789423207666416102355444464034512896*1000000*1000000:=h.2
 have b:=h.1
 omega
end Go.Proofs.YteigedaefgmojaaGreatDoor
namespace Go.Proofs.YteigedaefgmojaaGreatDoor
open Go.Proofs.Tryz
open Go.RowKit
set_option linter.unusedVariables false
set_option linter.unusedSimpArgs false
set_option maxRecDepth 100000
set_option maxHeartbeats 2000000 in
theorem m8{w:World}{e:Bool}{D M E D' M' E':Int}{s s':Bool}{x:Sp}{r:Int}(hT:Tb w)(hM:LQ M)(hM':LQ M')(hx:fG e D s M E D' s' M' E'=x)(hr:eY x=r):Calls prog 20 #[VI e D s M E D' s' M' E'] w (PN w r):=by
 delta VI
 have p:=ie hx;clear hx
 go_enter func20,ntmps20
 go_upto_region 1 with fail
 generalize j:(w.alloc _).alloc _=w1 at *;obtain⟨f,a,d⟩:=Bo.en2 j;replace hT:=hT.below d.out;clear j;have c:=f.cell
 go_wp2_with fail
 refine(rA hM hM' p.out).mono ?_;rintro t I ⟨e1,P,s1,Q,O,F,H,G,A,rfl,v,B⟩;clear c;refine dk ?_ f a hT d B;clear f a hT d B;intro f a hT d;have c:=f.cell;have l:=f.frozen
 go_upto_region 2 with fail
 clear c l;generalize u:((((((((I.setCell _ _).setCell _ _).setCell _ _).setCell _ _).setCell _ _).setCell _ _).setCell _ _).setCell _ _).setCell _ _=R at *;have g:=ae.of9 f u;replace a:=a.s g;replace hT:=hT.s g;replace d:=aP d g (by omega);replace f:=g.box;clear g u
 clear p hM hM'
 rcases x with _ | ⟨L,N⟩
 ·obtain⟨rfl,z,k⟩:=v
  obtain rfl:0=r:=hr
  have c:=f.cell
  go_wp2_with fail
  refine(Gm hT k.top z.top k.rk (y:=0) (by rw[z.rk];rfl) (r:=0) (gK true (by omega) (by omega))).mono ?_;rintro t J ⟨K2,s2,M2,E2,rfl,o,B⟩;clear c;refine dk ?_ f a hT d B;clear f a hT d B;intro f a hT d;have i:=a.cell;have h:=a.frozen
  go_wp2;clear i h;have g:=ae.t4 a K2 s2 M2 E2;exact bq (by simp[results,results20,go_sem,g.box.cell]) rfl ⟨_,_,_,_,rfl,o,(g.below d.out (by omega))⟩
 ·obtain⟨rfl,a1,q,o1,n,m⟩:=v
  have C:=ie (show dj true N (-L)=r from hr)
  clear hr o1 n m;have c:=f.cell
  go_wp2_with fail
  refine(Gm hT q.top a1.top q.rk (by rw[a1.rk]) C.out).mono ?_;rintro t J ⟨K2,s2,M2,E2,rfl,o,B⟩;clear c;replace a:=a.b B;replace d:=aj d B;clear B;have i:=a.cell;have h:=a.frozen;go_wp2;clear i h;have g:=ae.t4 a K2 s2 M2 E2
  exact bq (by simp[results,results20,go_sem,g.box.cell]) rfl ⟨_,_,_,_,rfl,o,(g.below d.out (by omega))⟩
