/-
 Contracts that the proof rests on.
-/
import Derived.Test.YtomikokonmikgaaGreatDoorYBan
namespace Go.Proofs.YtomikokonmikgaaGreatDoor.Jo
open Go Go.RowKit
set_option linter.unusedVariables false
structure TFact (old:Array Value) (R:TypeId) where
 P:Value->World->Prop
 keep:∀v w w',P v w->Below w.heap.size w w'->P v w'
 stn:∀v w w' g cs,P v w->StN w w' g old cs R->P v w'
section
variable {old:Array Value} {R:TypeId}
def TFact.any:TFact old R:=⟨fun _ _=>True,fun _ _ _ h _=>h,fun _ _ _ _ _ h _=>h⟩
def TFact.eq (u:Value):TFact old R:=⟨fun v _=>v=u,fun _ _ _ h _=>h,fun _ _ _ _ _ h _=>h⟩
def phiT (F:List (TFact old R))(j:Nat)(v:Value)(w:World):Prop:=(F.getD j TFact.any).P v w
end
def Trip{old:Array Value}{R:TypeId}(w1:World)(F:List (TFact old R))(p q s e s2 e2:Nat)(l:List Nat)(vs:Nat->Value)(w:World):Prop:=
 Below w1.heap.size w1 w/\(∀j ∈ l,phiT F j (vs j) w)/\(s ∈ l->p ∈ l/\q ∈ l/\e ∈ l)/\(s2 ∈ l->p ∈ l/\q ∈ l/\e2 ∈ l)/\
  (p ∈ l->∃g,vs p= .pointer (some ⟨g,0,none⟩)/\w1.heap.size<=g/\(s ∉ l->Bo w g old R)/\(s ∈ l->∃cs,vs e= .agg cs/\Bo w g cs R))/\
  (q ∈ l->∃g,vs q= .pointer (some ⟨g,0,none⟩)/\w1.heap.size<=g/\(s2 ∉ l->Bo w g old R)/\(s2 ∈ l->∃cs,vs e2= .agg cs/\Bo w g cs R))/\(p ∈ l->q ∈ l->vs p≠vs q)
section
variable {old:Array Value} {R:TypeId} {w1 w w':World} {F:List (TFact old R)} {p q s e s2 e2 i:Nat} {l:List Nat} {vs:Nat->Value} {v:Value} {cs:Array Value}
theorem Trip.nil:Trip w1 F p q s e s2 e2 [] (fun _=>undef) w1.drew:=⟨(br _ _).drew,by simp,by simp,by simp,by simp,by simp,by simp⟩
theorem Trip.facts (h:∀j ∈ l,phiT F j (vs j) w')(hv:phiT F i v w'):∀j ∈ l ++[i],phiT F j (upd vs i v j) w':=by
 intro j hj
 by_cases c:j=i
 ·subst c;rw[upd_same];exact hv
 ·rw[upd_ne c];exact h j ((mem_snoc c).1 hj)
theorem Trip.grow (h:∀j ∈ l,phiT F j (vs j) w)(hg:Below w.heap.size w w'):∀j ∈ l,phiT F j (vs j) w':=fun j hj=>(F.getD j TFact.any).keep _ _ _ (h j hj) hg
theorem Trip.step (h:Trip w1 F p q s e s2 e2 l vs w)(hn:i ∉ l)(hp:p≠i)(hq:q≠i)(hs:s≠i)(hs2:s2≠i)(hv:phiT F i v w')(hg:Below w.heap.size w w'):Trip w1 F p q s e s2 e2 (l ++[i]) (upd vs i v) w':=by
 obtain⟨h1,h2,h3,h3',h4,h5,h6⟩:=h
 refine⟨bt h1 hg,Trip.facts (Trip.grow h2 hg) hv,fun c=>?_,fun c=>?_,fun c=>?_,fun c=>?_,fun a b=>?_⟩
 ·obtain⟨a,b,d⟩:=h3 ((mem_snoc hs).1 c);exact⟨List.mem_append_left _ a,List.mem_append_left _ b,List.mem_append_left _ d⟩
 ·obtain⟨a,b,d⟩:=h3' ((mem_snoc hs2).1 c);exact⟨List.mem_append_left _ a,List.mem_append_left _ b,List.mem_append_left _ d⟩
 ·obtain⟨g,e1,e3,e4,e5⟩:=h4 ((mem_snoc hp).1 c);rw[upd_ne hp]
  refine⟨g,e1,e3,fun c=>(e4 (fun d=>c ((mem_snoc hs).2 d))).below hg,fun c=>?_⟩
  have sl:=(mem_snoc hs).1 c;obtain⟨cs,e6,e7⟩:=e5 sl
  exact⟨cs,by rw[upd_ne (show e≠i from fun d=>hn (d▸(h3 sl).2.2))];exact e6,e7.below hg⟩
 ·obtain⟨g,e1,e3,e4,e5⟩:=h5 ((mem_snoc hq).1 c);rw[upd_ne hq]
  refine⟨g,e1,e3,fun c=>(e4 (fun d=>c ((mem_snoc hs2).2 d))).below hg,fun c=>?_⟩
  have sl:=(mem_snoc hs2).1 c;obtain⟨cs,e6,e7⟩:=e5 sl
  exact⟨cs,by rw[upd_ne (show e2≠i from fun d=>hn (d▸(h3' sl).2.2))];exact e6,e7.below hg⟩
 ·rw[upd_ne hp,upd_ne hq];exact h6 ((mem_snoc hp).1 a) ((mem_snoc hq).1 b)
theorem Trip.newp (h:Trip w1 F p q s e s2 e2 l vs w)(hn:p ∉ l)(hpq:p≠q)(hs:s≠p)(hs2:s2≠p)(hf:∀v u,phiT F p v u):
  Trip w1 F p q s e s2 e2 (l ++[p]) (upd vs p (.pointer (some ⟨w.heap.size,0,none⟩))) (w.alloc (.cells old R)):=by
 obtain⟨h1,h2,h3,h3',h4,h5,h6⟩:=h;have b:=bel1 w (.cells old R)
 have ns:s ∉ l:=fun c=>hn (h3 c).1
 have ns':s ∉ l ++[p]:=fun c=>ns ((mem_snoc hs).1 c)
 have ms:s2 ∉ l:=fun c=>hn (h3' c).1
 have ms':s2 ∉ l ++[p]:=fun c=>ms ((mem_snoc hs2).1 c)
 refine⟨bt h1 b,Trip.facts (Trip.grow h2 b) (hf _ _),fun c=>absurd c ns',fun c=>absurd c ms',fun _=>⟨_,upd_same _ _ _,h1.size,fun _=>Bo.new _ _ _,fun c=>absurd c ns'⟩,fun c=>?_,fun _ c=>?_⟩
 ·obtain⟨g,e1,e3,e4,_⟩:=h5 ((mem_snoc (Ne.symm hpq)).1 c);rw[upd_ne (Ne.symm hpq)]
  exact⟨g,e1,e3,fun _=>(e4 ms).below b,fun c=>absurd c ms'⟩
 ·obtain⟨g,e1,e3,e4,_⟩:=h5 ((mem_snoc (Ne.symm hpq)).1 c);rw[upd_same,upd_ne (Ne.symm hpq),e1];exact far (e4 ms).lt
theorem Trip.newq (h:Trip w1 F p q s e s2 e2 l vs w)(hn:q ∉ l)(hpq:p≠q)(hs:s≠q)(hs2:s2≠q)(hf:∀v u,phiT F q v u):
  Trip w1 F p q s e s2 e2 (l ++[q]) (upd vs q (.pointer (some ⟨w.heap.size,0,none⟩))) (w.alloc (.cells old R)):=by
 obtain⟨h1,h2,h3,h3',h4,h5,h6⟩:=h;have b:=bel1 w (.cells old R)
 have ns:s ∉ l:=fun c=>hn (h3 c).2.1
 have ns':s ∉ l ++[q]:=fun c=>ns ((mem_snoc hs).1 c)
 have ms:s2 ∉ l:=fun c=>hn (h3' c).2.1
 have ms':s2 ∉ l ++[q]:=fun c=>ms ((mem_snoc hs2).1 c)
 refine⟨bt h1 b,Trip.facts (Trip.grow h2 b) (hf _ _),fun c=>absurd c ns',fun c=>absurd c ms',fun c=>?_,fun _=>⟨_,upd_same _ _ _,h1.size,fun _=>Bo.new _ _ _,fun c=>absurd c ms'⟩,fun c _=>?_⟩
 ·obtain⟨g,e1,e3,e4,_⟩:=h4 ((mem_snoc hpq).1 c);rw[upd_ne hpq]
  exact⟨g,e1,e3,fun _=>(e4 ns).below b,fun c=>absurd c ns'⟩
 ·obtain⟨g,e1,e3,e4,_⟩:=h4 ((mem_snoc hpq).1 c);rw[upd_same,upd_ne hpq,e1]
  exact fun c=>far (e4 ns).lt c.symm
theorem one_or{P Q:Prop}{g:Nat}{cs':Array Value}{va:Value}(h1:P->Bo w g old R)(h2:Q->∃cs,va= .agg cs/\Bo w g cs R){g':Nat}(S:StN w w' g' old cs' R)(hne:g≠g'):(P->Bo w' g old R)/\(Q->∃cs,va= .agg cs/\Bo w' g cs R):=
 ⟨fun c=>(h1 c).stn S hne,fun c=>by obtain⟨cs,a,b⟩:=h2 c;exact⟨cs,a,b.stn S hne⟩⟩
theorem Trip.sto{g:Nat}(h:Trip w1 F p q s e s2 e2 l vs w)(hn:s ∉ l)(h22:s2≠s)(mp:p ∈ l)(mq:q ∈ l)(me:e ∈ l)(hf:∀v u,phiT F s v u)(hg:vs p= .pointer (some ⟨g,0,none⟩))(he:vs e= .agg cs)(S:StN w w' g old cs R):
  Trip w1 F p q s e s2 e2 (l ++[s]) (upd vs s v) w':=by
 obtain⟨h1,h2,h3,h3',h4,h5,h6⟩:=h
 have ms:s ∈ l ++[s]:=by simp
 have ps:p≠s:=fun c=>hn (c▸mp)
 have qs:q≠s:=fun c=>hn (c▸mq)
 have es:e≠s:=fun c=>hn (c▸me)
 obtain⟨g1,e1,hb1,_,_⟩:=h4 mp
 obtain rfl:g1=g:=by
  rw[e1]at hg
  injection hg with c
  injection c with c
  injection c
 obtain⟨g2,e3,hb2,X2,X3⟩:=h5 mq
 have hne:g2≠g1:=fun c=>h6 mp mq (by rw[e1,e3,c])
 obtain⟨Y2,Y3⟩:=one_or X2 X3 S hne
 refine⟨S.below h1 hb1,Trip.facts (fun j hj=>(F.getD j TFact.any).stn _ _ _ _ _ (h2 j hj) S) (hf _ _),fun _=>⟨List.mem_append_left _ mp,List.mem_append_left _ mq,List.mem_append_left _ me⟩,fun c=>?_,fun _=>?_,fun _=>?_,fun _ _=>?_⟩
 ·obtain⟨a,b,d⟩:=h3' ((mem_snoc h22).1 c);exact⟨List.mem_append_left _ a,List.mem_append_left _ b,List.mem_append_left _ d⟩
 ·rw[upd_ne ps,upd_ne es]
  exact⟨g1,e1,hb1,fun c=>absurd ms c,fun _=>⟨cs,he,S.box⟩⟩
 ·rw[upd_ne qs]
  refine⟨g2,e3,hb2,fun c=>Y2 (fun d=>c ((mem_snoc h22).2 d)),fun c=>?_⟩
  have sl:=(mem_snoc h22).1 c
  rw[upd_ne (show e2≠s from fun d=>hn (d▸(h3' sl).2.2))]
  exact Y3 sl
 ·rw[upd_ne ps,upd_ne qs];exact h6 mp mq
theorem Trip.all (h:Trip w1 F p q s e s2 e2 l vs w)(mp:p ∈ l)(mq:q ∈ l)(ms:s ∈ l)(m2:s2 ∉ l):∃g g' cs,vs p= .pointer (some ⟨g,0,none⟩)/\vs q= .pointer (some ⟨g',0,none⟩)/\w1.heap.size<=g/\w1.heap.size<=g'/\g≠g'/\vs e= .agg cs/\Bo w g cs R/\Bo w g' old R:=by
 obtain⟨h1,h2,h3,h3',h4,h5,h6⟩:=h;obtain⟨g,e1,e3,_,e4⟩:=h4 mp;obtain⟨cs,e5,e6⟩:=e4 ms;obtain⟨g',f1,f2,f3,_⟩:=h5 mq
 exact⟨g,g',cs,e1,f1,e3,f2,fun c=>h6 mp mq (by rw[e1,f1,c]),e5,e6,f3 m2⟩
end
section
variable {P:Program} {ops:Array Oper} {Q:Exit->Act->World->Prop} {a0:Act} {T:List Nat} {ds:List (Option Tmp)} {ls:List (List Nat)} {k:Nat} {old:Array Value} {R:TypeId} {F:List (TFact old R)} {w1:World} {p q s e s2 e2:Nat}
theorem xcons{i:Nat}{o:Oper}{r:List Nat}{di:Option Tmp}{L:List (Option Tmp × Nat)}{f:TFact old R}(hp:p≠i)(hq:q≠i)(hs':s≠i)(hs2:s2≠i)(ho:ops[i]?=some o)(hdi:ds.getD i none=di)(hL:((ls.getD i []).map fun j=>(ds.getD j none,j))=L)(hf:F.getD i TFact.any=f)
  (h:∀vs w,Below w1.heap.size w1 w->(∀j ∈ ls.getD i [],phiT F j (vs j) w)->∀K:Act->World->Prop,Shut (∀v w',f.P v w'->Grow w w'->K ((putl vs L a0).put di v) w')->
   if Region.wanted o (yielded ops (putl vs L a0).tmps)=true then Oper.wp P o (putl vs L a0) w K Q else K ((putl vs L a0).put o.dst undef) w)
  (hs:StepsI P ops Q a0 (dstOf ds) (depOf ls) (Trip w1 F p q s e s2 e2) r):StepsI P ops Q a0 (dstOf ds) (depOf ls) (Trip w1 F p q s e s2 e2) (i::r):=by
 refine icons ho hdi hL (fun l vs w hI hn hd K hK=>h vs w hI.1 (fun j hj=>hI.2.1 j (hd j hj)) K ?_) hs
 intro v w' h1 h2
 exact hK.out v w' (hI.step hn hp hq hs' hs2 (by unfold phiT;rw[hf];exact h1) h2)
theorem xnew{i:Nat}{o:Oper}{r:List Nat}{di:Option Tmp}{L:List (Option Tmp × Nat)}(hpq:p≠q)(hi:i=p\/i=q)(hsp:s≠p/\s2≠p)(hsq:s≠q/\s2≠q)(hf:F.getD i TFact.any=TFact.any)(ho:ops[i]?=some o)(hdi:ds.getD i none=di)(hL:((ls.getD i []).map fun j=>(ds.getD j none,j))=L)
  (h:∀vs w,∀K:Act->World->Prop,Shut (K ((putl vs L a0).put di (.pointer (some ⟨w.heap.size,0,none⟩))) (w.alloc (.cells old R)))->
   if Region.wanted o (yielded ops (putl vs L a0).tmps)=true then Oper.wp P o (putl vs L a0) w K Q else K ((putl vs L a0).put o.dst undef) w)
  (hs:StepsI P ops Q a0 (dstOf ds) (depOf ls) (Trip w1 F p q s e s2 e2) r):StepsI P ops Q a0 (dstOf ds) (depOf ls) (Trip w1 F p q s e s2 e2) (i::r):=by
 refine icons ho hdi hL (fun l vs w hI hn hd K hK=>h vs w K ?_) hs
 have fa:∀v u,phiT F i v u:=fun v u=>by unfold phiT;rw[hf];trivial
 rcases hi with rfl | rfl
 ·exact hK.out _ _ (hI.newp hn hpq hsp.1 hsp.2 fa)
 ·exact hK.out _ _ (hI.newq hn hpq hsq.1 hsq.2 fa)
theorem xsto{o:Oper}{r:List Nat}{di:Option Tmp}{L:List (Option Tmp × Nat)}(h22:s2≠s)(hp:p ∈ ls.getD s [])(hq:q ∈ ls.getD s [])(he:e ∈ ls.getD s [])(hf:F.getD s TFact.any=TFact.any)(ho:ops[s]?=some o)(hdi:ds.getD s none=di)(hL:((ls.getD s []).map fun j=>(ds.getD j none,j))=L)
  (h:∀vs w,Below w1.heap.size w1 w->(∀j ∈ ls.getD s [],phiT F j (vs j) w)->∀g,vs p= .pointer (some ⟨g,0,none⟩)->Bo w g old R->∀K:Act->World->Prop,Shut (∀v w' cs,vs e= .agg cs->StN w w' g old cs R->K ((putl vs L a0).put di v) w')->
   if Region.wanted o (yielded ops (putl vs L a0).tmps)=true then Oper.wp P o (putl vs L a0) w K Q else K ((putl vs L a0).put o.dst undef) w)
  (hs:StepsI P ops Q a0 (dstOf ds) (depOf ls) (Trip w1 F p q s e s2 e2) r):StepsI P ops Q a0 (dstOf ds) (depOf ls) (Trip w1 F p q s e s2 e2) (s::r):=by
 refine icons ho hdi hL (fun l vs w hI hn hd K hK=>?_) hs
 obtain⟨g,e1,_,X,_⟩:=hI.2.2.2.2.1 (hd p hp)
 refine h vs w hI.1 (fun j hj=>hI.2.1 j (hd j hj)) g e1 (X hn) K ?_
 intro v w' cs h1 h2
 exact hK.out v w' (hI.sto hn h22 (hd p hp) (hd q hq) (hd e he) (fun v u=>by unfold phiT;rw[hf];trivial) e1 h1 h2)
theorem region_trip{id fuel:Nat}{L:List (Option Tmp × Nat)}(hp:p ∈ T)(hq:q ∈ T)(hs:s ∈ T)(hs2:s2 ∉ T)(hm:P.follows .mixedOrders=true)(hok:ok .any ops T (dstOf ds) (depOf ls) k a0.tmps.size=true)(hnd:T.Nodup)
  (hL:(T.map fun j=>(ds.getD j none,j))=L) (hfu:ops.size-T.length=fuel)
  (step:StepsI P ops (NoPanic Q) a0 (dstOf ds) (depOf ls) (Trip w1 F p q s e s2 e2) T)
  (fin:∀vs wj,Below w1.heap.size w1 wj->(∀j ∈ T,phiT F j (vs j) wj)->(∃g g' cs,vs p= .pointer (some ⟨g,0,none⟩)/\vs q= .pointer (some ⟨g',0,none⟩)/\w1.heap.size<=g/\w1.heap.size<=g'/\g≠g'/\vs e= .agg cs/\Bo wj g cs R/\Bo wj g' old R)->
   wpAny P .any ops (NoPanic Q) fuel (mark T ops.size) (putl vs L a0) wj):
  (Code.region id ops true).wp P Q a0 w1:=
 region_inv (T:=T) (ds:=ds) (ls:=ls) (k:=k) (I:=Trip w1 F p q s e s2 e2) hm hok hnd hL hfu Trip.nil step (fun l vs wj hl hI=>fin vs wj hI.1 (fun j hj=>hI.2.1 j ((hl j).2 hj)) (hI.all ((hl p).2 hp) ((hl q).2 hq) ((hl s).2 hs) (fun c=>hs2 ((hl s2).1 c))))
end
def Lone{old:Array Value}{R:TypeId}(w1:World)(F:List (TFact old R))(g s e:Nat)(l:List Nat)(vs:Nat->Value)(w:World):Prop:=
 ∃nw,Off g nw R w1 w/\(∀j ∈ l,phiT F j (vs j) w)/\(s ∉ l->Bo w g old R)/\(s ∈ l->e ∈ l/\vs e= .agg nw/\Bo w g nw R)
section
variable {old:Array Value} {R:TypeId} {w1 w w':World} {F:List (TFact old R)} {g s e i:Nat} {l:List Nat} {vs:Nat->Value} {v:Value} {cs:Array Value}
theorem Lone.nil (X:Bo w1 g old R):Lone w1 F g s e [] (fun _=>undef) w1.drew:=⟨old,Off.drew w1,by simp,fun _=>X.keep rfl,by simp⟩
theorem Lone.lt (h:Lone w1 F g s e l vs w):g < w.heap.size:=by
 obtain⟨nw,h1,h2,h3,h4⟩:=h
 by_cases c:s ∈ l
 ·exact(h4 c).2.2.lt
 ·exact(h3 c).lt
theorem Lone.step (h:Lone w1 F g s e l vs w)(hn:i ∉ l)(hs:s≠i)(hv:phiT F i v w')(hg:Below w.heap.size w w'):Lone w1 F g s e (l ++[i]) (upd vs i v) w':=by
 have hlt:=h.lt;obtain⟨nw,h1,h2,h3,h4⟩:=h
 refine⟨nw,h1.trans (Off.of_below hg hlt),Trip.facts (Trip.grow h2 hg) hv,fun c=>(h3 (fun d=>c ((mem_snoc hs).2 d))).below hg,fun c=>?_⟩
 obtain⟨a,b,d⟩:=h4 ((mem_snoc hs).1 c)
 exact⟨List.mem_append_left _ a,by rw[upd_ne (show e≠i from fun x=>hn (x▸a))];exact b,d.below hg⟩
theorem Lone.sto (h:Lone w1 F g s e l vs w)(hn:s ∉ l)(me:e ∈ l)(hf:∀v u,phiT F s v u)(he:vs e= .agg cs)(S:StN w w' g old cs R):Lone w1 F g s e (l ++[s]) (upd vs s v) w':=by
 obtain⟨nw,h1,h2,h3,h4⟩:=h
 have O:Off g cs R w w':=Off.of_stn S
 refine⟨cs,⟨O.os.trans h1.os,O.tape.trans h1.tape,O.output.trans h1.output,Nat.le_trans h1.size O.size,fun k hk hne=>(O.block k (Nat.lt_of_lt_of_le hk h1.size) hne).trans (h1.block k hk hne),.inr S.box⟩,Trip.facts (fun j hj=>(F.getD j TFact.any).stn _ _ _ _ _ (h2 j hj) S) (hf _ _),fun c=>absurd (by simp) c,fun _=>⟨List.mem_append_left _ me,?_,S.box⟩⟩
 rw[upd_ne (show e≠s from fun c=>hn (c▸me))]
 exact he
end
section
variable {P:Program} {ops:Array Oper} {Q:Exit->Act->World->Prop} {a0:Act} {T:List Nat} {ds:List (Option Tmp)} {ls:List (List Nat)} {k:Nat} {old:Array Value} {R:TypeId} {F:List (TFact old R)} {w1:World} {g s e:Nat}
theorem ocons{i:Nat}{o:Oper}{r:List Nat}{di:Option Tmp}{L:List (Option Tmp × Nat)}{f:TFact old R}(hs':s≠i)(ho:ops[i]?=some o)(hdi:ds.getD i none=di)(hL:((ls.getD i []).map fun j=>(ds.getD j none,j))=L)(hf:F.getD i TFact.any=f)
  (h:∀vs w nw,Off g nw R w1 w->(∀j ∈ ls.getD i [],phiT F j (vs j) w)->∀K:Act->World->Prop,Shut (∀v w',f.P v w'->Grow w w'->K ((putl vs L a0).put di v) w')->
   if Region.wanted o (yielded ops (putl vs L a0).tmps)=true then Oper.wp P o (putl vs L a0) w K Q else K ((putl vs L a0).put o.dst undef) w)
  (hs:StepsI P ops Q a0 (dstOf ds) (depOf ls) (Lone w1 F g s e) r):StepsI P ops Q a0 (dstOf ds) (depOf ls) (Lone w1 F g s e) (i::r):=by
 refine icons ho hdi hL (fun l vs w hI hn hd K hK=>?_) hs
 obtain⟨nw,h1,h2,h3,h4⟩:=hI
 refine h vs w nw h1 (fun j hj=>h2 j (hd j hj)) K ?_
 intro v w' e1 e2
 exact hK.out v w' (Lone.step ⟨nw,h1,h2,h3,h4⟩ hn hs' (by unfold phiT;rw[hf];exact e1) e2)
theorem osto{o:Oper}{r:List Nat}{di:Option Tmp}{L:List (Option Tmp × Nat)}(he:e ∈ ls.getD s [])(hf:F.getD s TFact.any=TFact.any)(ho:ops[s]?=some o)(hdi:ds.getD s none=di)(hL:((ls.getD s []).map fun j=>(ds.getD j none,j))=L)
  (h:∀vs w,(∀j ∈ ls.getD s [],phiT F j (vs j) w)->Bo w g old R->∀K:Act->World->Prop,Shut (∀v w' cs,vs e= .agg cs->StN w w' g old cs R->K ((putl vs L a0).put di v) w')->
   if Region.wanted o (yielded ops (putl vs L a0).tmps)=true then Oper.wp P o (putl vs L a0) w K Q else K ((putl vs L a0).put o.dst undef) w)
  (hs:StepsI P ops Q a0 (dstOf ds) (depOf ls) (Lone w1 F g s e) r):StepsI P ops Q a0 (dstOf ds) (depOf ls) (Lone w1 F g s e) (s::r):=by
 refine icons ho hdi hL (fun l vs w hI hn hd K hK=>?_) hs
 obtain⟨nw,h1,h2,h3,h4⟩:=hI
 refine h vs w (fun j hj=>h2 j (hd j hj)) (h3 hn) K ?_
 intro v w' cs e1 e2
 exact hK.out v w' (Lone.sto ⟨nw,h1,h2,h3,h4⟩ hn (hd e he) (fun v u=>by unfold phiT;rw[hf];trivial) e1 e2)
theorem region_lone{id fuel:Nat}{L:List (Option Tmp × Nat)}(X:Bo w1 g old R)(hs:s ∈ T)(hm:P.follows .mixedOrders=true)(hok:ok .any ops T (dstOf ds) (depOf ls) k a0.tmps.size=true)(hnd:T.Nodup)
  (hL:(T.map fun j=>(ds.getD j none,j))=L) (hfu:ops.size-T.length=fuel)
  (step:StepsI P ops (NoPanic Q) a0 (dstOf ds) (depOf ls) (Lone w1 F g s e) T)
  (fin:∀vs wj cs,Off g cs R w1 wj->(∀j ∈ T,phiT F j (vs j) wj)->vs e= .agg cs->Bo wj g cs R->
   wpAny P .any ops (NoPanic Q) fuel (mark T ops.size) (putl vs L a0) wj):
  (Code.region id ops true).wp P Q a0 w1:=
 region_inv (T:=T) (ds:=ds) (ls:=ls) (k:=k) (I:=Lone w1 F g s e) hm hok hnd hL hfu (Lone.nil X) step (fun l vs wj hl hI=>by
  obtain⟨nw,h1,h2,h3,h4⟩:=hI;obtain⟨_,a,b⟩:=h4 ((hl s).2 hs)
  exact fin vs wj nw h1 (fun j hj=>h2 j ((hl j).2 hj)) a b)
