/-
 Contracts that the proof rests on.
-/
namespace Go.Proofs.YteigedaefgmojaaGreatDoor
set_option linter.unusedVariables false
def af:List Nat->Nat
 | []=>0
 | x::xs=>x+4294967296*af xs
def aR (xs:List Nat):Prop:=∀x ∈ xs,x < 4294967296
def ag (n:Nat):List Nat:=if _h:n=0 then []else n%4294967296::ag (n/4294967296)
 termination_by n
 decreasing_by omega
theorem ay:ag 0=[]:=by rw[ag];simp
theorem dq{n:Nat}(h:n≠0):ag n=n%4294967296::ag (n/4294967296):=by rw[ag];simp[h]
theorem aR.nil:aR []:=fun _ h=>absurd h (by simp)
theorem aR.cons{x:Nat}{xs:List Nat}(hx:x < 4294967296)(h:aR xs):aR (x::xs):=fun y hy=>by
 rcases List.mem_cons.1 hy with rfl | hy
 ·exact hx
 ·exact h y hy
theorem aR.head{x:Nat}{xs:List Nat}(h:aR (x::xs)):x < 4294967296:=h x (by simp)
theorem aR.tail{x:Nat}{xs:List Nat}(h:aR (x::xs)):aR xs:=fun y hy=>h y (by simp[hy])
theorem aR.append{xs ys:List Nat}(h:aR xs)(k:aR ys):aR (xs ++ys):=fun y hy=>by
 rcases List.mem_append.1 hy with hy | hy
 ·exact h y hy
 ·exact k y hy
theorem aR.take{xs:List Nat}(h:aR xs)(n:Nat):aR (xs.take n):=fun y hy=>h y (List.mem_of_mem_take hy)
theorem aR.drop{xs:List Nat}(h:aR xs)(n:Nat):aR (xs.drop n):=fun y hy=>h y (List.mem_of_mem_drop hy)
theorem aR.set{xs:List Nat}(h:aR xs)(i:Nat){x:Nat}(hx:x < 4294967296):aR (xs.set i x):=fun y hy=>by
 rcases List.mem_or_eq_of_mem_set hy with hy | rfl
 ·exact h y hy
 ·exact hx
theorem aR.getD{xs:List Nat}(h:aR xs)(i:Nat):xs.getD i 0 < 4294967296:=by
 rw[List.getD_eq_getElem?_getD]
 rcases e:xs[i]? with _ | y
 ·simp
 ·exact h y (List.mem_of_getElem? e)
theorem aR.replicate (n:Nat):aR (List.replicate n 0):=fun y hy=>by rw[(List.mem_replicate.1 hy).2];decide
theorem dn (n:Nat):aR (ag n):=by
 induction n using Nat.strongRecOn with
 | ind n ih=>
  by_cases h:n=0
  ·subst h;rw[ay];exact aR.nil
  ·rw[dq h];exact aR.cons (Nat.mod_lt _ (by decide)) (ih _ (by omega))
theorem kj:af []=0:=rfl
theorem bZ (x:Nat)(xs:List Nat):af (x::xs)=x+4294967296*af xs:=rfl
theorem av (n:Nat):af (ag n)=n:=by
 induction n using Nat.strongRecOn with
 | ind n ih=>
  by_cases h:n=0
  ·subst h;rw[ay];rfl
  ·rw[dq h,bZ,ih _ (by omega)]
   omega
theorem dh (xs ys:List Nat):af (xs ++ys)=af xs+4294967296^xs.length*af ys:=by
 induction xs with
 | nil=>simp [af]
 | cons x xs ih=>
  rw[List.cons_append,bZ,ih,bZ,List.length_cons,Nat.pow_succ,Nat.mul_add,Nat.mul_comm (4294967296^xs.length) 4294967296,Nat.mul_assoc]
  omega
theorem da (xs:List Nat)(x:Nat):af (xs ++[x])=af xs+4294967296^xs.length*x:=by
 rw[dh];simp[af]
theorem aS{xs:List Nat}{k:Nat}(h:k < xs.length):af (xs.take (k+1))=af (xs.take k)+4294967296^k*xs.getD k 0:=by
 rw[List.take_succ_eq_append_getElem h,da,List.length_take,Nat.min_eq_left (by omega),List.getD_eq_getElem?_getD,List.getElem?_eq_getElem h]
 rfl
theorem ao (xs:List Nat){k:Nat}(h:k<=xs.length):af xs=af (xs.take k)+4294967296^k*af (xs.drop k):=by
 have:=dh (xs.take k) (xs.drop k)
 rw[List.take_append_drop,List.length_take,Nat.min_eq_left h]at this;exact this
theorem aO{xs:List Nat}{k:Nat}(h:k < xs.length):af (xs.drop k)=xs.getD k 0+4294967296*af (xs.drop (k+1)):=by
 rw[List.drop_eq_getElem_cons h,bZ,List.getD_eq_getElem?_getD,List.getElem?_eq_getElem h]
 rfl
theorem bi{xs:List Nat}(h:aR xs):af xs < 4294967296^xs.length:=by
 induction xs with
 | nil=>simp [af]
 | cons x xs ih=>
  have h1:=ih h.tail;have h2:=h.head;rw[bZ,List.length_cons,Nat.pow_succ]
  have:af xs+1<=4294967296^xs.length:=h1
  have:=Nat.mul_le_mul_right 4294967296 this
  rw[Nat.add_mul]at this
  omega
theorem fK (n:Nat):af (List.replicate n 0)=0:=by
 induction n with
 | zero=>rfl
 | succ n ih=>rw [List.replicate_succ,bZ,ih]
theorem mn:∀{xs:List Nat},aR xs->(∀h:xs≠[],xs.getLast h≠0)->ag (af xs)=xs
 | [],_,_=>ay
 | x::xs,hl,ht=>by
  have hx:=hl.head
  have h1:ag (af xs)=xs:=mn hl.tail fun h=>by
   have:=ht (by simp)
   rwa [List.getLast_cons h]at this
  have a:af (x::xs)≠0:=by
   intro d
   rw[bZ]at d
   have c:x=0:=by omega
   have b:af xs=0:=by omega
   rw[b,ay]at h1;subst h1;exact ht (by simp) (by simpa using c)
  rw[dq a,bZ,show (x+4294967296*af xs)%4294967296=x by omega,show (x+4294967296*af xs) /4294967296=af xs by omega,h1]
theorem az{n k:Nat}(h:n < 4294967296^k):(ag n).length<=k:=by
 induction k generalizing n with
 | zero=>simp at h;subst h;rw[ay];simp
 | succ k ih=>
  by_cases a:n=0
  ·subst a;rw[ay];simp
  ·rw[dq a,List.length_cons]
   have:n/4294967296 < 4294967296^k:=by
    rw[Nat.pow_succ,Nat.mul_comm]at h;exact Nat.div_lt_of_lt_mul h
   have:=ih this
   omega
theorem aB{a b:Nat}(h:a<=b):(ag a).length<=(ag b).length:=by
 apply az
 have:=bi (dn b)
 rw[av]at this
 omega
theorem m9{n:Nat}:ag n=[]↔n=0:=by
 constructor
 ·intro h
  rw[<-av n,h];rfl
 ·intro h;subst h;exact ay
theorem bh{n:Nat}:(ag n).length=0↔n=0:=by rw[List.length_eq_zero_iff,m9]
theorem aM{xs:List Nat}(h:aR xs):(ag (af xs)).length<=xs.length:=az (bi h)
theorem kH{n:Nat}(h:n≠0):(ag n).getD ((ag n).length-1) 0≠0:=by
 intro a
 have hl:(ag n).length≠0:=fun e=>h (bh.1 e)
 have h1:=aS (xs:=ag n) (k:=(ag n).length-1) (by omega)
 rw[a,show (ag n).length-1+1=(ag n).length by omega,List.take_length,av]at h1
 have h2:=bi ((dn n).take ((ag n).length-1));rw[List.length_take,Nat.min_eq_left (by omega)]at h2;have b:=az (n:=n) (k:=(ag n).length-1) (by omega)
 omega
theorem dF{xs:List Nat}{k:Nat}(hl:aR xs)(hk:k<=xs.length)(h0:af (xs.drop k)=0)(hn:0 < k->xs.getD (k-1) 0≠0):xs.take k=ag (af xs):=by
 have h1:af xs=af (xs.take k):=by rw[ao xs hk,h0];simp
 rw[h1,mn (hl.take k)]
 intro h
 have a:0 < k:=by
  rcases Nat.eq_zero_or_pos k with e | e
  ·subst e;simp at h
  ·exact e
 have:=hn a
 rw[List.getLast_eq_getElem];rw[List.getD_eq_getElem?_getD,List.getElem?_eq_getElem (by omega)]at this;simp only[Option.getD_some]at this;rw[List.getElem_take]
 have e:(xs.take k).length-1=k-1:=by rw[List.length_take,Nat.min_eq_left hk]
 simp only[e];exact this
theorem mb{xs:List Nat}{k i:Nat}(h:i < k):(xs.take k).getD i 0=xs.getD i 0:=by
 rw[List.getD_eq_getElem?_getD,List.getElem?_take,if_pos h,List.getD_eq_getElem?_getD]
theorem fE{xs:List Nat}{k i:Nat}:(xs.drop k).getD i 0=xs.getD (k+i) 0:=by
 rw[List.getD_eq_getElem?_getD,List.getElem?_drop,List.getD_eq_getElem?_getD]
theorem dB{xs:List Nat}(hl:aR xs):xs.take (ag (af xs)).length=ag (af xs):=by
 have a:=aM hl;have ht:=ao xs a
 have h2:af (xs.drop (ag (af xs)).length)=0:=by
  have:=bi (dn (af xs))
  rw[av]at this
  rcases Nat.eq_zero_or_pos (af (xs.drop (ag (af xs)).length))with e | e
  ·exact e
  ·have:=Nat.le_mul_of_pos_right (4294967296^(ag (af xs)).length) e
   omega
 have g:af (xs.take (ag (af xs)).length)=af xs:=by rw[h2]at ht;simpa using ht.symm
 apply dF hl a h2
 intro b d
 have f:af xs≠0:=fun e=>by rw[e,ay]at b;simp at b
 have c:=aS (xs:=xs) (k:=(ag (af xs)).length-1) (by omega)
 rw[d,show (ag (af xs)).length-1+1=(ag (af xs)).length by omega,g]at c
 have h4:=bi (hl.take ((ag (af xs)).length-1));rw[List.length_take,Nat.min_eq_left (by omega)]at h4;have h:=az (n:=af xs) (k:=(ag (af xs)).length-1) (by omega)
 omega
theorem gG{xs ys:List Nat}{i:Nat}(hl:aR xs)(hi:i < xs.length)(hj:i < ys.length)(ha:af (xs.drop (i+1))=af (ys.drop (i+1)))(h:xs.getD i 0 < ys.getD i 0):af xs < af ys:=by
 rw[ao xs (k:=i) (by omega),ao ys (k:=i) (by omega),aO hi,aO hj,ha];have h1:=bi (hl.take i);rw[List.length_take,Nat.min_eq_left (by omega)]at h1
 have h2:=Nat.mul_le_mul_left (4294967296^i) (show xs.getD i 0+4294967296*af (ys.drop (i+1))+1<=ys.getD i 0+4294967296*af (ys.drop (i+1)) by omega)
 rw[Nat.mul_add,Nat.mul_one]at h2
 omega
theorem gF{xs ys:List Nat}{n k:Nat}(h1:aR xs)(h2:aR ys)(l1:xs.length=n)(l2:ys.length=n)(hk:k < n)(hz:af (xs.drop (n-k))=af (ys.drop (n-k))):
  (xs.getD (n-1-k) 0 < ys.getD (n-1-k) 0->af xs < af ys)/\(ys.getD (n-1-k) 0 < xs.getD (n-1-k) 0->af ys < af xs)/\
   (xs.getD (n-1-k) 0=ys.getD (n-1-k) 0->af (xs.drop (n-1-k))=af (ys.drop (n-1-k))):=by
 have e:n-1-k+1=n-k:=by omega
 refine⟨fun h=>gG h1 (by omega) (by omega) (by rw[e];exact hz) h,fun h=>gG h2 (by omega) (by omega) (by rw[e];exact hz.symm) h,fun h=>?_⟩
 have a:=aO (xs:=xs) (k:=n-1-k) (by omega);have b:=aO (xs:=ys) (k:=n-1-k) (by omega);rw[e]at a b;rw[a,b,hz,h]
theorem bQ{a b:Nat}(h:(ag a).length < (ag b).length):a < b:=by
 rcases Nat.lt_or_ge a b with h1 | h1
 ·exact h1
 ·have:=aB h1
  omega
def fX (l:List Nat)(o:Nat)(zs:List Nat):List Nat:=l.take o ++zs ++l.drop (o+zs.length)
theorem nj (l:List Nat)(o:Nat):fX l o []=l:=by simp[fX]
theorem eO{l zs:List Nat}{o:Nat}(h:o+zs.length<=l.length):(fX l o zs).length=l.length:=by simp[fX];omega
theorem rG{l zs:List Nat}{o:Nat}(h:aR l)(k:aR zs):aR (fX l o zs):=((h.take o).append k).append (h.drop _)
theorem yz{l zs:List Nat}{o:Nat}(h:o+zs.length < l.length):(fX l o zs).getD (o+zs.length) 0=l.getD (o+zs.length) 0:=by
 have e:(l.take o ++zs).length=o+zs.length:=by simp;omega
 unfold fX
 rw[List.getD_eq_getElem?_getD,List.getElem?_append_right (by omega),e,Nat.sub_self,List.getElem?_drop,Nat.add_zero,List.getD_eq_getElem?_getD]
theorem rH{l zs:List Nat}{o x:Nat}(h:o+zs.length < l.length):(fX l o zs).set (o+zs.length) x=fX l o (zs ++[x]):=by
 have e:(l.take o ++zs).length=o+zs.length:=by simp;omega
 unfold fX
 rw[List.set_append_right _ _ (by omega),e,Nat.sub_self,List.drop_eq_getElem_cons h,List.set_cons_zero,List.length_append,List.length_singleton,Nat.add_assoc]
 simp
theorem oI{l zs:List Nat}{o:Nat}(h:o+zs.length<=l.length):(fX l o zs).take o=l.take o:=by
 have e:(l.take o).length=o:=by simp;omega
 unfold fX
 rw[List.append_assoc,List.take_append_of_le_length (by omega),List.take_of_length_le (by omega)]
theorem yy{l zs:List Nat}{o:Nat}(h:o+zs.length<=l.length):(fX l o zs).drop (o+zs.length)=l.drop (o+zs.length):=by
 have e:(l.take o ++zs).length=o+zs.length:=by simp;omega
 unfold fX
 rw[List.drop_append_of_le_length (by omega),List.drop_eq_nil_of_le (by omega),List.nil_append]
theorem Cx{l zs ys:List Nat}{o:Nat}(h:o+zs.length<=l.length)(hl:ys.length=zs.length):fX (fX l o zs) o ys=fX l o ys:=by
 have e1:=oI h;have e2:=yy h;rw[<-hl]at e2
 show (fX l o zs).take o ++ys ++(fX l o zs).drop (o+ys.length)=l.take o ++ys ++l.drop (o+ys.length)
 rw[e1,e2]
theorem Cy{l zs:List Nat}{o:Nat}(h:o+zs.length<=l.length):((fX l o zs).drop o).take zs.length=zs:=by
 have e:(l.take o).length=o:=by simp;omega
 unfold fX
 rw[List.append_assoc,List.drop_append,List.drop_eq_nil_of_le (by omega),e]
 simp
theorem aq{xs:List Nat}{k:Nat}(h:xs.length<=k):af (xs.take k)=af xs:=by rw[List.take_of_length_le h]
theorem bS{xs:List Nat}{k:Nat}(h:xs.length<=k):xs.getD k 0=0:=by rw[List.getD_eq_getElem?_getD,List.getElem?_eq_none h];rfl
theorem aL (xs:List Nat)(k:Nat):af (xs.take (k+1))=af (xs.take k)+4294967296^k*xs.getD k 0:=by
 rcases Nat.lt_or_ge k xs.length with h | h
 ·exact aS h
 ·rw[aq (by omega),aq h,bS h,Nat.mul_zero,Nat.add_zero]
theorem nW{p A Y v x y c:Nat}(h:v+c*p=A+Y):(v+p*((x+y+c)%4294967296))+(x+y+c) /4294967296*(p*4294967296)=(A+p*x)+(Y+p*y):=by
 have e:=Nat.mod_add_div (x+y+c) 4294967296
 have:p*((x+y+c)%4294967296)+(x+y+c) /4294967296*(p*4294967296)=p*(x+y+c):=by
  conv=>rhs;rw[<-e,Nat.mul_add]
  grind
 grind
theorem yG{p A Y v x y c f:Nat}(h:v+c*p=A+f*Y):(v+p*((y*f+x+c)%4294967296))+(y*f+x+c) /4294967296*(p*4294967296)=(A+p*x)+f*(Y+p*y):=by
 have e:=Nat.mod_add_div (y*f+x+c) 4294967296
 have:p*((y*f+x+c)%4294967296)+(y*f+x+c) /4294967296*(p*4294967296)=p*(y*f+x+c):=by
  conv=>rhs;rw[<-e,Nat.mul_add]
  grind
 grind
theorem mD (k:Nat):4294967296^k=2^(k*32):=by rw[show 4294967296=2^32 by decide,<-Nat.pow_mul,Nat.mul_comm]
def v2 (n:Nat):Nat:=if _h:n=0 then 0 else if n%2=1 then 0 else v2 (n/2)+1
 termination_by n
 decreasing_by omega
theorem nQ{n:Nat}(h:n%2=1):v2 n=0:=by rw[v2];simp[h]
theorem sv{n:Nat}(h0:n≠0)(h:n%2=0):v2 n=v2 (n/2)+1:=by rw[v2];simp[h0,h]
theorem eG (n:Nat)(h0:n≠0):n=n/2^v2 n*2^v2 n/\n/2^v2 n%2=1:=by
 induction n using Nat.strongRecOn with
 | ind n ih=>
  rcases Nat.mod_two_eq_zero_or_one n with h | h
  ·have h1:n/2≠0:=by omega
   obtain⟨e1,e2⟩:=ih (n/2) (by omega) h1;rw[sv h0 h]
   have hd:n/2^(v2 (n/2)+1)=n/2/2^v2 (n/2):=by rw[Nat.pow_succ,Nat.mul_comm,Nat.div_div_eq_div_mul]
   rw[hd];refine⟨?_,e2⟩;rw[Nat.pow_succ,<-Nat.mul_assoc,<-e1]
   omega
  ·rw[nQ h]
   simpa using h
theorem FU (k m:Nat)(hm:m%2=1):v2 (m*2^k)=k/\m*2^k/2^v2 (m*2^k)=m:=by
 have a:v2 (m*2^k)=k:=by
  induction k with
  | zero=>simpa using nQ (n:=m) hm
  | succ k ih=>
   have e:m*2^(k+1)=2*(m*2^k):=by rw[Nat.pow_succ];rw[<-Nat.mul_assoc,Nat.mul_comm]
   have d:0 < 2^k:=Nat.pow_pos (by decide)
   have b:0 < m:=by omega
   have c:0 < m*2^k:=Nat.mul_pos b d
   rw[sv (by omega) (by omega),show m*2^(k+1) /2=m*2^k by omega,ih]
 refine⟨a,?_⟩;rw[a];exact Nat.mul_div_cancel _ (Nat.pow_pos (by decide))
theorem sx{n m k:Nat}(hm:m%2=1)(h:n=m*2^k):v2 n=k/\n/2^v2 n=m:=by subst h;exact FU k m hm
theorem ej{n:Nat}(h0:n≠0):2^v2 n<=n:=by
 obtain⟨e,h1⟩:=eG n h0
 have a:1<=n/2^v2 n:=Nat.one_le_iff_ne_zero.2 (fun e0=>by rw[e0]at h1;cases h1)
 have h2:=Nat.mul_le_mul_right (2^v2 n) a;rw[Nat.one_mul]at h2;exact Nat.le_trans h2 (Nat.le_of_eq e.symm)
theorem sw{n i:Nat}(h0:n≠0)(hi:i<=v2 n):(n/2^i%2=0↔i < v2 n)/\n/2^i≠0:=by
 obtain⟨e,h1⟩:=eG n h0
 have b:0 < 2^i:=Nat.pow_pos (by decide)
 obtain⟨j,d⟩:∃j,v2 n=i+j:=⟨v2 n-i,by omega⟩
 revert e h1
 generalize g:n/2^v2 n=M
 intro e h1
 rw[d,Nat.pow_add]at e
 have hd:n/2^i=M*2^j:=by
  rw[e,Nat.mul_comm (2^i),<-Nat.mul_assoc];exact Nat.mul_div_cancel _ b
 have c:0 < 2^j:=Nat.pow_pos (by decide)
 have a:0 < M:=by omega
 rw[hd];refine⟨?_,by have:=Nat.mul_pos a c;omega⟩
 rcases Nat.eq_zero_or_pos j with rfl | f
 ·simp;omega
 ·obtain⟨q,rfl⟩:∃q,j=q+1:=⟨j-1,by omega⟩
  have:M*2^(q+1)=2*(M*2^q):=by rw[Nat.pow_succ,<-Nat.mul_assoc,Nat.mul_comm]
  rw[this]
  constructor
  ·intro _;omega
  ·intro _;omega
def mk (z e:Int):Int × Int:=
 if z=0\/e < -4194304\/4194304 < e\/4194304 < e+(v2 z.natAbs:Nat)then (0,0)else (Int.ofNat (z.natAbs/2^v2 z.natAbs)*(if z < 0 then -1 else 1),e+(v2 z.natAbs:Nat))
theorem bU (e:Int):mk 0 e=(0,0):=by unfold mk;simp
theorem yA{z e:Int}(h:e < -4194304):mk z e=(0,0):=by unfold mk;simp[h]
theorem rJ{z e:Int}(h:4194304 < e):mk z e=(0,0):=by unfold mk;simp[h]
theorem rK{z e:Int}(h:4194304 < e+(v2 z.natAbs:Nat)):mk z e=(0,0):=by unfold mk;simp[h]
theorem gl{z e:Int}(h0:z≠0)(h1: -4194304<=e)(h2:e+(v2 z.natAbs:Nat)<=4194304):
  (mk z e).2=e+(v2 z.natAbs:Nat)/\(mk z e).1.natAbs=z.natAbs/2^v2 z.natAbs/\((mk z e).1 < 0↔z < 0)/\(mk z e).1≠0/\z=(mk z e).1*2^v2 z.natAbs:=by
 have b:¬(z=0\/e < -4194304\/4194304 < e\/4194304 < e+(v2 z.natAbs:Nat)):=by omega
 unfold mk
 rw[if_neg b];obtain⟨e1,e2⟩:=eG z.natAbs (by omega)
 have c:0 < 2^v2 z.natAbs:=Nat.pow_pos (by decide)
 revert e1 e2
 generalize z.natAbs/2^v2 z.natAbs=M
 intro e1 e2
 have a:(z.natAbs:Int)=(M:Int)*2^v2 z.natAbs:=by
  have:=congrArg (Nat.cast:Nat->Int) e1
  simpa using this
 by_cases hz:z < 0
 ·simp only[hz,if_true];refine⟨trivial,by simp,by simp <;> omega,by simp <;> omega,?_⟩
  have:z= -(z.natAbs:Int):=by omega
  rw[show (Int.ofNat M* -1:Int)= -(M:Int) by simp,Int.neg_mul,<-a]
  exact this
 ·simp only[hz,if_false];refine⟨trivial,by simp,by simp <;> omega,by simp <;> omega,?_⟩
  have:z=(z.natAbs:Int):=by omega
  rw[show (Int.ofNat M*1:Int)=(M:Int) by simp,<-a]
  exact this
