/-
 Contracts that the proof rests on.
-/
namespace Go.Proofs.YteigedaefgmojaaGreatDoor
set_option linter.unusedVariables false
def val:List Nat->Nat
 | []=>0
 | x::xs=>x+4294967296*val xs
def aV (xs:List Nat):Prop:=∀x ∈ xs,x < 4294967296
def ah (n:Nat):List Nat:=if _h:n=0 then []else n%4294967296::ah (n/4294967296)
 termination_by n
 decreasing_by omega
theorem aD:ah 0=[]:=by rw[ah];simp
theorem ej{n:Nat}(h:n≠0):ah n=n%4294967296::ah (n/4294967296):=by rw[ah];simp[h]
theorem aV.nil:aV []:=fun _ h=>absurd h (by simp)
theorem aV.cons{x:Nat}{xs:List Nat}(hx:x < 4294967296)(h:aV xs):aV (x::xs):=fun y hy=>by
 rcases List.mem_cons.1 hy with rfl | hy
 ·exact hx
 ·exact h y hy
theorem aV.head{x:Nat}{xs:List Nat}(h:aV (x::xs)):x < 4294967296:=h x (by simp)
theorem aV.tail{x:Nat}{xs:List Nat}(h:aV (x::xs)):aV xs:=fun y hy=>h y (by simp[hy])
theorem aV.append{xs ys:List Nat}(h:aV xs)(k:aV ys):aV (xs ++ys):=fun y hy=>by
 rcases List.mem_append.1 hy with hy | hy
 ·exact h y hy
 ·exact k y hy
theorem aV.take{xs:List Nat}(h:aV xs)(n:Nat):aV (xs.take n):=fun y hy=>h y (List.mem_of_mem_take hy)
theorem aV.drop{xs:List Nat}(h:aV xs)(n:Nat):aV (xs.drop n):=fun y hy=>h y (List.mem_of_mem_drop hy)
theorem aV.set{xs:List Nat}(h:aV xs)(i:Nat){x:Nat}(hx:x < 4294967296):aV (xs.set i x):=fun y hy=>by
 rcases List.mem_or_eq_of_mem_set hy with hy | rfl
 ·exact h y hy
 ·exact hx
theorem aV.getD{xs:List Nat}(h:aV xs)(i:Nat):xs.getD i 0 < 4294967296:=by
 rw[List.getD_eq_getElem?_getD]
 rcases e:xs[i]? with _ | y
 ·simp
 ·exact h y (List.mem_of_getElem? e)
theorem aV.replicate (n:Nat):aV (List.replicate n 0):=fun y hy=>by rw[(List.mem_replicate.1 hy).2];decide
theorem dP (n:Nat):aV (ah n):=by
 induction n using Nat.strongRecOn with
 | ind n ih=>
  by_cases h:n=0
  ·subst h;rw[aD];exact aV.nil
  ·rw[ej h];exact aV.cons (Nat.mod_lt _ (by decide)) (ih _ (by omega))
theorem l8:val []=0:=rfl
theorem dA (x:Nat)(xs:List Nat):val (x::xs)=x+4294967296*val xs:=rfl
theorem aB (n:Nat):val (ah n)=n:=by
 induction n using Nat.strongRecOn with
 | ind n ih=>
  by_cases h:n=0
  ·subst h;rw[aD];rfl
  ·rw[ej h,dA,ih _ (by omega)]
   omega
theorem dI (xs ys:List Nat):val (xs ++ys)=val xs+4294967296^xs.length*val ys:=by
 induction xs with
 | nil=>simp [val]
 | cons x xs ih=>
  rw[List.cons_append,dA,ih,dA,List.length_cons,Nat.pow_succ,Nat.mul_add,Nat.mul_comm (4294967296^xs.length) 4294967296,Nat.mul_assoc]
  omega
theorem dB (xs:List Nat)(x:Nat):val (xs ++[x])=val xs+4294967296^xs.length*x:=by
 rw[dI];simp[val]
theorem aY{xs:List Nat}{k:Nat}(h:k < xs.length):val (xs.take (k+1))=val (xs.take k)+4294967296^k*xs.getD k 0:=by
 rw[List.take_succ_eq_append_getElem h,dB,List.length_take,Nat.min_eq_left (by omega),List.getD_eq_getElem?_getD,List.getElem?_eq_getElem h]
 rfl
theorem am (xs:List Nat){k:Nat}(h:k<=xs.length):val xs=val (xs.take k)+4294967296^k*val (xs.drop k):=by
 have:=dI (xs.take k) (xs.drop k)
 rw[List.take_append_drop,List.length_take,Nat.min_eq_left h]at this;exact this
theorem aW{xs:List Nat}{k:Nat}(h:k < xs.length):val (xs.drop k)=xs.getD k 0+4294967296*val (xs.drop (k+1)):=by
 rw[List.drop_eq_getElem_cons h,dA,List.getD_eq_getElem?_getD,List.getElem?_eq_getElem h]
 rfl
theorem bI{xs:List Nat}(h:aV xs):val xs < 4294967296^xs.length:=by
 induction xs with
 | nil=>simp [val]
 | cons x xs ih=>
  have h1:=ih h.tail;have h2:=h.head;rw[dA,List.length_cons,Nat.pow_succ]
  have:val xs+1<=4294967296^xs.length:=h1
  have:=Nat.mul_le_mul_right 4294967296 this
  rw[Nat.add_mul]at this
  omega
theorem ig (n:Nat):val (List.replicate n 0)=0:=by
 induction n with
 | zero=>rfl
 | succ n ih=>rw [List.replicate_succ,dA,ih]
theorem oy:∀{xs:List Nat},aV xs->(∀h:xs≠[],xs.getLast h≠0)->ah (val xs)=xs
 | [],_,_=>aD
 | x::xs,hl,ht=>by
  have hx:=hl.head
  have h1:ah (val xs)=xs:=oy hl.tail fun h=>by
   have:=ht (by simp)
   rwa [List.getLast_cons h]at this
  have a:val (x::xs)≠0:=by
   intro d
   rw[dA]at d
   have c:x=0:=by omega
   have b:val xs=0:=by omega
   rw[b,aD]at h1;subst h1;exact ht (by simp) (by simpa using c)
  rw[ej a,dA,show (x+4294967296*val xs)%4294967296=x by omega,show (x+4294967296*val xs) /4294967296=val xs by omega,h1]
theorem aH{n k:Nat}(h:n < 4294967296^k):(ah n).length<=k:=by
 induction k generalizing n with
 | zero=>simp at h;subst h;rw[aD];simp
 | succ k ih=>
  by_cases a:n=0
  ·subst a;rw[aD];simp
  ·rw[ej a,List.length_cons]
   have:n/4294967296 < 4294967296^k:=by
    rw[Nat.pow_succ,Nat.mul_comm]at h;exact Nat.div_lt_of_lt_mul h
   have:=ih this
   omega
theorem aG{a b:Nat}(h:a<=b):(ah a).length<=(ah b).length:=by
 apply aH
 have:=bI (dP b)
 rw[aB]at this
 omega
theorem pf{n:Nat}:ah n=[]↔n=0:=by
 constructor
 ·intro h
  rw[<-aB n,h];rfl
 ·intro h;subst h;exact aD
theorem bE{n:Nat}:(ah n).length=0↔n=0:=by rw[List.length_eq_zero_iff,pf]
theorem aQ{xs:List Nat}(h:aV xs):(ah (val xs)).length<=xs.length:=aH (bI h)
theorem mF{n:Nat}(h:n≠0):(ah n).getD ((ah n).length-1) 0≠0:=by
 intro a
 have hl:(ah n).length≠0:=fun e=>h (bE.1 e)
 have h1:=aY (xs:=ah n) (k:=(ah n).length-1) (by omega)
 rw[a,show (ah n).length-1+1=(ah n).length by omega,List.take_length,aB]at h1
 have h2:=bI ((dP n).take ((ah n).length-1));rw[List.length_take,Nat.min_eq_left (by omega)]at h2;have b:=aH (n:=n) (k:=(ah n).length-1) (by omega)
 omega
theorem eE{xs:List Nat}{k:Nat}(hl:aV xs)(hk:k<=xs.length)(h0:val (xs.drop k)=0)(hn:0 < k->xs.getD (k-1) 0≠0):xs.take k=ah (val xs):=by
 have h1:val xs=val (xs.take k):=by rw[am xs hk,h0];simp
 rw[h1,oy (hl.take k)]
 intro h
 have a:0 < k:=by
  rcases Nat.eq_zero_or_pos k with e | e
  ·subst e;simp at h
  ·exact e
 have:=hn a
 rw[List.getLast_eq_getElem];rw[List.getD_eq_getElem?_getD,List.getElem?_eq_getElem (by omega)]at this;simp only[Option.getD_some]at this;rw[List.getElem_take]
 have e:(xs.take k).length-1=k-1:=by rw[List.length_take,Nat.min_eq_left hk]
 simp only[e];exact this
theorem oq{xs:List Nat}{k i:Nat}(h:i < k):(xs.take k).getD i 0=xs.getD i 0:=by
 rw[List.getD_eq_getElem?_getD,List.getElem?_take,if_pos h,List.getD_eq_getElem?_getD]
theorem gT{xs:List Nat}{k i:Nat}:(xs.drop k).getD i 0=xs.getD (k+i) 0:=by
 rw[List.getD_eq_getElem?_getD,List.getElem?_drop,List.getD_eq_getElem?_getD]
theorem er{xs:List Nat}(hl:aV xs):xs.take (ah (val xs)).length=ah (val xs):=by
 have a:=aQ hl;have ht:=am xs a
 have h2:val (xs.drop (ah (val xs)).length)=0:=by
  have:=bI (dP (val xs))
  rw[aB]at this
  rcases Nat.eq_zero_or_pos (val (xs.drop (ah (val xs)).length))with e | e
  ·exact e
  ·have:=Nat.le_mul_of_pos_right (4294967296^(ah (val xs)).length) e
   omega
 have d:val (xs.take (ah (val xs)).length)=val xs:=by rw[h2]at ht;simpa using ht.symm
 apply eE hl a h2
 intro hp he
 have c:val xs≠0:=fun e=>by rw[e,aD]at hp;simp at hp
 have b:=aY (xs:=xs) (k:=(ah (val xs)).length-1) (by omega)
 rw[he,show (ah (val xs)).length-1+1=(ah (val xs)).length by omega,d]at b
 have h4:=bI (hl.take ((ah (val xs)).length-1));rw[List.length_take,Nat.min_eq_left (by omega)]at h4;have f:=aH (n:=val xs) (k:=(ah (val xs)).length-1) (by omega)
 omega
theorem ji{xs ys:List Nat}{i:Nat}(hl:aV xs)(hi:i < xs.length)(hj:i < ys.length)(ha:val (xs.drop (i+1))=val (ys.drop (i+1)))(h:xs.getD i 0 < ys.getD i 0):val xs < val ys:=by
 rw[am xs (k:=i) (by omega),am ys (k:=i) (by omega),aW hi,aW hj,ha];have h1:=bI (hl.take i);rw[List.length_take,Nat.min_eq_left (by omega)]at h1
 have h2:=Nat.mul_le_mul_left (4294967296^i) (show xs.getD i 0+4294967296*val (ys.drop (i+1))+1<=ys.getD i 0+4294967296*val (ys.drop (i+1)) by omega)
 rw[Nat.mul_add,Nat.mul_one]at h2
 omega
theorem jh{xs ys:List Nat}{n k:Nat}(h1:aV xs)(h2:aV ys)(l1:xs.length=n)(l2:ys.length=n)(hk:k < n)(hz:val (xs.drop (n-k))=val (ys.drop (n-k))):
  (xs.getD (n-1-k) 0 < ys.getD (n-1-k) 0->val xs < val ys)/\(ys.getD (n-1-k) 0 < xs.getD (n-1-k) 0->val ys < val xs)/\
   (xs.getD (n-1-k) 0=ys.getD (n-1-k) 0->val (xs.drop (n-1-k))=val (ys.drop (n-1-k))):=by
 have e:n-1-k+1=n-k:=by omega
 refine⟨fun h=>ji h1 (by omega) (by omega) (by rw[e];exact hz) h,fun h=>ji h2 (by omega) (by omega) (by rw[e];exact hz.symm) h,fun h=>?_⟩
 have a:=aW (xs:=xs) (k:=n-1-k) (by omega);have b:=aW (xs:=ys) (k:=n-1-k) (by omega);rw[e]at a b;rw[a,b,hz,h]
theorem db{a b:Nat}(h:(ah a).length < (ah b).length):a < b:=by
 rcases Nat.lt_or_ge a b with h1 | h1
 ·exact h1
 ·have:=aG h1
  omega
def iQ (l:List Nat)(o:Nat)(zs:List Nat):List Nat:=l.take o ++zs ++l.drop (o+zs.length)
theorem pg (l:List Nat)(o:Nat):iQ l o []=l:=by simp[iQ]
theorem f8{l zs:List Nat}{o:Nat}(h:o+zs.length<=l.length):(iQ l o zs).length=l.length:=by simp[iQ];omega
theorem vU{l zs:List Nat}{o:Nat}(h:aV l)(k:aV zs):aV (iQ l o zs):=((h.take o).append k).append (h.drop _)
theorem BK{l zs:List Nat}{o:Nat}(h:o+zs.length < l.length):(iQ l o zs).getD (o+zs.length) 0=l.getD (o+zs.length) 0:=by
 have e:(l.take o ++zs).length=o+zs.length:=by simp;omega
 unfold iQ
 rw[List.getD_eq_getElem?_getD,List.getElem?_append_right (by omega),e,Nat.sub_self,List.getElem?_drop,Nat.add_zero,List.getD_eq_getElem?_getD]
theorem vV{l zs:List Nat}{o x:Nat}(h:o+zs.length < l.length):(iQ l o zs).set (o+zs.length) x=iQ l o (zs ++[x]):=by
 have e:(l.take o ++zs).length=o+zs.length:=by simp;omega
 unfold iQ
 rw[List.set_append_right _ _ (by omega),e,Nat.sub_self,List.drop_eq_getElem_cons h,List.set_cons_zero,List.length_append,List.length_singleton,Nat.add_assoc]
 simp
theorem q8{l zs:List Nat}{o:Nat}(h:o+zs.length<=l.length):(iQ l o zs).take o=l.take o:=by
 have e:(l.take o).length=o:=by simp;omega
 unfold iQ
 rw[List.append_assoc,List.take_append_of_le_length (by omega),List.take_of_length_le (by omega)]
theorem BJ{l zs:List Nat}{o:Nat}(h:o+zs.length<=l.length):(iQ l o zs).drop (o+zs.length)=l.drop (o+zs.length):=by
 have e:(l.take o ++zs).length=o+zs.length:=by simp;omega
 unfold iQ
 rw[List.drop_append_of_le_length (by omega),List.drop_eq_nil_of_le (by omega),List.nil_append]
theorem Fe{l zs ys:List Nat}{o:Nat}(h:o+zs.length<=l.length)(hl:ys.length=zs.length):iQ (iQ l o zs) o ys=iQ l o ys:=by
 have e1:=q8 h;have e2:=BJ h;rw[<-hl]at e2
 show (iQ l o zs).take o ++ys ++(iQ l o zs).drop (o+ys.length)=l.take o ++ys ++l.drop (o+ys.length)
 rw[e1,e2]
theorem Ff{l zs:List Nat}{o:Nat}(h:o+zs.length<=l.length):((iQ l o zs).drop o).take zs.length=zs:=by
 have e:(l.take o).length=o:=by simp;omega
 unfold iQ
 rw[List.append_assoc,List.drop_append,List.drop_eq_nil_of_le (by omega),e]
 simp
theorem aq{xs:List Nat}{k:Nat}(h:xs.length<=k):val (xs.take k)=val xs:=by rw[List.take_of_length_le h]
theorem de{xs:List Nat}{k:Nat}(h:xs.length<=k):xs.getD k 0=0:=by rw[List.getD_eq_getElem?_getD,List.getElem?_eq_none h];rfl
theorem aX (xs:List Nat)(k:Nat):val (xs.take (k+1))=val (xs.take k)+4294967296^k*xs.getD k 0:=by
 rcases Nat.lt_or_ge k xs.length with h | h
 ·exact aY h
 ·rw[aq (by omega),aq h,de h,Nat.mul_zero,Nat.add_zero]
theorem qg{p A Y v x y c:Nat}(h:v+c*p=A+Y):(v+p*((x+y+c)%4294967296))+(x+y+c) /4294967296*(p*4294967296)=(A+p*x)+(Y+p*y):=by
 have e:=Nat.mod_add_div (x+y+c) 4294967296
 have:p*((x+y+c)%4294967296)+(x+y+c) /4294967296*(p*4294967296)=p*(x+y+c):=by
  conv=>rhs;rw[<-e,Nat.mul_add]
  grind
 grind
theorem BV{p A Y v x y c f:Nat}(h:v+c*p=A+f*Y):(v+p*((y*f+x+c)%4294967296))+(y*f+x+c) /4294967296*(p*4294967296)=(A+p*x)+f*(Y+p*y):=by
 have e:=Nat.mod_add_div (y*f+x+c) 4294967296
 have:p*((y*f+x+c)%4294967296)+(y*f+x+c) /4294967296*(p*4294967296)=p*(y*f+x+c):=by
  conv=>rhs;rw[<-e,Nat.mul_add]
  grind
 grind
theorem oI (k:Nat):4294967296^k=2^(k*32):=by rw[show 4294967296=2^32 by decide,<-Nat.pow_mul,Nat.mul_comm]
def v2 (n:Nat):Nat:=if _h:n=0 then 0 else if n%2=1 then 0 else v2 (n/2)+1
 termination_by n
 decreasing_by omega
theorem pY{n:Nat}(h:n%2=1):v2 n=0:=by rw[v2];simp[h]
theorem wS{n:Nat}(h0:n≠0)(h:n%2=0):v2 n=v2 (n/2)+1:=by rw[v2];simp[h0,h]
theorem fB (n:Nat)(h0:n≠0):n=n/2^v2 n*2^v2 n/\n/2^v2 n%2=1:=by
 induction n using Nat.strongRecOn with
 | ind n ih=>
  rcases Nat.mod_two_eq_zero_or_one n with h | h
  ·have h1:n/2≠0:=by omega
   obtain⟨e1,e2⟩:=ih (n/2) (by omega) h1;rw[wS h0 h]
   have hd:n/2^(v2 (n/2)+1)=n/2/2^v2 (n/2):=by rw[Nat.pow_succ,Nat.mul_comm,Nat.div_div_eq_div_mul]
   rw[hd];refine⟨?_,e2⟩;rw[Nat.pow_succ,<-Nat.mul_assoc,<-e1]
   omega
  ·rw[pY h]
   simpa using h
theorem IT (k m:Nat)(hm:m%2=1):v2 (m*2^k)=k/\m*2^k/2^v2 (m*2^k)=m:=by
 have a:v2 (m*2^k)=k:=by
  induction k with
  | zero=>simpa using pY (n:=m) hm
  | succ k ih=>
   have e:m*2^(k+1)=2*(m*2^k):=by rw[Nat.pow_succ];rw[<-Nat.mul_assoc,Nat.mul_comm]
   have hp:0 < 2^k:=Nat.pow_pos (by decide)
   have b:0 < m:=by omega
   have c:0 < m*2^k:=Nat.mul_pos b hp
   rw[wS (by omega) (by omega),show m*2^(k+1) /2=m*2^k by omega,ih]
 refine⟨a,?_⟩;rw[a];exact Nat.mul_div_cancel _ (Nat.pow_pos (by decide))
theorem wU{n m k:Nat}(hm:m%2=1)(h:n=m*2^k):v2 n=k/\n/2^v2 n=m:=by subst h;exact IT k m hm
theorem eX{n:Nat}(h0:n≠0):2^v2 n<=n:=by
 obtain⟨e,h1⟩:=fB n h0
 have a:1<=n/2^v2 n:=Nat.one_le_iff_ne_zero.2 (fun e0=>by rw[e0]at h1;cases h1)
 have h2:=Nat.mul_le_mul_right (2^v2 n) a;rw[Nat.one_mul]at h2;exact Nat.le_trans h2 (Nat.le_of_eq e.symm)
theorem wT{n i:Nat}(h0:n≠0)(hi:i<=v2 n):(n/2^i%2=0↔i < v2 n)/\n/2^i≠0:=by
 obtain⟨e,h1⟩:=fB n h0
 have b:0 < 2^i:=Nat.pow_pos (by decide)
 obtain⟨j,d⟩:∃j,v2 n=i+j:=⟨v2 n-i,by omega⟩
 revert e h1
 generalize g:n/2^v2 n=M
 intro e h1
 rw[d,Nat.pow_add]at e
 have hd:n/2^i=M*2^j:=by
  rw[e,Nat.mul_comm (2^i),<-Nat.mul_assoc];exact Nat.mul_div_cancel _ b
 have c:0 < 2^j:=Nat.pow_pos (by decide)
 have a:0 < M:=by omega
 rw[hd];refine⟨?_,by have:=Nat.mul_pos a c;omega⟩
 rcases Nat.eq_zero_or_pos j with rfl | f
 ·simp;omega
 ·obtain⟨q,rfl⟩:∃q,j=q+1:=⟨j-1,by omega⟩
  have:M*2^(q+1)=2*(M*2^q):=by rw[Nat.pow_succ,<-Nat.mul_assoc,Nat.mul_comm]
  rw[this]
  constructor
  ·intro _;omega
  ·intro _;omega
def mk (z e:Int):Int × Int:=
 if z=0\/e < -4194304\/4194304 < e\/4194304 < e+(v2 z.natAbs:Nat)then (0,0)else (Int.ofNat (z.natAbs/2^v2 z.natAbs)*(if z < 0 then -1 else 1),e+(v2 z.natAbs:Nat))
theorem dg (e:Int):mk 0 e=(0,0):=by unfold mk;simp
theorem BN{z e:Int}(h:e < -4194304):mk z e=(0,0):=by unfold mk;simp[h]
theorem vW{z e:Int}(h:4194304 < e):mk z e=(0,0):=by unfold mk;simp[h]
theorem vX{z e:Int}(h:4194304 < e+(v2 z.natAbs:Nat)):mk z e=(0,0):=by unfold mk;simp[h]
theorem iH{z e:Int}(h0:z≠0)(h1: -4194304<=e)(h2:e+(v2 z.natAbs:Nat)<=4194304):
  (mk z e).2=e+(v2 z.natAbs:Nat)/\(mk z e).1.natAbs=z.natAbs/2^v2 z.natAbs/\((mk z e).1 < 0↔z < 0)/\(mk z e).1≠0/\z=(mk z e).1*2^v2 z.natAbs:=by
 have b:¬(z=0\/e < -4194304\/4194304 < e\/4194304 < e+(v2 z.natAbs:Nat)):=by omega
 unfold mk
 rw[if_neg b];obtain⟨e1,e2⟩:=fB z.natAbs (by omega)
 have hp:0 < 2^v2 z.natAbs:=Nat.pow_pos (by decide)
 revert e1 e2
 generalize z.natAbs/2^v2 z.natAbs=M
 intro e1 e2
 have a:(z.natAbs:Int)=(M:Int)*2^v2 z.natAbs:=by
  have:=congrArg (Nat.cast:Nat->Int) e1
  simpa using this
 by_cases hz:z < 0
 ·simp only[hz,if_true];refine⟨trivial,by simp,by simp <;> omega,by simp <;> omega,?_⟩
  have:z= -(z.natAbs:Int):=by omega
  rw[show (Int.ofNat M* -1:Int)= -(M:Int) by simp,Int.neg_mul,<-a]
  exact this
 ·simp only[hz,if_false];refine⟨trivial,by simp,by simp <;> omega,by simp <;> omega,?_⟩
  have:z=(z.natAbs:Int):=by omega
  rw[show (Int.ofNat M*1:Int)=(M:Int) by simp,<-a]
  exact this
