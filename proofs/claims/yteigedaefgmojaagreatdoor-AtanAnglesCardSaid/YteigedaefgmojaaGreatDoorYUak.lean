/-
 Contracts that the proof rests on.
-/
import Derived.Test.YteigedaefgmojaaGreatDoorYUah
import Derived.Test.YteigedaefgmojaaGreatDoorYUai
namespace Go.Proofs.YteigedaefgmojaaGreatDoor
open Go.Proofs.Tryz
set_option maxHeartbeats 4000000
open Go.RowKit
set_option linter.unusedVariables false
theorem dk{w:World}{A:Option Addr}{n c a:Nat}(s:Bool)(h:Rd w A n c a):Calls prog 135 #[.bool s,.slice A n c] w (W1 w n (sg s a)):=by
 cases s
 ·go_enter func135,ntmps135
  go_wp2_with (first
   | (go_at_call 192;((with_reducible refine(gd (h.below (af _ _))).mono ?_);rintro e w1 ⟨A1,n1,c1,rfl,h1,j,b⟩;obtain⟨g,hf⟩:=bJ b)))
  have X:Bx w1 w.heap.size false none 0 0:=(Bx.new w false none 0 0).below b
  exact bodyPost_ret (v:= .agg #[.bool false,.slice A1 n1 c1]) (by simp[results,results135,go_sem,X.cell0,X.cell1]) rfl ⟨false,A1,n1,c1,rfl,(h1.wn false).st X _ _,by omega,st2 (bt (af _ _) b) (Nat.le_refl _) _ _⟩
 ·rcases Nat.eq_zero_or_pos a with e | e
  ·subst e
   go_enter func135,ntmps135
   go_wp2_with (first
    | (go_at_call 192;((with_reducible refine(gd (h.below (af _ _))).mono ?_);rintro e w1 ⟨A1,n1,c1,rfl,h1,j,b⟩;obtain⟨g,hf⟩:=bJ b;obtain rfl:n1=0:=by {have:=h1.pos;omega})))
   have X:Bx w1 w.heap.size false none 0 0:=(Bx.new w false none 0 0).below b
   exact bodyPost_ret (v:= .agg #[.bool false,.slice A1 0 c1]) (by simp[results,results135,go_sem,X.cell0,X.cell1]) rfl ⟨false,A1,0,c1,rfl,(h1.wn true).st X _ _,by omega,st2 (bt (af _ _) b) (Nat.le_refl _) _ _⟩
  ·go_enter func135,ntmps135
   go_wp2_with (first
    | (go_at_call 192;((with_reducible refine(gd (h.below (af _ _))).mono ?_);rintro e w1 ⟨A1,n1,c1,rfl,h1,j,b⟩;obtain⟨g,hf⟩:=bJ b;have d:0 < n1:=by {have:=h1.pos;omega};have f:=h1.rd.big)))
   have X:Bx w1 w.heap.size false none 0 0:=(Bx.new w false none 0 0).below b
   have hd:decide (0 < n1)=true:=by simpa using d
   have i:=h1.wn true;rw[hd]at i;exact bodyPost_ret (v:= .agg #[.bool true,.slice A1 n1 c1]) (by simp[results,results135,go_sem,X.cell0,X.cell1]) rfl ⟨true,A1,n1,c1,rfl,i.st X _ _,by omega,st2 (bt (af _ _) b) (Nat.le_refl _) _ _⟩
theorem Iv{w:World}{A:Option Addr}{n c:Nat}{s:Bool}{z r:Int}(h:Wr w s A n c z)(hr: -z=r):Calls prog 189 #[.agg #[.bool s,.slice A n c]] w (W1 w n r):=by
 obtain⟨a,h,e⟩:=h
 have d:Hid (sg (!s) a=r):=Lib.hid (by rw[<-hr,<-e];cases s <;> simp[sg])
 clear hr e
 go_enter func189,ntmps189
 go_wp2_with (first
  | (go_at_call 135;((with_reducible refine(dk _ (h.below (bV _ _ _))).mono ?_);rintro e f ⟨s2,A2,n2,c2,rfl,h2,i,b⟩;obtain⟨g,hf⟩:=bJ b)))
 have X:Bx f (w.heap.size+1) false none 0 0:=(Bx.newAt _ (by simp) false none 0 0).below b
 exact bodyPost_ret (v:= .agg #[.bool s2,.slice A2 n2 c2]) (by simp[results,results189,go_sem,X.cell0,X.cell1]) rfl ⟨s2,A2,n2,c2,rfl,d.out▸h2.st X _ _,by omega,st2 (bt (bV _ _ _) b) (by simp) _ _⟩
theorem jK{w:World}{A:Option Addr}{n c:Nat}{s:Bool}{x r:Int}(h:Wr w s A n c x)(hr:ag x 0=r):Calls prog 161 #[.agg #[.bool s,.slice A n c]] w (PI w r):=by
 obtain⟨a,h,e1⟩:=h;subst e1
 rcases dK s a with⟨rfl,e⟩ | ⟨j,rfl,e⟩ | ⟨j,rfl,e⟩
 ·rw[e]at hr;subst hr;clear e
  go_enter func161,ntmps161
  go_wp2_with (first
   | (go_at_call 135;((with_reducible refine(dk _ (h.below (af _ _))).mono ?_);rintro e i ⟨s2,A2,n2,c2,rfl,h2,g,b⟩;obtain rfl:n2=0:=by {have:=h2.1.pos;rw[ew]at this;omega})))
  go_ret
  exact⟨rfl,bt (af _ _) (bt b (af _ _))⟩
 ·rw[e]at hr;subst hr;clear e
  go_enter func161,ntmps161
  go_wp2_with (first
   | (go_at_call 135;((with_reducible refine(dk _ (h.below (af _ _))).mono ?_);rintro e i ⟨s2,A2,n2,c2,rfl,h2,g,b⟩;have f:0 < n2:=by {have:=h2.1.pos;rw[ew]at this;omega};have d:=h2.1.rd.big;obtain rfl:s2=true:=by {rw [h2.2];simp[sg];omega})))
  go_ret
  exact⟨rfl,bt (af _ _) (bt b (af _ _))⟩
 ·rw[e]at hr;subst hr;clear e
  go_enter func161,ntmps161
  go_wp2_with (first
   | (go_at_call 135;((with_reducible refine(dk _ (h.below (af _ _))).mono ?_);rintro e i ⟨s2,A2,n2,c2,rfl,h2,g,b⟩;have f:0 < n2:=by {have:=h2.1.pos;rw[ew]at this;omega};have d:=h2.1.rd.big;obtain rfl:s2=false:=by {rw [h2.2];simp[sg]})))
  go_ret
  exact⟨rfl,bt (af _ _) (bt b (af _ _))⟩
theorem yN (k:Nat)(w:World)(h:k < 9223372036854775808):Calls prog 72 #[.int .i64 (k:Int)] w (W1 w 2 (k:Int)):=by
 have hd:decide ((k:Int) < 0)=false:=by simp
 go_enter func72,ntmps72
 go_wp2_with (first
  | (go_at_call 135;((with_reducible refine(dk false (nu _ (by simp) (k:=k) (by omega) (by omega) (by omega))).mono ?_);rintro e b ⟨s2,A2,n2,c2,rfl,h2,d,a⟩;obtain⟨c,hf⟩:=bJ a)))
 have X:Bx b w.heap.size false none 0 0:=((Bx.new w false none 0 0).below (af _ _)).below a
 exact bodyPost_ret (v:= .agg #[.bool s2,.slice A2 n2 c2]) (by simp[results,results72,go_sem,X.cell0,X.cell1]) rfl ⟨s2,A2,n2,c2,rfl,h2.st X _ _,by omega,st2 (bt (bV _ _ _) a) (Nat.le_refl _) _ _⟩
theorem yM (z:Int)(w:World)(h: -9223372036854775808<=z)(h0:z < 0):Calls prog 72 #[.int .i64 z] w (W1 w 2 z):=by
 have b:Hid (sg true z.natAbs=z):=Lib.hid (by simp[sg];omega)
 have d:Hid (((z.natAbs:Nat):Int)= -z):=Lib.hid (by omega)
 go_enter func72,ntmps72
 go_wp2_with (first
  | (go_at_call 135;((with_reducible refine(dk true (nu _ (by simp) (k:=z.natAbs) (by omega) (by omega) (by omega))).mono ?_);rintro e c ⟨s2,A2,n2,c2,rfl,h2,g,a⟩;obtain⟨f,hf⟩:=bJ a)))
 have X:Bx c w.heap.size false none 0 0:=((Bx.new w false none 0 0).below (af _ _)).below a
 exact bodyPost_ret (v:= .agg #[.bool s2,.slice A2 n2 c2]) (by simp[results,results72,go_sem,X.cell0,X.cell1]) rfl ⟨s2,A2,n2,c2,rfl,b.out▸h2.st X _ _,by omega,st2 (bt (bV _ _ _) a) (Nat.le_refl _) _ _⟩
theorem gy (z:Int)(w:World)(h1: -9223372036854775808<=z)(h2:z<=9223372036854775807):Calls prog 72 #[.int .i64 z] w (W1 w 2 z):=by
 rcases Int.lt_or_le z 0 with h | h
 ·exact yM z w h1 h
 ·have:=yN z.natAbs w (by omega)
  rwa [show ((z.natAbs:Nat):Int)=z by omega]at this
theorem rK{k:IntKind}{a b:Int}(h:a=b):Value.int k a= .int k b:=by rw[h]
def D1 (w:World)(K:Nat)(N E:Int)(e:Ending)(w':World):Prop:=∃s A n c,e= .returned (.agg #[.bool s,.slice A n c,.int .i64 E])/\Wn w' s A n c N/\n<=K/\Below w.heap.size w w'
theorem Wn.st3{w:World}{g:Nat}{cs:Array Value}{T:TypeId}{t:Bool}{B:Option Addr}{m d:Nat}{z:Int}(h:Wn w t B m d z)(X:Bo w g cs T)(s:Bool)(A:Option Addr)(n c:Nat)(e:Int)(hn:cs.all no32=true):
  Wn (((w.setCell ⟨g,0,none⟩ (.bool s)).setCell ⟨g,1,none⟩ (.slice A n c)).setCell ⟨g,2,none⟩ (.int .i64 e)) t B m d z:=by
 have step:∀(cs:Array Value) (i:Nat) (v:Value),cs.all no32=true->no32 v=true->(cs.setIfInBounds i v).all no32=true:=by
  intro cs i v h1 h2
  rw[Array.all_eq_true]at h1|-
  intro j a
  rw[Array.getElem_setIfInBounds]
  split
  ·exact h2
  ·exact h1 j (by simpa using a)
 exact((h.store X hn 0 _).store (X.set 0 _) (step _ _ _ hn rfl) 1 _).store ((X.set 0 _).set 1 _) (step _ _ _ (step _ _ _ hn rfl) rfl) 2 _
theorem st3{B:Nat}{a w:World}(h:Below B a w){b:Nat}(hp:B<=b)(u v t:Value):Below B a (((w.setCell ⟨b,0,none⟩ u).setCell ⟨b,1,none⟩ v).setCell ⟨b,2,none⟩ t):=fC (fC (fC h hp 0 u) hp 1 v) hp 2 t
theorem tn{w:World}{A:Option Addr}{n c a:Nat}{t:Bool}(h:Nm w A n c a)(ht:decide (a≠0/\a%2=0)=t):Calls prog 187 #[.slice A n c] w fun e w'=>e= .returned (.bool t)/\w=w':=by
 have hp:=h.pos;have i:=h.rd.big
 rcases Nat.eq_zero_or_pos n with e | k
 ·subst e
  obtain rfl:a=0:=by omega
  subst ht;clear h hp
  go_enter func187,ntmps187
  go_wp2
  go_ret
  exact⟨rfl,rfl⟩
 ·have g:a≠0:=by omega
  obtain⟨b,h⟩:=h;have j:=h.cap;obtain⟨o,rfl,hcell⟩:=h.at k;have d:=hcell 0 k;clear hcell
  have hx:(ah a).getD 0 0=a%4294967296:=by rw[ej g];rfl
  rw[hx,Nat.add_zero]at d
  have f:Hid ((((a%4294967296:Nat):Int)%2==0)=t):=Lib.hid (by
   rw[<-ht,Bool.eq_iff_iff]
   simp[g]
   omega)
  have hlt:a%4294967296 < 4294967296:=Nat.mod_lt _ (by decide)
  clear ht hx g hp h
  revert d f hlt
  generalize a%4294967296=x
  intro d f hlt
  go_enter func187,ntmps187
  go_wp2
  go_ret
  exact⟨rx f.out,rfl⟩
def Gd (w w1:World)(z:Int)(n k:Nat)(wr:World):Prop:=
 ∃s A p c,Bx wr w1.heap.size s A p c/\Wn wr s A p c (sg (decide (z < 0)) (z.natAbs/2^k))/\p<=n/\Bo wr (w.heap.size+1) #[.bool false,.slice none 0 0,.int .i64 0] 94/\w.heap.size+1 < w1.heap.size/\Below w.heap.size w wr
theorem yJ{w:World}{s:Bool}{A:Option Addr}{n c:Nat}{z e:Int}(h:Wr w s A n c z)(hn:n<=100000)(h0:z≠0)(h1: -4194304<=e)(h2:e<=4194304){N E:Int}(HN:Hid ((mk z e).1=N))(HE:Hid ((mk z e).2=E)):
  Calls prog 132 #[.agg #[.bool s,.slice A n c],.int .i64 e] w (D1 w n N E):=by
 have L:z.natAbs≠0:=by omega
 have hv:v2 z.natAbs < 3200001:=by
  have e1:=eX L;have e2:=h.rd.bound;rw[oI]at e2;have e3:=(Nat.pow_lt_pow_iff_right (a:=2) (by decide)).1 (Nat.lt_of_le_of_lt e1 e2)
  omega
 obtain⟨m,hm⟩:∃m,v2 z.natAbs=m:=⟨_,rfl⟩;have l:=Lib.hid hm
 have bH:m < 3200001:=by omega
 have t1:decide (e < -4194304)=false:=by simp;omega
 have t2:decide (4194304 < e)=false:=by simp;omega
 clear hm hv
 go_enter func132,ntmps132
 go_wp2_with fail
 refine(dk s (h.rd.below (bV _ _ _))).mono ?_;rintro q w1 ⟨s1,A1,n1,c1,rfl,x,k1,B⟩;rw[h.eq]at x
 have V:0 < n1:=by have:=x.1.pos;omega
 have hq:((n1:Int)==0)=false:=by
  have:(n1:Int)≠0:=by omega
  simpa using this
 have M:=x.1.rd.big
 have b:Bo (w1.alloc (.cells #[.bool s1,.slice A1 n1 c1] 43)) (w.heap.size+1) #[.bool false,.slice none 0 0,.int .i64 0] 94:=((Bo.newAt _ (by simp) _ _).below B).below (af _ _)
 have hg:w.heap.size+1 < w1.heap.size:=((Bo.newAt _ (by simp) #[.bool false,.slice none 0 0,.int .i64 0] 94).below B).lt
 have S:Hid (Gd w w1 z n 0 (w1.alloc (.cells #[.bool s1,.slice A1 n1 c1] 43))):=Lib.hid ⟨s1,A1,n1,c1,Bx.new _ _ _ _ _,by
  have e0:sg (decide (z < 0)) (z.natAbs/2^0)=z:=by
   rw[Nat.pow_zero,Nat.div_one]
   by_cases hz:z < 0
   ·simp[sg,hz];omega
   ·simp[sg,hz];omega
  rw[e0];exact x.below (af _ _),k1,b,hg,bt (bt (bV _ _ _) B) (af _ _)⟩
 clear b B;have j:=(Bx.new w1 s1 A1 n1 c1).cell1;go_wp2
 go_loopw [1,6] (fun q i wr=>∃k:Nat,k<=m/\i= .int .i64 k/\q= .int .i64 (e+k)/\Gd w w1 z n k wr) (fun _ i _=>m+1-(intOf i).toNat)
 case atStart=>exact ⟨0,Nat.zero_le _,rfl,rK (by omega),S.out⟩
 case round=>
  clear S j x;obtain⟨k,hk,rfl,rfl,s2,A2,p,c2,f,O,hp,b,_,U⟩:=hrel;have t:=Lib.hid U;clear U
  have g:Nm wr A2 p c2 (z.natAbs/2^k):=by have:=O.1;rwa [ew]at this
  obtain⟨r,d⟩:=wT L (i:=k) (by rw[l.out];exact hk);rw[l.out]at r;have j:=f.cell0;have y:=f.cell1
  have P:wr.cell? ⟨w.heap.size+1,0,none⟩=some (.bool false):=b.cell 0
  have Q:wr.cell? ⟨w.heap.size+1,1,none⟩=some (.slice none 0 0):=b.cell 1
  have R:wr.cell? ⟨w.heap.size+1,2,none⟩=some (.int .i64 0):=b.cell 2
  have q0:=b.frozen 0;have q1:=b.frozen 1;have q2:=b.frozen 2
  have bD:(k:Int) < 4000000:=by omega
  have u:s2=decide (z < 0):=by
   rw[O.2,rC]
   have:decide (0 < z.natAbs/2^k)=true:=decide_eq_true (Nat.pos_of_ne_zero d)
   rw[this,Bool.and_true]
  have W:=Lib.hid u;clear u
  by_cases hlt:k < m
  ·have D:Hid (decide (z.natAbs/2^k≠0/\z.natAbs/2^k%2=0)=true):=Lib.hid (decide_eq_true ⟨d,r.2 hlt⟩)
   have HV:=Lib.hid r;have X:=Lib.hid d;clear r d
   go_wp2_with fail
   refine(tn g D.out).mono ?_;rintro q w' ⟨rfl,rfl⟩;go_wp2
   go_region_with ((go_at_call 186;((with_reducible refine(rr 1 g.rd.drew (by omega)).mono ?_);rintro q w3 ⟨A3,n3,c3,rfl,T,k3,C⟩;clear j y P Q R q0 q1 q2;replace f:=f.drew.below C;replace b:=b.drew.below C;replace t:=Lib.hid (bt t.out.drew C);clear C;have j:=f.cell0;have y:=f.cell1;have bA:=f.frozen 0;have bB:=f.frozen 1)))
   all_goals
    go_wp2
    go_roundw
    case rel=>
     refine⟨k+1,by omega,by go_num,rK (by omega),s2,A3,n3,c3,f.set _ _ _ _,?_,by omega,(b.far (by omega) 0 _).far (by omega) 1 _,hg,st2 t.out (by omega) _ _⟩
     have e1:z.natAbs/2^k/2^(1:Int).toNat=z.natAbs/2^(k+1):=by rw[Nat.div_div_eq_div_mul,<-Nat.pow_add];rfl
     rw[e1]at T;have o:=(wT L (i:=k+1) (by rw[l.out];omega)).2;refine⟨by rw[ew];exact T.st f _ _,?_⟩
     rw[rC,decide_eq_true (Nat.pos_of_ne_zero o),Bool.and_true];exact W.out
    case measure=>simp [intOf];omega
  ·obtain rfl:k=m:=by omega
   have D:Hid (decide (z.natAbs/2^k≠0/\z.natAbs/2^k%2=0)=false):=Lib.hid (decide_eq_false (fun hh=>absurd (r.1 hh.2) hlt))
   clear r d
   by_cases G:4194304 < e+k
   ·have e3:=vX (z:=z) (e:=e) (by rw[l.out];exact G)
    have J:N=0:=by rw[<-HN.out,e3]
    have H:E=0:=by rw[<-HE.out,e3]
    subst J;subst H;clear e3
    go_wp2_with fail
    refine(tn g D.out).mono ?_;rintro q w' ⟨rfl,rfl⟩;go_wp2
    exact bodyPost_ret (v:= .agg #[.bool false,.slice none 0 0,.int .i64 0]) (by simp[results,results132,go_sem,P,Q,R]) rfl
     ⟨false,none,0,0,rfl,Wn.zero.st3 b _ _ _ _ _ (by simp[no32]),Nat.zero_le _,st3 t.out (by omega) _ _ _⟩
   ·obtain⟨e1,e2,e3,Y,Z⟩:=iH (z:=z) (e:=e) h0 h1 (by rw[l.out];omega)
    have F:Hid (sg (decide (z < 0)) (z.natAbs/2^k)=N):=Lib.hid (by
     rw[<-HN.out];rw[l.out]at e2;rw[<-e2]
     by_cases hz:z < 0
     ·have:=e3.2 hz
      simp[sg,hz];omega
     ·have:¬(mk z e).1 < 0:=fun h=>hz (e3.1 h)
      simp[sg,hz];omega)
    have I:E=e+k:=by rw[<-HE.out,e1,l.out]
    subst I
    have bC:e+(k:Int)<=4194304:=by omega
    have t3:decide (4194304 < e+(k:Int))=false:=decide_eq_false G
    clear e1 e2 e3 Y Z G h0
    go_wp2_with fail
    refine(tn g D.out).mono ?_;rintro q w' ⟨rfl,rfl⟩;go_wp2
    exact bodyPost_ret (v:= .agg #[.bool s2,.slice A2 p c2,.int .i64 (e+k)]) (by simp[results,results132,go_sem,P,Q,R]) rfl
     ⟨s2,A2,p,c2,rfl,F.out▸O.st3 b _ _ _ _ _ (by simp[no32]),hp,st3 t.out (by omega) _ _ _⟩
