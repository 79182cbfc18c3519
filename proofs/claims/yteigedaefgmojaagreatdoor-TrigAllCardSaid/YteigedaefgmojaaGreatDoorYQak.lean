/-
 Contracts that the proof rests on.
-/
import Derived.Test.YteigedaefgmojaaGreatDoorYQai
import Derived.Test.YteigedaefgmojaaGreatDoorYQaj
namespace Go.Proofs.YteigedaefgmojaaGreatDoor
open Go.Proofs.Tryz
set_option maxHeartbeats 4000000
open Go.RowKit
set_option linter.unusedVariables false
theorem bO{w:World}{A:Option Addr}{n c a:Nat}(s:Bool)(h:Rd w A n c a):Calls prog 135 #[.bool s,.slice A n c] w (W1 w n (sg s a)):=by
 cases s
 ·go_enter func135,ntmps135
  go_wp2_with (first
   | (go_at_call 192;((with_reducible refine(eS (h.below (ab _ _))).mono ?_);rintro e w1 ⟨A1,n1,c1,rfl,h1,j,b⟩;obtain⟨g,hf⟩:=aQ b)))
  have X:Bx w1 w.heap.size false none 0 0:=(Bx.new w false none 0 0).below b
  exact bodyPost_ret (v:= .agg #[.bool false,.slice A1 n1 c1]) (by simp[results,results135,go_sem,X.cell0,X.cell1]) rfl ⟨false,A1,n1,c1,rfl,(h1.wn false).st X _ _,by omega,fW (bt (ab _ _) b) (Nat.le_refl _) _ _⟩
 ·rcases Nat.eq_zero_or_pos a with e | e
  ·subst e
   go_enter func135,ntmps135
   go_wp2_with (first
    | (go_at_call 192;((with_reducible refine(eS (h.below (ab _ _))).mono ?_);rintro e w1 ⟨A1,n1,c1,rfl,h1,j,b⟩;obtain⟨g,hf⟩:=aQ b;obtain rfl:n1=0:=by {have:=h1.pos;omega})))
   have X:Bx w1 w.heap.size false none 0 0:=(Bx.new w false none 0 0).below b
   exact bodyPost_ret (v:= .agg #[.bool false,.slice A1 0 c1]) (by simp[results,results135,go_sem,X.cell0,X.cell1]) rfl ⟨false,A1,0,c1,rfl,(h1.wn true).st X _ _,by omega,fW (bt (ab _ _) b) (Nat.le_refl _) _ _⟩
  ·go_enter func135,ntmps135
   go_wp2_with (first
    | (go_at_call 192;((with_reducible refine(eS (h.below (ab _ _))).mono ?_);rintro e w1 ⟨A1,n1,c1,rfl,h1,j,b⟩;obtain⟨g,hf⟩:=aQ b;have d:0 < n1:=by {have:=h1.pos;omega};have f:=h1.rd.big)))
   have X:Bx w1 w.heap.size false none 0 0:=(Bx.new w false none 0 0).below b
   have hd:decide (0 < n1)=true:=by simpa using d
   have i:=h1.wn true;rw[hd]at i;exact bodyPost_ret (v:= .agg #[.bool true,.slice A1 n1 c1]) (by simp[results,results135,go_sem,X.cell0,X.cell1]) rfl ⟨true,A1,n1,c1,rfl,i.st X _ _,by omega,fW (bt (ab _ _) b) (Nat.le_refl _) _ _⟩
theorem vg{w:World}{A:Option Addr}{n c:Nat}{s:Bool}{z r:Int}(h:Wr w s A n c z)(hr: -z=r):Calls prog 189 #[.agg #[.bool s,.slice A n c]] w (W1 w n r):=by
 obtain⟨a,h,e⟩:=h
 have d:Hid (sg (!s) a=r):=Lib.hid (by rw[<-hr,<-e];cases s <;> simp[sg])
 clear hr e
 go_enter func189,ntmps189
 go_wp2_with (first
  | (go_at_call 135;((with_reducible refine(bO _ (h.below (bJ _ _ _))).mono ?_);rintro e f ⟨s2,A2,n2,c2,rfl,h2,i,b⟩;obtain⟨g,hf⟩:=aQ b)))
 have X:Bx f (w.heap.size+1) false none 0 0:=(Bx.newAt _ (by simp) false none 0 0).below b
 exact bodyPost_ret (v:= .agg #[.bool s2,.slice A2 n2 c2]) (by simp[results,results189,go_sem,X.cell0,X.cell1]) rfl ⟨s2,A2,n2,c2,rfl,d.out▸h2.st X _ _,by omega,fW (bt (bJ _ _ _) b) (by simp) _ _⟩
theorem gv{w:World}{A:Option Addr}{n c:Nat}{s:Bool}{x r:Int}(h:Wr w s A n c x)(hr:ah x 0=r):Calls prog 161 #[.agg #[.bool s,.slice A n c]] w (PI w r):=by
 obtain⟨a,h,e1⟩:=h;subst e1
 rcases dl s a with⟨rfl,e⟩ | ⟨j,rfl,e⟩ | ⟨j,rfl,e⟩
 ·rw[e]at hr;subst hr;clear e
  go_enter func161,ntmps161
  go_wp2_with (first
   | (go_at_call 135;((with_reducible refine(bO _ (h.below (ab _ _))).mono ?_);rintro e i ⟨s2,A2,n2,c2,rfl,h2,g,b⟩;obtain rfl:n2=0:=by {have:=h2.1.pos;rw[bR]at this;omega})))
  go_ret
  exact⟨rfl,bt (ab _ _) (bt b (ab _ _))⟩
 ·rw[e]at hr;subst hr;clear e
  go_enter func161,ntmps161
  go_wp2_with (first
   | (go_at_call 135;((with_reducible refine(bO _ (h.below (ab _ _))).mono ?_);rintro e i ⟨s2,A2,n2,c2,rfl,h2,g,b⟩;have f:0 < n2:=by {have:=h2.1.pos;rw[bR]at this;omega};have d:=h2.1.rd.big;obtain rfl:s2=true:=by {rw [h2.2];simp[sg];omega})))
  go_ret
  exact⟨rfl,bt (ab _ _) (bt b (ab _ _))⟩
 ·rw[e]at hr;subst hr;clear e
  go_enter func161,ntmps161
  go_wp2_with (first
   | (go_at_call 135;((with_reducible refine(bO _ (h.below (ab _ _))).mono ?_);rintro e i ⟨s2,A2,n2,c2,rfl,h2,g,b⟩;have f:0 < n2:=by {have:=h2.1.pos;rw[bR]at this;omega};have d:=h2.1.rd.big;obtain rfl:s2=false:=by {rw [h2.2];simp[sg]})))
  go_ret
  exact⟨rfl,bt (ab _ _) (bt b (ab _ _))⟩
theorem vj (k:Nat)(w:World)(h:k < 9223372036854775808):Calls prog 72 #[.int .i64 (k:Int)] w (W1 w 2 (k:Int)):=by
 have hd:decide ((k:Int) < 0)=false:=by simp
 go_enter func72,ntmps72
 go_wp2_with (first
  | (go_at_call 135;((with_reducible refine(bO false (nP _ (by simp) (k:=k) (by omega) (by omega) (by omega))).mono ?_);rintro e b ⟨s2,A2,n2,c2,rfl,h2,d,a⟩;obtain⟨c,hf⟩:=aQ a)))
 have X:Bx b w.heap.size false none 0 0:=((Bx.new w false none 0 0).below (ab _ _)).below a
 exact bodyPost_ret (v:= .agg #[.bool s2,.slice A2 n2 c2]) (by simp[results,results72,go_sem,X.cell0,X.cell1]) rfl ⟨s2,A2,n2,c2,rfl,h2.st X _ _,by omega,fW (bt (bJ _ _ _) a) (Nat.le_refl _) _ _⟩
theorem vi (z:Int)(w:World)(h: -9223372036854775808<=z)(h0:z < 0):Calls prog 72 #[.int .i64 z] w (W1 w 2 z):=by
 have b:Hid (sg true z.natAbs=z):=Lib.hid (by simp[sg];omega)
 have d:Hid (((z.natAbs:Nat):Int)= -z):=Lib.hid (by omega)
 go_enter func72,ntmps72
 go_wp2_with (first
  | (go_at_call 135;((with_reducible refine(bO true (nP _ (by simp) (k:=z.natAbs) (by omega) (by omega) (by omega))).mono ?_);rintro e c ⟨s2,A2,n2,c2,rfl,h2,g,a⟩;obtain⟨f,hf⟩:=aQ a)))
 have X:Bx c w.heap.size false none 0 0:=((Bx.new w false none 0 0).below (ab _ _)).below a
 exact bodyPost_ret (v:= .agg #[.bool s2,.slice A2 n2 c2]) (by simp[results,results72,go_sem,X.cell0,X.cell1]) rfl ⟨s2,A2,n2,c2,rfl,b.out▸h2.st X _ _,by omega,fW (bt (bJ _ _ _) a) (Nat.le_refl _) _ _⟩
theorem fk (z:Int)(w:World)(h1: -9223372036854775808<=z)(h2:z<=9223372036854775807):Calls prog 72 #[.int .i64 z] w (W1 w 2 z):=by
 rcases Int.lt_or_le z 0 with h | h
 ·exact vi z w h1 h
 ·have:=vj z.natAbs w (by omega)
  rwa [show ((z.natAbs:Nat):Int)=z by omega]at this
theorem po{k:IntKind}{a b:Int}(h:a=b):Value.int k a= .int k b:=by rw[h]
def D1 (w:World)(K:Nat)(N E:Int)(e:Ending)(w':World):Prop:=∃s A n c,e= .returned (.agg #[.bool s,.slice A n c,.int .i64 E])/\Wn w' s A n c N/\n<=K/\Below w.heap.size w w'
theorem Wn.st3{w:World}{g:Nat}{cs:Array Value}{T:TypeId}{t:Bool}{B:Option Addr}{m d:Nat}{z:Int}(h:Wn w t B m d z)(X:Bo w g cs T)(s:Bool)(A:Option Addr)(n c:Nat)(e:Int)(hn:cs.all no32=true):
  Wn (((w.setCell ⟨g,0,none⟩ (.bool s)).setCell ⟨g,1,none⟩ (.slice A n c)).setCell ⟨g,2,none⟩ (.int .i64 e)) t B m d z:=by
 have step:∀(cs:Array Value) (i:Nat) (v:Value),cs.all no32=true->no32 v=true->(cs.setIfInBounds i v).all no32=true:=by
  intro cs i v h1 h2
  rw[Array.all_eq_true]at h1|-
  intro j a
  rw[Array.getElem_setIfInBounds]
  split
  ·exact h2
  ·exact h1 j (by simpa using a)
 exact((h.store X hn 0 _).store (X.set 0 _) (step _ _ _ hn rfl) 1 _).store ((X.set 0 _).set 1 _) (step _ _ _ (step _ _ _ hn rfl) rfl) 2 _
theorem st3{B:Nat}{a w:World}(h:Below B a w){b:Nat}(hp:B<=b)(u v t:Value):Below B a (((w.setCell ⟨b,0,none⟩ u).setCell ⟨b,1,none⟩ v).setCell ⟨b,2,none⟩ t):=et (et (et h hp 0 u) hp 1 v) hp 2 t
theorem qw{w:World}{A:Option Addr}{n c a:Nat}{t:Bool}(h:Nm w A n c a)(ht:decide (a≠0/\a%2=0)=t):Calls prog 187 #[.slice A n c] w fun e w'=>e= .returned (.bool t)/\w=w':=by
 have l:=h.pos;have i:=h.rd.big
 rcases Nat.eq_zero_or_pos n with e | k
 ·subst e
  obtain rfl:a=0:=by omega
  subst ht;clear h l
  go_enter func187,ntmps187
  go_wp2
  go_ret
  exact⟨rfl,rfl⟩
 ·have g:a≠0:=by omega
  obtain⟨b,h⟩:=h;have j:=h.cap;obtain⟨o,rfl,hcell⟩:=h.at k;have d:=hcell 0 k;clear hcell
  have hx:(ag a).getD 0 0=a%4294967296:=by rw[dq g];rfl
  rw[hx,Nat.add_zero]at d
  have f:Hid ((((a%4294967296:Nat):Int)%2==0)=t):=Lib.hid (by
   rw[<-ht,Bool.eq_iff_iff]
   simp[g]
   omega)
  have hlt:a%4294967296 < 4294967296:=Nat.mod_lt _ (by decide)
  clear ht hx g l h
  revert d f hlt
  generalize a%4294967296=x
  intro d f hlt
  go_enter func187,ntmps187
  go_wp2
  go_ret
  exact⟨oX f.out,rfl⟩
def Dy (w w1:World)(z:Int)(n k:Nat)(wr:World):Prop:=
 ∃s A p c,Bx wr w1.heap.size s A p c/\Wn wr s A p c (sg (decide (z < 0)) (z.natAbs/2^k))/\p<=n/\Bo wr (w.heap.size+1) #[.bool false,.slice none 0 0,.int .i64 0] 94/\w.heap.size+1 < w1.heap.size/\Below w.heap.size w wr
theorem vd{w:World}{s:Bool}{A:Option Addr}{n c:Nat}{z e:Int}(h:Wr w s A n c z)(hn:n<=100000)(h0:z≠0)(h1: -4194304<=e)(h2:e<=4194304){N E:Int}(HN:Hid ((mk z e).1=N))(HE:Hid ((mk z e).2=E)):
  Calls prog 132 #[.agg #[.bool s,.slice A n c],.int .i64 e] w (D1 w n N E):=by
 have L:z.natAbs≠0:=by omega
 have hv:v2 z.natAbs < 3200001:=by
  have e1:=ej L;have e2:=h.rd.bound;rw[mD]at e2;have e3:=(Nat.pow_lt_pow_iff_right (a:=2) (by decide)).1 (Nat.lt_of_le_of_lt e1 e2)
  omega
 obtain⟨m,hm⟩:∃m,v2 z.natAbs=m:=⟨_,rfl⟩;have l:=Lib.hid hm
 have bH:m < 3200001:=by omega
 have t1:decide (e < -4194304)=false:=by simp;omega
 have t2:decide (4194304 < e)=false:=by simp;omega
 clear hm hv
 go_enter func132,ntmps132
 go_wp2_with fail
 refine(bO s (h.rd.below (bJ _ _ _))).mono ?_;rintro q w1 ⟨s1,A1,n1,c1,rfl,x,k1,B⟩;rw[h.eq]at x
 have V:0 < n1:=by have:=x.1.pos;omega
 have hq:((n1:Int)==0)=false:=by
  have:(n1:Int)≠0:=by omega
  simpa using this
 have M:=x.1.rd.big
 have b:Bo (w1.alloc (.cells #[.bool s1,.slice A1 n1 c1] 43)) (w.heap.size+1) #[.bool false,.slice none 0 0,.int .i64 0] 94:=((Bo.newAt _ (by simp) _ _).below B).below (ab _ _)
 have hg:w.heap.size+1 < w1.heap.size:=((Bo.newAt _ (by simp) #[.bool false,.slice none 0 0,.int .i64 0] 94).below B).lt
 have S:Hid (Dy w w1 z n 0 (w1.alloc (.cells #[.bool s1,.slice A1 n1 c1] 43))):=Lib.hid ⟨s1,A1,n1,c1,Bx.new _ _ _ _ _,by
  have e0:sg (decide (z < 0)) (z.natAbs/2^0)=z:=by
   rw[Nat.pow_zero,Nat.div_one]
   by_cases hz:z < 0
   ·simp[sg,hz];omega
   ·simp[sg,hz];omega
  rw[e0];exact x.below (ab _ _),k1,b,hg,bt (bt (bJ _ _ _) B) (ab _ _)⟩
 clear b B;have j:=(Bx.new w1 s1 A1 n1 c1).cell1;go_wp2
 go_loopw [1,6] (fun q i wr=>∃k:Nat,k<=m/\i= .int .i64 k/\q= .int .i64 (e+k)/\Dy w w1 z n k wr) (fun _ i _=>m+1-(intOf i).toNat)
 case atStart=>exact ⟨0,Nat.zero_le _,rfl,po (by omega),S.out⟩
 case round=>
  clear S j x;obtain⟨k,hk,rfl,rfl,s2,A2,p,c2,f,O,hp,b,_,U⟩:=hrel;have t:=Lib.hid U;clear U
  have g:Nm wr A2 p c2 (z.natAbs/2^k):=by have:=O.1;rwa [bR]at this
  obtain⟨r,d⟩:=sw L (i:=k) (by rw[l.out];exact hk);rw[l.out]at r;have j:=f.cell0;have y:=f.cell1
  have P:wr.cell? ⟨w.heap.size+1,0,none⟩=some (.bool false):=b.cell 0
  have Q:wr.cell? ⟨w.heap.size+1,1,none⟩=some (.slice none 0 0):=b.cell 1
  have R:wr.cell? ⟨w.heap.size+1,2,none⟩=some (.int .i64 0):=b.cell 2
  have q0:=b.frozen 0;have q1:=b.frozen 1;have q2:=b.frozen 2
  have bD:(k:Int) < 4000000:=by omega
  have u:s2=decide (z < 0):=by
   rw[O.2,oZ]
   have:decide (0 < z.natAbs/2^k)=true:=decide_eq_true (Nat.pos_of_ne_zero d)
   rw[this,Bool.and_true]
  have W:=Lib.hid u;clear u
  by_cases hlt:k < m
  ·have D:Hid (decide (z.natAbs/2^k≠0/\z.natAbs/2^k%2=0)=true):=Lib.hid (decide_eq_true ⟨d,r.2 hlt⟩)
   have HV:=Lib.hid r;have X:=Lib.hid d;clear r d
   go_wp2_with fail
   refine(qw g D.out).mono ?_;rintro q w' ⟨rfl,rfl⟩;go_wp2
   go_region_with ((go_at_call 186;((with_reducible refine(oV 1 g.rd.drew (by omega)).mono ?_);rintro q w3 ⟨A3,n3,c3,rfl,T,k3,C⟩;clear j y P Q R q0 q1 q2;replace f:=f.drew.below C;replace b:=b.drew.below C;replace t:=Lib.hid (bt t.out.drew C);clear C;have j:=f.cell0;have y:=f.cell1;have bA:=f.frozen 0;have bB:=f.frozen 1)))
   all_goals
    go_wp2
    go_roundw
    case rel=>
     refine⟨k+1,by omega,by go_num,po (by omega),s2,A3,n3,c3,f.set _ _ _ _,?_,by omega,(b.far (by omega) 0 _).far (by omega) 1 _,hg,fW t.out (by omega) _ _⟩
     have e1:z.natAbs/2^k/2^(1:Int).toNat=z.natAbs/2^(k+1):=by rw[Nat.div_div_eq_div_mul,<-Nat.pow_add];rfl
     rw[e1]at T;have o:=(sw L (i:=k+1) (by rw[l.out];omega)).2;refine⟨by rw[bR];exact T.st f _ _,?_⟩
     rw[oZ,decide_eq_true (Nat.pos_of_ne_zero o),Bool.and_true];exact W.out
    case measure=>simp [intOf];omega
  ·obtain rfl:k=m:=by omega
   have D:Hid (decide (z.natAbs/2^k≠0/\z.natAbs/2^k%2=0)=false):=Lib.hid (decide_eq_false (fun hh=>absurd (r.1 hh.2) hlt))
   clear r d
   by_cases G:4194304 < e+k
   ·have e3:=rK (z:=z) (e:=e) (by rw[l.out];exact G)
    have J:N=0:=by rw[<-HN.out,e3]
    have H:E=0:=by rw[<-HE.out,e3]
    subst J;subst H;clear e3
    go_wp2_with fail
    refine(qw g D.out).mono ?_;rintro q w' ⟨rfl,rfl⟩;go_wp2
    exact bodyPost_ret (v:= .agg #[.bool false,.slice none 0 0,.int .i64 0]) (by simp[results,results132,go_sem,P,Q,R]) rfl
     ⟨false,none,0,0,rfl,Wn.zero.st3 b _ _ _ _ _ (by simp[no32]),Nat.zero_le _,st3 t.out (by omega) _ _ _⟩
   ·obtain⟨e1,e2,e3,Y,Z⟩:=gl (z:=z) (e:=e) h0 h1 (by rw[l.out];omega)
    have F:Hid (sg (decide (z < 0)) (z.natAbs/2^k)=N):=Lib.hid (by
     rw[<-HN.out];rw[l.out]at e2;rw[<-e2]
     by_cases hz:z < 0
     ·have:=e3.2 hz
      simp[sg,hz];omega
     ·have:¬(mk z e).1 < 0:=fun h=>hz (e3.1 h)
      simp[sg,hz];omega)
    have I:E=e+k:=by rw[<-HE.out,e1,l.out]
    subst I
    have bC:e+(k:Int)<=4194304:=by omega
    have t3:decide (4194304 < e+(k:Int))=false:=decide_eq_false G
    clear e1 e2 e3 Y Z G h0
    go_wp2_with fail
    refine(qw g D.out).mono ?_;rintro q w' ⟨rfl,rfl⟩;go_wp2
    exact bodyPost_ret (v:= .agg #[.bool s2,.slice A2 p c2,.int .i64 (e+k)]) (by simp[results,results132,go_sem,P,Q,R]) rfl
     ⟨s2,A2,p,c2,rfl,F.out▸O.st3 b _ _ _ _ _ (by simp[no32]),hp,st3 t.out (by omega) _ _ _⟩
theorem C0{k:IntKind}{a b:Int}{s t:Bool}(h:a=b)(e:s=t):Ending.returned (.tuple #[.int k a,.bool s])= .returned (.tuple #[.int k b,.bool t]):=by rw[h,e]
theorem zy{w:World}{A:Option Addr}{n c a:Nat}(s:Bool)(h:Rd w A n c a)(ha:18446744073709551616<=a):Calls prog 74 #[.agg #[.bool s,.slice A n c]] w (F9 w 0 false):=by
 have f:=Lib.hid ha;clear ha
 go_enter func74,ntmps74
 go_wp2_with (first
  | (go_at_call 135;((with_reducible refine(bO s (h.below (ab _ _))).mono ?_);rintro e k ⟨s2,A2,n2,c2,rfl,h2,i,d⟩;have b:=h2.1.rd.big;have g:2 < n2:=by {have hb:=h2.1.rd.bound;rw[bR]at hb;rcases Nat.lt_or_ge 2 n2 with q | q;exact q;exact absurd (Nat.lt_of_lt_of_le hb (Nat.pow_le_pow_right (n:=4294967296) (j:=2) (by decide) q)) (by have:=f.out;omega)})))
 go_ret2
 exact⟨rfl,bt (ab _ _) (bt d (ab _ _))⟩
theorem qz{w:World}{A:Option Addr}{n c a:Nat}(s:Bool)(h:Rd w A n c a)(ha:a < 18446744073709551616){r:Int}{t:Bool}(ht:fits (sg s a)=t)(hr:(if t=true then sg s a else 0)=r):Calls prog 74 #[.agg #[.bool s,.slice A n c]] w (F9 w r t):=by
 have q:=Lib.hid ha;have F:=Lib.hid ht;have E:=Lib.hid hr;clear ha ht hr
 go_enter func74,ntmps74
 go_wp2_with fail
 refine(bO s (h.below (ab _ _))).mono ?_;rintro e B ⟨s2,A2,n2,c2,rfl,h2,Q,C⟩
 have L:n2<=2:=by
  have hl:=h2.1.len;rw[bR]at hl
  have:(ag a).length<=2:=az (by have:=q.out;simpa using this)
  omega
 obtain⟨⟨b,hs⟩,e2⟩:=h2;rw[bR]at hs;have p:=Lib.hid (av a)
 revert hs p
 generalize ag a=xs
 intro hs p
 have m:=Lib.hid (bt (ab _ _) (bt C (ab B (.cells #[.bool s2,.slice A2 n2 c2] 43))));have hs:=hs.below (ab B (.cells #[.bool s2,.slice A2 n2 c2] 43));have X:=Bx.new B s2 A2 n2 c2;have D:=Lib.hid e2;clear C e2;have R:=X.cell0;have S:=X.cell1;go_wp2
 go_loop [5,6] (fun u i=>∃k:Nat,k<=n2/\i= .int .i64 ((k:Int)-1)/\u= .int .u64 (af (xs.drop k):Nat)) (fun _ i=>(intOf i+1).toNat)
 case atStart=>exact ⟨n2,Nat.le_refl _,rfl,by rw[List.drop_of_length_le (by rw[hs.len];omega)];rfl⟩
 case round=>
  obtain⟨k,P,rfl,rfl⟩:=hrel
  rcases Nat.eq_zero_or_pos k with e | J
  ·subst e;rw[List.drop_zero,p.out]
   have c0:(((0:Nat):Int)-1)= -1:=rfl
   rw[c0];obtain⟨z,hz⟩:∃z:Int,(a:Int)=z:=⟨_,rfl⟩
   have M:0<=z:=by omega
   have y:z<=18446744073709551615:=by have:=q.out;omega
   rw[hz];have G:=Lib.hid hz;clear hz hs q y
   have hf:fits (sg s a)=t:=F.out
   have hr:(if t=true then sg s a else 0)=r:=E.out
   have g:s2=decide (sg s a < 0):=D.out
   have hz:(a:Int)=z:=G.out
   clear F E D G p
   cases s2
   ·have d:sg s a=z:=by
     cases s
     ·exact hz
     ·have:¬sg true a < 0:=by simpa using g
      simp[sg]at this|-
      omega
    rw[d]at hf hr
    by_cases I:z < 9223372036854775808
    ·have f:z<=9223372036854775807:=by omega
     obtain rfl:t=true:=by rw[<-hf];unfold fits;exact decide_eq_true (by omega)
     obtain rfl:z=r:=by simpa using hr
     clear hf hr g d hz;go_wp2
     go_ret2
     exact⟨rfl,m.out⟩
    ·have f:9223372036854775808<=z:=by omega
     obtain rfl:t=false:=by rw[<-hf];unfold fits;exact decide_eq_false (by omega)
     obtain rfl:(0:Int)=r:=by simpa using hr
     clear hf hr g d hz;go_wp2
     go_ret2
     exact⟨rfl,m.out⟩
   ·have d:sg s a= -z/\0 < z:=by
     have:sg s a < 0:=by simpa using g.symm
     cases s
     ·simp[sg]at this;omega
     ·simp[sg]at this|-;omega
    obtain⟨d,O⟩:=d;rw[d]at hf hr
    by_cases I:z<=9223372036854775808
    ·obtain rfl:t=true:=by rw[<-hf];unfold fits;exact decide_eq_true (by omega)
     obtain rfl: -z=r:=by simpa using hr
     have hq:(z==0)=false:=by
      have:z≠0:=by omega
      simpa using this
     have N:0<=z-1:=by omega
     have f:z-1<=9223372036854775807:=by omega
     clear hf hr g d hz;go_wp2
     go_ret2
     exact⟨C0 (by omega) rfl,m.out⟩
    ·have f:9223372036854775808 < z:=by omega
     obtain rfl:t=false:=by rw[<-hf];unfold fits;exact decide_eq_false (by omega)
     obtain rfl:(0:Int)=r:=by simpa using hr
     clear hf hr g d hz;go_wp2
     go_ret2
     exact⟨rfl,m.out⟩
  ·obtain⟨o,rfl,hcell⟩:=hs.at (by omega);have l:=hcell (k-1) (by omega);have hx:=hs.lim.getD (k-1)
   have v:Hid (af (xs.drop (k-1))=xs.getD (k-1) 0+4294967296*af (xs.drop k)):=Lib.hid (by rw[aO (by rw[hs.len];omega),show k-1+1=k by omega])
   have H:af (xs.drop k) < 4294967296:=by
    have:=bi (hs.lim.drop k)
    rw[List.length_drop,hs.len]at this;exact Nat.lt_of_lt_of_le this (Nat.pow_le_pow_right (n:=4294967296) (j:=1) (by decide) (by omega))
   have hi:((k:Int)-1).toNat=k-1:=by omega
   clear hcell
   revert l hx v H
   generalize xs.getD (k-1) 0=x;generalize af (xs.drop k)=u
   intro l hx v H
   go_wp2
   go_round
   case rel=>exact ⟨k-1,by omega,ji (by omega),ji (by have:=v.out;omega)⟩
   case measure=>simp [intOf];omega
theorem Iu{w:World}{A:Option Addr}{n c:Nat}{s:Bool}{z r:Int}{t:Bool}(h:Wr w s A n c z)(ht:fits z=t)(hr:(if t=true then z else 0)=r):Calls prog 74 #[.agg #[.bool s,.slice A n c]] w (F9 w r t):=by
 obtain⟨a,h,e⟩:=h;subst e
 rcases Nat.lt_or_ge a 18446744073709551616 with b | b
 ·exact qz s h b ht hr
 ·have hf:fits (sg s a)=false:=by
   unfold fits
   apply decide_eq_false
   cases s <;> simp[sg] <;> omega
  subst ht;subst hr;rw[hf];exact zy s h b
